import PyProof.Rows.All
import Wide.All
import OpenK.AllK
import Wide.FinOn
import PyProof.EqAt
import PyProof.EqKinds
import PyProof.TupleCall
import PySem.SetTable
import Wide.Seal
import Lean
import PySem.Challenge.RW_vesselhall_k72_gone_and_there_along_walk
set_option Elab.async false
set_option linter.all false
set_option maxRecDepth 100000
set_option maxHeartbeats 4000000
-- CHANGE: your row's module here, as the last of these rows
set_option Elab.async false
set_option linter.all false
set_option maxRecDepth 100000
namespace L2
open PySem PySem.Spec PyProof.Rows

/-- a key: an int or a str -/
abbrev Key := Sum Int Str
def keyIs : Key → Value → Bool
  | .inl k, v => Value.isInt k v
  | .inr x, v => Value.isStrOf x v
def keyH (w : World) : Key → Int
  | .inl k => hashInt k
  | .inr x => hashStr w x
theorem keyIs_shape : ∀ {k : Key} {v : Value}, keyIs k v = true → (∃ i t, k = Sum.inl i ∧ v = Value.int i t) ∨ (∃ x t, k = Sum.inr x ∧ v = Value.str x t)
  | .inl i, v, h => by
    obtain ⟨t, e⟩ := Value.isInt_shape (k := i) (v := v) h
    exact .inl ⟨i, t, rfl, e⟩
  | .inr x, v, h => by
    obtain ⟨t, e⟩ := Value.isStrOf_shape (x := x) (v := v) h
    exact .inr ⟨x, t, rfl, e⟩
theorem key_ll (a b : Int) : decide ((Sum.inl a : Key) = Sum.inl b) = (a == b) := by
  by_cases e : a = b
  · subst e; simp
  · have h : ¬ (Sum.inl a : Key) = Sum.inl b := fun q => e (Sum.inl.inj q)
    rw [decide_eq_false h]
    exact (beq_eq_false_iff_ne.mpr e).symm
theorem key_rr (a b : Str) : decide ((Sum.inr a : Key) = Sum.inr b) = decide (a = b) := by
  by_cases e : a = b
  · subst e; simp
  · have h : ¬ (Sum.inr a : Key) = Sum.inr b := fun q => e (Sum.inr.inj q)
    rw [decide_eq_false h, decide_eq_false e]
theorem key_lr (a : Int) (b : Str) : decide ((Sum.inl a : Key) = Sum.inr b) = false := decide_eq_false (fun q => nomatch q)
theorem key_rl (a : Str) (b : Int) : decide ((Sum.inr a : Key) = Sum.inl b) = false := decide_eq_false (fun q => nomatch q)

def mixKind (prog : Program) (w : World) : PySem.KeyKind prog w Key where
  is := keyIs
  hash := keyH w
  inj := fun v a b ha hb => by
    rcases keyIs_shape ha with ⟨i, t, rfl, rfl⟩ | ⟨x, t, rfl, rfl⟩
    · rcases keyIs_shape hb with ⟨j, u, rfl, e⟩ | ⟨y, u, rfl, e⟩
      · injection e with e1 _; rw [e1]
      · exact nomatch e
    · rcases keyIs_shape hb with ⟨j, u, rfl, e⟩ | ⟨y, u, rfl, e⟩
      · exact nomatch e
      · injection e with e1 _; rw [e1]
  byValue := fun k v h => by
    rcases keyIs_shape h with ⟨i, t, rfl, rfl⟩ | ⟨x, t, rfl, rfl⟩ <;> rfl
  pyHash := fun hv h => by
    rcases keyIs_shape hv with ⟨i, t, rfl, rfl⟩ | ⟨x, t, rfl, rfl⟩
    · exact wpAny_pyHash_int h
    · exact wpAny_pyHash_str h
  eqBool := fun hu hv h => by
    rcases keyIs_shape hu with ⟨i, t, rfl, rfl⟩ | ⟨x, t, rfl, rfl⟩
    · rcases keyIs_shape hv with ⟨j, u, rfl, rfl⟩ | ⟨y, u, rfl, rfl⟩
      · rw [key_ll] at h; exact wpAny_eqBool_int h
      · rw [key_lr] at h; exact SeqAt.EqAt.int_str i t y u _ _ _ _ h
    · rcases keyIs_shape hv with ⟨j, u, rfl, rfl⟩ | ⟨y, u, rfl, rfl⟩
      · rw [key_rl] at h; exact SeqAt.EqAt.str_int x t j u _ _ _ _ h
      · rw [key_rr] at h; exact wpAny_eqBool_str h
  «strs» := fun k x t v h => by
    rcases keyIs_shape h with ⟨i, u, rfl, e⟩ | ⟨y, u, rfl, e⟩
    · exact nomatch e
    · injection e with e1 _
      subst e1
      cases v <;> rfl

end L2

namespace L2
open PySem PySem.Spec PyProof.Rows

/-- a value, without the heap -/
inductive V where
  | non | bl (b : Bool) | int (i : Int) | str (x : Str) | byt (b : Array UInt8) | flt (b : UInt64) | ref (a : Addr) | ty (n : String)
  deriving DecidableEq

def RelV : V → Value → Prop
  | .non, u => u = Value.none
  | .bl b, u => u = Value.bool b
  | .int i, u => ∃ t, u = Value.int i t
  | .str x, u => ∃ t, u = Value.str x t
  | .byt b, u => ∃ t, u = Value.bytes b t
  | .flt b, u => ∃ t, u = Value.float b t
  | .ref a, u => u = Value.ref a
  | .ty n, u => u = Value.type n

abbrev Vals : List V → List Value → Prop := Paired RelV
theorem Vals.length {xs : List V} {us : List Value} (r : Vals xs us) : xs.length = us.length := Paired.length r
theorem Vals.get : ∀ {xs : List V} {us : List Value} {i : Nat} {x : V}, Vals xs us → xs[i]? = some x → ∃ u, us[i]? = some u ∧ RelV x u
  | _, _, _, _, .nil, e => by simp at e
  | _, _, 0, _, .cons r _, e => by simp at e; subst e; exact ⟨_, rfl, r⟩
  | _, _, i + 1, x, .cons _ t, e => by
    obtain ⟨u, h1, h2⟩ := Vals.get (i := i) (x := x) t (by simpa using e)
    exact ⟨u, by simpa using h1, h2⟩
theorem Vals.set {x : V} {u : Value} (r : RelV x u) : ∀ {xs : List V} {us : List Value} (i : Nat), Vals xs us → Vals (xs.set i x) (us.set i u)
  | _, _, _, .nil => .nil
  | _, _, 0, .cons _ t => .cons r t
  | _, _, i + 1, .cons q t => .cons q (Vals.set r i t)
theorem Vals.append : ∀ {xs ys : List V} {us ws : List Value}, Vals xs us → Vals ys ws → Vals (xs ++ ys) (us ++ ws)
  | _, _, _, _, .nil, s => s
  | _, _, _, _, .cons r t, s => .cons r (Vals.append t s)
theorem Vals.take : ∀ {xs : List V} {us : List Value} (n : Nat), Vals xs us → Vals (xs.take n) (us.take n)
  | _, _, 0, _ => .nil
  | _, _, _ + 1, .nil => .nil
  | _, _, n + 1, .cons r t => .cons r (Vals.take n t)
theorem Vals.drop : ∀ {xs : List V} {us : List Value} (n : Nat), Vals xs us → Vals (xs.drop n) (us.drop n)
  | _, _, 0, r => r
  | _, _, _ + 1, .nil => .nil
  | _, _, n + 1, .cons _ t => Vals.drop n t
def RelO : Option V → Option Value → Prop
  | some v, some u => RelV v u
  | none, none => True
  | _, _ => False
def KV {κ : Type} : List (κ × V) → List (κ × Value) → Prop := Paired fun (p : κ × V) (q : κ × Value) => p.1 = q.1 ∧ RelV p.2 q.2

/-- a key of a dict (00_mix): an int or a text -/
def kV : Key → V
  | .inl i => .int i
  | .inr x => .str x

/-- what stands at a tracked address -/
inductive HO where
  /-- a list -/
  | lst (xs : List V)
  /-- a tuple (never changes) -/
  | tup (xs : List V)
  /-- a dict whose keys are ints and texts; one whose keys are tuples of ints and texts (the empty one is both) -/
  | dK (kvs : List (Key × V)) | dT (kvs : List (List Key × V))
  /-- a set of ints: its members, its size -/
  | set (S : Int → Bool) (n : Nat)
  /-- an instance of the class at C, its dict at dx, its attributes -/
  | ins (C dx : Addr) (fs : List (Str × V))
  /-- the dict of the instance at x -/
  | own (x : Addr)
  /-- the dict of an exception -/
  | xd (fs : List (Str × V))
  /-- a bound method, f of x -/
  | met (f x : Addr)
  /-- a range object lo, lo + 1, .. below hi -/
  | rng (lo hi : Int)
  /-- a thing that is known to the object (the script; a dict while a loop walks it): read, never written while it is so -/
  | frz (o : Obj) (u : HO)
  /-- a code object's table -/
  | tbl (ps : Array Value)
  /-- any other thing, by what is true of its one object (a def of one's own: SetO a S n := HO.ext fun h => ..) -/
  | ext (φ : Heap → Prop)

abbrev Hp := Addr → Option HO
def upd (H : Hp) (a : Addr) (o : HO) : Hp := fun b => if b = a then some o else H b
theorem upd_same {H : Hp} {a : Addr} {o : HO} : upd H a o a = some o := by unfold upd; rw [if_pos rfl]
theorem upd_ne {H : Hp} {a b : Addr} {o : HO} (h : b ≠ a) : upd H a o b = H b := by unfold upd; rw [if_neg h]
/-- two objects of different content stand apart -/
theorem ne_of {H : Hp} {a b : Addr} {o u : HO} (h : H a = some o) (h' : H b = some u) (d : o ≠ u) : a ≠ b := by
  intro e; subst e; rw [h] at h'; exact d (Option.some.inj h')
theorem ne_of_none {H : Hp} {a b : Addr} {o : HO} (h : H a = some o) (h' : H b = none) : a ≠ b := by
  intro e; subst e; rw [h] at h'; cases h'

section
variable (P : Program) (w : World)
def ObjOk (H : Hp) (h : Heap) (a : Addr) : HO → Prop
  | .lst xs => xs.length ≤ sizeLine ∧ ∃ (its : List Value) (n : Nat), Vals xs its ∧ h.get? a = some { cls := .type "list", data := .seq its.toArray n }
  | .tup xs => xs.length ≤ sizeLine ∧ ∃ its : List Value, Vals xs its ∧ IsTup h a its.toArray
  | .dK kvs => kvs.length ≤ sizeLine ∧ (a == sysModules) = false ∧ ∃ vs, KV kvs vs ∧ h.DictOf (mixKind P w) a vs
  | .dT kvs => kvs.length ≤ sizeLine ∧ (a == sysModules) = false ∧ ∃ xs : List (List Key × Addr × Value),
      Paired (fun (p : List Key × V) (q : List Key × Addr × Value) => p.1 = q.1 ∧ H q.2.1 = some (.tup (p.1.map kV)) ∧ RelV p.2 q.2.2) kvs xs ∧
      ∃ o es ep, h.get? a = some o ∧ o.ExactDict ∧ o.data = .dict es ep ∧ es.toList = xs.map (entryOfKey (tupleKind (mixKind P w))) ∧ (xs.map (·.1)).Nodup
  | .set S n => h.SetOf (intKind P w) a S n
  | .ins C dx fs => H dx = some (.own a) ∧ fs.length ≤ 1000 ∧ dx ≠ a ∧ h.get? a = some (PySem.W.instObj C dx) ∧
      ∃ mA, h.Ns1 dx mA ∧ (∀ f, RelO (fs.lookup f) (mA f)) ∧ PySem.Within mA (fs.map (·.1))
  | .own _ => ∃ o, h.get? a = some o
  | .xd fs => ∃ mA, h.Ns1 a mA ∧ ∀ f, RelO (fs.lookup f) (mA f)
  | .rng lo hi => ∃ t u v, h.get? a = some { cls := .type "range", data := .fields #[.int lo t, .int hi u, .int 1 v] }
  | .frz o u => h.get? a = some o ∧ ObjOk H h a u
  | .tbl ps => h.get? a = some { cls := .none, data := .fields ps }
  | .met f x => h.get? a = some (PySem.W.methodObj (.ref f) (.ref x))
  | .ext φ => φ h ∧ (∃ o, h.get? a = some o) ∧ ∀ h1 h2 : Heap, φ h1 → (∀ o, h1.get? a = some o → h2.get? a = some o) → φ h2
/-- the abstract heap is held -/
def HOk (H : Hp) (h : Heap) : Prop := ∀ a o, H a = some o → ObjOk P w H h a o
end

section
variable {P : Program} {w : World} {H H' : Hp} {h h' : Heap} {a : Addr} {o : HO}
theorem ObjOk.lt (x : ObjOk P w H h a o) : a < h.objs.size := by
  cases o with
  | lst xs => obtain ⟨_, _, _, _, e⟩ := x; exact Heap.lt_size e
  | tup xs => obtain ⟨_, _, _, p⟩ := x; exact p.lt
  | dK kvs => obtain ⟨_, _, _, _, o, _, _, e, _⟩ := x; exact Heap.lt_size e
  | dT kvs => obtain ⟨_, _, _, _, o, _, _, e, _⟩ := x; exact Heap.lt_size e
  | set S n => obtain ⟨o, _, _, _, e, _⟩ := x; exact Heap.lt_size e
  | ins C dx fs => obtain ⟨_, _, _, e, _⟩ := x; exact Heap.lt_size e
  | own y => obtain ⟨_, e⟩ := x; exact Heap.lt_size e
  | xd fs => obtain ⟨_, ⟨_, _, _, e, _⟩, _⟩ := x; exact Heap.lt_size e
  | rng lo hi => obtain ⟨_, _, _, e⟩ := x; exact Heap.lt_size e
  | frz ob u => obtain ⟨e, _⟩ := x; exact Heap.lt_size e
  | tbl ps => exact Heap.lt_size (show h.get? a = some _ from x)
  | met f y => exact Heap.lt_size (show h.get? a = some _ from x)
  | ext φ => obtain ⟨_, ⟨_, e⟩, _⟩ := x; exact Heap.lt_size e
theorem Paired.mapP {α β : Type} {F G : α → β → Prop} : ∀ {l₁ : List α} {l₂ : List β}, Paired F l₁ l₂ → (∀ a b, F a b → G a b) → Paired G l₁ l₂
  | _, _, .nil, _ => .nil
  | _, _, .cons r t, f => .cons (f _ _ r) (Paired.mapP t f)
/-- what an object's description leans on: its own object, its own dict, the tuples -/
theorem ObjOk.stay (x : ObjOk P w H h a o) (k : ∀ b u, (b = a ∨ H b = some (.own a)) → h.get? b = some u → h'.get? b = some u)
    (ho : ∀ b, H b = some (.own a) → H' b = some (.own a)) (ht : ∀ b xs, H b = some (.tup xs) → H' b = some (.tup xs)) : ObjOk P w H' h' a o := by
  induction o with
  | lst xs => obtain ⟨z, its, n, r, e⟩ := x; exact ⟨z, its, n, r, k _ _ (.inl rfl) e⟩
  | tup xs => obtain ⟨z, its, r, ob, e, c⟩ := x; exact ⟨z, its, r, ob, k _ _ (.inl rfl) e, c⟩
  | dK kvs => obtain ⟨z, y, vs, r, ob, es, ep, e, c⟩ := x; exact ⟨z, y, vs, r, ob, es, ep, k _ _ (.inl rfl) e, c⟩
  | dT kvs =>
    obtain ⟨z, y, xs, r, ob, es, ep, e, c⟩ := x
    exact ⟨z, y, xs, Paired.mapP r fun p q z => ⟨z.1, ht _ _ z.2.1, z.2.2⟩, ob, es, ep, k _ _ (.inl rfl) e, c⟩
  | set S n => obtain ⟨ob, es, ep, t, e, c⟩ := x; exact ⟨ob, es, ep, t, k _ _ (.inl rfl) e, c⟩
  | ins C dx fs =>
    obtain ⟨d, z, ne, e, mA, ⟨od, es, ep, e2, c⟩, r⟩ := x
    exact ⟨ho _ d, z, ne, k _ _ (.inl rfl) e, mA, ⟨od, es, ep, k _ _ (.inr d) e2, c⟩, r⟩
  | own y => obtain ⟨ob, e⟩ := x; exact ⟨ob, k _ _ (.inl rfl) e⟩
  | xd fs => obtain ⟨mA, ⟨od, es, ep, e, c⟩, r⟩ := x; exact ⟨mA, ⟨od, es, ep, k _ _ (.inl rfl) e, c⟩, r⟩
  | rng lo hi => obtain ⟨t, u, v, e⟩ := x; exact ⟨t, u, v, k _ _ (.inl rfl) e⟩
  | frz ob u ih => obtain ⟨e, q⟩ := x; exact ⟨k _ _ (.inl rfl) e, ih q⟩
  | tbl ps =>
    have e : h.get? a = some { cls := .none, data := .fields ps } := x
    show h'.get? a = some { cls := .none, data := .fields ps }
    exact k a _ (.inl rfl) e
  | met f y =>
    have e : h.get? a = some (PySem.W.methodObj (.ref f) (.ref y)) := x
    show h'.get? a = some (PySem.W.methodObj (.ref f) (.ref y))
    exact k a _ (.inl rfl) e
  | ext φ => obtain ⟨p, ⟨o, e⟩, st⟩ := x; exact ⟨st _ _ p fun o q => k _ _ (.inl rfl) q, ⟨o, k _ _ (.inl rfl) e⟩, st⟩
theorem HOk.lt (x : HOk P w H h) (e : H a = some o) : a < h.objs.size := (x a o e).lt
theorem HOk.fresh (x : HOk P w H h) (e : h.objs.size ≤ a) : H a = none := by
  cases q : H a with
  | none => rfl
  | some u => exact absurd (Nat.lt_of_lt_of_le (x.lt q) e) (Nat.lt_irrefl _)
/-- every object of the heap is kept -/
theorem HOk.kept (x : HOk P w H h) (k : ∀ b u, h.get? b = some u → h'.get? b = some u) : HOk P w H h' := fun a o e =>
  (x a o e).stay (fun b u _ q => k b u q) (fun _ q => q) fun _ _ q => q
/-- a new object is laid and tracked -/
theorem HOk.laid (x : HOk P w H h) (k : ∀ b u, h.get? b = some u → h'.get? b = some u) (hp : h.objs.size ≤ a) (new : ObjOk P w (upd H a o) h' a o) : HOk P w (upd H a o) h' := fun b u e => by
  have hn := x.fresh hp
  by_cases hb : b = a
  · subst hb; rw [upd_same] at e; cases e; exact new
  · rw [upd_ne hb] at e
    exact (x b u e).stay (fun c v _ q => k c v q) (fun c q => by rw [upd_ne (ne_of_none q hn)]; exact q) fun c xs q => by rw [upd_ne (ne_of_none q hn)]; exact q
end

/-- what may be read as u: it is u, or a known u -/
def Rd (H : Hp) (a : Addr) (u : HO) : Prop := H a = some u ∨ ∃ o, H a = some (.frz o u)
theorem Rd.of {H : Hp} {a : Addr} {u : HO} (h : H a = some u) : Rd H a u := .inl h
theorem Rd.ok {P : Program} {w : World} {H : Hp} {h : Heap} {a : Addr} {u : HO} (r : Rd H a u) (x : HOk P w H h) : ObjOk P w H h a u := by
  rcases r with r | ⟨o, r⟩
  · exact x a u r
  · obtain ⟨_, q⟩ := x a _ r
    exact q
/-- what may be written -/
def Mut : Option HO → Prop
  | some (.lst _) => True
  | some (.dK _) => True
  | some (.dT _) => True
  | some (.set _ _) => True
  | some (.ins _ _ _) => True
  | some (.ext _) => True
  | _ => False
section
variable {P : Program} {w : World} {H : Hp} {h h' : Heap} {x e : Addr} {o' : HO}
/-- the object at e is changed: x itself, or the dict of the instance x -/
theorem HOk.write (ok : HOk P w H h) (mu : Mut (H x)) (he : e = x ∨ H e = some (.own x)) (k : ∀ b u, b ≠ e → h.get? b = some u → h'.get? b = some u) (heo : ∃ u, h'.get? e = some u)
    (new : ObjOk P w (upd H x o') h' x o') : HOk P w (upd H x o') h' := fun b u q => by
  have nown : ∀ c y, H c = some (.own y) → c ≠ x := fun c y r z => by subst z; rw [r] at mu; exact mu
  have ntup : ∀ c xs, H c = some (.tup xs) → c ≠ x := fun c xs r z => by subst z; rw [r] at mu; exact mu
  by_cases hb : b = x
  · subst hb; rw [upd_same] at q; cases q; exact new
  · rw [upd_ne hb] at q
    by_cases hbe : b = e
    · have q' : H b = some (.own x) := by
        rcases he with z | z
        · exact absurd (hbe.trans z) hb
        · rw [hbe]; exact z
      rw [q] at q'; cases q'
      obtain ⟨v, hv⟩ := heo
      exact ⟨v, by rw [hbe]; exact hv⟩
    · refine (ok b u q).stay (fun c v hc r => k c v ?_ r) (fun c r => by rw [upd_ne (nown c b r)]; exact r) fun c xs r => by rw [upd_ne (ntup c xs r)]; exact r
      rcases hc with rfl | hc
      · exact hbe
      · rintro rfl
        rcases he with z | z
        · exact nown c b hc z
        · rw [hc] at z; cases z; exact hb rfl
end

structure Un (fs ex : List Addr) (H H' : Hp) (h h' : Heap) : Prop where
  keep : ∀ b o, h.get? b = some o → H b = none → b ∉ fs → b ∉ ex → h'.get? b = some o
  slot : ∀ b o, h.get? b = some o → H b = none → b ∈ fs → b ∉ ex → ∃ sl, h'.get? b = some { o with slots := sl }
  free : ∀ b o, h.get? b = some o → H b = none → b ∉ ex → H' b = none
  there : ∀ b o, h.get? b = some o → b ∉ ex → ∃ o', h'.get? b = some o'
  tups : ∀ b xs, H b = some (.tup xs) → H' b = some (.tup xs)
  frzs : ∀ b o u, H b = some (.frz o u) → H' b = some (.frz o u)
  tbls : ∀ b ps, H b = some (.tbl ps) → ∃ more, H' b = some (.tbl (ps ++ more))
section
variable {fs fs' ex ex' : List Addr} {H H1 H2 : Hp} {h h1 h2 h' : Heap} {a x e : Addr} {o : HO}
theorem Un.any (u : Un fs ex H H1 h h1) {b : Addr} {ob : Obj} (q : h.get? b = some ob) (n : H b = none) (hx : b ∉ ex) : ∃ sl, h1.get? b = some { ob with slots := sl } := by
  by_cases hb : b ∈ fs
  · exact u.slot b ob q n hb hx
  · exact ⟨ob.slots, u.keep b ob q n hb hx⟩
theorem Un.trans (a : Un fs ex H H1 h h1) (b : Un fs ex H1 H2 h1 h2) : Un fs ex H H2 h h2 where
  keep := fun c ob q n hc hx => b.keep c ob (a.keep c ob q n hc hx) (a.free c ob q n hx) hc hx
  slot := fun c ob q n hc hx => by
    obtain ⟨sl, e1⟩ := a.slot c ob q n hc hx
    obtain ⟨sl', e2⟩ := b.slot c _ e1 (a.free c ob q n hx) hc hx
    exact ⟨sl', e2⟩
  free := fun c ob q n hx => by
    obtain ⟨o', e1⟩ := a.there c ob q hx
    exact b.free c o' e1 (a.free c ob q n hx) hx
  there := fun c ob q hx => by
    obtain ⟨o', e1⟩ := a.there c ob q hx
    exact b.there c o' e1 hx
  tups := fun c xs q => b.tups c xs (a.tups c xs q)
  frzs := fun c ob xs q => b.frzs c ob xs (a.frzs c ob xs q)
  tbls := fun c ps q => by
    obtain ⟨m1, e1⟩ := a.tbls c ps q
    obtain ⟨m2, e2⟩ := b.tbls c _ e1
    exact ⟨m1 ++ m2, by rw [e2, Array.append_assoc]⟩
theorem Un.kept (k : ∀ b u, h.get? b = some u → h'.get? b = some u) : Un fs ex H H h h' :=
  ⟨fun b ob q _ _ _ => k b ob q, fun b ob q _ _ _ => ⟨ob.slots, k b ob q⟩, fun _ _ _ n _ => n, fun b ob q _ => ⟨ob, k b ob q⟩, fun _ _ q => q, fun _ _ _ q => q, fun _ ps q => ⟨#[], by rw [q]; simp⟩⟩
theorem Un.refl : Un fs ex H H h h := Un.kept fun _ _ q => q
theorem Un.laid (k : ∀ b u, h.get? b = some u → h'.get? b = some u) (hp : h.objs.size ≤ a) (hn : H a = none) : Un fs ex H (upd H a o) h h' where
  keep := fun b u q _ _ _ => k b u q
  slot := fun b u q _ _ _ => ⟨u.slots, k b u q⟩
  free := fun b u q n _ => by rw [upd_ne (Nat.ne_of_lt (Nat.lt_of_lt_of_le (Heap.lt_size q) hp))]; exact n
  there := fun b u q _ => ⟨u, k b u q⟩
  tups := fun b xs q => by rw [upd_ne (ne_of_none q hn)]; exact q
  frzs := fun b u xs q => by rw [upd_ne (ne_of_none q hn)]; exact q
  tbls := fun b ps q => ⟨#[], by rw [upd_ne (ne_of_none q hn), q]; simp⟩
theorem Un.write (mu : Mut (H x)) (he : e = x ∨ H e = some (.own x)) (k : ∀ b u, b ≠ e → h.get? b = some u → h'.get? b = some u) (heo : ∃ u, h'.get? e = some u) : Un fs ex H (upd H x o) h h' := by
  have hx : ∀ b, H b = none → b ≠ x := fun b n z => by subst z; rw [n] at mu; exact mu
  have hb : ∀ b, H b = none → b ≠ e := fun b n z => by
    subst z
    rcases he with r | r
    · exact hx b n r
    · rw [n] at r; cases r
  have hm : ∀ b u, H b = some u → ¬ Mut (some u) → b ≠ x := fun b u q nm z => by subst z; rw [q] at mu; exact nm mu
  refine ⟨fun b u q n _ _ => k b u (hb b n) q, fun b u q n _ _ => ⟨u.slots, k b u (hb b n) q⟩, fun b u q n _ => by rw [upd_ne (hx b n)]; exact n, fun b u q _ => ?_,
    fun b xs q => by rw [upd_ne (hm b _ q fun z => z)]; exact q, fun b u xs q => by rw [upd_ne (hm b _ q fun z => z)]; exact q, fun b ps q => ⟨#[], by rw [upd_ne (hm b _ q fun z => z), q]; simp⟩⟩
  by_cases hbe : b = e
  · subst hbe; exact heo
  · exact ⟨u, k b u hbe q⟩
theorem Un.mono (u : Un fs ex H H1 h h1) (hs : ∀ b ∈ fs, b ∈ fs') (hx : ∀ b ∈ ex, b ∈ ex') : Un fs' ex' H H1 h h1 :=
  ⟨fun b ob q n hb he => u.keep b ob q n (fun z => hb (hs b z)) fun z => he (hx b z), fun _ _ q n _ he => u.any q n fun z => he (hx _ z), fun b ob q n he => u.free b ob q n fun z => he (hx b z), fun b ob q he => u.there b ob q fun z => he (hx b z), u.tups, u.frzs, u.tbls⟩
end

def trk (h : Heap) (H : Hp) : List Addr := (List.range h.objs.size).filter fun a => (H a).isSome
def hidT (h : Heap) (H : Hp) : Heap := PySem.W.hideAll h (trk h H)
theorem hidT_size (h : Heap) (H : Hp) : (hidT h H).objs.size = h.objs.size := PySem.W.hideAll_size _ _
theorem hidT_get {h : Heap} {H : Hp} {b : Addr} {o : Obj} (e : h.get? b = some o) (n : H b = none) : (hidT h H).get? b = some o :=
  PySem.W.hideAll_get _ e fun hm => by
    have q : (H b).isSome = true := (List.mem_filter.mp hm).2
    rw [n] at q; simp at q
theorem of_hidT {h : Heap} {H : Hp} {b : Addr} {o : Obj} (e : (hidT h H).get? b = some o) : h.get? b = some o ∧ H b = none := by
  have e' : h.get? b = some o := PySem.W.of_hideAll (trk h H) e
  refine ⟨e', ?_⟩
  cases q : H b with
  | none => rfl
  | some x =>
    have hm : b ∈ trk h H := List.mem_filter.mpr ⟨List.mem_range.mpr (Heap.lt_size e'), by simp [q]⟩
    have z : (hidT h H).get? b = none := PySem.W.hideAll_none (trk h H) hm
    rw [z] at e; cases e

def allNews (g h : Heap) (L : Addr) : List (Addr × Obj) := (List.range h.objs.size).filterMap fun a => if a = L ∨ (g.get? a).isSome = true then none else (h.get? a).map fun o => (a, o)
def rest (g h : Heap) (L d : Addr) : List (Addr × Obj) := (allNews g h L).filter fun p => decide (p.1 ≠ d)
end L2

namespace L2
open PySem PySem.Spec PyProof.Rows

/-- the module's facts, over the base: the heap at the law's entry without what is tracked there -/
structure Mod (K : PySem.W.Frag) (mg : Str → Option Value) (base : Heap) : Prop where
  kin : K.In base
  glob : base.Ns mainGlobals mg
  blt : ∃ mb, base.Ns builtinsNs mb ∧ ∀ x : Str, x ≠ "__name__" → mb x = bootBuiltins x
  nolimit : base.NoLimit

/-- the context: a def's body (or a comprehension's block) running. base: fixed through the whole law; s₀, H₀: the entry; outer: the frames whose slots others may change (a def's callers); stack: all frames that run;
   ex: iterators that were made ahead of the entry and are walked here (a comprehension's); fn: the names whose cells were made at the entry (a def: all; a comprehension's block: its own); calm: not within an except suite; pn: pins that every state bears; xe: what is wanted of an exception that leaves the code -/
structure Cx where
  prog : Program
  w : World
  K : PySem.W.Frag
  mg : Str → Option Value
  base : Heap
  A : Around
  N : List Str
  s₀ : Shared
  H₀ : Hp
  env : Env
  outer : List Env
  stack : List Env
  ex : List Addr
  fn : Str → Bool
  calm : Bool
  pn : List (Addr × Obj)
  xe : Value → Shared → Prop
/-- the callers' frames -/
def frs (l : List Env) : List Addr := l.filterMap (·.frame)
abbrev Cx.fs (X : Cx) : List Addr := frs X.outer

def Vis (sc : Scope) (x : Str) : Prop := sc.names.lookup x = some .local ∨ sc.names.lookup x = some .cell ∨ sc.names.lookup x = some .free
def Loc (sc : Scope) (x : Str) : Prop := sc.names.lookup x = some .local ∨ sc.names.lookup x = some .cell
def Look (env : Env) (h : Heap) (m : Str → Option Value) (x : Str) (u : Value) : Prop :=
  (env.kindOf x = some .local ∧ m x = some u) ∨ ((env.kindOf x = some .cell ∨ env.kindOf x = some .free) ∧ ∃ c, env.cells.lookup x = some c ∧ h.IsCell c (some u))

structure Cx.Ok (X : Cx) : Prop where
  mod : Mod X.K X.mg X.base
  kind : X.env.scope.kind = .function
  glob : X.env.globals = mainGlobals
  blt : X.env.builtins = builtinsNs
  above : X.s₀.heap.objs.size ≤ X.env.locals
  inj : ∀ x y c, X.env.cells.lookup x = some c → X.env.cells.lookup y = some c → x = y
  has : ∀ x, (X.env.kindOf x = some .cell ∨ X.env.kindOf x = some .free) → ∃ c, X.env.cells.lookup x = some c
  cab : ∀ x c, X.fn x = true → X.env.cells.lookup x = some c → X.s₀.heap.objs.size ≤ c
  hd : X.calm = true → X.A.handled = none
  frames : X.A.frames = some X.stack
  stk : X.stack = X.outer ∨ (X.stack = X.env :: X.outer ∧ X.env.frame = some X.env.locals)
  exf : ∀ b ∈ X.ex, b ≠ X.env.locals ∧ ∀ x c, X.env.cells.lookup x = some c → c ≠ b
  bs : ∀ b o, X.base.get? b = some o → X.s₀.heap.get? b = some o ∧ X.H₀ b = none
  bsz : X.base.objs.size ≤ X.s₀.heap.objs.size
  noex : ∀ b o, X.base.get? b = some o → b ∉ X.ex
  exfs : ∀ b ∈ X.ex, b ∉ X.fs
  funs : X.s₀.heap.FunFrames X.base X.outer
  frf : ∀ b ∈ X.fs, X.H₀ b = none

structure Inv (X : Cx) (pins : List (Addr × Obj)) (σ : List (Option V)) (H : Hp) (s : Shared) : Prop where
  ok : X.Ok
  os : s.os = X.s₀.os
  bare : AllBare s.gens
  base : Un X.fs X.ex X.H₀ H X.s₀.heap s.heap
  loc : ∃ m, s.heap.Ns X.env.locals m ∧ ∀ (i : Nat) (x : Str) (v : V), X.N[i]? = some x → σ[i]? = some (some v) → Vis X.env.scope x → ∃ u, RelV v u ∧ Look X.env s.heap m x u
  cell : ∀ x c, X.env.cells.lookup x = some c → ∃ v, s.heap.IsCell c v
  free : H X.env.locals = none
  freeC : ∀ x c, X.env.cells.lookup x = some c → H c = none
  pin : ∀ p ∈ X.pn ++ pins, s.heap.get? p.1 = some p.2 ∧ H p.1 = none ∧ p.1 ≠ X.env.locals ∧ p.1 ∉ X.fs ∧ ∀ v, p.2.data ≠ .cell v
  hok : HOk X.prog X.w H s.heap
  len : σ.length = X.N.length

section
variable {X : Cx} {pins : List (Addr × Obj)} {σ : List (Option V)} {H H' : Hp} {s : Shared} {h' : Heap}

theorem Cx.Ok.nofr (ok : X.Ok) {b : Addr} {o : Obj} (e : X.base.get? b = some o) : b ∉ X.fs := fun hb => by
  have := (ok.funs.mem hb).1
  rw [e] at this; cases this
theorem Inv.bs (I : Inv X pins σ H s) : ∀ b o, X.base.get? b = some o → s.heap.get? b = some o ∧ H b = none := fun b o e =>
  ⟨I.base.keep b o (I.ok.bs b o e).1 (I.ok.bs b o e).2 (I.ok.nofr e) (I.ok.noex b o e), I.base.free b o (I.ok.bs b o e).1 (I.ok.bs b o e).2 (I.ok.noex b o e)⟩
theorem Inv.bk (I : Inv X pins σ H s) : ∀ b o, X.base.get? b = some o → s.heap.get? b = some o := fun b o e => (I.bs b o e).1
theorem Inv.mod (I : Inv X pins σ H s) : Mod X.K X.mg X.base := I.ok.mod
theorem Inv.kIn (I : Inv X pins σ H s) : X.K.In s.heap := I.ok.mod.kin.keeps I.bk
theorem Inv.nolimit (I : Inv X pins σ H s) : s.heap.NoLimit := I.ok.mod.nolimit.keeps I.bk
/-- the frame over the base: for OpenK's rules (K.In X.base is I.mod.kin) -/
theorem Inv.fr (I : Inv X pins σ H s) : ∃ m, Fr X.base X.env.locals s.heap m :=
  let ⟨m, hn, _⟩ := I.loc
  ⟨m, hn, I.bk, Nat.le_trans I.ok.bsz I.ok.above⟩
theorem Inv.lt (I : Inv X pins σ H s) : X.env.locals < s.heap.objs.size := let ⟨_, hn, _⟩ := I.loc; hn.lt
theorem Inv.sz (I : Inv X pins σ H s) : X.s₀.heap.objs.size ≤ s.heap.objs.size := Nat.le_trans I.ok.above (Nat.le_of_lt I.lt)
theorem Inv.nofs (I : Inv X pins σ H s) {a : Addr} (h : s.heap.objs.size ≤ a) : a ∉ X.fs := fun hb => by
  obtain ⟨_, o, ho, _⟩ := I.ok.funs.mem hb
  exact absurd (Nat.lt_of_lt_of_le (Heap.lt_size ho) (Nat.le_trans I.sz h)) (Nat.lt_irrefl _)
theorem Inv.cne (I : Inv X pins σ H s) : ∀ x c, X.env.cells.lookup x = some c → c ≠ X.env.locals := fun x c e z => by
  obtain ⟨v, o, ho, hd⟩ := I.cell x c e
  obtain ⟨m, ⟨o', es, ep, ho', hd', _⟩, _⟩ := I.loc
  rw [z, ho'] at ho; cases ho; rw [hd'] at hd; cases hd
theorem Inv.funs (I : Inv X pins σ H s) : s.heap.FunFrames X.base X.outer := by
  have all : ∀ (l : List Env), (∀ b ∈ frs l, b ∈ X.fs) → X.s₀.heap.FunFrames X.base l → s.heap.FunFrames X.base l := by
    intro l
    induction l with
    | nil => intro _ _; trivial
    | cons env r ih =>
      intro hs hl
      obtain ⟨hk, ⟨L, o, hf, hn, ho, hd⟩, hr⟩ := hl
      have hL : L ∈ X.fs := hs L (by unfold frs; rw [List.filterMap_cons, hf]; exact List.mem_cons_self)
      obtain ⟨sl, e⟩ := I.base.slot L o ho (I.ok.frf L hL) hL fun z => I.ok.exfs L z hL
      exact ⟨hk, ⟨L, _, hf, hn, e, hd⟩, ih (fun b hb => hs b (by unfold frs; rw [List.filterMap_cons, hf]; exact List.mem_cons_of_mem _ hb)) hr⟩
  exact all X.outer (fun _ hb => hb) I.ok.funs

/-- the frames that run, for a call -/
theorem Inv.stack (I : Inv X pins σ H s) : s.heap.FunFrames X.base X.stack := by
  rcases I.ok.stk with e | ⟨e, hf⟩
  · rw [e]; exact I.funs
  · rw [e]
    obtain ⟨m, hn, _⟩ := I.loc
    refine .cons (by rw [I.ok.kind]; decide) hf hn ?_ I.funs
    exact Heap.get?_none_of_le (Nat.le_trans I.ok.bsz I.ok.above)
theorem Inv.stkSub (I : Inv X pins σ H s) : ∀ b ∈ frs X.stack, b ∈ X.env.locals :: X.fs := fun b hb => by
  rcases I.ok.stk with e | ⟨e, hf⟩
  · rw [e] at hb; exact List.mem_cons_of_mem _ hb
  · rw [e] at hb
    unfold frs at hb
    rw [List.filterMap_cons, hf] at hb
    exact hb
theorem Inv.stkFree (I : Inv X pins σ H s) : ∀ b ∈ frs X.stack, H b = none := fun b hb => by
  rcases List.mem_cons.mp (I.stkSub b hb) with e | hb
  · rw [e]; exact I.free
  · obtain ⟨_, o, ho, _⟩ := I.ok.funs.mem hb
    exact I.base.free b o ho (I.ok.frf b hb) fun z => I.ok.exfs b z hb

/-- THE STEP: the untracked objects but the frame and the records at ch are kept (the callers' frames up to slots), the frame's map is kept, the new abstract heap is held -/
theorem Inv.step {g' : Array GenState} {t' : Nat} {d' : Drawn} {ch : List Addr} (I : Inv X pins σ H s)
    (hch : ∀ b ∈ ch, (b ∈ X.ex ∨ X.s₀.heap.objs.size ≤ b) ∧ b ≠ X.env.locals ∧ (∀ x c, X.env.cells.lookup x = some c → c ≠ b) ∧ ∀ p ∈ X.pn ++ pins, p.1 ≠ b)
    (keep : ∀ b o, b ≠ X.env.locals → b ∉ X.fs → b ∉ ch → s.heap.get? b = some o → H b = none → h'.get? b = some o)
    (slot : ∀ b o, b ≠ X.env.locals → b ∈ X.fs → b ∉ ch → s.heap.get? b = some o → H b = none → ∃ sl, h'.get? b = some { o with slots := sl }) (free : ∀ b o, b ∉ ch → s.heap.get? b = some o → H b = none → H' b = none)
    (there : ∀ b o, b ∉ ch → s.heap.get? b = some o → ∃ o', h'.get? b = some o')
    (tups : ∀ b xs, H b = some (.tup xs) → H' b = some (.tup xs)) (frzs : ∀ b o u, H b = some (.frz o u) → H' b = some (.frz o u)) (tbls : ∀ b ps, H b = some (.tbl ps) → ∃ more, H' b = some (.tbl (ps ++ more)))
    (ns : ∀ m, s.heap.Ns X.env.locals m → h'.Ns X.env.locals m) (hok : HOk X.prog X.w H' h') (hg : AllBare g') :
    Inv X pins σ H' { s with heap := h', gens := g', drawn := d', toks := t' } := by
  have neL : ∀ b o, X.s₀.heap.get? b = some o → b ≠ X.env.locals := fun b o e => Nat.ne_of_lt (Nat.lt_of_lt_of_le (Heap.lt_size e) I.ok.above)
  have neC : ∀ b o, X.s₀.heap.get? b = some o → b ∉ X.ex → b ∉ ch := fun b o e hx hb => by
    rcases (hch b hb).1 with z | z
    · exact hx z
    · exact absurd (Nat.lt_of_lt_of_le (Heap.lt_size e) z) (Nat.lt_irrefl _)
  have cellK : ∀ x c, X.env.cells.lookup x = some c → ∀ v, s.heap.IsCell c v → h'.IsCell c v := fun x c e v ⟨o, ho, hd⟩ => by
    have nch : c ∉ ch := fun z => (hch c z).2.2.1 x c e rfl
    by_cases hc : c ∈ X.fs
    · obtain ⟨sl, q⟩ := slot c o (I.cne x c e) hc nch ho (I.freeC x c e)
      exact ⟨_, q, hd⟩
    · exact ⟨o, keep c o (I.cne x c e) hc nch ho (I.freeC x c e), hd⟩
  refine ⟨I.ok, I.os, hg, ⟨fun b o e n hb hx => ?_, fun b o e n hb hx => ?_, fun b o e n hx => ?_, fun b o e hx => ?_, fun b xs e => tups b xs (I.base.tups b xs e), fun b o xs e => frzs b o xs (I.base.frzs b o xs e), fun b ps e => ?_⟩, ?_, fun x c e => ?_, ?_, fun x c e => ?_, fun p hp => ?_, hok, I.len⟩
  · exact keep b o (neL b o e) hb (neC b o e hx) (I.base.keep b o e n hb hx) (I.base.free b o e n hx)
  · obtain ⟨sl, e1⟩ := I.base.slot b o e n hb hx
    obtain ⟨sl', e2⟩ := slot b _ (neL b o e) hb (neC b o e hx) e1 (I.base.free b o e n hx)
    exact ⟨sl', e2⟩
  · obtain ⟨o', e1⟩ := I.base.there b o e hx
    exact free b o' (neC b o e hx) e1 (I.base.free b o e n hx)
  · obtain ⟨o', e1⟩ := I.base.there b o e hx
    exact there b o' (neC b o e hx) e1
  · obtain ⟨m1, e1⟩ := I.base.tbls b ps e
    obtain ⟨m2, e2⟩ := tbls b _ e1
    exact ⟨m1 ++ m2, by rw [e2, Array.append_assoc]⟩
  · obtain ⟨m, hn, hl⟩ := I.loc
    refine ⟨m, ns m hn, fun i x v e1 e2 e3 => ?_⟩
    obtain ⟨u, r, l⟩ := hl i x v e1 e2 e3
    refine ⟨u, r, ?_⟩
    rcases l with l | ⟨k, c, e, z⟩
    · exact .inl l
    · exact .inr ⟨k, c, e, cellK x c e _ z⟩
  · obtain ⟨v, z⟩ := I.cell x c e
    exact ⟨v, cellK x c e v z⟩
  · obtain ⟨m, ⟨o, _, _, ho, _⟩, _⟩ := I.loc
    exact free _ o (fun z => (hch _ z).2.1 rfl) ho I.free
  · obtain ⟨v, o, ho, hd⟩ := I.cell x c e
    exact free c o (fun z => (hch c z).2.2.1 x c e rfl) ho (I.freeC x c e)
  · obtain ⟨e, n, ne, nf, d⟩ := I.pin p hp
    have nch : p.1 ∉ ch := fun z => (hch p.1 z).2.2.2 p hp rfl
    exact ⟨keep p.1 p.2 ne nf nch e n, free p.1 p.2 nch e n, ne, nf, d⟩
/-- .. where the frame's own object is kept too -/
theorem Inv.un {t' : Nat} (I : Inv X pins σ H s) (u : Un X.fs [] H H' s.heap h') (hok : HOk X.prog X.w H' h') : Inv X pins σ H' { s with heap := h', toks := t' } := by
  obtain ⟨m, ⟨o, es, ep, ho, r⟩, _⟩ := id I.loc
  obtain ⟨sl, hL⟩ := u.any ho I.free (by simp)
  exact I.step (g' := s.gens) (d' := s.drawn) (ch := []) (fun _ z => nomatch z) (fun b o _ hb _ e n => u.keep b o e n hb (by simp)) (fun b o _ hb _ e n => u.slot b o e n hb (by simp)) (fun b o _ e n => u.free b o e n (by simp)) (fun b o _ e => u.there b o e (by simp)) u.tups u.frzs u.tbls (fun m' hm => by
    obtain ⟨o', es', ep', ho', r'⟩ := hm
    rw [ho] at ho'; cases ho'
    exact ⟨_, es', ep', hL, r'⟩) hok I.bare
/-- behind a call (or a comprehension's block): the slots of this frame may have changed too, the records at ch may have turned -/
theorem Inv.call {g' : Array GenState} {t' : Nat} {d' : Drawn} {ch : List Addr} (I : Inv X pins σ H s) (u : Un (frs X.stack) ch H H' s.heap h') (hok : HOk X.prog X.w H' h') (hg : AllBare g')
    (hch : ∀ b ∈ ch, (b ∈ X.ex ∨ X.s₀.heap.objs.size ≤ b) ∧ b ≠ X.env.locals ∧ (∀ x c, X.env.cells.lookup x = some c → c ≠ b) ∧ ∀ p ∈ X.pn ++ pins, p.1 ≠ b) :
    Inv X pins σ H' { s with heap := h', gens := g', drawn := d', toks := t' } := by
  obtain ⟨m, ⟨o, es, ep, ho, r⟩, _⟩ := id I.loc
  obtain ⟨sl, hL⟩ := u.any ho I.free fun z => (hch _ z).2.1 rfl
  exact I.step (ch := ch) hch (fun b o hL hb hc e n => u.keep b o e n (fun z => (List.mem_cons.mp (I.stkSub b z)).elim hL hb) hc) (fun b o _ _ hc e n => u.any e n hc) (fun b o hc e n => u.free b o e n hc) (fun b o hc e => u.there b o e hc) u.tups u.frzs u.tbls (fun m' hm => by
    obtain ⟨o', es', ep', ho', r'⟩ := hm
    rw [ho] at ho'; cases ho'
    exact ⟨_, es', ep', hL, r'⟩) hok hg
/-- an untracked record of ours (an iterator) has turned -/
theorem Inv.turned {t' : Nat} {it : Addr} (I : Inv X pins σ H s) (k : ∀ b o, b ≠ it → s.heap.get? b = some o → h'.get? b = some o) (hn : H it = none) (hL : it ≠ X.env.locals)
    (h1 : it ∈ X.ex ∨ X.s₀.heap.objs.size ≤ it) (h2 : ∀ x c, X.env.cells.lookup x = some c → c ≠ it) (h3 : ∀ p ∈ X.pn ++ pins, p.1 ≠ it) : Inv X pins σ H { s with heap := h', toks := t' } := by
  have nit : ∀ b u, H b = some u → b ≠ it := fun b u e z => by rw [z, hn] at e; cases e
  refine I.step (g' := s.gens) (d' := s.drawn) (ch := [it]) (fun b hb => ?_) (fun b o _ _ hc e _ => k b o (fun z => hc (by simp [z])) e) (fun b o _ _ hc e _ => ⟨o.slots, k b o (fun z => hc (by simp [z])) e⟩) (fun _ _ _ _ n => n)
    (fun b o hc e => ⟨o, k b o (fun z => hc (by simp [z])) e⟩) (fun _ _ e => e) (fun _ _ _ e => e) (fun b ps e => ⟨#[], by rw [e]; simp⟩) (fun m hm => ?_) (fun b u e => ?_) I.bare
  · have e : b = it := by simpa using hb
    subst e
    exact ⟨h1, hL, h2, h3⟩
  · obtain ⟨o, es, ep, ho, r⟩ := hm
    exact ⟨o, es, ep, k _ o (Ne.symm hL) ho, r⟩
  · refine (I.hok b u e).stay (fun c v hc q => k c v ?_ q) (fun _ q => q) fun _ _ q => q
    rcases hc with z | z
    · rw [z]; exact nit b u e
    · exact nit c _ z
theorem Inv.tok (I : Inv X pins σ H s) (t : Nat) : Inv X pins σ H { s with toks := t } := I.un (h' := s.heap) (t' := t) Un.refl I.hok
/-- all objects kept -/
theorem Inv.kept {t' : Nat} (I : Inv X pins σ H s) (k : ∀ b u, s.heap.get? b = some u → h'.get? b = some u) : Inv X pins σ H { s with heap := h', toks := t' } := I.un (Un.kept k) (I.hok.kept k)
/-- a new object laid and tracked -/
theorem Inv.laid {a : Addr} {o : HO} {t' : Nat} (I : Inv X pins σ H s) (k : ∀ b u, s.heap.get? b = some u → h'.get? b = some u) (hp : s.heap.objs.size ≤ a) (new : ObjOk X.prog X.w (upd H a o) h' a o) :
    Inv X pins σ (upd H a o) { s with heap := h', toks := t' } := I.un (Un.laid k hp (I.hok.fresh hp)) (I.hok.laid k hp new)
/-- an object written -/
theorem Inv.write {x e : Addr} {o : HO} {t' : Nat} (I : Inv X pins σ H s) (mu : Mut (H x)) (he : e = x ∨ H e = some (.own x)) (k : ∀ b u, b ≠ e → s.heap.get? b = some u → h'.get? b = some u) (heo : ∃ u, h'.get? e = some u)
    (new : ObjOk X.prog X.w (upd H x o) h' x o) : Inv X pins σ (upd H x o) { s with heap := h', toks := t' } := I.un (Un.write mu he k heo) (I.hok.write mu he k heo new)
theorem Inv.pins_of {pins' : List (Addr × Obj)} (I : Inv X pins σ H s) (h : ∀ p ∈ pins', s.heap.get? p.1 = some p.2 ∧ H p.1 = none ∧ p.1 ≠ X.env.locals ∧ p.1 ∉ X.fs ∧ ∀ v, p.2.data ≠ .cell v) : Inv X pins' σ H s :=
  ⟨I.ok, I.os, I.bare, I.base, I.loc, I.cell, I.free, I.freeC, fun p hp => (List.mem_append.mp hp).elim (fun z => I.pin p (List.mem_append_left _ z)) (h p), I.hok, I.len⟩

theorem nodup_ix {N : List Str} (hN : N.Nodup) {i j : Nat} {x : Str} (a : N[i]? = some x) (b : N[j]? = some x) : i = j := by
  obtain ⟨h1, e1⟩ := List.getElem?_eq_some_iff.mp a
  obtain ⟨h2, e2⟩ := List.getElem?_eq_some_iff.mp b
  exact (List.getElem_inj hN).mp (e1.trans e2.symm)

/-- a name is stored; what changed -/
theorem store_ok2 {M : Model} {A : Around} {E : Value → Shared → Prop} {i : Nat} {x : Str} {v : V} {u : Value} {Q : Unit → Shared → Prop} (I : Inv X pins σ H s) (hN : X.N.Nodup) (hi : X.N[i]? = some x) (hx : Loc X.env.scope x) (r : RelV v u)
    (h : ∀ s', Inv X pins (σ.set i (some v)) H s' → (∃ a, Heap.SameBut a s.heap s'.heap ∧ (a = X.env.locals ∨ X.env.cells.lookup x = some a)) → Q () s') (hf : X.fn x = true ∨ X.env.scope.names.lookup x = some .local := by first | exact .inl rfl | exact .inr rfl | assumption) : wpAny M A (storeName X.env x u) Q E s := by
  obtain ⟨m, hn, hl⟩ := id I.loc
  have hcls : (X.env.scope.kind == .class || (X.env.scope.kind == .module && X.env.locals != X.env.globals)) = false := by rw [I.ok.kind]; rfl
  have hiσ : i < σ.length := by rw [I.len]; exact (List.getElem?_eq_some_iff.mp hi).1
  have cne := I.cne
  have tracked : ∀ {a : Addr} {h' : Heap}, (∃ o, s.heap.get? a = some o ∧ H a = none) → Heap.SameBut a s.heap h' → HOk X.prog X.w H h' := fun {a h'} ha hs b ob e => by
    obtain ⟨_, _, hfree⟩ := ha
    refine (I.hok b ob e).stay (fun c w' hc q => (hs.2 c ?_).trans q) (fun _ q => q) fun _ _ q => q
    rintro rfl
    rcases hc with rfl | hc
    · rw [hfree] at e; cases e
    · rw [hfree] at hc; cases hc
  rcases hx with hk | hk
  · refine wpAny_storeName_local hk hn (fun h' hn' hs => ?_) hcls
    obtain ⟨oL, _, _, hoL, _⟩ := id hn
    refine h _ ⟨I.ok, I.os, I.bare, ⟨fun b o e n hb hx => ?_, fun b o e n hb hx => ?_, I.base.free, fun b o e hx => ?_, I.base.tups, I.base.frzs, I.base.tbls⟩, ⟨_, hn', fun j y v' e1 e2 e3 => ?_⟩, fun y c e => ?_, I.free, I.freeC, fun p hp => ?_, tracked ⟨oL, hoL, I.free⟩ hs, by simpa using I.len⟩ ⟨_, hs, .inl rfl⟩
    · exact (hs.2 b (Nat.ne_of_lt (Nat.lt_of_lt_of_le (Heap.lt_size e) I.ok.above))).trans (I.base.keep b o e n hb hx)
    · obtain ⟨sl, e1⟩ := I.base.slot b o e n hb hx
      exact ⟨sl, (hs.2 b (Nat.ne_of_lt (Nat.lt_of_lt_of_le (Heap.lt_size e) I.ok.above))).trans e1⟩
    · obtain ⟨o', e1⟩ := I.base.there b o e hx
      exact ⟨o', (hs.2 b (Nat.ne_of_lt (Nat.lt_of_lt_of_le (Heap.lt_size e) I.ok.above))).trans e1⟩
    · by_cases hj : j = i
      · subst hj
        rw [hi] at e1; cases e1
        rw [List.getElem?_set_self hiσ] at e2
        cases e2
        exact ⟨u, r, .inl ⟨hk, by simp⟩⟩
      · rw [List.getElem?_set_ne (Ne.symm hj)] at e2
        obtain ⟨u', r', q⟩ := hl j y v' e1 e2 e3
        refine ⟨u', r', ?_⟩
        rcases q with ⟨k, e⟩ | ⟨k, c, e, z⟩
        · refine .inl ⟨k, ?_⟩
          have : y ≠ x := fun e => hj (nodup_ix hN e1 (e ▸ hi))
          simp [this, e]
        · exact .inr ⟨k, c, e, z.sameBut hs (cne y c e)⟩
    · obtain ⟨w', z⟩ := I.cell y c e
      exact ⟨w', z.sameBut hs (cne y c e)⟩
    · obtain ⟨e, n, ne, nf, d⟩ := I.pin p hp
      exact ⟨(hs.2 p.1 ne).trans e, n, ne, nf, d⟩
  · have hfn : X.fn x = true := by
      rcases hf with z | z
      · exact z
      · rw [z] at hk; cases hk
    obtain ⟨c, hc⟩ := I.ok.has x (.inl hk)
    obtain ⟨w', z⟩ := I.cell x c hc
    refine wpAny_storeName_cell I.ok.kind hk hc z (fun h' hc' hs => ?_)
    obtain ⟨oc, hoc, hocd⟩ := id z
    refine h { s with heap := h' } ⟨I.ok, I.os, I.bare, ⟨fun b o e n hb hx => ?_, fun b o e n hb hx => ?_, I.base.free, fun b o e hx => ?_, I.base.tups, I.base.frzs, I.base.tbls⟩, ⟨m, hn.sameBut hs (Ne.symm (cne x c hc)), fun j y v' e1 e2 e3 => ?_⟩, fun y c' e => ?_, I.free, I.freeC, fun p hp => ?_, tracked ⟨oc, hoc, I.freeC x c hc⟩ hs, by simpa using I.len⟩ ⟨c, hs, .inr hc⟩
    · exact (hs.2 b (Nat.ne_of_lt (Nat.lt_of_lt_of_le (Heap.lt_size e) (I.ok.cab x c hfn hc)))).trans (I.base.keep b o e n hb hx)
    · obtain ⟨sl, e1⟩ := I.base.slot b o e n hb hx
      exact ⟨sl, (hs.2 b (Nat.ne_of_lt (Nat.lt_of_lt_of_le (Heap.lt_size e) (I.ok.cab x c hfn hc)))).trans e1⟩
    · obtain ⟨o', e1⟩ := I.base.there b o e hx
      exact ⟨o', (hs.2 b (Nat.ne_of_lt (Nat.lt_of_lt_of_le (Heap.lt_size e) (I.ok.cab x c hfn hc)))).trans e1⟩
    · by_cases hj : j = i
      · subst hj
        rw [hi] at e1; cases e1
        rw [List.getElem?_set_self hiσ] at e2
        cases e2
        exact ⟨u, r, .inr ⟨.inl hk, c, hc, hc'⟩⟩
      · rw [List.getElem?_set_ne (Ne.symm hj)] at e2
        obtain ⟨u', r', q⟩ := hl j y v' e1 e2 e3
        refine ⟨u', r', ?_⟩
        rcases q with q | ⟨k, c', e, z'⟩
        · exact .inl q
        · refine .inr ⟨k, c', e, z'.sameBut hs ?_⟩
          rintro rfl
          exact hj (nodup_ix hN e1 (I.ok.inj _ _ _ e hc ▸ hi))
    · by_cases hcc : c' = c
      · subst hcc; exact ⟨_, hc'⟩
      · obtain ⟨w2, z2⟩ := I.cell y c' e
        exact ⟨w2, z2.sameBut hs hcc⟩
    · obtain ⟨e, n, ne, nf, d⟩ := I.pin p hp
      refine ⟨(hs.2 p.1 ?_).trans e, n, ne, nf, d⟩
      intro q
      rw [q, hoc] at e
      have q' : oc = p.2 := Option.some.inj e
      exact d w' (by rw [← q']; exact hocd)
theorem store_ok {M : Model} {A : Around} {E : Value → Shared → Prop} {i : Nat} {x : Str} {v : V} {u : Value} {Q : Unit → Shared → Prop} (I : Inv X pins σ H s) (hN : X.N.Nodup) (hi : X.N[i]? = some x) (hx : Loc X.env.scope x) (r : RelV v u)
    (h : ∀ s', Inv X pins (σ.set i (some v)) H s' → Q () s') (hf : X.fn x = true ∨ X.env.scope.names.lookup x = some .local := by first | exact .inl rfl | exact .inr rfl | assumption) : wpAny M A (storeName X.env x u) Q E s :=
  store_ok2 I hN hi hx r (fun s' I' _ => h s' I') hf
/-- behind a call or a block, the state as it is -/
theorem Inv.call' {s' : Shared} {ch : List Addr} (I : Inv X pins σ H s) (ho : s'.os = s.os) (u : Un (frs X.stack) ch H H' s.heap s'.heap) (hok : HOk X.prog X.w H' s'.heap) (hg : AllBare s'.gens)
    (hch : ∀ b ∈ ch, (b ∈ X.ex ∨ X.s₀.heap.objs.size ≤ b) ∧ b ≠ X.env.locals ∧ (∀ x c, X.env.cells.lookup x = some c → c ≠ b) ∧ ∀ p ∈ X.pn ++ pins, p.1 ≠ b) : Inv X pins σ H' s' := by
  obtain ⟨h', g', d', t', o'⟩ := s'
  have e : o' = s.os := ho
  subst e
  exact I.call (g' := g') (t' := t') (d' := d') u hok hg hch
end

/-- an exception: its class, its own dict's address (where it has one), the abstract heap behind it -/
abbrev XK := Value → Option Addr → Hp → Prop
abbrev St := List (Option V)
abbrev VK := V → Hp → Prop
/-- an expression's reading; a test's; an argument list's -/
abbrev TE := St → Hp → VK → Prop
abbrev TT := St → Hp → (Bool → Hp → Prop) → Prop
abbrev TA := St → Hp → (List V → Hp → Prop) → Prop
/-- what is wanted behind a statement -/
structure Ends where
  nx : St → Hp → Prop
  rt : VK
  bk : St → Hp → Prop := fun _ _ => False
  ct : St → Hp → Prop := fun _ _ => False
abbrev TS := Ends → St → Hp → Prop

def EP (X : Cx) (pins : List (Addr × Obj)) (σ : St) (Q : VK) (u : Value) (s' : Shared) : Prop := ∃ v H', Inv X pins σ H' s' ∧ RelV v u ∧ Q v H'
def TP (X : Cx) (pins : List (Addr × Obj)) (σ : St) (Q : Bool → Hp → Prop) (b : Bool) (s' : Shared) : Prop := ∃ H', Inv X pins σ H' s' ∧ Q b H'
def AP (X : Cx) (pins : List (Addr × Obj)) (σ : St) (Q : List V → Hp → Prop) (us : List Value) (s' : Shared) : Prop := ∃ vs H', Inv X pins σ H' s' ∧ Vals vs us ∧ Q vs H'
def SP (X : Cx) (pins : List (Addr × Obj)) (D : Ends) (f : Flow) (s' : Shared) : Prop :=
  match f with
  | .next => ∃ σ' H', Inv X pins σ' H' s' ∧ D.nx σ' H'
  | .brk => ∃ σ' H', Inv X pins σ' H' s' ∧ D.bk σ' H'
  | .cont => ∃ σ' H', Inv X pins σ' H' s' ∧ D.ct σ' H'
  | .ret u => ∃ v σ' H', Inv X pins σ' H' s' ∧ RelV v u ∧ D.rt v H'

def PE (X : Cx) (e : Expr) (t : TE) : Prop :=
  ∀ (pins : List (Addr × Obj)) (s : Shared) (σ : St) (H : Hp) (Q : VK), Inv X pins σ H s → t σ H Q → wpAny (model X.prog X.w) X.A (eval e X.env) (EP X pins σ Q) X.xe s
def PT (X : Cx) (e : Expr) (t : TT) : Prop :=
  ∀ (pins : List (Addr × Obj)) (s : Shared) (σ : St) (H : Hp) (Q : Bool → Hp → Prop), Inv X pins σ H s → t σ H Q → wpAny (model X.prog X.w) X.A (isTrue e X.env (eval e X.env)) (TP X pins σ Q) X.xe s
/-- a test whatever its 'whole' is (and, or) -/
def PW (X : Cx) (e : Expr) (t : TT) : Prop :=
  ∀ (whole : Sem Value) (pins : List (Addr × Obj)) (s : Shared) (σ : St) (H : Hp) (Q : Bool → Hp → Prop), Inv X pins σ H s → t σ H Q → wpAny (model X.prog X.w) X.A (isTrue e X.env whole) (TP X pins σ Q) X.xe s
theorem PW.pt {X : Cx} {e : Expr} {t : TT} (h : PW X e t) : PT X e t := h _
/-- an argument list (no star), from the left -/
def PA (X : Cx) (es : List Expr) (t : TA) : Prop :=
  ∀ (pos : Pos) (pins : List (Addr × Obj)) (s : Shared) (σ : St) (H : Hp) (Q : List V → Hp → Prop), Inv X pins σ H s → t σ H Q → wpAny (model X.prog X.w) X.A (spliced (backTo pos (starEach es X.env))) (AP X pins σ Q) X.xe s
def PS (X : Cx) (st : Stmt) (t : TS) : Prop :=
  ∀ (pins : List (Addr × Obj)) (s : Shared) (σ : St) (H : Hp) (D : Ends), Inv X pins σ H s → t D σ H → wpAny (model X.prog X.w) X.A (exec st X.env) (SP X pins D) X.xe s
def PSs (X : Cx) (st : List Stmt) (t : TS) : Prop :=
  ∀ (pins : List (Addr × Obj)) (s : Shared) (σ : St) (H : Hp) (D : Ends), Inv X pins σ H s → t D σ H → wpAny (model X.prog X.w) X.A (execs st X.env) (SP X pins D) X.xe s
/-- weaken the end -/
theorem thn {α : Type} {t : Sem α} {Q Q' : α → Shared → Prop} {M : Model} {A : Around} {E : Value → Shared → Prop} {s : Shared} (h : wpAny M A t Q E s) (hQ : ∀ a s, Q a s → Q' a s) : wpAny M A t Q' E s := wpAny_mono h hQ fun _ _ x => x
end L2

namespace L2
open PySem PySem.Spec PyProof.Rows
section
variable {X : Cx}

def tVar (i : Nat) : TE := fun σ H Q => ∃ v, σ[i]? = some (some v) ∧ Q v H
def tC (v : V) : TE := fun _ H Q => Q v H
theorem pe_var {i : Nat} {x : Str} {pos : Pos} (hN : X.N[i]? = some x) (hv : Vis X.env.scope x) (hd : (x == ("__debug__" : Str)) = false := by decide) (hcd : (x == ("__classdict__" : Str)) = false := by decide) : PE X (.Name x pos) (tVar i) := by
  intro pins s σ H Q I h
  obtain ⟨v, e, h⟩ := h
  obtain ⟨m, hn, hl⟩ := I.loc
  obtain ⟨u, r, l⟩ := hl i x v hN e hv
  have fin : EP X pins σ Q u s := ⟨v, H, I, r, h⟩
  rcases l with ⟨hk, hm⟩ | ⟨hk, c, hc, hcell⟩
  · exact wpAny_Name (wpAny_loadName_local I.ok.kind hk hn hm fin) hd
  · rcases hk with hk | hk
    · exact wpAny_Name (wpAny_loadName_cell I.ok.kind hk hc hcell fin) hd
    · exact wpAny_Name (wpAny_loadName_free I.ok.kind hk hc hcell fin hcd) hd
theorem pe_int {i j pos} : PE X (.Constant (.int i) j pos) (tC (.int i)) := fun _ _ _ H _ I h => wpAny_Constant_int ⟨.int i, H, I.tok _, ⟨_, rfl⟩, h⟩
theorem pe_bl {b j pos} : PE X (.Constant (.bool b) j pos) (tC (.bl b)) := fun _ _ _ H _ I h => Constant_bool ⟨.bl b, H, I, rfl, h⟩
theorem pe_str {x j pos} : PE X (.Constant (.str x) j pos) (tC (.str x)) := fun _ _ _ H _ I h => Calls.Constant_str ⟨.str x, H, I.tok _, ⟨_, rfl⟩, h⟩

/-- a global name of the def -/
def Gl (X : Cx) (x : Str) : Prop := X.env.kindOf x = some .globalImplicit
theorem ld_glob {E : Value → Shared → Prop} {pins : List (Addr × Obj)} {s : Shared} {σ : St} {H : Hp} {x : Str} {u : Value} {pos : Pos} {Q : Value → Shared → Prop} (I : Inv X pins σ H s) (hg : Gl X x) (hm : X.mg x = some u) (h : Q u s)
    (hd : (x == ("__debug__" : Str)) = false := by decide) : wpAny (model X.prog X.w) X.A (eval (.Name x pos) X.env) Q E s :=
  Calls.Name_function_global I.ok.kind hg (Calls.loadGlobal_global (by rw [I.ok.glob]; exact I.mod.glob.keeps I.bk) hm h) hd
theorem ld_blt {E : Value → Shared → Prop} {pins : List (Addr × Obj)} {s : Shared} {σ : St} {H : Hp} {x : Str} {u : Value} {pos : Pos} {Q : Value → Shared → Prop} (I : Inv X pins σ H s) (hg : Gl X x) (hm : X.mg x = none) (hv : bootBuiltins x = some u) (h : Q u s)
    (hn : x ≠ "__name__" := by decide) (hd : (x == ("__debug__" : Str)) = false := by decide) : wpAny (model X.prog X.w) X.A (eval (.Name x pos) X.env) Q E s := by
  obtain ⟨mb, h1, h2⟩ := I.mod.blt
  exact Calls.Name_function_global I.ok.kind hg (Calls.loadGlobal_builtin (by rw [I.ok.glob]; exact I.mod.glob.keeps I.bk) hm (by rw [I.ok.blt]; exact h1.keeps I.bk) ((h2 x hn).trans hv) h) hd
variable {a b : Expr} {ta tb : TE} {pos : Pos}
/-- a comparison as a value, as a test -/
def tB (t : TE) : TT := fun σ H Q => t σ H fun x H1 => ∃ c, x = .bl c ∧ Q c H1
/-- an expression whose value is a bool, as a test -/
theorem pt_val {e : Expr} {t : TE} (h : PE X e t) (he : ∀ whole, isTrue e X.env whole = (do let v ← whole; standAt e.pos; holding [v] (truthy v)) := by intro _; rfl) : PT X e (tB t) := by
  intro pins s σ H Q I hw
  refine isTrue_plain (thn (h pins s σ H _ I hw) fun v s1 ⟨x, H1, I1, r1, q1⟩ => ?_) (he _)
  obtain ⟨d, rfl, q⟩ := q1
  cases r1
  exact wpAny_truthy_bool ⟨H1, I1, q⟩

variable {tA tB' : TT} {rest : List Expr}
def tAnd (t u : TT) : TT := fun σ H Q => t σ H fun c H1 => if c = true then u σ H1 Q else Q false H1
def tOr (t u : TT) : TT := fun σ H Q => t σ H fun c H1 => if c = true then Q true H1 else u σ H1 Q
def tNot (t : TT) : TT := fun σ H Q => t σ H fun c H1 => Q (!c) H1
theorem pw_and1 (ha : PT X a tA) : PW X (.BoolOp .And [a] pos) tA := by
  intro wh pins s σ H Q I h
  refine isTrue_and (thn (ha pins s σ H Q I h) fun c s1 e => ?_)
  cases c with
  | true => exact isTrue_and_nil e
  | false => exact e
theorem pw_or1 (ha : PT X a tA) : PW X (.BoolOp .Or [a] pos) tA := by
  intro wh pins s σ H Q I h
  refine isTrue_or (thn (ha pins s σ H Q I h) fun c s1 e => ?_)
  cases c with
  | false => exact isTrue_or_nil e
  | true => exact e
theorem pw_and (ha : PT X a tA) (hb : PW X (.BoolOp .And (b :: rest) pos) tB') : PW X (.BoolOp .And (a :: b :: rest) pos) (tAnd tA tB') := by
  intro wh pins s σ H Q I h
  refine isTrue_and (thn (ha pins s σ H _ I h) fun c s1 ⟨H1, I1, q1⟩ => ?_)
  cases c with
  | true => exact hb wh pins s1 σ H1 Q I1 q1
  | false => exact ⟨H1, I1, q1⟩
theorem pw_or (ha : PT X a tA) (hb : PW X (.BoolOp .Or (b :: rest) pos) tB') : PW X (.BoolOp .Or (a :: b :: rest) pos) (tOr tA tB') := by
  intro wh pins s σ H Q I h
  refine isTrue_or (thn (ha pins s σ H _ I h) fun c s1 ⟨H1, I1, q1⟩ => ?_)
  cases c with
  | true => exact ⟨H1, I1, q1⟩
  | false => exact hb wh pins s1 σ H1 Q I1 q1
theorem pt_not (ha : PT X a tA) : PT X (.UnaryOp .Not a pos) (tNot tA) := by
  intro pins s σ H Q I h
  exact isTrue_not (ha pins s σ H (fun c H1 => Q (!c) H1) I h)
/-- .. as values (bools) -/
def tAndV (ta tb : TE) : TE := fun σ H Q => ta σ H fun x H1 => ∃ c, x = .bl c ∧ if c = true then tb σ H1 Q else Q (.bl false) H1
def tOrV (ta tb : TE) : TE := fun σ H Q => ta σ H fun x H1 => ∃ c, x = .bl c ∧ if c = true then Q (.bl true) H1 else tb σ H1 Q
def tNotV (ta : TE) : TE := fun σ H Q => ta σ H fun x H1 => ∃ c, x = .bl c ∧ Q (.bl (!c)) H1
theorem pe_one {op} {t : TE} (h : PE X a t) : PE X (.BoolOp op [a] pos) t := fun pins s σ H Q I hw => BoolOp_one (h pins s σ H Q I hw)
theorem pe_and (ha : PE X a ta) (hb : PE X (.BoolOp .And (b :: rest) pos) tb) : PE X (.BoolOp .And (a :: b :: rest) pos) (tAndV ta tb) := by
  intro pins s σ H Q I h
  refine BoolOp_and (thn (ha pins s σ H _ I h) fun v s1 ⟨x, H1, I1, r1, q1⟩ => ?_)
  obtain ⟨c, rfl, q1⟩ := q1
  cases r1
  refine wpAny_truthy_bool ?_
  cases c with
  | true => exact hb pins s1 σ H1 Q I1 q1
  | false => exact ⟨.bl false, H1, I1, rfl, q1⟩
theorem pe_or (ha : PE X a ta) (hb : PE X (.BoolOp .Or (b :: rest) pos) tb) : PE X (.BoolOp .Or (a :: b :: rest) pos) (tOrV ta tb) := by
  intro pins s σ H Q I h
  refine BoolOp_or (thn (ha pins s σ H _ I h) fun v s1 ⟨x, H1, I1, r1, q1⟩ => ?_)
  obtain ⟨c, rfl, q1⟩ := q1
  cases r1
  refine wpAny_truthy_bool ?_
  cases c with
  | false => exact hb pins s1 σ H1 Q I1 q1
  | true => exact ⟨.bl true, H1, I1, rfl, q1⟩
theorem pe_not (ha : PE X a ta) : PE X (.UnaryOp .Not a pos) (tNotV ta) := by
  intro pins s σ H Q I h
  refine UnaryOp_ (thn (ha pins s σ H _ I h) fun v s1 ⟨x, H1, I1, r1, q1⟩ => ?_)
  obtain ⟨c, rfl, q1⟩ := q1
  cases r1
  exact not_of (wpAny_truthy_bool ⟨.bl (!c), H1, I1, rfl, q1⟩)
/-- a if t else b -/
def tIf (t : TT) (ta tb : TE) : TE := fun σ H Q => t σ H fun c H1 => if c = true then ta σ H1 Q else tb σ H1 Q
end
end L2

namespace L2
open PySem PySem.Spec PyProof.Rows

def SqL (K : PySem.W.Frag) (H : Hp) (a : Addr) (xs : List V) : Prop :=
  Rd H a (.lst xs) ∨
    ∃ (o : Obj) (its : Array Value) (n : Nat), K.lookup a = some o ∧ o.cls = .type "list" ∧ o.dict = none ∧ o.data = .seq its n ∧ its.size ≤ sizeLine ∧ Vals xs its.toList
def SqT (K : PySem.W.Frag) (H : Hp) (a : Addr) (xs : List V) : Prop :=
  Rd H a (.tup xs) ∨
    ∃ (o : Obj) (its : Array Value) (n : Nat), K.lookup a = some o ∧ o.cls = .type "tuple" ∧ o.data = .seq its n ∧ its.size ≤ sizeLine ∧ Vals xs its.toList
def absV : Value → Option V
  | .none => some .non
  | .bool b => some (.bl b)
  | .int i _ => some (.int i)
  | .str x _ => some (.str x)
  | .bytes b _ => some (.byt b)
  | .float b _ => some (.flt b)
  | .ref a => some (.ref a)
  | .type n => some (.ty n)
  | _ => none
theorem RelV.abs {x : V} {u : Value} (r : RelV x u) : absV u = some x := by
  cases x with
  | non => cases r; rfl
  | bl _ => cases r; rfl
  | int _ => obtain ⟨t, rfl⟩ := r; rfl
  | str _ => obtain ⟨t, rfl⟩ := r; rfl
  | byt _ => obtain ⟨t, rfl⟩ := r; rfl
  | flt _ => obtain ⟨t, rfl⟩ := r; rfl
  | ref _ => cases r; rfl
  | ty _ => cases r; rfl
theorem RelV.inj {x y : V} {u : Value} (r : RelV x u) (q : RelV y u) : x = y := Option.some.inj (r.abs.symm.trans q.abs)
theorem Vals.inj : ∀ {xs ys : List V} {us : List Value}, Vals xs us → Vals ys us → xs = ys
  | _, _, _, .nil, .nil => rfl
  | _, _, _, .cons r t, .cons r' t' => by rw [r.inj r', Vals.inj t t']
section
variable {X : Cx} {pins : List (Addr × Obj)} {σ : St} {H : Hp} {s : Shared} {a : Addr} {xs ys : List V}
theorem SqL.of {K : PySem.W.Frag} (h : H a = some (.lst xs)) : SqL K H a xs := .inl (.inl h)
theorem SqT.of {K : PySem.W.Frag} (h : H a = some (.tup xs)) : SqT K H a xs := .inl (.inl h)
theorem Inv.list (I : Inv X pins σ H s) (h : SqL X.K H a xs) : ∃ its : List Value, Vals xs its ∧ PlainL s.heap a its.toArray ∧ xs.length ≤ sizeLine := by
  rcases h with h | ⟨o, its, n, hk, hc, hd, hs, hz, r⟩
  · obtain ⟨z, its, n, r, e⟩ := h.ok I.hok
    exact ⟨its, r, ⟨_, n, e, rfl, rfl, rfl⟩, z⟩
  · refine ⟨its.toList, r, ⟨o, n, I.kIn a o hk, hc, hd, by simpa using hs⟩, ?_⟩
    have e := r.length
    simp only [Array.length_toList] at e
    omega
theorem Inv.tuple (I : Inv X pins σ H s) (h : SqT X.K H a xs) : ∃ its : List Value, Vals xs its ∧ IsTup s.heap a its.toArray ∧ xs.length ≤ sizeLine := by
  rcases h with h | ⟨o, its, n, hk, hc, hs, hz, r⟩
  · obtain ⟨z, its, r, p⟩ := h.ok I.hok
    exact ⟨its, r, p, z⟩
  · refine ⟨its.toList, r, ⟨o, I.kIn a o hk, hc, n, by simpa using hs⟩, ?_⟩
    have e := r.length
    simp only [Array.length_toList] at e
    omega
theorem Inv.list_inj (I : Inv X pins σ H s) (h : SqL X.K H a xs) (h' : SqL X.K H a ys) : xs = ys := by
  obtain ⟨its, r, ⟨o, n, e, _, _, d⟩, _⟩ := I.list h
  obtain ⟨its', r', ⟨o', n', e', _, _, d'⟩, _⟩ := I.list h'
  rw [e] at e'; cases e'
  rw [d] at d'
  injection d' with d1 _
  have : its = its' := by simpa using congrArg Array.toList d1
  subst this
  exact r.inj r'
theorem Inv.tuple_inj (I : Inv X pins σ H s) (h : SqT X.K H a xs) (h' : SqT X.K H a ys) : xs = ys := by
  obtain ⟨its, r, ⟨o, e, _, n, d⟩, _⟩ := I.tuple h
  obtain ⟨its', r', ⟨o', e', _, n', d'⟩, _⟩ := I.tuple h'
  rw [e] at e'; cases e'
  rw [d] at d'
  injection d' with d1 _
  have : its = its' := by simpa using congrArg Array.toList d1
  subst this
  exact r.inj r'
end

abbrev Cx.wish (X : Cx) (E : Value → Shared → Prop) : Cx := { X with xe := E }
/-- no exception leaves -/
abbrev Cx.nox (X : Cx) : Cx := X.wish fun _ _ => False
theorem Cx.Ok.wish {X : Cx} (ok : X.Ok) (E : Value → Shared → Prop) : (X.wish E).Ok :=
  ⟨ok.mod, ok.kind, ok.glob, ok.blt, ok.above, ok.inj, ok.has, ok.cab, ok.hd, ok.frames, ok.stk, ok.exf, ok.bs, ok.bsz, ok.noex, ok.exfs, ok.funs, ok.frf⟩
theorem Cx.Ok.unwish {X : Cx} {E : Value → Shared → Prop} (ok : (X.wish E).Ok) : X.Ok :=
  ⟨ok.mod, ok.kind, ok.glob, ok.blt, ok.above, ok.inj, ok.has, ok.cab, ok.hd, ok.frames, ok.stk, ok.exf, ok.bs, ok.bsz, ok.noex, ok.exfs, ok.funs, ok.frf⟩
section
variable {X : Cx} {pins : List (Addr × Obj)} {σ : St} {H : Hp} {s : Shared} {E : Value → Shared → Prop}
theorem Inv.wish (I : Inv X pins σ H s) (E : Value → Shared → Prop) : Inv (X.wish E) pins σ H s := ⟨I.ok.wish E, I.os, I.bare, I.base, I.loc, I.cell, I.free, I.freeC, I.pin, I.hok, I.len⟩
theorem Inv.unwish (I : Inv (X.wish E) pins σ H s) : Inv X pins σ H s := ⟨I.ok.unwish, I.os, I.bare, I.base, I.loc, I.cell, I.free, I.freeC, I.pin, I.hok, I.len⟩
theorem SP.unwish {D : Ends} {f : Flow} {s' : Shared} (h : SP (X.wish E) pins D f s') : SP X pins D f s' := by
  cases f with
  | next => obtain ⟨σ', H', I, q⟩ := h; exact ⟨σ', H', I.unwish, q⟩
  | brk => obtain ⟨σ', H', I, q⟩ := h; exact ⟨σ', H', I.unwish, q⟩
  | cont => obtain ⟨σ', H', I, q⟩ := h; exact ⟨σ', H', I.unwish, q⟩
  | ret u => obtain ⟨v, σ', H', I, r, q⟩ := h; exact ⟨v, σ', H', I.unwish, r, q⟩
theorem PE.nox {e : Expr} {t : TE} (h : PE X.nox e t) : PE X e t := fun pins s σ H Q I hw =>
  wpAny_mono (h pins s σ H Q (I.wish _) hw) (fun _ _ ⟨v, H', I', r, q⟩ => ⟨v, H', I'.unwish, r, q⟩) fun _ _ z => False.elim z
theorem PT.nox {e : Expr} {t : TT} (h : PT X.nox e t) : PT X e t := fun pins s σ H Q I hw =>
  wpAny_mono (h pins s σ H Q (I.wish _) hw) (fun _ _ ⟨H', I', q⟩ => ⟨H', I'.unwish, q⟩) fun _ _ z => False.elim z
theorem PSs.nox {st : List Stmt} {t : TS} (h : PSs X.nox st t) : PSs X st t := fun pins s σ H D I hw =>
  wpAny_mono (h pins s σ H D (I.wish _) hw) (fun _ _ q => q.unwish) fun _ _ z => False.elim z
end

section
variable {X : Cx} {st : Stmt} {rest : List Stmt} {t u : TS} {e : Expr} {te : TE} {pos : Pos}
def tNext : TS := fun D σ H => D.nx σ H
def tSeq (t u : TS) : TS := fun D σ H => t { D with nx := u D } σ H
theorem pss_nil : PSs X [] tNext := fun _ _ σ H _ I h => wpAny_execs_nil ⟨σ, H, I, h⟩
theorem pss_cons (h1 : PS X st t) (h2 : PSs X rest u) : PSs X (st :: rest) (tSeq t u) := by
  intro pins s σ H D I h
  refine wpAny_execs_cons (thn (h1 pins s σ H { D with nx := u D } I h) fun f s1 q => ?_)
  cases f with
  | next =>
    obtain ⟨σ', H', I', q⟩ := q
    exact h2 pins s1 σ' H' D I' q
  | ret v => exact q
  | brk => exact q
  | cont => exact q
theorem pss_one (h1 : PS X st t) : PSs X [st] t := by
  intro pins s σ H D I h
  refine wpAny_execs_cons (thn (h1 pins s σ H D I h) fun f s1 q => ?_)
  cases f with
  | next => exact wpAny_execs_nil q
  | ret v => exact q
  | brk => exact q
  | cont => exact q
def tBreak : TS := fun D σ H => D.bk σ H
def tCont : TS := fun D σ H => D.ct σ H
/-- in a def's body nothing is shown -/
theorem Inv.quiet {pins : List (Addr × Obj)} {σ : St} {H : Hp} {s : Shared} (I : Inv X pins σ H s) : interactive X.env = false := by simp [interactive, I.ok.kind]
/-- an expression whose value is dropped -/
def tDrop (te : TE) : TS := fun D σ H => te σ H fun _ H1 => D.nx σ H1
theorem ps_expr (he : PE X e te) (hs : swapsWith e none pos.line X.env = pure false := by rfl) : PS X (.Expr e pos) (tDrop te) := by
  intro pins s σ H D I h
  exact wpAny_Expr_any (thn (he pins s σ H _ I h) fun v s1 ⟨x, H1, I1, r1, q1⟩ => ⟨σ, H1, I1, q1⟩) I.quiet hs
def tRet (te : TE) : TS := fun D σ H => te σ H D.rt
theorem ps_ret (he : PE X e te) : PS X (.Return (some e) pos) (tRet te) := by
  intro pins s σ H D I h
  exact wpAny_Return_some (thn (he pins s σ H _ I h) fun v s1 ⟨x, H1, I1, r1, q1⟩ => ⟨x, σ, H1, I1, r1, q1⟩)
def tRetN : TS := fun D _ H => D.rt .non H
def tIfS (c : TT) (t u : TS) : TS := fun D σ H => c σ H fun b H1 => if b = true then t D σ H1 else u D σ H1
theorem ps_if {c : Expr} {a b : List Stmt} {tc : TT} (hc : PT X c tc) (ha : PSs X a t) (hb : PSs X b u) : PS X (.If c a b pos) (tIfS tc t u) := by
  intro pins s σ H D I h
  refine wpAny_If (thn (hc pins s σ H _ I h) fun d s1 ⟨H1, I1, q1⟩ => ?_)
  cases d with
  | true => exact ha pins s1 σ H1 D I1 q1
  | false => exact hb pins s1 σ H1 D I1 q1
end

abbrev TG := V → St → Hp → (St → Hp → Prop) → Prop
abbrev TGs := List V → St → Hp → (St → Hp → Prop) → Prop
def PG (X : Cx) (target : Expr) (t : TG) : Prop :=
  ∀ (pins : List (Addr × Obj)) (s : Shared) (σ : St) (H : Hp) (v : V) (u : Value) (Q : St → Hp → Prop), Inv X pins σ H s → RelV v u → t v σ H Q →
    wpAny (model X.prog X.w) X.A (assign target X.env u) (fun _ s' => ∃ σ' H', Inv X pins σ' H' s' ∧ Q σ' H') X.xe s
/-- several targets, one after another -/
def PGs (X : Cx) (ts : List Expr) (t : TGs) : Prop :=
  ∀ (pins : List (Addr × Obj)) (s : Shared) (σ : St) (H : Hp) (vs : List V) (us : List Value) (Q : St → Hp → Prop), Inv X pins σ H s → Vals vs us → t vs σ H Q →
    wpAny (model X.prog X.w) X.A (assignInOrder ((assignEach ts X.env).map (·.2)) us) (fun _ s' => ∃ σ' H', Inv X pins σ' H' s' ∧ Q σ' H') X.xe s
section
variable {X : Cx} {pos : Pos}
def gName (i : Nat) : TG := fun v σ H Q => Q (σ.set i (some v)) H
theorem pg_name {i : Nat} {x : Str} (hN : X.N.Nodup) (hi : X.N[i]? = some x) (hx : Loc X.env.scope x) (hf : X.fn x = true ∨ X.env.scope.names.lookup x = some .local := by first | exact .inl rfl | exact .inr rfl | assumption) : PG X (.Name x pos) (gName i) := by
  intro pins s σ H v u Q I r h
  exact wpAny_assign_Name (store_ok I hN hi hx r (fun s' I' => ⟨_, H, I', h⟩) hf)
def gNil : TGs := fun vs σ H Q => vs = [] ∧ Q σ H
def gCons (t : TG) (u : TGs) : TGs := fun vs σ H Q => ∃ v r, vs = v :: r ∧ t v σ H fun σ' H' => u r σ' H' Q
theorem pgs_nil : PGs X [] gNil := by
  intro pins s σ H vs us Q I r h
  obtain ⟨e, h⟩ := h
  subst e
  cases r
  exact assignInOrder_nil ⟨σ, H, I, h⟩
theorem pgs_cons {e : Expr} {es : List Expr} {t : TG} {u : TGs} (h1 : PG X e t) (h2 : PGs X es u)
    (hs : (assignEach (e :: es) X.env).map (·.2) = assign e X.env :: (assignEach es X.env).map (·.2) := by rfl) : PGs X (e :: es) (gCons t u) := by
  intro pins s σ H vs us Q I r h
  obtain ⟨v, vr, e1, h⟩ := h
  subst e1
  cases r with
  | cons r rr =>
    rw [hs]
    refine assignInOrder_cons (thn (h1 pins s σ H _ _ _ I r h) fun _ s1 ⟨σ1, H1, I1, q1⟩ => ?_)
    exact h2 pins s1 σ1 H1 _ _ Q I1 rr q1
/-- (a, b, ..) = a tuple of that length -/
def gTup (K : PySem.W.Frag) (n : Nat) (t : TGs) : TG := fun v σ H Q => ∃ a xs, v = .ref a ∧ SqT K H a xs ∧ xs.length = n ∧ t xs σ H Q
theorem pg_tup {es : List Expr} {k : Nat} {t : TGs} {n : Nat} (hc : X.calm = true) (h : PGs X es t)
    (hn : (assignEach es X.env).length = n := by rfl) (hst : (assignEach es X.env).findIdx? (·.1) = none := by rfl) : PG X (.Tuple es k pos) (gTup X.K n t) := by
  intro pins s σ H v u Q I r hw
  obtain ⟨a, xs, e1, hq, hl, hw⟩ := hw
  subst e1
  cases r
  obtain ⟨its, rv, ht, hz⟩ := I.tuple hq
  refine assign_Tuple_tuple (I.ok.hd hc) ht (by simp [hn, ← hl, rv.length]) hst fun h' hx => ?_
  have I1 : Inv X pins σ H { s with heap := h' } := I.kept (t' := s.toks) fun b o e => hx b o (Nat.ne_of_lt (Heap.lt_size e)) e
  exact h pins _ σ H xs _ Q I1 (by simpa using rv) hw
/-- target = value -/
def tAsg (te : TE) (g : TG) : TS := fun D σ H => te σ H fun x H1 => g x σ H1 D.nx
theorem ps_asg {tg e : Expr} {te : TE} {g : TG} (he : PE X e te) (hg : PG X tg g) (hs : swapsWithSole [tg] e pos.line X.env = pure false := by rfl) (hw : swappedStores [tg] e X.env = pure none := by rfl)
    (h1 : (assignEach [tg] X.env).map (·.2) = [assign tg X.env] := by rfl) : PS X (.Assign [tg] e pos) (tAsg te g) := by
  intro pins s σ H D I h
  refine wpAny_Assign_stores (thn (he pins s σ H _ I h) fun v s1 ⟨x, H1, I1, r1, q1⟩ => ?_) hs hw
  rw [h1]
  exact thn (hg pins s1 σ H1 x v _ I1 r1 q1) fun _ s2 q => q
/-- name = value -/
theorem ps_set {i : Nat} {x : Str} {e : Expr} {te : TE} {pos' : Pos} (hN : X.N.Nodup) (hi : X.N[i]? = some x) (hx : Loc X.env.scope x) (he : PE X e te) (hs : swapsWith e (some (.Name x pos')) pos.line X.env = pure false := by rfl) (hf : X.fn x = true ∨ X.env.scope.names.lookup x = some .local := by first | exact .inl rfl | exact .inr rfl | assumption) :
    PS X (.Assign [.Name x pos'] e pos) (tAsg te (gName i)) := by
  intro pins s σ H D I h
  refine wpAny_Assign_Name (thn (he pins s σ H _ I h) fun v s1 ⟨y, H1, I1, r1, q1⟩ => ?_) hs
  exact store_ok I1 hN hi hx r1 (fun s2 I2 => ⟨_, H1, I2, q1⟩) hf
/-- a, b = x, y with plain local names: stored from the right; the pair itself is not tracked (the opening rows as in PyProof/Rows/TupAssign.lean:23) -/
def tPar (i j : Nat) (ta : TA) : TS := fun D σ H => ta σ H fun vs H1 => ∃ v w, vs = [v, w] ∧ D.nx ((σ.set i (some v)).set j (some w)) H1
theorem ps_par {i j : Nat} {x y : Str} {a b : Expr} {ta : TA} {px py pt : Pos} {kt k2 pt2} (hc : X.calm = true) (hN : X.N.Nodup) (hi : X.N[i]? = some x) (hj : X.N[j]? = some y) (hij : i ≠ j)
    (hx : X.env.scope.names.lookup x = some .local) (hy : X.env.scope.names.lookup y = some .local) (ha : PA X [a, b] ta)
    (hw : swappedStores [.Tuple [.Name x px, .Name y py] kt pt] (.Tuple [a, b] k2 pt2) X.env = pure (some [x, y]))
    (hs : swapsWithSole [.Tuple [.Name x px, .Name y py] kt pt] (.Tuple [a, b] k2 pt2) pos.line X.env = pure false := by rfl) :
    PS X (.Assign [.Tuple [.Name x px, .Name y py] kt pt] (.Tuple [a, b] k2 pt2) pos) (tPar i j ta) := by
  intro pins s σ H D I h
  rw [exec_Assign_arm]
  refine wpAny_bind (wpAny_standAt ?_)
  rw [hs]
  refine wpAny_bind (wpAny_pure ?_)
  rw [if_neg (by decide)]
  refine wpAny_bind (Tuple_ (thn (ha _ pins s σ H _ I h) fun us s1 ⟨vs, H1, I1, r1, q1⟩ => ?_))
  obtain ⟨v, w, e1, q1⟩ := q1
  subst e1
  obtain ⟨u1, u2, rfl, rv, rw'⟩ : ∃ u1 u2, us = [u1, u2] ∧ RelV v u1 ∧ RelV w u2 := by
    cases r1 with
    | cons p q =>
      cases q with
      | cons p' q' =>
        cases q'
        exact ⟨_, _, rfl, p, p'⟩
  refine wpAny_newObj_type ?_ (by show 2 ≤ sizeLine; decide)
  have I2 : Inv X pins σ H1 { s1 with heap := s1.heap.push { cls := .type "tuple", data := .seq [u1, u2].toArray } } := I1.kept (t' := s1.toks) fun b o e => Heap.get?_push_of_some _ e
  rw [hw]
  refine wpAny_bind (wpAny_pure ?_)
  show wpAny (model X.prog X.w) X.A (do rule "assign.swapped-stores"; let items ← unpackItems (.ref s1.heap.objs.size) 2 none; assignInOrder [fun v => bindName X.env y v, fun v => bindName X.env x v] items.reverse; pure Flow.next) _ _ _
  refine wpAny_bind (wpAny_rule (wpAny_bind (unpackItems_tuple (items := #[u1, u2]) (I.ok.hd hc) (IsTup.new s1.heap _) fun h' hx' => ?_)))
  have I3 := I2.kept (h' := h') (t' := s1.toks) fun b o e => hx' b o (Nat.ne_of_lt (Heap.lt_size e)) e
  show wpAny _ _ (assignInOrder [fun v => bindName X.env y v, fun v => bindName X.env x v] [u2, u1] >>= fun _ => pure Flow.next) _ _ _
  refine wpAny_bind (assignInOrder_cons (wpAny_bindName (store_ok I3 hN hj (.inl hy) rw' (fun s2 I4 => ?_) (.inr hy))))
  refine assignInOrder_cons (wpAny_bindName (store_ok I4 hN hi (.inl hx) rv (fun s3 I5 => assignInOrder_nil (wpAny_pure ?_)) (.inr hx)))
  rw [List.set_comm _ _ (Ne.symm hij)] at I5
  exact ⟨_, H1, I5, q1⟩
end

section
variable {X : Cx} {pos : Pos}
/-- the invariant W with its measure -/
def tWhile (c : TT) (tb : TS) : TS := fun D σ H => ∃ W : Nat → St → Hp → Prop, (∃ m, W m σ H) ∧ ∀ m σ H, W m σ H →
  c σ H fun b H1 => if b = true then ∃ N : St → Hp → Prop, (∀ σ' H', N σ' H' → ∃ m', m' < m ∧ W m' σ' H') ∧ tb { D with nx := N, ct := N, bk := D.nx } σ H1 else D.nx σ H1
theorem ps_while {c : Expr} {body : List Stmt} {tc : TT} {tb : TS} (hp : PassesOwn (model X.prog X.w) X.A X.env X.xe) (hc : PT X c tc) (hb : PSs X body tb) : PS X (.While c body [] pos) (tWhile tc tb) := by
  intro pins s σ H D I h
  obtain ⟨W, ⟨m0, w0⟩, turn⟩ := h
  refine wpAny_While (codeAny_whileLoop (fun n s' => ∃ σ' H', Inv X pins σ' H' s' ∧ W n σ' H') ?_ m0 ⟨σ, H, I, w0⟩)
  rintro n s1 ⟨σ1, H1, I1, w1⟩
  refine wpAny_passesOwn hp (thn (hc pins s1 σ1 H1 _ I1 (turn n σ1 H1 w1)) fun b s2 ⟨H2, I2, q2⟩ => ?_)
  cases b with
  | true =>
    obtain ⟨N, hN, q2⟩ := q2
    rw [if_pos rfl]
    refine wpAny_passesOwn hp (thn (hb pins s2 σ1 H2 _ I2 q2) fun f s3 q3 => ?_)
    cases f with
    | next =>
      obtain ⟨σ3, H3, I3, n3⟩ := q3
      obtain ⟨m', hm, w3⟩ := hN σ3 H3 n3
      exact ⟨m', hm, σ3, H3, I3, w3⟩
    | cont =>
      obtain ⟨σ3, H3, I3, n3⟩ := q3
      obtain ⟨m', hm, w3⟩ := hN σ3 H3 n3
      exact ⟨m', hm, σ3, H3, I3, w3⟩
    | brk => exact q3
    | ret v => exact q3
  | false =>
    rw [if_neg Bool.false_ne_true]
    exact wpAny_execs_nil ⟨σ1, H2, I2, q2⟩
end

/-- at turn i: it yields x (the heap may grow), or it stops -/
structure It where
  go : Nat → Hp → Prop
  yld : Nat → Hp → V → Hp → Prop
  stop : Nat → Hp → Prop
/-- the iterator's own objects may turn: they are not the frame's, not pinned, younger than the entry (or a comprehension's own) -/
def FpOk (X : Cx) (pins : List (Addr × Obj)) (H : Hp) (b : Addr) : Prop :=
  H b = none ∧ b ≠ X.env.locals ∧ b ∉ X.fs ∧ (b ∈ X.ex ∨ X.s₀.heap.objs.size ≤ b) ∧ (∀ x c, X.env.cells.lookup x = some c → c ≠ b) ∧ ∀ p ∈ X.pn ++ pins, p.1 ≠ b
theorem Inv.fpOk {X : Cx} {pins : List (Addr × Obj)} {σ : St} {H H' : Hp} {s : Shared} {b : Addr} (I : Inv X pins σ H s) (hb : s.heap.objs.size ≤ b) (hn : H' b = none) : FpOk X pins H' b := by
  refine ⟨hn, Nat.ne_of_gt (Nat.lt_of_lt_of_le I.lt hb), I.nofs hb, .inr (Nat.le_trans I.sz hb), fun x c e z => ?_, fun p hp z => ?_⟩
  · obtain ⟨v, q⟩ := I.cell x c e
    exact absurd (Nat.lt_of_lt_of_le q.lt (by rw [z]; exact hb)) (Nat.lt_irrefl _)
  · exact absurd (Nat.lt_of_lt_of_le (Heap.lt_size (I.pin p hp).1) (by rw [z]; exact hb)) (Nat.lt_irrefl _)
structure Turn (P : Program) (w : World) (K : PySem.W.Frag) (tg : Expr) (J : It) (fp : List Addr) (it : Addr) (tn : Nat → Heap → Prop) : Prop where
  mem : it ∈ fp
  obj : ∀ i h, tn i h → ∀ b ∈ fp, ∃ o, h.get? b = some o ∧ ∀ v, o.data ≠ .cell v
  keep : ∀ i h h', tn i h → (∀ b ∈ fp, ∀ o, h.get? b = some o → h'.get? b = some o) → tn i h'
  item : ∀ (X : Cx), X.prog = P → X.w = w → X.K = K → X.calm = true → ∀ (i : Nat) (pins : List (Addr × Obj)) (s : Shared) (σ : St) (H : Hp) (E : Value → Shared → Prop), Inv X pins σ H s → (∀ b ∈ fp, FpOk X pins H b) → tn i s.heap → J.go i H →
    wpAny (model P w) X.A (pyNext (.ref it)) (fun r s1 => ∃ u, r = some u ∧
      wpAny (model P w) X.A (letOwnedTupleGo tg (.ref it) u) (fun _ s2 => ∃ x H', Inv X pins σ H' s2 ∧ RelV x u ∧ J.yld i H x H' ∧ tn (i + 1) s2.heap ∧ ∀ b ∈ fp, H' b = none) E s1) E s
  done : ∀ (X : Cx), X.prog = P → X.w = w → X.K = K → X.calm = true → ∀ (i : Nat) (pins : List (Addr × Obj)) (s : Shared) (σ : St) (H : Hp) (E : Value → Shared → Prop), Inv X pins σ H s → (∀ b ∈ fp, FpOk X pins H b) → tn i s.heap → J.stop i H →
    wpAny (model P w) X.A (pyNext (.ref it)) (fun r s1 => r = none ∧ Inv X pins σ H s1) E s
  self : ∀ (A : Around) (i : Nat) (s : Shared) (Q : Value → Shared → Prop) (E : Value → Shared → Prop), tn i s.heap → Q (.ref it) s → wpAny (model P w) A (pyIter (.ref it)) Q E s
abbrev TI := St → Hp → (It → Hp → Prop) → Prop
/-- an iterator has come -/
def PIE (X : Cx) (pins : List (Addr × Obj)) (σ : St) (tg : Expr) (R : It → Hp → Prop) (itv : Value) (s2 : Shared) : Prop :=
  ∃ (it : Addr) (fp : List Addr) (tn : Nat → Heap → Prop) (J : It) (H' : Hp), itv = .ref it ∧ Inv X pins σ H' s2 ∧ Turn X.prog X.w X.K tg J fp it tn ∧ tn 0 s2.heap ∧ (∀ b ∈ fp, FpOk X pins H' b) ∧ R J H'
def PI (X : Cx) (tg iter : Expr) (wi : TI) : Prop :=
  ∀ (pins : List (Addr × Obj)) (s : Shared) (σ : St) (H : Hp) (R : It → Hp → Prop), Inv X pins σ H s → wi σ H R →
    wpAny (model X.prog X.w) X.A (eval iter X.env) (fun v s1 => wpAny (model X.prog X.w) X.A (pyIter v) (PIE X pins σ tg R) X.xe s1) X.xe s

/-- the step ahead of the store is nothing for an iterator that keeps no tuple -/
theorem go_of {M : Model} {A : Around} {E : Value → Shared → Prop} {s : Shared} {tg : Expr} {it : Addr} {u : Value} {o : Obj} {n : String} {vs : Array Value} {Q : Unit → Shared → Prop} (ho : s.heap.get? it = some o) (hc : o.cls = .type n) (hd : o.data = .fields vs)
    (hn : ["enumerate", "zip", "dict_itemiterator", "dict_reverseitemiterator", "odict_iterator", "itertools.zip_longest", "itertools.pairwise"].contains n = false) (hQ : Q () s) : wpAny M A (letOwnedTupleGo tg (.ref it) u) Q E s := by
  unfold letOwnedTupleGo
  cases tg <;> first
    | exact wpAny_pure hQ
    | (cases u <;> first
        | exact wpAny_pure hQ
        | (refine wpAny_bind (wpAny_load ho ?_)
           rw [hc, hd]
           show wpAny M A (if (["enumerate", "zip", "dict_itemiterator", "dict_reverseitemiterator", "odict_iterator", "itertools.zip_longest", "itertools.pairwise"].contains n && vs[0]? == some (rawInt _)) = true then _ else _) Q E s
           rw [if_neg (by intro h; rw [hn, Bool.false_and] at h; cases h)]
           exact wpAny_pure hQ))

/-- the list at a, as it stands at each turn (a loop may append to it) -/
def Itl (K : PySem.W.Frag) (a : Addr) : It :=
  ⟨fun i H => ∃ xs x, SqL K H a xs ∧ xs[i]? = some x, fun i H x H' => H' = H ∧ ∀ xs, SqL K H a xs → xs[i]? = some x, fun i H => ∃ xs, SqL K H a xs ∧ xs.length ≤ i⟩
def Itt (K : PySem.W.Frag) (a : Addr) : It :=
  ⟨fun i H => ∃ xs x, SqT K H a xs ∧ xs[i]? = some x, fun i H x H' => H' = H ∧ ∀ xs, SqT K H a xs → xs[i]? = some x, fun i H => ∃ xs, SqT K H a xs ∧ xs.length ≤ i⟩
/-- lo, lo + 1, .. (n of them) -/
def Itr (lo : Int) (n : Nat) : It := ⟨fun i _ => i < n, fun i H x H' => H' = H ∧ x = .int (lo + i), fun i _ => n ≤ i⟩
theorem turn_list {P : Program} {w : World} {K : PySem.W.Frag} {tg : Expr} (a it : Addr) : Turn P w K tg (Itl K a) [it] it (fun i h => h.IsListIter it a i) where
  mem := by simp
  obj := fun i h st b hb => by
    have e : b = it := by simpa using hb
    subst e
    obtain ⟨o, e, c, d⟩ := st
    exact ⟨o, e, fun v z => by rw [d] at z; cases z⟩
  keep := fun i h h' st k => st.at fun o e => k it (by simp) o e
  item := by
    intro X hP hw hK hc i pins s σ H E I hf st hg
    subst hP hw hK
    obtain ⟨xs, x, hq, hx⟩ := hg
    obtain ⟨its, rv, p, hz⟩ := I.list hq
    obtain ⟨u, hu, ru⟩ := rv.get hx
    obtain ⟨f0, f1, f2, f3, f4, f5⟩ := hf it (by simp)
    refine wpAny_pyNext_list_item st p.isList (x := u) (by simpa using hu) fun h' st' sb => ?_
    have I1 : Inv X pins σ H { s with heap := h' } := I.turned (t' := s.toks) (fun b o hb e => (sb.2 b hb).trans e) f0 f1 f3 f4 f5
    obtain ⟨o, e, c, d⟩ := id st'
    exact ⟨u, rfl, go_of (s := { s with heap := h' }) e c d (by decide) ⟨x, H, I1, ru, ⟨rfl, fun ys hy => by rw [I.list_inj hy hq]; exact hx⟩, st', fun b hb => (hf b hb).1⟩⟩
  done := by
    intro X hP hw hK hc i pins s σ H E I hf st hg
    subst hP hw hK
    obtain ⟨xs, hq, hx⟩ := hg
    obtain ⟨its, rv, p, hz⟩ := I.list hq
    obtain ⟨f0, f1, f2, f3, f4, f5⟩ := hf it (by simp)
    have hl := rv.length
    exact wpAny_pyNext_list_end (I.ok.hd hc) st p.isList (by simp; omega) fun h' eb => ⟨rfl, I.turned (t' := s.toks) (fun b o hb e => eb b o hb e) f0 f1 f3 f4 f5⟩
  self := fun _ _ _ _ _ st h => wpAny_pyIter_listiter st h
theorem turn_tuple {P : Program} {w : World} {K : PySem.W.Frag} {tg : Expr} (a it : Addr) : Turn P w K tg (Itt K a) [it] it (fun i h => h.IsTupleIter it a i) where
  mem := by simp
  obj := fun i h st b hb => by
    have e : b = it := by simpa using hb
    subst e
    obtain ⟨o, e, c, d⟩ := st
    exact ⟨o, e, fun v z => by rw [d] at z; cases z⟩
  keep := fun i h h' st k => st.at fun o e => k it (by simp) o e
  item := by
    intro X hP hw hK hc i pins s σ H E I hf st hg
    subst hP hw hK
    obtain ⟨xs, x, hq, hx⟩ := hg
    obtain ⟨its, rv, p, hz⟩ := I.tuple hq
    obtain ⟨u, hu, ru⟩ := rv.get hx
    obtain ⟨f0, f1, f2, f3, f4, f5⟩ := hf it (by simp)
    refine wpAny_pyNext_tuple_item st (show s.heap.IsTuple a its.toArray from p) (x := u) (by simpa using hu) fun h' st' sb => ?_
    have I1 : Inv X pins σ H { s with heap := h' } := I.turned (t' := s.toks) (fun b o hb e => (sb.2 b hb).trans e) f0 f1 f3 f4 f5
    obtain ⟨o, e, c, d⟩ := id st'
    exact ⟨u, rfl, go_of (s := { s with heap := h' }) e c d (by decide) ⟨x, H, I1, ru, ⟨rfl, fun ys hy => by rw [I.tuple_inj hy hq]; exact hx⟩, st', fun b hb => (hf b hb).1⟩⟩
  done := by
    intro X hP hw hK hc i pins s σ H E I hf st hg
    subst hP hw hK
    obtain ⟨xs, hq, hx⟩ := hg
    obtain ⟨its, rv, p, hz⟩ := I.tuple hq
    obtain ⟨f0, f1, f2, f3, f4, f5⟩ := hf it (by simp)
    have hl := rv.length
    exact wpAny_pyNext_tuple_end (I.ok.hd hc) st (show s.heap.IsTuple a its.toArray from p) (by simp; omega) fun h' eb => ⟨rfl, I.turned (t' := s.toks) (fun b o hb e => eb b o hb e) f0 f1 f3 f4 f5⟩
  self := fun _ _ _ _ _ st h => wpAny_pyIter_tupleiter st h
theorem turn_range {P : Program} {w : World} {K : PySem.W.Frag} {tg : Expr} (it : Addr) (lo : Int) (n : Nat) : Turn P w K tg (Itr lo n) [it] it (fun i h => IsRangeIter h it (lo + (i : Nat) * 1) ((n : Int) - (i : Nat)) 1) where
  mem := by simp
  obj := fun i h st b hb => by
    have e : b = it := by simpa using hb
    subst e
    exact ⟨_, st, fun v z => by
      have z' : Data.fields _ = Data.cell v := z
      cases z'⟩
  keep := fun i h h' st k => k it (by simp) _ st
  item := by
    intro X hP hw hK hc i pins s σ H E I hf st hg
    subst hP hw hK
    obtain ⟨f0, f1, f2, f3, f4, f5⟩ := hf it (by simp)
    have W := Walks.range (prog := X.prog) (w := X.w) (I.ok.hd hc) it lo 1 n
    refine W.item i s _ _ hg st fun v h' tk hv st' kk => ?_
    obtain ⟨t, rfl⟩ := hv
    have I1 : Inv X pins σ H { s with heap := h', toks := tk } := I.turned (fun b o hb e => kk b o (by simpa using hb) e) f0 f1 f3 f4 f5
    refine ⟨_, rfl, go_of (s := { s with heap := h', toks := tk }) (n := "range_iterator") st' rfl rfl (by decide) ⟨.int (lo + i), H, I1, ⟨t, ?_⟩, ⟨rfl, rfl⟩, st', fun b hb => (hf b hb).1⟩⟩
    rw [Int.mul_one]
  done := by
    intro X hP hw hK hc i pins s σ H E I hf st hg
    subst hP hw hK
    obtain ⟨f0, f1, f2, f3, f4, f5⟩ := hf it (by simp)
    exact wpAny_pyNext_range_end (I.ok.hd hc) st (by have : n ≤ i := hg; omega) fun h' eb => ⟨rfl, I.turned (t' := s.toks) (fun b o hb e => eb b o hb e) f0 f1 f3 f4 f5⟩
  self := fun _ _ _ _ _ st h => wpAny_pyIter_rangeiter st h
end L2

namespace L2
open PySem PySem.Spec PyProof.Rows
section
variable {X : Cx} {tg : Expr}
def iList (K : PySem.W.Frag) (tl : TE) : TI := fun σ H R => tl σ H fun x H1 => ∃ a, x = .ref a ∧ (∃ xs, SqL K H1 a xs) ∧ R (Itl K a) H1
def iTup (K : PySem.W.Frag) (tl : TE) : TI := fun σ H R => tl σ H fun x H1 => ∃ a, x = .ref a ∧ (∃ xs, SqT K H1 a xs) ∧ R (Itt K a) H1
theorem pi_list {l : Expr} {tl : TE} (hl : PE X l tl) : PI X tg l (iList X.K tl) := by
  intro pins s σ H R I h
  refine thn (hl pins s σ H _ I h) fun v s1 ⟨x, H1, I1, r1, q1⟩ => ?_
  obtain ⟨a, e, ⟨xs, hq⟩, q⟩ := q1
  subst e
  cases r1
  obtain ⟨its, rv, p, hz⟩ := I1.list hq
  refine wpAny_pyIter_list p.isList ?_
  refine ⟨s1.heap.objs.size, [s1.heap.objs.size], _, _, H1, rfl, I1.kept (t' := s1.toks) fun b o e => Heap.get?_push_of_some _ e, turn_list a _, ⟨_, Heap.get?_push_size _ rfl, rfl, rfl⟩, fun b hb => ?_, q⟩
  have e : b = s1.heap.objs.size := by simpa using hb
  subst e
  exact I1.fpOk (Nat.le_refl _) (I1.hok.fresh (Nat.le_refl _))
theorem pi_tup {l : Expr} {tl : TE} (hl : PE X l tl) : PI X tg l (iTup X.K tl) := by
  intro pins s σ H R I h
  refine thn (hl pins s σ H _ I h) fun v s1 ⟨x, H1, I1, r1, q1⟩ => ?_
  obtain ⟨a, e, ⟨xs, hq⟩, q⟩ := q1
  subst e
  cases r1
  obtain ⟨its, rv, p, hz⟩ := I1.tuple hq
  refine wpAny_pyIter_tuple (show s1.heap.IsTuple a its.toArray from p) ?_
  refine ⟨s1.heap.objs.size, [s1.heap.objs.size], _, _, H1, rfl, I1.kept (t' := s1.toks) fun b o e => Heap.get?_push_of_some _ e, turn_tuple a _, ⟨_, Heap.get?_push_size _ rfl, rfl, rfl⟩, fun b hb => ?_, q⟩
  have e : b = s1.heap.objs.size := by simpa using hb
  subst e
  exact I1.fpOk (Nat.le_refl _) (I1.hok.fresh (Nat.le_refl _))
/-- a range object just made, walked -/
theorem range_it {pins : List (Addr × Obj)} {σ : St} {H : Hp} {s : Shared} {R : It → Hp → Prop} {E : Value → Shared → Prop} {lo hi : Int} {t u v : Tok} {tk : Nat} (I : Inv X pins σ H s) (h1 : -(2 ^ 62) ≤ lo) (h2 : lo < 2 ^ 62) (h3 : -(2 ^ 62) ≤ hi) (h4 : hi < 2 ^ 62)
    (q : R (Itr lo (hi - lo).toNat) H) : wpAny (model X.prog X.w) X.A (pyIter (.ref s.heap.objs.size)) (PIE X pins σ tg R) E { s with heap := s.heap.push { cls := .type "range", data := .fields #[.int lo t, .int hi u, .int 1 v] }, toks := tk } := by
  refine wpAny_pyIter_range (IsRange.new ..) (small_one h1 h2 h3 h4) ?_
  have I1 : Inv X pins σ H { s with heap := s.heap.push { cls := .type "range", data := .fields #[.int lo t, .int hi u, .int 1 v] }, toks := tk } := I.kept fun b o e => Heap.get?_push_of_some _ e
  refine ⟨(s.heap.push { cls := .type "range", data := .fields #[.int lo t, .int hi u, .int 1 v] }).objs.size, [(s.heap.push { cls := .type "range", data := .fields #[.int lo t, .int hi u, .int 1 v] }).objs.size], _, _, H, rfl,
    I1.kept (t' := tk) fun b o e => Heap.get?_push_of_some _ e, turn_range _ lo (hi - lo).toNat, ?_, fun b hb => ?_, q⟩
  · have e1 : lo + ((0 : Nat) : Int) * 1 = lo := by simp
    have e2 : (((hi - lo).toNat : Nat) : Int) - ((0 : Nat) : Int) = Builtin.Range.rangeSize lo hi 1 := by rw [rangeSize_one]; split <;> omega
    show IsRangeIter _ _ (lo + ((0 : Nat) : Int) * 1) ((((hi - lo).toNat : Nat) : Int) - ((0 : Nat) : Int)) 1
    rw [e1, e2]
    exact Heap.get?_push_size _ rfl
  · have e : b = (s.heap.push { cls := .type "range", data := .fields #[.int lo t, .int hi u, .int 1 v] }).objs.size := by simpa using hb
    subst e
    exact I1.fpOk (Nat.le_refl _) (I1.hok.fresh (Nat.le_refl _))
def iRng1 (ta : TA) : TI := fun σ H R => ta σ H fun vs H1 => ∃ j : Int, vs = [.int j] ∧ -(2 ^ 62) ≤ j ∧ j < 2 ^ 62 ∧ R (Itr 0 j.toNat) H1
def iRng2 (ta : TA) : TI := fun σ H R => ta σ H fun vs H1 => ∃ i j : Int, vs = [.int i, .int j] ∧ (-(2 ^ 62) ≤ i ∧ i < 2 ^ 62 ∧ -(2 ^ 62) ≤ j ∧ j < 2 ^ 62) ∧ R (Itr i (j - i).toNat) H1
theorem pi_range1 {a : Expr} {ta : TA} {p pos : Pos} (hg : Gl X "range") (hm : X.mg "range" = none) (ha : PA X [a] ta) (hs : starEach [a] X.env = [(false, eval a X.env)] := by rfl) : PI X tg (.Call (.Name "range" p) [a] [] pos) (iRng1 ta) := by
  intro pins s σ H R I h
  refine Call_ (ld_blt I hg hm boot_range (PyProof.Rows.callWith_type1 (thn (ha pos pins s σ H _ I h) fun us s1 ⟨vs, H1, I1, r1, q1⟩ => ?_) hs rfl))
  obtain ⟨j, e, q1, q2, q⟩ := q1
  subst e
  cases r1 with
  | cons r rr =>
    cases rr
    obtain ⟨t, rfl⟩ := r
    exact call_range_1 (range_it I1 (by omega) (by omega) q1 q2 (by simpa using q))
theorem pi_range2 {a b : Expr} {ta : TA} {p pos : Pos} (hg : Gl X "range") (hm : X.mg "range" = none) (ha : PA X [a, b] ta) (hs : starEach [a, b] X.env = [(false, eval a X.env), (false, eval b X.env)] := by rfl) (hs2 : starEach [b] X.env = [(false, eval b X.env)] := by rfl) :
    PI X tg (.Call (.Name "range" p) [a, b] [] pos) (iRng2 ta) := by
  intro pins s σ H R I h
  refine Call_ (ld_blt I hg hm boot_range (PyProof.Rows.callWith_type1 (thn (ha pos pins s σ H _ I h) fun us s1 ⟨vs, H1, I1, r1, q1⟩ => ?_) (by rw [hs, hs2]) (by rw [hs2]; rfl)))
  obtain ⟨i, j, e, ⟨q1, q2, q3, q4⟩, q⟩ := q1
  subst e
  cases r1 with
  | cons r rr =>
    cases rr with
    | cons r' rr =>
      cases rr
      obtain ⟨t, rfl⟩ := r
      obtain ⟨t', rfl⟩ := r'
      exact call_range_2 (range_it I1 q1 q2 q3 q4 q)

/-- W: the invariant by the turn and a measure; N: what the body is to reach -/
def tFor (wi : TI) (g : TG) (tb : TS) : TS := fun D σ H => wi σ H fun J H1 => ∃ W : Nat → Nat → St → Hp → Prop, (∃ m, W 0 m σ H1) ∧ ∀ i m σ H, W i m σ H →
  (J.stop i H ∧ D.nx σ H) ∨ (J.go i H ∧ ∃ N : St → Hp → Prop, (∀ σ' H', N σ' H' → ∃ m', m' < m ∧ W (i + 1) m' σ' H') ∧ ∀ x H', J.yld i H x H' → g x σ H' fun σ2 H2 => tb { D with nx := N, ct := N, bk := D.nx } σ2 H2)
/-- the records at fp as they stand -/
def pinsAt (fp : List Addr) (h : Heap) : List (Addr × Obj) := fp.filterMap fun b => (h.get? b).map fun o => (b, o)
theorem mem_pinsAt {fp : List Addr} {h : Heap} {b : Addr} {o : Obj} (hb : b ∈ fp) (e : h.get? b = some o) : (b, o) ∈ pinsAt fp h := List.mem_filterMap.mpr ⟨b, hb, by rw [e]; rfl⟩
theorem of_pinsAt {fp : List Addr} {h : Heap} {p : Addr × Obj} (hp : p ∈ pinsAt fp h) : p.1 ∈ fp ∧ h.get? p.1 = some p.2 := by
  obtain ⟨b, hb, e⟩ := List.mem_filterMap.mp hp
  cases q : h.get? b with
  | none => rw [q] at e; cases e
  | some o =>
    rw [q] at e
    have e' : (b, o) = p := Option.some.inj e
    subst e'
    exact ⟨hb, q⟩
theorem Inv.pinned {pins : List (Addr × Obj)} {σ : St} {H : Hp} {s : Shared} {fp : List Addr} (I : Inv X pins σ H s) (hf : ∀ b ∈ fp, FpOk X pins H b) (ho : ∀ b ∈ fp, ∃ o, s.heap.get? b = some o ∧ ∀ v, o.data ≠ .cell v) : Inv X (pins ++ pinsAt fp s.heap) σ H s :=
  I.pins_of fun p hp => (List.mem_append.mp hp).elim (fun z => I.pin p (List.mem_append_right _ z)) fun z => by
    obtain ⟨hb, e⟩ := of_pinsAt z
    obtain ⟨f0, f1, f2, _⟩ := hf p.1 hb
    obtain ⟨o, e', d⟩ := ho p.1 hb
    rw [e] at e'; cases e'
    exact ⟨e, f0, f1, f2, d⟩
theorem Inv.unpinned {pins pl : List (Addr × Obj)} {σ : St} {H : Hp} {s : Shared} (I : Inv X (pins ++ pl) σ H s) : Inv X pins σ H s := I.pins_of fun p hp => I.pin p (List.mem_append_right _ (List.mem_append_left _ hp))
theorem ps_for {iter : Expr} {body : List Stmt} {wi : TI} {g : TG} {tb : TS} {pos : Pos} (hp : PassesOwn (model X.prog X.w) X.A X.env X.xe) (hc : X.calm = true) (hi : PI X tg iter wi) (hg : PG X tg g) (hb : PSs X body tb)
    (hs : ∀ x, foldedSetIterable iter X.env x = pure x := by intro _; rfl) : PS X (.For tg iter body [] pos) (tFor wi g tb) := by
  intro pins s σ H D I h
  refine wpAny_For (thn (hi pins s σ H _ I h) fun v s1 h1 => thn h1 fun itv s2 h2 => ?_) hs
  obtain ⟨it, fp, tn, J, H2, e, I2, T, st2, f2, W, ⟨m0, w0⟩, turn⟩ := h2
  subst e
  -- what stays true of the iterator's objects through the loop
  have stat : ∀ {H' : Hp}, (∀ b ∈ fp, H' b = none) → ∀ b ∈ fp, FpOk X pins H' b := fun hn b hb => ⟨hn b hb, (f2 b hb).2⟩
  refine codeAny_forLoop_any (fun n s' => ∃ i σ' H', Inv X pins σ' H' s' ∧ tn i s'.heap ∧ (∀ b ∈ fp, H' b = none) ∧ W i n σ' H') ?_ m0 ⟨0, σ, H2, I2, st2, fun b hb => (f2 b hb).1, w0⟩
  rintro n s3 ⟨i, σ3, H3, I3, st3, fr3, w3⟩
  rcases turn i n σ3 H3 w3 with ⟨stop, qn⟩ | ⟨go, N, hN, step⟩
  · refine wpAny_passesOwn hp (thn (T.done X rfl rfl rfl hc i pins s3 σ3 H3 X.xe I3 (stat fr3) st3 stop) fun r s4 ⟨hr, I4⟩ => ?_)
    subst hr
    exact wpAny_execs_nil ⟨σ3, H3, I4, qn⟩
  · refine wpAny_passesOwn hp (thn (T.item X rfl rfl rfl hc i pins s3 σ3 H3 X.xe I3 (stat fr3) st3 go) fun r s4 ⟨u, hr, h4⟩ => ?_)
    subst hr
    refine wpAny_passesOwn hp (thn h4 fun _ s5 ⟨x, H5, I5, r5, y5, st5, fr5⟩ => ?_)
    have I5' := I5.pinned (stat fr5) (T.obj _ _ st5)
    refine wpAny_passesOwn hp (thn (hg _ s5 σ3 H5 x u _ I5' r5 (step x H5 y5)) fun _ s6 ⟨σ6, H6, I6, q6⟩ => ?_)
    refine wpAny_passesOwn hp (thn (hb _ s6 σ6 H6 _ I6 q6) fun f s7 q7 => ?_)
    have again : ∀ {σ7 : St} {H7 : Hp}, Inv X (pins ++ pinsAt fp s5.heap) σ7 H7 s7 → N σ7 H7 → ∃ m, m < n ∧ ∃ i σ' H', Inv X pins σ' H' s7 ∧ tn i s7.heap ∧ (∀ b ∈ fp, H' b = none) ∧ W i m σ' H' := fun {σ7 H7} I7 n7 => by
      obtain ⟨m', hm, w7⟩ := hN σ7 H7 n7
      refine ⟨m', hm, i + 1, σ7, H7, I7.unpinned, T.keep _ _ _ st5 fun b hb o e => (I7.pin (b, o) (List.mem_append_right _ (List.mem_append_right _ (mem_pinsAt hb e)))).1, fun b hb => ?_, w7⟩
      obtain ⟨o, e, d⟩ := T.obj _ _ st5 b hb
      exact (I7.pin (b, o) (List.mem_append_right _ (List.mem_append_right _ (mem_pinsAt hb e)))).2.1
    cases f with
    | next => obtain ⟨σ7, H7, I7, n7⟩ := q7; exact again I7 n7
    | cont => obtain ⟨σ7, H7, I7, n7⟩ := q7; exact again I7 n7
    | brk => obtain ⟨σ7, H7, I7, q7⟩ := q7; exact ⟨σ7, H7, I7.unpinned, q7⟩
    | ret v => obtain ⟨x7, σ7, H7, I7, r7, q7⟩ := q7; exact ⟨x7, σ7, H7, I7.unpinned, r7, q7⟩
end

/-- over a list that the body leaves as it is -/
theorem for_list {K : PySem.W.Frag} {a : Addr} {xs : List V} {g : TG} {tb : TS} {D : Ends} {σ : St} {H : Hp} (Pv : Nat → St → Hp → Prop) (h0 : Pv 0 σ H) (hl : ∀ i σ H, i ≤ xs.length → Pv i σ H → SqL K H a xs)
    (hs : ∀ i x σ H, xs[i]? = some x → Pv i σ H → g x σ H fun σ2 H2 => tb { D with nx := Pv (i + 1), ct := Pv (i + 1), bk := D.nx } σ2 H2) (hd : ∀ σ H, Pv xs.length σ H → D.nx σ H) :
    ∃ W : Nat → Nat → St → Hp → Prop, (∃ m, W 0 m σ H) ∧ ∀ i m σ H, W i m σ H →
      ((Itl K a).stop i H ∧ D.nx σ H) ∨ ((Itl K a).go i H ∧ ∃ N : St → Hp → Prop, (∀ σ' H', N σ' H' → ∃ m', m' < m ∧ W (i + 1) m' σ' H') ∧ ∀ x H', (Itl K a).yld i H x H' → g x σ H' fun σ2 H2 => tb { D with nx := N, ct := N, bk := D.nx } σ2 H2) := by
  refine ⟨fun i m σ H => m = xs.length - i ∧ i ≤ xs.length ∧ Pv i σ H, ⟨xs.length, by simp, Nat.zero_le _, h0⟩, ?_⟩
  rintro i m σ H ⟨rfl, hi, p⟩
  have q := hl i σ H hi p
  by_cases hlt : i < xs.length
  · refine .inr ⟨⟨xs, xs[i], q, by simp [hlt]⟩, Pv (i + 1), fun σ' H' p' => ⟨xs.length - (i + 1), by omega, rfl, hlt, p'⟩, fun x H' y => ?_⟩
    obtain ⟨e, y⟩ := y
    subst e
    exact hs i x σ _ (y xs q) p
  · have e : i = xs.length := by omega
    subst e
    exact .inl ⟨⟨xs, q, Nat.le_refl _⟩, hd σ H p⟩
theorem for_range {lo : Int} {n : Nat} {g : TG} {tb : TS} {D : Ends} {σ : St} {H : Hp} (Pv : Nat → St → Hp → Prop) (h0 : Pv 0 σ H)
    (hs : ∀ i σ H, i < n → Pv i σ H → g (.int (lo + i)) σ H fun σ2 H2 => tb { D with nx := Pv (i + 1), ct := Pv (i + 1), bk := D.nx } σ2 H2) (hd : ∀ σ H, Pv n σ H → D.nx σ H) :
    ∃ W : Nat → Nat → St → Hp → Prop, (∃ m, W 0 m σ H) ∧ ∀ i m σ H, W i m σ H →
      ((Itr lo n).stop i H ∧ D.nx σ H) ∨ ((Itr lo n).go i H ∧ ∃ N : St → Hp → Prop, (∀ σ' H', N σ' H' → ∃ m', m' < m ∧ W (i + 1) m' σ' H') ∧ ∀ x H', (Itr lo n).yld i H x H' → g x σ H' fun σ2 H2 => tb { D with nx := N, ct := N, bk := D.nx } σ2 H2) := by
  refine ⟨fun i m σ H => m = n - i ∧ i ≤ n ∧ Pv i σ H, ⟨n, by simp, Nat.zero_le _, h0⟩, ?_⟩
  rintro i m σ H ⟨rfl, hi, p⟩
  by_cases hlt : i < n
  · refine .inr ⟨hlt, Pv (i + 1), fun σ' H' p' => ⟨n - (i + 1), by omega, rfl, hlt, p'⟩, fun x H' y => ?_⟩
    obtain ⟨e, y⟩ := y
    subst e y
    exact hs i σ _ hlt p
  · have e : i = n := by omega
    subst e
    exact .inl ⟨Nat.le_refl _, hd σ H p⟩
/-- while, by a word and a measure of the state -/
theorem while_by {c : TT} {tb : TS} {D : Ends} {σ : St} {H : Hp} (Pv : St → Hp → Prop) (μ : St → Hp → Nat) (h0 : Pv σ H)
    (hs : ∀ σ H, Pv σ H → c σ H fun b H1 => if b = true then tb { D with nx := fun σ' H' => Pv σ' H' ∧ μ σ' H' < μ σ H, ct := fun σ' H' => Pv σ' H' ∧ μ σ' H' < μ σ H, bk := D.nx } σ H1 else D.nx σ H1)
    (mono : ∀ σ H Q Q', (∀ b H1, Q b H1 → Q' b H1) → c σ H Q → c σ H Q') : tWhile c tb D σ H := by
  refine ⟨fun m σ H => m = μ σ H ∧ Pv σ H, ⟨_, rfl, h0⟩, ?_⟩
  rintro m σ H ⟨rfl, p⟩
  refine mono σ H _ _ (fun b H1 q => ?_) (hs σ H p)
  cases b with
  | true => exact ⟨_, fun σ' H' ⟨p', l⟩ => ⟨_, l, rfl, p'⟩, q⟩
  | false => exact q
end L2

namespace L2
open PySem PySem.Spec PyProof.Rows

abbrev R2 := V → V → Hp → VK → Prop
/-- a two-place operation on values: f is binaryOp op, inplaceOp op or compareOp op -/
def OpR (X : Cx) (f : Value → Value → Sem Value) (r : R2) : Prop :=
  ∀ (pins : List (Addr × Obj)) (s : Shared) (σ : St) (H : Hp) (x y : V) (v u : Value) (Q : VK), Inv X pins σ H s → RelV x v → RelV y u → r x y H Q →
    wpAny (model X.prog X.w) X.A (f v u) (EP X pins σ Q) X.xe s
/-- a one-place operation -/
def UnR (X : Cx) (f : Value → Sem Value) (r : V → Hp → VK → Prop) : Prop :=
  ∀ (pins : List (Addr × Obj)) (s : Shared) (σ : St) (H : Hp) (x : V) (v : Value) (Q : VK), Inv X pins σ H s → RelV x v → r x H Q →
    wpAny (model X.prog X.w) X.A (f v) (EP X pins σ Q) X.xe s
/-- a call of a value that is known (a builtin, a type) with values -/
def CallR (X : Cx) (f : Value) (r : List V → Hp → VK → Prop) : Prop :=
  ∀ (pins : List (Addr × Obj)) (s : Shared) (σ : St) (H : Hp) (xs : List V) (us : List Value) (Q : VK), Inv X pins σ H s → Vals xs us → r xs H Q →
    wpAny (model X.prog X.w) X.A (call f us) (EP X pins σ Q) X.xe s
def tOp (r : R2) (ta tb : TE) : TE := fun σ H Q => ta σ H fun x H1 => tb σ H1 fun y H2 => r x y H2 Q
def tUn (r : V → Hp → VK → Prop) (ta : TE) : TE := fun σ H Q => ta σ H fun x H1 => r x H1 Q
/-- ints in, under C, and a value out -/
def rI (C : Int → Int → Prop) (g : Int → Int → V) : R2 := fun x y H Q => ∃ i j, x = .int i ∧ y = .int j ∧ C i j ∧ Q (g i j) H
def rI0 (g : Int → Int → V) : R2 := fun x y H Q => ∃ i j, x = .int i ∧ y = .int j ∧ Q (g i j) H
def rU (g : Int → V) : V → Hp → VK → Prop := fun x H Q => ∃ i, x = .int i ∧ Q (g i) H

section
variable {X : Cx} {a b c : Expr} {ta tb tc : TE} {pos : Pos}

theorem binT (ha : PE X a ta) (hb : PE X b tb) {pins : List (Addr × Obj)} {s : Shared} {σ : St} {H : Hp} {R : V → V → Hp → Prop} (I : Inv X pins σ H s)
    (h : ta σ H fun x H1 => tb σ H1 fun y H2 => R x y H2) {Q : Value → Shared → Prop} {f : Value → Value → Sem Value}
    (hf : ∀ v u s2 x y H2, Inv X pins σ H2 s2 → RelV x v → RelV y u → R x y H2 → wpAny (model X.prog X.w) X.A (f v u) Q X.xe s2) :
    wpAny (model X.prog X.w) X.A (eval a X.env) (fun v s₁ => wpAny (model X.prog X.w) X.A (eval b X.env) (fun u s₂ => wpAny (model X.prog X.w) X.A (f v u) Q X.xe s₂) X.xe s₁) X.xe s := by
  refine thn (ha pins s σ H _ I h) fun v s1 ⟨x, H1, I1, r1, q1⟩ => ?_
  refine thn (hb pins s1 σ H1 _ I1 q1) fun u s2 ⟨y, H2, I2, r2, q2⟩ => ?_
  exact hf v u s2 x y H2 I2 r1 r2 q2

theorem pe_op {op : Operator} {r : R2} (ho : OpR X (binaryOp op) r) (ha : PE X a ta) (hb : PE X b tb) : PE X (.BinOp a op b pos) (tOp r ta tb) := by
  intro pins s σ H Q I h
  exact wpAny_BinOp (binT ha hb I h fun v u s2 x y H2 I2 rx ry q => ho pins s2 σ H2 x y v u Q I2 rx ry q)
theorem pe_un {op : UnaryOp} {r : V → Hp → VK → Prop} (ho : UnR X (unaryOp op) r) (ha : PE X a ta) : PE X (.UnaryOp op a pos) (tUn r ta) := by
  intro pins s σ H Q I h
  exact UnaryOp_ (thn (ha pins s σ H _ I h) fun v s1 ⟨x, H1, I1, r1, q1⟩ => ho pins s1 σ H1 x v Q I1 r1 q1)
theorem opI {f : Value → Value → Sem Value} {C : Int → Int → Prop} {g : Int → Int → Int}
    (rule : ∀ (i j : Int) (t u : Tok) (s : Shared) (Q : Value → Shared → Prop) (E : Value → Shared → Prop), C i j → Q (.int (g i j) s.toks) { s with toks := s.toks + 1 } → wpAny (model X.prog X.w) X.A (f (.int i t) (.int j u)) Q E s) :
    OpR X f (rI C fun i j => .int (g i j)) := by
  intro pins s σ H x y v u Q I rx ry h
  obtain ⟨i, j, rfl, rfl, hc, q⟩ := h
  obtain ⟨t, rfl⟩ := rx
  obtain ⟨t', rfl⟩ := ry
  exact rule i j t t' s _ _ hc ⟨.int (g i j), H, I.tok _, ⟨_, rfl⟩, q⟩
theorem opI0 {f : Value → Value → Sem Value} {g : Int → Int → Int}
    (rule : ∀ (i j : Int) (t u : Tok) (s : Shared) (Q : Value → Shared → Prop) (E : Value → Shared → Prop), Q (.int (g i j) s.toks) { s with toks := s.toks + 1 } → wpAny (model X.prog X.w) X.A (f (.int i t) (.int j u)) Q E s) :
    OpR X f (rI0 fun i j => .int (g i j)) := by
  intro pins s σ H x y v u Q I rx ry h
  obtain ⟨i, j, rfl, rfl, q⟩ := h
  obtain ⟨t, rfl⟩ := rx
  obtain ⟨t', rfl⟩ := ry
  exact rule i j t t' s _ _ ⟨.int (g i j), H, I.tok _, ⟨_, rfl⟩, q⟩
theorem opB0 {f : Value → Value → Sem Value} {g : Int → Int → Bool}
    (rule : ∀ (i j : Int) (t u : Tok) (s : Shared) (Q : Value → Shared → Prop) (E : Value → Shared → Prop), Q (.bool (g i j)) s → wpAny (model X.prog X.w) X.A (f (.int i t) (.int j u)) Q E s) :
    OpR X f (rI0 fun i j => .bl (g i j)) := by
  intro pins s σ H x y v u Q I rx ry h
  obtain ⟨i, j, rfl, rfl, q⟩ := h
  obtain ⟨t, rfl⟩ := rx
  obtain ⟨t', rfl⟩ := ry
  exact rule i j t t' s _ _ ⟨.bl (g i j), H, I, rfl, q⟩

def CDiv (i j : Int) : Prop := 0 < j ∧ j < 1073741824
def CPow (i j : Int) : Prop := 0 ≤ j ∧ j ≤ 1000000 ∧ i.natAbs < 2 ^ 64
def CMul (i j : Int) : Prop := (-(2 ^ 64) < i ∧ i < 2 ^ 64) ∨ (-(2 ^ 64) < j ∧ j < 2 ^ 64)
theorem CMul.ok {i j : Int} (h : CMul i j) : IntMulOk i j := by
  rcases h with ⟨h1, h2⟩ | ⟨h1, h2⟩
  · exact .of_left (intBits_le_64 h1 h2)
  · exact .of_right (intBits_le_64 h1 h2)
theorem op_add : OpR X (binaryOp .Add) (rI0 fun i j => .int (i + j)) := opI0 fun _ _ _ _ _ _ _ q => add_int q
theorem op_sub : OpR X (binaryOp .Sub) (rI0 fun i j => .int (i - j)) := opI0 fun _ _ _ _ _ _ _ q => sub_int q
theorem op_mul : OpR X (binaryOp .Mult) (rI CMul fun i j => .int (i * j)) := opI fun _ _ _ _ _ _ _ hc q => mul_int q hc.ok
/-- // by a positive divisor -/
theorem op_fdiv : OpR X (binaryOp .FloorDiv) (rI CDiv fun i j => .int (i / j)) := opI fun i j _ _ _ _ _ hc q => by
  have h1 : (0 : Int) < j := hc.1
  have h2 : j < 1073741824 := hc.2
  exact floordiv_int (by omega) (by rw [Int.fdiv_eq_ediv_of_nonneg i (by omega)]; exact q) (.inl (PyProof.noPylong_small (by omega)))
/-- % by a positive divisor of any size -/
theorem op_mod : OpR X (binaryOp .Mod) (rI (fun _ j => 0 < j) fun i j => .int (i % j)) := opI fun i j _ _ _ _ _ hc q => by
  have h1 : (0 : Int) < j := hc
  exact mod_int' (by omega) (by rw [Int.fmod_eq_emod_of_nonneg i (by omega)]; exact q)
theorem op_modN : OpR X (binaryOp .Mod) (rI (fun _ j => j ≠ 0) fun i j => .int (i.fmod j)) := opI fun _ _ _ _ _ _ _ hc q => mod_int' hc q
theorem op_pow : OpR X (binaryOp .Pow) (rI CPow fun i j => .int (i ^ j.toNat)) := opI fun _ _ _ _ _ _ _ hc q => pow_int_small hc.1 hc.2.1 hc.2.2 q
theorem unI {f : Value → Sem Value} {g : Int → Int}
    (rule : ∀ (i : Int) (t : Tok) (s : Shared) (Q : Value → Shared → Prop) (E : Value → Shared → Prop), Q (.int (g i) s.toks) { s with toks := s.toks + 1 } → wpAny (model X.prog X.w) X.A (f (.int i t)) Q E s) :
    UnR X f (rU fun i => .int (g i)) := by
  intro pins s σ H x v Q I rx h
  obtain ⟨i, rfl, q⟩ := h
  obtain ⟨t, rfl⟩ := rx
  exact rule i t s _ _ ⟨.int (g i), H, I.tok _, ⟨_, rfl⟩, q⟩
theorem un_neg : UnR X (unaryOp .USub) (rU fun i => .int (-i)) := unI fun _ _ _ _ _ q => neg_int q
end

/-- the scalars that == tells apart as data does -/
def scal : V → V → Bool
  | .non, .non => true | .non, .int _ => true | .int _, .non => true | .non, .bl _ => true | .bl _, .non => true | .non, .str _ => true | .str _, .non => true
  | .int _, .int _ => true | .bl _, .bl _ => true | .str _, .str _ => true | .byt _, .byt _ => true
  | .int _, .str _ => true | .str _, .int _ => true | .bl _, .str _ => true | .str _, .bl _ => true
  | _, _ => false
def rEq : R2 := fun x y H Q => scal x y = true ∧ Q (.bl (decide (x = y))) H
def rNe : R2 := fun x y H Q => scal x y = true ∧ Q (.bl (!decide (x = y))) H

theorem dec_int {i j : Int} : decide (V.int i = V.int j) = (i == j) := by
  rw [Bool.eq_iff_iff]
  simp
theorem dec_bl {i j : Bool} : decide (V.bl i = V.bl j) = (i == j) := by
  rw [Bool.eq_iff_iff]
  simp
theorem dec_str {i j : Str} : decide (V.str i = V.str j) = (i == j) := by
  rw [Bool.eq_iff_iff]
  simp
theorem dec_byt {i j : Array UInt8} : decide (V.byt i = V.byt j) = (i.toList == j.toList) := by
  rw [Bool.eq_iff_iff]
  cases i
  cases j
  simp

section
variable {X : Cx} {a b c : Expr} {ta tb tc : TE} {pos : Pos}
theorem fin_bl {pins : List (Addr × Obj)} {σ : St} {H : Hp} {s : Shared} {Q : VK} {k k' : Bool} (I : Inv X pins σ H s) (q : Q (.bl k) H) (e : k = k') : EP X pins σ Q (.bool k') s := by
  subst e
  exact ⟨.bl k, H, I, rfl, q⟩
theorem op_eq : OpR X (compareOp .Eq) rEq := by
  intro pins s σ H x y v u Q I rx ry h
  obtain ⟨hs, q⟩ := h
  cases x with
  | non =>
    cases rx
    cases y with
    | non => cases ry; exact PySem.EqNone.eq_none_none (fin_bl I q (by simp))
    | bl j => cases ry; exact PySem.EqNone.eq_none_bool (fin_bl I q (by simp))
    | int j => obtain ⟨t', rfl⟩ := ry; exact PySem.EqNone.eq_none_int (fin_bl I q (by simp))
    | str j => obtain ⟨t', rfl⟩ := ry; exact PySem.EqNone.eq_none_str (fin_bl I q (by simp))
    | _ => exact absurd (show false = true from hs) Bool.false_ne_true
  | bl i =>
    cases rx
    cases y with
    | non => cases ry; exact PySem.EqNone.eq_bool_none (fin_bl I q (by simp))
    | bl j => cases ry; exact eq_bool (fin_bl I q dec_bl)
    | str j => obtain ⟨t', rfl⟩ := ry; exact PySem.EqMixed.eq_bool_str (fin_bl I q (by simp))
    | _ => exact absurd (show false = true from hs) Bool.false_ne_true
  | int i =>
    obtain ⟨t, rfl⟩ := rx
    cases y with
    | non => cases ry; exact PySem.EqNone.eq_int_none (fin_bl I q (by simp))
    | int j => obtain ⟨t', rfl⟩ := ry; exact eq_int (fin_bl I q dec_int)
    | str j => obtain ⟨t', rfl⟩ := ry; exact PySem.EqMixed.eq_int_str (fin_bl I q (by simp))
    | _ => exact absurd (show false = true from hs) Bool.false_ne_true
  | str i =>
    obtain ⟨t, rfl⟩ := rx
    cases y with
    | non => cases ry; exact PySem.EqNone.eq_str_none (fin_bl I q (by simp))
    | bl j => cases ry; exact PySem.EqMixed.eq_str_bool (fin_bl I q (by simp))
    | int j => obtain ⟨t', rfl⟩ := ry; exact PySem.EqMixed.eq_str_int (fin_bl I q (by simp))
    | str j => obtain ⟨t', rfl⟩ := ry; exact eq_str (fin_bl I q dec_str)
    | _ => exact absurd (show false = true from hs) Bool.false_ne_true
  | byt i =>
    obtain ⟨t, rfl⟩ := rx
    cases y with
    | byt j => obtain ⟨t', rfl⟩ := ry; exact PySem.W.eq_bytes (fin_bl I q dec_byt)
    | _ => exact absurd (show false = true from hs) Bool.false_ne_true
  | _ => cases y <;> exact absurd (show false = true from hs) Bool.false_ne_true
theorem op_ne : OpR X (compareOp .NotEq) rNe := by
  intro pins s σ H x y v u Q I rx ry h
  obtain ⟨hs, q⟩ := h
  cases x with
  | non =>
    cases rx
    cases y with
    | non => cases ry; exact PySem.EqNone.ne_none_none (fin_bl I q (by simp))
    | bl j => cases ry; exact PySem.EqNone.ne_none_bool (fin_bl I q (by simp))
    | int j => obtain ⟨t', rfl⟩ := ry; exact PySem.EqNone.ne_none_int (fin_bl I q (by simp))
    | str j => obtain ⟨t', rfl⟩ := ry; exact PySem.EqNone.ne_none_str (fin_bl I q (by simp))
    | _ => exact absurd (show false = true from hs) Bool.false_ne_true
  | bl i =>
    cases rx
    cases y with
    | non => cases ry; exact PySem.EqNone.ne_bool_none (fin_bl I q (by simp))
    | bl j => cases ry; exact ne_bool (fin_bl I q (congrArg not dec_bl))
    | str j => obtain ⟨t', rfl⟩ := ry; exact PySem.EqMixed.ne_bool_str (fin_bl I q (by simp))
    | _ => exact absurd (show false = true from hs) Bool.false_ne_true
  | int i =>
    obtain ⟨t, rfl⟩ := rx
    cases y with
    | non => cases ry; exact PySem.EqNone.ne_int_none (fin_bl I q (by simp))
    | int j => obtain ⟨t', rfl⟩ := ry; exact ne_int (fin_bl I q (congrArg not dec_int))
    | str j => obtain ⟨t', rfl⟩ := ry; exact PySem.EqMixed.ne_int_str (fin_bl I q (by simp))
    | _ => exact absurd (show false = true from hs) Bool.false_ne_true
  | str i =>
    obtain ⟨t, rfl⟩ := rx
    cases y with
    | non => cases ry; exact PySem.EqNone.ne_str_none (fin_bl I q (by simp))
    | bl j => cases ry; exact PySem.EqMixed.ne_str_bool (fin_bl I q (by simp))
    | int j => obtain ⟨t', rfl⟩ := ry; exact PySem.EqMixed.ne_str_int (fin_bl I q (by simp))
    | str j => obtain ⟨t', rfl⟩ := ry; exact ne_str (fin_bl I q (congrArg not dec_str))
    | _ => exact absurd (show false = true from hs) Bool.false_ne_true
  | byt i =>
    obtain ⟨t, rfl⟩ := rx
    cases y with
    | byt j => obtain ⟨t', rfl⟩ := ry; exact PySem.W.ne_bytes (fin_bl I q (congrArg not dec_byt))
    | _ => exact absurd (show false = true from hs) Bool.false_ne_true
  | _ => cases y <;> exact absurd (show false = true from hs) Bool.false_ne_true

theorem op_lt : OpR X (compareOp .Lt) (rI0 fun i j => .bl (decide (i < j))) := opB0 fun _ _ _ _ _ _ _ q => lt_int q
theorem op_gt : OpR X (compareOp .Gt) (rI0 fun i j => .bl (decide (j < i))) := opB0 fun _ _ _ _ _ _ _ q => gt_int q
theorem nomark (b : Expr) {op : CmpOp} (h : op ≠ .In := by decide) (h2 : op ≠ .NotIn := by decide) : behindInMarks op b = false := by
  have e1 : (op == CmpOp.In) = false := by cases op <;> first | rfl | exact absurd rfl h
  have e2 : (op == CmpOp.NotIn) = false := by cases op <;> first | rfl | exact absurd rfl h2
  cases b <;> simp [behindInMarks, e1, e2]
/-- a comparison as a value; hm: nomark b, or (for in, not in) by with_unfolding_all rfl -/
theorem pe_cmpR {op : CmpOp} {r : R2} (ho : OpR X (compareOp op) r) (ha : PE X a ta) (hb : PE X b tb) (hm : behindInMarks op b = false) : PE X (.Compare a [op] [b] pos) (tOp r ta tb) := by
  intro pins s σ H Q I h
  exact wpAny_Compare1 (binT ha hb I h fun v u s2 x y H2 I2 rx ry q => ho pins s2 σ H2 x y v u Q I2 rx ry q) hm
/-- a reading of a value as a test -/
def tTest (t : TE) : TT := fun σ H Q => t σ H fun x H' => ∃ k, x = .bl k ∧ Q k H'
theorem pt_cmpR {op : CmpOp} {r : R2} (ho : OpR X (compareOp op) r) (ha : PE X a ta) (hb : PE X b tb) (hm : behindInMarks op b = false) : PT X (.Compare a [op] [b] pos) (tTest (tOp r ta tb)) := by
  intro pins s σ H Q I h
  refine wpAny_isTrue_Compare1 (thn (ha pins s σ H _ I h) fun v s1 ⟨x, H1, I1, r1, q1⟩ => thn (hb pins s1 σ H1 _ I1 q1) fun u s2 ⟨y, H2, I2, r2, q2⟩ =>
    thn (ho pins s2 σ H2 x y v u _ I2 r1 r2 q2) fun c s3 ⟨z, H3, I3, r3, k, e, q3⟩ => ?_) hm
  subst e
  cases r3
  exact wpAny_truthy_bool ⟨H3, I3, q3⟩
/-- a op1 b op2 c -/
def tChain (r r' : R2) (ta tb tc : TE) : TE := fun σ H Q => ta σ H fun x H1 => tb σ H1 fun y H2 => r x y H2 fun z H3 => ∃ k, z = .bl k ∧
  (if k = true then tc σ H3 fun w' H4 => r' y w' H4 Q else Q (.bl false) H3)
theorem line63 : (sizeLine : Nat) < 2 ^ 63 := by rw [sizeLine_eq]; decide
theorem op_add_str : OpR X (binaryOp .Add) (fun x y H Q => ∃ i j, x = .str i ∧ y = .str j ∧ i.length + j.length ≤ sizeLine ∧ Q (.str (i ++ j)) H) := by
  intro pins s σ H x y v u Q I rx ry h
  obtain ⟨i, j, rfl, rfl, hz, q⟩ := h
  obtain ⟨t, rfl⟩ := rx
  obtain ⟨t', rfl⟩ := ry
  exact add_str (fun t' tk => ⟨.str (i ++ j), H, I.tok _, ⟨_, rfl⟩, q⟩) hz
theorem vals1 {x : V} {us : List Value} (r : Vals [x] us) : ∃ u, us = [u] ∧ RelV x u := by
  cases r with
  | cons r1 r2 => cases r2; exact ⟨_, rfl, r1⟩
theorem vals2 {x y : V} {us : List Value} (r : Vals [x, y] us) : ∃ u w', us = [u, w'] ∧ RelV x u ∧ RelV y w' := by
  cases r with
  | cons r1 r2 =>
    cases r2 with
    | cons r3 r4 => cases r4; exact ⟨_, _, rfl, r1, r3⟩
theorem call_abs : CallR X (.builtin "abs") (fun xs H Q => ∃ i, xs = [.int i] ∧ Q (.int (if i < 0 then -i else i)) H) := by
  intro pins s σ H xs us Q I r h
  obtain ⟨i, rfl, q⟩ := h
  obtain ⟨u, rfl, t, rfl⟩ := vals1 r
  exact call_abs_int fun u tk => ⟨.int (if i < 0 then -i else i), H, I.tok _, ⟨_, rfl⟩, q⟩
theorem call_int1 : CallR X (.type "int") (fun xs H Q => (∃ i, xs = [.int i] ∧ Q (.int i) H) ∨ ∃ k, xs = [.bl k] ∧ Q (.int (if k then 1 else 0)) H) := by
  intro pins s σ H xs us Q I r h
  rcases h with ⟨i, rfl, q⟩ | ⟨k, rfl, q⟩
  · obtain ⟨u, rfl, t, rfl⟩ := vals1 r
    exact call_int_int ⟨.int i, H, I, ⟨_, rfl⟩, q⟩
  · obtain ⟨u, rfl, r1⟩ := vals1 r
    cases r1
    exact call_int_bool ⟨.int (if k then 1 else 0), H, I.tok _, ⟨_, rfl⟩, q⟩
end
end L2

namespace L2
open PySem PySem.Spec PyProof.Rows

structure ObjM (h : Heap) (x dx C : Addr) (mA : Str → Option Value) : Prop where
  obj : h.get? x = some (PySem.W.instObj C dx)
  ns : h.Ns1 dx mA
  ne : dx ≠ x

section
variable {prog : Program} {w : World} {A : Around} {E : Value → Shared → Prop} {s : Shared} {K : PySem.W.Frag} {x dx C f : Addr} {mA : Str → Option Value} {name : Str} {v : Value}

end

section
variable {P : Program} {w : World} {H H' : Hp} {h h' : Heap} {a C dx : Addr} {fs fs' : List (Str × V)}
end

structure Cls (K : PySem.W.Frag) (C : Addr) : Prop where
  pg : PySem.W.plainGet K C Str.empty = true
  hd : PySem.W.hasDictIn K C = true
  po : PySem.W.plainOver K C = true
  sa : PySem.W.findIn K (.ref C) "__setattr__" = some (some (.builtin "object.__setattr__"))
theorem Cls.get {K : PySem.W.Frag} {C : Addr} (c : Cls K C) (f : Str) : PySem.W.plainGet K C f = true := c.pg
/-- a constant of the class -/
structure Con (K : PySem.W.Frag) (C : Addr) (f : Str) (v : V) (u : Value) : Prop where
  at_ : PySem.W.findIn K (.ref C) f = some (some u)
  rel : RelV v u
  get : PySem.W.specialIn K u "__get__" = some none
  cp : PySem.W.copiedNames.contains f = false
/-- a method: a plain def of the class or of one above it -/
structure Meth (K : PySem.W.Frag) (C : Addr) (m : Str) (f : Addr) : Prop where
  at_ : PySem.W.findIn K (.ref C) m = some (some (.ref f))
  fn : PySem.W.isFn K (.ref f) = true
  kp : PySem.W.keepIn K (.ref f) = true

section
variable {X : Cx} {pins : List (Addr × Obj)} {σ : St} {H : Hp} {s : Shared} {a C dx : Addr} {fs : List (Str × V)} {f : Str} {v : V} {A : Around} {E : Value → Shared → Prop}

/-- a new instance, tracked, without attributes -/
theorem Inv.made (I : Inv X pins σ H s) : Inv X pins σ (upd (upd H s.heap.objs.size (.own (s.heap.objs.size + 1))) (s.heap.objs.size + 1) (.ins C s.heap.objs.size []))
    { s with heap := (s.heap.push PySem.W.emptyDict).push (PySem.W.instObj C s.heap.objs.size) } := by
  have e1 : (s.heap.push PySem.W.emptyDict).get? s.heap.objs.size = some PySem.W.emptyDict := Heap.get?_push_size s.heap rfl
  have e2 : ((s.heap.push PySem.W.emptyDict).push (PySem.W.instObj C s.heap.objs.size)).get? (s.heap.objs.size + 1) = some (PySem.W.instObj C s.heap.objs.size) := by
    have := Heap.get?_push_size (s.heap.push PySem.W.emptyDict) (o := PySem.W.instObj C s.heap.objs.size) rfl
    rwa [Heap.size_push] at this
  have e3 : (s.heap.push PySem.W.emptyDict).Ns s.heap.objs.size (fun _ => none) := ⟨PySem.W.emptyDict, #[], _, e1, rfl, (fun e he => absurd he (by simp)), fun _ => rfl⟩
  have I1 := I.laid (a := s.heap.objs.size) (o := .own (s.heap.objs.size + 1)) (h' := s.heap.push PySem.W.emptyDict) (t' := s.toks) (fun b u q => Heap.get?_push_of_some _ q) (Nat.le_refl _) ⟨_, e1⟩
  refine I1.laid (a := s.heap.objs.size + 1) (o := .ins C s.heap.objs.size []) (t' := s.toks) (fun b u q => Heap.get?_push_of_some _ q) (Nat.le_of_eq (Heap.size_push _ _)) ?_
  have ne : s.heap.objs.size ≠ s.heap.objs.size + 1 := Nat.ne_of_lt (Nat.lt_succ_self _)
  refine ⟨by rw [upd_ne ne, upd_same], Nat.zero_le _, ne, e2, fun _ => none, (Heap.Ns1.of_empty e3).at fun o q => Heap.get?_push_of_some _ q, fun _ => True.intro, fun y hy => absurd rfl hy⟩

end

section
variable {X : Cx} {o e value : Expr} {f : Str} {pos pos' tpos : Pos} {ta tv : TE}
end

section
variable {X : Cx} {pins : List (Addr × Obj)} {σ : St} {H : Hp} {s : Shared} {A : Around} {E : Value → Shared → Prop} {Q : Value → Shared → Prop} {c : Value} {b : Bool}
/-- the type of a value, as the fragment's deciders take it; for an instance its class -/
inductive TyOf (K : PySem.W.Frag) (H : Hp) : V → Value → Prop where
  | non : TyOf K H .non (.type "NoneType")
  | bl (x : Bool) : TyOf K H (.bl x) (.type "bool")
  | int (i : Int) : TyOf K H (.int i) (.type "int")
  | str (x : Str) : TyOf K H (.str x) (.type "str")
  | flt (x : UInt64) : TyOf K H (.flt x) (.type "float")
  | lst {a : Addr} {xs : List V} (e : H a = some (.lst xs)) : TyOf K H (.ref a) (.type "list")
  | frz {a : Addr} {o : Obj} {xs : List V} (e : H a = some (.frz o (.lst xs))) : TyOf K H (.ref a) (.type "list")
  | tup {a : Addr} {xs : List V} (e : H a = some (.tup xs)) : TyOf K H (.ref a) (.type "tuple")
  | dK {a : Addr} {kvs : List (Key × V)} (e : H a = some (.dK kvs)) : TyOf K H (.ref a) (.type "dict")
  | dT {a : Addr} {kvs : List (List Key × V)} (e : H a = some (.dT kvs)) : TyOf K H (.ref a) (.type "dict")
  | ins {a C dx : Addr} {fs : List (Str × V)} (e : H a = some (.ins C dx fs)) (cl : Cls K C) (ha : PySem.W.findIn K (.ref C) "__class__" = some (some (.builtin "object.__class__")))
      (hn : PySem.W.specialIn K (.builtin "object.__class__") "__get__" = some (some (.builtin "getset_descriptor.__get__"))) (htk : PySem.W.takesIn K (.builtin "object.__class__") = some true)
      (hm : PySem.W.mroIn K C (.type "object") = some true) : TyOf K H (.ref a) (.ref C)
end
end L2

namespace L2
open PySem PySem.Spec PyProof.Rows

structure Room (k : Nat) (A : Around) : Prop where
  hd : A.handled = none
  dp : A.depth + 3 * k + 5 < recursionLimit
  un : A.units + 16 * k + 200 < cLine
theorem Room.mono {j k : Nat} {A : Around} (r : Room k A) (h : j ≤ k) : Room j A := ⟨r.hd, by have := r.dp; omega, by have := r.un; omega⟩
theorem Room.deeper {k : Nat} {A : Around} (r : Room (k + 1) A) (env : Env) : Room k (A.deeper env) :=
  ⟨r.hd, by have := r.dp; show A.depth + 1 + 3 * k + 5 < _; omega, by have := r.un; show A.units + 3 + 16 * k + 200 < _; omega⟩
theorem Room.in1 {k : Nat} {A : Around} (r : Room (k + 1) A) : Room k A.in1 :=
  ⟨r.hd, by have := r.dp; show A.depth + 3 * k + 5 < _; omega, by have := r.un; show A.units + 1 + 16 * k + 200 < _; omega⟩
theorem Room.depth {k : Nat} {A : Around} (r : Room k A) : A.depth < recursionLimit := by have := r.dp; omega
theorem Room.units {k : Nat} {A : Around} (r : Room k A) : A.units + 64 < cLine := by have := r.un; omega
def tNil : TA := fun _ H Q => Q [] H
def tCons (ta : TE) (tr : TA) : TA := fun σ H Q => ta σ H fun x H1 => tr σ H1 fun xs H2 => Q (x :: xs) H2
section
variable {X : Cx} {e : Expr} {es : List Expr} {te : TE} {t : TA} {pos : Pos}
theorem pa_nil : PA X [] tNil := fun _ _ _ _ H Q I h => Calls.spliced_nil ⟨[], H, I, .nil, h⟩
theorem pa_cons (ha : PE X e te) (hr : PA X es t) (hs : starEach (e :: es) X.env = (false, eval e X.env) :: starEach es X.env := by rfl) : PA X (e :: es) (tCons te t) := by
  intro pos pins s σ H Q I h
  rw [hs]
  show wpAny _ _ (spliced ((false, eval e X.env) :: backTo pos (starEach es X.env))) _ _ s
  refine Calls.spliced_cons (thn (ha pins s σ H _ I h) fun u s1 ⟨x, H1, I1, r1, q1⟩ => ?_)
  exact thn (hr pos pins s1 σ H1 _ I1 q1) fun us s2 ⟨xs, H2, I2, r2, q2⟩ => ⟨x :: xs, H2, I2, .cons r1 r2, q2⟩

/-- a tuple, a list of written items -/
def tTup (t : TA) : TE := fun σ H Q => t σ H fun xs H1 => xs.length ≤ sizeLine ∧ ∀ p, H1 p = none → Q (.ref p) (upd H1 p (.tup xs))
def tLst (t : TA) : TE := fun σ H Q => t σ H fun xs H1 => xs.length ≤ sizeLine ∧ ∀ p, H1 p = none → Q (.ref p) (upd H1 p (.lst xs))
theorem pe_tup {x1} (h : PA X es t) : PE X (.Tuple es x1 pos) (tTup t) := by
  intro pins s σ H Q I hq
  refine wpAny_Tuple_spliced (thn (h pos pins s σ H _ I hq) fun us s1 ⟨xs, H1, I1, r, z, q⟩ => ⟨by rw [← r.length]; exact z, ?_⟩)
  have hf : H1 s1.heap.objs.size = none := I1.hok.fresh (Nat.le_refl _)
  refine ⟨.ref s1.heap.objs.size, upd H1 s1.heap.objs.size (.tup xs), I1.laid (t' := s1.toks) (fun b u e => Heap.get?_push_of_some _ e) (Nat.le_refl _) ?_, rfl, q _ hf⟩
  exact ⟨z, us, r, ⟨_, Heap.get?_push_size _ rfl, rfl, _, rfl⟩⟩
theorem pe_lst (h : PA X es t) : PE X (.List es pos) (tLst t) := by
  intro pins s σ H Q I hq
  refine wpAny_List_spliced (thn (h pos pins s σ H _ I hq) fun us s1 ⟨xs, H1, I1, r, z, q⟩ => ⟨by rw [← r.length]; exact z, ?_⟩)
  have hf : H1 s1.heap.objs.size = none := I1.hok.fresh (Nat.le_refl _)
  refine ⟨.ref s1.heap.objs.size, upd H1 s1.heap.objs.size (.lst xs), I1.laid (t' := s1.toks) (fun b u e => Heap.get?_push_of_some _ e) (Nat.le_refl _) ?_, rfl, q _ hf⟩
  exact ⟨z, us, 0, r, Heap.get?_push_size _ rfl⟩
end

/-- a def's promise: the bound arguments in the parameters' order, the heap, the wanted end, the wanted exception -/
abbrev Sp := List V → Hp → VK → XK → Prop
/-- how an exception lies behind a call (file 08 gives it): the callers' frames, abstract heap and state ahead of the call, the wish, the exception, the state -/
abbrev CXT := List Env → Hp → Shared → XK → Value → Shared → Prop

/-- the state at a call -/
structure Env0 (P : Program) (w : World) (K : PySem.W.Frag) (mg : Str → Option Value) (base : Heap) (A : Around) (outer : List Env) (s : Shared) (H : Hp) : Prop where
  frames : A.frames = some outer
  mod : Mod K mg base
  bs : ∀ b o, base.get? b = some o → s.heap.get? b = some o ∧ H b = none
  bsz : base.objs.size ≤ s.heap.objs.size
  funs : s.heap.FunFrames base outer
  frf : ∀ b ∈ frs outer, H b = none
  hok : HOk P w H s.heap
  bare : AllBare s.gens
/-- a call's end -/
def CE (outer : List Env) (P : Program) (w : World) (H : Hp) (s : Shared) (Q : VK) (u : Value) (s' : Shared) : Prop :=
  ∃ v H', s'.os = s.os ∧ AllBare s'.gens ∧ Un (frs outer) [] H H' s.heap s'.heap ∧ HOk P w H' s'.heap ∧ RelV v u ∧ Q v H'
def CR (CX : CXT) (outer : List Env) (P : Program) (w : World) (H : Hp) (s : Shared) (Q : VK) (E : XK) (r : Result) (s' : Shared) : Prop :=
  match r with
  | .ok (.ret u) => CE outer P w H s Q u s'
  | .ok _ => False
  | .error e => CX outer H s E e s'
structure FnOk (P : Program) (w : World) (K : PySem.W.Frag) (mg : Str → Option Value) (base : Heap) (CX : CXT) (k : Nat) (f : Addr) (fd : FuncData) (ps : List Str) (sp : Sp) : Prop where
  len : ∀ vs H Q E, sp vs H Q E → vs.length = ps.length
  run : ∀ (A : Around) (outer : List Env) (s : Shared) (H : Hp) (args : Args) (us : List Value) (vs : List V) (Q : VK) (E : XK), Room k A → Env0 P w K mg base A outer s H → BindsTo s fd args (ps.zip us) → Vals vs us → sp vs H Q E →
    codeAny (model P w) A (.call (.ref f) args) (CR CX outer P w H s Q E) s
theorem FnOk.mono {P : Program} {w : World} {K : PySem.W.Frag} {mg : Str → Option Value} {base : Heap} {CX : CXT} {j k : Nat} {f : Addr} {fd : FuncData} {ps : List Str} {sp : Sp} (F : FnOk P w K mg base CX j f fd ps sp) (h : j ≤ k) :
    FnOk P w K mg base CX k f fd ps sp := ⟨F.len, fun A outer s H args us vs Q E hr => F.run A outer s H args us vs Q E (hr.mono h)⟩
/-- a weaker promise -/
theorem FnOk.imp {P : Program} {w : World} {K : PySem.W.Frag} {mg : Str → Option Value} {base : Heap} {CX : CXT} {k : Nat} {f : Addr} {fd : FuncData} {ps : List Str} {sp sp' : Sp} (F : FnOk P w K mg base CX k f fd ps sp)
    (h : ∀ vs H Q E, sp' vs H Q E → sp vs H Q E) : FnOk P w K mg base CX k f fd ps sp' :=
  ⟨fun vs H Q E q => F.len vs H Q E (h _ _ _ _ q), fun A outer s H args us vs Q E hr he hb hv hs => F.run A outer s H args us vs Q E hr he hb hv (h _ _ _ _ hs)⟩

theorem Env0.in1 {P : Program} {w : World} {K : PySem.W.Frag} {mg : Str → Option Value} {base : Heap} {A : Around} {outer : List Env} {s : Shared} {H : Hp} (e : Env0 P w K mg base A outer s H) :
    Env0 P w K mg base A.in1 outer s H := ⟨e.frames, e.mod, e.bs, e.bsz, e.funs, e.frf, e.hok, e.bare⟩

section
variable {X : Cx} {pins : List (Addr × Obj)} {σ : St} {H : Hp} {s s' : Shared}
/-- from a body: what a callee wants -/
theorem Inv.env0 (I : Inv X pins σ H s) : Env0 X.prog X.w X.K X.mg X.base X.A X.stack s H :=
  ⟨I.ok.frames, I.ok.mod, I.bs, Nat.le_trans I.ok.bsz I.sz, I.stack, I.stkFree, I.hok, I.bare⟩
/-- behind a call -/
theorem Inv.after {Q : VK} {u : Value} (I : Inv X pins σ H s) (h : CE X.stack X.prog X.w H s Q u s') : EP X pins σ Q u s' := by
  obtain ⟨v, H', os, bare, un, hok, r, q⟩ := h
  obtain ⟨hh, g, d, t, os'⟩ := s'
  obtain rfl : os' = s.os := os
  exact ⟨v, H', I.call (h' := hh) (g' := g) (d' := d) (t' := t) (ch := []) un hok bare (fun b z => absurd z (by simp)), r, q⟩
end

/-- f(..): the written arguments, then the defaults dvs; E: what is wanted of an exception -/
def tCall (sp : Sp) (dvs : List V) (E : XK) (t : TA) : TE := fun σ H Q => t σ H fun vs H1 => sp (vs ++ dvs) H1 Q E
/-- how the parameters are bound: us the positional arguments, kw the keywords' values by name, ds the defaults that fill up -/
def Binds (K : PySem.W.Frag) (fd : FuncData) (ps : List Str) (ds : List Value) : Prop :=
  ∀ (s : Shared) (us : List Value), K.In s.heap → (us ++ ds).length = ps.length → BindsTo s fd ⟨us, []⟩ (ps.zip (us ++ ds))
/-- every parameter is given -/
theorem Binds.all {K : PySem.W.Frag} {fd : FuncData} {ps : List Str} (h : ∀ us : List Value, us.length = ps.length → bindArgs fd ⟨us, []⟩ = pure (ps.zip us)) : Binds K fd ps [] := fun s us _ hl => by
  rw [List.append_nil] at hl ⊢
  exact .of_eq (h us hl)

/-- an exception of a callee reaches what this body wants of exceptions -/
def Passes (CX : CXT) (X : Cx) (E : XK) : Prop := ∀ (pins : List (Addr × Obj)) (σ : St) (H : Hp) (s : Shared) (e : Value) (s' : Shared), Inv X pins σ H s → CX X.stack H s E e s' → X.xe e s'

section
variable {X : Cx} {CX : CXT} {k : Nat} {f C : Addr} {fd : FuncData} {ps : List Str} {sp : Sp} {dvs : List V} {ds : List Value} {E : XK} {x m : Str} {p pos apos : Pos} {e o : Expr} {es : List Expr} {ta : TE} {t : TA}

/-- the callee runs -/
theorem run_fn {pins : List (Addr × Obj)} {σ : St} {H : Hp} {s : Shared} {Q : VK} {us : List Value} {vs : List V} (F : FnOk X.prog X.w X.K X.mg X.base CX k f fd ps sp) (hr : Room k X.A) (hb : Binds X.K fd ps ds) (hd : Vals dvs ds) (hx : Passes CX X E)
    (I : Inv X pins σ H s) (r : Vals vs us) (h : sp (vs ++ dvs) H Q E) : wpAny (model X.prog X.w) X.A (call (.ref f) us) (EP X pins σ Q) X.xe s := by
  have r2 : Vals (vs ++ dvs) (us ++ ds) := r.append hd
  have hl : (us ++ ds).length = ps.length := by rw [← r2.length]; exact F.len _ _ _ _ h
  refine wpAny_call (codeAny_mono (F.run X.A X.stack s H ⟨us, []⟩ (us ++ ds) (vs ++ dvs) Q E hr I.env0 (hb s us I.kIn hl) r2 h) fun r s' hq => ?_)
  cases r with
  | error e => exact hx pins σ H s e s' I hq
  | ok fl =>
    cases fl with
    | ret u => exact I.after hq
    | next => exact False.elim hq
    | brk => exact False.elim hq
    | cont => exact False.elim hq

theorem pe_call (F : FnOk X.prog X.w X.K X.mg X.base CX k f fd ps sp) (hr : Room k X.A) (hg : Gl X x) (hm : X.mg x = some (.ref f)) (hk : PySem.W.keepIn X.K (.ref f) = true) (hb : Binds X.K fd ps ds) (hd : Vals dvs ds) (hx : Passes CX X E)
    (ha : PA X (e :: es) t) (hdb : (x == ("__debug__" : Str)) = false := by decide) (he : starEach (e :: es) X.env = (false, eval e X.env) :: starEach es X.env := by rfl) (hpl : (backTo pos (starEach es X.env)).any (·.1) = false := by rfl) :
    PE X (.Call (.Name x p) (e :: es) [] pos) (tCall sp dvs E t) := by
  intro pins s σ H Q I h
  refine wpAny_Call_Name_kw (ld_glob I hg hm ?_ hdb)
  refine PySem.W.callWith_K (h₀ := X.base) I.ok.mod.kin hk (thn (ha pos pins s σ H _ I h) fun us s1 ⟨vs, H1, I1, r, q⟩ => ⟨I1.kIn, ?_⟩) he hpl
  exact run_fn F hr hb hd hx I1 r q
/-- what a class must have to be made -/
structure Mk (K : PySem.W.Frag) (C f : Addr) : Prop where
  makes : PySem.W.makesIn K C = true
  init : PySem.W.findIn K (.ref C) "__init__" = some (some (.ref f))
  fn : PySem.W.isFn K (.ref f) = true
  kp : PySem.W.keepIn K (.ref C) = true

end

section
variable {X : Cx} {CX : CXT} {k : Nat} {f C : Addr} {fd : FuncData} {ps ks : List Str} {sp : Sp} {E : XK} {x m : Str} {p pos apos kpos : Pos} {e o : Expr} {es : List Expr} {kws : List Keyword} {te ta : TE} {t tk : TA} {nm : Option Str}
/-- how a call with keywords binds: g puts the positional values us and the keywords' values ws (names ks) in the parameters' order, defaults among them -/
structure KBinds (K : PySem.W.Frag) (fd : FuncData) (ps ks : List Str) (g : List Value → List Value → List Value) (gV : List V → List V → List V) : Prop where
  to : ∀ (s : Shared) (us ws : List Value), K.In s.heap → (g us ws).length = ps.length → BindsTo s fd ⟨us, ks.zip ws⟩ (ps.zip (g us ws))
  rel : ∀ {vs : List V} {us : List Value} {zs : List V} {ws : List Value}, Vals vs us → Vals zs ws → Vals (gV vs zs) (g us ws)
variable {g : List Value → List Value → List Value} {gV : List V → List V → List V}
end

/-- names: the parameters first -/
structure FnScope (N P : List Str) (sc : Scope) : Prop where
  kind : sc.kind = .function
  co : sc.isCoroutine = false
  gen : sc.isGenerator = false
  nd : N.Nodup
  pre : N.take P.length = P
  par : ∀ x ∈ P, sc.names.lookup x = some .local ∨ sc.names.lookup x = some .cell
  nofree : ∀ y ∈ sc.names, y.2 ≠ .free

theorem bindL_out {kindOf : Str → Option NameKind} {x : Str} : ∀ {binds : List (Str × Value)} {m : Str → Option Value}, (∀ v, (x, v) ∉ binds) → bindL kindOf binds m x = m x
  | [], _, _ => rfl
  | (n, v) :: r, m, h => by
    unfold bindL
    rw [bindL_out fun w hw => h w (List.mem_cons_of_mem _ hw)]
    split
    · have : x ≠ n := by rintro rfl; exact h v List.mem_cons_self
      simp [this]
    · rfl
theorem bindC_out {kindOf : Str → Option NameKind} {x : Str} : ∀ {binds : List (Str × Value)} {m : Str → Option Value}, (∀ v, (x, v) ∉ binds) → bindC kindOf binds m x = m x
  | [], _, _ => rfl
  | (n, v) :: r, m, h => by
    unfold bindC
    rw [bindC_out fun w hw => h w (List.mem_cons_of_mem _ hw)]
    split
    · rfl
    · have : x ≠ n := by rintro rfl; exact h v List.mem_cons_self
      simp [this]
theorem bindL_get {kindOf : Str → Option NameKind} {x : Str} {v : Value} : ∀ {P : List Str} {vs : List Value} {i : Nat} {m : Str → Option Value}, P.Nodup → P[i]? = some x → vs[i]? = some v → kindOf x = some .local →
    bindL kindOf (P.zip vs) m x = some v
  | [], _, _, _, _, h, _, _ => by simp at h
  | _ :: _, [], _, _, _, _, h, _ => by simp at h
  | p :: P, w :: vs, 0, m, nd, h1, h2, hk => by
    simp at h1 h2; subst h1; subst h2
    show bindL kindOf ((p, w) :: P.zip vs) m p = _
    unfold bindL
    rw [bindL_out fun v hv => (List.nodup_cons.mp nd).1 (List.of_mem_zip hv).1, if_pos hk]
    simp
  | p :: P, w :: vs, i + 1, m, nd, h1, h2, hk => by
    show bindL kindOf ((p, w) :: P.zip vs) m x = _
    unfold bindL
    exact bindL_get (i := i) (List.nodup_cons.mp nd).2 (by simpa using h1) (by simpa using h2) hk
theorem bindC_get {kindOf : Str → Option NameKind} {x : Str} {v : Value} : ∀ {P : List Str} {vs : List Value} {i : Nat} {m : Str → Option Value}, P.Nodup → P[i]? = some x → vs[i]? = some v → kindOf x ≠ some .local →
    bindC kindOf (P.zip vs) m x = some v
  | [], _, _, _, _, h, _, _ => by simp at h
  | _ :: _, [], _, _, _, _, h, _ => by simp at h
  | p :: P, w :: vs, 0, m, nd, h1, h2, hk => by
    simp at h1 h2; subst h1; subst h2
    show bindC kindOf ((p, w) :: P.zip vs) m p = _
    unfold bindC
    rw [bindC_out fun v hv => (List.nodup_cons.mp nd).1 (List.of_mem_zip hv).1, if_neg hk]
    simp
  | p :: P, w :: vs, i + 1, m, nd, h1, h2, hk => by
    show bindC kindOf ((p, w) :: P.zip vs) m x = _
    unfold bindC
    exact bindC_get (i := i) (List.nodup_cons.mp nd).2 (by simpa using h1) (by simpa using h2) hk

/-- the names' values at the entry -/
def start (N : List Str) (vs : List V) : St := vs.map some ++ List.replicate (N.length - vs.length) none

/-- the context of a def's body, at its entry; an exception leaves the frame, then lies as CX says -/
def cxOf (CX : CXT) (P : Program) (w : World) (K : PySem.W.Frag) (mg : Str → Option Value) (base : Heap) (N : List Str) (qual : Str) (scope : Scope) (f : Addr) (cd : Value) (A : Around) (outer : List Env) (s : Shared) (H : Hp) (E : XK) : Cx where
  prog := P
  w := w
  K := K
  mg := mg
  base := base
  A := A.deeper (envOfC qual scope s.heap.objs.size f cd)
  N := N
  s₀ := s
  H₀ := H
  env := envOfC qual scope s.heap.objs.size f cd
  outer := outer
  stack := envOfC qual scope s.heap.objs.size f cd :: outer
  ex := []
  calm := true
  fn := fun _ => true
  pn := []
  xe := fun e s' => wpAny (model P w) (A.deeper (envOfC qual scope s.heap.objs.size f cd)) (leaving (envOfC qual scope s.heap.objs.size f cd) e) (fun _ s'' => CX outer H s E e s'') (fun e' s'' => CX outer H s E e' s'') s'

theorem cell_has {sc : Scope} {n : Nat} {x : Str} (h : sc.names.lookup x = some .cell) : ∃ c, (cellsFrom n sc.names []).lookup x = some c := by
  have q := PySem.W.cellsFrom_some sc.names n [] (.inl h)
  exact Option.isSome_iff_exists.mp q

theorem inv_start {CX : CXT} {P : Program} {w : World} {K : PySem.W.Frag} {mg : Str → Option Value} {base : Heap} {N ps : List Str} {qual : Str} {scope : Scope} {f : Addr} {cd : Value} {A : Around} {outer : List Env} {s s1 : Shared} {H : Hp} {E : XK} {us : List Value} {vs : List V}
    (S : FnScope N ps scope) (hd : A.handled = none) (e0 : Env0 P w K mg base A outer s H) (hl : vs.length = ps.length) (r : Vals vs us)
    (x : InCallC s s.heap.objs.size (bindL (envOfC qual scope s.heap.objs.size f cd).kindOf (ps.zip us) fun _ => none) (cellsFrom (s.heap.objs.size + 1) scope.names []) (bindC (envOfC qual scope s.heap.objs.size f cd).kindOf (ps.zip us) fun _ => none) s1) :
    Inv (cxOf CX P w K mg base N qual scope f cd A outer s H E) [] (start N vs) H s1 := by
  have hpl : ps.length ≤ N.length := by have := congrArg List.length S.pre; rw [List.length_take] at this; omega
  obtain ⟨h1, tk, rfl, hk⟩ := x.done
  have noA : ∀ b : Addr, b ∉ (cxOf CX P w K mg base N qual scope f cd A outer s H E).ex := fun b z => absurd (show b ∈ ([] : List Addr) from z) (by simp)
  refine ⟨⟨e0.mod, S.kind, rfl, rfl, Nat.le_refl _, fun y z c h1 h2 => ?_, fun y hy => ?_, fun y c _ h => ?_, fun _ => hd, Around.frames_deeper e0.frames, .inr ⟨rfl, rfl⟩, fun b z => absurd z (noA b), e0.bs, e0.bsz, fun b _ _ => noA b, fun b z => absurd z (noA b), e0.funs, e0.frf⟩,
    rfl, e0.bare, Un.kept hk, ⟨_, x.toInCall.ns, fun i y v h1 h2 h3 => ?_⟩, fun y c h => ⟨_, x.cell y c h⟩, e0.hok.fresh (Nat.le_refl _), fun y c h => ?_, fun p hp => absurd (show p ∈ ([] : List (Addr × Obj)) from hp) (by simp), e0.hok.kept hk, ?_⟩
  · exact name_of_addr x.apart (PySem.mem_of_lookup h1) (PySem.mem_of_lookup h2)
  · have hy : scope.names.lookup y = some .cell ∨ scope.names.lookup y = some .free := hy
    rcases hy with hy | hy
    · exact cell_has hy
    · exact absurd rfl (S.nofree _ (PySem.mem_of_lookup hy))
  · exact Nat.le_of_lt (x.above y c (PySem.mem_of_lookup h))
  · have hi : i < vs.length := by
      unfold start at h2
      by_cases hi : i < vs.length
      · exact hi
      · rw [List.getElem?_append_right (by simpa using hi)] at h2
        rw [List.getElem?_replicate] at h2
        split at h2 <;> cases h2
    have ha : vs[i]? = some v := by
      unfold start at h2
      rw [List.getElem?_append_left (by simpa using hi), List.getElem?_map] at h2
      cases e : vs[i]? with
      | none => rw [e] at h2; cases h2
      | some a => rw [e] at h2; cases h2; rfl
    obtain ⟨u, hu, rv⟩ := r.get ha
    have hp : ps[i]? = some y := by
      rw [← S.pre, List.getElem?_take_of_lt (by omega)]; exact h1
    have ndP : ps.Nodup := by rw [← S.pre]; exact S.nd.sublist (List.take_sublist _ _)
    refine ⟨u, rv, ?_⟩
    rcases S.par y (List.mem_of_getElem? hp) with k | k
    · exact .inl ⟨k, bindL_get ndP hp hu k⟩
    · obtain ⟨c, e⟩ := cell_has (n := s.heap.objs.size + 1) k
      refine .inr ⟨.inl k, c, e, ?_⟩
      have q := x.cell y c e
      rw [bindC_get ndP hp hu (by show scope.names.lookup y ≠ _; rw [k]; decide)] at q
      exact q
  · exact e0.hok.fresh (Nat.le_of_lt (x.above y c (PySem.mem_of_lookup h)))
  · unfold start
    show _ = N.length
    rw [List.length_append, List.length_map, List.length_replicate]
    omega

/-- THE RULE: a def (or a method) of the text, by its body. The body's reading t is chosen for each entry; it is run at the parameters' values -/
theorem fn_of {CX : CXT} {P : Program} {w : World} {K : PySem.W.Frag} {mg : Str → Option Value} {base : Heap} {k : Nat} {f : Addr} {name qual : Str} {params : Arguments} {body : List Stmt} {scope : Scope} {dV kV doc pm cdv ct oc : Value} {an od : Option Addr}
    {osl : Array (Option Value)} {N ps : List Str} {sp : Sp} (lk : K.lookup f = some ⟨oc, od, .func (PySem.W.fnOf name qual params body scope dV kV doc pm an cdv ct), osl⟩) (hcd : PySem.W.codeIn K cdv qual = true) (S : FnScope N ps scope)
    (len : ∀ vs H Q E, sp vs H Q E → vs.length = ps.length)
    (hbody : ∀ (A : Around) (outer : List Env) (s : Shared) (H : Hp) (vs : List V) (Q : VK) (E : XK), Room k (A.deeper (envOfC qual scope s.heap.objs.size f cdv)) → sp vs H Q E →
      ∃ t, PSs (cxOf CX P w K mg base N qual scope f cdv A outer s H E) body t ∧ t { nx := fun _ H' => Q .non H', rt := Q } (start N vs) H) :
    FnOk P w K mg base CX (k + 1) f (PySem.W.fnOf name qual params body scope dV kV doc pm an cdv ct) ps sp := by
  refine ⟨len, fun A outer s H args us vs Q E hr e0 hb r hsp => ?_⟩
  have hl := len _ _ _ _ hsp
  have KX : K.In s.heap := e0.mod.kin.keeps fun b o e => (e0.bs b o e).1
  have lim : s.heap.NoLimit := e0.mod.nolimit.keeps fun b o e => (e0.bs b o e).1
  have hkind : ∀ y ∈ ps.zip us, scope.names.lookup y.1 = some .local ∨ (scope.names.lookup y.1 = some .cell ∧ ((cellsFrom (s.heap.objs.size + 1) scope.names []).lookup y.1).isSome = true) := fun ⟨n, v⟩ hy => by
    rcases S.par n (List.of_mem_zip hy).1 with q | q
    · exact .inl q
    · exact .inr ⟨q, PySem.W.cellsFrom_some _ _ _ (.inl q)⟩
  refine codeAny_call_function hr.depth (KX _ _ lk) rfl S.co S.gen rfl (PySem.W.codeRec_of KX hcd) (hb _ _ _ _ ?_)
  refine wpAny_newFunctionEnv_cells S.kind hkind fun env he s1 x => ?_
  subst he
  refine ⟨lim.keeps x.toInCall.keep, codeAny_func ?_⟩
  obtain ⟨t, ht, hq⟩ := hbody A outer s H vs Q E (hr.deeper _) hsp
  have I : Inv (cxOf CX P w K mg base N qual scope f cdv A outer s H E) [] (start N vs) H s1 := inv_start S hr.hd e0 hl r x
  refine wpAny_mono (ht [] s1 (start N vs) H _ I hq) (fun fl s' hs => ?_) fun e s' hs => hs
  have fin : ∀ {σ' : St} {H' : Hp} {v : V} {u : Value}, Inv (cxOf CX P w K mg base N qual scope f cdv A outer s H E) [] σ' H' s' → RelV v u → Q v H' → CE outer P w H s Q u s' :=
    fun {σ' H' v u} J rv q => ⟨v, H', J.os, J.bare, J.base, J.hok, rv, q⟩
  cases fl with
  | ret u =>
    obtain ⟨v, σ', H', J, rv, q⟩ := hs
    exact fin J rv q
  | next =>
    obtain ⟨σ', H', J, q⟩ := hs
    exact fin (v := V.non) (u := Value.none) J rfl q
  | brk =>
    obtain ⟨_, _, _, q⟩ := hs
    exact False.elim q
  | cont =>
    obtain ⟨_, _, _, q⟩ := hs
    exact False.elim q
end L2

namespace L2
open PySem PySem.Spec PyProof.Rows
section
variable {X : Cx} {x : Str} {p pos : Pos} {e : Expr} {es : List Expr} {t : TA} {id T : String} {r : List V → Hp → VK → Prop}

def tCB (r : List V → Hp → VK → Prop) (t : TA) : TE := fun σ H Q => t σ H fun vs H1 => r vs H1 Q
/-- f(e, ..), f a built-in function -/
theorem pe_callB (hc : CallR X (.builtin id) r) (hg : Gl X x) (hm : X.mg x = none) (hv : bootBuiltins x = some (.builtin id)) (ha : PA X (e :: es) t) (hn : x ≠ "__name__" := by decide) (hdb : (x == ("__debug__" : Str)) = false := by decide)
    (he : starEach (e :: es) X.env = (false, eval e X.env) :: starEach es X.env := by rfl) (hpl : (backTo pos (starEach es X.env)).any (·.1) = false := by rfl) : PE X (.Call (.Name x p) (e :: es) [] pos) (tCB r t) := by
  intro pins s σ H Q I h
  refine wpAny_Call_Name_kw (ld_blt I hg hm hv ?_ hn hdb)
  exact PyProof.Rows.callWith_builtin1 (thn (ha pos pins s σ H _ I h) fun us s1 ⟨vs, H1, I1, r1, q1⟩ => hc pins s1 σ H1 vs us Q I1 r1 q1) he hpl
/-- T(e, ..), T a built-in type -/
theorem pe_callTy (hc : CallR X (.type T) r) (hg : Gl X x) (hm : X.mg x = none) (hv : bootBuiltins x = some (.type T)) (ha : PA X (e :: es) t) (hn : x ≠ "__name__" := by decide) (hdb : (x == ("__debug__" : Str)) = false := by decide)
    (he : starEach (e :: es) X.env = (false, eval e X.env) :: starEach es X.env := by rfl) (hpl : (backTo pos (starEach es X.env)).any (·.1) = false := by rfl) : PE X (.Call (.Name x p) (e :: es) [] pos) (tCB r t) := by
  intro pins s σ H Q I h
  refine wpAny_Call_Name_kw (ld_blt I hg hm hv ?_ hn hdb)
  exact PyProof.Rows.callWith_type1 (thn (ha pos pins s σ H _ I h) fun us s1 ⟨vs, H1, I1, r1, q1⟩ => hc pins s1 σ H1 vs us Q I1 r1 q1) he hpl
end
end L2

namespace HT
open PySem PyProof.Rows

section
open PySem.SeqAt
open PySem.AutoSeq1 (wpAny_loadPart')
open PySem.MeetsSeq PySem.MeetsSeq2 PySem.MeetsSeq3

end

section
variable {prog : Program} {w : World} {A : Around} {E : Value → Shared → Prop} {s : Shared}

/-- t + u, t not empty -/
theorem cat_tup {t b : Addr} {vs ws : List Value} {Q : Value → Shared → Prop} (ht : IsTup s.heap t vs.toArray) (hb : IsTup s.heap b ws.toArray) (hv : vs ≠ [])
    (h1 : ws = [] → Q (.ref t) s) (h2 : ws ≠ [] → Q (.ref s.heap.objs.size) { s with heap := s.heap.push { cls := .type "tuple", data := .seq (vs ++ ws).toArray } })
    (hsz : vs.length + ws.length ≤ sizeLine) : wpAny (model prog w) A (binaryOp .Add (.ref t) (.ref b)) Q E s := by
  obtain ⟨⟨cls, dd, data, sl⟩, ho, hc, n, hd⟩ := id ht
  obtain ⟨⟨cls2, dd2, data2, sl2⟩, ho2, hc2, n2, hd2⟩ := id hb
  simp only at hc hd hc2 hd2
  subst hc hd hc2 hd2
  have e : vs.toArray ++ ws.toArray = (vs ++ ws).toArray := by simp
  by_cases hw : ws = []
  · exact concat_meets ⟨_, ho, rfl⟩ ⟨_, ho2, rfl⟩ noFill_tuple_add seq_tuple_add PySem.F.slot_tuple_add PySem.F.entry_tuple_add (PySem.F.args_tuple_add_2 _ _)
      (tuple_addW1 t b vs.toArray ws.toArray n n2 dd dd2 sl sl2 (by simpa using hv) (by simp [hw])) ⟨ho, ho2, h1 hw⟩
  · refine concat_meets ⟨_, ho, rfl⟩ ⟨_, ho2, rfl⟩ noFill_tuple_add seq_tuple_add PySem.F.slot_tuple_add PySem.F.entry_tuple_add (PySem.F.args_tuple_add_2 _ _)
      (tuple_addW2 t b vs.toArray ws.toArray n n2 dd dd2 sl sl2 (by simpa using hv) (by simpa using hw) (by rw [List.size_toArray, List.size_toArray]; exact hsz)) ⟨ho, ho2, ?_⟩
    rw [e]
    exact h2 hw

/-- a slice's bound as a place among n (d where it is left out) -/
def sIx (n d : Nat) : Option Int → Nat
  | none => d
  | some v => if v < 0 then (v + (n : Int)).toNat else min v.toNat n
end
end HT

namespace L2
open PySem PySem.Spec PyProof.Rows

abbrev TO := St → Hp → (Option Int → Hp → Prop) → Prop
/-- a slice's part (left out, or an int) -/
def PO (X : Cx) (e : Option Expr) (t : TO) : Prop :=
  ∀ (pins : List (Addr × Obj)) (s : Shared) (σ : St) (H : Hp) (Q : Option Int → Hp → Prop), Inv X pins σ H s → t σ H Q →
    wpAny (model X.prog X.w) X.A (evalPart e X.env) (fun u s' => ∃ o H', Inv X pins σ H' s' ∧ IsPart u o ∧ Q o H') X.xe s
def tNoPart : TO := fun _ H Q => Q none H
def tPart (t : TE) : TO := fun σ H Q => t σ H fun x H1 => ∃ i, x = .int i ∧ Q (some i) H1

section
variable {X : Cx} {e : Expr} {te : TE} {lo hi : Option Expr} {tl th : TO} {pos p2 : Pos}

theorem po_none : PO X none tNoPart := by
  intro pins s σ H Q I h
  rw [evalPart_none]
  exact wpAny_pure ⟨none, H, I, .none, h⟩
theorem po_some (h : PE X e te) : PO X (some e) (tPart te) := by
  intro pins s σ H Q I hw
  rw [evalPart_some]
  refine thn (h pins s σ H _ I hw) fun u s1 ⟨x, H1, I1, r1, q1⟩ => ?_
  obtain ⟨i, rfl, q⟩ := q1
  obtain ⟨t, rfl⟩ := r1
  exact ⟨some i, H1, I1, .int i t, q⟩

/-- what a slice of a value is, by values: the slice object stands at sl -/
def SlR (X : Cx) (r : V → Option Int → Option Int → Hp → VK → Prop) : Prop :=
  ∀ (pins : List (Addr × Obj)) (s : Shared) (σ : St) (H : Hp) (x : V) (v vl vu : Value) (lo hi : Option Int) (sl : Addr) (Q : VK), Inv X pins σ H s → RelV x v → s.heap.IsSliceOf sl vl vu .none → IsPart vl lo → IsPart vu hi → r x lo hi H Q →
    ∃ T id, typeLookup (.type T) "__getitem__" = pure (some (.builtin id)) ∧ s.TypeIs v T ∧ wpAny (model X.prog X.w) X.A (getItem v (.ref sl)) (EP X pins σ Q) X.xe s
def tSl (r : V → Option Int → Option Int → Hp → VK → Prop) (te : TE) (tl th : TO) : TE := fun σ H Q => te σ H fun x H1 => tl σ H1 fun l H2 => th σ H2 fun u H3 => r x l u H3 Q
/-- a[lo:hi], any a -/
theorem pe_slice {r : V → Option Int → Option Int → Hp → VK → Prop} (hr : SlR X r) (he : PE X e te) (hl : PO X lo tl) (hu : PO X hi th) : PE X (.Subscript e (.Slice lo hi none p2) pos) (tSl r te tl th) := by
  intro pins s σ H Q I h
  refine Subscript_ (thn (he pins s σ H _ I h) fun v s1 ⟨x, H1, I1, r1, q1⟩ => ?_)
  refine wpAny_Slice (thn (hl pins s1 σ H1 _ I1 q1) fun vl s2 ⟨l, H2, I2, pl, q2⟩ => thn (hu pins s2 σ H2 _ I2 q2) fun vu s3 ⟨u, H3, I3, pu, q3⟩ => ?_)
  rw [evalPart_none]
  refine wpAny_pure ?_
  have I4 : Inv X pins σ H3 { s3 with heap := s3.heap.push { cls := .type "slice", data := .fields #[vl, vu, .none] } } := I3.kept (t' := s3.toks) fun b ob q => Heap.get?_push_of_some _ q
  obtain ⟨T, id, hT, ht, hg⟩ := hr pins { s3 with heap := s3.heap.push { cls := .type "slice", data := .fields #[vl, vu, .none] } } σ H3 x v vl vu l u s3.heap.objs.size Q I4 r1 (Heap.IsSliceOf.new ..) pl pu q3
  show wpAny (model X.prog X.w) X.A (subscriptTail e (.Slice lo hi none p2) v (.ref s3.heap.objs.size)) (EP X pins σ Q) X.xe { s3 with heap := s3.heap.push { cls := .type "slice", data := .fields #[vl, vu, .none] } }
  exact tail_any (ops := [.ref s3.heap.objs.size, v]) ht hT hg (by with_unfolding_all rfl)

/-- the items of xs[lo:hi] -/
def cutV (xs : List V) (lo hi : Option Int) : List V := (xs.drop (HT.sIx xs.length 0 lo)).take (HT.sIx xs.length xs.length hi - HT.sIx xs.length 0 lo)
theorem cutV_length (xs : List V) (lo hi : Option Int) : (cutV xs lo hi).length ≤ xs.length := by
  unfold cutV
  rw [List.length_take, List.length_drop]
  omega
/-- t + u, t not empty: u empty gives t itself -/
def rCatT (K : PySem.W.Frag) : R2 := fun x y H Q => ∃ a b xs ys, x = .ref a ∧ y = .ref b ∧ SqT K H a xs ∧ SqT K H b ys ∧ xs ≠ [] ∧ xs.length + ys.length ≤ sizeLine ∧
  (ys = [] → Q (.ref a) H) ∧ (ys ≠ [] → ∀ p, H p = none → Q (.ref p) (upd H p (.tup (xs ++ ys))))
theorem Vals.nil_iff {xs : List V} {us : List Value} (r : Vals xs us) : us = [] ↔ xs = [] := by
  cases r with
  | nil => simp
  | cons _ _ => simp
theorem op_catT : OpR X (binaryOp .Add) (rCatT X.K) := by
  intro pins s σ H x y v u Q I rx ry h
  obtain ⟨a, b, xs, ys, rfl, rfl, ha, hb, hx, hz, q1, q2⟩ := h
  cases rx
  cases ry
  obtain ⟨its, r1, p1, _⟩ := I.tuple ha
  obtain ⟨its2, r2, p2, _⟩ := I.tuple hb
  refine HT.cat_tup p1 p2 (fun z => hx (r1.nil_iff.mp z)) (fun z => ⟨.ref a, H, I, rfl, q1 (r2.nil_iff.mp z)⟩) (fun z => ?_) (by rw [← r1.length, ← r2.length]; exact hz)
  refine ⟨.ref s.heap.objs.size, _, I.laid (t' := s.toks) (o := .tup (xs ++ ys)) (fun b ob q => Heap.get?_push_of_some _ q) (Nat.le_refl _) ?_, rfl, q2 (fun w => z (r2.nil_iff.mpr w)) _ (I.hok.fresh (Nat.le_refl _))⟩
  exact ⟨by rw [List.length_append]; exact hz, _, r1.append r2, IsTup.new _ _⟩
end
end L2

namespace L2
open PySem PySem.Spec PyProof.Rows

/-- the place that an index of any sign means -/
def ixN (n : Nat) (i : Int) : Option Nat := if 0 ≤ i then (if i < n then some i.toNat else none) else if -(n : Int) ≤ i then some (i + n).toNat else none
def atI {α : Type} (xs : List α) (i : Int) : Option α := (ixN xs.length i).bind fun j => xs[j]?
theorem ixN_seq {n : Nat} {i : Int} {j : Nat} (h : ixN n i = some j) : seqIndex? i n = some j ∧ j < n ∧ -(n : Int) ≤ i ∧ i < n := by
  unfold ixN at h
  by_cases h0 : 0 ≤ i
  · rw [if_pos h0] at h
    by_cases h1 : i < n
    · rw [if_pos h1] at h
      have e : i.toNat = j := Option.some.inj h
      exact ⟨by rw [seqIndex_of h0 h1, e], by omega, by omega, h1⟩
    · rw [if_neg h1] at h; cases h
  · rw [if_neg h0] at h
    by_cases h1 : -(n : Int) ≤ i
    · rw [if_pos h1] at h
      have e : (i + n).toNat = j := Option.some.inj h
      exact ⟨by rw [seqIndex_neg (by omega) h1, e], by omega, h1, by omega⟩
    · rw [if_neg h1] at h; cases h
theorem atI_get {α : Type} {xs : List α} {i : Int} {v : α} (h : atI xs i = some v) : ∃ j, seqIndex? i xs.length = some j ∧ xs[j]? = some v ∧ j < xs.length ∧ -(xs.length : Int) ≤ i ∧ i < xs.length := by
  unfold atI at h
  cases e : ixN xs.length i with
  | none => rw [e] at h; cases h
  | some j =>
    rw [e] at h
    obtain ⟨h1, h2, h3, h4⟩ := ixN_seq e
    exact ⟨j, h1, h, h2, h3, h4⟩
theorem atI_nat {α : Type} {xs : List α} {j : Nat} {v : α} (h : xs[j]? = some v) : atI xs (j : Int) = some v := by
  have hj : j < xs.length := (List.getElem?_eq_some_iff.mp h).1
  have e : ixN xs.length (j : Int) = some j := by
    unfold ixN
    rw [if_pos (by omega), if_pos (by omega)]; simp
  unfold atI; rw [e]; exact h
theorem atI_last {α : Type} (xs : List α) (v : α) : atI (xs ++ [v]) (-1) = some v := by
  have hl : (xs ++ [v]).length = xs.length + 1 := by simp
  have e : ixN (xs ++ [v]).length (-1) = some xs.length := by
    unfold ixN
    rw [hl, if_neg (by decide), if_pos (by omega)]
    congr 1
    omega
  unfold atI
  rw [e]
  show (xs ++ [v])[xs.length]? = some v
  simp

/-- what stands as an index of a plain subscript -/
def PlainIx (b : Expr) : Prop := ∀ o i, subscripted b false o i = operate [o, i] (getItem o i)
/-- a subscript by values -/
def IxR (X : Cx) (r : R2) : Prop :=
  ∀ (value slice : Expr) (pins : List (Addr × Obj)) (s : Shared) (σ : St) (H : Hp) (x y : V) (v u : Value) (Q : VK), Inv X pins σ H s → RelV x v → RelV y u → r x y H Q →
    subscripted slice false v u = operate [v, u] (getItem v u) → wpAny (model X.prog X.w) X.A (subscriptTail value slice v u) (EP X pins σ Q) X.xe s
/-- a call of a builtin's method by values: the receiver, the arguments -/
def MtR (X : Cx) (id : String) (r : V → List V → Hp → VK → Prop) : Prop :=
  ∀ (pins : List (Addr × Obj)) (s : Shared) (σ : St) (H : Hp) (x : V) (xs : List V) (v : Value) (us : List Value) (Q : VK), Inv X pins σ H s → RelV x v → Vals xs us → r x xs H Q →
    wpAny (model X.prog X.w) X.A (call (.builtin id) (v :: us)) (EP X pins σ Q) X.xe s
section
variable {X : Cx} {a b : Expr} {ta tb : TE} {pos : Pos}
/-- a[b] -/
theorem pe_ix {r : R2} (hr : IxR X r) (ha : PE X a ta) (hb : PE X b tb) (hs : PlainIx b) : PE X (.Subscript a b pos) (tOp r ta tb) := by
  intro pins s σ H Q I h
  exact Subscript_ (binT ha hb I h fun v u s2 x y H2 I2 rx ry q => hr a b pins s2 σ H2 x y v u Q I2 rx ry q (hs _ _))

def rIxL (K : PySem.W.Frag) : R2 := fun x y H Q => ∃ p xs i v, x = .ref p ∧ y = .int i ∧ SqL K H p xs ∧ atI xs i = some v ∧ Q v H
def rIxT (K : PySem.W.Frag) : R2 := fun x y H Q => ∃ p xs i v, x = .ref p ∧ y = .int i ∧ SqT K H p xs ∧ atI xs i = some v ∧ Q v H
def rIxS : R2 := fun x y H Q => ∃ z i c, x = .str z ∧ y = .int i ∧ z.length ≤ sizeLine ∧ atI z.cps.toList i = some c ∧ Q (.str ⟨#[c]⟩) H
theorem ix_list : IxR X (rIxL X.K) := by
  intro value slice pins s σ H x y v u Q I rx ry h hs
  obtain ⟨p, xs, i, z, rfl, rfl, hq, he, q⟩ := h
  cases rx
  obtain ⟨t, rfl⟩ := ry
  obtain ⟨its, r, pl, hz⟩ := I.list hq
  obtain ⟨j, h1, h2, h3, h4, h5⟩ := atI_get he
  obtain ⟨w, ew, rw'⟩ := r.get h2
  have hl := r.length
  have hn := line63
  have fin : EP X pins σ Q w s := ⟨z, H, I, rw', q⟩
  by_cases h0 : 0 ≤ i
  · have hj : i.toNat = j := by
      rw [seqIndex_of h0 h5] at h1
      exact Option.some.inj h1
    exact item_listR pl.isList h0 (by omega) (by rw [hj]; simpa using ew) fin hs
  · have hj : (i + (its.toArray.size : Int)).toNat = j := by
      rw [seqIndex_neg (by omega) h4] at h1
      rw [List.size_toArray, ← hl]
      exact Option.some.inj h1
    exact subscriptTail_builtinR (x := w) pl.isList.typeIs slot_list_getitem.lookup
      (wpAny_getItem_list_neg (Q := fun r s' => r = w ∧ EP X pins σ Q r s') pl.isList (by omega) (by rw [List.size_toArray] <;> omega) (by omega) (by rw [hj]; simpa using ew) ⟨rfl, fin⟩) hs
theorem ix_tup : IxR X (rIxT X.K) := by
  intro value slice pins s σ H x y v u Q I rx ry h hs
  obtain ⟨p, xs, i, z, rfl, rfl, hq, he, q⟩ := h
  cases rx
  obtain ⟨t, rfl⟩ := ry
  obtain ⟨its, r, pl, hz⟩ := I.tuple hq
  obtain ⟨j, h1, h2, h3, h4, h5⟩ := atI_get he
  obtain ⟨w, ew, rw'⟩ := r.get h2
  have hl := r.length
  have hn := line63
  have fin : EP X pins σ Q w s := ⟨z, H, I, rw', q⟩
  exact subscriptTail_builtinR (x := w) pl.typeIs slot_tuple_getitem.lookup
    (getItem_tuple (j := j) (Q := fun r s' => r = w ∧ EP X pins σ Q r s') pl (by omega) (by omega) (by rw [List.size_toArray, ← hl]; exact h1) (by simpa using ew) ⟨rfl, fin⟩) hs
theorem ix_str : IxR X rIxS := by
  intro value slice pins s σ H x y v u Q I rx ry h hs
  obtain ⟨z, i, c, rfl, rfl, hz, he, q⟩ := h
  obtain ⟨t, rfl⟩ := rx
  obtain ⟨t', rfl⟩ := ry
  obtain ⟨j, h1, h2, h3, h4, h5⟩ := atI_get he
  have hl : z.cps.toList.length = z.length := by simp [Str.length]
  rw [hl] at h1 h4 h5
  have hn := line63
  exact tail_any (typeIs_str s z t) slot_str_getitem.lookup (getItem_str (c := c) (by
    have e1 : decide (i < -(2 ^ 63 : Int)) = false := decide_eq_false (by omega)
    have e2 : decide (i ≥ 2 ^ 63) = false := decide_eq_false (by omega)
    rw [e1, e2, Bool.or_false]) (by rw [h1]; simpa using h2) ⟨.str ⟨#[c]⟩, H, I.tok _, ⟨_, rfl⟩, q⟩) hs
theorem Inv.lst {pins : List (Addr × Obj)} {σ : St} {H : Hp} {s : Shared} {p : Addr} {xs : List V} (I : Inv X pins σ H s) (h : H p = some (.lst xs)) :
    ∃ (its : List Value) (n : Nat), Vals xs its ∧ s.heap.get? p = some { cls := .type "list", data := .seq its.toArray n } ∧ xs.length ≤ sizeLine := by
  obtain ⟨z, its, n, r, e⟩ := I.hok p _ h
  exact ⟨its, n, r, e, z⟩
theorem slice_bounds (lo hi : Option Int) (n : Nat) : (sliceBounds lo hi none n).1 = ((HT.sIx n 0 lo : Nat) : Int) ∧ (sliceBounds lo hi none n).2.1 = ((HT.sIx n n hi : Nat) : Int) ∧ (sliceBounds lo hi none n).2.2 = 1 := by
  refine ⟨?_, ?_, rfl⟩
  · cases lo with
    | none => simp [sliceBounds, HT.sIx]
    | some i =>
      simp only [sliceBounds, HT.sIx, Option.getD_none, show (1 : Int) > 0 by decide, if_true]
      by_cases h : i < 0
      · simp only [h, if_true] <;> omega
      · simp only [h, if_false] <;> omega
  · cases hi with
    | none => simp [sliceBounds, HT.sIx]
    | some i =>
      simp only [sliceBounds, HT.sIx, Option.getD_none, show (1 : Int) > 0 by decide, if_true]
      by_cases h : i < 0
      · simp only [h, if_true] <;> omega
      · simp only [h, if_false] <;> omega
theorem slicePick_cut (its : List Value) (lo hi : Option Int) : slicePick its.toArray lo hi none = ((its.drop (HT.sIx its.length 0 lo)).take (HT.sIx its.length its.length hi - HT.sIx its.length 0 lo)).toArray := by
  obtain ⟨h1, h2, h3⟩ := slice_bounds lo hi its.toArray.size
  unfold slicePick
  rw [h1, h2, h3]
  simp only [sliceRange_one, pick_run, List.size_toArray] <;> rfl
/-- xs[lo:hi] of a list: a new list -/
def rSlL (K : PySem.W.Frag) : V → Option Int → Option Int → Hp → VK → Prop := fun x lo hi H Q => ∃ a xs, x = .ref a ∧ SqL K H a xs ∧ ∀ p, H p = none → Q (.ref p) (upd H p (.lst (cutV xs lo hi)))
theorem sl_list : SlR X (rSlL X.K) := by
  intro pins s σ H x v vl vu lo hi sl Q I rx hs pl pu h
  obtain ⟨a, xs, rfl, hx, q⟩ := h
  cases rx
  obtain ⟨its, r, ht, hz⟩ := I.list hx
  have hlen := r.length
  refine ⟨"list", _, slot_list_getitem.lookup, ht.isList.typeIs, ?_⟩
  refine wpAny_getItem_list_slice ht.isList hs pl pu .none (by simp) ?_ (by rw [List.size_toArray] <;> omega)
  rw [slicePick_cut, ← hlen]
  refine ⟨.ref s.heap.objs.size, _, I.laid (t' := s.toks) (o := .lst (cutV xs lo hi)) (fun b ob q => Heap.get?_push_of_some _ q) (Nat.le_refl _) ?_, rfl, q _ (I.hok.fresh (Nat.le_refl _))⟩
  exact ⟨Nat.le_trans (cutV_length xs lo hi) hz, _, 0, (r.drop (HT.sIx xs.length 0 lo)).take (HT.sIx xs.length xs.length hi - HT.sIx xs.length 0 lo), Heap.get?_push_size _ rfl⟩

def flatV : V → Bool
  | .non => true
  | .bl _ => true
  | .int _ => true
  | .str _ => true
  | _ => false
/-- == of flat values -/
def eqV : V → V → Bool
  | .non, .non => true
  | .bl a, .bl b => a == b
  | .bl a, .int b => (if a then 1 else 0) == b
  | .int a, .bl b => a == (if b then 1 else 0)
  | .int a, .int b => a == b
  | .str a, .str b => a == b
  | _, _ => false
theorem eqAt_V {A : Around} {s : Shared} {y x : V} {u v : Value} (ry : RelV y u) (rx : RelV x v) (fy : flatV y = true) (fx : flatV x = true) : SeqAt.EqAt A s u v (eqV y x) := by
  cases y with
  | non =>
    cases ry
    cases x with
    | non => cases rx; exact SeqAt.EqAt.same _
    | bl b => cases rx; exact SeqAt.EqAt.none_bool b
    | int b => obtain ⟨t, rfl⟩ := rx; exact SeqAt.EqAt.none_int b t
    | str b => obtain ⟨t, rfl⟩ := rx; exact SeqAt.EqAt.none_str b t
    | _ => exact absurd (show false = true from fx) Bool.false_ne_true
  | bl a =>
    cases ry
    cases x with
    | non => cases rx; exact SeqAt.EqAt.bool_none a
    | bl b => cases rx; exact SeqAt.EqAt.bool_bool a b
    | int b => obtain ⟨t, rfl⟩ := rx; exact SeqAt.EqAt.bool_int a b t
    | str b => obtain ⟨t, rfl⟩ := rx; exact SeqAt.EqAt.bool_str a b t
    | _ => exact absurd (show false = true from fx) Bool.false_ne_true
  | int a =>
    obtain ⟨t', rfl⟩ := ry
    cases x with
    | non => cases rx; exact SeqAt.EqAt.int_none a t'
    | bl b => cases rx; exact SeqAt.EqAt.int_bool a t' b
    | int b => obtain ⟨t, rfl⟩ := rx; exact SeqAt.EqAt.int_int a t' b t
    | str b => obtain ⟨t, rfl⟩ := rx; exact SeqAt.EqAt.int_str a t' b t
    | _ => exact absurd (show false = true from fx) Bool.false_ne_true
  | str a =>
    obtain ⟨t', rfl⟩ := ry
    cases x with
    | non => cases rx; exact SeqAt.EqAt.str_none a t'
    | bl b => cases rx; exact SeqAt.EqAt.str_bool a t' b
    | int b => obtain ⟨t, rfl⟩ := rx; exact SeqAt.EqAt.str_int a t' b t
    | str b => obtain ⟨t, rfl⟩ := rx; exact SeqAt.EqAt.str_str a t' b t
    | _ => exact absurd (show false = true from fx) Bool.false_ne_true
  | _ => exact absurd (show false = true from fy) Bool.false_ne_true
/-- the items' answers, read off the values (a value's own answer does not lean on its token) -/
def eqU (x : V) (u : Value) : Bool := match u with
  | .none => eqV .non x
  | .bool b => eqV (.bl b) x
  | .int i _ => eqV (.int i) x
  | .str z _ => eqV (.str z) x
  | _ => false
theorem eqU_of {x y : V} {u : Value} (r : RelV y u) (f : flatV y = true) : eqU x u = eqV y x := by
  cases y with
  | non => cases r; rfl
  | bl b => cases r; rfl
  | int i => obtain ⟨t, rfl⟩ := r; rfl
  | str z => obtain ⟨t, rfl⟩ := r; rfl
  | _ => exact absurd (show false = true from f) Bool.false_ne_true
theorem any_eqU {x : V} : ∀ {xs : List V} {us : List Value}, Vals xs us → xs.all flatV = true → us.any (eqU x) = xs.any fun y => eqV y x
  | _, _, .nil, _ => rfl
  | y :: xs, u :: us, .cons r t, f => by
    rw [List.all_cons, Bool.and_eq_true] at f
    rw [List.any_cons, List.any_cons, eqU_of r f.1, any_eqU t f.2]
theorem mem_eqAt {A : Around} {s : Shared} {x : V} {v : Value} (rx : RelV x v) (fx : flatV x = true) : ∀ {xs : List V} {us : List Value}, Vals xs us → xs.all flatV = true → ∀ u ∈ us, SeqAt.EqAt A s u v (eqU x u)
  | _, _, .nil, _ => fun u hu => by cases hu
  | y :: xs, u :: us, .cons r t, f => fun u' hu => by
    rw [List.all_cons, Bool.and_eq_true] at f
    rcases List.mem_cons.mp hu with rfl | hu
    · rw [eqU_of r f.1]; exact eqAt_V r rx f.1 fx
    · exact mem_eqAt rx fx t f.2 u' hu
def inV (x : V) (xs : List V) : Bool := xs.any fun y => eqV y x
/-- x in a list or tuple of flat items -/
def rIn (K : PySem.W.Frag) (neg : Bool) : R2 := fun x y H Q => ∃ p xs, y = .ref p ∧ (SqL K H p xs ∨ SqT K H p xs) ∧ flatV x = true ∧ xs.all flatV = true ∧ Q (.bl (if neg then !inV x xs else inV x xs)) H
theorem op_in_seq : OpR X (compareOp .In) (rIn X.K false) := by
  intro pins s σ H x y v u Q I rx ry h
  obtain ⟨p, xs, rfl, hq, fx, fs, q⟩ := h
  cases ry
  rcases hq with hq | hq
  · obtain ⟨its, r, pl, hz⟩ := I.list hq
    refine SeqAt.in_listAt (eqU x) pl.isList (fun w hw => mem_eqAt rx fx r fs w (by simpa using hw)) ⟨.bl _, H, I, rfl, ?_⟩
    rw [show its.toArray.any (eqU x) = its.any (eqU x) by simp, any_eqU r fs]
    exact q
  · obtain ⟨its, r, pl, hz⟩ := I.tuple hq
    refine SeqAt.in_tupleAt (eqU x) pl (fun w hw => mem_eqAt rx fx r fs w (by simpa using hw)) ⟨.bl _, H, I, rfl, ?_⟩
    rw [show its.toArray.any (eqU x) = its.any (eqU x) by simp, any_eqU r fs]
    exact q
theorem op_notIn_seq : OpR X (compareOp .NotIn) (rIn X.K true) := by
  intro pins s σ H x y v u Q I rx ry h
  obtain ⟨p, xs, rfl, hq, fx, fs, q⟩ := h
  cases ry
  rcases hq with hq | hq
  · obtain ⟨its, r, pl, hz⟩ := I.list hq
    refine SeqAt.notIn_listAt (eqU x) pl.isList (fun w hw => mem_eqAt rx fx r fs w (by simpa using hw)) ⟨.bl _, H, I, rfl, ?_⟩
    rw [show its.toArray.any (eqU x) = its.any (eqU x) by simp, any_eqU r fs]
    exact q
  · obtain ⟨its, r, pl, hz⟩ := I.tuple hq
    refine SeqAt.notIn_tupleAt (eqU x) pl (fun w hw => mem_eqAt rx fx r fs w (by simpa using hw)) ⟨.bl _, H, I, rfl, ?_⟩
    rw [show its.toArray.any (eqU x) = its.any (eqU x) by simp, any_eqU r fs]
    exact q
theorem call_len_seq : CallR X (.builtin "len") (fun xs H Q => ∃ p ys, xs = [.ref p] ∧ (SqL X.K H p ys ∨ SqT X.K H p ys) ∧ Q (.int ys.length) H) := by
  intro pins s σ H xs us Q I r h
  obtain ⟨p, ys, rfl, hq, q⟩ := h
  obtain ⟨u, rfl, rx⟩ := vals1 r
  cases rx
  have hn := line63
  rcases hq with hq | hq
  · obtain ⟨its, r', pl, hz⟩ := I.list hq
    have hlen := r'.length
    exact Calls.call_len_list pl.isList (by simp only [List.size_toArray] <;> omega) ⟨.int ys.length, H, I.tok _, ⟨s.toks + 1, by rw [List.size_toArray, hlen]⟩, q⟩
  · obtain ⟨its, r', pl, hz⟩ := I.tuple hq
    have hlen := r'.length
    exact len_tuple pl (by simp only [List.size_toArray] <;> omega) ⟨.int ys.length, H, I.tok _, ⟨s.toks + 1, by rw [List.size_toArray, hlen]⟩, q⟩
theorem call_tuple_of : CallR X (.type "tuple") (fun xs H Q => ∃ p ys, xs = [.ref p] ∧ ((SqL X.K H p ys ∧ ∀ l, H l = none → Q (.ref l) (upd H l (.tup ys))) ∨ (SqT X.K H p ys ∧ Q (.ref p) H))) := by
  intro pins s σ H xs us Q I r h
  obtain ⟨p, ys, rfl, h⟩ := h
  obtain ⟨u, rfl, rx⟩ := vals1 r
  cases rx
  rcases h with ⟨hq, q⟩ | ⟨hq, q⟩
  · obtain ⟨its, r', pl, hz⟩ := I.list hq
    have hlen := r'.length
    refine call_tuple_list pl.isList (fun h' kp => ?_) (by simp only [List.size_toArray] <;> omega)
    have I1 : Inv X pins σ H { s with heap := h' } := I.kept (t' := s.toks) kp
    have I2 : Inv X pins σ (upd H h'.objs.size (.tup ys)) { s with heap := h'.push { cls := .type "tuple", data := .seq its.toArray } } :=
      I1.laid (t' := s.toks) (fun b o e => Heap.get?_push_of_some _ e) (Nat.le_refl _) (show ObjOk X.prog X.w _ _ _ (.tup ys) from ⟨hz, its, r', IsTup.new _ _⟩)
    exact ⟨.ref h'.objs.size, _, I2, rfl, q _ (I1.hok.fresh (Nat.le_refl _))⟩
  · obtain ⟨its, r', pl, hz⟩ := I.tuple hq
    exact call_tuple_same pl ⟨.ref p, H, I, rfl, q⟩

/-- the value is of that builtin type -/
def tyV (K : PySem.W.Frag) (T : String) (x : V) (H : Hp) : Prop := match x with
  | .str _ => T = "str"
  | .int _ => T = "int"
  | .ref p => (T = "list" ∧ ∃ xs, SqL K H p xs) ∨ (T = "tuple" ∧ ∃ o, K.lookup p = some o ∧ o.cls = .type "tuple" ∧ o.dict = none) ∨
      (T = "dict" ∧ ((∃ kvs, H p = some (.dK kvs)) ∨ ∃ kvs, H p = some (.dT kvs))) ∨ (T = "set" ∧ ∃ S n, H p = some (.set S n))
  | _ => False
theorem tyV_is {pins : List (Addr × Obj)} {σ : St} {H : Hp} {s : Shared} {T : String} {x : V} {v : Value} (I : Inv X pins σ H s) (r : RelV x v) (ty : tyV X.K T x H) :
    s.TypeIs v T ∧ ∀ a, v = .ref a → ∃ ob, s.heap.get? a = some ob ∧ ob.dict = none := by
  cases x with
  | str z =>
    obtain ⟨t, rfl⟩ := r
    cases (show T = "str" from ty)
    exact ⟨typeIs_str s z t, fun _ e => nomatch e⟩
  | int i =>
    obtain ⟨t, rfl⟩ := r
    cases (show T = "int" from ty)
    exact ⟨typeIs_int s i t, fun _ e => nomatch e⟩
  | ref p =>
    cases r
    rcases ty with ⟨rfl, xs, hq⟩ | ⟨rfl, o, hk, hc, hd⟩ | ⟨rfl, hk⟩ | ⟨rfl, S, n, hk⟩
    · obtain ⟨its, _, pl, _⟩ := I.list hq
      refine ⟨pl.isList.typeIs, fun a e => ?_⟩
      cases e
      obtain ⟨o, n, e, c, hd, _⟩ := pl
      exact ⟨o, e, hd⟩
    · refine ⟨⟨o, I.kIn p o hk, hc⟩, fun a e => ?_⟩
      cases e
      exact ⟨o, I.kIn _ o hk, hd⟩
    · have z : ∃ o, s.heap.get? p = some o ∧ o.ExactDict := by
        rcases hk with ⟨kvs, hk⟩ | ⟨kvs, hk⟩
        · obtain ⟨_, _, _, _, o, _, _, e, ex, _⟩ := I.hok p _ hk
          exact ⟨o, e, ex⟩
        · obtain ⟨_, _, _, _, o, _, _, e, ex, _⟩ := I.hok p _ hk
          exact ⟨o, e, ex⟩
      obtain ⟨o, e, ex⟩ := z
      refine ⟨⟨o, e, ex.1⟩, fun a e2 => ?_⟩
      cases e2
      exact ⟨o, e, ex.2.1⟩
    · obtain ⟨o, _, _, _, e, ex, _⟩ := I.hok p _ hk
      refine ⟨⟨o, e, ex.1⟩, fun a e2 => ?_⟩
      cases e2
      exact ⟨o, e, ex.2.1⟩
  | _ => exact False.elim ty
def tBM0 (K : PySem.W.Frag) (T : String) (r : V → List V → Hp → VK → Prop) (to : TE) : TE := fun σ H Q => to σ H fun x H1 => tyV K T x H1 ∧ r x [] H1 Q
def tBM (K : PySem.W.Frag) (T : String) (r : V → List V → Hp → VK → Prop) (to : TE) (t : TA) : TE := fun σ H Q => to σ H fun x H1 => tyV K T x H1 ∧ t σ H1 fun xs H2 => r x xs H2 Q
variable {o e : Expr} {es : List Expr} {to : TE} {t : TA} {name : Str} {apos cpos : Pos} {T id : String} {r : V → List V → Hp → VK → Prop}
theorem pe_bm (pa : PlainAttrs T) (slot : Slot T name id) (hty : typeOf (.builtin id) = pure (.type "method_descriptor")) (hm : MtR X id r) (ho : PE X o to) (ha : PA X (e :: es) t)
    (hbase : attributeBase o name X.env (eval o X.env) = eval o X.env := by rfl)
    (hfew : ((backTo cpos (starEach (e :: es) X.env)).all (fun x => !x.1) && (backToKw cpos (keywordEach [] X.env)).all (fun x => x.1.isSome)
      && decide ((e :: es).length + ([] : List Keyword).length + (if ([] : List Keyword).isEmpty then 0 else 1) < 30)) = true := by rfl)
    (hline : (apos.endLine == cpos.line) = true := by rfl) (hs : starEach (e :: es) X.env = (false, eval e X.env) :: starEach es X.env := by rfl) (hplain : (backTo cpos (starEach es X.env)).any (·.1) = false := by rfl) :
    PE X (.Call (.Attribute o name apos) (e :: es) [] cpos) (tBM X.K T r to t) := by
  intro pins s σ H Q I h
  refine wpAny_Call_method_late hbase hfew hline rfl (thn (ho pins s σ H _ I h) fun v s1 ⟨x, H1, I1, r1, ty, q1⟩ => ?_)
  obtain ⟨h1, h2⟩ := tyV_is I1 r1 ty
  refine ⟨T, id, pa, slot, hty, h1, h2, ?_⟩
  have hA := ha cpos pins s1 σ H1 _ I1 q1
  rw [hs] at hA ⊢
  refine Calls.callWith_builtin (by show (false || (backTo cpos (starEach es X.env)).any (·.1)) = false; rw [hplain] <;> rfl) (Calls.evalArgs_plain ?_)
  exact thn hA fun us s2 ⟨vs, H2, I2, r2, q2⟩ => hm pins s2 σ H2 x vs v us Q I2 r1 r2 q2
/- xs.append(e), list.index on a module's tuple .. are MtR facts of 06m -/
end
end L2

namespace L2
open PySem PySem.Spec PyProof.Rows

def MtM (X : Cx) (id : String) (r : V → List V → Hp → VK → Prop) : Prop :=
  ∀ (pins : List (Addr × Obj)) (s : Shared) (σ : St) (H : Hp) (x : V) (xs : List V) (v : Value) (us : List Value) (Q : VK), Inv X pins σ H s → RelV x v → Vals xs us → r x xs H Q →
    wpAny (model X.prog X.w) X.A (call (.builtin id) (v :: us)) (EP X pins σ Q) X.xe s

theorem Vals.one : ∀ {x : V} {us : List Value}, Vals [x] us → ∃ u, us = [u] ∧ RelV x u
  | _, _, .cons r .nil => ⟨_, rfl, r⟩
theorem Vals.two : ∀ {x y : V} {us : List Value}, Vals [x, y] us → ∃ u v, us = [u, v] ∧ RelV x u ∧ RelV y v
  | _, _, _, .cons r (.cons q .nil) => ⟨_, _, rfl, r, q⟩
theorem Vals.zero : ∀ {us : List Value}, Vals [] us → us = []
  | _, .nil => rfl
theorem Vals.dropLast {xs : List V} {us : List Value} (h : Vals xs us) : Vals xs.dropLast us.dropLast := by
  induction h with
  | nil => exact .nil
  | cons r t ih =>
    cases t with
    | nil => exact .nil
    | cons q t' => exact .cons r ih
theorem Vals.eraseIdx : ∀ {xs : List V} {us : List Value} (i : Nat), Vals xs us → Vals (xs.eraseIdx i) (us.eraseIdx i)
  | _, _, _, .nil => .nil
  | _, _, 0, .cons _ t => t
  | _, _, i + 1, .cons r t => .cons r (Vals.eraseIdx i t)
theorem Vals.reverse {xs : List V} {us : List Value} (h : Vals xs us) : Vals xs.reverse us.reverse := by
  induction h with
  | nil => exact .nil
  | cons r t ih => rw [List.reverse_cons, List.reverse_cons]; exact Vals.append ih (.cons r .nil)
theorem Vals.rep {xs : List V} {us : List Value} (h : Vals xs us) : ∀ k : Nat, Vals (List.replicate k xs).flatten (List.replicate k us).flatten
  | 0 => .nil
  | k + 1 => by
    rw [List.replicate_succ, List.replicate_succ, List.flatten_cons, List.flatten_cons]
    exact Vals.append h (Vals.rep h k)
section
variable {X : Cx} {pins : List (Addr × Obj)} {σ : St} {H : Hp} {s : Shared} {l b : Addr} {xs ys zs : List V}

theorem Inv.lset {its its' : List Value} {n : Nat} {f : Array Value → Array Value} {t' : Nat} (I : Inv X pins σ H s) (hH : H l = some (.lst xs))
    (e : s.heap.get? l = some { cls := .type "list", data := .seq its.toArray n }) (hf : f its.toArray = its'.toArray) (hv : Vals ys its') (hz : ys.length ≤ sizeLine) :
    Inv X pins σ (upd H l (.lst ys)) { s with heap := s.heap.update l (Obj.mapSeq f), toks := t' } := by
  have q := PySem.IsL.update e f
  rw [hf] at q
  refine I.write (x := l) (e := l) (by rw [hH]; exact trivial) (.inl rfl) (fun b' u hb hu => (Heap.get?_update_other s.heap (Obj.mapSeq f) (Ne.symm hb)).trans hu) ⟨_, q⟩ ?_
  exact ⟨hz, its', _, hv, q⟩
theorem Inv.lnew {its : List Value} {t' : Nat} (I : Inv X pins σ H s) (hv : Vals ys its) (hz : ys.length ≤ sizeLine) :
    Inv X pins σ (upd H s.heap.objs.size (.lst ys)) { s with heap := s.heap.push { cls := .type "list", data := .seq its.toArray }, toks := t' } :=
  I.laid (fun _ _ q => Heap.get?_push_of_some _ q) (Nat.le_refl _) ⟨hz, its, 0, hv, Heap.get?_push_size _ rfl⟩
theorem Inv.fresh (I : Inv X pins σ H s) : H s.heap.objs.size = none := I.hok.fresh (Nat.le_refl _)
theorem Inv.lstM (I : Inv X pins σ H s) (hH : H l = some (.lst xs)) : xs.length ≤ sizeLine ∧ ∃ (its : List Value) (n : Nat), Vals xs its ∧ xs.length = its.length ∧ s.heap.get? l = some { cls := .type "list", data := .seq its.toArray n } := by
  obtain ⟨z, its, n, r, e⟩ := I.hok l _ hH
  exact ⟨z, its, n, r, r.length, e⟩

theorem notLongL {n : Nat} (h : n ≤ sizeLine) : Builtin.List.listTooLong n = false := by
  unfold Builtin.List.listTooLong
  exact decide_eq_false (by omega)
end

section
variable {X : Cx}

def rAppend : V → List V → Hp → VK → Prop := fun x vs H Q => ∃ l xs y, x = .ref l ∧ vs = [y] ∧ H l = some (.lst xs) ∧ xs.length < sizeLine ∧ Q .non (upd H l (.lst (xs ++ [y])))
theorem mt_append : MtM X "list.append" rAppend := by
  intro pins s σ H x vs v us Q I rx rv h
  obtain ⟨l, xs, y, rfl, rfl, hH, hz, q⟩ := h
  cases rx
  obtain ⟨u, rfl, ru⟩ := rv.one
  obtain ⟨z, its, n, r, hl, e⟩ := I.lstM hH
  refine call_meets F.slot_list_append ⟨_, e, rfl⟩ F.entry_list_append (F.args_list_append_2 _ _) (PySem.list_append l its.toArray n u (by rw [List.size_toArray]; omega)) ⟨e, ?_⟩
  refine ⟨.non, _, I.lset (its' := its ++ [u]) hH e (by simp) (r.append (.cons ru .nil)) ?_, rfl, q⟩
  rw [List.length_append, List.length_singleton]
  omega

def rExtend : V → List V → Hp → VK → Prop := fun x vs H Q => ∃ l b xs zs, x = .ref l ∧ vs = [.ref b] ∧ H l = some (.lst xs) ∧ H b = some (.lst zs) ∧ xs.length + zs.length ≤ sizeLine ∧ Q .non (upd H l (.lst (xs ++ zs)))
theorem mt_extend : MtM X "list.extend" rExtend := by
  intro pins s σ H x vs v us Q I rx rv h
  obtain ⟨l, b, xs, zs, rfl, rfl, hH, hB, hz, q⟩ := h
  cases rx
  obtain ⟨u, rfl, ru⟩ := rv.one
  cases ru
  obtain ⟨z, its, n, r, hl, e⟩ := I.lstM hH
  obtain ⟨z2, its2, n2, r2, hl2, e2⟩ := I.lstM hB
  have hsz : its.toArray.size + its2.toArray.size ≤ sizeLine := by rw [List.size_toArray, List.size_toArray]; omega
  have hlong : ¬ (!its.toArray.isEmpty && Builtin.List.listTooLong (its.toArray.size + its2.toArray.size)) = true := by
    rw [notLongL hsz, Bool.and_false]
    exact Bool.false_ne_true
  refine call_meets F.slot_list_extend ⟨_, e, rfl⟩ F.entry_list_extend (F.args_list_extend_2 _ _)
    (AutoSeq1.list_extend_list_list_0 l its.toArray n b its2.toArray n2 hlong (by rw [List.size_toArray]; omega) (by omega)) ⟨e, e2, ?_⟩
  refine ⟨.non, _, I.lset (its' := its ++ its2) hH e (by simp) (r.append r2) ?_, rfl, q⟩
  rw [List.length_append]
  omega

end

section
variable {prog : Program} {w : World} {A : Around} {E : Value → Shared → Prop} {s : Shared}
end

section
variable {X : Cx}
end
end L2

namespace Att
open PySem PySem.W PySem.Calls PyProof.Rows

theorem ints_of_wellAll {P : Params} {h : Heap} : ∀ (ns : List Int) (vs : List Value), WellAll P h vs (ns.map WData.int) → IntsAre vs ns := by
  intro ns
  induction ns with
  | nil =>
    intro vs w
    rw [List.map_nil] at w
    cases w
    exact .nil
  | cons n ns ih =>
    intro vs w
    rw [List.map_cons] at w
    cases w with
    | cons a b =>
      cases a
      exact .cons _ _ (ih _ b)

theorem script_of {l : OpenLaw} {n : Nat} (hn : l.most = some n) {P : Params} {h : Heap} {args : List WData} {vals : List Value}
    (hpre : l.row.toRowW.claim.pre args = true) (hwl : WellAll P h vals args) :
    ∃ a vs ns, vals = [Value.ref a] ∧ args = [WData.list (ns.map WData.int)] ∧ h.get? a = some { cls := .type "list", data := .seq vs.toArray } ∧ IntsAre vs ns ∧ ns.length ≤ n := by
  have hsh : WShape.hasAll [] args [.list .int] = true := (pre_splitW hpre).1
  have hc : l.pre.holds [] { args := args } = true := (pre_splitW hpre).2
  obtain ⟨d, r, rfl, h1, h2⟩ := hasAllW_cons hsh
  obtain rfl := hasAllW_nil h2
  obtain ⟨xs, rfl, h3⟩ := hasW_list h1
  obtain ⟨ns, rfl⟩ := items_int h3
  have hlen : ns.length ≤ n := by
    unfold OpenLaw.pre at hc
    have h4 : (WTm.not (.lt (.lit (.int (n : Int))) (.len (.arg 0)))).holds [] { args := [.list (ns.map .int)] } = true := by
      have h4 := (holds_andW hc).1
      rw [hn] at h4
      exact h4
    have h5 := condW_of h4 (w_not (w_lt w_lit (w_len_list (w_arg rfl))))
    rw [List.length_map] at h5
    refine Nat.le_of_not_lt fun q => ?_
    have q' : (n : Int) < ((ns.length : Nat) : Int) := by omega
    first
      | (rw [decide_eq_true q'] at h5; exact absurd h5 (by decide))
      | (simp at h5; omega)
  cases hwl with
  | cons w1 w2 =>
    cases w2
    cases w1 with
    | list ho hall => exact ⟨_, _, ns, rfl, rfl, ho, ints_of_wellAll ns _ hall, hlen⟩

theorem post_true (l : OpenLaw) (args : List WData) : l.row.toRowW.claim.post args (.bool true) args = true :=
  postW_of (r := l.row.toRowW) (X := (true == true))
    (show WShape.has [] (.bool true) .bool = true by first | rfl | decide | simp [WShape.has, WShape.arms, WShape.armsAll])
    (show (WTm.eq .res (.lit (.bool true))).value [] { args := args, res := some (.bool true), after := args } = some (.bool (true == true)) from w_eq_bool (w_res rfl) w_lit) rfl

/-- the same from a codeAny of the CALL (for a layer whose function contracts speak of calls) -/
theorem attach_call {l : OpenLaw} {n : Nat} {q : Program} {loose : List Str} {XP : (Str → Option Value) → Heap → Prop} {YP : World → Heap → Prop} {d : DefRec}
    (hn : l.most = some n) (hdf : d.params.defaults = [])
    (call : ∀ (w : World) (s₀ s₁ : Shared) (mg mb : Str → Option Value) (fa : Addr) (o : Obj) (pm cd doc : Value) (a : Addr) (vs : List Value) (ns : List Int),
      Ground q loose [] XP w s₀ mg mb s₁.heap → YP w s₁.heap →
      s₁.heap.get? fa = some o → o.data = .func (docDef d.name d.params d.body d.scope pm cd doc) → s₁.heap.CodeRec cd d.name → mg d.name = some (.ref fa) →
      s₁.heap.get? a = some { cls := .type "list", data := .seq vs.toArray } → IntsAre vs ns → ns.length ≤ n → s₁.gens = #[] →
      codeAny (model l.prog w) callerA (.call (.ref fa) ⟨[.ref a], []⟩) (fun r s' => r = .ok (.ret (.bool true)) ∧ OldK s₁.heap s'.heap ∧ s'.os = s₁.os ∧ AllBare s'.gens) s₁) :
    WalkO q loose XP YP l.row.toRowW d [] (fun f vs => PySem.call f vs) := by
  intro w s₀ s₁ mg mb G Y fa o pm cd doc dV kV ho hd hcd hD hmg hg args vals as hpre hlay hrd hwl hlo
  obtain rfl : dV = .none := Dflts.none hD hdf
  obtain rfl : kV = .none := Dflts.noKw hD
  obtain ⟨a, vs, ns, rfl, rfl, hobj, hints, hlen⟩ := script_of hn hpre hwl
  refine enter_call (codeAny_mono (call w s₀ s₁ mg mb fa o pm cd doc a vs ns G Y ho (fd_plain hd) hcd hmg hobj hints hlen hg) fun r s' hq => ?_)
  obtain ⟨rfl, h2, h3, h4⟩ := hq
  exact ⟨.inl ⟨.bool true, .bool true, [], rfl, fun _ => rfl, .bool true, post_true l _, fun _ => ⟨List.Pairwise.nil, fun _ hm => (nomatch hm)⟩⟩, h2, h3, h4⟩

section
variable {prog : Program} {w : World} {A : Around} {E : Value → Shared → Prop} {s : Shared} {K : Frag}

end
end Att

namespace L2
open PySem PySem.Spec PyProof.Rows

theorem vals_ints : ∀ {vs : List Value} {ns : List Int}, IntsAre vs ns → Vals (ns.map V.int) vs
  | _, _, .nil => .nil
  | _, _, .cons n t h => .cons ⟨t, rfl⟩ (vals_ints h)

/-- nothing is tracked but the script, known to the object (or it is an object of the module) -/
def Only (H : Hp) : Prop := ∀ b, H b = none ∨ ∃ o xs, H b = some (.frz o (.lst xs))

/-- THE HEAD: the law's promise, at the heap behind the top. F, the promise of the law's def, may use that base is part of the heap (so K.In base, base.Ns mainGlobals mg stand in Mod) -/
theorem law_call {P : Program} {w : World} {K : PySem.W.Frag} {mg mb : Str → Option Value} {CX : CXT} {k : Nat} {fa a : Addr} {fd : FuncData} {x : Str} {sp : Sp} {s₁ : Shared} {vs : List Value} {ns : List Int}
    (KX : K.In s₁.heap) (hns : s₁.heap.Ns mainGlobals mg) (hb : s₁.heap.Ns builtinsNs mb) (hbb : ∀ x : Str, x ≠ "__name__" → mb x = bootBuiltins x) (hlim : s₁.heap.NoLimit) (hg : s₁.gens = #[])
    (ha : s₁.heap.get? a = some { cls := .type "list", data := .seq vs.toArray }) (hi : IntsAre vs ns) (hl : ns.length ≤ sizeLine) (hr : Room k callerA)
    (F : ∀ base : Heap, K.In base → base.Ns mainGlobals mg → FnOk P w K mg base CX k fa fd [x] sp) (hbind : ∀ (s : Shared) (u : Value), BindsTo s fd ⟨[u], []⟩ [(x, u)])
    (hsp : ∀ H : Hp, Only H → SqL K H a (ns.map V.int) → sp [.ref a] H (fun v _ => v = .bl true) fun _ _ _ => False)
    (hCX : ∀ H e s', CX [] H s₁ (fun _ _ _ => False) e s' → False) :
    codeAny (model P w) callerA (.call (.ref fa) ⟨[.ref a], []⟩) (fun r s' => r = .ok (.ret (.bool true)) ∧ OldK s₁.heap s'.heap ∧ s'.os = s₁.os ∧ AllBare s'.gens) s₁ := by
  have rv := vals_ints hi
  have lenV := hi.length
  -- from an abstract heap in which nothing but the script may be tracked
  have core : ∀ H : Hp, Only H → SqL K H a (ns.map V.int) → HOk P w H s₁.heap → (∀ b, H b ≠ none → b = a) → (H a ≠ none → K.lookup a = none) →
      codeAny (model P w) callerA (.call (.ref fa) ⟨[.ref a], []⟩) (fun r s' => r = .ok (.ret (.bool true)) ∧ OldK s₁.heap s'.heap ∧ s'.os = s₁.os ∧ AllBare s'.gens) s₁ := by
    intro H hO hS hok hA hK
    have base_of : ∀ {b : Addr} {o : Obj}, s₁.heap.get? b = some o → H b = none → (hidT s₁.heap H).get? b = some o := fun e n => hidT_get e n
    have noA : ∀ {b : Addr} {o : Obj} {es : Array DictEntry} {ep : Nat}, s₁.heap.get? b = some o → o.data = .dict es ep → H b = none := fun {b o es ep} e d => by
      cases q : H b with
      | none => rfl
      | some u =>
        have e' : b = a := hA b (by rw [q]; simp)
        subst e'
        rw [ha] at e; cases e
        have d' : Data.seq vs.toArray _ = Data.dict es ep := d
        cases d'
    have nsK : ∀ {b : Addr} {m : Str → Option Value}, s₁.heap.Ns b m → (hidT s₁.heap H).Ns b m := fun {b m} ⟨o, es, ep, e, d, r⟩ => ⟨o, es, ep, base_of e (noA e d), d, r⟩
    have hKb : K.In (hidT s₁.heap H) := fun b o e => base_of (KX b o e) (by
      cases q : H b with
      | none => rfl
      | some u =>
        have e' : b = a := hA b (by rw [q]; simp)
        subst e'
        rw [hK (by rw [q]; simp)] at e; cases e)
    have hM : Mod K mg (hidT s₁.heap H) := ⟨hKb, nsK hns, ⟨mb, nsK hb, hbb⟩, let ⟨mc, h1, h2⟩ := hlim; ⟨mc, nsK h1, h2⟩⟩
    have e0 : Env0 P w K mg (hidT s₁.heap H) callerA [] s₁ H := ⟨rfl, hM, fun b o e => of_hidT e, Nat.le_of_eq (hidT_size _ _), trivial, fun b hb => absurd (show b ∈ ([] : List Addr) from hb) (by simp), hok, .of_eq hg⟩
    refine codeAny_mono ((F _ hKb (nsK hns)).run callerA [] s₁ H ⟨[.ref a], []⟩ [.ref a] [.ref a] _ _ hr e0 (hbind s₁ (.ref a)) (.cons rfl .nil) (hsp H hO hS)) fun r s' h => ?_
    cases r with
    | error e => exact (hCX H e s' h).elim
    | ok fl =>
      cases fl with
      | next => exact False.elim h
      | brk => exact False.elim h
      | cont => exact False.elim h
      | ret u =>
        obtain ⟨v, H', os, bare, un, hok', r', q⟩ := h
        have q' : v = .bl true := q
        subst q'
        obtain rfl : u = Value.bool true := r'
        refine ⟨rfl, OldK.of_keep fun b o e => ?_, os, bare⟩
        cases q : H b with
        | none => exact un.keep b o e q (by intro z; exact absurd (show b ∈ ([] : List Addr) from z) (by simp)) (by simp)
        | some u =>
          rcases hO b with z | ⟨ob, xs, z⟩
          · rw [q] at z; cases z
          · have z2 := un.frzs b ob _ z
            obtain ⟨e1, _⟩ := hok b _ z
            obtain ⟨e2, _⟩ := hok' b _ z2
            rw [e] at e1; cases e1
            exact e2
  cases hk : K.lookup a with
  | some o =>
    -- the script is one of the module's own objects
    have e := KX a o hk
    rw [ha] at e
    cases e
    refine core (fun _ => none) (fun _ => .inl rfl) (.inr ⟨_, vs.toArray, _, hk, rfl, rfl, rfl, by rw [List.size_toArray, lenV]; exact hl, by simpa using rv⟩) (fun b u z => by have z' : (none : Option HO) = some u := z; cases z') (fun b z => absurd rfl z) fun z => absurd rfl z
  | none =>
    refine core (fun b => if b = a then some (.frz { cls := .type "list", data := .seq vs.toArray } (.lst (ns.map V.int))) else none) (fun b => ?_) (.inl (.inr ⟨{ cls := .type "list", data := .seq vs.toArray }, if_pos rfl⟩)) (fun b u z => ?_) (fun b z => ?_) fun _ => hk
    · by_cases hb : b = a
      · exact .inr ⟨_, _, if_pos hb⟩
      · exact .inl (if_neg hb)
    · by_cases hb : b = a
      · have z' := (if_pos hb).symm.trans z
        cases z'
        subst hb
        exact ⟨ha, by rw [List.length_map]; exact hl, vs, _, rv, ha⟩
      · have z' := (if_neg hb).symm.trans z
        cases z'
    · by_cases hb : b = a
      · exact hb
      · exact absurd (if_neg hb) z
end L2

namespace L2
open PySem PySem.Spec PyProof.Rows

/-- the goal that k_head leaves (case hc), from the law's promise. F gives the function object fd (K's own) once, then the promise over every base -/
theorem walk_of {l : PySem.W.OpenLaw} {n k : Nat} {q : Program} {loose : List Str} {XP : (Str → Option Value) → Heap → Prop} {YP : World → Heap → Prop} {d : DefRec} {K : Params → PySem.W.Frag} {CX : World → CXT} {sp : World → Sp} {x : Str}
    (hn : l.most = some n) (hn2 : n ≤ sizeLine) (hdf : d.params.defaults = []) (hr : Room k callerA)
    (hY : ∀ (w : World) (h : Heap), YP w h → (K w.params).In h)
    (F : ∀ (w : World) (mg : Str → Option Value) (fa : Addr) (h : Heap), (K w.params).In h → h.Ns mainGlobals mg → mg d.name = some (.ref fa) →
      ∃ fd : FuncData, (∀ (s : Shared) (u : Value), BindsTo s fd ⟨[u], []⟩ [(x, u)]) ∧
        ∀ base : Heap, (K w.params).In base → base.Ns mainGlobals mg → FnOk l.prog w (K w.params) mg base (CX w) k fa fd [x] (sp w))
    (hsp : ∀ (w : World) (H : Hp) (a : Addr) (ns : List Int), ns.length ≤ n → Only H → SqL (K w.params) H a (ns.map V.int) → sp w [.ref a] H (fun v _ => v = .bl true) fun _ _ _ => False)
    (hCX : ∀ (w : World) (H : Hp) (s : Shared) (e : Value) (s' : Shared), CX w [] H s (fun _ _ _ => False) e s' → False) :
    PySem.W.WalkO q loose XP YP l.row.toRowW d [] (fun f vs => PySem.call f vs) := by
  refine Att.attach_call hn hdf fun w s₀ s₁ mg mb fa o pm cd doc a vs ns G Y ho hd hcd hmg hobj hints hlen hg => ?_
  have KX := hY w _ Y
  obtain ⟨fd, hb, hF⟩ := F w mg fa _ KX G.T.g hmg
  exact law_call KX G.T.g G.T.b G.T.builtins G.T.nolimit hg hobj hints (Nat.le_trans hlen hn2) hr hF hb (fun H hO hS => hsp w H a ns hlen hO hS) fun H e s' => hCX w H s₁ e s'
end L2

/- THE LAST THEOREM (shape; LID, My.* are yours):
   My.Adr: a structure of the addresses that your layer names (classes, functions); My.Txt K t: a structure (Prop) of the equations over K;
   My.txt_mk : {K} {implicit addresses ..} (e1 : nsIn K mainGlobals "law" = some (some (.ref f))) (e2 : K.lookup f = some ⟨oc, od, .func (fnOf "law" "law" params body scope dV kV doc pm an cdv ct), sl⟩) (e3 : codeIn K cdv "law" = true) .. : ∃ t, My.Txt K t

set_option maxRecDepth 100000 in
set_option maxHeartbeats 0 in
theorem PySem.Challenge.cw_LID_holds : PySem.Challenge.rw_LID.Holds := by
  w_on; o_law; k_head; (case hw => w_witness2)
  k_fill
  refine L2.walk_of (l := PySem.Challenge.rw_LID) (n := 63) (k := 40) (x := "script") (CX := fun w => ..) (sp := fun _ => My.sp_law) rfl (by decide) rfl ⟨rfl, by decide, by decide⟩ (fun w h Y => PySem.W.kIn_of Y) ?F ?S ?C
  case F =>
    intro w mg fa h KX G hmg
    have T : ∃ t, My.Txt (L2.KOf KX) t := by
      dsimp only [L2.KOf]                          -- K must stand as «<heap const> w.params» for k_is
      refine' My.txt_mk ?e1 ?e2 ?e3 ..
      (case e1 => PySem.W.k_is)                    -- in the order: a name -> its address -> its object -> its parts
      (case e2 => PySem.W.k_is)
      ..
    obtain ⟨t, T⟩ := T
    have e0 := hmg.symm.trans (PySem.W.mg_of KX G T.law)
    cases e0                                       -- fa is the law's own address
    exact ⟨_, fun s u => .of_eq rfl, fun base kb nb => My.law_fn T kb nb⟩     -- if «.of_eq rfl» comes too early: refine' ⟨_, ?b, fun base kb nb => My.law_fn T kb nb⟩; exact fun s u => .of_eq rfl
  case S => exact fun w H a ns hl hO hS => ..
  case C => exact ..
(the tactic k_is has no namespace: write k_is) -/

namespace L2
open PySem PySem.Spec PyProof.Rows

def defArgs (s : Stmt) : Arguments := match s with
  | .FunctionDef _ a _ _ _ _ _ _ _ _ => a
  | _ => { posonlyargs := [], args := [], vararg := none, kwonlyargs := [], kw_defaults := [], kwarg := none, defaults := [] }
def defBody (s : Stmt) : List Stmt := match s with
  | .FunctionDef _ _ b _ _ _ _ _ _ _ => b
  | _ => []
def defScope (s : Stmt) : Scope := match s with
  | .FunctionDef _ _ _ _ _ _ sc _ _ _ => sc
  | _ => { kind := .function, names := [], isGenerator := false, isCoroutine := false }

abbrev CX0 : CXT := fun _ _ _ _ _ _ => False
abbrev E0 : XK := fun _ _ _ => False
theorem pass0 {X : Cx} : Passes CX0 X E0 := fun _ _ _ _ _ _ _ h => h.elim

structure Fun (K : PySem.W.Frag) (x qual : Str) (st : Stmt) (f : Addr) (fd : FuncData) : Prop where
  ex : ∃ (oc : Value) (od : Option Addr) (kV doc pm : Value) (an : Option Addr) (cdv ct : Value) (osl : Array (Option Value)),
    fd = PySem.W.fnOf x qual (defArgs st) (defBody st) (defScope st) .none kV doc pm an cdv ct ∧ K.lookup f = some ⟨oc, od, .func fd, osl⟩ ∧ PySem.W.codeIn K cdv qual = true
  kp : PySem.W.keepIn K (.ref f) = true
section
variable {P : Program} {w : World} {K : PySem.W.Frag} {mg : Str → Option Value} {base : Heap}
/-- THE RULE for a def: its body as a term of rules, and the reading of that term -/
theorem Fun.ok {x qual : Str} {st : Stmt} {f : Addr} {fd : FuncData} {N ps : List Str} {k : Nat} {sp : Sp} (F : Fun K x qual st f fd) (S : FnScope N ps (defScope st)) (len : ∀ vs H Q E, sp vs H Q E → vs.length = ps.length)
    (hbody : ∀ (cdv : Value) (A : Around) (outer : List Env) (s : Shared) (H : Hp) (vs : List V) (Q : VK) (E : XK), Room k (A.deeper (envOfC qual (defScope st) s.heap.objs.size f cdv)) → sp vs H Q E →
      ∃ t, PSs (cxOf CX0 P w K mg base N qual (defScope st) f cdv A outer s H E).nox (defBody st) t ∧ t { nx := fun _ H' => Q .non H', rt := Q } (start N vs) H) : FnOk P w K mg base CX0 (k + 1) f fd ps sp := by
  obtain ⟨oc, od, kV, doc, pm, an, cdv, ct, osl, rfl, lk, hcd⟩ := F.ex
  refine fn_of lk hcd S len fun A outer s H vs Q E hr hsp => ?_
  obtain ⟨t, h, q⟩ := hbody cdv A outer s H vs Q E hr hsp
  exact ⟨t, h.nox, q⟩
/-- how its arguments bind (no defaults): h is «fun _ _ _ _ _ _ us hl => match us, hl with | [_, _], _ => rfl», one _ a parameter -/
theorem Fun.binds {x qual : Str} {st : Stmt} {f : Addr} {fd : FuncData} {ps : List Str} (F : Fun K x qual st f fd)
    (h : ∀ (kV doc pm : Value) (an : Option Addr) (cdv ct : Value) (us : List Value), us.length = ps.length → bindArgs (PySem.W.fnOf x qual (defArgs st) (defBody st) (defScope st) .none kV doc pm an cdv ct) ⟨us, []⟩ = pure (ps.zip us)) : Binds K fd ps [] := by
  obtain ⟨oc, od, kV, doc, pm, an, cdv, ct, osl, rfl, lk, hcd⟩ := F.ex
  exact .all (h kV doc pm an cdv ct)
theorem fun_mk {x qual : Str} {st : Stmt} {f : Addr} {oc : Value} {od an : Option Addr} {osl : Array (Option Value)} {kV doc pm cdv ct : Value} (l : K.lookup f = some ⟨oc, od, .func (PySem.W.fnOf x qual (defArgs st) (defBody st) (defScope st) .none kV doc pm an cdv ct), osl⟩)
    (c : PySem.W.codeIn K cdv qual = true) (k : PySem.W.keepIn K (.ref f) = true) : Fun K x qual st f (PySem.W.fnOf x qual (defArgs st) (defBody st) (defScope st) .none kV doc pm an cdv ct) := ⟨⟨oc, od, kV, doc, pm, an, cdv, ct, osl, rfl, l, c⟩, k⟩
end
theorem small1000 {n : Nat} (h : n ≤ 1000) : n < sizeLine := Nat.lt_of_le_of_lt h (by decide)

section
variable {X : Cx}
theorem pv (i : Nat) {x : Str} {pos : Pos} (hN : X.N[i]? = some x := by rfl) (hv : Vis X.env.scope x := by first | exact Or.inl rfl | exact Or.inr (Or.inl rfl) | exact Or.inr (Or.inr rfl)) (hd : (x == ("__debug__" : Str)) = false := by decide)
    (hcd : (x == ("__classdict__" : Str)) = false := by decide) : PE X (.Name x pos) (tVar i) := pe_var hN hv hd hcd
end

theorem iteF {A B : Prop} (h : B) : if false = true then A else B := by
  rw [if_neg Bool.false_ne_true]
  exact h
theorem iteT {A B : Prop} (h : A) : if true = true then A else B := by
  rw [if_pos rfl]
  exact h
/-- all that was tracked is as it was -/
def Same (H H' : Hp) : Prop := ∀ b o, H b = some o → H' b = some o
theorem Same.refl (H : Hp) : Same H H := fun _ _ h => h
theorem Same.trans {H H1 H2 : Hp} (a : Same H H1) (b : Same H1 H2) : Same H H2 := fun c o h => b c o (a c o h)
theorem Same.free {H H' : Hp} (e : Same H H') {l : Addr} (h : H' l = Option.none) : H l = Option.none := by
  cases q : H l with
  | none => rfl
  | some o =>
    rw [e l o q] at h
    cases h
theorem Same.seq {K : PySem.W.Frag} {H H' : Hp} {a : Addr} {xs : List V} (e : Same H H') (h : SqL K H a xs) : SqL K H' a xs := by
  rcases h with (h | ⟨o, h⟩) | h
  · exact .inl (.inl (e _ _ h))
  · exact .inl (.inr ⟨o, e _ _ h⟩)
  · exact .inr h

end L2

namespace L2
open PySem PySem.Spec PyProof.Rows

section
variable {κ : Type} [DecidableEq κ]
def valV (kvs : List (κ × V)) (k : κ) : Option V := (kvs.find? fun kv => decide (kv.1 = k)).map (·.2)
/-- in its place, or at the end -/
def putK (kvs : List (κ × V)) (k : κ) (v : V) : List (κ × V) :=
  if (kvs.any fun kv => decide (kv.1 = k)) = true then kvs.map (fun kv => if kv.1 = k then (kv.1, v) else kv) else kvs ++ [(k, v)]
def dropK (kvs : List (κ × V)) (k : κ) : List (κ × V) := kvs.filter fun kv => decide (kv.1 ≠ k)

theorem valV_pos {p : κ × V} {r : List (κ × V)} {k : κ} (e : p.1 = k) : valV (p :: r) k = some p.2 := by simp [valV, List.find?_cons, e]
theorem valV_neg {p : κ × V} {r : List (κ × V)} {k : κ} (e : ¬ p.1 = k) : valV (p :: r) k = valV r k := by simp [valV, List.find?_cons, e]
theorem valV_any (k : κ) : ∀ kvs : List (κ × V), (kvs.any fun kv => decide (kv.1 = k)) = (valV kvs k).isSome
  | [] => rfl
  | p :: r => by
    rw [List.any_cons]
    by_cases e : p.1 = k
    · simp only [valV_pos e, decide_eq_true e, Bool.true_or, Option.isSome_some]
    · rw [valV_neg e, decide_eq_false e, Bool.false_or]; exact valV_any k r
theorem valV_map (k j : κ) (y : V) : ∀ kvs : List (κ × V), valV (kvs.map fun kv => if kv.1 = k then (kv.1, y) else kv) j = (valV kvs j).map fun x => if j = k then y else x
  | [] => rfl
  | p :: r => by
    have ih := valV_map k j y r
    rw [List.map_cons]
    by_cases h : p.1 = k
    · rw [if_pos h]
      by_cases e : p.1 = j
      · rw [valV_pos (p := (p.1, y)) e, valV_pos e, Option.map_some, if_pos (e.symm.trans h)]
      · rw [valV_neg (p := (p.1, y)) e, valV_neg e, ih]
    · rw [if_neg h]
      by_cases e : p.1 = j
      · rw [valV_pos (p := p) e, valV_pos e, Option.map_some, if_neg (fun z => h (e.trans z))]
      · rw [valV_neg (p := p) e, valV_neg e, ih]
theorem valV_snoc (k j : κ) (y : V) : ∀ kvs : List (κ × V), valV kvs k = none → valV (kvs ++ [(k, y)]) j = if j = k then some y else valV kvs j
  | [], _ => by
    by_cases e : k = j
    · rw [if_pos e.symm]; exact valV_pos (p := (k, y)) e
    · rw [if_neg (fun z => e z.symm)]; exact valV_neg (p := (k, y)) e
  | p :: r, hn => by
    rw [List.cons_append]
    have hk : ¬ p.1 = k := fun z => by rw [valV_pos z] at hn; cases hn
    rw [valV_neg hk] at hn
    have ih := valV_snoc k j y r hn
    by_cases e : p.1 = j
    · rw [valV_pos e, valV_pos e, if_neg (fun z => hk (e.trans z))]
    · rw [valV_neg e, valV_neg e, ih]
theorem valV_put (kvs : List (κ × V)) (k j : κ) (y : V) : valV (putK kvs k y) j = if j = k then some y else valV kvs j := by
  unfold putK
  by_cases a : (kvs.any fun kv => decide (kv.1 = k)) = true
  · rw [if_pos a, valV_map]
    rw [valV_any] at a
    by_cases e : j = k
    · obtain ⟨x, hx⟩ := Option.isSome_iff_exists.mp a
      rw [if_pos e, e, hx, Option.map_some, if_pos rfl]
    · rw [if_neg e]
      cases valV kvs j with
      | none => rfl
      | some x => rw [Option.map_some, if_neg e]
  · rw [if_neg a]
    refine valV_snoc k j y kvs ?_
    rw [valV_any] at a
    cases q : valV kvs k with
    | none => rfl
    | some x => rw [q] at a; exact (a rfl).elim
theorem length_putK (kvs : List (κ × V)) (k : κ) (v : V) : (putK kvs k v).length ≤ kvs.length + 1 := by
  unfold putK
  split
  · rw [List.length_map]; omega
  · rw [List.length_append, List.length_cons, List.length_nil]; omega
theorem RelO.isSome_eq {o : Option V} {u : Option Value} (r : RelO o u) : o.isSome = u.isSome := by
  cases o with
  | none => cases u with
    | none => rfl
    | some _ => exact (show False from r).elim
  | some _ => cases u with
    | none => exact (show False from r).elim
    | some _ => rfl
theorem RelO.getD {o : Option V} {u : Option Value} {d : V} {d' : Value} (r : RelO o u) (rd : RelV d d') : RelV (o.getD d) (u.getD d') := by
  cases o with
  | none => cases u with
    | none => exact rd
    | some _ => exact (show False from r).elim
  | some _ => cases u with
    | none => exact (show False from r).elim
    | some _ => exact r

/-- raw tables of the same keys -/
theorem KV.val {kvs : List (κ × V)} {vs : List (κ × Value)} (r : KV kvs vs) (k : κ) : RelO (valV kvs k) (valueAt vs k) := by
  unfold KV at r
  induction r with
  | nil => exact True.intro
  | @cons p q ps qs h t ih =>
    obtain ⟨h1, h2⟩ := h
    by_cases e : p.1 = k
    · have e' : q.1 = k := h1.symm.trans e
      have b : valueAt (q :: qs) k = some q.2 := by simp [valueAt, List.find?_cons, e']
      rw [valV_pos e, b]; exact h2
    · have e' : ¬ q.1 = k := fun z => e (h1.trans z)
      have b : valueAt (q :: qs) k = valueAt qs k := by simp [valueAt, List.find?_cons, e']
      rw [valV_neg e, b]; exact ih
theorem KV.any {kvs : List (κ × V)} {vs : List (κ × Value)} (r : KV kvs vs) (k : κ) : (kvs.any fun kv => decide (kv.1 = k)) = vs.any fun kv => decide (kv.1 = k) := by
  unfold KV at r
  induction r with
  | nil => rfl
  | cons h t ih => rw [List.any_cons, List.any_cons, ih, h.1]
theorem KV.repl {kvs : List (κ × V)} {vs : List (κ × Value)} (r : KV kvs vs) (k : κ) {y : V} {u : Value} (ry : RelV y u) :
    KV (kvs.map fun kv => if kv.1 = k then (kv.1, y) else kv) (vs.map fun kv => if kv.1 = k then (kv.1, u) else kv) := by
  unfold KV at r ⊢
  induction r with
  | nil => exact .nil
  | @cons p q ps qs h t ih =>
    rw [List.map_cons, List.map_cons]
    refine .cons ?_ ih
    obtain ⟨h1, h2⟩ := h
    by_cases e : p.1 = k
    · rw [if_pos e, if_pos (h1.symm.trans e)]; exact ⟨h1, ry⟩
    · rw [if_neg e, if_neg (fun z => e (h1.trans z))]; exact ⟨h1, h2⟩
theorem KV.put {kvs : List (κ × V)} {vs : List (κ × Value)} (r : KV kvs vs) (k : κ) {y : V} {u : Value} (ry : RelV y u) : KV (putK kvs k y) (stored vs k u) := by
  unfold putK stored
  rw [r.any k]
  by_cases e : (vs.any fun kv => decide (kv.1 = k)) = true
  · rw [if_pos e, if_pos e]; exact r.repl k ry
  · rw [if_neg e, if_neg e]; exact Paired.snoc r ⟨rfl, ry⟩
theorem KV.drop {kvs : List (κ × V)} {vs : List (κ × Value)} (r : KV kvs vs) (k : κ) : KV (dropK kvs k) (without vs k) := by
  unfold KV at r ⊢
  unfold dropK without
  induction r with
  | nil => exact .nil
  | @cons p q ps qs h t ih =>
    obtain ⟨h1, h2⟩ := h
    rw [List.filter_cons, List.filter_cons]
    by_cases e : p.1 = k
    · have a : ¬ decide (p.1 ≠ k) = true := by simp [e]
      have b : ¬ decide (q.1 ≠ k) = true := by simp [h1.symm.trans e]
      rw [if_neg a, if_neg b]; exact ih
    · have e' : ¬ q.1 = k := fun z => e (h1.trans z)
      have a : decide (p.1 ≠ k) = true := by simp [e]
      have b : decide (q.1 ≠ k) = true := by simp [e']
      rw [if_pos a, if_pos b]; exact .cons ⟨h1, h2⟩ ih
theorem KV.length {kvs : List (κ × V)} {vs : List (κ × Value)} (r : KV kvs vs) : kvs.length = vs.length := Paired.length r
end


/-- raw entries of a dict with tuple keys -/
abbrev KT (H : Hp) : List (List Key × V) → List (List Key × Addr × Value) → Prop := Paired fun p q => p.1 = q.1 ∧ H q.2.1 = some (.tup (p.1.map kV)) ∧ RelV p.2 q.2.2
theorem KT.val {H : Hp} {kvs : List (List Key × V)} {xs : List (List Key × Addr × Value)} (r : KT H kvs xs) (k : List Key) : RelO (valV kvs k) ((atKey xs k).map (·.2)) := by
  induction r with
  | nil => exact True.intro
  | @cons p q ps qs h t ih =>
    obtain ⟨h1, _, h2⟩ := h
    by_cases e : p.1 = k
    · have e' : q.1 = k := h1.symm.trans e
      have b : atKey (q :: qs) k = some q.2 := by simp [atKey, List.find?_cons, e']
      rw [valV_pos e, b]; exact h2
    · have e' : ¬ q.1 = k := fun z => e (h1.trans z)
      have b : atKey (q :: qs) k = atKey qs k := by simp [atKey, List.find?_cons, e']
      rw [valV_neg e, b]; exact ih
theorem KT.repl {H : Hp} {kvs : List (List Key × V)} {xs : List (List Key × Addr × Value)} (r : KT H kvs xs) (k : List Key) {y : V} {u : Value} (ry : RelV y u) :
    KT H (kvs.map fun kv => if kv.1 = k then (kv.1, y) else kv) (xs.map (putAt k u)) := by
  induction r with
  | nil => exact .nil
  | @cons p q ps qs h t ih =>
    rw [List.map_cons, List.map_cons]
    refine .cons ?_ ih
    obtain ⟨h1, h2, h3⟩ := h
    unfold putAt
    by_cases e : p.1 = k
    · rw [if_pos e, if_pos (h1.symm.trans e)]; exact ⟨h1, h2, ry⟩
    · rw [if_neg e, if_neg (fun z => e (h1.trans z))]; exact ⟨h1, h2, h3⟩
theorem KT.put {H : Hp} {kvs : List (List Key × V)} {xs : List (List Key × Addr × Value)} (r : KT H kvs xs) (k : List Key) {b : Addr} {y : V} {u : Value} (hb : H b = some (.tup (k.map kV))) (ry : RelV y u) :
    KT H (putK kvs k y) (storedH xs k b u) := by
  have e : (kvs.any fun kv => decide (kv.1 = k)) = (atKey xs k).isSome := by
    rw [valV_any, (r.val k).isSome_eq, Option.isSome_map]
  unfold putK storedH
  rw [e]
  by_cases q : (atKey xs k).isSome = true
  · rw [if_pos q, if_pos q]; exact r.repl k ry
  · rw [if_neg q, if_neg q]; exact Paired.snoc r ⟨rfl, hb, ry⟩
theorem KT.keeps {H H' : Hp} {kvs : List (List Key × V)} {xs : List (List Key × Addr × Value)} (r : KT H kvs xs) (ht : ∀ b ys, H b = some (.tup ys) → H' b = some (.tup ys)) : KT H' kvs xs :=
  Paired.mapP r fun _ _ z => ⟨z.1, ht _ _ z.2.1, z.2.2⟩

section
variable {P : Program} {w : World} {H : Hp} {h : Heap} {a : Addr}
end

/-- what the dict at a holds at the key y -/
def DGet (H : Hp) (a : Addr) (y : V) (r : Option V) : Prop :=
  (∃ kvs k, Rd H a (.dK kvs) ∧ y = kV k ∧ r = valV kvs k) ∨ ∃ kvs k b, Rd H a (.dT kvs) ∧ y = .ref b ∧ H b = some (.tup (k.map kV)) ∧ r = valV kvs k
/-- the heap behind a[y] = v -/
def DPut (H : Hp) (a : Addr) (y v : V) (H' : Hp) : Prop :=
  (∃ kvs k, H a = some (.dK kvs) ∧ y = kV k ∧ kvs.length < sizeLine ∧ H' = upd H a (.dK (putK kvs k v))) ∨
  ∃ kvs k b, H a = some (.dT kvs) ∧ y = .ref b ∧ H b = some (.tup (k.map kV)) ∧ kvs.length < sizeLine ∧ H' = upd H a (.dT (putK kvs k v))
theorem DGet.k {H : Hp} {a : Addr} {kvs : List (Key × V)} {k : Key} (e : H a = some (.dK kvs)) : DGet H a (kV k) (valV kvs k) := .inl ⟨kvs, k, .inl e, rfl, rfl⟩
theorem DGet.t {H : Hp} {a b : Addr} {kvs : List (List Key × V)} {k : List Key} (e : H a = some (.dT kvs)) (eb : H b = some (.tup (k.map kV))) : DGet H a (.ref b) (valV kvs k) := .inr ⟨kvs, k, b, .inl e, rfl, eb, rfl⟩
theorem DPut.k {H : Hp} {a : Addr} {kvs : List (Key × V)} {k : Key} {v : V} (e : H a = some (.dK kvs)) (hl : kvs.length < sizeLine) : DPut H a (kV k) v (upd H a (.dK (putK kvs k v))) := .inl ⟨kvs, k, e, rfl, hl, rfl⟩
theorem DPut.t {H : Hp} {a b : Addr} {kvs : List (List Key × V)} {k : List Key} {v : V} (e : H a = some (.dT kvs)) (eb : H b = some (.tup (k.map kV))) (hl : kvs.length < sizeLine) :
    DPut H a (.ref b) v (upd H a (.dT (putK kvs k v))) := .inr ⟨kvs, k, b, e, rfl, eb, hl, rfl⟩


section
variable {X : Cx} {pins : List (Addr × Obj)} {σ : St} {H : Hp} {s : Shared} {a : Addr} {y v : V} {u r : Value} {o : Option V} {A : Around} {E : Value → Shared → Prop}

end

section
variable {X : Cx} {pins : List (Addr × Obj)} {σ : St} {H : Hp} {s : Shared} {a : Addr} {kvs : List (Key × V)} {k : Key} {u : Value} {A : Around} {E : Value → Shared → Prop}
end


/-- d[y] -/
def tDGet (td ty : TE) : TE := fun σ H Q => td σ H fun x H1 => ty σ H1 fun y H2 => ∃ a v, x = .ref a ∧ DGet H2 a y (some v) ∧ Q v H2
def tDNotIn (ty td : TE) : TE := fun σ H Q => ty σ H fun y H1 => td σ H1 fun x H2 => ∃ a o, x = .ref a ∧ DGet H2 a y o ∧ Q (.bl (!o.isSome)) H2
/-- d[y] = v -/
def sDPut (td ty tv : TE) : TS := fun D σ H => tv σ H fun v H1 => td σ H1 fun x H2 => ty σ H2 fun y H3 => ∃ a H4, x = .ref a ∧ DPut H3 a y v H4 ∧ D.nx σ H4
section
variable {X : Cx} {o i e value : Expr} {pos pos' tpos : Pos} {td ty tv : TE}
end


section
variable {X : Cx} {pos : Pos}
end

/-- a method call o.m(e) of a built-in, with one argument: what must be seen of the text -/
structure M1 (X : Cx) (o : Expr) (m : Str) (apos : Pos) (e : Expr) (cpos : Pos) : Prop where
  base : attributeBase o m X.env (eval o X.env) = eval o X.env
  few : ((backTo cpos (starEach [e] X.env)).all (fun x => !x.1) && (backToKw cpos (keywordEach [] X.env)).all (fun x => x.1.isSome)
    && decide (([e] : List Expr).length + ([] : List Keyword).length + (if ([] : List Keyword).isEmpty then 0 else 1) < 30)) = true
  line : (apos.endLine == cpos.line) = true
  trees : backTo cpos (starEach [e] X.env) = [(false, eval e X.env)]
structure M2 (X : Cx) (o : Expr) (m : Str) (apos : Pos) (e f : Expr) (cpos : Pos) : Prop where
  base : attributeBase o m X.env (eval o X.env) = eval o X.env
  few : ((backTo cpos (starEach [e, f] X.env)).all (fun x => !x.1) && (backToKw cpos (keywordEach [] X.env)).all (fun x => x.1.isSome)
    && decide (([e, f] : List Expr).length + ([] : List Keyword).length + (if ([] : List Keyword).isEmpty then 0 else 1) < 30)) = true
  line : (apos.endLine == cpos.line) = true
  trees : backTo cpos (starEach [e, f] X.env) = [(false, eval e X.env), (false, eval f X.env)]

/-- a is a dict, whatever its keys -/
def IsD (H : Hp) (a : Addr) : Prop := (∃ kvs, Rd H a (.dK kvs)) ∨ ∃ kvs, Rd H a (.dT kvs)
section
variable {X : Cx} {pins : List (Addr × Obj)} {σ : St} {H : Hp} {s : Shared} {a : Addr} {y d : V} {u r : Value} {o : Option V} {A : Around} {E : Value → Shared → Prop}
end

def tDGet1 (td ty : TE) : TE := fun σ H Q => td σ H fun x H1 => ∃ a, x = .ref a ∧ IsD H1 a ∧ ty σ H1 fun y H2 => ∃ o, DGet H2 a y o ∧ Q (o.getD .non) H2
section
variable {X : Cx} {o e f : Expr} {apos cpos : Pos} {td ty tx : TE}
end

section
variable {X : Cx} {pins : List (Addr × Obj)} {σ : St} {H : Hp} {s : Shared} {a : Addr} {kvs : List (Key × V)} {A : Around} {E : Value → Shared → Prop}
end


section
variable {X : Cx} {pins : List (Addr × Obj)} {σ : St} {H : Hp} {s : Shared} {a : Addr} {y : V} {u : Value} {A : Around} {E : Value → Shared → Prop}
end
end L2

namespace L2
open PySem PySem.Spec PyProof.Rows
section
variable {X : Cx}
end
end L2

namespace L2
open PySem PySem.Spec PyProof.Rows
section
variable {X : Cx} {a b c : Expr} {ta tb tc : TE} {pos : Pos}

def CDivW (_ j : Int) : Prop := j ≠ 0 ∧ j.natAbs < 2 ^ 9000
theorem op_fdivW : OpR X (binaryOp .FloorDiv) (rI CDivW fun i j => .int (i.fdiv j)) := opI fun i j _ _ _ _ _ hc q => by
  have h0 : j.natAbs ≠ 0 := by have := hc.1; omega
  exact floordiv_int hc.1 q (.inl (PyProof.noPylong_of_log2 ((Nat.log2_lt h0).mpr hc.2)))
/-- two factors whose bits together are few -/
def CMulW (i j : Int) : Prop := i.natAbs < 2 ^ 20000 ∧ j.natAbs < 2 ^ 20000
theorem CMulW.ok {i j : Int} (h : CMulW i j) : IntMulOk i j := by
  have h1 := PyProof.Rows.intBits_le h.1
  have h2 := PyProof.Rows.intBits_le h.2
  unfold IntMulOk
  have e : Builtin.Int.intTooBig ((Builtin.Int.intBits i : Int) + (Builtin.Int.intBits j : Int)) = false := by
    unfold Builtin.Int.intTooBig
    refine decide_eq_false ?_
    have : (40000 : Int) ≤ bitsLine := by decide
    omega
  intro q
  rw [e] at q
  simp at q
end

structure FnC (P : Program) (w : World) (K : PySem.W.Frag) (mg : Str → Option Value) (base : Heap) (CX : CXT) (k : Nat) (x : Str) (ps : List Str) (sp : Sp) : Prop where
  ex : ∃ (f : Addr) (fd : FuncData), FnOk P w K mg base CX k f fd ps sp ∧ mg x = some (.ref f) ∧ PySem.W.keepIn K (.ref f) = true ∧ Binds K fd ps []
structure FunAt (K : PySem.W.Frag) (mg : Str → Option Value) (x : Str) (st : Stmt) (ps : List Str) : Prop where
  ex : ∃ (f : Addr) (fd : FuncData), Fun K x x st f fd ∧ mg x = some (.ref f) ∧ Binds K fd ps []
section
variable {P : Program} {w : World} {K : PySem.W.Frag} {mg : Str → Option Value} {base : Heap} {CX : CXT}
theorem funAt_mk {h : Heap} {x : Str} {st : Stmt} {f : Addr} {ps : List Str} {oc : Value} {od an : Option Addr} {osl : Array (Option Value)} {kV doc pm cdv ct : Value} (X : K.In h) (G : h.Ns mainGlobals mg)
    (a : PySem.W.nsIn K mainGlobals x = some (some (.ref f))) (l : K.lookup f = some ⟨oc, od, .func (PySem.W.fnOf x x (defArgs st) (defBody st) (defScope st) .none kV doc pm an cdv ct), osl⟩)
    (c : PySem.W.codeIn K cdv x = true) (k : PySem.W.keepIn K (.ref f) = true)
    (hb : ∀ (kV doc pm : Value) (an : Option Addr) (cdv ct : Value) (us : List Value), us.length = ps.length → bindArgs (PySem.W.fnOf x x (defArgs st) (defBody st) (defScope st) .none kV doc pm an cdv ct) ⟨us, []⟩ = pure (ps.zip us)) :
    FunAt K mg x st ps := by
  have F := fun_mk (K := K) (x := x) (qual := x) (st := st) l c k
  exact ⟨f, _, F, PySem.W.mg_of X G a, F.binds hb⟩
theorem FnC.mono {j k : Nat} {x : Str} {ps : List Str} {sp : Sp} (F : FnC P w K mg base CX j x ps sp) (h : j ≤ k) : FnC P w K mg base CX k x ps sp :=
  let ⟨f, fd, G, r⟩ := F.ex
  ⟨f, fd, G.mono h, r⟩
theorem FnC.imp {k : Nat} {x : Str} {ps : List Str} {sp sp' : Sp} (F : FnC P w K mg base CX k x ps sp) (h : ∀ vs H Q E, sp' vs H Q E → sp vs H Q E) : FnC P w K mg base CX k x ps sp' :=
  let ⟨f, fd, G, r⟩ := F.ex
  ⟨f, fd, G.imp h, r⟩
/-- a def that raises nothing -/
theorem FunAt.ok {x : Str} {st : Stmt} {N ps : List Str} {k : Nat} {sp : Sp} (F : FunAt K mg x st ps) (S : FnScope N ps (defScope st)) (len : ∀ vs H Q E, sp vs H Q E → vs.length = ps.length)
    (hbody : ∀ (f : Addr) (cdv : Value) (A : Around) (outer : List Env) (s : Shared) (H : Hp) (vs : List V) (Q : VK) (E : XK), Room k (A.deeper (envOfC x (defScope st) s.heap.objs.size f cdv)) → sp vs H Q E →
      ∃ t, PSs (cxOf CX0 P w K mg base N x (defScope st) f cdv A outer s H E).nox (defBody st) t ∧ t { nx := fun _ H' => Q .non H', rt := Q } (start N vs) H) : FnC P w K mg base CX0 (k + 1) x ps sp := by
  obtain ⟨f, fd, G, hm, hb⟩ := F.ex
  exact ⟨f, fd, G.ok S len (hbody f), hm, G.kp, hb⟩
end
section
variable {X : Cx} {CX : CXT} {k : Nat} {ps : List Str} {sp : Sp} {E : XK} {x : Str} {p pos : Pos} {e : Expr} {es : List Expr} {t : TA}
theorem pe_callX (F : FnC X.prog X.w X.K X.mg X.base CX k x ps sp) (hr : Room k X.A) (hg : Gl X x) (hx : Passes CX X E) (ha : PA X (e :: es) t)
    (hdb : (x == ("__debug__" : Str)) = false := by decide) (he : starEach (e :: es) X.env = (false, eval e X.env) :: starEach es X.env := by rfl) (hpl : (backTo pos (starEach es X.env)).any (·.1) = false := by rfl) :
    PE X (.Call (.Name x p) (e :: es) [] pos) (tCall sp [] E t) := by
  obtain ⟨f, fd, G, hm, kp, hb⟩ := F.ex
  exact pe_call G hr hg hm kp hb .nil hx ha hdb he hpl
theorem pe_callF (F : FnC X.prog X.w X.K X.mg X.base CX0 k x ps sp) (hr : Room k X.A) (hg : Gl X x) (ha : PA X (e :: es) t)
    (hdb : (x == ("__debug__" : Str)) = false := by decide) (he : starEach (e :: es) X.env = (false, eval e X.env) :: starEach es X.env := by rfl) (hpl : (backTo pos (starEach es X.env)).any (·.1) = false := by rfl) :
    PE X (.Call (.Name x p) (e :: es) [] pos) (tCall sp [] E0 t) := pe_callX F hr hg pass0 ha hdb he hpl
end
theorem same_new {H : Hp} {p : Addr} (h : H p = none) (o : HO) : Same H (upd H p o) := fun b u q => by rw [upd_ne (ne_of_none q h)]; exact q
theorem Same.seqT {K : PySem.W.Frag} {H H' : Hp} {a : Addr} {xs : List V} (e : Same H H') (h : SqT K H a xs) : SqT K H' a xs := by
  rcases h with (h | ⟨o, h⟩) | h
  · exact .inl (.inl (e _ _ h))
  · exact .inl (.inr ⟨o, e _ _ h⟩)
  · exact .inr h
end L2
namespace L2
open PySem PySem.Spec PyProof.Rows
structure Blt (mg : Str → Option Value) : Prop where
  len : mg "len" = none
  abs : mg "abs" = none
  range : mg "range" = none
  isinstance : mg "isinstance" = none
  int : mg "int" = none
  bool : mg "bool" = none
  tuple : mg "tuple" = none
  list : mg "list" = none
  str : mg "str" = none
  zip : mg "zip" = none
  set : mg "set" = none
  all : mg "all" = none
  any : mg "any" = none
  min : mg "min" = none
  max : mg "max" = none
  sum : mg "sum" = none
  sorted : mg "sorted" = none
  enumerate : mg "enumerate" = none
  reversed : mg "reversed" = none
  dict : mg "dict" = none
  ord : mg "ord" = none
  divmod : mg "divmod" = none
theorem bb_len : bootBuiltins "len" = some (.builtin "len") := by decide +kernel
theorem bb_abs : bootBuiltins "abs" = some (.builtin "abs") := by decide +kernel
theorem bb_int : bootBuiltins "int" = some (.type "int") := by decide +kernel
theorem bb_tuple : bootBuiltins "tuple" = some (.type "tuple") := by decide +kernel
theorem iteNE {y z : Int} {A B : Prop} (h1 : y ≠ z → A) (h2 : y = z → B) : if (!decide (V.int y = V.int z)) = true then A else B := by
  by_cases h : y = z
  · subst h
    rw [decide_eq_true rfl]
    exact iteF (h2 rfl)
  · rw [decide_eq_false (fun q => h (V.int.inj q))]
    exact iteT (h1 h)
theorem iteD {c : Prop} [Decidable c] {A B : Prop} (h1 : c → A) (h2 : ¬ c → B) : if decide c = true then A else B := by
  by_cases h : c
  · rw [decide_eq_true h]
    exact iteT (h1 h)
  · rw [decide_eq_false h]
    exact iteF (h2 h)
end L2
namespace L2
open PySem PySem.Spec PyProof.Rows
abbrev qAdd : R2 := rI0 fun i j => .int (i + j)
abbrev qSub : R2 := rI0 fun i j => .int (i - j)
abbrev rDiv : R2 := rI CDiv fun i j => .int (i / j)
abbrev rDivW : R2 := rI CDivW fun i j => .int (i.fdiv j)
abbrev rMod : R2 := rI (fun _ j => 0 < j) fun i j => .int (i % j)
abbrev rModN : R2 := rI (fun _ j => j ≠ 0) fun i j => .int (i.fmod j)
abbrev rPow : R2 := rI CPow fun i j => .int (i ^ j.toNat)
abbrev rLt : R2 := rI0 fun i j => .bl (decide (i < j))
abbrev rGt : R2 := rI0 fun i j => .bl (decide (j < i))
abbrev rIsN : R2 := fun x y H Q => y = .non ∧ Q (.bl (decide (x = .non))) H
abbrev rNotN : R2 := fun x y H Q => y = .non ∧ Q (.bl (!decide (x = .non))) H
abbrev rAddS : R2 := fun x y H Q => ∃ i j, x = .str i ∧ y = .str j ∧ i.length + j.length ≤ sizeLine ∧ Q (.str (i ++ j)) H
abbrev rAbs : List V → Hp → VK → Prop := fun xs H Q => ∃ i, xs = [.int i] ∧ Q (.int (if i < 0 then -i else i)) H
abbrev rLenQ (K : PySem.W.Frag) : List V → Hp → VK → Prop := fun xs H Q => ∃ p ys, xs = [.ref p] ∧ (SqL K H p ys ∨ SqT K H p ys) ∧ Q (.int ys.length) H
abbrev rInt1 : List V → Hp → VK → Prop := fun xs H Q => (∃ i, xs = [.int i] ∧ Q (.int i) H) ∨ ∃ k, xs = [.bl k] ∧ Q (.int (if k then 1 else 0)) H
abbrev rTupOf (K : PySem.W.Frag) : List V → Hp → VK → Prop := fun xs H Q => ∃ p ys, xs = [.ref p] ∧ ((SqL K H p ys ∧ ∀ l, H l = none → Q (.ref l) (upd H l (.tup ys))) ∨ (SqT K H p ys ∧ Q (.ref p) H))
end L2
namespace L2
open PySem PySem.Spec PyProof.Rows
end L2

namespace L2
open PySem PySem.Spec PyProof.Rows

/-- what stays behind a raise: B is the heap without the frames that run, the exception and its trace -/
structure Gone (P : Program) (w : World) (outer : List Env) (H H' : Hp) (h B h' : Heap) : Prop where
  hok : HOk P w H' B
  keep : ∀ b o, h.get? b = some o → H b = none → b ∉ frs outer → B.get? b = some o
  slot : ∀ b o, h.get? b = some o → H b = none → b ∈ frs outer → ∃ sl, h'.get? b = some { o with slots := sl }
  free : ∀ b o, h.get? b = some o → H b = none → H' b = none
  there : ∀ b o, h.get? b = some o → b ∉ frs outer → ∃ o', B.get? b = some o'
  tups : ∀ b xs, H b = some (.tup xs) → H' b = some (.tup xs)
  frzs : ∀ b o u, H b = some (.frz o u) → H' b = some (.frz o u)
  tbls : ∀ b ps, H b = some (.tbl ps) → ∃ more, H' b = some (.tbl (ps ++ more))
/-- a def's own frame runs on top -/
structure OwnFr (X : Cx) : Prop where
  stk : X.stack = X.env :: X.outer
  frm : X.env.frame = some X.env.locals
  exs : X.ex = []

section
variable {X : Cx} {pins : List (Addr × Obj)} {σ : St} {H : Hp} {s : Shared}
theorem OwnFr.frs (o : OwnFr X) : frs X.stack = X.env.locals :: X.fs := by
  rw [o.stk]
  unfold L2.frs
  rw [List.filterMap_cons, o.frm]
  rfl
theorem Inv.fr_data (I : Inv X pins σ H s) {b : Addr} {o : Obj} (hb : b ∈ X.fs) (e : s.heap.get? b = some o) : ∀ vs, o.data ≠ .fields vs := by
  obtain ⟨_, o', e', d⟩ := I.funs.mem hb
  rw [e] at e'
  cases e'
  exact d

end

/-- the class of an own exception without an __init__ of its own, as the top has made it -/
structure ExcC (K : PySem.W.Frag) (mg : Str → Option Value) (x : Str) (C : Addr) (bmB : List Value) (newId : String) : Prop where
  at_ : mg x = some (.ref C)
  ok : PySem.W.excIn K C bmB newId = true
end L2
namespace L2
open PySem PySem.Spec PyProof.Rows
section
variable {M : Model} {A : Around} {E : Value → Shared → Prop} {h : Heap} {g : Array GenState} {d : Drawn} {t : Nat} {os : OsState}
end
end L2
namespace L2
open PySem PySem.Spec PyProof.Rows
theorem ObjOk.there {P : Program} {w : World} {H : Hp} {h : Heap} {a : Addr} {o : HO} (x : ObjOk P w H h a o) : ∃ ob, h.get? a = some ob := by
  cases o with
  | lst xs => obtain ⟨_, _, _, _, e⟩ := x; exact ⟨_, e⟩
  | tup xs => obtain ⟨_, _, _, ob, e, _⟩ := x; exact ⟨ob, e⟩
  | dK kvs => obtain ⟨_, _, _, _, ob, _, _, e, _⟩ := x; exact ⟨ob, e⟩
  | dT kvs => obtain ⟨_, _, _, _, ob, _, _, e, _⟩ := x; exact ⟨ob, e⟩
  | set S n => obtain ⟨ob, _, _, _, e, _⟩ := x; exact ⟨ob, e⟩
  | ins C dx fs => obtain ⟨_, _, _, e, _⟩ := x; exact ⟨_, e⟩
  | own y => exact x
  | xd fs => obtain ⟨_, ⟨ob, _, _, e, _⟩, _⟩ := x; exact ⟨ob, e⟩
  | rng lo hi => obtain ⟨_, _, _, e⟩ := x; exact ⟨_, e⟩
  | frz ob u => obtain ⟨e, _⟩ := x; exact ⟨_, e⟩
  | tbl ps => exact ⟨_, (show h.get? a = some _ from x)⟩
  | met f y => exact ⟨_, (show h.get? a = some _ from x)⟩
  | ext φ => obtain ⟨_, e, _⟩ := x; exact e
section
variable {X : Cx} {pins : List (Addr × Obj)} {σ : St} {H H' : Hp} {s s' : Shared}
/-- back in the frame that called, the exception in hand -/
theorem Inv.back {B h5 : Heap} (I : Inv X pins σ H s) (o : OwnFr X) (g : Gone X.prog X.w X.stack H H' s.heap B s'.heap) (hos : s'.os = s.os) (bare : AllBare s'.gens) (st : B.StaysIn h5) (up : s'.heap.UpToSlots h5) :
    Inv X pins σ H' { s' with heap := h5 } := by
  obtain ⟨hh, g', d', t', os'⟩ := s'
  have e : os' = s.os := hos
  subst e
  have inS : ∀ {b : Addr}, b ∈ X.fs → b ∈ L2.frs X.stack := fun hb => by rw [o.frs]; exact List.mem_cons_of_mem _ hb
  have inL : X.env.locals ∈ L2.frs X.stack := by rw [o.frs]; exact List.mem_cons_self
  have out : ∀ {b : Addr}, b ≠ X.env.locals → b ∉ X.fs → b ∉ L2.frs X.stack := fun h1 h2 z => by
    rw [o.frs] at z
    rcases List.mem_cons.mp z with z | z
    · exact h1 z
    · exact h2 z
  have nsL : ∀ m, s.heap.Ns X.env.locals m → h5.Ns X.env.locals m := fun m hm => by
    obtain ⟨ob, es, ep, ho, hd, r⟩ := hm
    obtain ⟨sl, e1⟩ := g.slot _ ob ho I.free inL
    obtain ⟨sl', e2⟩ := up _ _ e1 (fun vs z => by have z' : ob.data = .fields vs := z; rw [hd] at z'; cases z')
    exact ⟨_, es, ep, e2, hd, r⟩
  suffices r : Inv X pins σ H' { s with heap := h5, gens := g', drawn := d', toks := t' } from r
  refine I.step (ch := []) (fun _ z => nomatch z) (fun b ob nl nf _ e n => st b ob (g.keep b ob e n (out nl nf))) (fun b ob nl hb _ e n => ?_) (fun b ob _ e n => g.free b ob e n) (fun b ob _ e => ?_) g.tups g.frzs g.tbls nsL (g.hok.kept st) bare
  · obtain ⟨sl, e1⟩ := g.slot b ob e n (inS hb)
    obtain ⟨sl', e2⟩ := up b _ e1 (fun vs => I.fr_data hb e vs)
    exact ⟨sl', e2⟩
  · by_cases hb : b ∈ L2.frs X.stack
    · have hb' := hb
      rw [o.frs] at hb'
      rcases List.mem_cons.mp hb' with z | z
      · obtain ⟨m, hn, _⟩ := I.loc
        obtain ⟨o', _, _, ho', _⟩ := nsL m hn
        exact ⟨o', by rw [z]; exact ho'⟩
      · obtain ⟨sl, e1⟩ := g.slot b ob e (I.stkFree b hb) hb
        obtain ⟨sl', e2⟩ := up b _ e1 (fun vs => I.fr_data z e vs)
        exact ⟨_, e2⟩
    · obtain ⟨o', e1⟩ := g.there b ob e hb
      exact ⟨o', st b o' e1⟩
end

/-- the class that an except names -/
structure ExcV (K : PySem.W.Frag) (mg : Str → Option Value) (x : Str) (D : Addr) : Prop where
  at_ : mg x = some (.ref D)
  ok : ∃ bmB newId, PySem.W.excIn K D bmB newId = true ∧ bmB.contains (.type "BaseException") = true
/-- the own class C stands under D -/
def SubC (K : PySem.W.Frag) (C D : Addr) : Prop := ∃ bmB newId, PySem.W.excIn K C bmB newId = true ∧ PySem.W.mroIn K C (.ref D) = some true
section
variable {X : Cx} {pins : List (Addr × Obj)} {σ : St} {H : Hp} {s s' : Shared}
end
end L2
namespace L2
open PySem PySem.Spec PyProof.Rows
section
variable {X : Cx} {es : List Expr} {t : TA}
theorem PA.wish (h : PA X.nox es t) (W : Value → Shared → Prop) : PA (X.wish W) es t := fun pos pins s σ H Q I hw =>
  wpAny_mono (h pos pins s σ H Q (I.wish (fun _ _ => False)) hw) (fun _ _ ⟨vs, H', I', r, q⟩ => ⟨vs, H', I'.wish W, r, q⟩) fun _ _ z => z.elim
end
section
variable {X : Cx} {k : Nat} {ps : List Str} {sp : Sp} {fx v xn xy xa : Str} {Dv : Addr} {n y i : Nat} {fp cp ap vp p0 p1 p2 p3 hp pos ep : Pos} {e : Expr} {es : List Expr} {t : TA}
end
end L2
namespace L2
open PySem PySem.Spec PyProof.Rows
end L2

namespace L2
open PySem PySem.Spec PyProof.Rows PySem.W Builtin Builtin.ObjectAttr Builtin.Getset_descriptor
/-- what the text must have of an own exception's class for isinstance -/
structure ExcA (K : PySem.W.Frag) (C : Addr) : Prop where
  ga : findIn K (.ref C) "__getattribute__" = some (some (.builtin "BaseException.__getattribute__"))
  hk : findIn K (.ref C) "__getattr__" = some none
  cl : findIn K (.ref C) "__class__" = some (some (.builtin "object.__class__"))
  gt : specialIn K (.builtin "object.__class__") "__get__" = some (some (.builtin "getset_descriptor.__get__"))
  tk : takesIn K (.builtin "object.__class__") = some true
  ob : mroIn K C (.type "object") = some true
  be : mroIn K C (.type "BaseException") = some true
section
variable {prog : Program} {w : World} {A : Around} {E : Value → Shared → Prop} {s : Shared} {K : Frag} {x C : Addr} {R : Result → Shared → Prop}
end
end L2
namespace L2
open PySem PySem.Spec PyProof.Rows PySem.W Builtin Builtin.ObjectAttr Builtin.Getset_descriptor
section
variable {prog : Program} {w : World} {A : Around} {E : Value → Shared → Prop} {s : Shared} {K : Frag} {x C : Addr}
end
/-- isinstance(e, c) of an exception of the class C answers b -/
def KitE (K : Frag) (C : Addr) (c : V) (b : Bool) : Prop := match c with
  | .ref D => kitOne K (.ref C) (.ref D) = some b
  | .ty n => kitOne K (.ref C) (.type n) = some b
  | _ => False
end L2

namespace L2
open PySem PySem.Spec PyProof.Rows
open PySem.W (Dat kqdP kqdPs kqdOk)
mutual
/-- the value stands for the datum -/
inductive Rep (K : PySem.W.Frag) (H : Hp) : V → Dat → Prop
  | non : Rep K H .non .none
  | bl (b : Bool) : Rep K H (.bl b) (.bool b)
  | int (i : Int) : Rep K H (.int i) (.int i)
  | str (x : Str) : Rep K H (.str x) (.str x)
  | tup {a : Addr} {xs : List V} {ds : List Dat} : SqT K H a xs → RepL K H xs ds → Rep K H (.ref a) (.tuple ds)
  | lst {a : Addr} {xs : List V} {ds : List Dat} : SqL K H a xs → RepL K H xs ds → Rep K H (.ref a) (.list ds)
inductive RepL (K : PySem.W.Frag) (H : Hp) : List V → List Dat → Prop
  | nil : RepL K H [] []
  | cons {v : V} {d : Dat} {vs : List V} {ds : List Dat} : Rep K H v d → RepL K H vs ds → RepL K H (v :: vs) (d :: ds)
end
section
variable {K : PySem.W.Frag} {H H' : Hp}
mutual
theorem Rep.same (e : Same H H') : ∀ {v : V} {d : Dat}, Rep K H v d → Rep K H' v d
  | _, _, .non => .non
  | _, _, .bl b => .bl b
  | _, _, .int i => .int i
  | _, _, .str x => .str x
  | _, _, .tup h r => .tup (e.seqT h) (RepL.same e r)
  | _, _, .lst h r => .lst (e.seq h) (RepL.same e r)
theorem RepL.same (e : Same H H') : ∀ {vs : List V} {ds : List Dat}, RepL K H vs ds → RepL K H' vs ds
  | _, _, .nil => .nil
  | _, _, .cons h r => .cons (Rep.same e h) (RepL.same e r)
end
theorem RepL.length : ∀ {vs : List V} {ds : List Dat}, RepL K H vs ds → vs.length = ds.length
  | _, _, .nil => rfl
  | _, _, .cons _ r => congrArg (· + 1) (RepL.length r)
theorem RepL.get : ∀ {vs : List V} {ds : List Dat} {i : Nat} {v : V}, RepL K H vs ds → vs[i]? = some v → ∃ d, ds[i]? = some d ∧ Rep K H v d
  | _, _, _, _, .nil, e => by simp at e
  | _, _, 0, _, .cons h _, e => by simp at e; subst e; exact ⟨_, rfl, h⟩
  | _, _, i + 1, v, .cons _ r, e => by
    obtain ⟨d, h1, h2⟩ := RepL.get (i := i) (v := v) r (by simpa using e)
    exact ⟨d, by simpa using h1, h2⟩
theorem RepL.get' : ∀ {vs : List V} {ds : List Dat} {i : Nat} {d : Dat}, RepL K H vs ds → ds[i]? = some d → ∃ v, vs[i]? = some v ∧ Rep K H v d
  | _, _, _, _, .nil, e => by simp at e
  | _, _, 0, _, .cons h _, e => by simp at e; subst e; exact ⟨_, rfl, h⟩
  | _, _, i + 1, v, .cons _ r, e => by
    obtain ⟨d, h1, h2⟩ := RepL.get' (i := i) (d := v) r (by simpa using e)
    exact ⟨d, by simpa using h1, h2⟩
theorem RepL.append : ∀ {vs ws : List V} {ds es : List Dat}, RepL K H vs ds → RepL K H ws es → RepL K H (vs ++ ws) (ds ++ es)
  | _, _, _, _, .nil, s => s
  | _, _, _, _, .cons h r, s => .cons h (RepL.append r s)
theorem RepL.ints : ∀ ns : List Int, RepL K H (ns.map V.int) (ns.map Dat.int)
  | [] => .nil
  | n :: ns => .cons (.int n) (RepL.ints ns)
theorem RepL.strs : ∀ ns : List Str, RepL K H (ns.map V.str) (ns.map Dat.str)
  | [] => .nil
  | n :: ns => .cons (.str n) (RepL.strs ns)
end
section
variable {X : Cx} {pins : List (Addr × Obj)} {σ : St} {H : Hp} {s : Shared}
mutual
theorem Rep.reads (I : Inv X pins σ H s) : ∀ {v : V} {d : Dat} {u : Value}, Rep X.K H v d → RelV v u → ∃ as, Reads s.heap u (kqdP d) as
  | _, _, u, .non, r => by
    cases (show u = Value.none from r)
    exact ⟨_, Reads.none⟩
  | _, _, u, .bl b, r => by
    cases (show u = Value.bool b from r)
    exact ⟨_, Reads.bool b⟩
  | _, _, u, .int i, r => by
    obtain ⟨t, e⟩ := (show ∃ t, u = Value.int i t from r)
    cases e
    exact ⟨_, Reads.int i t⟩
  | _, _, u, .str x, r => by
    obtain ⟨t, e⟩ := (show ∃ t, u = Value.str x t from r)
    cases e
    exact ⟨_, Reads.str x t⟩
  | _, _, u, @Rep.tup _ _ a xs ds h q, r => by
    cases (show u = Value.ref a from r)
    obtain ⟨its, rv, ⟨o, e, c, n, dd⟩, _⟩ := I.tuple h
    obtain ⟨as, p⟩ := RepL.reads I q rv
    rw [kqdP]
    exact ⟨_, Reads.tuple e c dd (by simpa using p)⟩
  | _, _, u, @Rep.lst _ _ a xs ds h q, r => by
    cases (show u = Value.ref a from r)
    obtain ⟨its, rv, ⟨o, n, e, c, _, dd⟩, _⟩ := I.list h
    obtain ⟨as, p⟩ := RepL.reads I q rv
    rw [kqdP]
    exact ⟨_, Reads.list e c dd (by simpa using p)⟩
theorem RepL.reads (I : Inv X pins σ H s) : ∀ {vs : List V} {ds : List Dat} {us : List Value}, RepL X.K H vs ds → Vals vs us → ∃ as, ReadsAll s.heap us (kqdPs ds) as
  | _, _, _, .nil, .nil => by
    rw [kqdPs]
    exact ⟨_, ReadsAll.nil⟩
  | _, _, _, .cons h q, .cons r rr => by
    obtain ⟨as, p⟩ := Rep.reads I h r
    obtain ⟨bs, p'⟩ := RepL.reads I q rr
    rw [kqdPs]
    exact ⟨_, ReadsAll.cons p p'⟩
end
open Classical in
theorem any_dec {ds : List Dat} {d : Dat} (ha : ∀ e ∈ ds, kqdOk 8 e = true) (hd : kqdOk 8 d = true) : ((kqdPs ds).any fun y => PyData.eqv y (kqdP d)) = decide (d ∈ ds) := by
  by_cases z : d ∈ ds
  · rw [decide_eq_true z]
    exact (PySem.W.kqd_any ds d ha hd).mpr z
  · rw [decide_eq_false z]
    exact Bool.eq_false_iff.mpr fun y => z ((PySem.W.kqd_any ds d ha hd).mp y)
open Classical in
/-- x in a list of data -/
def rInD (K : PySem.W.Frag) (neg : Bool) : R2 := fun x y H Q => ∃ d ds, Rep K H x d ∧ Rep K H y (.list ds) ∧ (∀ e ∈ ds, kqdOk 8 e = true) ∧ kqdOk 8 d = true ∧ Q (.bl (if neg then !decide (d ∈ ds) else decide (d ∈ ds))) H
theorem in_room {A : Around} {ds : List Dat} {d : Dat} (hd : kqdOk 8 d = true) (hu : A.units + 64 < cLine) : A.units + 1 + min (PyData.depthAll (kqdPs ds)) (kqdP d).depth < cLine := by
  have l := (PySem.W.kqd_lay 8 d hd).2
  have := Nat.min_le_right (PyData.depthAll (kqdPs ds)) (kqdP d).depth
  omega
theorem op_notInD (hu : X.A.units + 64 < cLine) : OpR X (compareOp .NotIn) (rInD X.K true) := by
  intro pins s σ H x y v u Q I rx ry h
  obtain ⟨d, ds, hd, he, ka, kd, q⟩ := h
  obtain ⟨as, ra⟩ := Rep.reads I hd rx
  obtain ⟨bs, rb⟩ := Rep.reads I he ry
  rw [kqdP] at rb
  exact SeqAt.notIn_list_reads rb ra (PySem.W.kqd_layL ka).1 (PySem.W.kqd_lay 8 d kd).1 (in_room kd hu) ⟨_, H, I, (by rw [any_dec ka kd]; rfl), q⟩
end
end L2

namespace L2
open PySem PySem.Spec PyProof.Rows
/-- the context of a comprehension's block -/
def compCx (X : Cx) (ys M : List Str) (scope : Scope) (cl : List (Str × Addr)) (C : Addr) (s : Shared) (H : Hp) (fp : List Addr) (pins : List (Addr × Obj)) : Cx where
  prog := X.prog
  w := X.w
  K := X.K
  mg := X.mg
  base := X.base
  A := X.A
  N := ys ++ M
  s₀ := s
  H₀ := H
  env := compEnvC scope cl C X.env
  outer := X.stack
  stack := X.stack
  ex := fp
  fn := fun _ => false
  calm := X.calm
  pn := X.pn ++ pins
  xe := fun _ _ => False
/-- how the comprehension's names lie in the def's -/
structure CompSc (X : Cx) (ys M : List Str) (scope : Scope) (cl : List (Str × Addr)) : Prop where
  kind : scope.kind = .function
  nocell : ∀ y ∈ scope.names, y.2 ≠ .cell
  names : ∀ y ∈ scope.names, y.2 = .local → scope.names.lookup y.1 = some .local
  own : ∀ y ∈ ys, scope.names.lookup y = some .local
  clos : closureFor scope X.env = pure cl
  nd : (ys ++ M).Nodup
  len : M.length = X.N.length
  same : ∀ p ∈ M.zip X.N, p.1 = p.2 ∨ (relabel scope X.env).names.lookup p.1 = none
  apart : ∀ y ∈ M, (relabel scope X.env).names.lookup y ≠ some .local
  cells : ∀ y c, cl.lookup y = some c → X.env.cells.lookup y = some c ∧ (X.env.scope.names.lookup y = some .cell ∨ X.env.scope.names.lookup y = some .free)
  has : ∀ y, ((relabel scope X.env).names.lookup y = some .cell ∨ (relabel scope X.env).names.lookup y = some .free) → ∃ c, cl.lookup y = some c
section
variable {X : Cx} {ys M : List Str} {scope : Scope} {cl : List (Str × Addr)} {C : Addr} {s : Shared} {H : Hp} {fp : List Addr} {pins : List (Addr × Obj)} {σ : St}
theorem inv_comp {h1 : Heap} {tk : Nat} {o : Obj} (I : Inv X pins σ H s) (c : CompSc X ys M scope cl) (eC : C = s.heap.objs.size) (hns : h1.Ns C (fun _ => none)) (hsb : Heap.SameBut C (s.heap.push o) h1)
    (fk : ∀ b ∈ fp, FpOk X pins H b ∧ ∃ o, s.heap.get? b = some o) : Inv (compCx X ys M scope cl C s H fp pins) [] (List.replicate ys.length none ++ σ) H { s with heap := h1, toks := tk } := by
  have keep : ∀ b u, s.heap.get? b = some u → h1.get? b = some u := fun b u e => hsb.extBut b u (by rw [eC]; exact Nat.ne_of_lt (Heap.lt_size e)) (Heap.get?_push_of_some _ e)
  have neC : ∀ b u, s.heap.get? b = some u → b ≠ C := fun b u e => by rw [eC]; exact Nat.ne_of_lt (Heap.lt_size e)
  have out : ∀ {b : Addr}, b ≠ X.env.locals → b ∉ X.fs → b ∉ frs X.stack := fun h1 h2 z => (List.mem_cons.mp (I.stkSub _ z)).elim h1 h2
  refine ⟨⟨I.ok.mod, c.kind, I.ok.glob, I.ok.blt, by rw [eC]; exact Nat.le_refl _, fun y z a h1 h2 => I.ok.inj y z a (c.cells y a h1).1 (c.cells z a h2).1, c.has, fun y a z _ => Bool.noConfusion z, I.ok.hd, I.ok.frames, .inl rfl, fun b hb => ?_, I.bs, Nat.le_trans I.ok.bsz I.sz, fun b u e hb => ?_, fun b hb => ?_, I.stack, I.stkFree⟩,
    rfl, I.bare, Un.kept keep, ⟨_, hns, fun i y v e1 e2 e3 => ?_⟩, fun y a e => ?_, I.hok.fresh (by rw [eC]; exact Nat.le_refl _), fun y a e => I.freeC y a (c.cells y a e).1, fun p hp => ?_, I.hok.kept keep, ?_⟩
  · obtain ⟨⟨_, _, _, _, f5, _⟩, u, e⟩ := fk b hb
    exact ⟨neC b u e, fun y a q => f5 y a (c.cells y a q).1⟩
  · obtain ⟨⟨_, _, _, f4, _, _⟩, _⟩ := fk b hb
    rcases f4 with z | z
    · exact I.ok.noex b u e z
    · exact absurd (Nat.lt_of_lt_of_le (Heap.lt_size (I.ok.bs b u e).1) z) (Nat.lt_irrefl _)
  · obtain ⟨⟨_, f2, f3, _, _, _⟩, _⟩ := fk b hb
    exact out f2 f3
  · by_cases lt : i < ys.length
    · have e2' : (List.replicate ys.length (none : Option V) ++ σ)[i]? = some (some v) := e2
      rw [List.getElem?_append_left (by simpa using lt), List.getElem?_replicate_of_lt lt] at e2'
      cases e2'
    · have e0 : M[i - ys.length]? = some y := by
        have e1' : (ys ++ M)[i]? = some y := e1
        rwa [List.getElem?_append_right (by omega)] at e1'
      have e2' : σ[i - ys.length]? = some (some v) := by
        have e2' : (List.replicate ys.length (none : Option V) ++ σ)[i]? = some (some v) := e2
        rwa [List.getElem?_append_right (by simpa using lt), List.length_replicate] at e2'
      have hy : y ∈ M := List.mem_of_getElem? e0
      have vis0 : (relabel scope X.env).names.lookup y ≠ none := by
        rcases e3 with z | z | z <;> (intro q; have q' := (show (relabel scope X.env).names.lookup y = some _ from z).symm.trans q; cases q')
      have e1' : X.N[i - ys.length]? = some y := by
        have hlt : i - ys.length < X.N.length := by rw [← c.len]; exact (List.getElem?_eq_some_iff.mp e0).1
        have hz : (y, X.N[i - ys.length]) ∈ M.zip X.N := by
          refine List.mem_of_getElem? (i := i - ys.length) ?_
          rw [List.getElem?_zip_eq_some]
          exact ⟨e0, List.getElem?_eq_getElem hlt⟩
        rcases c.same _ hz with q | q
        · rw [List.getElem?_eq_getElem hlt]
          exact congrArg some q.symm
        · exact absurd q vis0
      have e3' : (relabel scope X.env).names.lookup y = some .cell ∨ (relabel scope X.env).names.lookup y = some .free := by
        rcases e3 with z | z | z
        · exact absurd z (c.apart y hy)
        · exact .inl z
        · exact .inr z
      obtain ⟨a, ea⟩ := c.has y e3'
      obtain ⟨q1, q2⟩ := c.cells y a ea
      obtain ⟨m, _, hl⟩ := I.loc
      have vis : Vis X.env.scope y := .inr q2
      obtain ⟨u, ru, lu⟩ := hl (i - ys.length) y v e1' e2' vis
      refine ⟨u, ru, .inr ⟨e3', a, ea, ?_⟩⟩
      rcases lu with ⟨z, _⟩ | ⟨_, a', ea', ⟨oc, hoc, hd⟩⟩
      · have z' : X.env.scope.names.lookup y = some .local := z
        rcases q2 with q2 | q2 <;> (rw [z'] at q2; cases q2)
      · rw [q1] at ea'
        cases ea'
        exact ⟨oc, keep _ _ hoc, hd⟩
  · obtain ⟨v, oc, hoc, hd⟩ := I.cell y a (c.cells y a e).1
    exact ⟨v, oc, keep _ _ hoc, hd⟩
  · have hp' : p ∈ X.pn ++ pins := by simpa [compCx] using hp
    obtain ⟨q1, q2, q3, q4, q5⟩ := I.pin p hp'
    exact ⟨keep _ _ q1, q2, neC _ _ q1, out q3 q4, q5⟩
  · show (List.replicate ys.length none ++ σ).length = (ys ++ M).length
    rw [List.length_append, List.length_append, List.length_replicate, I.len, c.len]
/-- back from the block -/
theorem inv_uncomp {pins' : List (Addr × Obj)} {σ' : St} {H' : Hp} {s1 : Shared} (I : Inv X pins σ H s) (fk : ∀ b ∈ fp, FpOk X pins H b ∧ ∃ o, s.heap.get? b = some o) (I' : Inv (compCx X ys M scope cl C s H fp pins) pins' σ' H' s1) : Inv X pins σ H' s1 :=
  I.call' (ch := fp) I'.os I'.base I'.hok I'.bare fun b hb => let ⟨⟨_, f2, _, f4, f5, f6⟩, _⟩ := fk b hb; ⟨f4, f2, f5, f6⟩

/-- W: the invariant by the turn and a measure; D: the new list; the elements' names: the own ones first, then the def's -/
def CompG (J : It) (n : Nat) (g : TG) (te : TE) (σ : St) (Q : VK) (H1 : Hp) : Prop := ∀ D, H1 D = none → ∃ W : Nat → Nat → Hp → Prop, (∃ m, W 0 m (upd H1 D (.lst []))) ∧ ∀ i m H, W i m H →
  (J.stop i H ∧ Q (.ref D) H) ∨ (J.go i H ∧ ∀ v H', J.yld i H v H' → ∀ us : St, us.length = n → g v (us ++ σ) H' fun σ2 H2 => (∃ us' : St, us'.length = n ∧ σ2 = us' ++ σ) ∧ te σ2 H2 fun y H3 => ∃ xs, H3 D = some (.lst xs) ∧ xs.length < sizeLine ∧ ∃ m', m' < m ∧ W (i + 1) m' (upd H3 D (.lst (xs ++ [y]))))
def tCompG (wi : TI) (n : Nat) (g : TG) (te : TE) : TE := fun σ H Q => wi σ H fun J H1 => CompG J n g te σ Q H1
def CompAt (J : It) (te : TE) (σ : St) (Q : VK) (H1 : Hp) : Prop := ∀ D, H1 D = none → ∃ W : Nat → Nat → Hp → Prop, (∃ m, W 0 m (upd H1 D (.lst []))) ∧ ∀ i m H, W i m H →
  (J.stop i H ∧ Q (.ref D) H) ∨ (J.go i H ∧ ∀ v H', J.yld i H v H' → te (some v :: σ) H' fun y H2 => ∃ xs, H2 D = some (.lst xs) ∧ xs.length < sizeLine ∧ ∃ m', m' < m ∧ W (i + 1) m' (upd H2 D (.lst (xs ++ [y]))))
def tComp (wi : TI) (te : TE) : TE := fun σ H Q => wi σ H fun J H1 => CompAt J te σ Q H1
theorem compG_of {J : It} {te : TE} {σ : St} {Q : VK} {H1 : Hp} (h : CompAt J te σ Q H1) : CompG J 1 (gName 0) te σ Q H1 := by
  intro D nD
  obtain ⟨W, h0, hs⟩ := h D nD
  refine ⟨W, h0, fun i m H w => ?_⟩
  rcases hs i m H w with q | ⟨go, st⟩
  · exact .inl q
  · refine .inr ⟨go, fun v H' y us hu => ?_⟩
    obtain ⟨u, rfl⟩ : ∃ u, us = [u] := List.length_eq_one_iff.mp hu
    exact ⟨⟨[some v], rfl, rfl⟩, st v H' y⟩
/-- the loop of a comprehension, by a number that falls -/
theorem comp_loop {prog : Program} {w : World} {A : Around} {R : Result → Shared → Prop} {s : Shared} {elt target iter : Expr} {scope : Scope} {pos : Pos} {it acc : Value} {env : Env} (I : Nat → Shared → Prop)
    (turn : ∀ n s, I n s → wpAny (model prog w) A (pyNext it) (fun r s1 => match r with
      | none => R (.ok .next) s1
      | some v => wpAny (model prog w) A (letOwnedTupleGo target it v) (fun _ s2 => wpAny (model prog w) A (assign target env v) (fun _ s3 => wpAny (model prog w) A (eval elt env) (fun x s4 =>
          wpAny (model prog w) A (call (.builtin "list.append") [acc, x]) (fun _ s5 => ∃ m, m < n ∧ I m s5) (fun _ _ => False) s4) (fun _ _ => False) s3) (fun _ _ => False) s2) (fun _ _ => False) s1) (fun _ _ => False) s) (n : Nat) (h : I n s) :
    codeAny (model prog w) A (.compLoop (.ListComp elt [⟨target, iter, [], 0⟩] scope pos) 0 it acc env) R s := by
  refine codeAny_loop rfl I (fun k s1 hI => ?_) n h
  have no : ∀ {α : Type} {t : Sem α} {P : α → Shared → Prop} {E : Value → Shared → Prop} {z : Shared}, wpAny (model prog w) A t P (fun _ _ => False) z → wpAny (model prog w) A t P E z := fun q => wpAny_mono q (fun _ _ z => z) fun _ _ z => z.elim
  show wpAny _ _ ((compTurn (.ListComp elt [⟨target, iter, [], 0⟩] scope pos) 0 it acc env).onRaise _) _ _ s1
  refine wpAny_noted ?_
  rw [compTurn_list1]
  refine wpAny_bind (wpAny_standAt (wpAny_bind (no (wpAny_mono (turn k s1 hI) (fun r s2 h2 => ?_) fun _ _ z => z))))
  cases r with
  | none => exact wpAny_pure h2
  | some v =>
    refine wpAny_bind (no (wpAny_mono h2 (fun _ s3 h3 => ?_) fun _ _ z => z))
    refine wpAny_bind (no (wpAny_mono h3 (fun _ s4 h4 => ?_) fun _ _ z => z))
    refine wpAny_bind (wpAny_bind (no (wpAny_mono h4 (fun x s5 h5 => ?_) fun _ _ z => z)))
    exact wpAny_bind (no (wpAny_mono h5 (fun _ s6 h6 => wpAny_pure (wpAny_pure ⟨rfl, h6⟩)) fun _ _ z => z))
theorem comp_core {elt iter tg : Expr} {pos : Pos} {g : TG} {te : TE} {tn : Nat → Heap → Prop} {it : Addr} {J : It} {E : Value → Shared → Prop} {QQ : Addr → Hp → Prop} {RR : Value → Addr → Result → Shared → Prop} (I : Inv X pins σ H s) (c : CompSc X ys M scope cl) (hc : X.calm = true)
    (hg : ∀ C s₀ H₀ fp pins, PG (compCx X ys M scope cl C s₀ H₀ fp pins) tg g) (he : ∀ C s₀ H₀ fp pins, PE (compCx X ys M scope cl C s₀ H₀ fp pins) elt te) (T : Turn X.prog X.w X.K tg J fp it tn) (st : tn 0 s.heap) (fk : ∀ b ∈ fp, FpOk X pins H b)
    (h : ∀ D, H D = none → ∃ W : Nat → Nat → Hp → Prop, (∃ m, W 0 m (upd H D (.lst []))) ∧ ∀ i m H, W i m H →
      (J.stop i H ∧ QQ D H) ∨ (J.go i H ∧ ∀ v H', J.yld i H v H' → ∀ us : St, us.length = ys.length → g v (us ++ σ) H' fun σ2 H2 => (∃ us' : St, us'.length = ys.length ∧ σ2 = us' ++ σ) ∧ te σ2 H2 fun y H3 => ∃ xs, H3 D = some (.lst xs) ∧ xs.length < sizeLine ∧ ∃ m', m' < m ∧ W (i + 1) m' (upd H3 D (.lst (xs ++ [y])))))
    (fin : ∀ D C H' s', s.heap.objs.size ≤ C → s'.heap.get? C ≠ none → (∃ m, s'.heap.Ns C m) → H' C = none → Inv X pins σ H' s' → QQ D H' → RR (.ref D) C (.ok .next) s') :
    wpAny (model X.prog X.w) X.A (newList []) (fun acc s₃ => wpAny (model X.prog X.w) X.A (newFunctionEnv scope X.env.globals cl [] X.env.qual none .none (some X.env)) (fun cenv s₄ =>
      codeAny (model X.prog X.w) X.A (.compStart (.ListComp elt [⟨tg, iter, [], 0⟩] scope pos) 0 (.ref it) acc { cenv with scope := relabel scope X.env }) (RR acc cenv.locals) s₄) E s₃) E s := by
  refine wpAny_newObj_type (wpAny_newFunctionEnv c.nocell (by intro y hy; simp at hy) (fun h1 hns hsb => ?_) c.kind)
  dsimp only at hns hsb ⊢
  have hf : H s.heap.objs.size = none := I.hok.fresh (Nat.le_refl _)
  have I3 : Inv X pins σ (upd H s.heap.objs.size (.lst [])) { s with heap := s.heap.push { cls := .type "list", dict := none, data := .seq ([] : List Value).toArray } } :=
    I.laid (t' := s.toks) (fun b u e => Heap.get?_push_of_some _ e) (Nat.le_refl _) ⟨by decide, [], _, .nil, Heap.get?_push_size _ rfl⟩
  have eD : ∀ b u, s.heap.get? b = some u → b ≠ s.heap.objs.size := fun b u e => Nat.ne_of_lt (Heap.lt_size e)
  have fk3 : ∀ b ∈ fp, FpOk X pins (upd H s.heap.objs.size (.lst [])) b ∧ ∃ o, (s.heap.push { cls := .type "list", dict := none, data := .seq ([] : List Value).toArray }).get? b = some o := fun b hb => by
    obtain ⟨o, eo, _⟩ := T.obj 0 _ st b hb
    obtain ⟨f1, f2⟩ := fk b hb
    exact ⟨⟨by rw [upd_ne (eD b o eo)]; exact f1, f2⟩, o, Heap.get?_push_of_some _ eo⟩
  have I4 := inv_comp (tk := s.toks + ([] : List (Str × Value)).length) I3 c rfl hns hsb fk3
  obtain ⟨W, ⟨m0, w0⟩, turn⟩ := h _ hf
  have st4 : tn 0 h1 := T.keep 0 _ _ st fun b hb o e => by
    have e2 := Heap.get?_push_of_some { cls := .type "list", dict := none, data := .seq ([] : List Value).toArray } e
    exact hsb.extBut b o (Nat.ne_of_lt (Heap.lt_size e2)) (Heap.get?_push_of_some _ e2)
  have stat : ∀ {H' : Hp}, (∀ b ∈ fp, H' b = none) → ∀ b ∈ fp, FpOk (compCx X ys M scope cl (s.heap.push { cls := .type "list", dict := none, data := .seq ([] : List Value).toArray }).objs.size { s with heap := s.heap.push { cls := .type "list", dict := none, data := .seq ([] : List Value).toArray } } (upd H s.heap.objs.size (.lst [])) fp pins) [] H' b :=
    fun hn b hb => ⟨hn b hb, (I4.ok.exf b hb).1, I4.ok.exfs b hb, .inl hb, (I4.ok.exf b hb).2, fun p hp => (fk3 b hb).1.2.2.2.2.2 p (by simpa [compCx] using hp)⟩
  have loop : ∀ s4 : Shared, s4 = { s with heap := h1, toks := s.toks + ([] : List (Str × Value)).length } →
      codeAny (model X.prog X.w) X.A (.compLoop (.ListComp elt [⟨tg, iter, [], 0⟩] scope pos) 0 (.ref it) (.ref s.heap.objs.size) (compEnvC scope cl (s.heap.push { cls := .type "list", dict := none, data := .seq ([] : List Value).toArray }).objs.size X.env))
        (RR (.ref s.heap.objs.size) (s.heap.push { cls := .type "list", dict := none, data := .seq ([] : List Value).toArray }).objs.size) s4 := by
    rintro s4 rfl
    refine comp_loop (fun n s' => ∃ (i : Nat) (us : St) (H' : Hp), us.length = ys.length ∧ Inv (compCx X ys M scope cl (s.heap.push { cls := .type "list", dict := none, data := .seq ([] : List Value).toArray }).objs.size { s with heap := s.heap.push { cls := .type "list", dict := none, data := .seq ([] : List Value).toArray } } (upd H s.heap.objs.size (.lst [])) fp pins) [] (us ++ σ) H' s' ∧ tn i s'.heap ∧ (∀ b ∈ fp, H' b = none) ∧ W i n H')
      ?_ m0 ⟨0, _, _, List.length_replicate, I4, st4, fun b hb => (fk3 b hb).1.1, w0⟩
    rintro n s5 ⟨i, us, H5, lu, I5, st5, fr5, w5⟩
    rcases turn i n H5 w5 with ⟨stop, q⟩ | ⟨go, step⟩
    · refine thn (T.done (compCx X ys M scope cl _ _ _ _ _) rfl rfl rfl hc i [] s5 _ H5 _ I5 (stat fr5) st5 stop) fun r s6 ⟨er, I6⟩ => ?_
      subst er
      obtain ⟨m, hn6, _⟩ := id I6.loc
      obtain ⟨o6, _, _, ho6, _⟩ := id hn6
      exact fin _ _ H5 s6 (by rw [Heap.size_push]; exact Nat.le_succ _) (fun z => by have z' := ho6.symm.trans z; cases z') ⟨m, hn6⟩ I6.free (inv_uncomp I3 fk3 I6) q
    · refine thn (T.item (compCx X ys M scope cl _ _ _ _ _) rfl rfl rfl hc i [] s5 _ H5 _ I5 (stat fr5) st5 go) fun r s6 ⟨u, er, h6⟩ => ?_
      subst er
      refine thn h6 fun _ s7 ⟨v', H7, I7, r7, y7, st7, fr7⟩ => ?_
      have I7' := I7.pinned (stat fr7) (T.obj _ _ st7)
      refine wpAny_mono (hg _ _ _ _ _ _ s7 _ H7 v' u _ I7' r7 (step v' H7 y7 us lu)) (fun _ s8 ⟨σ8, H8, I8, ⟨us', lu', e8⟩, q8⟩ => ?_) fun _ _ z => z.elim
      refine wpAny_mono (he _ _ _ _ _ _ s8 _ H8 _ I8 q8) (fun y s9 ⟨yv, H9, I9, ry, xs, hxs, hlen, m', hm, w9⟩ => ?_) fun _ _ z => z.elim
      refine wpAny_mono (mt_append (X := compCx X ys M scope cl _ _ _ _ _) _ s9 _ H9 (.ref s.heap.objs.size) [yv] (.ref s.heap.objs.size) [y] (fun _ H10 => H10 = upd H9 s.heap.objs.size (.lst (xs ++ [yv]))) I9 rfl (.cons ry .nil) ⟨_, xs, yv, rfl, rfl, hxs, hlen, rfl⟩) (fun _ s10 ⟨z, H10, I10, rz, q10⟩ => ?_) fun _ _ z => z.elim
      subst q10
      subst e8
      refine ⟨m', hm, i + 1, us', _, lu', I10.unpinned (pins := []), T.keep _ _ _ st7 fun b hb o e => (I10.pin (b, o) (List.mem_append_right _ (List.mem_append_right _ (mem_pinsAt hb e)))).1, fun b hb => ?_, w9⟩
      obtain ⟨o, e, _⟩ := T.obj _ _ st7 b hb
      exact (I10.pin (b, o) (List.mem_append_right _ (List.mem_append_right _ (mem_pinsAt hb e)))).2.1
  exact codeAny_compStart_list (loop _ rfl) (T.self _ 0 _ _ _ st4 (loop _ rfl))
end
section
variable {X : Cx} {ys M : List Str} {x : Str} {scope : Scope} {cl : List (Str × Addr)}
/-- [elt for tg in iter] as a value -/
theorem pe_compG {elt iter tg : Expr} {pos : Pos} {wi : TI} {g : TG} {te : TE} (c : CompSc X ys M scope cl) (hc : X.calm = true) (hi : PI X tg iter wi) (hg : ∀ C s₀ H₀ fp pins, PG (compCx X ys M scope cl C s₀ H₀ fp pins) tg g) (he : ∀ C s₀ H₀ fp pins, PE (compCx X ys M scope cl C s₀ H₀ fp pins) elt te)
    (hs : ∀ v, foldedSetIterable iter X.env v = pure v := by intro _; rfl) : PE X (.ListComp elt [⟨tg, iter, [], 0⟩] scope pos) (tCompG wi ys.length g te) := by
  intro pins s σ H Q I h
  rw [eval_ListComp]
  refine wpAny_comprehension_free (use := none) rfl hs c.clos c.kind c.names (thn (hi pins s σ H _ I h) fun v s1 h1 => thn h1 fun itv s2 h2 => ?_)
  obtain ⟨it, fp, tn, J, H2, rfl, I2, T, st2, fk2, h3⟩ := h2
  refine comp_core (E := X.xe) (QQ := fun D H' => Q (.ref D) H') I2 c hc hg he T st2 fk2 h3 fun D C H' s' hC hl ns fr I' q => ?_
  obtain ⟨m, hn⟩ := ns
  refine ⟨m, hn, fun h' hs' => ?_⟩
  have sz := I2.sz
  exact ⟨.ref D, H', I'.turned (t' := s'.toks) (fun b o hb e => (hs'.2 b hb).trans e) fr (I2.fpOk hC fr).2.1 (I2.fpOk hC fr).2.2.2.1 (I2.fpOk hC fr).2.2.2.2.1 (I2.fpOk hC fr).2.2.2.2.2, rfl, q⟩
/-- y = [elt for tg in iter] on one line: the store comes ahead of the comprehension's own names' end -/
theorem ps_setCG {elt iter tg : Expr} {pos py sp : Pos} {wi : TI} {g : TG} {te : TE} {i : Nat} {y : Str} (hy : X.N[i]? = some y) (ly : X.env.scope.names.lookup y = some .local) (c : CompSc X ys M scope cl) (hN : X.N.Nodup) (hc : X.calm = true) (hi : PI X tg iter wi)
    (hg : ∀ C s₀ H₀ fp pins, PG (compCx X ys M scope cl C s₀ H₀ fp pins) tg g) (he : ∀ C s₀ H₀ fp pins, PE (compCx X ys M scope cl C s₀ H₀ fp pins) elt te)
    (hsw : swapsWith (.ListComp elt [⟨tg, iter, [], 0⟩] scope pos) (some (.Name y py)) sp.line X.env = pure true := by rfl) (hs : ∀ v, foldedSetIterable iter X.env v = pure v := by intro _; rfl) :
    PS X (.Assign [.Name y py] (.ListComp elt [⟨tg, iter, [], 0⟩] scope pos) sp) (tAsg (tCompG wi ys.length g te) (gName i)) := by
  intro pins s σ H D I h
  rw [exec_Assign_Name_used _ _ _ _ hsw]
  refine wpAny_bind (wpAny_standAt (wpAny_bind ?_))
  show wpAny _ X.A (do let _ ← comprehension (.ListComp elt [⟨tg, iter, [], 0⟩] scope pos) scope X.env _ (newList []) false (eval iter X.env) (some (assign (.Name y py) X.env))) _ _ s
  refine wpAny_bind (wpAny_mono (wpAny_comprehension_free (use := some (assign (.Name y py) X.env)) (Q := fun _ s' => SP X pins D .next s') rfl hs c.clos c.kind c.names (thn (hi pins s σ H _ I h) fun v s1 h1 => thn h1 fun itv s2 h2 => ?_)) (fun _ s' hq => wpAny_pure (wpAny_pure hq)) fun _ _ z => z)
  obtain ⟨it, fp, tn, J, H2, rfl, I2, T, st2, fk2, h3⟩ := h2
  refine comp_core (E := X.xe) (QQ := fun Da H' => D.nx (σ.set i (some (.ref Da))) H') I2 c hc hg he T st2 fk2 h3 fun Da C H' s' hC hl ns fr I' q => ?_
  obtain ⟨m, hn⟩ := ns
  refine wpAny_assign_Name (store_ok2 I' hN hy (.inl ly) (v := .ref Da) rfl (fun s3 I3 ⟨a, hsa, ha⟩ => ?_) (.inr ly))
  have nC : C ≠ a := by
    rcases ha with z | z
    · rw [z]; exact (I2.fpOk hC fr).2.1
    · exact fun w' => (I2.fpOk hC fr).2.2.2.2.1 y a z w'.symm
  refine ⟨m, hn.sameBut hsa nC, fun h' hs' => ⟨_, H', I3.turned (t' := s3.toks) (fun b o hb e => (hs'.2 b hb).trans e) fr (I2.fpOk hC fr).2.1 (I2.fpOk hC fr).2.2.2.1 (I2.fpOk hC fr).2.2.2.2.1 (I2.fpOk hC fr).2.2.2.2.2, q⟩⟩
theorem own_pg {px : Pos} (c : CompSc X [x] M scope cl) (C : Addr) (s₀ : Shared) (H₀ : Hp) (fp : List Addr) (pins : List (Addr × Obj)) : PG (compCx X [x] M scope cl C s₀ H₀ fp pins) (.Name x px) (gName 0) := by
  have hx : (relabel scope X.env).names.lookup x = some .local := lookup_relabel_local (c.own x (by simp))
  exact pg_name (X := compCx X [x] M scope cl C s₀ H₀ fp pins) (i := 0) c.nd rfl (.inl hx) (.inr hx)
end
end L2
namespace L2
open PySem PySem.Spec PyProof.Rows
def relS (scope sc : Scope) : List (Str × NameKind) := scope.names.map fun (n, k) => if (k == .free && sc.kind == .function && sc.names.lookup n == some .cell) then (n, .cell) else (n, k)
def clOf (scope : Scope) (cells : List (Str × Addr)) : List (Str × Addr) := ((scope.names.filter fun n => n.2 == .free).map fun n => (n.1, (cells.lookup n.1).getD 0)).reverse
structure CompS (sc : Scope) (N M ys : List Str) (scope : Scope) : Prop where
  kind : scope.kind = .function
  nocell : ∀ y ∈ scope.names, y.2 ≠ .cell
  names : ∀ y ∈ scope.names, y.2 = .local → scope.names.lookup y.1 = some .local
  own : ∀ y ∈ ys, scope.names.lookup y = some .local
  nd : (ys ++ M).Nodup
  len : M.length = N.length
  same : ∀ p ∈ M.zip N, p.1 = p.2 ∨ (relS scope sc).lookup p.1 = none
  apart : ∀ y ∈ M, (relS scope sc).lookup y ≠ some .local
  free : ∀ n ∈ scope.names, n.2 = .free → sc.names.lookup n.1 = some .cell
theorem lookup_const {g : Str → Addr} : ∀ {l : List (Str × Addr)} {y : Str}, (∀ n ∈ l, n.2 = g n.1) → ∀ {c : Addr}, l.lookup y = some c → c = g y ∧ ∃ n ∈ l, n.1 = y
  | [], _, _, _, h => by simp at h
  | (n, a) :: r, y, hg, c, h => by
    by_cases e : y = n
    · subst e
      rw [List.lookup_cons, beq_self_eq_true] at h
      have h' : a = c := Option.some.inj h
      exact ⟨by rw [← h']; exact hg (y, a) List.mem_cons_self, _, List.mem_cons_self, rfl⟩
    · have e' : (y == n) = false := beq_eq_false_iff_ne.mpr e
      rw [List.lookup_cons, e'] at h
      obtain ⟨h1, m, hm, h2⟩ := lookup_const (fun n hn => hg n (List.mem_cons_of_mem _ hn)) h
      exact ⟨h1, m, List.mem_cons_of_mem _ hm, h2⟩
theorem lookup_mem {l : List (Str × Addr)} {y : Str} : (∃ n ∈ l, n.1 = y) → ∃ c, l.lookup y = some c := by
  induction l with
  | nil => rintro ⟨n, hn, _⟩; cases hn
  | cons a r ih =>
    rintro ⟨n, hn, e⟩
    obtain ⟨m, b⟩ := a
    by_cases e' : y = m
    · subst e'
      exact ⟨b, by rw [List.lookup_cons, beq_self_eq_true]⟩
    · have e2 : (y == m) = false := beq_eq_false_iff_ne.mpr e'
      rw [List.lookup_cons, e2]
      refine ih ?_
      rcases List.mem_cons.mp hn with z | z
      · rw [z] at e
        exact absurd e.symm e'
      · exact ⟨n, z, e⟩
theorem clOf_mem {scope : Scope} {cells : List (Str × Addr)} {n : Str × Addr} : n ∈ clOf scope cells ↔ ∃ m ∈ scope.names, m.2 = .free ∧ n = (m.1, (cells.lookup m.1).getD 0) := by
  unfold clOf
  rw [List.mem_reverse, List.mem_map]
  constructor
  · rintro ⟨m, hm, rfl⟩
    rw [List.mem_filter] at hm
    exact ⟨m, hm.1, beq_iff_eq.mp hm.2, rfl⟩
  · rintro ⟨m, hm, hk, rfl⟩
    exact ⟨m, List.mem_filter.mpr ⟨hm, beq_iff_eq.mpr hk⟩, rfl⟩
theorem closure_eq {env : Env} : ∀ (names : List (Str × NameKind)) (acc : List (Str × Addr)), (∀ n ∈ names, n.2 = .free → ∃ c, env.cells.lookup n.1 = some c) →
    (forIn names acc fun x r => do
      let (name, kind) := x
      if kind == .free then do
        let c ← cellOf env name
        pure (ForInStep.yield ((name, c) :: r))
      else pure (ForInStep.yield r) : Sem (List (Str × Addr))) = pure (((names.filter fun n => n.2 == .free).map fun n => (n.1, (env.cells.lookup n.1).getD 0)).reverse ++ acc)
  | [], acc, _ => rfl
  | (n, k) :: r, acc, h => by
    have ih := fun acc => closure_eq r acc fun m hm => h m (List.mem_cons_of_mem _ hm)
    rw [List.forIn_cons]
    by_cases hk : k = .free
    · subst hk
      obtain ⟨c, hc⟩ := h (n, .free) List.mem_cons_self rfl
      have e1 : cellOf env n = pure c := by unfold cellOf; rw [hc]
      simp only [beq_self_eq_true, if_true, e1, pure_bind, List.filter_cons, List.map_cons, List.reverse_cons, List.append_assoc, List.singleton_append]
      rw [hc]
      exact ih _
    · have hb : (k == NameKind.free) = false := beq_eq_false_iff_ne.mpr hk
      simp only [hb, Bool.false_eq_true, if_false, pure_bind, List.filter_cons]
      exact ih _
theorem CompS.sc {X : Cx} {ys M : List Str} {scope : Scope} (c : CompS X.env.scope X.N M ys scope) (ok : X.Ok) : CompSc X ys M scope (clOf scope X.env.cells) := by
  have hfc : ∀ n ∈ scope.names, n.2 = .free → ∃ a, X.env.cells.lookup n.1 = some a := fun n hn hk => ok.has n.1 (.inl (c.free n hn hk))
  refine ⟨c.kind, c.nocell, c.names, c.own, ?_, c.nd, c.len, c.same, c.apart, fun y a h => ?_, fun y h => ?_⟩
  · have z := closure_eq (env := X.env) scope.names [] hfc
    rw [List.append_nil] at z
    exact (congrArg (fun m : Sem (List (Str × Addr)) => m >>= fun cs => pure cs) z).trans rfl
  · obtain ⟨h1, n, hn, e⟩ := lookup_const (g := fun z => (X.env.cells.lookup z).getD 0) (fun n hn => by obtain ⟨m, _, _, rfl⟩ := clOf_mem.mp hn; rfl) h
    obtain ⟨m, hm, hk, e2⟩ := clOf_mem.mp hn
    have ey : m.1 = y := by rw [← e, e2]
    obtain ⟨a', ha'⟩ := hfc m hm hk
    rw [ey] at ha'
    refine ⟨?_, .inl (by rw [← ey]; exact c.free m hm hk)⟩
    rw [h1, ha']
    rfl
  · have hm : ∃ m ∈ scope.names, m.1 = y ∧ m.2 = .free := by
      have go : ∀ names : List (Str × NameKind), (∀ z ∈ names, z.2 ≠ .cell) → ((names.map fun (n, k) => if (k == .free && X.env.scope.kind == .function && X.env.kindOf n == some .cell) then (n, NameKind.cell) else (n, k)).lookup y = some .cell ∨ (names.map fun (n, k) => if (k == .free && X.env.scope.kind == .function && X.env.kindOf n == some .cell) then (n, NameKind.cell) else (n, k)).lookup y = some .free) → ∃ m ∈ names, m.1 = y ∧ m.2 = .free := by
        intro names
        induction names with
        | nil => intro _ h; simp at h
        | cons a r ih =>
          intro nc h
          obtain ⟨n, k⟩ := a
          by_cases e : y = n
          · subst e
            refine ⟨_, List.mem_cons_self, rfl, ?_⟩
            have nk : k ≠ .cell := nc (y, k) List.mem_cons_self
            by_cases hk : k = .free
            · exact hk
            · have hb : (k == NameKind.free) = false := beq_eq_false_iff_ne.mpr hk
              simp only [List.map_cons, hb, Bool.false_and, Bool.false_eq_true, if_false, List.lookup_cons, beq_self_eq_true] at h
              rcases h with z | z
              · exact absurd (Option.some.inj z) nk
              · exact absurd (Option.some.inj z) hk
          · have e' : (y == n) = false := beq_eq_false_iff_ne.mpr e
            have h' : (r.map fun (n, k) => if (k == .free && X.env.scope.kind == .function && X.env.kindOf n == some .cell) then (n, NameKind.cell) else (n, k)).lookup y = some .cell ∨ (r.map fun (n, k) => if (k == .free && X.env.scope.kind == .function && X.env.kindOf n == some .cell) then (n, NameKind.cell) else (n, k)).lookup y = some .free := by
              by_cases hb : (k == .free && X.env.scope.kind == .function && X.env.kindOf n == some .cell) = true
              · simpa only [List.map_cons, hb, if_true, List.lookup_cons, e'] using h
              · simpa only [List.map_cons, hb, Bool.false_eq_true, if_false, List.lookup_cons, e'] using h
            obtain ⟨m, hm, r1⟩ := ih (fun z hz => nc z (List.mem_cons_of_mem _ hz)) h'
            exact ⟨m, List.mem_cons_of_mem _ hm, r1⟩
      exact go scope.names c.nocell h
    obtain ⟨m, hm, e, hk⟩ := hm
    exact lookup_mem ⟨_, clOf_mem.mpr ⟨m, hm, hk, rfl⟩, e⟩
section
variable {X : Cx} {x : Str} {ys M : List Str} {scope : Scope}
theorem pe_lcG {elt iter tg : Expr} {pos : Pos} {wi : TI} {g : TG} {te : TE} (c : CompS X.env.scope X.N M ys scope) (hc : X.calm = true) (hi : PI X tg iter wi) (hg : ∀ C s₀ H₀ fp pins, PG (compCx X ys M scope (clOf scope X.env.cells) C s₀ H₀ fp pins) tg g) (he : ∀ C s₀ H₀ fp pins, PE (compCx X ys M scope (clOf scope X.env.cells) C s₀ H₀ fp pins) elt te)
    (hs : ∀ v, foldedSetIterable iter X.env v = pure v := by intro _; rfl) : PE X (.ListComp elt [⟨tg, iter, [], 0⟩] scope pos) (tCompG wi ys.length g te) := fun pins s σ H Q I h => pe_compG (c.sc I.ok) hc hi hg he hs pins s σ H Q I h
theorem pe_lc {elt iter : Expr} {px pos : Pos} {wi : TI} {te : TE} (c : CompS X.env.scope X.N M [x] scope) (hN : X.N.Nodup) (hc : X.calm = true) (hi : PI X (.Name x px) iter wi) (he : ∀ C s₀ H₀ fp pins, PE (compCx X [x] M scope (clOf scope X.env.cells) C s₀ H₀ fp pins) elt te)
    (hs : ∀ v, foldedSetIterable iter X.env v = pure v := by intro _; rfl) : PE X (.ListComp elt [⟨.Name x px, iter, [], 0⟩] scope pos) (tComp wi te) := by
  intro pins s σ H Q I h
  have hi' : PI X (.Name x px) iter (fun σ H R => ∃ R', (∀ J H1, R' J H1 → R J H1) ∧ wi σ H R') := by
    intro pins s σ H R I ⟨R', hR, hw⟩
    refine thn (hi pins s σ H R' I hw) fun v s1 h1 => thn h1 fun itv s2 ⟨it, fp, tn, J, H', e, I', T, t0, fk, r⟩ => ⟨it, fp, tn, J, H', e, I', T, t0, fk, hR J H' r⟩
  exact pe_compG (c.sc I.ok) hc hi' (fun C s₀ H₀ fp pins => own_pg (c.sc I.ok) C s₀ H₀ fp pins) he hs pins s σ H Q I ⟨_, fun J H1 q => compG_of q, h⟩
theorem ps_lc {elt iter : Expr} {px pos py sp : Pos} {wi : TI} {te : TE} {i : Nat} {y : Str} (hN : X.N.Nodup) (hy : X.N[i]? = some y) (ly : X.env.scope.names.lookup y = some .local) (c : CompS X.env.scope X.N M [x] scope) (hc : X.calm = true) (hi : PI X (.Name x px) iter wi) (he : ∀ C s₀ H₀ fp pins, PE (compCx X [x] M scope (clOf scope X.env.cells) C s₀ H₀ fp pins) elt te)
    (hsw : swapsWith (.ListComp elt [⟨.Name x px, iter, [], 0⟩] scope pos) (some (.Name y py)) sp.line X.env = pure true := by rfl) (hs : ∀ v, foldedSetIterable iter X.env v = pure v := by intro _; rfl) :
    PS X (.Assign [.Name y py] (.ListComp elt [⟨.Name x px, iter, [], 0⟩] scope pos) sp) (tAsg (tComp wi te) (gName i)) := by
  intro pins s σ H D I h
  have hi' : PI X (.Name x px) iter (fun σ H R => ∃ R', (∀ J H1, R' J H1 → R J H1) ∧ wi σ H R') := by
    intro pins s σ H R I ⟨R', hR, hw⟩
    refine thn (hi pins s σ H R' I hw) fun v s1 h1 => thn h1 fun itv s2 ⟨it, fp, tn, J, H', e, I', T, t0, fk, r⟩ => ⟨it, fp, tn, J, H', e, I', T, t0, fk, hR J H' r⟩
  exact ps_setCG hy ly (c.sc I.ok) hN hc hi' (fun C s₀ H₀ fp pins => own_pg (c.sc I.ok) C s₀ H₀ fp pins) he hsw hs pins s σ H D I ⟨_, fun J H1 q => compG_of q, h⟩
end
end L2
namespace L2
open PySem PySem.Spec PyProof.Rows
/-- an element joins the new list -/
def Push (D : Addr) (Pv : Hp → Prop) : VK := fun y H2 => ∃ xs, H2 D = some (.lst xs) ∧ xs.length < sizeLine ∧ Pv (upd H2 D (.lst (xs ++ [y])))
section
variable {K : PySem.W.Frag} {te : TE} {σ : St} {Q : VK} {H : Hp}
/-- the elements one by one; te has the exact wish -/
def EltK (D : Addr) (n i : Nat) (Pv : Nat → Hp → Prop) : VK := fun y H2 => ∃ xs, H2 D = some (.lst xs) ∧ xs.length < sizeLine ∧ ∃ m', m' < n - i ∧ m' = n - (i + 1) ∧ i + 1 ≤ n ∧ Pv (i + 1) (upd H2 D (.lst (xs ++ [y])))
def Elt (te : TE) (σ : St) (v : V) (H : Hp) (D : Addr) (n i : Nat) (Pv : Nat → Hp → Prop) : Prop := te (some v :: σ) H (EltK D n i Pv)
theorem pushed {D : Addr} {n i : Nat} {Pv : Nat → Hp → Prop} {y : V} {H2 : Hp} (hi : i < n) (h : Push D (Pv (i + 1)) y H2) : EltK D n i Pv y H2 := by
  obtain ⟨xs, h1, h2, h3⟩ := h
  exact ⟨xs, h1, h2, n - (i + 1), by omega, rfl, hi, h3⟩
/-- [elt for x in range(lo, lo + n)] -/
theorem comp_range {lo : Int} {n : Nat} (h : ∀ D, H D = none → ∃ Pv : Nat → Hp → Prop, Pv 0 (upd H D (.lst [])) ∧ (∀ i H2, i < n → Pv i H2 → Elt te σ (.int (lo + i)) H2 D n i Pv) ∧ ∀ H2, Pv n H2 → Q (.ref D) H2) : CompAt (Itr lo n) te σ Q H := by
  intro D nD
  obtain ⟨Pv, h0, hs, hd⟩ := h D nD
  refine ⟨fun i m H => m = n - i ∧ i ≤ n ∧ Pv i H, ⟨n, by simp, Nat.zero_le _, h0⟩, ?_⟩
  rintro i m H ⟨rfl, hi, p⟩
  by_cases hlt : i < n
  · refine .inr ⟨hlt, fun v H' y => ?_⟩
    obtain ⟨e, y⟩ := y
    subst e y
    exact hs i _ hlt p
  · have e : i = n := by omega
    subst e
    exact .inl ⟨Nat.le_refl _, hd H p⟩
/-- [elt for x in xs], xs a list that the elements leave as it is -/
theorem comp_list {a : Addr} {xs : List V} (h : ∀ D, H D = none → ∃ Pv : Nat → Hp → Prop, Pv 0 (upd H D (.lst [])) ∧ (∀ i H2, i ≤ xs.length → Pv i H2 → SqL K H2 a xs) ∧ (∀ i x H2, xs[i]? = some x → Pv i H2 → Elt te σ x H2 D xs.length i Pv) ∧ ∀ H2, Pv xs.length H2 → Q (.ref D) H2) : CompAt (Itl K a) te σ Q H := by
  intro D nD
  obtain ⟨Pv, h0, hl, hs, hd⟩ := h D nD
  refine ⟨fun i m H => m = xs.length - i ∧ i ≤ xs.length ∧ Pv i H, ⟨xs.length, by simp, Nat.zero_le _, h0⟩, ?_⟩
  rintro i m H ⟨rfl, hi, p⟩
  have q := hl i H hi p
  by_cases hlt : i < xs.length
  · refine .inr ⟨⟨xs, xs[i], q, by simp [hlt]⟩, fun v H' y => ?_⟩
    obtain ⟨e, y⟩ := y
    subst e
    exact hs i v _ (y xs q) p
  · have e : i = xs.length := by omega
    subst e
    exact .inl ⟨⟨xs, q, Nat.le_refl _⟩, hd H p⟩
theorem comp_tup {a : Addr} {xs : List V} (h : ∀ D, H D = none → ∃ Pv : Nat → Hp → Prop, Pv 0 (upd H D (.lst [])) ∧ (∀ i H2, i ≤ xs.length → Pv i H2 → SqT K H2 a xs) ∧ (∀ i x H2, xs[i]? = some x → Pv i H2 → Elt te σ x H2 D xs.length i Pv) ∧ ∀ H2, Pv xs.length H2 → Q (.ref D) H2) : CompAt (Itt K a) te σ Q H := by
  intro D nD
  obtain ⟨Pv, h0, hl, hs, hd⟩ := h D nD
  refine ⟨fun i m H => m = xs.length - i ∧ i ≤ xs.length ∧ Pv i H, ⟨xs.length, by simp, Nat.zero_le _, h0⟩, ?_⟩
  rintro i m H ⟨rfl, hi, p⟩
  have q := hl i H hi p
  by_cases hlt : i < xs.length
  · refine .inr ⟨⟨xs, xs[i], q, by simp [hlt]⟩, fun v H' y => ?_⟩
    obtain ⟨e, y⟩ := y
    subst e
    exact hs i v _ (y xs q) p
  · have e : i = xs.length := by omega
    subst e
    exact .inl ⟨⟨xs, q, Nat.le_refl _⟩, hd H p⟩
end
end L2

namespace L2
open PySem PySem.Spec PyProof.Rows
open PySem.W (Dat kqdOk)
section
variable {K : PySem.W.Frag} {σ : St} {H : Hp} {Q : VK} {D : Ends} {ta tb tc te : TE} {t u : TS} {c : TT} {QB : Bool → Hp → Prop} {QA : List V → Hp → Prop} {QS : St → Hp → Prop}
theorem k_seq (h : t { D with nx := u D } σ H) : tSeq t u D σ H := h
theorem k_next (h : D.nx σ H) : tNext D σ H := h
theorem k_break (h : D.bk σ H) : tBreak D σ H := h
theorem k_cont (h : D.ct σ H) : tCont D σ H := h
theorem k_drop (h : te σ H fun _ H1 => D.nx σ H1) : tDrop te D σ H := h
theorem k_ret (h : te σ H D.rt) : tRet te D σ H := h
theorem k_retN (h : D.rt .non H) : tRetN D σ H := h
theorem k_ifS (h : c σ H fun b H1 => if b = true then t D σ H1 else u D σ H1) : tIfS c t u D σ H := h
theorem k_asg {g : TG} (h : te σ H fun x H1 => g x σ H1 D.nx) : tAsg te g D σ H := h
theorem k_gName {i : Nat} {v : V} (h : QS (σ.set i (some v)) H) : gName i v σ H QS := h
theorem k_var {i : Nat} {v : V} (e : σ[i]? = some (some v)) (h : Q v H) : tVar i σ H Q := ⟨v, e, h⟩
theorem k_c {v : V} (h : Q v H) : tC v σ H Q := h
theorem k_op {r : R2} (h : ta σ H fun x H1 => tb σ H1 fun y H2 => r x y H2 Q) : tOp r ta tb σ H Q := h
theorem k_un {r : V → Hp → VK → Prop} (h : ta σ H fun x H1 => r x H1 Q) : tUn r ta σ H Q := h
theorem k_rU {g : Int → V} {i : Int} (h : Q (g i) H) : rU g (.int i) H Q := ⟨i, rfl, h⟩
theorem k_rI0 {g : Int → Int → V} {i j : Int} (h : Q (g i j) H) : rI0 g (.int i) (.int j) H Q := ⟨i, j, rfl, rfl, h⟩
theorem k_rI {C : Int → Int → Prop} {g : Int → Int → V} {i j : Int} (hc : C i j) (h : Q (g i j) H) : rI C g (.int i) (.int j) H Q := ⟨i, j, rfl, rfl, hc, h⟩
theorem k_eqI {i j : Int} (h : Q (.bl (decide (i = j))) H) : rEq (.int i) (.int j) H Q := ⟨rfl, by
  have e : decide (V.int i = V.int j) = decide (i = j) := by
    by_cases z : i = j
    · subst z; simp
    · simp [z]
  rw [e]; exact h⟩
theorem k_neI {i j : Int} (h : Q (.bl (!decide (i = j))) H) : rNe (.int i) (.int j) H Q := ⟨rfl, by
  have e : decide (V.int i = V.int j) = decide (i = j) := by
    by_cases z : i = j
    · subst z; simp
    · simp [z]
  rw [e]; exact h⟩
theorem k_eqS {i j : Str} (h : Q (.bl (decide (i = j))) H) : rEq (.str i) (.str j) H Q := ⟨rfl, by
  have e : decide (V.str i = V.str j) = decide (i = j) := by
    by_cases z : i = j
    · subst z; simp
    · simp [z]
  rw [e]; exact h⟩
theorem k_eqB {i j : Bool} (h : Q (.bl (decide (i = j))) H) : rEq (.bl i) (.bl j) H Q := ⟨rfl, by
  have e : decide (V.bl i = V.bl j) = decide (i = j) := by
    by_cases z : i = j
    · subst z; simp
    · simp [z]
  rw [e]; exact h⟩
theorem k_neB {i j : Bool} (h : Q (.bl (!decide (i = j))) H) : rNe (.bl i) (.bl j) H Q := ⟨rfl, by
  have e : decide (V.bl i = V.bl j) = decide (i = j) := by
    by_cases z : i = j
    · subst z; simp
    · simp [z]
  rw [e]; exact h⟩
theorem k_isN {x : V} (h : Q (.bl (decide (x = .non))) H) : rIsN x .non H Q := ⟨rfl, h⟩
theorem k_notN {x : V} (h : Q (.bl (!decide (x = .non))) H) : rNotN x .non H Q := ⟨rfl, h⟩
theorem k_test (h : te σ H fun x H' => ∃ k, x = .bl k ∧ QB k H') : tTest te σ H QB := h
theorem k_tB (h : te σ H fun x H' => ∃ k, x = .bl k ∧ QB k H') : tB te σ H QB := h
theorem k_bl {P : Bool → Prop} {b : Bool} (h : P b) : ∃ k, V.bl b = .bl k ∧ P k := ⟨b, rfl, h⟩
theorem k_not (h : c σ H fun b H1 => QB (!b) H1) : tNot c σ H QB := h
theorem k_and {c' : TT} (h : c σ H fun b H1 => if b = true then c' σ H1 QB else QB false H1) : tAnd c c' σ H QB := h
theorem k_or {c' : TT} (h : c σ H fun b H1 => if b = true then QB true H1 else c' σ H1 QB) : tOr c c' σ H QB := h
theorem k_andV (h : ta σ H fun x H1 => ∃ k, x = .bl k ∧ if k = true then tb σ H1 Q else Q (.bl false) H1) : tAndV ta tb σ H Q := h
theorem k_orV (h : ta σ H fun x H1 => ∃ k, x = .bl k ∧ if k = true then Q (.bl true) H1 else tb σ H1 Q) : tOrV ta tb σ H Q := h
theorem k_notV (h : ta σ H fun x H1 => ∃ k, x = .bl k ∧ Q (.bl (!k)) H1) : tNotV ta σ H Q := h
theorem k_if (h : c σ H fun b H1 => if b = true then ta σ H1 Q else tb σ H1 Q) : tIf c ta tb σ H Q := h
theorem k_chain {r r' : R2} (h : ta σ H fun x H1 => tb σ H1 fun y H2 => r x y H2 fun z H3 => ∃ k, z = .bl k ∧ (if k = true then tc σ H3 fun w' H4 => r' y w' H4 Q else Q (.bl false) H3)) : tChain r r' ta tb tc σ H Q := h
theorem k_nil (h : QA [] H) : tNil σ H QA := h
theorem k_cons {tr : TA} (h : ta σ H fun x H1 => tr σ H1 fun xs H2 => QA (x :: xs) H2) : tCons ta tr σ H QA := h
theorem k_call {sp : Sp} {dvs : List V} {E : XK} {ts : TA} (h : ts σ H fun vs H1 => sp (vs ++ dvs) H1 Q E) : tCall sp dvs E ts σ H Q := h
theorem k_cB {r : List V → Hp → VK → Prop} {ts : TA} (h : ts σ H fun vs H1 => r vs H1 Q) : tCB r ts σ H Q := h
theorem k_tup {ts : TA} (h : ts σ H fun xs H1 => xs.length ≤ sizeLine ∧ ∀ p, H1 p = none → Q (.ref p) (upd H1 p (.tup xs))) : tTup ts σ H Q := h
theorem k_lst {ts : TA} (h : ts σ H fun xs H1 => xs.length ≤ sizeLine ∧ ∀ p, H1 p = none → Q (.ref p) (upd H1 p (.lst xs))) : tLst ts σ H Q := h
theorem k_sl {r : V → Option Int → Option Int → Hp → VK → Prop} {tl th : TO} (h : te σ H fun x H1 => tl σ H1 fun l H2 => th σ H2 fun u H3 => r x l u H3 Q) : tSl r te tl th σ H Q := h
theorem k_noPart {QO : Option Int → Hp → Prop} (h : QO none H) : tNoPart σ H QO := h
theorem k_part {QO : Option Int → Hp → Prop} (h : te σ H fun x H1 => ∃ i, x = .int i ∧ QO (some i) H1) : tPart te σ H QO := h
theorem k_int {P : Int → Prop} {i : Int} (h : P i) : ∃ j, V.int i = .int j ∧ P j := ⟨i, rfl, h⟩
theorem k_ite {p : Prop} [Decidable p] {A B : Prop} (h1 : p → A) (h2 : ¬ p → B) : if decide p = true then A else B := iteD h1 h2
theorem k_iteN {p : Prop} [Decidable p] {A B : Prop} (h1 : ¬ p → A) (h2 : p → B) : if (!decide p) = true then A else B := by
  by_cases h : p
  · rw [decide_eq_true h]; exact iteF (h2 h)
  · rw [decide_eq_false h]; exact iteT (h1 h)
theorem k_iteNF {A B : Prop} (h : A) : if (!false) = true then A else B := iteT h
theorem k_iteNT {A B : Prop} (h : B) : if (!true) = true then A else B := iteF h
theorem k_iteNNT {A B : Prop} (h : A) : if (!!true) = true then A else B := iteT h
theorem k_iteNNF {A B : Prop} (h : B) : if (!!false) = true then A else B := iteF h
def FAt (J : It) (g : TG) (tb : TS) (D : Ends) (σ : St) (H1 : Hp) : Prop := ∃ W : Nat → Nat → St → Hp → Prop, (∃ m, W 0 m σ H1) ∧ ∀ i m σ H, W i m σ H →
  (J.stop i H ∧ D.nx σ H) ∨ (J.go i H ∧ ∃ N : St → Hp → Prop, (∀ σ' H', N σ' H' → ∃ m', m' < m ∧ W (i + 1) m' σ' H') ∧ ∀ x H', J.yld i H x H' → g x σ H' fun σ2 H2 => tb { D with nx := N, ct := N, bk := D.nx } σ2 H2)
theorem k_for {wi : TI} {g : TG} {tb : TS} (h : wi σ H fun J H1 => FAt J g tb D σ H1) : tFor wi g tb D σ H := h
theorem k_comp {wi : TI} (h : wi σ H fun J H1 => CompAt J te σ Q H1) : tComp wi te σ H Q := h
theorem k_rng1 {ts : TA} {R : It → Hp → Prop} (h : ts σ H fun vs H1 => ∃ j : Int, vs = [.int j] ∧ -(2 ^ 62) ≤ j ∧ j < 2 ^ 62 ∧ R (Itr 0 j.toNat) H1) : iRng1 ts σ H R := h
theorem k_rng2 {ts : TA} {R : It → Hp → Prop} (h : ts σ H fun vs H1 => ∃ i j : Int, vs = [.int i, .int j] ∧ (-(2 ^ 62) ≤ i ∧ i < 2 ^ 62 ∧ -(2 ^ 62) ≤ j ∧ j < 2 ^ 62) ∧ R (Itr i (j - i).toNat) H1) : iRng2 ts σ H R := h
theorem k_r1F {g : TG} {tb : TS} {j : Int} (h0 : -(2 ^ 62) ≤ j ∧ j < 2 ^ 62) (h : FAt (Itr 0 j.toNat) g tb D σ H) : ∃ i : Int, [V.int j] = [.int i] ∧ -(2 ^ 62) ≤ i ∧ i < 2 ^ 62 ∧ FAt (Itr 0 i.toNat) g tb D σ H := ⟨j, rfl, h0.1, h0.2, h⟩
theorem k_r1C {j : Int} (h0 : -(2 ^ 62) ≤ j ∧ j < 2 ^ 62) (h : CompAt (Itr 0 j.toNat) te σ Q H) : ∃ i : Int, [V.int j] = [.int i] ∧ -(2 ^ 62) ≤ i ∧ i < 2 ^ 62 ∧ CompAt (Itr 0 i.toNat) te σ Q H := ⟨j, rfl, h0.1, h0.2, h⟩
theorem k_r2C {i j : Int} (h0 : -(2 ^ 62) ≤ i ∧ i < 2 ^ 62 ∧ -(2 ^ 62) ≤ j ∧ j < 2 ^ 62) (h : CompAt (Itr i (j - i).toNat) te σ Q H) : ∃ i' j' : Int, [V.int i, V.int j] = [.int i', .int j'] ∧ (-(2 ^ 62) ≤ i' ∧ i' < 2 ^ 62 ∧ -(2 ^ 62) ≤ j' ∧ j' < 2 ^ 62) ∧ CompAt (Itr i' (j' - i').toNat) te σ Q H := ⟨i, j, rfl, h0, h⟩
theorem k_iList {R : It → Hp → Prop} (h : te σ H fun x H1 => ∃ a, x = .ref a ∧ (∃ xs, SqL K H1 a xs) ∧ R (Itl K a) H1) : iList K te σ H R := h
theorem k_iTup {R : It → Hp → Prop} (h : te σ H fun x H1 => ∃ a, x = .ref a ∧ (∃ xs, SqT K H1 a xs) ∧ R (Itt K a) H1) : iTup K te σ H R := h
theorem k_rlF {g : TG} {tb : TS} {a : Addr} {xs : List V} (e : SqL K H a xs) (h : FAt (Itl K a) g tb D σ H) : ∃ b, V.ref a = .ref b ∧ (∃ xs, SqL K H b xs) ∧ FAt (Itl K b) g tb D σ H := ⟨a, rfl, ⟨xs, e⟩, h⟩
theorem k_rlC {a : Addr} {xs : List V} (e : SqL K H a xs) (h : CompAt (Itl K a) te σ Q H) : ∃ b, V.ref a = .ref b ∧ (∃ xs, SqL K H b xs) ∧ CompAt (Itl K b) te σ Q H := ⟨a, rfl, ⟨xs, e⟩, h⟩
theorem k_rtC {a : Addr} {xs : List V} (e : SqT K H a xs) (h : CompAt (Itt K a) te σ Q H) : ∃ b, V.ref a = .ref b ∧ (∃ xs, SqT K H b xs) ∧ CompAt (Itt K b) te σ Q H := ⟨a, rfl, ⟨xs, e⟩, h⟩
theorem fat_range {lo : Int} {n : Nat} {g : TG} {tb : TS} (Pv : Nat → St → Hp → Prop) (h0 : Pv 0 σ H)
    (hs : ∀ i σ H, i < n → Pv i σ H → g (.int (lo + i)) σ H fun σ2 H2 => tb { D with nx := Pv (i + 1), ct := Pv (i + 1), bk := D.nx } σ2 H2) (hd : ∀ σ H, Pv n σ H → D.nx σ H) : FAt (Itr lo n) g tb D σ H := for_range Pv h0 hs hd
theorem fat_list {a : Addr} {xs : List V} {g : TG} {tb : TS} (Pv : Nat → St → Hp → Prop) (h0 : Pv 0 σ H) (hl : ∀ i σ H, i ≤ xs.length → Pv i σ H → SqL K H a xs)
    (hs : ∀ i x σ H, xs[i]? = some x → Pv i σ H → g x σ H fun σ2 H2 => tb { D with nx := Pv (i + 1), ct := Pv (i + 1), bk := D.nx } σ2 H2) (hd : ∀ σ H, Pv xs.length σ H → D.nx σ H) : FAt (Itl K a) g tb D σ H := for_list Pv h0 hl hs hd
theorem k_elt {v : V} {D : Addr} {n i : Nat} {Pv : Nat → Hp → Prop} (h : te (some v :: σ) H (EltK D n i Pv)) : Elt te σ v H D n i Pv := h
theorem k_gTup {n : Nat} {ts : TGs} {a : Addr} {xs : List V} (e : SqT K H a xs) (l : xs.length = n) (h : ts xs σ H QS) : gTup K n ts (.ref a) σ H QS := ⟨a, xs, rfl, e, l, h⟩
theorem k_gCons {tg : TG} {ts : TGs} {v : V} {r : List V} (h : tg v σ H fun σ' H' => ts r σ' H' QS) : gCons tg ts (v :: r) σ H QS := ⟨v, r, rfl, h⟩
theorem k_gNil (h : QS σ H) : gNil [] σ H QS := ⟨rfl, h⟩
theorem k_lenL {p : Addr} {xs : List V} (e : SqL K H p xs) (h : Q (.int xs.length) H) : rLenQ K [.ref p] H Q := ⟨p, xs, rfl, .inl e, h⟩
theorem k_lenT {p : Addr} {xs : List V} (e : SqT K H p xs) (h : Q (.int xs.length) H) : rLenQ K [.ref p] H Q := ⟨p, xs, rfl, .inr e, h⟩
theorem k_ixL {p : Addr} {xs : List V} {i : Int} {v : V} (e : SqL K H p xs) (a : atI xs i = some v) (h : Q v H) : rIxL K (.ref p) (.int i) H Q := ⟨p, xs, i, v, rfl, rfl, e, a, h⟩
theorem k_ixT {p : Addr} {xs : List V} {i : Int} {v : V} (e : SqT K H p xs) (a : atI xs i = some v) (h : Q v H) : rIxT K (.ref p) (.int i) H Q := ⟨p, xs, i, v, rfl, rfl, e, a, h⟩
theorem k_ixS {z : Str} {i : Int} {c : Nat} (e : z.length ≤ sizeLine) (a : atI z.cps.toList i = some c) (h : Q (.str ⟨#[c]⟩) H) : rIxS (.str z) (.int i) H Q := ⟨z, i, c, rfl, rfl, e, a, h⟩
theorem k_tupL {p : Addr} {xs : List V} (e : SqL K H p xs) (h : ∀ l, H l = none → Q (.ref l) (upd H l (.tup xs))) : rTupOf K [.ref p] H Q := ⟨p, xs, rfl, .inl ⟨e, h⟩⟩
theorem k_bm {T : String} {r : V → List V → Hp → VK → Prop} {to : TE} {ts : TA} (h : to σ H fun x H1 => tyV K T x H1 ∧ ts σ H1 fun xs H2 => r x xs H2 Q) : tBM K T r to ts σ H Q := h
theorem k_bm0 {T : String} {r : V → List V → Hp → VK → Prop} {to : TE} (h : to σ H fun x H1 => tyV K T x H1 ∧ r x [] H1 Q) : tBM0 K T r to σ H Q := h
theorem k_tyL {p : Addr} {xs : List V} (e : H p = some (.lst xs)) : tyV K "list" (.ref p) H := .inl ⟨rfl, xs, SqL.of e⟩
theorem k_int1 {i : Int} (h : Q (.int i) H) : rInt1 [.int i] H Q := .inl ⟨i, rfl, h⟩
theorem k_intB {b : Bool} (h : Q (.int (if b then 1 else 0)) H) : rInt1 [.bl b] H Q := .inr ⟨b, rfl, h⟩
theorem k_abs {i : Int} (h : Q (.int (if i < 0 then -i else i)) H) : rAbs [.int i] H Q := ⟨i, rfl, h⟩
theorem k_addS {i j : Str} (n : i.length + j.length ≤ sizeLine) (h : Q (.str (i ++ j)) H) : rAddS (.str i) (.str j) H Q := ⟨i, j, rfl, rfl, n, h⟩
end
mutual
/-- the value stands for the datum; its lists lie in S -/
inductive Rp (K : PySem.W.Frag) (S : Addr → Prop) (H : Hp) : V → Dat → Prop
  | non : Rp K S H .non .none
  | bl (b : Bool) : Rp K S H (.bl b) (.bool b)
  | int (i : Int) : Rp K S H (.int i) (.int i)
  | str (x : Str) : Rp K S H (.str x) (.str x)
  | tup {a : Addr} {xs : List V} {ds : List Dat} : H a = some (.tup xs) → RpL K S H xs ds → Rp K S H (.ref a) (.tuple ds)
  | lst {a : Addr} {xs : List V} {ds : List Dat} : S a → H a = some (.lst xs) → RpL K S H xs ds → Rp K S H (.ref a) (.list ds)
inductive RpL (K : PySem.W.Frag) (S : Addr → Prop) (H : Hp) : List V → List Dat → Prop
  | nil : RpL K S H [] []
  | cons {v : V} {d : Dat} {vs : List V} {ds : List Dat} : Rp K S H v d → RpL K S H vs ds → RpL K S H (v :: vs) (d :: ds)
end
/-- tuples stay, and the lists in S -/
structure Agr (S : Addr → Prop) (H H' : Hp) : Prop where
  tup : ∀ a xs, H a = some (.tup xs) → H' a = some (.tup xs)
  lst : ∀ a xs, S a → H a = some (.lst xs) → H' a = some (.lst xs)
section
variable {K : PySem.W.Frag} {S S' : Addr → Prop} {H H' : Hp}
theorem Agr.of_same (e : Same H H') : Agr S H H' := ⟨fun a xs h => e _ _ h, fun a xs _ h => e _ _ h⟩
theorem Agr.of_upd {l : Addr} {ys : List V} {o : HO} (hl : H l = some (.lst ys)) (ns : ¬ S l) : Agr S H (upd H l o) := by
  refine ⟨fun a xs h => ?_, fun a xs s h => ?_⟩
  · have ne : a ≠ l := by
      rintro rfl
      rw [hl] at h
      cases h
    rw [upd_ne ne]; exact h
  · have ne : a ≠ l := by
      rintro rfl
      exact ns s
    rw [upd_ne ne]; exact h
mutual
theorem Rp.agr (e : Agr S H H') : ∀ {v : V} {d : Dat}, Rp K S H v d → Rp K S H' v d
  | _, _, .non => .non
  | _, _, .bl b => .bl b
  | _, _, .int i => .int i
  | _, _, .str x => .str x
  | _, _, .tup h r => .tup (e.tup _ _ h) (RpL.agr e r)
  | _, _, .lst s h r => .lst s (e.lst _ _ s h) (RpL.agr e r)
theorem RpL.agr (e : Agr S H H') : ∀ {vs : List V} {ds : List Dat}, RpL K S H vs ds → RpL K S H' vs ds
  | _, _, .nil => .nil
  | _, _, .cons h r => .cons (Rp.agr e h) (RpL.agr e r)
end
mutual
theorem Rp.mono (e : ∀ a, S a → S' a) : ∀ {v : V} {d : Dat}, Rp K S H v d → Rp K S' H v d
  | _, _, .non => .non
  | _, _, .bl b => .bl b
  | _, _, .int i => .int i
  | _, _, .str x => .str x
  | _, _, .tup h r => .tup h (RpL.mono e r)
  | _, _, .lst s h r => .lst (e _ s) h (RpL.mono e r)
theorem RpL.mono (e : ∀ a, S a → S' a) : ∀ {vs : List V} {ds : List Dat}, RpL K S H vs ds → RpL K S' H vs ds
  | _, _, .nil => .nil
  | _, _, .cons h r => .cons (Rp.mono e h) (RpL.mono e r)
end
mutual
theorem Rp.rep : ∀ {v : V} {d : Dat}, Rp K S H v d → Rep K H v d
  | _, _, .non => .non
  | _, _, .bl b => .bl b
  | _, _, .int i => .int i
  | _, _, .str x => .str x
  | _, _, .tup h r => .tup (SqT.of h) (RpL.rep r)
  | _, _, .lst _ h r => .lst (SqL.of h) (RpL.rep r)
theorem RpL.rep : ∀ {vs : List V} {ds : List Dat}, RpL K S H vs ds → RepL K H vs ds
  | _, _, .nil => .nil
  | _, _, .cons h r => .cons (Rp.rep h) (RpL.rep r)
end
theorem Rp.same (e : Same H H') {v : V} {d : Dat} (h : Rp K S H v d) : Rp K S H' v d := h.agr (Agr.of_same e)
theorem RpL.same (e : Same H H') {vs : List V} {ds : List Dat} (h : RpL K S H vs ds) : RpL K S H' vs ds := h.agr (Agr.of_same e)
theorem RpL.length : ∀ {vs : List V} {ds : List Dat}, RpL K S H vs ds → vs.length = ds.length
  | _, _, .nil => rfl
  | _, _, .cons _ r => congrArg (· + 1) (RpL.length r)
theorem RpL.get : ∀ {vs : List V} {ds : List Dat} {i : Nat} {v : V}, RpL K S H vs ds → vs[i]? = some v → ∃ d, ds[i]? = some d ∧ Rp K S H v d
  | _, _, _, _, .nil, e => by simp at e
  | _, _, 0, _, .cons h _, e => by simp at e; subst e; exact ⟨_, rfl, h⟩
  | _, _, i + 1, v, .cons _ r, e => by
    obtain ⟨d, h1, h2⟩ := RpL.get (i := i) (v := v) r (by simpa using e)
    exact ⟨d, by simpa using h1, h2⟩
theorem RpL.get' : ∀ {vs : List V} {ds : List Dat} {i : Nat} {d : Dat}, RpL K S H vs ds → ds[i]? = some d → ∃ v, vs[i]? = some v ∧ Rp K S H v d
  | _, _, _, _, .nil, e => by simp at e
  | _, _, 0, _, .cons h _, e => by simp at e; subst e; exact ⟨_, rfl, h⟩
  | _, _, i + 1, v, .cons _ r, e => by
    obtain ⟨d, h1, h2⟩ := RpL.get' (i := i) (d := v) r (by simpa using e)
    exact ⟨d, by simpa using h1, h2⟩
theorem RpL.append : ∀ {vs ws : List V} {ds es : List Dat}, RpL K S H vs ds → RpL K S H ws es → RpL K S H (vs ++ ws) (ds ++ es)
  | _, _, _, _, .nil, s => s
  | _, _, _, _, .cons h r, s => .cons h (RpL.append r s)
theorem RpL.take : ∀ {vs : List V} {ds : List Dat} (n : Nat), RpL K S H vs ds → RpL K S H (vs.take n) (ds.take n)
  | _, _, 0, _ => .nil
  | _, _, _ + 1, .nil => .nil
  | _, _, n + 1, .cons h r => .cons h (RpL.take n r)
theorem RpL.drop : ∀ {vs : List V} {ds : List Dat} (n : Nat), RpL K S H vs ds → RpL K S H (vs.drop n) (ds.drop n)
  | _, _, 0, r => r
  | _, _, _ + 1, .nil => .nil
  | _, _, n + 1, .cons _ r => RpL.drop n r
theorem RpL.reverse {vs : List V} {ds : List Dat} (h : RpL K S H vs ds) : RpL K S H vs.reverse ds.reverse := by
  induction vs generalizing ds with
  | nil => cases h; exact .nil
  | cons v vs ih =>
    cases h with
    | cons h r =>
      rw [List.reverse_cons, List.reverse_cons]
      exact (ih r).append (.cons h .nil)
theorem RpL.ints : ∀ ns : List Int, RpL K S H (ns.map V.int) (ns.map Dat.int)
  | [] => .nil
  | n :: ns => .cons (.int n) (RpL.ints ns)
theorem RpL.strs : ∀ ns : List Str, RpL K S H (ns.map V.str) (ns.map Dat.str)
  | [] => .nil
  | n :: ns => .cons (.str n) (RpL.strs ns)
theorem RpL.ints_of : ∀ {vs : List V} {ns : List Int}, RpL K S H vs (ns.map Dat.int) → vs = ns.map V.int
  | _, [], .nil => rfl
  | _, n :: ns, .cons h r => by cases h; rw [RpL.ints_of r]; rfl
theorem RpL.strs_of : ∀ {vs : List V} {ns : List Str}, RpL K S H vs (ns.map Dat.str) → vs = ns.map V.str
  | _, [], .nil => rfl
  | _, n :: ns, .cons h r => by cases h; rw [RpL.strs_of r]; rfl
/-- a tuple of data -/
theorem Rp.tup_of {v : V} {ds : List Dat} (h : Rp K S H v (.tuple ds)) : ∃ a xs, v = .ref a ∧ SqT K H a xs ∧ RpL K S H xs ds := by
  cases h with
  | tup h r => exact ⟨_, _, rfl, SqT.of h, r⟩
theorem Rp.tup_at {v : V} {ds : List Dat} (h : Rp K S H v (.tuple ds)) : ∃ a xs, v = .ref a ∧ H a = some (.tup xs) ∧ RpL K S H xs ds := by
  cases h with
  | tup h r => exact ⟨_, _, rfl, h, r⟩
theorem Rp.lst_at {v : V} {ds : List Dat} (h : Rp K S H v (.list ds)) : ∃ a xs, v = .ref a ∧ S a ∧ H a = some (.lst xs) ∧ RpL K S H xs ds := by
  cases h with
  | lst s h r => exact ⟨_, _, rfl, s, h, r⟩
end
def F0 : Addr → Prop := fun _ => False
abbrev Rz (K : PySem.W.Frag) (H : Hp) : V → Dat → Prop := Rp K F0 H
abbrev RzL (K : PySem.W.Frag) (H : Hp) : List V → List Dat → Prop := RpL K F0 H
section
variable {K : PySem.W.Frag} {S : Addr → Prop} {H H' : Hp}
theorem Rp.z {v : V} {d : Dat} (h : Rz K H v d) : Rp K S H v d := h.mono fun _ z => z.elim
theorem RpL.z {vs : List V} {ds : List Dat} (h : RzL K H vs ds) : RpL K S H vs ds := h.mono fun _ z => z.elim
theorem Rz.upd {l : Addr} {ys : List V} {o : HO} {v : V} {d : Dat} (h : Rz K H v d) (hl : H l = some (.lst ys)) : Rz K (L2.upd H l o) v d := h.agr (Agr.of_upd hl fun z => z)
theorem RzL.upd {l : Addr} {ys : List V} {o : HO} {v : List V} {d : List Dat} (h : RzL K H v d) (hl : H l = some (.lst ys)) : RzL K (L2.upd H l o) v d := h.agr (Agr.of_upd hl fun z => z)
end
/-- H0: ahead of it; l: its address; ds: what stands in it now -/
structure Acc (K : PySem.W.Frag) (H0 : Hp) (l : Addr) (H : Hp) (ds : List Dat) : Prop where
  same : Same H0 H
  new : H0 l = none
  at_ : ∃ xs, H l = some (.lst xs) ∧ RpL K (fun a => H0 a = none ∧ a ≠ l) H xs ds
section
variable {K : PySem.W.Frag} {H0 H H' : Hp} {l : Addr} {ds : List Dat}
theorem Acc.start (n : H0 l = none) : Acc K H0 l (upd H0 l (.lst [])) [] := ⟨same_new n _, n, [], upd_same, .nil⟩
theorem Acc.on (A : Acc K H0 l H ds) (e : Same H H') : Acc K H0 l H' ds := by
  obtain ⟨xs, h1, h2⟩ := A.at_
  exact ⟨A.same.trans e, A.new, xs, e _ _ h1, h2.same e⟩
theorem Acc.ref (A : Acc K H0 l H ds) : Rp K (fun a => H0 a = none) H (.ref l) (.list ds) := by
  obtain ⟨xs, h1, h2⟩ := A.at_
  exact .lst A.new h1 (h2.mono fun _ z => z.1)
theorem Acc.rep (A : Acc K H0 l H ds) : Rep K H (.ref l) (.list ds) := A.ref.rep
/-- what stands in it, and what one more makes of it; y's own lists are new and are not l -/
theorem Acc.push (A : Acc K H0 l H ds) {S : Addr → Prop} {y : V} {d : Dat} (r : Rp K S H y d) (hS : ∀ a, S a → H0 a = none ∧ a ≠ l) : ∃ xs, H l = some (.lst xs) ∧ xs.length = ds.length ∧ Acc K H0 l (upd H l (.lst (xs ++ [y]))) (ds ++ [d]) := by
  obtain ⟨xs, h1, h2⟩ := A.at_
  refine ⟨xs, h1, h2.length, ⟨fun b o q => ?_, A.new, xs ++ [y], upd_same, ?_⟩⟩
  · rw [upd_ne (ne_of_none q A.new)]
    exact A.same b o q
  · exact (h2.append (.cons (r.mono hS) .nil)).agr (Agr.of_upd h1 fun z => z.2 rfl)
/-- y made by a call behind A -/
theorem Acc.pushN (A : Acc K H0 l H ds) (e : Same H H') {y : V} {d : Dat} (r : Rp K (fun a => H a = none) H' y d) : ∃ xs, H' l = some (.lst xs) ∧ xs.length = ds.length ∧ Acc K H0 l (upd H' l (.lst (xs ++ [y]))) (ds ++ [d]) :=
  (A.on e).push r fun a z => ⟨A.same.free z, fun q => by obtain ⟨xs, h1, _⟩ := A.at_; rw [q, h1] at z; cases z⟩
theorem Acc.pushK (A : Acc K H0 l H ds) (e : Same H H') {y : V} {d : Dat} (r : Rp K (fun a => H a = none) H' y d) (n : ds.length < sizeLine) {Pv : Hp → Prop} (h : ∀ H2, Acc K H0 l H2 (ds ++ [d]) → Pv H2) : Push l Pv y H' := by
  obtain ⟨xs, h1, h2, h3⟩ := A.pushN e r
  exact ⟨xs, h1, by rw [h2]; exact n, h _ h3⟩
theorem Acc.upd_ne (A : Acc K H0 l H ds) {m : Addr} {o : HO} (h : H0 m = some o) {ys : List V} : Same H0 (L2.upd H l (.lst ys)) := fun b u q => by
  rw [L2.upd_ne (ne_of_none q A.new)]
  exact A.same b u q
end
theorem Acc.ty {K : PySem.W.Frag} {H0 H : Hp} {l : Addr} {ds : List Dat} (A : Acc K H0 l H ds) : tyV K "list" (.ref l) H := by
  obtain ⟨xs, h1, _⟩ := A.at_
  exact k_tyL h1
theorem Acc.sq {K : PySem.W.Frag} {H0 H : Hp} {l : Addr} {ds : List Dat} (A : Acc K H0 l H ds) : ∃ xs, SqL K H l xs ∧ xs.length = ds.length ∧ RpL K (fun a => H0 a = none ∧ a ≠ l) H xs ds := by
  obtain ⟨xs, h1, h2⟩ := A.at_
  exact ⟨xs, SqL.of h1, h2.length, h2⟩
structure AccZ (K : PySem.W.Frag) (H0 : Hp) (l : Addr) (H : Hp) (ds : List Dat) : Prop where
  same : Same H0 H
  new : H0 l = none
  at_ : ∃ xs, H l = some (.lst xs) ∧ RzL K H xs ds
section
variable {K : PySem.W.Frag} {H0 H H' : Hp} {l m : Addr} {ds : List Dat}
theorem AccZ.start (e : Same H0 H) (n : H l = none) : AccZ K H0 l (upd H l (.lst [])) [] := ⟨e.trans (same_new n _), e.free n, [], upd_same, .nil⟩
theorem AccZ.on (A : AccZ K H0 l H ds) (e : Same H H') : AccZ K H0 l H' ds := by
  obtain ⟨xs, h1, h2⟩ := A.at_
  exact ⟨A.same.trans e, A.new, xs, e _ _ h1, h2.same e⟩
theorem AccZ.ref (A : AccZ K H0 l H ds) : Rp K (fun a => H0 a = none) H (.ref l) (.list ds) := by
  obtain ⟨xs, h1, h2⟩ := A.at_
  exact .lst A.new h1 h2.z
theorem AccZ.rep (A : AccZ K H0 l H ds) : Rep K H (.ref l) (.list ds) := A.ref.rep
theorem AccZ.ty (A : AccZ K H0 l H ds) : tyV K "list" (.ref l) H := by
  obtain ⟨xs, h1, _⟩ := A.at_
  exact k_tyL h1
theorem AccZ.sq (A : AccZ K H0 l H ds) : ∃ xs, SqL K H l xs ∧ xs.length = ds.length ∧ RzL K H xs ds := by
  obtain ⟨xs, h1, h2⟩ := A.at_
  exact ⟨xs, SqL.of h1, h2.length, h2⟩
theorem AccZ.upd_same (A : AccZ K H0 l H ds) {o : HO} : Same H0 (L2.upd H l o) := fun b u q => by
  rw [L2.upd_ne (ne_of_none q A.new)]
  exact A.same b u q
/-- another list changes -/
theorem AccZ.other (A : AccZ K H0 l H ds) {ys : List V} {o : HO} (ne : l ≠ m) (n : H0 m = none) (h : H m = some (.lst ys)) : AccZ K H0 l (upd H m o) ds := by
  obtain ⟨xs, h1, h2⟩ := A.at_
  refine ⟨fun b u q => ?_, A.new, xs, by rw [upd_ne ne]; exact h1, h2.upd h⟩
  rw [upd_ne (ne_of_none q n)]
  exact A.same b u q
end
/-- one step of append; what else stands -/
theorem k_appZ {K : PySem.W.Frag} {H0 H : Hp} {l : Addr} {ds : List Dat} {Q : VK} (A : AccZ K H0 l H ds) {y : V} {d : Dat} (r : Rz K H y d) (n : ds.length < sizeLine)
    (h : ∀ H2, AccZ K H0 l H2 (ds ++ [d]) → (∀ {v : V} {e : Dat}, Rz K H v e → Rz K H2 v e) → (∀ b, b ≠ l → H2 b = H b) → (∀ {m : Addr} {es : List Dat}, m ≠ l → AccZ K H0 m H es → AccZ K H0 m H2 es) → Q .non H2) : rAppend (.ref l) [y] H Q := by
  obtain ⟨xs, h1, h2⟩ := A.at_
  refine ⟨l, xs, y, rfl, rfl, h1, by rw [h2.length]; exact n, h _ ⟨A.upd_same, A.new, xs ++ [y], upd_same, ?_⟩ (fun q => Rz.upd q h1) (fun b nb => upd_ne nb) fun ne B => B.other ne A.new h1⟩
  exact RzL.upd (h2.append (.cons r .nil)) h1
section
variable {K : PySem.W.Frag} {H : Hp} {Q : VK} {x y : V} {d e : Dat} {ds : List Dat}
open Classical in
theorem k_notInD (hd : Rep K H x d) (he : Rep K H y (.list ds)) (ka : ∀ e ∈ ds, kqdOk 8 e = true) (kd : kqdOk 8 d = true) (h1 : d ∉ ds → Q (.bl true) H) (h2 : d ∈ ds → Q (.bl false) H) : rInD K true x y H Q := by
  refine ⟨d, ds, hd, he, ka, kd, ?_⟩
  by_cases z : d ∈ ds
  · have q := h2 z
    simpa [z] using q
  · have q := h1 z
    simpa [z] using q
end
end L2

namespace L2
open PySem PySem.Spec PyProof.Rows
def hiN (n : Nat) : Option Int → Nat
  | none => n
  | some j => min j.toNat n
def hiL (l : List Nat) : Option Int → List Nat
  | none => l
  | some j => l.take j.toNat
theorem hiN_le (n : Nat) (hi : Option Int) : hiN n hi ≤ n := by
  cases hi with
  | none => exact Nat.le_refl _
  | some j => exact Nat.min_le_right _ _
/-- z[lo:hi], bounds from 0 on -/
def scut (z : Str) (lo hi : Option Int) : Str := ⟨((hiL z.cps.toList hi).drop (lo.getD 0).toNat).toArray⟩
def NN : Option Int → Prop
  | none => True
  | some i => 0 ≤ i
theorem sidx {lo hi : Option Int} (n : Nat) (hl : NN lo) (hh : NN hi) : Builtin.Str.strSliceIndices lo hi 1 n = (List.range (hiN n hi - min (lo.getD 0).toNat n)).map (fun k => min (lo.getD 0).toNat n + k) := by
  have core : ∀ (a b : Nat), a ≤ n → b ≤ n → sliceRange (a : Int) (b : Int) 1 = (List.range (b - a)).map (fun k => a + k) := by
    intro a b ha hb
    simp only [sliceRange, show ((1 : Int) > 0) = True from by simp, if_true]
    by_cases hlt : (a : Int) < b
    · have e3 : (((b : Int) - a + 1 - 1) / 1).toNat = b - a := by rw [Int.ediv_one]; omega
      simp only [hlt, if_true, e3]
      refine List.map_congr_left fun k _ => ?_
      omega
    · have : b - a = 0 := by omega
      simp [hlt, this]
  have clip : ∀ i : Int, 0 ≤ i → max (0 : Int) (min (if i < 0 then i + n else i) n) = ((min i.toNat n : Nat) : Int) := by
    intro i hi
    rw [if_neg (by omega)]
    omega
  cases lo with
  | none =>
    cases hi with
    | none =>
      have := core 0 n (by omega) (by omega)
      simpa [Builtin.Str.strSliceIndices, hiN] using this
    | some j =>
      have := core 0 (min j.toNat n) (by omega) (by omega)
      simp only [Builtin.Str.strSliceIndices, show ((1 : Int) > 0) = True from by simp, if_true]
      rw [clip j hh]
      simpa [hiN] using this
  | some i =>
    cases hi with
    | none =>
      have := core (min i.toNat n) n (by omega) (by omega)
      simp only [Builtin.Str.strSliceIndices, show ((1 : Int) > 0) = True from by simp, if_true]
      rw [clip i hl]
      simpa [hiN] using this
    | some j =>
      have := core (min i.toNat n) (min j.toNat n) (by omega) (by omega)
      simp only [Builtin.Str.strSliceIndices, show ((1 : Int) > 0) = True from by simp, if_true]
      rw [clip i hl, clip j hh]
      simpa [hiN] using this
theorem scut_txt (z : Str) {lo hi : Option Int} (hl : NN lo) (hh : NN hi) : Txt.slice z lo hi = scut z lo hi := by
  have len : z.cps.toList.length = z.length := by simp [Str.length]
  have e := sidx z.length hl hh
  have p := StrLaws.picks z.cps.toList (hiN z.length hi - min (lo.getD 0).toNat z.length) (min (lo.getD 0).toNat z.length) (by have := hiN_le z.length hi; rw [len]; omega)
  have q : (z.cps.toList.drop (min (lo.getD 0).toNat z.length)).take (hiN z.length hi - min (lo.getD 0).toNat z.length) = (hiL z.cps.toList hi).drop (lo.getD 0).toNat := by
    generalize (lo.getD 0).toNat = a
    cases hi with
    | none =>
      show List.take (z.length - min a z.length) (List.drop (min a z.length) z.cps.toList) = List.drop a z.cps.toList
      by_cases ha : a ≤ z.length
      · rw [Nat.min_eq_left ha, List.take_of_length_le (by rw [List.length_drop, len]; exact Nat.le_refl _)]
      · rw [Nat.min_eq_right (by omega), List.drop_of_length_le (by rw [len]; exact Nat.le_refl _), List.drop_of_length_le (by rw [len]; omega)]
        simp
    | some j =>
      show List.take (min j.toNat z.length - min a z.length) (List.drop (min a z.length) z.cps.toList) = List.drop a (z.cps.toList.take j.toNat)
      rw [List.drop_take]
      generalize j.toNat = b
      by_cases ha : a ≤ z.length
      · rw [Nat.min_eq_left ha]
        by_cases hb : b ≤ z.length
        · rw [Nat.min_eq_left hb]
        · rw [Nat.min_eq_right (by omega), List.take_of_length_le (by rw [List.length_drop, len]; exact Nat.le_refl _), List.take_of_length_le (by rw [List.length_drop, len]; omega)]
      · rw [Nat.min_eq_right (by omega : z.length ≤ a), List.drop_of_length_le (by rw [len]; exact Nat.le_refl _), List.drop_of_length_le (by rw [len]; omega)]
        simp
  have r : (Builtin.Str.strSliceIndices lo hi 1 z.length).filterMap (z.cps[·]?) = (hiL z.cps.toList hi).drop (lo.getD 0).toNat := by
    rw [← q, ← p, e]
    simp
  unfold Txt.slice scut
  split
  · rename_i c
    have c' : (Builtin.Str.strSliceIndices lo hi 1 z.length).length = z.length := by simpa using c
    rw [e, List.length_map, List.length_range] at c'
    have w : (z.cps.toList.drop (min (lo.getD 0).toNat z.length)).take (hiN z.length hi - min (lo.getD 0).toNat z.length) = z.cps.toList := by
      have b := hiN_le z.length hi
      by_cases h0 : z.length = 0
      · have : z.cps.toList = [] := List.length_eq_zero_iff.mp (by rw [len]; exact h0)
        rw [this]; simp
      · have a0 : min (lo.getD 0).toNat z.length = 0 := by omega
        rw [a0, List.drop_zero, List.take_of_length_le (by rw [len]; omega)]
    rw [← q, w]
  · rw [r]
def rSlS : V → Option Int → Option Int → Hp → VK → Prop := fun x lo hi H Q => ∃ z, x = .str z ∧ z.length ≤ sizeLine ∧ NN lo ∧ NN hi ∧ Q (.str (scut z lo hi)) H
section
variable {X : Cx}
theorem sl_str : SlR X rSlS := by
  intro pins s σ H x v vl vu lo hi sl Q I rx hs pl pu h
  obtain ⟨z, rfl, hz, hl, hh, q⟩ := h
  obtain ⟨t, rfl⟩ := rx
  refine ⟨"str", _, F.slot_str_getitem.lookup, typeIs_str _ _ _, ?_⟩
  have fin : ∀ (l u : Option (Int × Tok)), l.map (·.1) = lo → u.map (·.1) = hi → (sliceMade z t l u none).post (EP X pins σ Q) s := by
    intro l u el eu
    have e : sliceMade z t l u none = if ((1 : Int) == 1 && (Builtin.Str.strSliceIndices lo hi 1 z.length).length == z.length) = true then Made.val (.str z t) else .str ⟨((Builtin.Str.strSliceIndices lo hi 1 z.length).filterMap (z.cps[·]?)).toArray⟩ := by
      unfold sliceMade slicePicked
      rw [el, eu]
      rfl
    rw [e]
    have lt := Txt.slice_le z lo hi
    have eq := scut_txt z hl hh
    unfold Txt.slice at lt eq
    refine post_val_or_str ⟨Nat.le_trans lt hz, fun t' k => ⟨.str (scut z lo hi), H, I.tok k, ⟨t', ?_⟩, q⟩⟩
    rw [eq]
  cases pl with
  | none =>
    cases pu with
    | none => exact wpAny_getItem_str_slice (l := none) (u := none) (st := none) hs rfl (fin none none rfl rfl)
    | int j tj => exact wpAny_getItem_str_slice (l := none) (u := some (j, tj)) (st := none) hs rfl (fin none (some (j, tj)) rfl rfl)
  | int i ti =>
    cases pu with
    | none => exact wpAny_getItem_str_slice (l := some (i, ti)) (u := none) (st := none) hs rfl (fin (some (i, ti)) none rfl rfl)
    | int j tj => exact wpAny_getItem_str_slice (l := some (i, ti)) (u := some (j, tj)) (st := none) hs rfl (fin (some (i, ti)) (some (j, tj)) rfl rfl)
end
end L2

namespace L2
open PySem PySem.Spec PyProof.Rows
/-- the dict's own entries -/
def RawD (h : Heap) (d : Addr) (es : Array DictEntry) (ep : Nat) : Prop := ∃ o, h.get? d = some o ∧ o.ExactDict ∧ o.data = .dict es ep
section
variable {prog : Program} {w : World} {A : Around} {E : Value → Shared → Prop} {s : Shared} {d it : Addr} {es : Array DictEntry} {ep i : Nat}
theorem RawD.ty (m : RawD s.heap d es ep) : s.TypeIs (.ref d) "dict" := by
  obtain ⟨o, a, b, _⟩ := m
  exact ⟨o, a, b.1⟩
theorem RawD.at {h h' : Heap} (m : RawD h d es ep) (k : ∀ o, h.get? d = some o → h'.get? d = some o) : RawD h' d es ep := by
  obtain ⟨o, a, b⟩ := m
  exact ⟨o, k o a, b⟩
end
end L2

namespace L2
open PySem PySem.Spec PyProof.Rows
section
variable {X : Cx} {pins : List (Addr × Obj)} {σ : St} {H : Hp} {s : Shared} {h' : Heap}
/-- several untracked records of ours have turned -/
theorem Inv.turnedL {t' : Nat} {fp : List Addr} (I : Inv X pins σ H s) (k : ∀ b o, b ∉ fp → s.heap.get? b = some o → h'.get? b = some o) (hf : ∀ b ∈ fp, FpOk X pins H b) : Inv X pins σ H { s with heap := h', toks := t' } := by
  have nit : ∀ b u, H b = some u → b ∉ fp := fun b u e z => by
    have q := (hf b z).1
    rw [q] at e
    cases e
  refine I.step (g' := s.gens) (d' := s.drawn) (ch := fp) (fun b hb => ⟨(hf b hb).2.2.2.1, (hf b hb).2.1, (hf b hb).2.2.2.2.1, (hf b hb).2.2.2.2.2⟩) (fun b o _ _ hc e _ => k b o hc e) (fun b o _ _ hc e _ => ⟨o.slots, k b o hc e⟩) (fun _ _ _ _ n => n)
    (fun b o hc e => ⟨o, k b o hc e⟩) (fun _ _ e => e) (fun _ _ _ e => e) (fun b ps e => ⟨#[], by rw [e, Array.append_empty]⟩) (fun m hm => ?_) (fun b u e => ?_) I.bare
  · obtain ⟨o, es, ep, ho, r⟩ := hm
    exact ⟨o, es, ep, k _ o (fun z => (hf _ z).2.1 rfl) ho, r⟩
  · refine (I.hok b u e).stay (fun c v hc q => k c v ?_ q) (fun _ q => q) fun _ _ q => q
    rcases hc with z | z
    · rw [z]; exact nit b u e
    · exact nit c _ z
end
/-- an iterator over the items xs of the thing at l -/
structure Drw (prog : Program) (w : World) (it l : Addr) (xs : Array Value) (St : Nat → Heap → Prop) : Prop where
  keep : ∀ k h h', St k h → (∀ b, b = it ∨ b = l → ∀ o, h.get? b = some o → h'.get? b = some o) → St k h'
  there : ∀ k h, St k h → it < h.objs.size ∧ ∃ o, h.get? it = some o ∧ ∀ v, o.data ≠ .cell v
  item : ∀ (A : Around) (E : Value → Shared → Prop) (s : Shared) (k : Nat) (x : Value) (Q : Value → Shared → Prop), St k s.heap → xs[k]? = some x → (∀ h', St (k + 1) h' → Heap.SameBut it s.heap h' → Q x { s with heap := h' }) → wpAny (model prog w) A (Builtin.SmallTypes.nextOf (.ref it)) Q E s
  fin : ∀ (A : Around) (E : Value → Shared → Prop) (s : Shared) (k : Nat) (Q : Value → Shared → Prop), A.handled = none → St k s.heap → xs[k]? = none →
    (∀ h' e, Heap.ExtBut it s.heap h' → (∃ o, h'.get? e = some o ∧ o.cls = .type "StopIteration") → E (.ref e) { s with heap := h' }) → wpAny (model prog w) A (Builtin.SmallTypes.nextOf (.ref it)) Q E s
section
variable {prog : Program} {w : World} {A : Around} {E : Value → Shared → Prop} {s : Shared}
theorem drw_list (it l : Addr) (ne : l ≠ it) (xs : Array Value) : Drw prog w it l xs (fun k h => h.IsListIter it l k ∧ h.IsList l xs) where
  keep := fun k h h' st hk => ⟨st.1.at fun o e => hk it (.inl rfl) o e, st.2.at fun o e => hk l (.inr rfl) o e⟩
  there := fun k h ⟨⟨o, e, _, d⟩, _⟩ => ⟨Heap.lt_size e, o, e, fun v z => by rw [d] at z; cases z⟩
  item := fun A E s k x Q st hx q => wpAny_nextOf_list_item st.1 st.2 hx fun h' a b => q h' ⟨a, st.2.at fun o e => b.extBut l o ne e⟩ b
  fin := fun A E s k Q hh st hx q => wpAny_nextOf_list_end hh st.1 st.2 hx q
theorem drw_tup (it l : Addr) (ne : l ≠ it) (xs : Array Value) : Drw prog w it l xs (fun k h => h.IsTupleIter it l k ∧ h.IsTuple l xs) where
  keep := fun k h h' st hk => ⟨st.1.at fun o e => hk it (.inl rfl) o e, by obtain ⟨o, e, r⟩ := st.2; exact ⟨o, hk l (.inr rfl) o e, r⟩⟩
  there := fun k h ⟨⟨o, e, _, d⟩, _⟩ => ⟨Heap.lt_size e, o, e, fun v z => by rw [d] at z; cases z⟩
  item := fun A E s k x Q st hx q => by
    obtain ⟨o, ho, oc, od⟩ := id st.1
    obtain ⟨ol, hl, _, nl, dl⟩ := id st.2
    unfold Builtin.SmallTypes.nextOf
    refine wpAny_bind (wpAny_callSpecial?_slot (name := Str.ofString "__next__") st.1.typeIs F.slot_tuple_iterator_next (wpAny_call_entry F.slot_tuple_iterator_next st.1.typeIs F.entry_tuple_iterator_next ?_ (F.args_tuple_iterator_next_1 _)))
    show wpAny _ _ (field (.ref it) 0 >>= _) _ _ s; refine wpAny_bind (wpAny_field ho od (x := .ref l) rfl ?_); show wpAny _ _ (if (Value.ref l == Value.none) = true then _ else _) _ _ s
    rw [if_neg (show ¬ ((Value.ref l == Value.none) = true) from Bool.false_ne_true)]; show wpAny _ _ (field (.ref it) 1 >>= _) _ _ s; refine wpAny_bind (wpAny_field ho od (x := .int k 0) rfl ?_)
    show wpAny _ _ (seqItems? (.ref l) >>= _) _ _ s; refine wpAny_bind (wpAny_seqItems hl dl ?_); simp only [Int.toNat_natCast, hx]
    have k2 : (s.heap.update it (Obj.mapFields (·.setIfInBounds 1 (rawInt ((k : Int) + 1))))).IsTupleIter it l (k + 1) := ⟨_, Heap.get?_update_self _ ho (Obj.isFreed_of_fields (Obj.data_mapFields od _)), (Obj.cls_mapFields ..).trans oc, by rw [Obj.data_mapFields od]; simp [rawInt]⟩
    exact wpAny_bind (wpAny_setField ho od (by simp) (wpAny_pure ⟨x, rfl, wpAny_pure (q _ ⟨k2, ⟨ol, (Heap.SameBut.update ..).extBut l ol ne hl, by assumption, nl, dl⟩⟩ (Heap.SameBut.update ..))⟩))
  fin := fun A E s k Q hh st hx q => by
    obtain ⟨o, ho, oc, od⟩ := id st.1
    obtain ⟨ol, hl, _, nl, dl⟩ := id st.2
    unfold Builtin.SmallTypes.nextOf
    refine wpAny_bind (wpAny_callSpecial?_slot (name := Str.ofString "__next__") st.1.typeIs F.slot_tuple_iterator_next (wpAny_call_entry F.slot_tuple_iterator_next st.1.typeIs F.entry_tuple_iterator_next ?_ (F.args_tuple_iterator_next_1 _)))
    show wpAny _ _ (field (.ref it) 0 >>= _) _ _ s; refine wpAny_bind (wpAny_field ho od (x := .ref l) rfl ?_); show wpAny _ _ (if (Value.ref l == Value.none) = true then _ else _) _ _ s
    rw [if_neg (show ¬ ((Value.ref l == Value.none) = true) from Bool.false_ne_true)]; show wpAny _ _ (field (.ref it) 1 >>= _) _ _ s; refine wpAny_bind (wpAny_field ho od (x := .int k 0) rfl ?_)
    show wpAny _ _ (seqItems? (.ref l) >>= _) _ _ s; refine wpAny_bind (wpAny_seqItems hl dl ?_); simp only [Int.toNat_natCast, hx]
    refine wpAny_bind (wpAny_rule (wpAny_bind (wpAny_setField ho od (by simp) ?_))); show wpAny _ _ (newExc (.type "StopIteration") [] >>= _) _ _ _; refine wpAny_bind ?_; simp only [newExc, newTuple]
    refine wpAny_bind (wpAny_newObj_type ?_ (by size_fits)); refine wpAny_bind (m := firstArgMember _ _) (wpAny_of_eq (a := Value.none) (by simp only [firstArgMember]; rfl) ?_); refine wpAny_newObj_type ?_ (by size_fits); simp only [raiseNew]
    refine wpAny_bind (wpAny_handled ?_); rw [show A.in1.handled = none from hh]
    exact wpAny_bind (wpAny_pure (wpAny_throw (q _ _ (((Heap.SameBut.update ..).extBut.push _).push _) ⟨_, Heap.get?_push_size _ rfl, rfl⟩)))
end
end L2

namespace L2
open PySem PySem.Spec PyProof.Rows
/-- how the objects of a zip lie -/
structure ZAp (z TI TO i1 i2 l1 l2 : Addr) : Prop where
  a : i1 < i2
  b : i2 < TI
  c : TI < TO
  d : TO < z
  e : l1 < i1
  f : l2 < i1
theorem zap_nat {z TI TO i1 i2 l1 l2 : Nat} (a : i1 < i2) (b : i2 < TI) (c : TI < TO) (d : TO < z) (e : l1 < i1) (f : l2 < i1) :
    i1 ≠ z ∧ i2 ≠ z ∧ TO ≠ i1 ∧ TO ≠ i2 ∧ TO ≠ z ∧ TI ≠ z ∧ TI ≠ TO ∧ TI ≠ i1 ∧ TI ≠ i2 ∧ i1 ≠ i2 ∧ l1 ≠ z ∧ l1 ≠ TO ∧ l1 ≠ i2 ∧ l2 ≠ z ∧ l2 ≠ TO ∧ l2 ≠ i1 := by omega
section
variable {prog : Program} {w : World} {A : Around} {E : Value → Shared → Prop} {s : Shared} {z TI TO i1 i2 l1 l2 : Addr} {xs ys : Array Value} {S1 S2 : Nat → Heap → Prop} {k : Nat}
/-- the zip stands at its k-th turn -/
structure ZAt (z TI TO i1 i2 : Addr) (S1 S2 : Nat → Heap → Prop) (k : Nat) (h : Heap) : Prop where
  z : IsZip h z TI TO .none
  i : IsPair h TI (.ref i1) (.ref i2)
  o : ∃ a b, IsPair h TO a b
  s1 : S1 k h
  s2 : S2 k h
theorem up_pair {T : Addr} {a b x : Value} {j : Nat} {Q : Unit → Shared → Prop} (hT : IsPair s.heap T a b) (q : ∀ h', h'.get? T = some { cls := .type "tuple", data := .seq ((#[a, b] : Array Value).setIfInBounds j x) } → Heap.SameBut T s.heap h' → Q () { s with heap := h' }) :
    wpAny (model prog w) A (updateSeq T (·.setIfInBounds j x)) Q E s := wpAny_updateSeq_pair hT q
theorem z_next (D : ZAp z TI TO i1 i2 l1 l2) (W1 : Drw prog w i1 l1 xs S1) (W2 : Drw prog w i2 l2 ys S2) (st : ZAt z TI TO i1 i2 S1 S2 k s.heap) {Q : Option Value → Shared → Prop} :
    (∀ x y, xs[k]? = some x → ys[k]? = some y → (∀ h', IsZip h' z TI TO (rawInt s.heap.objs.size) → IsPair h' TI (.ref i1) (.ref i2) → (∃ a b, IsPair h' TO a b) → S1 (k + 1) h' → S2 (k + 1) h' → IsPair h' s.heap.objs.size x y →
      (∀ c o, c ∉ [z, TI, TO, i1, i2] → s.heap.get? c = some o → h'.get? c = some o) → Q (some (.ref s.heap.objs.size)) { s with heap := h' }) → wpAny (model prog w) A (pyNext (.ref z)) Q E s) ∧
    (A.handled = none → (xs[k]? = none ∨ ys[k]? = none) → (∀ h', (∀ c o, c ∉ [z, TI, TO, i1, i2] → s.heap.get? c = some o → h'.get? c = some o) → Q none { s with heap := h' }) → wpAny (model prog w) A (pyNext (.ref z)) Q E s) := by
  obtain ⟨d1, d2, d3, d4, d5, d6⟩ := D
  obtain ⟨hz, hI, ⟨a, b, hO⟩, t1, t2⟩ := st
  have ty : s.TypeIs (.ref z) "zip" := ⟨_, hz, rfl⟩
  obtain ⟨n1, n2, nO1, nO2, nOz, nIz, nIO, nI1, nI2, n12, q1, q2, q3, q4, q5, q6⟩ := zap_nat d1 d2 d3 d4 d5 d6
  have m1 : ∀ {c h h' : _}, c ∈ [z, TO, i2] → Heap.ExtBut c h h' → ∀ k, S1 k h → S1 k h' := fun {c h h'} hc x k t => W1.keep k h h' t fun b hb o e => x b o (by
    rcases hb with rfl | rfl <;> (simp only [List.mem_cons, List.not_mem_nil, or_false] at hc; rcases hc with rfl | rfl | rfl <;> first | assumption | (apply Ne.symm; assumption))) e
  have m2 : ∀ {c h h' : _}, c ∈ [z, TO, i1] → Heap.ExtBut c h h' → ∀ k, S2 k h → S2 k h' := fun {c h h'} hc x k t => W2.keep k h h' t fun b hb o e => x b o (by
    rcases hb with rfl | rfl <;> (simp only [List.mem_cons, List.not_mem_nil, or_false] at hc; rcases hc with rfl | rfl | rfl <;> first | assumption | (apply Ne.symm; assumption))) e
  constructor
  · intro x y hx hy q
    unfold pyNext; refine wpAny_bind (wpAny_attempt (wpAny_callSpecial?_slot (name := Str.ofString "__next__") ty F.slot_zip_next (wpAny_call_entry F.slot_zip_next ty F.entry_zip_next ?_ (F.args_zip_next_1 _))))
    show wpAny _ _ (field (.ref z) 2 >>= _) _ _ _; refine wpAny_bind (wpAny_field hz rfl (x := .bool false) rfl ?_); show wpAny _ _ (field (.ref z) 3 >>= _) _ _ _; refine wpAny_bind (wpAny_field hz rfl (x := .ref TI) rfl (wpAny_bind (wpAny_seqItems hI rfl ?_)))
    show wpAny _ _ (Builtin.SmallTypes.ownedTupleIsFree (.ref z) >>= _) _ _ _; refine wpAny_bind ?_; unfold Builtin.SmallTypes.ownedTupleIsFree; refine wpAny_bind (wpAny_field hz rfl (x := .none) rfl (wpAny_pure ?_)); simp only [if_true]
    refine wpAny_bind (wpAny_rule (wpAny_bind (wpAny_field hz rfl (x := .ref TO) rfl (wpAny_bind (wpAny_setField_rec hz (by simp) fun h1 hz1 hs1 => ?_))))); replace hz1 : IsZip h1 z TI TO .ellipsis := hz1
    refine wpAny_bind ?_; simp only [List.zipIdx_cons, List.zipIdx_nil, List.forIn_cons, List.forIn_nil]; refine wpAny_bind (wpAny_bind (wpAny_onRaise ?_)); show wpAny _ _ (Builtin.SmallTypes.nextOf (.ref i1) >>= _) _ _ _
    refine wpAny_bind (W1.item _ _ _ k x _ (m1 (by simp) hs1.extBut k t1) hx fun h2 t12 hs2 => wpAny_pure ?_)
    have hO2 : IsPair h2 TO a b := hs2.extBut _ _ nO1 (hs1.extBut _ _ nOz hO)
    refine wpAny_bind (wpAny_seqItems hO2 rfl (wpAny_bind (up_pair hO2 fun h3 hO3 hs3 => ?_))); replace hO3 : IsPair h3 TO x b := hO3; refine wpAny_bind (wpAny_letGo (wpAny_pure (wpAny_bind (wpAny_bind (wpAny_onRaise ?_)))))
    show wpAny _ _ (Builtin.SmallTypes.nextOf (.ref i2) >>= _) _ _ _
    refine wpAny_bind (W2.item _ _ _ k y _ (m2 (by simp) hs3.extBut k (m2 (by simp) hs2.extBut k (m2 (by simp) hs1.extBut k t2))) hy fun h4 t24 hs4 => wpAny_pure ?_)
    have hO4 : IsPair h4 TO x b := hs4.extBut _ _ nO2 hO3
    refine wpAny_bind (wpAny_seqItems hO4 rfl (wpAny_bind (up_pair hO4 fun h5 hO5 hs5 => ?_))); replace hO5 : IsPair h5 TO x y := hO5; refine wpAny_bind (wpAny_letGo (wpAny_pure (wpAny_pure (wpAny_bind (wpAny_seqItems hO5 rfl (wpAny_bind (wpAny_newTuple ?_)))))))
    have sz : h5.objs.size = s.heap.objs.size := by rw [hs5.1, hs4.1, hs3.1, hs2.1, hs1.1]
    have hz5 : IsZip h5 z TI TO .ellipsis := hs5.extBut _ _ nOz.symm (hs4.extBut _ _ n2.symm (hs3.extBut _ _ nOz.symm (hs2.extBut _ _ n1.symm hz1)))
    have all5 : ∀ c o, c ∉ [z, TI, TO, i1, i2] → s.heap.get? c = some o → h5.get? c = some o := fun c o hc e => by
      simp only [List.mem_cons, List.not_mem_nil, or_false, not_or] at hc
      exact hs5.extBut _ _ hc.2.2.1 (hs4.extBut _ _ hc.2.2.2.2 (hs3.extBut _ _ hc.2.2.1 (hs2.extBut _ _ hc.2.2.2.1 (hs1.extBut _ _ hc.1 e))))
    have hI5 : IsPair h5 TI (.ref i1) (.ref i2) := hs5.extBut _ _ nIO (hs4.extBut _ _ nI2 (hs3.extBut _ _ nIO (hs2.extBut _ _ nI1 (hs1.extBut _ _ nIz hI))))
    have zlt : z < h5.objs.size := Heap.lt_size hz5
    show wpAny _ _ (Builtin.SmallTypes.ownedTupleHandOut (.ref z) (.ref h5.objs.size) >>= _) _ _ _; refine wpAny_bind ?_; unfold Builtin.SmallTypes.ownedTupleHandOut
    have hz6 : IsZip (h5.push { cls := .type "tuple", data := .seq #[x, y] }) z TI TO .ellipsis := Heap.get?_push_of_some _ hz5
    refine wpAny_bind (wpAny_setField_rec hz6 (by simp) fun h7 hz7 hs7 => ?_); replace hz7 : IsZip h7 z TI TO (rawInt h5.objs.size) := hz7; refine wpAny_setField_rec hz7 (by simp) fun h8 hz8 hs8 => ?_; replace hz8 : IsZip h8 z TI TO (rawInt h5.objs.size) := hz8
    have up : ∀ c o, c ≠ z → h5.get? c = some o → h8.get? c = some o := fun c o c1 e => hs8.extBut _ _ c1 (hs7.extBut _ _ c1 (Heap.get?_push_of_some _ e))
    have hT : IsPair h8 h5.objs.size x y := hs8.extBut _ _ (Nat.ne_of_gt zlt) (hs7.extBut _ _ (Nat.ne_of_gt zlt) (Heap.get?_push_size _ rfl))
    have t1' : S1 (k + 1) h8 := W1.keep _ _ _ (m1 (by simp) hs5.extBut _ (m1 (by simp) hs4.extBut _ (m1 (by simp) hs3.extBut _ t12))) fun c hc o e => up c o (by rcases hc with rfl | rfl <;> first | assumption | (apply Ne.symm; assumption)) e
    have t2' : S2 (k + 1) h8 := W2.keep _ _ _ (m2 (by simp) hs5.extBut _ t24) fun c hc o e => up c o (by rcases hc with rfl | rfl <;> first | assumption | (apply Ne.symm; assumption)) e
    rw [sz] at hz8 hT
    refine wpAny_pure ⟨_, rfl, ?_⟩; show wpAny _ _ (pure (some (Value.ref h5.objs.size))) _ _ _; rw [sz]
    exact wpAny_pure (q h8 hz8 (up _ _ nIz hI5) ⟨_, _, up _ _ nOz hO5⟩ t1' t2' hT fun c o hc e => up c o (fun x => hc (by simp [x])) (all5 c o hc e))
  · intro hh hend q
    have stop : ∀ (h9 : Heap) (e : Addr), (∀ c o, c ∉ [z, TI, TO, i1, i2] → s.heap.get? c = some o → h9.get? c = some o) → (∃ o, h9.get? e = some o ∧ o.cls = .type "StopIteration") →
        wpAny (model prog w) A (isInstance (.ref e) (.type "StopIteration") >>= fun b => if b = true then pure none else throw (.ref e)) Q E { s with heap := h9 } := fun h9 e kp ⟨o, ho, oc⟩ =>
      wpAny_bind (wpAny_isInstance (T := "StopIteration") (b := true) ⟨o, ho, oc⟩ isSubtype_stop (wpAny_pure (q _ kp)))
    unfold pyNext; refine wpAny_bind (wpAny_attempt (wpAny_callSpecial?_slot (name := Str.ofString "__next__") ty F.slot_zip_next (wpAny_call_entry F.slot_zip_next ty F.entry_zip_next ?_ (F.args_zip_next_1 _))))
    show wpAny _ _ (field (.ref z) 2 >>= _) _ _ _; refine wpAny_bind (wpAny_field hz rfl (x := .bool false) rfl ?_); show wpAny _ _ (field (.ref z) 3 >>= _) _ _ _; refine wpAny_bind (wpAny_field hz rfl (x := .ref TI) rfl (wpAny_bind (wpAny_seqItems hI rfl ?_)))
    show wpAny _ _ (Builtin.SmallTypes.ownedTupleIsFree (.ref z) >>= _) _ _ _; refine wpAny_bind ?_; unfold Builtin.SmallTypes.ownedTupleIsFree; refine wpAny_bind (wpAny_field hz rfl (x := .none) rfl (wpAny_pure ?_)); simp only [if_true]
    refine wpAny_bind (wpAny_rule (wpAny_bind (wpAny_field hz rfl (x := .ref TO) rfl (wpAny_bind (wpAny_setField_rec hz (by simp) fun h1 hz1 hs1 => ?_))))); replace hz1 : IsZip h1 z TI TO .ellipsis := hz1
    refine wpAny_bind ?_; simp only [List.zipIdx_cons, List.zipIdx_nil, List.forIn_cons, List.forIn_nil]; refine wpAny_bind (wpAny_bind (wpAny_onRaise ?_)); show wpAny _ _ (Builtin.SmallTypes.nextOf (.ref i1) >>= _) _ _ _
    cases hx : xs[k]? with
    | none =>
      refine wpAny_bind (W1.fin _ _ _ k _ hh (m1 (by simp) hs1.extBut k t1) hx fun h2 e hs2 ⟨oe, hoe, hce⟩ => ?_)
      have hz2 : IsZip h2 z TI TO .ellipsis := hs2 _ _ n1.symm hz1
      have ez : e ≠ z := fun x => by subst x; rw [hz2] at hoe; cases hoe; simp at hce
      refine wpAny_setField_rec hz2 (by simp) fun h3 _ hs3 => stop h3 e (fun c o hc u => ?_) ⟨oe, hs3.extBut _ _ ez hoe, hce⟩
      simp only [List.mem_cons, List.not_mem_nil, or_false, not_or] at hc
      exact hs3.extBut _ _ hc.1 (hs2 _ _ hc.2.2.2.1 (hs1.extBut _ _ hc.1 u))
    | some x =>
      have hy : ys[k]? = none := by rcases hend with u | u; rw [hx] at u; cases u; exact u
      refine wpAny_bind (W1.item _ _ _ k x _ (m1 (by simp) hs1.extBut k t1) hx fun h2 t12 hs2 => wpAny_pure ?_)
      have hO2 : IsPair h2 TO a b := hs2.extBut _ _ nO1 (hs1.extBut _ _ nOz hO)
      refine wpAny_bind (wpAny_seqItems hO2 rfl (wpAny_bind (up_pair hO2 fun h3 hO3 hs3 => ?_))); refine wpAny_bind (wpAny_letGo (wpAny_pure (wpAny_bind (wpAny_bind (wpAny_onRaise ?_))))); show wpAny _ _ (Builtin.SmallTypes.nextOf (.ref i2) >>= _) _ _ _
      refine wpAny_bind (W2.fin _ _ _ k _ hh (m2 (by simp) hs3.extBut k (m2 (by simp) hs2.extBut k (m2 (by simp) hs1.extBut k t2))) hy fun h4 e hs4 ⟨oe, hoe, hce⟩ => ?_)
      have hz4 : IsZip h4 z TI TO .ellipsis := hs4 _ _ n2.symm (hs3.extBut _ _ nOz.symm (hs2.extBut _ _ n1.symm hz1))
      have ez : e ≠ z := fun x => by subst x; rw [hz4] at hoe; cases hoe; simp at hce
      refine wpAny_setField_rec hz4 (by simp) fun h5 _ hs5 => stop h5 e (fun c o hc u => ?_) ⟨oe, hs5.extBut _ _ ez hoe, hce⟩
      simp only [List.mem_cons, List.not_mem_nil, or_false, not_or] at hc
      exact hs5.extBut _ _ hc.1 (hs4 _ _ hc.2.2.2.2 (hs3.extBut _ _ hc.2.2.1 (hs2.extBut _ _ hc.2.2.2.1 (hs1.extBut _ _ hc.1 u))))
end
end L2

namespace L2
open PySem PySem.Spec PyProof.Rows
/-- list or tuple -/
inductive Kn | L | T
def Kn.sq (k : Kn) (K : PySem.W.Frag) (H : Hp) (a : Addr) (xs : List V) : Prop := match k with
  | .L => SqL K H a xs
  | .T => SqT K H a xs
def Kn.it (k : Kn) (h : Heap) (i l : Addr) (j : Nat) : Prop := match k with
  | .L => h.IsListIter i l j
  | .T => h.IsTupleIter i l j
def Kn.seq (k : Kn) (h : Heap) (l : Addr) (xs : Array Value) : Prop := match k with
  | .L => h.IsList l xs
  | .T => h.IsTuple l xs
def Kn.obj (k : Kn) (l : Addr) : Obj := match k with
  | .L => { cls := .type "list_iterator", data := .fields #[.ref l, .int 0 0] }
  | .T => { cls := .type "tuple_iterator", data := .fields #[.ref l, .int 0 0] }
section
variable {prog : Program} {w : World} {A : Around} {E : Value → Shared → Prop} {s : Shared}
theorem Kn.drw (k : Kn) (it l : Addr) (ne : l ≠ it) (xs : Array Value) : Drw prog w it l xs (fun j h => k.it h it l j ∧ k.seq h l xs) := by
  cases k
  · exact drw_list it l ne xs
  · exact drw_tup it l ne xs
theorem Kn.itAt (k : Kn) {h h' : Heap} {it l : Addr} {j : Nat} (t : k.it h it l j) (e : ∀ o, h.get? it = some o → h'.get? it = some o) : k.it h' it l j := by
  cases k
  · exact Heap.IsListIter.at t e
  · exact Heap.IsTupleIter.at t e
theorem Kn.itObj (k : Kn) {h : Heap} {it l : Addr} {j : Nat} (t : k.it h it l j) : ∃ o, h.get? it = some o ∧ ∀ v, o.data ≠ .cell v := by
  cases k <;> (obtain ⟨o, e, _, d⟩ := t; exact ⟨o, e, fun v z => by rw [d] at z; cases z⟩)
theorem Kn.seqAt (k : Kn) {h h' : Heap} {l : Addr} {xs : Array Value} (t : k.seq h l xs) (e : ∀ o, h.get? l = some o → h'.get? l = some o) : k.seq h' l xs := by
  cases k
  · exact Heap.IsList.at t e
  · obtain ⟨o, a, b⟩ := t
    exact ⟨o, e o a, b⟩
theorem Kn.lt (k : Kn) {h : Heap} {l : Addr} {xs : Array Value} (t : k.seq h l xs) : l < h.objs.size := by
  cases k <;> (obtain ⟨o, a, _⟩ := t; exact Heap.lt_size a)
theorem Kn.inv {X : Cx} {pins : List (Addr × Obj)} {σ : St} {H : Hp} {s : Shared} (k : Kn) (I : Inv X pins σ H s) {a : Addr} {xs : List V} (q : k.sq X.K H a xs) : ∃ its : List Value, Vals xs its ∧ k.seq s.heap a its.toArray := by
  cases k
  · obtain ⟨its, r, p, _⟩ := I.list q
    exact ⟨its, r, p.isList⟩
  · obtain ⟨its, r, p, _⟩ := I.tuple q
    exact ⟨its, r, p⟩
theorem Kn.inj {X : Cx} {pins : List (Addr × Obj)} {σ : St} {H : Hp} {s : Shared} (k : Kn) (I : Inv X pins σ H s) {a : Addr} {xs ys : List V} (q : k.sq X.K H a xs) (r : k.sq X.K H a ys) : xs = ys := by
  cases k
  · exact I.list_inj q r
  · exact I.tuple_inj q r
theorem Kn.iter (k : Kn) {l : Addr} {xs : Array Value} {Q : Value → Shared → Prop} (t : k.seq s.heap l xs) (q : Q (.ref s.heap.objs.size) { s with heap := s.heap.push (k.obj l) }) : wpAny (model prog w) A (pyIter (.ref l)) Q E s := by
  cases k
  · exact wpAny_pyIter_list t q
  · exact wpAny_pyIter_tuple t q
theorem Kn.it0 (k : Kn) (h : Heap) (l : Addr) : k.it (h.push (k.obj l)) h.objs.size l 0 := by
  cases k <;> exact ⟨_, Heap.get?_push_size _ rfl, rfl, rfl⟩
/-- the heap behind zip(x, y) -/
def zh (h : Heap) (k1 k2 : Kn) (l1 l2 : Addr) : Heap := (((((h.push (k1.obj l1)).push (k2.obj l2)).push { cls := .type "tuple", data := .seq #[.ref h.objs.size, .ref (h.push (k1.obj l1)).objs.size] }).push { cls := .type "tuple", data := .seq #[.none, .none] }).push
  { cls := .type "zip", data := .fields #[.none, .bool false, .bool false, .ref ((h.push (k1.obj l1)).push (k2.obj l2)).objs.size, .ref (((h.push (k1.obj l1)).push (k2.obj l2)).push { cls := .type "tuple", data := .seq #[.ref h.objs.size, .ref (h.push (k1.obj l1)).objs.size] }).objs.size] })
theorem z_meets (k1 k2 : Kn) (l1 l2 : Addr) (xs ys : Array Value) : Meets (Builtin.«zip.__new__» ⟨[.type "zip", .ref l1, .ref l2], []⟩) (fun _ R s => k1.seq s.heap l1 xs ∧ k2.seq s.heap l2 ys ∧
    R (.ok (.ret (.ref ((((s.heap.push (k1.obj l1)).push (k2.obj l2)).push { cls := .type "tuple", data := .seq #[.ref s.heap.objs.size, .ref (s.heap.push (k1.obj l1)).objs.size] }).push { cls := .type "tuple", data := .seq #[.none, .none] }).objs.size))) { s with heap := zh s.heap k1 k2 l1 l2 }) :=
  .of_wp fun prog w A R s h => by
    obtain ⟨hp, g, d, tk, os⟩ := s
    obtain ⟨a1, a2, h⟩ := h
    have hsub := sub_zip
    have b2 : k2.seq (hp.push (k1.obj l1)) l2 ys := k2.seqAt a2 fun o e => Heap.get?_push_of_some _ e
    cases k1 with
    | L =>
      have c1 : Heap.IsList (Shared.heap ⟨hp, g, d, tk, os⟩) l1 xs := a1
      cases k2 with
      | L =>
        have c2 : Heap.IsList (Shared.heap ⟨hp.push { cls := .type "list_iterator", data := .fields #[.ref l1, .int 0 0] }, g, d, tk, os⟩) l2 ys := b2
        wp_walk using wpAny_pyIter_list c1, wpAny_pyIter_list c2
        exact ⟨_, rfl, h⟩
      | T =>
        have c2 : Heap.IsTuple (Shared.heap ⟨hp.push { cls := .type "list_iterator", data := .fields #[.ref l1, .int 0 0] }, g, d, tk, os⟩) l2 ys := b2
        wp_walk using wpAny_pyIter_list c1, wpAny_pyIter_tuple c2
        exact ⟨_, rfl, h⟩
    | T =>
      have c1 : Heap.IsTuple (Shared.heap ⟨hp, g, d, tk, os⟩) l1 xs := a1
      cases k2 with
      | L =>
        have c2 : Heap.IsList (Shared.heap ⟨hp.push { cls := .type "tuple_iterator", data := .fields #[.ref l1, .int 0 0] }, g, d, tk, os⟩) l2 ys := b2
        wp_walk using wpAny_pyIter_tuple c1, wpAny_pyIter_list c2
        exact ⟨_, rfl, h⟩
      | T =>
        have c2 : Heap.IsTuple (Shared.heap ⟨hp.push { cls := .type "tuple_iterator", data := .fields #[.ref l1, .int 0 0] }, g, d, tk, os⟩) l2 ys := b2
        wp_walk using wpAny_pyIter_tuple c1, wpAny_pyIter_tuple c2
        exact ⟨_, rfl, h⟩
theorem z_call {k1 k2 : Kn} {l1 l2 : Addr} {xs ys : Array Value} {Q : Value → Shared → Prop} (a1 : k1.seq s.heap l1 xs) (a2 : k2.seq s.heap l2 ys)
    (q : ∀ h' (z TI TO i1 i2 : Addr), ZAp z TI TO i1 i2 l1 l2 → s.heap.objs.size ≤ i1 → IsZip h' z TI TO .none → IsPair h' TI (.ref i1) (.ref i2) → (∃ a b, IsPair h' TO a b) → k1.it h' i1 l1 0 → k2.it h' i2 l2 0 → (∀ c o, s.heap.get? c = some o → h'.get? c = some o) → Q (.ref z) { s with heap := h' }) :
    wpAny (model prog w) A (call (.type "zip") [.ref l1, .ref l2]) Q E s := by
  refine callType_new F.called_zip (by decide) (F.typeCall_zip_2 _ _) (F.newCall_zip_2 _ _) (fun obj => F.args_object_init_3 obj _ _) F.entry_zip_new (z_meets k1 k2 l1 l2 xs ys) ⟨a1, a2, ?_⟩
  have lt1 := k1.lt a1
  have lt2 := k2.lt a2
  have g5 : (zh s.heap k1 k2 l1 l2).get? _ = some _ := Heap.get?_push_size ((((s.heap.push (k1.obj l1)).push (k2.obj l2)).push { cls := .type "tuple", data := .seq #[.ref s.heap.objs.size, .ref (s.heap.push (k1.obj l1)).objs.size] }).push { cls := .type "tuple", data := .seq #[.none, .none] }) (o := { cls := .type "zip", data := .fields #[.none, .bool false, .bool false, .ref ((s.heap.push (k1.obj l1)).push (k2.obj l2)).objs.size, .ref (((s.heap.push (k1.obj l1)).push (k2.obj l2)).push { cls := .type "tuple", data := .seq #[.ref s.heap.objs.size, .ref (s.heap.push (k1.obj l1)).objs.size] }).objs.size] }) rfl
  have g4 : (zh s.heap k1 k2 l1 l2).get? _ = some _ := Heap.get?_push_of_some _ (Heap.get?_push_size (((s.heap.push (k1.obj l1)).push (k2.obj l2)).push { cls := .type "tuple", data := .seq #[.ref s.heap.objs.size, .ref (s.heap.push (k1.obj l1)).objs.size] }) (o := { cls := .type "tuple", data := .seq #[.none, .none] }) rfl)
  have g3 : (zh s.heap k1 k2 l1 l2).get? _ = some _ := Heap.get?_push_of_some _ (Heap.get?_push_of_some _ (Heap.get?_push_size ((s.heap.push (k1.obj l1)).push (k2.obj l2)) (o := { cls := .type "tuple", data := .seq #[.ref s.heap.objs.size, .ref (s.heap.push (k1.obj l1)).objs.size] }) rfl))
  have g2 : k2.it (zh s.heap k1 k2 l1 l2) (s.heap.push (k1.obj l1)).objs.size l2 0 := k2.itAt (k2.it0 _ l2) fun o e => Heap.get?_push_of_some _ (Heap.get?_push_of_some _ (Heap.get?_push_of_some _ e))
  have g1 : k1.it (zh s.heap k1 k2 l1 l2) s.heap.objs.size l1 0 := k1.itAt (k1.it0 _ l1) fun o e => Heap.get?_push_of_some _ (Heap.get?_push_of_some _ (Heap.get?_push_of_some _ (Heap.get?_push_of_some _ e)))
  show _ ∧ _
  refine ⟨⟨_, g5, rfl⟩, q _ _ _ _ _ _ ⟨?_, ?_, ?_, ?_, lt1, lt2⟩ (Nat.le_refl _) g5 g3 ⟨_, _, g4⟩ g1 g2 fun c o x => Heap.get?_push_of_some _ (Heap.get?_push_of_some _ (Heap.get?_push_of_some _ (Heap.get?_push_of_some _ (Heap.get?_push_of_some _ x))))⟩ <;>
  · simp only [Heap.size_push]; exact Nat.lt_succ_self _
end
/-- the pairs of the things at a and b -/
def Itz (K : PySem.W.Frag) (k1 k2 : Kn) (a b : Addr) : It :=
  ⟨fun i H => ∃ xs ys, k1.sq K H a xs ∧ k2.sq K H b ys ∧ i < xs.length ∧ i < ys.length, fun i H v H' => ∃ T x y, H T = none ∧ v = .ref T ∧ H' = upd H T (.tup [x, y]) ∧ (∀ xs, k1.sq K H a xs → xs[i]? = some x) ∧ (∀ ys, k2.sq K H b ys → ys[i]? = some y),
    fun i H => ∃ xs ys, k1.sq K H a xs ∧ k2.sq K H b ys ∧ (xs.length ≤ i ∨ ys.length ≤ i)⟩
theorem turn_zip {P : Program} {w : World} {K : PySem.W.Frag} {elts : List Expr} {x1} {pos : Pos} {k1 k2 : Kn} {a b z TI TO i1 i2 : Addr} (D : ZAp z TI TO i1 i2 a b) :
    Turn P w K (.Tuple elts x1 pos) (Itz K k1 k2 a b) [z, TI, TO, i1, i2] z (fun i h => IsZip h z TI TO .none ∧ IsPair h TI (.ref i1) (.ref i2) ∧ (∃ x y, IsPair h TO x y) ∧ k1.it h i1 a i ∧ k2.it h i2 b i) where
  mem := by simp
  obj := fun i h ⟨hz, hI, ⟨x, y, hO⟩, t1, t2⟩ c hc => by
    simp only [List.mem_cons, List.not_mem_nil, or_false] at hc
    rcases hc with rfl | rfl | rfl | rfl | rfl
    · exact ⟨_, hz, fun v q => by cases (show Data.fields _ = Data.cell v from q)⟩
    · exact ⟨_, hI, fun v q => by cases (show Data.seq _ _ = Data.cell v from q)⟩
    · exact ⟨_, hO, fun v q => by cases (show Data.seq _ _ = Data.cell v from q)⟩
    · exact k1.itObj t1
    · exact k2.itObj t2
  keep := fun i h h' ⟨hz, hI, ⟨x, y, hO⟩, t1, t2⟩ kp => ⟨kp z (by simp) _ hz, kp TI (by simp) _ hI, ⟨x, y, kp TO (by simp) _ hO⟩, k1.itAt t1 fun o e => kp i1 (by simp) o e, k2.itAt t2 fun o e => kp i2 (by simp) o e⟩
  item := by
    intro X hP hw hK hc i pins s σ H E I hf ⟨hz, hI, hO, t1, t2⟩ hg
    subst hP hw hK
    obtain ⟨xs, ys, q1, q2, l1, l2⟩ := hg
    obtain ⟨v1, r1, p1⟩ := k1.inv I q1
    obtain ⟨v2, r2, p2⟩ := k2.inv I q2
    obtain ⟨u1, e1, ru1⟩ := r1.get (List.getElem?_eq_getElem l1)
    obtain ⟨u2, e2, ru2⟩ := r2.get (List.getElem?_eq_getElem l2)
    obtain ⟨n1, n2, nO1, nO2, nOz, nIz, nIO, nI1, nI2, n12, c1, c2, c3, c4, c5, c6⟩ := zap_nat D.a D.b D.c D.d D.e D.f
    refine (z_next D (k1.drw i1 a (Nat.ne_of_lt D.e) v1.toArray) (k2.drw i2 b (Nat.ne_of_lt (Nat.lt_trans D.f D.a)) v2.toArray) ⟨hz, hI, hO, ⟨t1, p1⟩, ⟨t2, p2⟩⟩).1 u1 u2 (by simpa using e1) (by simpa using e2) fun h' hz' hI' hO' s1' s2' hT all => ⟨_, rfl, ?_⟩
    refine wpAny_letOwnedTupleGo_zip hz' fun h2 hz2 sb => ?_
    have nT : ∀ c ∈ [z, TI, TO, i1, i2], c ≠ s.heap.objs.size := fun c hc' => by
      simp only [List.mem_cons, List.not_mem_nil, or_false] at hc'
      rcases hc' with rfl | rfl | rfl | rfl | rfl
      · exact Nat.ne_of_lt (Heap.lt_size hz)
      · exact Nat.ne_of_lt (Heap.lt_size hI)
      · obtain ⟨_, _, q⟩ := hO; exact Nat.ne_of_lt (Heap.lt_size q)
      · obtain ⟨_, q, _⟩ := k1.itObj t1; exact Nat.ne_of_lt (Heap.lt_size q)
      · obtain ⟨_, q, _⟩ := k2.itObj t2; exact Nat.ne_of_lt (Heap.lt_size q)
    have hfr : H s.heap.objs.size = none := I.hok.fresh (Nat.le_refl _)
    have I1 : Inv X pins σ (upd H s.heap.objs.size (.tup [xs[i], ys[i]])) { s with heap := s.heap.push { cls := .type "tuple", data := .seq #[u1, u2] } } :=
      I.laid (t' := s.toks) (fun b u e => Heap.get?_push_of_some _ e) (Nat.le_refl _) ⟨by show 2 ≤ sizeLine; decide, [u1, u2], .cons ru1 (.cons ru2 .nil), ⟨_, Heap.get?_push_size _ rfl, rfl, _, rfl⟩⟩
    have zT : s.heap.objs.size ≠ z := (nT z (by simp)).symm
    have I2 : Inv X pins σ (upd H s.heap.objs.size (.tup [xs[i], ys[i]])) { s with heap := h2 } := Inv.turnedL (s := { s with heap := s.heap.push { cls := .type "tuple", data := .seq #[u1, u2] } }) (t' := s.toks) (fp := [z, TI, TO, i1, i2]) I1 (fun c o hc' e => by
      have hcz : c ≠ z := fun x => hc' (by simp [x])
      rcases Heap.get?_push_cases e with ⟨ec, eo⟩ | e
      · rw [ec, eo]; exact sb.extBut _ _ zT hT
      · exact sb.extBut _ _ hcz (all c o hc' e)) fun c hc' => ⟨by rw [upd_ne (nT c hc')]; exact (hf c hc').1, (hf c hc').2⟩
    refine ⟨.ref s.heap.objs.size, _, I2, rfl, ⟨s.heap.objs.size, xs[i], ys[i], hfr, rfl, rfl, fun zs hz => ?_, fun zs hz => ?_⟩, ⟨hz2, sb.extBut _ _ nIz hI', ?_, k1.itAt s1'.1 fun o e => sb.extBut _ _ n1 e, k2.itAt s2'.1 fun o e => sb.extBut _ _ n2 e⟩, fun c hc' => by rw [upd_ne (nT c hc')]; exact (hf c hc').1⟩
    · rw [k1.inj I hz q1, List.getElem?_eq_getElem l1]
    · rw [k2.inj I hz q2, List.getElem?_eq_getElem l2]
    · obtain ⟨x, y, q⟩ := hO'
      exact ⟨x, y, sb.extBut _ _ nOz q⟩
  done := by
    intro X hP hw hK hc i pins s σ H E I hf ⟨hz, hI, hO, t1, t2⟩ hg
    subst hP hw hK
    obtain ⟨xs, ys, q1, q2, le⟩ := hg
    obtain ⟨v1, r1, p1⟩ := k1.inv I q1
    obtain ⟨v2, r2, p2⟩ := k2.inv I q2
    have e1 := r1.length
    have e2 := r2.length
    refine (z_next D (k1.drw i1 a (Nat.ne_of_lt D.e) v1.toArray) (k2.drw i2 b (Nat.ne_of_lt (Nat.lt_trans D.f D.a)) v2.toArray) ⟨hz, hI, hO, ⟨t1, p1⟩, ⟨t2, p2⟩⟩).2 (I.ok.hd hc) (by
      rcases le with q | q
      · exact .inl (by simp; omega)
      · exact .inr (by simp; omega)) fun h' all => ⟨rfl, I.turnedL (t' := s.toks) (fun c o hc' e => all c o hc' e) hf⟩
  self := fun _ _ _ _ _ st q => wpAny_pyIter_zip st.1 q
section
variable {X : Cx}
def iZip (K : PySem.W.Frag) (k1 k2 : Kn) (ta : TA) : TI := fun σ H R => ta σ H fun vs H1 => ∃ a b xs ys, vs = [.ref a, .ref b] ∧ k1.sq K H1 a xs ∧ k2.sq K H1 b ys ∧ R (Itz K k1 k2 a b) H1
theorem bb_zip : bootBuiltins "zip" = some (.type "zip") := by decide +kernel
theorem pi_zip {k1 k2 : Kn} {x y : Expr} {ta : TA} {elts : List Expr} {x1} {p pos tp : Pos} (hg : Gl X "zip") (hm : X.mg "zip" = none) (ha : PA X [x, y] ta) (hs : starEach [x, y] X.env = [(false, eval x X.env), (false, eval y X.env)] := by rfl) (hs2 : starEach [y] X.env = [(false, eval y X.env)] := by rfl) :
    PI X (.Tuple elts x1 tp) (.Call (.Name "zip" p) [x, y] [] pos) (iZip X.K k1 k2 ta) := by
  intro pins s σ H R I h
  refine Call_ (ld_blt I hg hm bb_zip (PyProof.Rows.callWith_type1 (thn (ha pos pins s σ H _ I h) fun us s1 ⟨vs, H1, I1, r1, q1⟩ => ?_) (by rw [hs, hs2]) (by rw [hs2]; rfl)))
  obtain ⟨a, b, xs, ys, e, s1q, s2q, q⟩ := q1
  subst e
  obtain ⟨u1, u2, rfl, ra, rb⟩ := vals2 r1
  cases ra
  cases rb
  obtain ⟨v1, w1, p1⟩ := k1.inv I1 s1q
  obtain ⟨v2, w2, p2⟩ := k2.inv I1 s2q
  refine z_call p1 p2 fun h' z TI TO i1 i2 D le hz hI hO t1 t2 kp => ?_
  refine wpAny_pyIter_zip (s := { s1 with heap := h' }) hz ?_
  refine ⟨z, [z, TI, TO, i1, i2], _, _, H1, rfl, I1.kept (t' := s1.toks) kp, turn_zip D, ⟨hz, hI, hO, t1, t2⟩, fun c hc => ?_, q⟩
  have le2 : s1.heap.objs.size ≤ c := by
    have d1 := D.a
    have d2 := D.b
    have d3 := D.c
    have d4 := D.d
    simp only [List.mem_cons, List.not_mem_nil, or_false] at hc
    rcases hc with rfl | rfl | rfl | rfl | rfl
    · exact Nat.le_of_lt (Nat.lt_of_le_of_lt le (Nat.lt_trans d1 (Nat.lt_trans d2 (Nat.lt_trans d3 d4))))
    · exact Nat.le_of_lt (Nat.lt_of_le_of_lt le (Nat.lt_trans d1 d2))
    · exact Nat.le_of_lt (Nat.lt_of_le_of_lt le (Nat.lt_trans d1 (Nat.lt_trans d2 d3)))
    · exact le
    · exact Nat.le_of_lt (Nat.lt_of_le_of_lt le d1)
  exact I1.fpOk le2 (I1.hok.fresh le2)
end
section
variable {K : PySem.W.Frag} {te : TE} {σ : St} {Q : VK} {H : Hp}
/-- the wish behind an element of a comprehension with targets -/
def EltG (g : TG) (n : Nat) (te : TE) (σ : St) (v : V) (H : Hp) (D : Addr) (m i : Nat) (Pv : Nat → Hp → Prop) : Prop := ∀ us : St, us.length = n → g v (us ++ σ) H fun σ2 H2 => (∃ us' : St, us'.length = n ∧ σ2 = us' ++ σ) ∧ te σ2 H2 (EltK D m i Pv)
end
end L2

namespace L2
open PySem PySem.Spec PyProof.Rows
section
variable {prog : Program} {w : World} {A : Around} {E : Value → Shared → Prop} {s : Shared}
end
section
variable {X : Cx} {e k : Expr} {te tk : TE} {p2 pos : Pos}
def tRevT (K : PySem.W.Frag) (te tk : TE) : TE := fun σ H Q => te σ H fun x H1 => tk σ H1 fun i H2 => ∃ a xs, x = .ref a ∧ i = .int (-1) ∧ SqT K H2 a xs ∧ ∀ p, H2 p = none → Q (.ref p) (upd H2 p (.tup xs.reverse))
end
end L2

namespace L2
open PySem PySem.Spec PyProof.Rows
open PySem.W (Dat kqdOk)
theorem AccZ.pushK {K : PySem.W.Frag} {H0 H : Hp} {l : Addr} {ds : List Dat} (A : AccZ K H0 l H ds) {y : V} {d : Dat} (r : Rz K H y d) (n : ds.length < sizeLine) {Pv : Hp → Prop} (h : ∀ H2, AccZ K H0 l H2 (ds ++ [d]) → Pv H2) : Push l Pv y H := by
  obtain ⟨xs, h1, h2⟩ := A.at_
  refine ⟨xs, h1, by rw [h2.length]; exact n, h _ ⟨A.upd_same, A.new, xs ++ [y], L2.upd_same, ?_⟩⟩
  exact RzL.upd (h2.append (.cons r .nil)) h1
end L2
namespace L2
open PySem
section
variable {K : PySem.W.Frag} {σ : St} {H : Hp} {Q : VK} {te : TE}
theorem k_compG {wi : TI} {n : Nat} {g : TG} (h : wi σ H fun J H1 => CompG J n g te σ Q H1) : tCompG wi n g te σ H Q := h
theorem k_zip {k1 k2 : Kn} {ta : TA} {R : It → Hp → Prop} (h : ta σ H fun vs H1 => ∃ a b xs ys, vs = [.ref a, .ref b] ∧ k1.sq K H1 a xs ∧ k2.sq K H1 b ys ∧ R (Itz K k1 k2 a b) H1) : iZip K k1 k2 ta σ H R := h
end
end L2
namespace L2
open PySem
section
variable {K : PySem.W.Frag} {σ : St} {H : Hp} {Q : VK} {D : Ends} {td ty tv te tk : TE}
theorem k_dput (h : tv σ H fun v H1 => td σ H1 fun x H2 => ty σ H2 fun y H3 => ∃ a H4, x = .ref a ∧ DPut H3 a y v H4 ∧ D.nx σ H4) : sDPut td ty tv D σ H := h
theorem k_revT (h : te σ H fun x H1 => tk σ H1 fun i H2 => ∃ a xs, x = .ref a ∧ i = .int (-1) ∧ SqT K H2 a xs ∧ ∀ p, H2 p = none → Q (.ref p) (upd H2 p (.tup xs.reverse))) : tRevT K te tk σ H Q := h
end
end L2
namespace L2
open PySem PySem.Spec PyProof.Rows
section
variable {X : Cx} {scope : Scope}
theorem pe_lcN {elt iter tg : Expr} {pos : Pos} {wi : TI} {g : TG} {te : TE} {n : Nat} (ys M : List Str) (c : CompS X.env.scope X.N M ys scope) (hc : X.calm = true) (hi : PI X tg iter wi) (hg : ∀ C s₀ H₀ fp pins, PG (compCx X ys M scope (clOf scope X.env.cells) C s₀ H₀ fp pins) tg g) (he : ∀ C s₀ H₀ fp pins, PE (compCx X ys M scope (clOf scope X.env.cells) C s₀ H₀ fp pins) elt te)
    (hn : ys.length = n := by rfl) (hs : ∀ v, foldedSetIterable iter X.env v = pure v := by intro _; rfl) : PE X (.ListComp elt [⟨tg, iter, [], 0⟩] scope pos) (tCompG wi n g te) := by
  subst hn
  exact pe_lcG c hc hi hg he hs
end
end L2

namespace L2
open PySem PySem.Spec PyProof.Rows
section
variable {X : Cx}
def rAll (K : PySem.W.Frag) : List V → Hp → VK → Prop := fun xs H Q => ∃ (a : Addr) (bs : List Bool), xs = [.ref a] ∧ SqL K H a (bs.map V.bl) ∧ Q (.bl (bs.all id)) H
def rAny (K : PySem.W.Frag) : List V → Hp → VK → Prop := fun xs H Q => ∃ (a : Addr) (bs : List Bool), xs = [.ref a] ∧ SqL K H a (bs.map V.bl) ∧ Q (.bl (bs.any id)) H
theorem bls_bools : ∀ {bs : List Bool} {us : List Value}, Vals (bs.map V.bl) us → LSm.BoolsAre us bs
  | [], _, .nil => .nil
  | b :: bs, _, .cons r rr => by
    cases (show _ = Value.bool b from r)
    exact .cons b (bls_bools rr)
/-- the road that both go -/
theorem walk_bools {M : Model} {A : Around} {E : Value → Shared → Prop} {s : Shared} {pins : List (Addr × Obj)} {σ : St} {H : Hp} {a : Addr} {bs : List Bool} (d : Bool) (I : Inv X pins σ H s) (q1 : SqL X.K H a (bs.map V.bl)) (hh : A.handled = none) (hM : M = model X.prog X.w)
    {Qr : Bool → Value → Shared → Prop} {f : (Nat → Bool) → Nat → Bool} {r : Bool} (hf : f (fun i => (bs[i]?).getD d) bs.length = r) (q : ∀ h' tk, Inv X pins σ H { s with heap := h', toks := tk } → Qr r (.bool r) { s with heap := h', toks := tk }) :
    wpAny M A (pyIter (.ref a)) (fun it s₂ => ∃ I fp wr n P St tr, it = .ref I ∧ Walks X.prog X.w A I fp wr n P St ∧ St 0 s₂.heap ∧ TruthOf X.prog X.w A P tr ∧ ∀ h' tk, (∀ b o, b ∉ wr → s₂.heap.get? b = some o → h'.get? b = some o) → Qr r (.bool (f tr n)) { s₂ with heap := h', toks := tk }) E s := by
  subst hM
  obtain ⟨its, rv, p, _⟩ := I.list q1
  have hl : s.heap.IsList a its.toArray := p.isList
  have hb := bls_bools rv
  have hlt : a < s.heap.objs.size := by obtain ⟨_, e, _⟩ := hl; exact Heap.lt_size e
  refine wpAny_pyIter_list hl ⟨s.heap.objs.size, [s.heap.objs.size, a], [s.heap.objs.size], its.toArray.size, _, _, fun i => (bs[i]?).getD d, rfl, Walks.list hh _ a (Nat.ne_of_lt hlt) its.toArray, ⟨⟨_, Heap.get?_push_size _ rfl, rfl, rfl⟩, hl.push _⟩, fun i v s' Q' E' hP hQ => ?_, fun h' tk hk => ?_⟩
  · obtain ⟨b, e, rfl⟩ := hb.get i v (by simpa using hP)
    dsimp only at hQ; rw [e] at hQ; exact wpAny_truthy_bool hQ
  · rw [List.size_toArray, hb.length, hf]
    exact q h' tk (I.kept (t' := tk) fun b o e => hk b o (fun z => absurd (Heap.lt_size e) (by rw [List.mem_singleton.mp z]; exact Nat.lt_irrefl _)) (Heap.get?_push_of_some _ e))
theorem call_all (hc : X.calm = true) : CallR X (.builtin "all") (rAll X.K) := by
  intro pins s σ H xs us Q I r h
  obtain ⟨a, bs, rfl, q1, q⟩ := h
  obtain ⟨u, rfl, ru⟩ := vals1 r
  cases ru
  refine call_all_walk (walk_bools (f := fun tr n => (List.range n).all tr) (r := bs.all id) true I q1 (by have := I.ok.hd hc; simpa using this) rfl (LSm.range_all bs) (Qr := fun _ v s' => EP X pins σ Q v s') fun h' tk I2 => ⟨.bl _, H, I2, rfl, q⟩)
theorem call_any (hc : X.calm = true) : CallR X (.builtin "any") (rAny X.K) := by
  intro pins s σ H xs us Q I r h
  obtain ⟨a, bs, rfl, q1, q⟩ := h
  obtain ⟨u, rfl, ru⟩ := vals1 r
  cases ru
  refine call_any_walk (walk_bools (f := fun tr n => (List.range n).any tr) (r := bs.any id) false I q1 (by have := I.ok.hd hc; simpa using this) rfl (LSm.range_any bs) (Qr := fun _ v s' => EP X pins σ Q v s') fun h' tk I2 => ⟨.bl _, H, I2, rfl, q⟩)
theorem bb_all : bootBuiltins "all" = some (.builtin "all") := by decide +kernel
theorem bb_any : bootBuiltins "any" = some (.builtin "any") := by decide +kernel
end
end L2

namespace L2
open PySem PySem.Spec PyProof.Rows
def CompF (J : It) (n : Nat) (g : TG) (tc : TT) (te : TE) (σ : St) (Q : VK) (H1 : Hp) : Prop := ∀ D, H1 D = none → ∃ W : Nat → Nat → Hp → Prop, (∃ m, W 0 m (upd H1 D (.lst []))) ∧ ∀ i m H, W i m H →
  (J.stop i H ∧ Q (.ref D) H) ∨ (J.go i H ∧ ∀ v H', J.yld i H v H' → ∀ us : St, us.length = n → g v (us ++ σ) H' fun σ2 H2 => (∃ us' : St, us'.length = n ∧ σ2 = us' ++ σ) ∧ tc σ2 H2 fun b H3 =>
    if b = true then te σ2 H3 fun y H4 => ∃ xs, H4 D = some (.lst xs) ∧ xs.length < sizeLine ∧ ∃ m', m' < m ∧ W (i + 1) m' (upd H4 D (.lst (xs ++ [y]))) else ∃ m', m' < m ∧ W (i + 1) m' H3)
def tCompF (wi : TI) (n : Nat) (g : TG) (tc : TT) (te : TE) : TE := fun σ H Q => wi σ H fun J H1 => CompF J n g tc te σ Q H1
section
variable {X : Cx} {ys M : List Str} {scope : Scope} {cl : List (Str × Addr)} {C : Addr} {s : Shared} {H : Hp} {fp : List Addr} {pins : List (Addr × Obj)} {σ : St}
theorem comp_loopF {prog : Program} {w : World} {A : Around} {R : Result → Shared → Prop} {s : Shared} {elt target iter c : Expr} {scope : Scope} {pos : Pos} {it acc : Value} {env : Env} (I : Nat → Shared → Prop)
    (turn : ∀ n s, I n s → wpAny (model prog w) A (pyNext it) (fun r s1 => match r with
      | none => R (.ok .next) s1
      | some v => wpAny (model prog w) A (letOwnedTupleGo target it v) (fun _ s2 => wpAny (model prog w) A (assign target env v) (fun _ s3 => wpAny (model prog w) A (isTrue c env (eval c env)) (fun ok s4 =>
          if ok = true then wpAny (model prog w) A (eval elt env) (fun x s5 => wpAny (model prog w) A (call (.builtin "list.append") [acc, x]) (fun _ s6 => ∃ m, m < n ∧ I m s6) (fun _ _ => False) s5) (fun _ _ => False) s4
          else ∃ m, m < n ∧ I m s4) (fun _ _ => False) s3) (fun _ _ => False) s2) (fun _ _ => False) s1) (fun _ _ => False) s) (n : Nat) (h : I n s) :
    codeAny (model prog w) A (.compLoop (.ListComp elt [⟨target, iter, [c], 0⟩] scope pos) 0 it acc env) R s := by
  refine codeAny_loop rfl I (fun k s1 hI => ?_) n h
  have no : ∀ {α : Type} {t : Sem α} {P : α → Shared → Prop} {E : Value → Shared → Prop} {z : Shared}, wpAny (model prog w) A t P (fun _ _ => False) z → wpAny (model prog w) A t P E z := fun q => wpAny_mono q (fun _ _ z => z) fun _ _ z => z.elim
  show wpAny _ _ ((compTurn (.ListComp elt [⟨target, iter, [c], 0⟩] scope pos) 0 it acc env).onRaise _) _ _ s1
  refine wpAny_noted ?_
  rw [compTurn_list]
  refine wpAny_bind (wpAny_standAt (wpAny_bind (no (wpAny_mono (turn k s1 hI) (fun r s2 h2 => ?_) fun _ _ z => z))))
  cases r with
  | none => exact wpAny_pure h2
  | some v =>
    refine wpAny_bind (no (wpAny_mono h2 (fun _ s3 h3 => ?_) fun _ _ z => z))
    refine wpAny_bind (no (wpAny_mono h3 (fun _ s4 h4 => ?_) fun _ _ z => z))
    refine wpAny_bind (wpAny_tests_one (no (wpAny_mono h4 (fun ok s5 h5 => ?_) fun _ _ z => z)))
    cases ok with
    | true =>
      rw [if_pos rfl] at h5
      refine wpAny_bind (wpAny_bind (no (wpAny_mono h5 (fun x s6 h6 => ?_) fun _ _ z => z)))
      exact wpAny_bind (no (wpAny_mono h6 (fun _ s7 h7 => wpAny_pure (wpAny_pure ⟨rfl, h7⟩)) fun _ _ z => z))
    | false =>
      rw [if_neg Bool.false_ne_true] at h5
      exact wpAny_pure ⟨rfl, h5⟩
theorem comp_coreF {elt iter tg cn : Expr} {pos : Pos} {g : TG} {tc : TT} {te : TE} {tn : Nat → Heap → Prop} {it : Addr} {J : It} {E : Value → Shared → Prop} {QQ : Addr → Hp → Prop} {RR : Value → Addr → Result → Shared → Prop} (I : Inv X pins σ H s) (c : CompSc X ys M scope cl) (hc : X.calm = true)
    (hg : ∀ C s₀ H₀ fp pins, PG (compCx X ys M scope cl C s₀ H₀ fp pins) tg g) (ht : ∀ C s₀ H₀ fp pins, PT (compCx X ys M scope cl C s₀ H₀ fp pins) cn tc) (he : ∀ C s₀ H₀ fp pins, PE (compCx X ys M scope cl C s₀ H₀ fp pins) elt te) (T : Turn X.prog X.w X.K tg J fp it tn) (st : tn 0 s.heap) (fk : ∀ b ∈ fp, FpOk X pins H b)
    (h : CompF J ys.length g tc te σ (fun v H' => ∃ D, v = .ref D ∧ QQ D H') H)
    (fin : ∀ D C H' s', s.heap.objs.size ≤ C → s'.heap.get? C ≠ none → (∃ m, s'.heap.Ns C m) → H' C = none → Inv X pins σ H' s' → QQ D H' → RR (.ref D) C (.ok .next) s') :
    wpAny (model X.prog X.w) X.A (newList []) (fun acc s₃ => wpAny (model X.prog X.w) X.A (newFunctionEnv scope X.env.globals cl [] X.env.qual none .none (some X.env)) (fun cenv s₄ =>
      codeAny (model X.prog X.w) X.A (.compStart (.ListComp elt [⟨tg, iter, [cn], 0⟩] scope pos) 0 (.ref it) acc { cenv with scope := relabel scope X.env }) (RR acc cenv.locals) s₄) E s₃) E s := by
  refine wpAny_newObj_type (wpAny_newFunctionEnv c.nocell (by intro y hy; simp at hy) (fun h1 hns hsb => ?_) c.kind)
  dsimp only at hns hsb ⊢
  have hf : H s.heap.objs.size = none := I.hok.fresh (Nat.le_refl _)
  have I3 : Inv X pins σ (upd H s.heap.objs.size (.lst [])) { s with heap := s.heap.push { cls := .type "list", dict := none, data := .seq ([] : List Value).toArray } } :=
    I.laid (t' := s.toks) (fun b u e => Heap.get?_push_of_some _ e) (Nat.le_refl _) ⟨by decide, [], _, .nil, Heap.get?_push_size _ rfl⟩
  have eD : ∀ b u, s.heap.get? b = some u → b ≠ s.heap.objs.size := fun b u e => Nat.ne_of_lt (Heap.lt_size e)
  have fk3 : ∀ b ∈ fp, FpOk X pins (upd H s.heap.objs.size (.lst [])) b ∧ ∃ o, (s.heap.push { cls := .type "list", dict := none, data := .seq ([] : List Value).toArray }).get? b = some o := fun b hb => by
    obtain ⟨o, eo, _⟩ := T.obj 0 _ st b hb
    obtain ⟨f1, f2⟩ := fk b hb
    exact ⟨⟨by rw [upd_ne (eD b o eo)]; exact f1, f2⟩, o, Heap.get?_push_of_some _ eo⟩
  have I4 := inv_comp (tk := s.toks + ([] : List (Str × Value)).length) I3 c rfl hns hsb fk3
  obtain ⟨W, ⟨m0, w0⟩, turn⟩ := h _ hf
  have st4 : tn 0 h1 := T.keep 0 _ _ st fun b hb o e => by
    have e2 := Heap.get?_push_of_some { cls := .type "list", dict := none, data := .seq ([] : List Value).toArray } e
    exact hsb.extBut b o (Nat.ne_of_lt (Heap.lt_size e2)) (Heap.get?_push_of_some _ e2)
  have stat : ∀ {H' : Hp}, (∀ b ∈ fp, H' b = none) → ∀ b ∈ fp, FpOk (compCx X ys M scope cl (s.heap.push { cls := .type "list", dict := none, data := .seq ([] : List Value).toArray }).objs.size { s with heap := s.heap.push { cls := .type "list", dict := none, data := .seq ([] : List Value).toArray } } (upd H s.heap.objs.size (.lst [])) fp pins) [] H' b :=
    fun hn b hb => ⟨hn b hb, (I4.ok.exf b hb).1, I4.ok.exfs b hb, .inl hb, (I4.ok.exf b hb).2, fun p hp => (fk3 b hb).1.2.2.2.2.2 p (by simpa [compCx] using hp)⟩
  have loop : ∀ s4 : Shared, s4 = { s with heap := h1, toks := s.toks + ([] : List (Str × Value)).length } →
      codeAny (model X.prog X.w) X.A (.compLoop (.ListComp elt [⟨tg, iter, [cn], 0⟩] scope pos) 0 (.ref it) (.ref s.heap.objs.size) (compEnvC scope cl (s.heap.push { cls := .type "list", dict := none, data := .seq ([] : List Value).toArray }).objs.size X.env))
        (RR (.ref s.heap.objs.size) (s.heap.push { cls := .type "list", dict := none, data := .seq ([] : List Value).toArray }).objs.size) s4 := by
    rintro s4 rfl
    refine comp_loopF (fun n s' => ∃ (i : Nat) (us : St) (H' : Hp), us.length = ys.length ∧ Inv (compCx X ys M scope cl (s.heap.push { cls := .type "list", dict := none, data := .seq ([] : List Value).toArray }).objs.size { s with heap := s.heap.push { cls := .type "list", dict := none, data := .seq ([] : List Value).toArray } } (upd H s.heap.objs.size (.lst [])) fp pins) [] (us ++ σ) H' s' ∧ tn i s'.heap ∧ (∀ b ∈ fp, H' b = none) ∧ W i n H')
      ?_ m0 ⟨0, _, _, List.length_replicate, I4, st4, fun b hb => (fk3 b hb).1.1, w0⟩
    rintro n s5 ⟨i, us, H5, lu, I5, st5, fr5, w5⟩
    rcases turn i n H5 w5 with ⟨stop, Dq, eDq, q⟩ | ⟨go, step⟩
    · cases eDq
      refine thn (T.done (compCx X ys M scope cl _ _ _ _ _) rfl rfl rfl hc i [] s5 _ H5 _ I5 (stat fr5) st5 stop) fun r s6 ⟨er, I6⟩ => ?_
      subst er
      obtain ⟨m, hn6, _⟩ := id I6.loc
      obtain ⟨o6, _, _, ho6, _⟩ := id hn6
      exact fin _ _ H5 s6 (by rw [Heap.size_push]; exact Nat.le_succ _) (fun z => by have z' := ho6.symm.trans z; cases z') ⟨m, hn6⟩ I6.free (inv_uncomp I3 fk3 I6) q
    · refine thn (T.item (compCx X ys M scope cl _ _ _ _ _) rfl rfl rfl hc i [] s5 _ H5 _ I5 (stat fr5) st5 go) fun r s6 ⟨u, er, h6⟩ => ?_
      subst er
      refine thn h6 fun _ s7 ⟨v', H7, I7, r7, y7, st7, fr7⟩ => ?_
      have I7' := I7.pinned (stat fr7) (T.obj _ _ st7)
      refine wpAny_mono (hg _ _ _ _ _ _ s7 _ H7 v' u _ I7' r7 (step v' H7 y7 us lu)) (fun _ s8 ⟨σ8, H8, I8, ⟨us', lu', e8⟩, q8⟩ => ?_) fun _ _ z => z.elim
      refine wpAny_mono (ht _ _ _ _ _ _ s8 _ H8 _ I8 q8) (fun ok s9 ⟨H9, I9, q9⟩ => ?_) fun _ _ z => z.elim
      subst e8
      cases ok with
      | true =>
        rw [if_pos rfl] at q9 ⊢
        refine wpAny_mono (he _ _ _ _ _ _ s9 _ H9 _ I9 q9) (fun y s10 ⟨yv, H10, I10, ry, xs, hxs, hlen, m', hm, w10⟩ => ?_) fun _ _ z => z.elim
        refine wpAny_mono (mt_append (X := compCx X ys M scope cl _ _ _ _ _) _ s10 _ H10 (.ref s.heap.objs.size) [yv] (.ref s.heap.objs.size) [y] (fun _ H11 => H11 = upd H10 s.heap.objs.size (.lst (xs ++ [yv]))) I10 rfl (.cons ry .nil) ⟨_, xs, yv, rfl, rfl, hxs, hlen, rfl⟩) (fun _ s11 ⟨z, H11, I11, rz, q11⟩ => ?_) fun _ _ z => z.elim
        subst q11
        refine ⟨m', hm, i + 1, us', _, lu', I11.unpinned (pins := []), T.keep _ _ _ st7 fun b hb o e => (I11.pin (b, o) (List.mem_append_right _ (List.mem_append_right _ (mem_pinsAt hb e)))).1, fun b hb => ?_, w10⟩
        obtain ⟨o, e, _⟩ := T.obj _ _ st7 b hb
        exact (I11.pin (b, o) (List.mem_append_right _ (List.mem_append_right _ (mem_pinsAt hb e)))).2.1
      | false =>
        rw [if_neg Bool.false_ne_true] at q9 ⊢
        obtain ⟨m', hm, w9⟩ := q9
        refine ⟨m', hm, i + 1, us', _, lu', I9.unpinned (pins := []), T.keep _ _ _ st7 fun b hb o e => (I9.pin (b, o) (List.mem_append_right _ (List.mem_append_right _ (mem_pinsAt hb e)))).1, fun b hb => ?_, w9⟩
        obtain ⟨o, e, _⟩ := T.obj _ _ st7 b hb
        exact (I9.pin (b, o) (List.mem_append_right _ (List.mem_append_right _ (mem_pinsAt hb e)))).2.1
  exact codeAny_compStart_list (loop _ rfl) (T.self _ 0 _ _ _ st4 (loop _ rfl))
/-- as a value -/
theorem pe_lcF {elt iter tg cn : Expr} {pos : Pos} {wi : TI} {g : TG} {tc : TT} {te : TE} {n : Nat} (ys M : List Str) (c0 : CompS X.env.scope X.N M ys scope) (hc : X.calm = true) (hi : PI X tg iter wi) (hg : ∀ C s₀ H₀ fp pins, PG (compCx X ys M scope (clOf scope X.env.cells) C s₀ H₀ fp pins) tg g)
    (ht : ∀ C s₀ H₀ fp pins, PT (compCx X ys M scope (clOf scope X.env.cells) C s₀ H₀ fp pins) cn tc) (he : ∀ C s₀ H₀ fp pins, PE (compCx X ys M scope (clOf scope X.env.cells) C s₀ H₀ fp pins) elt te)
    (hn : ys.length = n := by rfl) (hs : ∀ v, foldedSetIterable iter X.env v = pure v := by intro _; rfl) : PE X (.ListComp elt [⟨tg, iter, [cn], 0⟩] scope pos) (tCompF wi n g tc te) := by
  subst hn
  intro pins s σ H Q I h
  have c := c0.sc I.ok
  have hi' : PI X tg iter (fun σ H R => ∃ R', (∀ J H1, R' J H1 → R J H1) ∧ wi σ H R') := by
    intro pins s σ H R I ⟨R', hR, hw⟩
    refine thn (hi pins s σ H R' I hw) fun v s1 h1 => thn h1 fun itv s2 ⟨it, fp, tn, J, H', e, I', T, t0, fk, r⟩ => ⟨it, fp, tn, J, H', e, I', T, t0, fk, hR J H' r⟩
  rw [eval_ListComp]
  refine wpAny_comprehension_free (use := none) rfl hs c.clos c.kind c.names (thn (hi' pins s σ H (fun J H1 => CompF J ys.length g tc te σ (fun v H' => ∃ D, v = .ref D ∧ Q (.ref D) H') H1) I ⟨_, fun J H1 q D nD => ?_, h⟩) fun v s1 h1 => thn h1 fun itv s2 h2 => ?_)
  · obtain ⟨W, w0, t⟩ := q D nD
    exact ⟨W, w0, fun i m H w => (t i m H w).imp (fun z => ⟨z.1, D, rfl, z.2⟩) id⟩
  obtain ⟨it, fp, tn, J, H2, rfl, I2, T, st2, fk2, h3⟩ := h2
  refine comp_coreF (E := X.xe) (QQ := fun D H' => Q (.ref D) H') I2 c hc hg ht he T st2 fk2 h3 fun D C H' s' hC hl ns fr I' q => ?_
  obtain ⟨m, hn⟩ := ns
  refine ⟨m, hn, fun h' hs' => ?_⟩
  have sz := I2.sz
  exact ⟨.ref D, H', I'.turned (t' := s'.toks) (fun b o hb e => (hs'.2 b hb).trans e) fr (I2.fpOk hC fr).2.1 (I2.fpOk hC fr).2.2.2.1 (I2.fpOk hC fr).2.2.2.2.1 (I2.fpOk hC fr).2.2.2.2.2, rfl, q⟩
/-- y = [elt for tg in iter if c] on one line -/
theorem ps_lcF {elt iter tg cn : Expr} {pos py sp : Pos} {wi : TI} {g : TG} {tc : TT} {te : TE} {i n : Nat} {y : Str} (ys M : List Str) (hN : X.N.Nodup) (hy : X.N[i]? = some y) (ly : X.env.scope.names.lookup y = some .local) (c0 : CompS X.env.scope X.N M ys scope) (hc : X.calm = true) (hi : PI X tg iter wi)
    (hg : ∀ C s₀ H₀ fp pins, PG (compCx X ys M scope (clOf scope X.env.cells) C s₀ H₀ fp pins) tg g) (ht : ∀ C s₀ H₀ fp pins, PT (compCx X ys M scope (clOf scope X.env.cells) C s₀ H₀ fp pins) cn tc) (he : ∀ C s₀ H₀ fp pins, PE (compCx X ys M scope (clOf scope X.env.cells) C s₀ H₀ fp pins) elt te) (hn : ys.length = n := by rfl)
    (hsw : swapsWith (.ListComp elt [⟨tg, iter, [cn], 0⟩] scope pos) (some (.Name y py)) sp.line X.env = pure true := by rfl) (hs : ∀ v, foldedSetIterable iter X.env v = pure v := by intro _; rfl) :
    PS X (.Assign [.Name y py] (.ListComp elt [⟨tg, iter, [cn], 0⟩] scope pos) sp) (tAsg (tCompF wi n g tc te) (gName i)) := by
  subst hn
  intro pins s σ H D I h
  have c := c0.sc I.ok
  have hi' : PI X tg iter (fun σ H R => ∃ R', (∀ J H1, R' J H1 → R J H1) ∧ wi σ H R') := by
    intro pins s σ H R I ⟨R', hR, hw⟩
    refine thn (hi pins s σ H R' I hw) fun v s1 h1 => thn h1 fun itv s2 ⟨it, fp, tn, J, H', e, I', T, t0, fk, r⟩ => ⟨it, fp, tn, J, H', e, I', T, t0, fk, hR J H' r⟩
  rw [exec_Assign_Name_used _ _ _ _ hsw]
  refine wpAny_bind (wpAny_standAt (wpAny_bind ?_))
  show wpAny _ X.A (do let _ ← comprehension (.ListComp elt [⟨tg, iter, [cn], 0⟩] scope pos) scope X.env _ (newList []) false (eval iter X.env) (some (assign (.Name y py) X.env))) _ _ s
  refine wpAny_bind (wpAny_mono (wpAny_comprehension_free (use := some (assign (.Name y py) X.env)) (Q := fun _ s' => SP X pins D .next s') rfl hs c.clos c.kind c.names (thn (hi' pins s σ H (fun J H1 => CompF J ys.length g tc te σ (fun v H' => ∃ Da, v = .ref Da ∧ D.nx (σ.set i (some (.ref Da))) H') H1) I ⟨_, fun J H1 q Da nD => ?_, h⟩) fun v s1 h1 => thn h1 fun itv s2 h2 => ?_)) (fun _ s' hq => wpAny_pure (wpAny_pure hq)) fun _ _ z => z)
  · obtain ⟨W, w0, t⟩ := q Da nD
    exact ⟨W, w0, fun i m H w => (t i m H w).imp (fun z => ⟨z.1, Da, rfl, z.2⟩) id⟩
  obtain ⟨it, fp, tn, J, H2, rfl, I2, T, st2, fk2, h3⟩ := h2
  refine comp_coreF (E := X.xe) (QQ := fun Da H' => D.nx (σ.set i (some (.ref Da))) H') I2 c hc hg ht he T st2 fk2 h3 fun Da C H' s' hC hl ns fr I' q => ?_
  obtain ⟨m, hn⟩ := ns
  refine wpAny_assign_Name (store_ok2 I' hN hy (.inl ly) (v := .ref Da) rfl (fun s3 I3 ⟨a, hsa, ha⟩ => ?_) (.inr ly))
  have nC : C ≠ a := by
    rcases ha with z | z
    · rw [z]; exact (I2.fpOk hC fr).2.1
    · exact fun w' => (I2.fpOk hC fr).2.2.2.2.1 y a z w'.symm
  refine ⟨m, hn.sameBut hsa nC, fun h' hs' => ⟨_, H', I3.turned (t' := s3.toks) (fun b o hb e => (hs'.2 b hb).trans e) fr (I2.fpOk hC fr).2.1 (I2.fpOk hC fr).2.2.2.1 (I2.fpOk hC fr).2.2.2.2.1 (I2.fpOk hC fr).2.2.2.2.2, q⟩⟩
end
section
variable {K : PySem.W.Frag} {tc : TT} {te : TE} {σ : St} {Q : VK} {H : Hp}
theorem k_compF {wi : TI} {n : Nat} {g : TG} (h : wi σ H fun J H1 => CompF J n g tc te σ Q H1) : tCompF wi n g tc te σ H Q := h
/-- the wish behind an element that is left out, and behind one that may be -/
def SkK (n i : Nat) (Pv : Nat → Hp → Prop) : Hp → Prop := fun H2 => ∃ m', m' < n - i ∧ m' = n - (i + 1) ∧ i + 1 ≤ n ∧ Pv (i + 1) H2
def EltF (g : TG) (n : Nat) (tc : TT) (te : TE) (σ : St) (v : V) (H : Hp) (D : Addr) (m i : Nat) (Pv : Nat → Hp → Prop) : Prop := ∀ us : St, us.length = n → g v (us ++ σ) H fun σ2 H2 => (∃ us' : St, us'.length = n ∧ σ2 = us' ++ σ) ∧ tc σ2 H2 fun b H3 => if b = true then te σ2 H3 (EltK D m i Pv) else SkK m i Pv H3
theorem skipped {n i : Nat} {Pv : Nat → Hp → Prop} {H2 : Hp} (hi : i < n) (h : Pv (i + 1) H2) : SkK n i Pv H2 := ⟨n - (i + 1), by omega, rfl, hi, h⟩
theorem compF_zip {k1 k2 : Kn} {a b : Addr} {xs ys : List V} {n : Nat} {g : TG} (h : ∀ D, H D = none → ∃ Pv : Nat → Hp → Prop, Pv 0 (upd H D (.lst [])) ∧ (∀ i H2, i ≤ min xs.length ys.length → Pv i H2 → k1.sq K H2 a xs ∧ k2.sq K H2 b ys) ∧
    (∀ i x y H2 T, xs[i]? = some x → ys[i]? = some y → Pv i H2 → H2 T = none → EltF g n tc te σ (.ref T) (upd H2 T (.tup [x, y])) D (min xs.length ys.length) i Pv) ∧ ∀ H2, Pv (min xs.length ys.length) H2 → Q (.ref D) H2) : CompF (Itz K k1 k2 a b) n g tc te σ Q H := by
  intro D nD
  obtain ⟨Pv, h0, hl, hs, hd⟩ := h D nD
  refine ⟨fun i m H => m = min xs.length ys.length - i ∧ i ≤ min xs.length ys.length ∧ Pv i H, ⟨_, rfl, Nat.zero_le _, h0⟩, ?_⟩
  rintro i m H ⟨rfl, hi, p⟩
  obtain ⟨q1, q2⟩ := hl i H hi p
  by_cases hlt : i < min xs.length ys.length
  · refine .inr ⟨⟨xs, ys, q1, q2, by omega, by omega⟩, fun v H' y us hu => ?_⟩
    obtain ⟨T, x, y, nT, rfl, rfl, z1, z2⟩ := y
    exact hs i x y H T (z1 xs q1) (z2 ys q2) p nT us hu
  · have e : i = min xs.length ys.length := by omega
    subst e
    refine .inl ⟨⟨xs, ys, q1, q2, ?_⟩, hd H p⟩
    rcases Nat.le_total xs.length ys.length with q | q
    · exact .inl (by rw [Nat.min_eq_left q]; exact Nat.le_refl _)
    · exact .inr (by rw [Nat.min_eq_right q]; exact Nat.le_refl _)
end
end L2

namespace L2
open PySem PySem.Spec PyProof.Rows
def istr (i : Int) : Str := toString i
def tFmtS (te : TE) : TE := fun σ H Q => te σ H fun x H1 => ∃ z, x = .str z ∧ z.length ≤ sizeLine ∧ Q (.str z) H1
def tFmtI (te : TE) : TE := fun σ H Q => te σ H fun x H1 => ∃ i, x = .int i ∧ i.natAbs.log2 < 1920 ∧ Q (.str (istr i)) H1
def tJn : List TE → Str → TE
  | [], acc => fun _ H Q => Q (.str acc) H
  | t :: r, acc => fun σ H Q => t σ H fun x H1 => ∃ y, x = .str y ∧ (acc ++ y).length ≤ sizeLine ∧ tJn r (acc ++ y) σ H1 Q
section
variable {X : Cx} {pos : Pos}
/-- the parts of an f-string -/
inductive PJ (X : Cx) : List Expr → List TE → Prop
  | nil : PJ X [] []
  | cons {e : Expr} {es : List Expr} {t : TE} {ts : List TE} : PE X e t → PJ X es ts → PJ X (e :: es) (t :: ts)
theorem PJ.run : ∀ {es : List Expr} {ts : List TE}, PJ X es ts → ∀ (acc : Str) (pins : List (Addr × Obj)) (s : Shared) (σ : St) (H : Hp) (Q : VK), acc.length ≤ sizeLine → Inv X pins σ H s → tJn ts acc σ H Q →
    wpAny (model X.prog X.w) X.A (joinParts acc (evalEach es X.env)) (EP X pins σ Q) X.xe s
  | _, _, .nil, acc, pins, s, σ, H, Q, la, I, q => joinParts_nil ⟨.str acc, H, I.tok _, ⟨_, rfl⟩, q⟩ la
  | _, _, .cons he r, acc, pins, s, σ, H, Q, la, I, q => by
    refine joinParts_cons (thn (he pins s σ H _ I q) fun v s1 ⟨x, H1, I1, r1, y, e1, ly, q1⟩ => ?_)
    subst e1
    obtain ⟨t, rfl⟩ := r1
    exact ⟨ly, r.run (acc ++ y) pins s1 σ H1 Q ly I1 q1⟩
end
section
variable {K : PySem.W.Frag} {σ : St} {H : Hp} {Q : VK} {te : TE}
theorem k_fmtS (h : te σ H fun x H1 => ∃ z, x = .str z ∧ z.length ≤ sizeLine ∧ Q (.str z) H1) : tFmtS te σ H Q := h
theorem k_fmtI (h : te σ H fun x H1 => ∃ i, x = .int i ∧ i.natAbs.log2 < 1920 ∧ Q (.str (istr i)) H1) : tFmtI te σ H Q := h
theorem k_jn0 {acc : Str} (h : Q (.str acc) H) : tJn [] acc σ H Q := h
theorem k_jn {t : TE} {r : List TE} {acc : Str} (h : t σ H fun x H1 => ∃ y, x = .str y ∧ (acc ++ y).length ≤ sizeLine ∧ tJn r (acc ++ y) σ H1 Q) : tJn (t :: r) acc σ H Q := h
end
end L2

namespace L2
open PySem PySem.Spec PyProof.Rows
def Its (z : Str) : It := ⟨fun i _ => i < z.cps.size, fun i H x H' => H' = H ∧ ∃ c, z.cps[i]? = some c ∧ x = .str ⟨#[c]⟩, fun i _ => z.cps.size ≤ i⟩
def iStr (tl : TE) : TI := fun σ H R => tl σ H fun x H1 => ∃ z : Str, x = .str z ∧ z.cps.all (· < 128) = true ∧ R (Its z) H1
section
variable {X : Cx} {tg : Expr}
theorem k_iStr {σ : St} {H : Hp} {te : TE} {R : It → Hp → Prop} (h : te σ H fun x H1 => ∃ z : Str, x = .str z ∧ z.cps.all (· < 128) = true ∧ R (Its z) H1) : iStr te σ H R := h
/-- isinstance(e, (list, tuple)), e a list or a tuple -/
def tIsLT (K : PySem.W.Frag) (te : TE) : TE := fun σ H Q => te σ H fun x H1 => ∃ a, x = .ref a ∧ ((∃ xs, SqL K H1 a xs) ∨ ∃ xs, SqT K H1 a xs) ∧ Q (.bl true) H1
theorem k_isLT {K : PySem.W.Frag} {σ : St} {H : Hp} {Q : VK} {te : TE} (h : te σ H fun x H1 => ∃ a, x = .ref a ∧ ((∃ xs, SqL K H1 a xs) ∨ ∃ xs, SqT K H1 a xs) ∧ Q (.bl true) H1) : tIsLT K te σ H Q := h
end
end L2

namespace L2
open PySem PySem.Spec PyProof.Rows
def iSeq (K : PySem.W.Frag) (tl : TE) : TI := fun σ H R => tl σ H fun x H1 => ∃ a, x = .ref a ∧ (((∃ xs, SqL K H1 a xs) ∧ R (Itl K a) H1) ∨ ((∃ xs, SqT K H1 a xs) ∧ R (Itt K a) H1))
section
variable {X : Cx} {tg : Expr}
end
section
variable {K : PySem.W.Frag} {te : TE} {σ : St} {Q : VK} {H : Hp}
theorem k_iSeq {R : It → Hp → Prop} (h : te σ H fun x H1 => ∃ a, x = .ref a ∧ (((∃ xs, SqL K H1 a xs) ∧ R (Itl K a) H1) ∨ ((∃ xs, SqT K H1 a xs) ∧ R (Itt K a) H1))) : iSeq K te σ H R := h
theorem k_all {a : Addr} {bs : List Bool} (e : SqL K H a (bs.map V.bl)) (h : Q (.bl (bs.all id)) H) : rAll K [.ref a] H Q := ⟨a, bs, rfl, e, h⟩
theorem k_any {a : Addr} {bs : List Bool} (e : SqL K H a (bs.map V.bl)) (h : Q (.bl (bs.any id)) H) : rAny K [.ref a] H Q := ⟨a, bs, rfl, e, h⟩
theorem AccZ.bls {H0 : Hp} {l : Addr} {bs : List Bool} (A : AccZ K H0 l H (bs.map PySem.W.Dat.bool)) : SqL K H l (bs.map V.bl) := by
  obtain ⟨xs, h1, h2⟩ := A.at_
  have : ∀ {vs : List V} {bs : List Bool}, RzL K H vs (bs.map PySem.W.Dat.bool) → vs = bs.map V.bl := by
    intro vs bs
    induction bs generalizing vs with
    | nil => intro h; cases h; rfl
    | cons b bs ih =>
      intro h
      cases h with
      | cons h1 h2 =>
        cases h1
        rw [ih h2]
        rfl
  rw [this h2] at h1
  exact SqL.of h1
end
end L2

namespace Gd
/-- the greatest number that divides both, as an int -/
def gd (a b : Int) : Int := (Int.gcd a b : Nat)
theorem gd_turn (a b : Int) : gd b (Int.fmod a b) = gd a b := by
  unfold gd
  have e : Int.fmod a b = a + b * (-(Int.fdiv a b)) := by
    rw [Int.fmod_def, Int.mul_neg]; omega
  rw [e, Int.gcd_add_mul_left_right, Int.gcd_comm]
theorem gd_less {a b : Int} (h : b ≠ 0) : (Int.fmod a b).natAbs < b.natAbs := by
  rcases (by omega : 0 < b ∨ b < 0) with p | p
  · have h1 := Int.fmod_nonneg_of_pos a p
    have h2 := Int.fmod_lt_of_pos a p
    omega
  · have e : Int.fmod a b = -(Int.fmod (-a) (-b)) := by
      rw [Int.fmod_def, Int.fmod_def, Int.neg_fdiv_neg]
      rw [Int.neg_mul]; omega
    have h1 := Int.fmod_nonneg_of_pos (-a) (b := -b) (by omega)
    have h2 := Int.fmod_lt_of_pos (-a) (b := -b) (by omega)
    omega
theorem gd_zero (a : Int) : gd a 0 = (a.natAbs : Int) := by
  unfold gd
  rw [Int.gcd_zero_right]
theorem gd_out (a : Int) : (if a < 0 then -a else a) = gd a 0 := by
  rw [gd_zero]; split <;> omega
theorem gd_pos {a b : Int} (h : b ≠ 0) : 0 < gd a b := by
  unfold gd
  have : Int.gcd a b ≠ 0 := fun e => h (Int.gcd_eq_zero_iff.mp e).2
  omega
theorem gd_le {a b : Int} (h : b ≠ 0) : gd a b ≤ (b.natAbs : Int) := by
  unfold gd
  have := Int.gcd_le_natAbs_right a h
  omega
/-- what a fraction is: by d = gd, with the bottom's sign -/
structure Low (top bottom q p : Int) : Prop where
  pos : 0 < p
  low : gd q p = 1
  worth : q * bottom = top * p
theorem low_of {t b d : Int} (hb : b ≠ 0) (hd : d = gd t b ∧ 0 < b ∨ d = - gd t b ∧ b < 0) : Low t b (Int.fdiv t d) (Int.fdiv b d) := by
  have gp := gd_pos (a := t) hb
  have d1 : gd t b ∣ t := Int.gcd_dvd_left t b
  have d2 : gd t b ∣ b := Int.gcd_dvd_right t b
  have e1 : d ∣ t := by rcases hd with ⟨e, _⟩ | ⟨e, _⟩ <;> rw [e]; exact d1; exact Int.neg_dvd.mpr d1
  have e2 : d ∣ b := by rcases hd with ⟨e, _⟩ | ⟨e, _⟩ <;> rw [e]; exact d2; exact Int.neg_dvd.mpr d2
  have d0 : d ≠ 0 := by rcases hd with ⟨e, _⟩ | ⟨e, _⟩ <;> omega
  obtain ⟨q, rfl⟩ := e1
  obtain ⟨p, rfl⟩ := e2
  rw [Int.mul_fdiv_cancel_left _ d0, Int.mul_fdiv_cancel_left _ d0]
  refine ⟨?_, ?_, ?_⟩
  · rcases hd with ⟨e, z⟩ | ⟨e, z⟩
    · exact Int.pos_of_mul_pos_right z (by omega) |> fun h => h
    · have z' : 0 < (-d) * p := by rw [Int.neg_mul]; omega
      exact Int.pos_of_mul_pos_right z' (by omega)
  · have m : gd (d * q) (d * p) = (d.natAbs : Int) * gd q p := by
      unfold gd; rw [Int.gcd_mul_left]; simp
    have n : gd (d * q) (d * p) = (d.natAbs : Int) := by
      rcases hd with ⟨e, z⟩ | ⟨e, z⟩ <;> omega
    rw [n] at m
    have k : (d.natAbs : Int) * gd q p = (d.natAbs : Int) * 1 := by omega
    exact Int.eq_of_mul_eq_mul_left (by omega) k
  · rw [← Int.mul_assoc, Int.mul_comm q d]
theorem fdiv_abs {t d : Int} (h : d ≠ 0) (hd : d ∣ t) : (Int.fdiv t d).natAbs ≤ t.natAbs := by
  obtain ⟨q, rfl⟩ := hd
  rw [Int.mul_fdiv_cancel_left _ h, Int.natAbs_mul]
  exact Nat.le_mul_of_pos_left _ (by omega)
theorem low_abs {t b d : Int} (hb : b ≠ 0) (hd : d = gd t b ∧ 0 < b ∨ d = - gd t b ∧ b < 0) : (Int.fdiv t d).natAbs ≤ t.natAbs ∧ (Int.fdiv b d).natAbs ≤ b.natAbs := by
  have gp := gd_pos (a := t) hb
  have d1 : gd t b ∣ t := Int.gcd_dvd_left t b
  have d2 : gd t b ∣ b := Int.gcd_dvd_right t b
  have d0 : d ≠ 0 := by rcases hd with ⟨e, _⟩ | ⟨e, _⟩ <;> omega
  refine ⟨fdiv_abs d0 ?_, fdiv_abs d0 ?_⟩
  · rcases hd with ⟨e, _⟩ | ⟨e, _⟩ <;> rw [e]; exact d1; exact Int.neg_dvd.mpr d1
  · rcases hd with ⟨e, _⟩ | ⟨e, _⟩ <;> rw [e]; exact d2; exact Int.neg_dvd.mpr d2
theorem wide {i : Int} (h : i.natAbs < 10000000000000000000000000000000000000001) : i.natAbs < 2 ^ 9000 :=
  Nat.lt_of_lt_of_le h (by
    have : 10000000000000000000000000000000000000001 ≤ 2 ^ 133 := by decide
    exact Nat.le_trans this (Nat.pow_le_pow_right (by decide) (by decide)))
end Gd

namespace Fr
open PySem L2
abbrev Sm (i : Int) : Prop := i.natAbs < 10000000000000000000000000000000000000001
def spDiv : Sp := fun vs H Q _ => ∃ a b : Int, vs = [.int a, .int b] ∧ Q (.int (Gd.gd a b)) H
/-- a fraction stands there -/
def IsFr (K : PySem.W.Frag) (H : Hp) (p : Addr) (a b : Int) : Prop := SqT K H p [.int a, .int b] ∧ Sm a ∧ Sm b ∧ 0 < b ∧ Gd.gd a b = 1
theorem IsFr.same {K : PySem.W.Frag} {H H' : Hp} {p : Addr} {a b : Int} (h : IsFr K H p a b) (e : Same H H') : IsFr K H' p a b := ⟨e.seqT h.1, h.2⟩
theorem len_div {vs : List V} {H : Hp} {Q : VK} {E : XK} {y z : Str} (h : spDiv vs H Q E) : vs.length = [y, z].length := by
  obtain ⟨a, b, rfl, _⟩ := h
  rfl
end Fr

namespace Fr
open PySem L2
open PySem.W (Dat kqdOk)
abbrev Wd (i : Int) : Prop := i.natAbs < 2 ^ 9000
theorem Sm.wd {i : Int} (h : Sm i) : Wd i := Gd.wide h
def cellOf (ns : List Int) (k : Int) : Int := (ns[k.toNat]?).getD 0
def spCell (K : PySem.W.Frag) : Sp := fun vs H Q _ => ∃ (a : Addr) (ns : List Int) (k : Int), vs = [.ref a, .int k] ∧ SqL K H a (ns.map V.int) ∧ 0 ≤ k ∧ Q (.int (cellOf ns k)) H
theorem len_cell {K : PySem.W.Frag} {vs : List V} {H : Hp} {Q : VK} {E : XK} {y z : Str} (h : spCell K vs H Q E) : vs.length = [y, z].length := by
  obtain ⟨a, ns, k, rfl, _⟩ := h
  rfl
def tCell (K : PySem.W.Frag) : TS := (tSeq (tIfS (tTest (tOp rLt (tVar 1) (tCB (rLenQ K) (tCons (tVar 0) tNil))))
  (tRet (tOp (rIxL K) (tVar 0) (tVar 1)))
  tNext)
  (tRet (tC (.int 0))))
theorem rd_cell {K : PySem.W.Frag} {a : Addr} {ns : List Int} {k : Int} {H : Hp} {D : Ends} (hS : SqL K H a (ns.map V.int)) (h0 : 0 ≤ k) (q : D.rt (.int (cellOf ns k)) H) : tCell K D [some (.ref a), some (.int k)] H := by
  have el : (ns.map V.int).length = ns.length := List.length_map _
  refine ⟨_, rfl, _, rfl, a, _, rfl, .inl hS, _, _, rfl, rfl, _, rfl, iteD (fun c => ?_) (fun c => ?_)⟩
  · rw [el] at c
    have hk : k.toNat < ns.length := by omega
    have e : k = ((k.toNat : Nat) : Int) := by omega
    have z : cellOf ns k = ns[k.toNat] := by
      unfold cellOf
      rw [List.getElem?_eq_getElem hk]
      rfl
    have w : atI (ns.map V.int) ((k.toNat : Nat) : Int) = some (.int ns[k.toNat]) := atI_nat (by rw [List.getElem?_map]; simp [hk])
    rw [← e] at w
    rw [z] at q
    exact ⟨_, rfl, _, rfl, a, _, _, _, rfl, rfl, hS, w, q⟩
  · rw [el] at c
    have z : cellOf ns k = 0 := by
      unfold cellOf
      rw [List.getElem?_eq_none (by omega)]
      rfl
    rw [z] at q
    exact q
end Fr

namespace Kd
open PySem L2
end Kd

namespace Ex0
open PySem L2 Fr Kd
/-- which names the refusals have: the classes' addresses -/
structure Ad where
  V : Addr
  c0 : Addr
  c1 : Addr
  c2 : Addr
  c3 : Addr
  c4 : Addr
  c5 : Addr
  c6 : Addr
  c7 : Addr
  c8 : Addr
  c9 : Addr
  c10 : Addr
  c11 : Addr
  c12 : Addr
  c13 : Addr
/-- what the top has made of the classes -/
structure Exs (K : PySem.W.Frag) (mg : Str → Option Value) (x : Ad) : Prop where
  v : ExcV K mg "VesselError" x.V
  n0 : ExcC K mg "NoFraction" x.c0 [.type "ValueError", .type "Exception", .type "BaseException", .type "object"] "ValueError.__new__"
  s0 : SubC K x.c0 x.V
  a0 : ExcA K x.c0
  m1 : mg "NoStuffs" = some (.ref x.c1)
  m2 : mg "NoHeap" = some (.ref x.c2)
  m3 : mg "NoPace" = some (.ref x.c3)
  m4 : mg "NoTurnings" = some (.ref x.c4)
  m5 : mg "NoTurning" = some (.ref x.c5)
  m6 : mg "NoText" = some (.ref x.c6)
  m7 : mg "NotNow" = some (.ref x.c7)
  m8 : mg "TooMany" = some (.ref x.c8)
  m9 : mg "NoDrain" = some (.ref x.c9)
  m10 : mg "NotEven" = some (.ref x.c10)
  m11 : mg "NoStuff" = some (.ref x.c11)
  m12 : mg "NoPieces" = some (.ref x.c12)
  m13 : mg "NoDeed" = some (.ref x.c13)
  mv : mg "ValueError" = none
  k0 : KitE K x.c0 (.ref x.c0) true
  k1 : KitE K x.c0 (.ref x.c1) false
  k2 : KitE K x.c0 (.ref x.c2) false
  k3 : KitE K x.c0 (.ref x.c3) false
  k4 : KitE K x.c0 (.ref x.c4) false
  k5 : KitE K x.c0 (.ref x.c5) false
  k6 : KitE K x.c0 (.ref x.c6) false
  k7 : KitE K x.c0 (.ref x.c7) false
  k8 : KitE K x.c0 (.ref x.c8) false
  k9 : KitE K x.c0 (.ref x.c9) false
  k10 : KitE K x.c0 (.ref x.c10) false
  k11 : KitE K x.c0 (.ref x.c11) false
  k12 : KitE K x.c0 (.ref x.c12) false
  k13 : KitE K x.c0 (.ref x.c13) false
  kv : KitE K x.c0 (.ty "ValueError") true
end Ex0

namespace L2
open PySem PySem.SetTable
def tb0 (m : Nat) : SetTable := { mask := m, place := #[], dummies := #[], finger := 0, led := true, moves := 0, plain := true }
def adv (m : Nat) (p : Probe) : Probe := (tb0 m).advance p
def st (m : Nat) (h : Int) : Probe := (tb0 m).probeStart h
def wlk (m : Nat) : Nat → Probe → Probe
  | 0, p => p
  | n + 1, p => wlk m n (adv m p)
theorem wlk_add (m : Nat) : ∀ (a b : Nat) (p : Probe), wlk m (a + b) p = wlk m b (wlk m a p)
  | 0, b, p => by rw [Nat.zero_add]; rfl
  | a + 1, b, p => by rw [show a + 1 + b = (a + b) + 1 by omega]; exact wlk_add m a b (adv m p)
theorem wlk_succ (m n : Nat) (p : Probe) : wlk m (n + 1) p = adv m (wlk m n p) := by rw [wlk_add m n 1 p]; rfl
def lp (m : Nat) (x : Nat × Nat) : Nat × Nat := leap m x.1 x.2
def lps (m : Nat) : Nat → Nat × Nat → Nat × Nat
  | 0, x => x
  | n + 1, x => lps m n (lp m x)
theorem adv_more_pos {m : Nat} {p : Probe} (h : 0 < p.more) : adv m p = { p with j := p.j + 1, more := p.more - 1 } := by unfold adv SetTable.advance; rw [if_pos h]
theorem adv_more_zero {m : Nat} {p : Probe} (h : p.more = 0) : adv m p = { p with j := (lp m (p.i, p.perturb)).1, more := runEnd m (lp m (p.i, p.perturb)).1 - (lp m (p.i, p.perturb)).1, i := (lp m (p.i, p.perturb)).1, perturb := (lp m (p.i, p.perturb)).2 } := by
  unfold adv SetTable.advance
  rw [if_neg (by omega)]
  rfl
theorem lps_add (m : Nat) : ∀ (a b : Nat) (x : Nat × Nat), lps m (a + b) x = lps m b (lps m a x)
  | 0, b, x => by rw [Nat.zero_add]; rfl
  | a + 1, b, x => by rw [show a + 1 + b = (a + b) + 1 by omega]; exact lps_add m a b (lp m x)
theorem lps_perturb (m : Nat) : ∀ (a : Nat) (x : Nat × Nat), (lps m a x).2 = x.2 / 32 ^ a
  | 0, x => by simp [lps]
  | a + 1, x => by
    rw [lps, lps_perturb m a]
    show x.2 / 32 / 32 ^ a = x.2 / 32 ^ (a + 1)
    rw [Nat.div_div_eq_div_mul, Nat.pow_succ, Nat.mul_comm]
theorem lps_lt (m : Nat) : ∀ (a : Nat) (x : Nat × Nat), (lps m (a + 1) x).1 < m + 1
  | 0, x => Nat.mod_lt _ (Nat.succ_pos _)
  | a + 1, x => lps_lt m a (lp m x)
def lc (m : Nat) : Nat → Nat → Nat
  | 0, i => i
  | n + 1, i => lc m n ((i * 5 + 1) % (m + 1))
theorem lps_zero (m : Nat) : ∀ (a i : Nat), (lps m a (i, 0)).1 = lc m a i
  | 0, _ => rfl
  | a + 1, i => by
    have e : lp m (i, 0) = ((i * 5 + 1) % (m + 1), 0) := by unfold lp leap; simp
    rw [lps, e, lps_zero m a]; rfl
def Full (m : Nat) : Prop := ∀ i, i < m + 1 → ∀ j, j < m + 1 → ∃ k, k < m + 1 ∧ lc m k i = j
def fullB (m : Nat) : Bool := (List.range (m + 1)).all fun i => (List.range (m + 1)).all fun j => (List.range (m + 1)).any fun k => lc m k i == j
theorem full_of {m : Nat} (h : fullB m = true) : Full m := by
  intro i hi j hj
  have h1 := List.all_eq_true.mp h i (List.mem_range.mpr hi)
  have h2 := List.all_eq_true.mp h1 j (List.mem_range.mpr hj)
  obtain ⟨k, h3, h4⟩ := List.any_eq_true.mp h2
  exact ⟨k, List.mem_range.mp h3, by simpa using h4⟩
theorem full7 : Full 7 := full_of (by decide +kernel)
theorem bits_lt (h : Int) : bits h < 2 ^ 64 := by unfold bits; omega
theorem st_perturb (m : Nat) (h : Int) : (st m h).perturb < 2 ^ 64 := bits_lt h
end L2
namespace L2
open PySem PySem.SetTable
/-- below: how many are less -/
theorem below_go (xs : Array Nat) (j : Nat) (hs : ∀ a b, a < b → b < xs.size → xs.getD a j < xs.getD b j) : ∀ (fuel lo hi : Nat), lo ≤ hi → hi ≤ xs.size → hi - lo ≤ fuel → (∀ k, k < lo → xs.getD k j < j) → (∀ k, hi ≤ k → k < xs.size → ¬ xs.getD k j < j) →
    lo ≤ below.go xs j fuel lo hi ∧ below.go xs j fuel lo hi ≤ xs.size ∧ (∀ k, k < below.go xs j fuel lo hi → xs.getD k j < j) ∧ (∀ k, below.go xs j fuel lo hi ≤ k → k < xs.size → ¬ xs.getD k j < j)
  | 0, lo, hi, h1, h2, h3, h4, h5 => by
    have : lo = hi := by omega
    subst this
    exact ⟨Nat.le_refl _, h2, h4, h5⟩
  | fuel + 1, lo, hi, h1, h2, h3, h4, h5 => by
    unfold below.go
    by_cases hl : lo < hi
    · rw [if_pos hl]
      show lo ≤ (if xs.getD ((lo + hi) / 2) j < j then _ else _) ∧ _
      by_cases hm : xs.getD ((lo + hi) / 2) j < j
      · rw [if_pos hm]
        have := below_go xs j hs fuel ((lo + hi) / 2 + 1) hi (by omega) h2 (by omega) (fun k hk => by
          rcases Nat.lt_or_ge k ((lo + hi) / 2) with g | g
          · exact Nat.lt_trans (hs k _ g (by omega)) hm
          · have : k = (lo + hi) / 2 := by omega
            rw [this]; exact hm) h5
        exact ⟨by omega, this.2⟩
      · rw [if_neg hm]
        exact below_go xs j hs fuel lo ((lo + hi) / 2) (by omega) (by omega) (by omega) h4 (fun k h6 h7 h8 => by
          rcases Nat.lt_or_ge ((lo + hi) / 2) k with g | g
          · exact hm (Nat.lt_trans (hs _ k g h7) h8)
          · have : k = (lo + hi) / 2 := by omega
            rw [this] at h8; exact hm h8)
    · rw [if_neg hl]
      have : lo = hi := by omega
      subst this
      exact ⟨Nat.le_refl _, h2, h4, h5⟩
def Srt (l : List Nat) : Prop := l.Pairwise (· < ·)
theorem srt_getD {l : List Nat} (h : Srt l) (d : Nat) : ∀ a b, a < b → b < l.toArray.size → l.toArray.getD a d < l.toArray.getD b d := by
  intro a b h1 h2
  have h3 : b < l.length := by simpa using h2
  have := List.pairwise_iff_getElem.mp h a b (by omega) h3 h1
  simpa [Array.getD, h3, show a < l.length by omega] using this
theorem below_spec {l : List Nat} (h : Srt l) (j : Nat) : below l.toArray j ≤ l.length ∧ (∀ k x, k < below l.toArray j → l[k]? = some x → x < j) ∧ (∀ k x, below l.toArray j ≤ k → l[k]? = some x → j ≤ x) := by
  have := below_go l.toArray j (srt_getD h j) l.toArray.size 0 l.toArray.size (by omega) (Nat.le_refl _) (by omega) (fun k hk => absurd hk (by omega)) (fun k h1 h2 => absurd h2 (by omega))
  obtain ⟨_, h2, h3, h4⟩ := this
  have gd : ∀ k x, l[k]? = some x → k < l.length ∧ l.toArray.getD k j = x := by
    intro k x hx
    obtain ⟨hk, e⟩ := List.getElem?_eq_some_iff.mp hx
    exact ⟨hk, by simp [Array.getD, hk, e]⟩
  refine ⟨by unfold below; simpa using h2, ?_, ?_⟩
  · intro k x hk hx
    have := h3 k hk
    rw [(gd k x hx).2] at this; exact this
  · intro k x hk hx
    have := h4 k hk (by simpa using (gd k x hx).1)
    rw [(gd k x hx).2] at this; omega
theorem srt_ins {l : List Nat} (h : Srt l) {j : Nat} (hj : j ∉ l) : Srt (l.take (below l.toArray j) ++ j :: l.drop (below l.toArray j)) := by
  obtain ⟨h1, h2, h3⟩ := below_spec h j
  have ht : ∀ x ∈ l.take (below l.toArray j), x < j := by
    intro x hx
    obtain ⟨k, hk, e⟩ := List.mem_take_iff_getElem.mp hx
    exact h2 k x (by omega) (by rw [← e]; exact List.getElem?_eq_getElem _)
  have hd : ∀ x ∈ l.drop (below l.toArray j), j < x := by
    intro x hx
    obtain ⟨k, hk, e⟩ := List.mem_drop_iff_getElem.mp hx
    have := h3 (below l.toArray j + k) x (by omega) (by rw [← e]; exact List.getElem?_eq_getElem _)
    have hne : x ≠ j := fun e2 => hj (e2 ▸ List.mem_of_mem_drop hx)
    omega
  unfold Srt
  rw [List.pairwise_append]
  refine ⟨List.Pairwise.sublist (List.take_sublist _ _) h, ?_, ?_⟩
  · rw [List.pairwise_cons]
    exact ⟨hd, List.Pairwise.sublist (List.drop_sublist _ _) h⟩
  · intro a ha b hb
    rcases List.mem_cons.mp hb with rfl | hb
    · exact ht a ha
    · exact Nat.lt_trans (ht a ha) (hd b hb)
theorem insertAt_list {α : Type} (l : List α) (p : Nat) (x : α) (_hp : p ≤ l.length) : insertAt l.toArray p x = (l.take p ++ x :: l.drop p).toArray := by
  unfold insertAt
  apply Array.ext'
  simp [List.extract_eq_take_drop]
  rw [List.take_of_length_le (by simp)]
/-- the walk stays in the table -/
theorem adv_le {m : Nat} {p : Probe} (h : p.j + p.more ≤ m) : (adv m p).j + (adv m p).more ≤ m := by
  by_cases g : 0 < p.more
  · rw [adv_more_pos g]; show p.j + 1 + (p.more - 1) ≤ m; omega
  · rw [adv_more_zero (by omega)]
    have hl : (lp m (p.i, p.perturb)).1 < m + 1 := Nat.mod_lt _ (Nat.succ_pos _)
    show (lp m (p.i, p.perturb)).1 + (runEnd m (lp m (p.i, p.perturb)).1 - (lp m (p.i, p.perturb)).1) ≤ m
    unfold runEnd; split <;> omega
theorem wlk_le (m : Nat) : ∀ (n : Nat) {p : Probe}, p.j + p.more ≤ m → (wlk m n p).j + (wlk m n p).more ≤ m
  | 0, _, h => h
  | n + 1, _, h => wlk_le m n (adv_le h)
theorem st_le (m : Nat) (h : Int) : (st m h).j + (st m h).more ≤ m := by
  have hl : bits h % (m + 1) < m + 1 := Nat.mod_lt _ (Nat.succ_pos _)
  show bits h % (m + 1) + (runEnd m (bits h % (m + 1)) - bits h % (m + 1)) ≤ m
  unfold runEnd; split <;> omega
def at_ (m : Nat) (h : Int) (n : Nat) : Nat := (wlk m n (st m h)).j
theorem at_le (m : Nat) (h : Int) (n : Nat) : at_ m h n ≤ m := by have := wlk_le m n (st_le m h); unfold at_; omega
structure Lain (t : SetTable) (l : List Nat) (hs : List Int) : Prop where
  full : Full t.mask
  place : t.place = l.toArray
  nodum : t.dummies = #[]
  size : l.length = hs.length
  srt : Srt l
  le : ∀ j ∈ l, j ≤ t.mask
  fill : l.length ≤ t.mask
  met : ∀ (i j : Nat) (h : Int), l[i]? = some j → hs[i]? = some h → ∃ n, at_ t.mask h n = j ∧ ∀ k, k < n → at_ t.mask h k ∈ l
end L2
namespace L2
open PySem PySem.SetTable
theorem mem_ins {α : Type} {l : List α} {p : Nat} {x y : α} : y ∈ l.take p ++ x :: l.drop p ↔ y = x ∨ y ∈ l := by
  rw [List.mem_append, List.mem_cons]
  constructor
  · rintro (h | h | h)
    · exact .inr (List.mem_of_mem_take h)
    · exact .inl h
    · exact .inr (List.mem_of_mem_drop h)
  · rintro (h | h)
    · exact .inr (.inl h)
    · rw [← List.take_append_drop p l, List.mem_append] at h
      rcases h with h | h
      · exact .inl h
      · exact .inr (.inr h)
theorem get_ins {α : Type} {l : List α} {p : Nat} (hp : p ≤ l.length) (x : α) (i : Nat) : (l.take p ++ x :: l.drop p)[i]? = if i < p then l[i]? else if i = p then some x else l[i - 1]? := by
  have ht : (l.take p).length = p := by rw [List.length_take]; omega
  by_cases h1 : i < p
  · rw [if_pos h1, List.getElem?_append_left (by omega), List.getElem?_take, if_pos h1]
  · rw [if_neg h1, List.getElem?_append_right (by omega), ht]
    by_cases h2 : i = p
    · rw [if_pos h2, h2, Nat.sub_self]; rfl
    · rw [if_neg h2, show i - p = (i - p - 1) + 1 by omega, List.getElem?_cons_succ, List.getElem?_drop]
      congr 1; omega
theorem Lain.put {t : SetTable} {l : List Nat} {hs : List Int} (L : Lain t l hs) {h : Int} {n : Nat} (hn : at_ t.mask h n ∉ l) (hk : ∀ k, k < n → at_ t.mask h k ∈ l) (hm : l.length + 1 ≤ t.mask) :
    ∃ p, p ≤ l.length ∧ (t.put (at_ t.mask h n)).2 = p ∧ Lain (t.put (at_ t.mask h n)).1 (l.take p ++ at_ t.mask h n :: l.drop p) (hs.take p ++ h :: hs.drop p) ∧ (t.put (at_ t.mask h n)).1.mask = t.mask ∧ (t.put (at_ t.mask h n)).1.led = t.led ∧ (t.put (at_ t.mask h n)).1.plain = t.plain ∧ (t.put (at_ t.mask h n)).1.moves = t.moves := by
  have hb := (below_spec L.srt (at_ t.mask h n)).1
  have hp2 : (t.put (at_ t.mask h n)).2 = below l.toArray (at_ t.mask h n) := by unfold SetTable.put; rw [L.place]
  have hp1 : (t.put (at_ t.mask h n)).1 = { t with place := (l.take (below l.toArray (at_ t.mask h n)) ++ at_ t.mask h n :: l.drop (below l.toArray (at_ t.mask h n))).toArray } := by
    unfold SetTable.put
    show ({ t with place := _, dummies := _ } : SetTable) = _
    rw [L.place, L.nodum, insertAt_list _ _ _ hb, if_neg (by simp [has, below, below.go])]
  refine ⟨below l.toArray (at_ t.mask h n), hb, hp2, ?_, by rw [hp1], by rw [hp1], by rw [hp1], by rw [hp1]⟩
  rw [hp1]
  have hbh : below l.toArray (at_ t.mask h n) ≤ hs.length := by rw [← L.size]; exact hb
  refine ⟨L.full, rfl, L.nodum, ?_, srt_ins L.srt hn, ?_, ?_, ?_⟩
  · simp only [List.length_append, List.length_cons, List.length_take, List.length_drop, L.size]
  · intro j hj
    rcases mem_ins.mp hj with rfl | hj
    · exact at_le _ _ _
    · exact L.le j hj
  · simp only [List.length_append, List.length_cons, List.length_take, List.length_drop]
    show _ ≤ t.mask; omega
  · intro i j h' hi hj
    rw [get_ins hb] at hi
    rw [get_ins hbh] at hj
    by_cases g1 : i < below l.toArray (at_ t.mask h n)
    · rw [if_pos g1] at hi hj
      obtain ⟨m, h1, h2⟩ := L.met i j h' hi hj
      exact ⟨m, h1, fun k hk => mem_ins.mpr (.inr (h2 k hk))⟩
    · rw [if_neg g1] at hi hj
      by_cases g2 : i = below l.toArray (at_ t.mask h n)
      · rw [if_pos g2] at hi hj
        cases hi; cases hj
        exact ⟨n, rfl, fun k hk' => mem_ins.mpr (.inr (hk k hk'))⟩
      · rw [if_neg g2] at hi hj
        obtain ⟨m, h1, h2⟩ := L.met (i - 1) j h' hi hj
        exact ⟨m, h1, fun k hk => mem_ins.mpr (.inr (h2 k hk))⟩
theorem Lain.plain {t : SetTable} {l : List Nat} {hs : List Int} (L : Lain t l hs) (b : Bool) : Lain { t with plain := b } l hs := ⟨L.full, L.place, L.nodum, L.size, L.srt, L.le, L.fill, L.met⟩
theorem Lain.led {t : SetTable} {l : List Nat} {hs : List Int} (L : Lain t l hs) (b : Bool) : Lain { t with led := b } l hs := ⟨L.full, L.place, L.nodum, L.size, L.srt, L.le, L.fill, L.met⟩
theorem Lain.fresh (f m : Nat) (b : Bool) : Lain (.fresh f m b) [] [] := ⟨full7, rfl, rfl, rfl, List.Pairwise.nil, fun j h => absurd h (by simp), Nat.zero_le _, fun i j h hi => absurd hi (by simp)⟩
theorem run_at (m : Nat) : ∀ (k : Nat) (p : Probe), k ≤ p.more → (wlk m k p).j = p.j + k ∧ (wlk m k p).more = p.more - k ∧ (wlk m k p).i = p.i ∧ (wlk m k p).perturb = p.perturb
  | 0, p, _ => ⟨rfl, rfl, rfl, rfl⟩
  | k + 1, p, h => by
    rw [wlk, adv_more_pos (by omega)]
    obtain ⟨h1, h2, h3, h4⟩ := run_at m k { p with j := p.j + 1, more := p.more - 1 } (by show k ≤ p.more - 1; omega)
    refine ⟨h1.trans ?_, h2.trans ?_, h3, h4⟩
    · show p.j + 1 + k = p.j + (k + 1); omega
    · show p.more - 1 - k = p.more - (k + 1); omega
/-- the first free place of the walk, run by run -/
theorem free_at (m : Nat) (owner : Array (Option Nat)) (ho : owner.size = m + 1) : ∀ (fuel : Nat) (p : Probe), p.j = p.i → p.more = runEnd m p.i - p.i → p.j + p.more ≤ m →
    (∃ a, a < fuel ∧ owner[(lps m a (p.i, p.perturb)).1]? = some none) →
    ∃ n, layClean.free m owner fuel p.i p.perturb = some (wlk m n p).j ∧ owner[(wlk m n p).j]? = some none ∧ ∀ k, k < n → ∃ w, owner[(wlk m k p).j]? = some (some w)
  | 0, _, _, _, _, ⟨_, h, _⟩ => absurd h (by omega)
  | fuel + 1, p, hj, hmore, hle, ⟨a, ha, hf⟩ => by
    have hlen : runEnd m p.i + 1 - p.i = p.more + 1 := by rw [hmore]; unfold runEnd; split <;> omega
    unfold layClean.free
    rw [hlen]
    have hget : ∀ k, k ≤ p.more → ∃ w, owner[(wlk m k p).j]? = some w ∧ owner.getD (p.i + k) (some 0) = w := by
      intro k hk
      obtain ⟨e1, _⟩ := run_at m k p hk
      have hlt : p.i + k < owner.size := by rw [ho]; omega
      refine ⟨owner[p.i + k], ?_, ?_⟩
      · rw [e1, hj]; exact Array.getElem?_eq_getElem hlt
      · simp [Array.getD, hlt]
    cases hfd : (List.range (p.more + 1)).find? (fun k => (owner.getD (p.i + k) (some 0)).isNone) with
    | some k =>
      rw [List.find?_range_eq_some] at hfd
      obtain ⟨h1, h2, h3⟩ := hfd
      have hk : k ≤ p.more := by have := List.mem_range.mp h2; omega
      refine ⟨k, ?_, ?_, ?_⟩
      · obtain ⟨e1, _⟩ := run_at m k p hk
        show some (p.i + k) = _
        rw [e1, hj]
      · obtain ⟨w, g1, g2⟩ := hget k hk
        rw [g1]
        rw [g2] at h1
        cases w with
        | none => rfl
        | some w => cases h1
      · intro k' hk'
        obtain ⟨w, g1, g2⟩ := hget k' (by omega)
        have := h3 k' hk'
        rw [g2] at this
        cases w with
        | none => simp at this
        | some w => exact ⟨w, g1⟩
    | none =>
      rw [List.find?_eq_none] at hfd
      have hall : ∀ k, k ≤ p.more → ∃ w, owner[(wlk m k p).j]? = some (some w) := by
        intro k hk
        obtain ⟨w, g1, g2⟩ := hget k hk
        have := hfd k (List.mem_range.mpr (by omega))
        rw [g2] at this
        cases w with
        | none => simp at this
        | some w => exact ⟨w, g1⟩
      have hq : ∃ q, wlk m (p.more + 1) p = q ∧ q.i = (lp m (p.i, p.perturb)).1 ∧ q.perturb = (lp m (p.i, p.perturb)).2 ∧ q.j = q.i ∧ q.more = runEnd m q.i - q.i ∧ q.j + q.more ≤ m := by
        obtain ⟨e1, e2, e3, e4⟩ := run_at m p.more p (Nat.le_refl _)
        refine ⟨_, rfl, ?_⟩
        rw [wlk_succ, adv_more_zero (by omega), e3, e4]
        refine ⟨rfl, rfl, rfl, rfl, ?_⟩
        have hl : (lp m (p.i, p.perturb)).1 < m + 1 := Nat.mod_lt _ (Nat.succ_pos _)
        show (lp m (p.i, p.perturb)).1 + (runEnd m (lp m (p.i, p.perturb)).1 - (lp m (p.i, p.perturb)).1) ≤ m
        unfold runEnd; split <;> omega
      obtain ⟨q, hq0, hq1, hq2, hq3, hq4, hq5⟩ := hq
      have hne : a ≠ 0 := by
        intro e
        subst e
        obtain ⟨w, hw⟩ := hall 0 (Nat.zero_le _)
        have e2 : (wlk m 0 p).j = (lps m 0 (p.i, p.perturb)).1 := hj
        rw [e2, hf] at hw; cases hw
      obtain ⟨a', rfl⟩ : ∃ a', a = a' + 1 := ⟨a - 1, by omega⟩
      obtain ⟨n, g1, g2, g3⟩ := free_at m owner ho fuel q hq3 hq4 hq5 ⟨a', by omega, by rw [hq1, hq2]; exact hf⟩
      refine ⟨p.more + 1 + n, ?_, ?_, ?_⟩
      · rw [wlk_add, hq0, ← g1, hq1, hq2]; rfl
      · rw [wlk_add, hq0]; exact g2
      · intro k hk
        by_cases g : k ≤ p.more
        · exact hall k g
        · obtain ⟨w, hw⟩ := g3 (k - (p.more + 1)) (by omega)
          refine ⟨w, ?_⟩
          rw [← hw, ← hq0, ← wlk_add, show p.more + 1 + (k - (p.more + 1)) = k by omega]
end L2
namespace L2
open PySem PySem.SetTable
structure Own (m : Nat) (H : List Int) (owner : Array (Option Nat)) (k : Nat) : Prop where
  size : owner.size = m + 1
  met : ∀ (j w : Nat), owner[j]? = some (some w) → w < k ∧ ∃ h, H[w]? = some h ∧ ∃ n, at_ m h n = j ∧ ∀ k', k' < n → ∃ w', owner[at_ m h k']? = some (some w')
  all : ∀ w, w < k → ∃ j : Nat, owner[j]? = some (some w)
  cnt : owner.toList.countP Option.isSome = k
theorem Own.zero (m : Nat) (H : List Int) : Own m H (Array.replicate (m + 1) none) 0 := by
  refine ⟨by simp, ?_, fun w hw => absurd hw (by omega), ?_⟩
  · intro j w h
    rw [Array.getElem?_replicate] at h
    split at h <;> simp at h
  · simp [List.countP_replicate]
theorem Own.free {m : Nat} {H : List Int} {owner : Array (Option Nat)} {k : Nat} (O : Own m H owner k) (hk : k < m + 1) : ∃ j, j < m + 1 ∧ owner[j]? = some none := by
  by_cases hx : ∃ j, j < m + 1 ∧ owner[j]? = some none
  · exact hx
  · exfalso
    have hall : ∀ x ∈ owner.toList, Option.isSome x = true := by
      intro x hx'
      obtain ⟨j, hj, e⟩ := List.mem_iff_getElem.mp hx'
      cases x with
      | some w => rfl
      | none =>
        have hj' : j < owner.size := by simpa using hj
        exact absurd ⟨j, by rw [← O.size]; exact hj', by rw [Array.getElem?_eq_getElem hj']; simpa using e⟩ hx
    have h1 := List.countP_eq_length.mpr hall
    rw [O.cnt, Array.length_toList, O.size] at h1
    omega
theorem Own.step {m : Nat} (F : Full m) {H : List Int} {owner : Array (Option Nat)} {k : Nat} (O : Own m H owner k) (hk : k < m + 1) {h : Int} (hh : H[k]? = some h) :
    ∃ j, layClean.free m owner (turns m) (bits h % (m + 1)) (bits h) = some j ∧ Own m H (owner.setIfInBounds j (some k)) (k + 1) := by
  obtain ⟨j, hj, hf⟩ := O.free hk
  obtain ⟨c, hc, ec⟩ := F (lps m 13 ((st m h).i, (st m h).perturb)).1 (lps_lt m 12 _) j hj
  have z : (lps m 13 ((st m h).i, (st m h).perturb)).2 = 0 := by
    rw [lps_perturb]
    exact Nat.div_eq_of_lt (Nat.lt_of_lt_of_le (st_perturb m h) (by decide))
  have e : (lps m (13 + c) ((st m h).i, (st m h).perturb)).1 = j := by
    rw [lps_add]
    have e2 : lps m 13 ((st m h).i, (st m h).perturb) = ((lps m 13 ((st m h).i, (st m h).perturb)).1, 0) := Prod.ext rfl z
    rw [e2, lps_zero]; exact ec
  obtain ⟨n, g1, g2, g3⟩ := free_at m owner O.size (turns m) (st m h) rfl rfl (st_le m h) ⟨13 + c, by unfold turns; omega, by rw [e]; exact hf⟩
  have hb : at_ m h n < owner.size := by rw [O.size]; have := at_le m h n; omega
  have keep : ∀ (i w : Nat), owner[i]? = some (some w) → (owner.setIfInBounds (at_ m h n) (some k))[i]? = some (some w) := by
    intro i w hi
    rw [Array.getElem?_setIfInBounds]
    split
    · rename_i e2
      subst e2
      exact absurd (hi.symm.trans g2) (by simp)
    · exact hi
  have new : (owner.setIfInBounds (at_ m h n) (some k))[at_ m h n]? = some (some k) := by rw [Array.getElem?_setIfInBounds]; simp [hb]
  refine ⟨at_ m h n, g1, by simp [O.size], ?_, ?_, ?_⟩
  · intro i w hi
    rw [Array.getElem?_setIfInBounds] at hi
    split at hi
    · rename_i e2
      subst e2
      cases hi
      exact ⟨by omega, h, hh, n, rfl, fun k' hk' => (g3 k' hk').elim fun w' hw' => ⟨w', keep _ _ hw'⟩⟩
    · obtain ⟨h1, h', h2, n', h3, h4⟩ := O.met i w hi
      exact ⟨by omega, h', h2, n', h3, fun k' hk' => (h4 k' hk').elim fun w' hw' => ⟨w', keep _ _ hw'⟩⟩
  · intro w hw
    by_cases g : w = k
    · exact ⟨at_ m h n, by rw [g]; exact new⟩
    · obtain ⟨i, hi⟩ := O.all w (by omega)
      exact ⟨i, keep i w hi⟩
  · rw [Array.toList_setIfInBounds, List.countP_set (by simpa using hb), O.cnt]
    have e3 : owner.toList[at_ m h n]'(by simpa using hb) = none := by
      have := (Array.getElem?_eq_getElem hb).symm.trans g2
      simpa using this
    rw [e3]; simp
end L2

namespace L2
open PySem PySem.Spec PyProof.Rows
mutual
def hkP : Nat → PyData → Bool
  | _, .int _ => true
  | _, .str _ => true
  | 0, .tuple _ => false
  | n + 1, .tuple xs => hkPs n xs
  | _, _ => false
def hkPs : Nat → List PyData → Bool
  | _, [] => true
  | n, x :: xs => hkP n x && hkPs n xs
end
mutual
def hashP (w : World) : PyData → Int
  | .int i => hashInt i
  | .str x => hashStr w x
  | .tuple xs => reduceHash (Builtin.Tuple.tupleHashOf (hashPs w xs))
  | _ => 0
def hashPs (w : World) : List PyData → List Int
  | [] => []
  | x :: xs => hashP w x :: hashPs w xs
end
section
variable {prog : Program} {w : World} {E : Value → Shared → Prop}
end
section
variable {prog : Program} {w : World} {A : Around} {E : Value → Shared → Prop}
/-- all members of a tuple have what each has -/
inductive AllV (p : Value → Prop) : List Value → Prop
  | nil : AllV p []
  | cons {v : Value} {vs : List Value} : p v → AllV p vs → AllV p (v :: vs)
end
end L2
namespace L2
open PySem PySem.Spec PyProof.Rows
open PySem.W (Dat kqdP kqdOk)
def Good (d : Dat) : Prop := kqdOk 8 d = true ∧ hkP 8 (kqdP d) = true ∧ ∃ xs, kqdP d = .tuple xs
section
variable {prog : Program} {w : World} {A : Around} {E : Value → Shared → Prop} {s : Shared}
/-- a member of the set's own -/
def Mb (w : World) (h : Heap) (e : Int × Value) (d : Dat) : Prop := Good d ∧ (∃ as, Reads h e.2 (kqdP d) as) ∧ e.1 = hashP w (kqdP d)
end
end L2
namespace L2
open PySem PySem.Spec PyProof.Rows
open PySem.W (Dat kqdP kqdOk)
open Classical in
noncomputable def cntR : List Dat → Nat
  | [] => 0
  | d :: ds => cntR ds + if d ∈ ds then 0 else 1
noncomputable def cnt (ds : List Dat) : Nat := cntR ds.reverse
theorem Mb.at {w : World} {h h' : Heap} {e : Int × Value} {d : Dat} (m : Mb w h e d) (k : ∀ b o, h.get? b = some o → h'.get? b = some o) : Mb w h' e d := by
  obtain ⟨g, ⟨as, r⟩, x⟩ := m
  exact ⟨g, ⟨as, Reads.keeps k r⟩, x⟩
section
variable {prog : Program} {w : World} {A : Around} {E : Value → Shared → Prop} {s : Shared}
end
end L2

namespace L2
open PySem PySem.Spec PyProof.Rows
open PySem.W (Dat kqdP kqdOk)
section
variable {prog : Program} {w : World} {A : Around} {R : Result → Shared → Prop} {I : Addr} {fp wr : List Addr} {n : Nat} {P : Nat → Value → Prop} {St : Nat → Heap → Prop}
end
namespace F
end F
def Kn.cls (k : Kn) : String := match k with
  | .L => "list"
  | .T => "tuple"
section
variable {prog : Program} {w : World} {A : Around} {E : Value → Shared → Prop} {s : Shared}
end
end L2

namespace L2
open PySem PySem.Spec PyProof.Rows
open PySem.W (Dat kqdP kqdOk)
end L2

namespace L2
open PySem PySem.Spec PyProof.Rows
def Ite (K : PySem.W.Frag) (a : Addr) : It :=
  ⟨fun i H => ∃ xs, SqL K H a xs ∧ i < xs.length, fun i H v H' => ∃ T x, H T = none ∧ v = .ref T ∧ H' = upd H T (.tup [.int i, x]) ∧ ∀ xs, SqL K H a xs → xs[i]? = some x, fun i H => ∃ xs, SqL K H a xs ∧ xs.length ≤ i⟩
def iEnum (K : PySem.W.Frag) (ta : TA) : TI := fun σ H R => ta σ H fun vs H1 => ∃ a xs, vs = [.ref a] ∧ SqL K H1 a xs ∧ R (Ite K a) H1
section
variable {X : Cx}
end
section
variable {K : PySem.W.Frag} {te : TE} {tc : TT} {σ : St} {Q : VK} {H : Hp} {D : Ends}
theorem k_enum {ta : TA} {R : It → Hp → Prop} (h : ta σ H fun vs H1 => ∃ a xs, vs = [.ref a] ∧ SqL K H1 a xs ∧ R (Ite K a) H1) : iEnum K ta σ H R := h
end
end L2

namespace L2
open PySem PySem.Spec PyProof.Rows
def rRepS : R2 := fun x y H Q => ∃ z i, x = .str z ∧ y = .int i ∧ (i = 0 ∨ i = 1) ∧ Q (.str (if i = 0 then Str.empty else z)) H
section
variable {X : Cx}
theorem op_repS : OpR X (binaryOp .Mult) rRepS := by
  intro pins s σ H x y v u Q I rx ry h
  obtain ⟨z, i, rfl, rfl, hi, q⟩ := h
  obtain ⟨t, rfl⟩ := rx
  obtain ⟨t', rfl⟩ := ry
  rcases hi with rfl | rfl
  · exact P.mul_str_none (by decide) (by decide) ⟨.str Str.empty, H, I.tok _, ⟨_, rfl⟩, q⟩
  · refine P.mul_str (by decide) (fun _ e => by simp at e) (fun _ e => by simp at e) ?_
    rw [if_neg (by decide), if_pos (by simp)]
    exact ⟨.str z, H, I, ⟨_, rfl⟩, q⟩
theorem k_repS {H : Hp} {Q : VK} {z : Str} {i : Int} (hi : i = 0 ∨ i = 1) (q : Q (.str (if i = 0 then Str.empty else z)) H) : rRepS (.str z) (.int i) H Q := ⟨z, i, rfl, rfl, hi, q⟩
end
section
variable {prog : Program} {w : World} {A : Around} {E : Value → Shared → Prop} {s : Shared}
end
/-- hi, hi - 1, .. (n of them) -/
def Itd (hi : Int) (n : Nat) : It := ⟨fun i _ => i < n, fun i H x H' => H' = H ∧ x = .int (hi - i), fun i _ => n ≤ i⟩
def iRev (ta : TA) : TI := fun σ H R => ta σ H fun vs H1 => ∃ j : Int, vs = [.int j] ∧ 0 ≤ j ∧ j < 2 ^ 62 ∧ R (Itd (j - 1) j.toNat) H1
section
variable {X : Cx} {tg : Expr}
end
section
variable {K : PySem.W.Frag} {σ : St} {Q : VK} {H : Hp} {D : Ends}
theorem k_rev {ta : TA} {R : It → Hp → Prop} (h : ta σ H fun vs H1 => ∃ j : Int, vs = [.int j] ∧ 0 ≤ j ∧ j < 2 ^ 62 ∧ R (Itd (j - 1) j.toNat) H1) : iRev ta σ H R := h
end
open PySem.W (Dat kqdOk kqdP kqdPs)
section
variable {K : PySem.W.Frag} {σ : St} {Q : VK} {H : Hp} {td ty : TE} {D : Ends}
theorem k_dget (h : td σ H fun x H1 => ty σ H1 fun y H2 => ∃ a v, x = .ref a ∧ DGet H2 a y (some v) ∧ Q v H2) : tDGet td ty σ H Q := h
theorem k_dnotIn (h : ty σ H fun y H1 => td σ H1 fun x H2 => ∃ a o, x = .ref a ∧ DGet H2 a y o ∧ Q (.bl (!o.isSome)) H2) : tDNotIn ty td σ H Q := h
theorem k_dget1 (h : td σ H fun x H1 => ∃ a, x = .ref a ∧ IsD H1 a ∧ ty σ H1 fun y H2 => ∃ o, DGet H2 a y o ∧ Q (o.getD .non) H2) : tDGet1 td ty σ H Q := h
theorem k_par {i j : Nat} {ta : TA} (h : ta σ H fun vs H1 => ∃ v w, vs = [v, w] ∧ D.nx ((σ.set i (some v)).set j (some w)) H1) : tPar i j ta D σ H := h
end
end L2

namespace L2
open PySem PySem.Spec PyProof.Rows
open PySem.W (Dat kqdOk kqdP kqdPs)
section
variable {K : PySem.W.Frag} {te : TE} {tc : TT} {σ : St} {Q : VK} {H : Hp}
/-- [elt for tg in xs if c] -/
theorem compF_list {a : Addr} {xs : List V} {n : Nat} {g : TG} (h : ∀ D, H D = none → ∃ Pv : Nat → Hp → Prop, Pv 0 (upd H D (.lst [])) ∧ (∀ i H2, i ≤ xs.length → Pv i H2 → SqL K H2 a xs) ∧ (∀ i x H2, xs[i]? = some x → Pv i H2 → EltF g n tc te σ x H2 D xs.length i Pv) ∧ ∀ H2, Pv xs.length H2 → Q (.ref D) H2) : CompF (Itl K a) n g tc te σ Q H := by
  intro D nD
  obtain ⟨Pv, h0, hl, hs, hd⟩ := h D nD
  refine ⟨fun i m H => m = xs.length - i ∧ i ≤ xs.length ∧ Pv i H, ⟨_, rfl, Nat.zero_le _, h0⟩, ?_⟩
  rintro i m H ⟨rfl, hi, p⟩
  have q := hl i H hi p
  by_cases hlt : i < xs.length
  · refine .inr ⟨⟨xs, xs[i], q, List.getElem?_eq_getElem hlt⟩, fun v H' y us hu => ?_⟩
    obtain ⟨rfl, z⟩ := y
    exact hs i v _ (z xs q) p us hu
  · have e : i = xs.length := by omega
    subst e
    exact .inl ⟨⟨xs, q, Nat.le_refl _⟩, hd H p⟩
end
theorem vals_items : ∀ {ns : List Int} {us : List Value}, Vals (ns.map V.int) us → ∃ l : List (Int × Tok), us = l.map (fun p => Value.int p.1 p.2) ∧ l.map (·.1) = ns
  | [], _, .nil => ⟨[], rfl, rfl⟩
  | n :: ns, _, .cons r rr => by
    obtain ⟨t, rfl⟩ := r
    obtain ⟨l, e1, e2⟩ := vals_items rr
    exact ⟨(n, t) :: l, by rw [e1]; rfl, by rw [← e2]; rfl⟩
def rSumL (K : PySem.W.Frag) : List V → Hp → VK → Prop := fun xs H Q => ∃ (a : Addr) (ns : List Int), xs = [.ref a] ∧ SqL K H a (ns.map V.int) ∧ Q (.int ns.sum) H
section
variable {X : Cx}
theorem call_sumL (hc : X.calm = true) : CallR X (.builtin "sum") (rSumL X.K) := by
  intro pins s σ H xs us Q I r h
  obtain ⟨a, ns, rfl, q1, q⟩ := h
  obtain ⟨u, rfl, ru⟩ := vals1 r
  cases ru
  obtain ⟨its, rv, p, _⟩ := I.list q1
  obtain ⟨l, e1, e2⟩ := vals_items rv
  have hl : s.heap.IsList a (intItems l.toArray) := by
    have := p.isList
    rw [e1] at this
    simpa [intItems] using this
  refine sum_intListG (I.ok.hd hc) hl fun h' tk t' hk => ⟨.int _, H, I.kept (t' := tk) hk, ⟨_, rfl⟩, ?_⟩
  rw [preSum_eq, List.take_of_length_le (by simp)]
  have el : l.toArray.toList.map (·.1) = ns := by simpa using e2
  rw [el]
  exact q
theorem bb_sum : bootBuiltins "sum" = some (.builtin "sum") := by decide +kernel
end
end L2

namespace L2
open PySem PySem.Spec PyProof.Rows
structure CompSK (sc : Scope) (N M ys : List Str) (scope : Scope) : Prop where
  kind : scope.kind = .function
  names : ∀ y ∈ scope.names, y.2 = .local → scope.names.lookup y.1 = some .local
  cnames : ∀ y ∈ scope.names, y.2 = .cell → scope.names.lookup y.1 = some .cell
  nd : (ys ++ M).Nodup
  len : M.length = N.length
  same : ∀ p ∈ M.zip N, p.1 = p.2 ∨ (relS scope sc).lookup p.1 = none
  apart : ∀ y ∈ M, (relS scope sc).lookup y ≠ some .local ∧ scope.names.lookup y ≠ some .cell
  free : ∀ n ∈ scope.names, n.2 = .free → sc.names.lookup n.1 = some .cell
section
variable {X : Cx} {ys M : List Str} {scope : Scope} {C : Addr} {s : Shared} {H : Hp} {fp : List Addr} {pins : List (Addr × Obj)} {σ : St}
end
end L2

namespace Rk
/-- the number at a place, 0 beyond the end -/
def pt (r : List Int) (p : Nat) : Int := r.getD p 0
/-- so many times the rows, at a place -/
def dot : List Int → List (List Int) → Nat → Int
  | a :: as, r :: rs, p => a * pt r p + dot as rs p
  | _, _, _ => 0
def Free (R : List (List Int)) : Prop := ∀ a : List Int, a.length = R.length → (∀ p, dot a R p = 0) → ∀ c ∈ a, c = 0
theorem dot_app : ∀ {a : List Int} {R : List (List Int)} (b : List Int) (S : List (List Int)) (p : Nat), a.length = R.length → dot (a ++ b) (R ++ S) p = dot a R p + dot b S p
  | [], [], b, S, p, _ => by simp [dot]
  | x :: a, r :: R, b, S, p, h => by
    have ih := dot_app (a := a) (R := R) b S p (by simpa using h)
    show x * pt r p + dot (a ++ b) (R ++ S) p = (x * pt r p + dot a R p) + dot b S p
    rw [ih, Int.add_assoc]
theorem dot_smul (k : Int) : ∀ (a : List Int) (R : List (List Int)) (p : Nat), dot (a.map fun x => k * x) R p = k * dot a R p
  | [], R, p => by cases R <;> simp [dot]
  | x :: a, [], p => by simp [dot]
  | x :: a, r :: R, p => by
    have ih := dot_smul k a R p
    show k * x * pt r p + dot (a.map fun x => k * x) R p = k * (x * pt r p + dot a R p)
    rw [ih, Int.mul_add, Int.mul_assoc]
/-- split coefficients along rows -/
theorem split_len {a : List Int} {R S : List (List Int)} (h : a.length = (R ++ S).length) : ∃ b c, a = b ++ c ∧ b.length = R.length ∧ c.length = S.length := by
  refine ⟨a.take R.length, a.drop R.length, (List.take_append_drop _ _).symm, ?_, ?_⟩
  · rw [List.length_take, h, List.length_append]; omega
  · rw [List.length_drop, h, List.length_append]; omega
/-- by[p] times a row, less the row's number there times by -/
def clr (by_ : List Int) (p : Nat) (r : List Int) : List Int := List.zipWith (fun one two => one * pt by_ p - pt r p * two) r by_
theorem pt_clr {by_ r : List Int} {p q : Nat} (h : r.length = by_.length) : pt (clr by_ p r) q = pt r q * pt by_ p - pt r p * pt by_ q := by
  unfold pt clr
  rw [List.getD_eq_getElem?_getD, List.getElem?_zipWith, List.getD_eq_getElem?_getD (l := r) (i := q), List.getD_eq_getElem?_getD (l := by_) (i := q)]
  by_cases l : q < r.length
  · rw [List.getElem?_eq_getElem l, List.getElem?_eq_getElem (by omega)]
    rfl
  · rw [List.getElem?_eq_none (by omega), List.getElem?_eq_none (by omega)]
    simp
def Wide (w : Nat) (R : List (List Int)) : Prop := ∀ r ∈ R, r.length = w
def rmv (by_ : List Int) : List (List Int) → List (List Int)
  | [] => []
  | r :: R => if r = by_ then R else r :: rmv by_ R
def szStep (st : Nat × List (List Int)) (p : Nat) : Nat × List (List Int) :=
  match st.2.filter (fun r => pt r p ≠ 0) with
  | [] => st
  | by_ :: _ => (st.1 + 1, (rmv by_ st.2).map (clr by_ p))
def size (w : Nat) (R : List (List Int)) : Nat := ((List.range w).foldl szStep (0, R)).1
/-- what stays while places are cleared -/
structure SzI (w n p : Nat) (fr : Prop) (st : Nat × List (List Int)) : Prop where
  wide : Wide w st.2
  len : st.1 + st.2.length = n
  nought : ∀ r ∈ st.2, ∀ q < p, pt r q = 0
  free : Free st.2 ↔ fr
theorem dot_add : ∀ (a b : List Int) (R : List (List Int)) (p : Nat), a.length = b.length → dot (List.zipWith (· + ·) a b) R p = dot a R p + dot b R p
  | [], [], R, p, _ => by cases R <;> simp [dot]
  | x :: a, y :: b, [], p, _ => by simp [dot]
  | x :: a, y :: b, r :: R, p, h => by
    have ih := dot_add a b R p (by simpa using h)
    show (x + y) * pt r p + dot (List.zipWith (· + ·) a b) R p = (x * pt r p + dot a R p) + (y * pt r p + dot b R p)
    rw [ih, Int.add_mul]
    omega
/-- a row may be exchanged for so many times it, with rows ahead of it -/
theorem free_swap1 {S T : List (List Int)} {r s : List Int} {d : List Int} {c G : Int} (ld : d.length = S.length) (hc : c ≠ 0) (hG : G ≠ 0) (e : ∀ q, G * pt s q = c * pt r q + dot d S q) (h : Free (S ++ r :: T)) : Free (S ++ s :: T) := by
  intro a la ha
  obtain ⟨a1, a', rfl, l1, l'⟩ := split_len la
  obtain ⟨x, a2, rfl⟩ : ∃ x a2, a' = x :: a2 := List.exists_cons_of_length_pos (by rw [l']; simp)
  have l2 : a2.length = T.length := by simpa using l'
  have at_ : ∀ q, dot a1 S q + (x * pt s q + dot a2 T q) = 0 := fun q => by
    have := ha q
    rw [dot_app _ _ _ l1] at this
    exact this
  have h' := h (List.zipWith (· + ·) (a1.map fun y => G * y) (d.map fun y => x * y) ++ (x * c) :: a2.map fun y => G * y) (by simp [l1, l2, ld]) fun q => by
    rw [dot_app _ _ _ (by simp [l1, ld])]
    show dot (List.zipWith (· + ·) (a1.map fun y => G * y) (d.map fun y => x * y)) S q + (x * c * pt r q + dot (a2.map fun y => G * y) T q) = 0
    rw [dot_add _ _ _ _ (by simp [l1, ld]), dot_smul, dot_smul, dot_smul]
    have e1 := at_ q
    have e2 := e q
    have e3 : G * (dot a1 S q + (x * pt s q + dot a2 T q)) = 0 := by rw [e1, Int.mul_zero]
    rw [Int.mul_add, Int.mul_add] at e3
    have e4 : G * (x * pt s q) = x * (c * pt r q + dot d S q) := by rw [← e2, ← Int.mul_assoc, ← Int.mul_assoc, Int.mul_comm G x]
    rw [e4, Int.mul_add] at e3
    have e5 : x * (c * pt r q) = x * c * pt r q := by rw [Int.mul_assoc]
    omega
  have x0 : x = 0 := by
    have := h' (x * c) (List.mem_append_right _ List.mem_cons_self)
    exact (Int.mul_eq_zero.mp this).resolve_right hc
  have a20 : ∀ y ∈ a2, y = 0 := fun y hy => by
    have := h' (G * y) (List.mem_append_right _ (List.mem_cons_of_mem _ (List.mem_map.mpr ⟨y, hy, rfl⟩)))
    exact (Int.mul_eq_zero.mp this).resolve_left hG
  have a10 : ∀ y ∈ a1, y = 0 := fun y hy => by
    obtain ⟨i, hi, rfl⟩ := List.mem_iff_getElem.mp hy
    have m : G * a1[i] + x * d[i]'(by omega) ∈ List.zipWith (· + ·) (a1.map fun y => G * y) (d.map fun y => x * y) := by
      refine List.mem_iff_getElem.mpr ⟨i, by simp; omega, by simp⟩
    have := h' _ (List.mem_append_left _ m)
    rw [x0, Int.zero_mul, Int.add_zero] at this
    exact (Int.mul_eq_zero.mp this).resolve_left hG
  intro y hy
  rcases List.mem_append.mp hy with z | z
  · exact a10 y z
  · rcases List.mem_cons.mp z with rfl | z
    · exact x0
    · exact a20 y z
theorem free_swap {S T : List (List Int)} {r s : List Int} {d : List Int} {c G : Int} (ld : d.length = S.length) (hc : c ≠ 0) (hG : G ≠ 0) (e : ∀ q, G * pt s q = c * pt r q + dot d S q) : Free (S ++ r :: T) ↔ Free (S ++ s :: T) :=
  ⟨free_swap1 ld hc hG e, free_swap1 (d := d.map fun y => (-1) * y) (by simp [ld]) hG hc fun q => by rw [dot_smul]; have := e q; omega⟩
def Eqv (F S : List (List Int)) : Prop := ∀ T, Free (F ++ T) ↔ Free (S ++ T)
theorem Eqv.snoc {F S : List (List Int)} {r s : List Int} {d : List Int} {c G : Int} (h : Eqv F S) (ld : d.length = S.length) (hc : c ≠ 0) (hG : G ≠ 0) (e : ∀ q, G * pt s q = c * pt r q + dot d S q) : Eqv (F ++ [r]) (S ++ [s]) := fun T => by
  rw [List.append_assoc, List.append_assoc, h, List.singleton_append, List.singleton_append]
  exact free_swap ld hc hG e
/-- each row has a place at which those behind it are 0 -/
inductive Stair : List (List Int) → List Nat → Prop
  | nil : Stair [] []
  | cons {s : List Int} {p : Nat} {S : List (List Int)} {ps : List Nat} : pt s p ≠ 0 → (∀ t ∈ S, pt t p = 0) → Stair S ps → Stair (s :: S) (p :: ps)
theorem Stair.snoc {s : List Int} {p : Nat} : ∀ {S : List (List Int)} {ps : List Nat}, Stair S ps → (∀ q ∈ ps, pt s q = 0) → pt s p ≠ 0 → Stair (S ++ [s]) (ps ++ [p])
  | _, _, .nil, _, h => .cons h (by simp) .nil
  | _, _, .cons (s := t) (p := q) h1 h2 r, z, h => .cons h1 (fun u hu => by
      rcases List.mem_append.mp hu with m | m
      · exact h2 u m
      · rw [List.mem_singleton.mp m]; exact z q List.mem_cons_self) (Stair.snoc r (fun q hq => z q (List.mem_cons_of_mem _ hq)) h)
/-- x is cleared by the stairs: x', with what it is made of -/
structure Clrd (S : List (List Int)) (ps : List Nat) (x x' : List Int) : Prop where
  made : ∃ (d : List Int) (c G : Int), d.length = S.length ∧ c ≠ 0 ∧ G ≠ 0 ∧ ∀ q, G * pt x' q = c * pt x q + dot d S q
  nought : ∀ q ∈ ps, pt x' q = 0
  len : x'.length = x.length
/-- one stair more -/
theorem Clrd.snoc {S : List (List Int)} {ps : List Nat} {x y z s : List Int} {p : Nat} {g : Int} (h : Clrd S ps x y) (st : Stair (S ++ [s]) (ps ++ [p])) (lp : S.length = ps.length) (ls : y.length = s.length) (hg : g ≠ 0) (lz : z.length = y.length) (ez : ∀ q, g * pt z q = pt (clr s p y) q) : Clrd (S ++ [s]) (ps ++ [p]) x z := by
  obtain ⟨d, c, G, ld, hc, hG, e⟩ := h.made
  have sp : pt s p ≠ 0 := by
    have : ∀ {S : List (List Int)} {ps : List Nat}, Stair (S ++ [s]) (ps ++ [p]) → S.length = ps.length → pt s p ≠ 0 := by
      intro S
      induction S with
      | nil =>
        intro ps st l
        have : ps = [] := List.length_eq_zero_iff.mp l.symm
        subst this
        cases st with
        | cons h _ _ => exact h
      | cons t S ih =>
        intro ps st l
        cases ps with
        | nil => simp at l
        | cons q ps =>
          cases st with
          | cons _ _ r => exact ih r (by simpa using l)
    exact this st lp
  have s0 : ∀ q ∈ ps, pt s q = 0 := by
    have : ∀ {S : List (List Int)} {ps : List Nat}, Stair (S ++ [s]) (ps ++ [p]) → S.length = ps.length → ∀ q ∈ ps, pt s q = 0 := by
      intro S
      induction S with
      | nil =>
        intro ps st l q hq
        have : ps = [] := List.length_eq_zero_iff.mp l.symm
        subst this
        cases hq
      | cons t S ih =>
        intro ps st l q hq
        cases ps with
        | nil => simp at l
        | cons q0 ps =>
          cases st with
          | cons _ h2 r =>
            rcases List.mem_cons.mp hq with rfl | hq
            · exact h2 s (List.mem_append_right _ (List.mem_singleton.mpr rfl))
            · exact ih r (by simpa using l) q hq
    exact this st lp
  have ec : ∀ q, g * pt z q = pt y q * pt s p - pt y p * pt s q := fun q => by rw [ez q, pt_clr ls]
  have zero : ∀ q, pt y q * pt s p - pt y p * pt s q = 0 → pt z q = 0 := fun q h0 => by
    have := ec q
    rw [h0] at this
    exact (Int.mul_eq_zero.mp this).resolve_left hg
  refine ⟨⟨(d.map fun v => pt s p * v) ++ [-(G * pt y p)], pt s p * c, G * g, by simp [ld], fun w => ?_, fun w => ?_, fun q => ?_⟩, fun q hq => ?_, by rw [lz, h.len]⟩
  · rcases Int.mul_eq_zero.mp w with w | w
    · exact sp w
    · exact hc w
  · rcases Int.mul_eq_zero.mp w with w | w
    · exact hG w
    · exact hg w
  · rw [dot_app _ _ _ (by simp [ld]), dot_smul]
    show G * g * pt z q = pt s p * c * pt x q + (pt s p * dot d S q + (-(G * pt y p) * pt s q + 0))
    have e1 := e q
    rw [Int.mul_assoc, ec q, Int.mul_sub, Int.add_zero, Int.neg_mul]
    have a1 : G * (pt y q * pt s p) = pt s p * (c * pt x q + dot d S q) := by rw [← e1, ← Int.mul_assoc, Int.mul_comm]
    have a2 : G * (pt y p * pt s q) = G * pt y p * pt s q := by rw [Int.mul_assoc]
    have a3 : pt s p * (c * pt x q + dot d S q) = pt s p * c * pt x q + pt s p * dot d S q := by rw [Int.mul_add, Int.mul_assoc]
    omega
  · rcases List.mem_append.mp hq with m | m
    · refine zero q ?_
      rw [h.nought q m, s0 q m]
      simp
    · rw [List.mem_singleton.mp m]
      refine zero p ?_
      omega
theorem Clrd.start {x : List Int} : Clrd [] [] x x := ⟨⟨[], 1, 1, rfl, by decide, by decide, fun q => by simp [dot]⟩, by simp, rfl⟩
end Rk

namespace Dn
open Rk
def nI (l : List Nat) : List Int := l.map fun i : Nat => (i : Int)
def nxt1 (n : Nat) (S : List Nat) : List (List Nat) := (List.range (n - (S.getLastD 0 + 1))).map fun k => S ++ [S.getLastD 0 + 1 + k]
def lvl (n : Nat) : Nat → List (List Nat)
  | 0 => (List.range n).map fun k => [k]
  | i + 1 => (lvl n i).flatMap (nxt1 n)
def tld (n : Nat) : Nat → List (List Nat)
  | 0 => []
  | i + 1 => tld n i ++ lvl n i
def setsR (n : Nat) : List (List Nat) := tld n n
theorem lvl_end : ∀ n < 6, lvl n n = [] := by decide +kernel
theorem lvl_ok : ∀ n < 6, ∀ i < n, lvl n i ≠ [] := by decide +kernel
theorem lvl_len : ∀ n < 6, ∀ i < 6, (lvl n i).length ≤ 10 ∧ (tld n i).length ≤ 31 := by decide +kernel
theorem lvl_in : ∀ n < 6, ∀ i < 6, ∀ S ∈ lvl n i, S ≠ [] ∧ S.length ≤ 5 ∧ ∀ k ∈ S, k < n := by decide +kernel
theorem nxt1_len : ∀ n < 6, ∀ i < 6, ∀ S ∈ lvl n i, (nxt1 n S).length ≤ 5 := by decide +kernel
theorem sets_len : ∀ n < 6, (setsR n).length ≤ 31 := by decide +kernel
theorem sets_in : ∀ n < 6, ∀ S ∈ setsR n, S ≠ [] ∧ S.length ≤ 5 ∧ ∀ k ∈ S, k < n := by decide +kernel
def hs (h : List Int) (S : List Nat) : Bool := S.any fun k => decide (0 < pt h k)
abbrev Tp := List Int × List Int
def isD (T : List Tp) (S : List Nat) : Bool := T.all fun t => hs t.1 S || !hs t.2 S
def isT (T : List Tp) (S : List Nat) : Bool := T.all fun t => hs t.2 S || !hs t.1 S
def within (M S : List Nat) : Bool := M.all fun k => decide (k ∈ S)
def stpL (acc : List (List Nat)) (S : List Nat) : List (List Nat) := if (!acc.any fun M => within M S) = true then acc ++ [S] else acc
def lst (L : List (List Nat)) : List (List Nat) := L.foldl stpL []
theorem lst_mem {L : List (List Nat)} : ∀ S ∈ lst L, S ∈ L := by
  have go : ∀ (L acc : List (List Nat)) (S : List Nat), S ∈ L.foldl stpL acc → S ∈ acc ∨ S ∈ L := by
    intro L
    induction L with
    | nil => intro acc S h; exact .inl h
    | cons M L ih =>
      intro acc S h
      rcases ih _ _ h with h | h
      · unfold stpL at h
        split at h
        · rcases List.mem_append.mp h with h | h
          · exact .inl h
          · rw [List.mem_singleton.mp h]; exact .inr List.mem_cons_self
        · exact .inl h
      · exact .inr (List.mem_cons_of_mem _ h)
  intro S h
  rcases go L [] S h with h | h
  · cases h
  · exact h
theorem lst_len (L : List (List Nat)) : (lst L).length ≤ L.length := by
  have go : ∀ (L acc : List (List Nat)), (L.foldl stpL acc).length ≤ acc.length + L.length := by
    intro L
    induction L with
    | nil => intro acc; exact Nat.le_refl _
    | cons M L ih =>
      intro acc
      have := ih (stpL acc M)
      have h : (stpL acc M).length ≤ acc.length + 1 := by
        unfold stpL
        split
        · simp
        · omega
      show (L.foldl stpL (stpL acc M)).length ≤ _
      rw [List.length_cons]
      omega
  have := go L []
  simpa [lst] using this
def can (t : Tp) (c : List Int) : Bool := (List.zip t.1 c).all fun z => decide (z.1 ≤ z.2)
def beh (t : Tp) (c : List Int) : List Int := (List.range c.length).map fun k => pt c k - pt t.1 k + pt t.2 k
def lastC (cs : List (List Int)) : List Int := cs.getLastD []
def stepC (T : List Tp) (cs : List (List Int)) (cell : Int) : List (List Int) :=
  if 0 < (T.filter fun t => can t (lastC cs)).length then cs ++ [beh ((T.filter fun t => can t (lastC cs)).getD (cell % ((T.filter fun t => can t (lastC cs)).length : Int)).toNat ([], [])) (lastC cs)] else cs
def walkC (T : List Tp) (c : List Int) (cells : List Int) : List (List Int) := cells.foldl (stepC T) [c]
theorem walk_all {T : List Tp} {P : List Int → Prop} (hP : ∀ c t, P c → t ∈ T → can t c = true → P (beh t c)) {c : List Int} (h0 : P c) (cells : List Int) : walkC T c cells ≠ [] ∧ ∀ d ∈ walkC T c cells, P d := by
  have go : ∀ (cells : List Int) (cs : List (List Int)), cs ≠ [] → (∀ d ∈ cs, P d) → cells.foldl (stepC T) cs ≠ [] ∧ ∀ d ∈ cells.foldl (stepC T) cs, P d := by
    intro cells
    induction cells with
    | nil => intro cs n h; exact ⟨n, h⟩
    | cons x cells ih =>
      intro cs n h
      refine ih _ ?_ ?_
      · unfold stepC
        split
        · simp
        · exact n
      · intro d hd
        unfold stepC at hd
        split at hd
        · rename_i l
          rcases List.mem_append.mp hd with hd | hd
          · exact h d hd
          · rw [List.mem_singleton.mp hd]
            have hl : P (lastC cs) := by
              unfold lastC
              rw [List.getLastD_eq_getLast?, List.getLast?_eq_some_getLast n]
              exact h _ (List.getLast_mem n)
            have li : (x % ((T.filter fun t => can t (lastC cs)).length : Int)).toNat < (T.filter fun t => can t (lastC cs)).length := by
              have h1 := Int.emod_lt_of_pos x (show (0 : Int) < ((T.filter fun t => can t (lastC cs)).length : Int) by omega)
              have h2 := Int.emod_nonneg x (show ((T.filter fun t => can t (lastC cs)).length : Int) ≠ 0 by omega)
              omega
            have hm : (T.filter fun t => can t (lastC cs)).getD (x % ((T.filter fun t => can t (lastC cs)).length : Int)).toNat ([], []) ∈ T.filter fun t => can t (lastC cs) := by
              rw [List.getD_eq_getElem?_getD, List.getElem?_eq_getElem li]
              exact List.getElem_mem li
            obtain ⟨m1, m2⟩ := List.mem_filter.mp hm
            exact hP _ _ hl m1 m2
        · exact h d hd
  exact go cells [c] (by simp) (by simpa using h0)
theorem pt_beh {t : Tp} {c : List Int} {k : Nat} (h : k < c.length) : pt (beh t c) k = pt c k - pt t.1 k + pt t.2 k := by
  unfold beh
  show ((List.range c.length).map _).getD k 0 = _
  rw [List.getD_eq_getElem?_getD, List.getElem?_map, List.getElem?_range h]
  rfl
theorem can_le {t : Tp} {c : List Int} {k : Nat} (h : can t c = true) (h1 : k < t.1.length) (h2 : k < c.length) : pt t.1 k ≤ pt c k := by
  unfold can at h
  rw [List.all_eq_true] at h
  have := h (t.1[k], c[k]) (by
    rw [List.mem_iff_getElem]
    exact ⟨k, by rw [List.length_zip]; omega, by rw [List.getElem_zip]⟩)
  unfold pt
  rw [List.getD_eq_getElem?_getD, List.getElem?_eq_getElem h1, List.getD_eq_getElem?_getD, List.getElem?_eq_getElem h2]
  simpa using this
/-- what a count is -/
def Ct (n : Nat) (c : List Int) : Prop := c.length = n ∧ ∀ k, 0 ≤ pt c k
def TpOk (n : Nat) (t : Tp) : Prop := Ct n t.1 ∧ Ct n t.2
theorem ct_beh {n : Nat} {t : Tp} {c : List Int} (hc : Ct n c) (ht : TpOk n t) (h : can t c = true) : Ct n (beh t c) := by
  refine ⟨by unfold beh; rw [List.length_map, List.length_range]; exact hc.1, fun k => ?_⟩
  by_cases hk : k < n
  · rw [pt_beh (by rw [hc.1]; exact hk)]
    have := can_le h (by rw [ht.1.1]; exact hk) (by rw [hc.1]; exact hk)
    have := ht.2.2 k
    omega
  · unfold pt
    rw [List.getD_eq_getElem?_getD, List.getElem?_eq_none (by unfold beh; rw [List.length_map, List.length_range, hc.1]; omega)]
    exact Int.le_refl _
theorem hs_no {h : List Int} {S : List Nat} : hs h S = false ↔ ∀ k ∈ S, ¬ 0 < pt h k := by
  unfold hs
  rw [List.any_eq_false]
  simp
theorem hs_yes {h : List Int} {S : List Nat} : hs h S = true ↔ ∃ k ∈ S, 0 < pt h k := by
  unfold hs
  rw [List.any_eq_true]
  simp
theorem drain_step {n : Nat} {T : List Tp} {S : List Nat} (hT : ∀ t ∈ T, TpOk n t) (hS : ∀ k ∈ S, k < n) (hD : isD T S = true) (c : List Int) (t : Tp) (hc : Ct n c ∧ ∀ k ∈ S, pt c k = 0) (ht : t ∈ T) (h : can t c = true) : Ct n (beh t c) ∧ ∀ k ∈ S, pt (beh t c) k = 0 := by
  obtain ⟨o1, o2⟩ := hT t ht
  refine ⟨ct_beh hc.1 ⟨o1, o2⟩ h, fun k hk => ?_⟩
  have f0 : ∀ k ∈ S, pt t.1 k = 0 := fun k hk => by
    have h1 := can_le h (by rw [o1.1]; exact hS k hk) (by rw [hc.1.1]; exact hS k hk)
    have h2 := hc.2 k hk
    have h3 := o1.2 k
    omega
  unfold isD at hD
  rw [List.all_eq_true] at hD
  have hd := hD t ht
  have n1 : hs t.1 S = false := hs_no.mpr fun k hk => by have := f0 k hk; omega
  rw [n1] at hd
  have n2 : hs t.2 S = false := by simpa using hd
  have z := hs_no.mp n2 k hk
  have z2 := o2.2 k
  rw [pt_beh (by rw [hc.1.1]; exact hS k hk), hc.2 k hk, f0 k hk]
  omega
theorem trap_step {n : Nat} {T : List Tp} {S : List Nat} (hT : ∀ t ∈ T, TpOk n t) (hS : ∀ k ∈ S, k < n) (hD : isT T S = true) (c : List Int) (t : Tp) (hc : Ct n c ∧ ∃ k ∈ S, 0 < pt c k) (ht : t ∈ T) (h : can t c = true) : Ct n (beh t c) ∧ ∃ k ∈ S, 0 < pt (beh t c) k := by
  obtain ⟨o1, o2⟩ := hT t ht
  refine ⟨ct_beh hc.1 ⟨o1, o2⟩ h, ?_⟩
  unfold isT at hD
  rw [List.all_eq_true] at hD
  have hd := hD t ht
  cases e : hs t.2 S with
  | true =>
    obtain ⟨k, hk, p⟩ := hs_yes.mp e
    refine ⟨k, hk, ?_⟩
    have h1 := can_le h (by rw [o1.1]; exact hS k hk) (by rw [hc.1.1]; exact hS k hk)
    rw [pt_beh (by rw [hc.1.1]; exact hS k hk)]
    omega
  | false =>
    rw [e] at hd
    have n1 : hs t.1 S = false := by simpa using hd
    obtain ⟨k, hk, p⟩ := hc.2
    refine ⟨k, hk, ?_⟩
    have z := hs_no.mp n1 k hk
    have z2 := o2.2 k
    rw [pt_beh (by rw [hc.1.1]; exact hS k hk)]
    omega
def worthS (c : List Int) (S : List Nat) : Int := (S.map fun k => pt c k).sum
theorem worth_none {c : List Int} {S : List Nat} (h : ∀ k ∈ S, pt c k = 0) : worthS c S = 0 := by
  unfold worthS
  induction S with
  | nil => rfl
  | cons k S ih =>
    rw [List.map_cons, List.sum_cons, h k List.mem_cons_self, ih fun j hj => h j (List.mem_cons_of_mem _ hj)]
    rfl
theorem worth_some {c : List Int} {S : List Nat} (h0 : ∀ k, 0 ≤ pt c k) (h : ∃ k ∈ S, 0 < pt c k) : worthS c S ≠ 0 := by
  have nn : ∀ S : List Nat, 0 ≤ (S.map fun k => pt c k).sum := by
    intro S
    induction S with
    | nil => exact Int.le_refl _
    | cons k S ih =>
      rw [List.map_cons, List.sum_cons]
      have := h0 k
      omega
  obtain ⟨k, hk, p⟩ := h
  unfold worthS
  have : 0 < (S.map fun k => pt c k).sum := by
    induction S with
    | nil => cases hk
    | cons j S ih =>
      rw [List.map_cons, List.sum_cons]
      have h1 := h0 j
      have h2 := nn S
      rcases List.mem_cons.mp hk with rfl | hk
      · omega
      · have := ih hk
        omega
  omega
end Dn

namespace L2
open PySem PySem.Spec PyProof.Rows
open PySem.W (Dat KasT kas_sort kas_ask KatLex KatTups)
section
variable {prog : Program} {w : World} {A : Around} {E : Value → Shared → Prop} {s : Shared}
/-- tuples of whole numbers, none empty, lie there -/
def TupsAt (h : Heap) : List Value → List (List Int) → Prop
  | [], [] => True
  | v :: vs, n :: ns => (∃ a its, v = .ref a ∧ IsTup h a its ∧ IntsAre its.toList n) ∧ TupsAt h vs ns
  | _, _ => False
theorem TupsAt.keep {h h' : Heap} (k : ∀ b o, h.get? b = some o → h'.get? b = some o) : ∀ {vs : List Value} {ns : List (List Int)}, TupsAt h vs ns → TupsAt h' vs ns
  | [], [], _ => trivial
  | [], _ :: _, t => t.elim
  | _ :: _, [], t => t.elim
  | v :: vs, n :: ns, ⟨⟨a, its, e, ⟨o, ho, hc, m, hd⟩, hi⟩, t⟩ => ⟨⟨a, its, e, ⟨o, k a o ho, hc, m, hd⟩, hi⟩, TupsAt.keep k t⟩
theorem TupsAt.get {h : Heap} : ∀ {vs : List Value} {ns : List (List Int)} (i : Nat), TupsAt h vs ns → i < vs.length → ∃ a its, vs.getD i Value.none = .ref a ∧ IsTup h a its ∧ IntsAre its.toList (ns.getD i [])
  | [], [], i, _, l => absurd l (Nat.not_lt_zero _)
  | [], _ :: _, _, t, _ => t.elim
  | _ :: _, [], _, t, _ => t.elim
  | v :: vs, n :: ns, 0, ⟨⟨a, its, e, p, hi⟩, t⟩, _ => ⟨a, its, e, p, hi⟩
  | v :: vs, n :: ns, i + 1, ⟨_, t⟩, l => TupsAt.get i t (Nat.lt_of_succ_lt_succ l)
end
section
variable {X : Cx}
end
end L2

namespace L2
open PySem PySem.Spec PyProof.Rows
abbrev IsTrio (h : Heap) (T : Addr) (a b c : Value) : Prop := h.get? T = some { cls := .type "tuple", data := .seq #[a, b, c] }
structure ZAp3 (z TI TO i1 i2 i3 l1 l2 l3 : Addr) : Prop where
  a : i1 < i2
  a' : i2 < i3
  b : i3 < TI
  c : TI < TO
  d : TO < z
  e : l1 < i1
  f : l2 < i1
  g : l3 < i1
theorem zap_nat3 {z TI TO i1 i2 i3 l1 l2 l3 : Nat} (a : i1 < i2) (a' : i2 < i3) (b : i3 < TI) (c : TI < TO) (d : TO < z) (e : l1 < i1) (f : l2 < i1) (g : l3 < i1) :
    (i1 ≠ z ∧ i2 ≠ z ∧ i3 ≠ z ∧ TO ≠ i1 ∧ TO ≠ i2 ∧ TO ≠ i3 ∧ TO ≠ z ∧ TI ≠ z ∧ TI ≠ TO ∧ TI ≠ i1 ∧ TI ≠ i2 ∧ TI ≠ i3 ∧ i1 ≠ i2 ∧ i1 ≠ i3 ∧ i2 ≠ i3) ∧ l1 ≠ z ∧ l1 ≠ TO ∧ l1 ≠ i2 ∧ l1 ≠ i3 ∧ l2 ≠ z ∧ l2 ≠ TO ∧ l2 ≠ i1 ∧ l2 ≠ i3 ∧ l3 ≠ z ∧ l3 ≠ TO ∧ l3 ≠ i1 ∧ l3 ≠ i2 := by omega
section
variable {prog : Program} {w : World} {A : Around} {E : Value → Shared → Prop} {s : Shared} {z TI TO i1 i2 i3 l1 l2 l3 : Addr} {xs ys zs : Array Value} {S1 S2 S3 : Nat → Heap → Prop} {k : Nat}
structure ZAt3 (z TI TO i1 i2 i3 : Addr) (S1 S2 S3 : Nat → Heap → Prop) (k : Nat) (h : Heap) : Prop where
  z : IsZip h z TI TO .none
  i : IsTrio h TI (.ref i1) (.ref i2) (.ref i3)
  o : ∃ a b c, IsTrio h TO a b c
  s1 : S1 k h
  s2 : S2 k h
  s3 : S3 k h
theorem up_trio {T : Addr} {a b c x : Value} {j : Nat} {Q : Unit → Shared → Prop} (hT : IsTrio s.heap T a b c) (q : ∀ h', h'.get? T = some { cls := .type "tuple", data := .seq ((#[a, b, c] : Array Value).setIfInBounds j x) } → Heap.SameBut T s.heap h' → Q () { s with heap := h' }) :
    wpAny (model prog w) A (updateSeq T (·.setIfInBounds j x)) Q E s := by
  refine wpAny_updateSeq hT rfl (q _ ?_ (Heap.SameBut.update ..)); rw [Heap.get?_update_self _ hT rfl]; simp [Obj.mapSeq]
theorem z_next3 (D : ZAp3 z TI TO i1 i2 i3 l1 l2 l3) (W1 : Drw prog w i1 l1 xs S1) (W2 : Drw prog w i2 l2 ys S2) (W3 : Drw prog w i3 l3 zs S3) (st : ZAt3 z TI TO i1 i2 i3 S1 S2 S3 k s.heap) {Q : Option Value → Shared → Prop} :
    (∀ x y y3, xs[k]? = some x → ys[k]? = some y → zs[k]? = some y3 → (∀ h', IsZip h' z TI TO (rawInt s.heap.objs.size) → IsTrio h' TI (.ref i1) (.ref i2) (.ref i3) → (∃ a b c, IsTrio h' TO a b c) → S1 (k + 1) h' → S2 (k + 1) h' → S3 (k + 1) h' → IsTrio h' s.heap.objs.size x y y3 →
      (∀ c o, c ∉ [z, TI, TO, i1, i2, i3] → s.heap.get? c = some o → h'.get? c = some o) → Q (some (.ref s.heap.objs.size)) { s with heap := h' }) → wpAny (model prog w) A (pyNext (.ref z)) Q E s) ∧
    (A.handled = none → (xs[k]? = none ∨ ys[k]? = none ∨ zs[k]? = none) → (∀ h', (∀ c o, c ∉ [z, TI, TO, i1, i2, i3] → s.heap.get? c = some o → h'.get? c = some o) → Q none { s with heap := h' }) → wpAny (model prog w) A (pyNext (.ref z)) Q E s) := by
  obtain ⟨d1, d1', d2, d3, d4, d5, d6, d7⟩ := D
  obtain ⟨hz, hI, ⟨a, b, c, hO⟩, t1, t2, t3⟩ := st
  have ty : s.TypeIs (.ref z) "zip" := ⟨_, hz, rfl⟩
  obtain ⟨⟨n1, n2, n3, nO1, nO2, nO3, nOz, nIz, nIO, nI1, nI2, nI3, n12, n13, n23⟩, q1, q2, q3, q4, q5, q6, q7, q8, q9, qa, qb, qc⟩ := zap_nat3 d1 d1' d2 d3 d4 d5 d6 d7
  have m1 : ∀ {c h h' : _}, c ∈ [z, TO, i2, i3] → Heap.ExtBut c h h' → ∀ k, S1 k h → S1 k h' := fun {c h h'} hc x k t => W1.keep k h h' t fun b hb o e => x b o (by
    rcases hb with rfl | rfl <;> (simp only [List.mem_cons, List.not_mem_nil, or_false] at hc; rcases hc with rfl | rfl | rfl | rfl <;> first | assumption | (apply Ne.symm; assumption))) e
  have m2 : ∀ {c h h' : _}, c ∈ [z, TO, i1, i3] → Heap.ExtBut c h h' → ∀ k, S2 k h → S2 k h' := fun {c h h'} hc x k t => W2.keep k h h' t fun b hb o e => x b o (by
    rcases hb with rfl | rfl <;> (simp only [List.mem_cons, List.not_mem_nil, or_false] at hc; rcases hc with rfl | rfl | rfl | rfl <;> first | assumption | (apply Ne.symm; assumption))) e
  have m3 : ∀ {c h h' : _}, c ∈ [z, TO, i1, i2] → Heap.ExtBut c h h' → ∀ k, S3 k h → S3 k h' := fun {c h h'} hc x k t => W3.keep k h h' t fun b hb o e => x b o (by
    rcases hb with rfl | rfl <;> (simp only [List.mem_cons, List.not_mem_nil, or_false] at hc; rcases hc with rfl | rfl | rfl | rfl <;> first | assumption | (apply Ne.symm; assumption))) e
  constructor
  · intro x y y3 hx hy hy3 q
    unfold pyNext; refine wpAny_bind (wpAny_attempt (wpAny_callSpecial?_slot (name := Str.ofString "__next__") ty F.slot_zip_next (wpAny_call_entry F.slot_zip_next ty F.entry_zip_next ?_ (F.args_zip_next_1 _))))
    show wpAny _ _ (field (.ref z) 2 >>= _) _ _ _; refine wpAny_bind (wpAny_field hz rfl (x := .bool false) rfl ?_); show wpAny _ _ (field (.ref z) 3 >>= _) _ _ _; refine wpAny_bind (wpAny_field hz rfl (x := .ref TI) rfl (wpAny_bind (wpAny_seqItems hI rfl ?_)))
    show wpAny _ _ (Builtin.SmallTypes.ownedTupleIsFree (.ref z) >>= _) _ _ _; refine wpAny_bind ?_; unfold Builtin.SmallTypes.ownedTupleIsFree; refine wpAny_bind (wpAny_field hz rfl (x := .none) rfl (wpAny_pure ?_)); simp only [if_true]
    refine wpAny_bind (wpAny_rule (wpAny_bind (wpAny_field hz rfl (x := .ref TO) rfl (wpAny_bind (wpAny_setField_rec hz (by simp) fun h1 hz1 hs1 => ?_))))); replace hz1 : IsZip h1 z TI TO .ellipsis := hz1
    refine wpAny_bind ?_; simp only [List.zipIdx_cons, List.zipIdx_nil, List.forIn_cons, List.forIn_nil]; refine wpAny_bind (wpAny_bind (wpAny_onRaise ?_)); show wpAny _ _ (Builtin.SmallTypes.nextOf (.ref i1) >>= _) _ _ _
    refine wpAny_bind (W1.item _ _ _ k x _ (m1 (by simp) hs1.extBut k t1) hx fun h2 t12 hs2 => wpAny_pure ?_)
    have hO2 : IsTrio h2 TO a b c := hs2.extBut _ _ nO1 (hs1.extBut _ _ nOz hO)
    refine wpAny_bind (wpAny_seqItems hO2 rfl (wpAny_bind (up_trio hO2 fun h3 hO3 hs3 => ?_))); replace hO3 : IsTrio h3 TO x b c := hO3; refine wpAny_bind (wpAny_letGo (wpAny_pure (wpAny_bind (wpAny_bind (wpAny_onRaise ?_)))))
    show wpAny _ _ (Builtin.SmallTypes.nextOf (.ref i2) >>= _) _ _ _
    refine wpAny_bind (W2.item _ _ _ k y _ (m2 (by simp) hs3.extBut k (m2 (by simp) hs2.extBut k (m2 (by simp) hs1.extBut k t2))) hy fun h4 t24 hs4 => wpAny_pure ?_)
    have hO4 : IsTrio h4 TO x b c := hs4.extBut _ _ nO2 hO3
    refine wpAny_bind (wpAny_seqItems hO4 rfl (wpAny_bind (up_trio hO4 fun h5 hO5 hs5 => ?_))); replace hO5 : IsTrio h5 TO x y c := hO5; refine wpAny_bind (wpAny_letGo (wpAny_pure (wpAny_bind (wpAny_bind (wpAny_onRaise ?_)))))
    show wpAny _ _ (Builtin.SmallTypes.nextOf (.ref i3) >>= _) _ _ _
    refine wpAny_bind (W3.item _ _ _ k y3 _ (m3 (by simp) hs5.extBut k (m3 (by simp) hs4.extBut k (m3 (by simp) hs3.extBut k (m3 (by simp) hs2.extBut k (m3 (by simp) hs1.extBut k t3))))) hy3 fun h6 t36 hs6 => wpAny_pure ?_)
    have hO6 : IsTrio h6 TO x y c := hs6.extBut _ _ nO3 hO5
    refine wpAny_bind (wpAny_seqItems hO6 rfl (wpAny_bind (up_trio hO6 fun h7 hO7 hs7 => ?_))); replace hO7 : IsTrio h7 TO x y y3 := hO7; refine wpAny_bind (wpAny_letGo (wpAny_pure (wpAny_pure (wpAny_bind (wpAny_seqItems hO7 rfl (wpAny_bind (wpAny_newTuple ?_)))))))
    have sz : h7.objs.size = s.heap.objs.size := by rw [hs7.1, hs6.1, hs5.1, hs4.1, hs3.1, hs2.1, hs1.1]
    have hz7 : IsZip h7 z TI TO .ellipsis := hs7.extBut _ _ nOz.symm (hs6.extBut _ _ n3.symm (hs5.extBut _ _ nOz.symm (hs4.extBut _ _ n2.symm (hs3.extBut _ _ nOz.symm (hs2.extBut _ _ n1.symm hz1)))))
    have all7 : ∀ c o, c ∉ [z, TI, TO, i1, i2, i3] → s.heap.get? c = some o → h7.get? c = some o := fun c o hc e => by
      simp only [List.mem_cons, List.not_mem_nil, or_false, not_or] at hc
      exact hs7.extBut _ _ hc.2.2.1 (hs6.extBut _ _ hc.2.2.2.2.2 (hs5.extBut _ _ hc.2.2.1 (hs4.extBut _ _ hc.2.2.2.2.1 (hs3.extBut _ _ hc.2.2.1 (hs2.extBut _ _ hc.2.2.2.1 (hs1.extBut _ _ hc.1 e))))))
    have hI7 : IsTrio h7 TI (.ref i1) (.ref i2) (.ref i3) := hs7.extBut _ _ nIO (hs6.extBut _ _ nI3 (hs5.extBut _ _ nIO (hs4.extBut _ _ nI2 (hs3.extBut _ _ nIO (hs2.extBut _ _ nI1 (hs1.extBut _ _ nIz hI))))))
    have zlt : z < h7.objs.size := Heap.lt_size hz7
    show wpAny _ _ (Builtin.SmallTypes.ownedTupleHandOut (.ref z) (.ref h7.objs.size) >>= _) _ _ _; refine wpAny_bind ?_; unfold Builtin.SmallTypes.ownedTupleHandOut
    have hz8 : IsZip (h7.push { cls := .type "tuple", data := .seq #[x, y, y3] }) z TI TO .ellipsis := Heap.get?_push_of_some _ hz7
    refine wpAny_bind (wpAny_setField_rec hz8 (by simp) fun h9 hz9 hs9 => ?_); replace hz9 : IsZip h9 z TI TO (rawInt h7.objs.size) := hz9; refine wpAny_setField_rec hz9 (by simp) fun h10 hz10 hs10 => ?_; replace hz10 : IsZip h10 z TI TO (rawInt h7.objs.size) := hz10
    have up : ∀ c o, c ≠ z → h7.get? c = some o → h10.get? c = some o := fun c o c1 e => hs10.extBut _ _ c1 (hs9.extBut _ _ c1 (Heap.get?_push_of_some _ e))
    have hT : IsTrio h10 h7.objs.size x y y3 := hs10.extBut _ _ (Nat.ne_of_gt zlt) (hs9.extBut _ _ (Nat.ne_of_gt zlt) (Heap.get?_push_size _ rfl))
    have t1' : S1 (k + 1) h10 := W1.keep _ _ _ (m1 (by simp) hs7.extBut _ (m1 (by simp) hs6.extBut _ (m1 (by simp) hs5.extBut _ (m1 (by simp) hs4.extBut _ (m1 (by simp) hs3.extBut _ t12))))) fun c hc o e => up c o (by rcases hc with rfl | rfl <;> first | assumption | (apply Ne.symm; assumption)) e
    have t2' : S2 (k + 1) h10 := W2.keep _ _ _ (m2 (by simp) hs7.extBut _ (m2 (by simp) hs6.extBut _ (m2 (by simp) hs5.extBut _ t24))) fun c hc o e => up c o (by rcases hc with rfl | rfl <;> first | assumption | (apply Ne.symm; assumption)) e
    have t3' : S3 (k + 1) h10 := W3.keep _ _ _ (m3 (by simp) hs7.extBut _ t36) fun c hc o e => up c o (by rcases hc with rfl | rfl <;> first | assumption | (apply Ne.symm; assumption)) e
    rw [sz] at hz10 hT
    refine wpAny_pure ⟨_, rfl, ?_⟩; show wpAny _ _ (pure (some (Value.ref h7.objs.size))) _ _ _; rw [sz]
    exact wpAny_pure (q h10 hz10 (up _ _ nIz hI7) ⟨_, _, _, up _ _ nOz hO7⟩ t1' t2' t3' hT fun c o hc e => up c o (fun x => hc (by simp [x])) (all7 c o hc e))
  · intro hh hend q
    have stop : ∀ (h9 : Heap) (e : Addr), (∀ c o, c ∉ [z, TI, TO, i1, i2, i3] → s.heap.get? c = some o → h9.get? c = some o) → (∃ o, h9.get? e = some o ∧ o.cls = .type "StopIteration") →
        wpAny (model prog w) A (isInstance (.ref e) (.type "StopIteration") >>= fun b => if b = true then pure none else throw (.ref e)) Q E { s with heap := h9 } := fun h9 e kp ⟨o, ho, oc⟩ =>
      wpAny_bind (wpAny_isInstance (T := "StopIteration") (b := true) ⟨o, ho, oc⟩ isSubtype_stop (wpAny_pure (q _ kp)))
    unfold pyNext; refine wpAny_bind (wpAny_attempt (wpAny_callSpecial?_slot (name := Str.ofString "__next__") ty F.slot_zip_next (wpAny_call_entry F.slot_zip_next ty F.entry_zip_next ?_ (F.args_zip_next_1 _))))
    show wpAny _ _ (field (.ref z) 2 >>= _) _ _ _; refine wpAny_bind (wpAny_field hz rfl (x := .bool false) rfl ?_); show wpAny _ _ (field (.ref z) 3 >>= _) _ _ _; refine wpAny_bind (wpAny_field hz rfl (x := .ref TI) rfl (wpAny_bind (wpAny_seqItems hI rfl ?_)))
    show wpAny _ _ (Builtin.SmallTypes.ownedTupleIsFree (.ref z) >>= _) _ _ _; refine wpAny_bind ?_; unfold Builtin.SmallTypes.ownedTupleIsFree; refine wpAny_bind (wpAny_field hz rfl (x := .none) rfl (wpAny_pure ?_)); simp only [if_true]
    refine wpAny_bind (wpAny_rule (wpAny_bind (wpAny_field hz rfl (x := .ref TO) rfl (wpAny_bind (wpAny_setField_rec hz (by simp) fun h1 hz1 hs1 => ?_))))); replace hz1 : IsZip h1 z TI TO .ellipsis := hz1
    refine wpAny_bind ?_; simp only [List.zipIdx_cons, List.zipIdx_nil, List.forIn_cons, List.forIn_nil]; refine wpAny_bind (wpAny_bind (wpAny_onRaise ?_)); show wpAny _ _ (Builtin.SmallTypes.nextOf (.ref i1) >>= _) _ _ _
    cases hx : xs[k]? with
    | none =>
      refine wpAny_bind (W1.fin _ _ _ k _ hh (m1 (by simp) hs1.extBut k t1) hx fun h2 e hs2 ⟨oe, hoe, hce⟩ => ?_)
      have hz2 : IsZip h2 z TI TO .ellipsis := hs2 _ _ n1.symm hz1
      have ez : e ≠ z := fun x => by subst x; rw [hz2] at hoe; cases hoe; simp at hce
      refine wpAny_setField_rec hz2 (by simp) fun h3 _ hs3 => stop h3 e (fun c o hc u => ?_) ⟨oe, hs3.extBut _ _ ez hoe, hce⟩
      simp only [List.mem_cons, List.not_mem_nil, or_false, not_or] at hc
      exact hs3.extBut _ _ hc.1 (hs2 _ _ hc.2.2.2.1 (hs1.extBut _ _ hc.1 u))
    | some x =>
      refine wpAny_bind (W1.item _ _ _ k x _ (m1 (by simp) hs1.extBut k t1) hx fun h2 t12 hs2 => wpAny_pure ?_)
      have hO2 : IsTrio h2 TO a b c := hs2.extBut _ _ nO1 (hs1.extBut _ _ nOz hO)
      refine wpAny_bind (wpAny_seqItems hO2 rfl (wpAny_bind (up_trio hO2 fun h3 hO3 hs3 => ?_))); replace hO3 : IsTrio h3 TO x b c := hO3; refine wpAny_bind (wpAny_letGo (wpAny_pure (wpAny_bind (wpAny_bind (wpAny_onRaise ?_))))); show wpAny _ _ (Builtin.SmallTypes.nextOf (.ref i2) >>= _) _ _ _
      cases hy : ys[k]? with
      | none =>
        refine wpAny_bind (W2.fin _ _ _ k _ hh (m2 (by simp) hs3.extBut k (m2 (by simp) hs2.extBut k (m2 (by simp) hs1.extBut k t2))) hy fun h4 e hs4 ⟨oe, hoe, hce⟩ => ?_)
        have hz4 : IsZip h4 z TI TO .ellipsis := hs4 _ _ n2.symm (hs3.extBut _ _ nOz.symm (hs2.extBut _ _ n1.symm hz1))
        have ez : e ≠ z := fun x => by subst x; rw [hz4] at hoe; cases hoe; simp at hce
        refine wpAny_setField_rec hz4 (by simp) fun h5 _ hs5 => stop h5 e (fun c o hc u => ?_) ⟨oe, hs5.extBut _ _ ez hoe, hce⟩
        simp only [List.mem_cons, List.not_mem_nil, or_false, not_or] at hc
        exact hs5.extBut _ _ hc.1 (hs4 _ _ hc.2.2.2.2.1 (hs3.extBut _ _ hc.2.2.1 (hs2.extBut _ _ hc.2.2.2.1 (hs1.extBut _ _ hc.1 u))))
      | some y =>
        have hy3 : zs[k]? = none := by rcases hend with u | u | u; rw [hx] at u; cases u; rw [hy] at u; cases u; exact u
        refine wpAny_bind (W2.item _ _ _ k y _ (m2 (by simp) hs3.extBut k (m2 (by simp) hs2.extBut k (m2 (by simp) hs1.extBut k t2))) hy fun h4 t24 hs4 => wpAny_pure ?_)
        have hO4 : IsTrio h4 TO x b c := hs4.extBut _ _ nO2 hO3
        refine wpAny_bind (wpAny_seqItems hO4 rfl (wpAny_bind (up_trio hO4 fun h5 hO5 hs5 => ?_))); refine wpAny_bind (wpAny_letGo (wpAny_pure (wpAny_bind (wpAny_bind (wpAny_onRaise ?_))))); show wpAny _ _ (Builtin.SmallTypes.nextOf (.ref i3) >>= _) _ _ _
        refine wpAny_bind (W3.fin _ _ _ k _ hh (m3 (by simp) hs5.extBut k (m3 (by simp) hs4.extBut k (m3 (by simp) hs3.extBut k (m3 (by simp) hs2.extBut k (m3 (by simp) hs1.extBut k t3))))) hy3 fun h6 e hs6 ⟨oe, hoe, hce⟩ => ?_)
        have hz6 : IsZip h6 z TI TO .ellipsis := hs6 _ _ n3.symm (hs5.extBut _ _ nOz.symm (hs4.extBut _ _ n2.symm (hs3.extBut _ _ nOz.symm (hs2.extBut _ _ n1.symm hz1))))
        have ez : e ≠ z := fun x => by subst x; rw [hz6] at hoe; cases hoe; simp at hce
        refine wpAny_setField_rec hz6 (by simp) fun h7 _ hs7 => stop h7 e (fun c o hc u => ?_) ⟨oe, hs7.extBut _ _ ez hoe, hce⟩
        simp only [List.mem_cons, List.not_mem_nil, or_false, not_or] at hc
        exact hs7.extBut _ _ hc.1 (hs6 _ _ hc.2.2.2.2.2 (hs5.extBut _ _ hc.2.2.1 (hs4.extBut _ _ hc.2.2.2.2.1 (hs3.extBut _ _ hc.2.2.1 (hs2.extBut _ _ hc.2.2.2.1 (hs1.extBut _ _ hc.1 u))))))
def tob (l : Addr) : Obj := { cls := .type "tuple_iterator", data := .fields #[.ref l, .int 0 0] }
/-- the heap behind zip(x, y, z) -/
def zI (h : Heap) (l1 l2 l3 : Addr) : Heap := ((h.push (tob l1)).push (tob l2)).push (tob l3)
def zJ (h : Heap) (l1 l2 l3 : Addr) : Heap := (zI h l1 l2 l3).push { cls := .type "tuple", data := .seq #[.ref h.objs.size, .ref (h.push (tob l1)).objs.size, .ref ((h.push (tob l1)).push (tob l2)).objs.size] }
def zK (h : Heap) (l1 l2 l3 : Addr) : Heap := (zJ h l1 l2 l3).push { cls := .type "tuple", data := .seq #[.none, .none, .none] }
def zh3 (h : Heap) (l1 l2 l3 : Addr) : Heap := (zK h l1 l2 l3).push { cls := .type "zip", data := .fields #[.none, .bool false, .bool false, .ref (zI h l1 l2 l3).objs.size, .ref (zJ h l1 l2 l3).objs.size] }
theorem z_meets3 (l1 l2 l3 : Addr) (xs ys zs : Array Value) : Meets (Builtin.«zip.__new__» ⟨[.type "zip", .ref l1, .ref l2, .ref l3], []⟩) (fun _ R s => s.heap.IsTuple l1 xs ∧ s.heap.IsTuple l2 ys ∧ s.heap.IsTuple l3 zs ∧
    R (.ok (.ret (.ref (zK s.heap l1 l2 l3).objs.size))) { s with heap := zh3 s.heap l1 l2 l3 }) :=
  .of_wp fun prog w A R s h => by
    obtain ⟨hp, g, d, tk, os⟩ := s
    obtain ⟨a1, a2, a3, h⟩ := h
    have hsub := sub_zip
    have c1 : Heap.IsTuple (Shared.heap ⟨hp, g, d, tk, os⟩) l1 xs := a1
    have c2 : Heap.IsTuple (Shared.heap ⟨hp.push { cls := .type "tuple_iterator", data := .fields #[.ref l1, .int 0 0] }, g, d, tk, os⟩) l2 ys := Kn.seqAt .T a2 fun o e => Heap.get?_push_of_some _ e
    have c3 : Heap.IsTuple (Shared.heap ⟨(hp.push { cls := .type "tuple_iterator", data := .fields #[.ref l1, .int 0 0] }).push { cls := .type "tuple_iterator", data := .fields #[.ref l2, .int 0 0] }, g, d, tk, os⟩) l3 zs := Kn.seqAt .T a3 fun o e => Heap.get?_push_of_some _ (Heap.get?_push_of_some _ e)
    wp_walk using wpAny_pyIter_tuple c1, wpAny_pyIter_tuple c2, wpAny_pyIter_tuple c3
    exact ⟨_, rfl, h⟩
theorem typeCall_zip3 (a b c : Value) : checkTypeCall "zip" ⟨[a, b, c], []⟩ = pure () := by kernel_rfl
theorem newCall_zip3 (a b c : Value) : checkBuiltinCall "zip.__new__" ⟨[.type "zip", a, b, c], []⟩ = pure () := by kernel_rfl
theorem args_oinit4 (a b c d : Value) : argsOk "object.__init__" ⟨[a, b, c, d], []⟩ := by
  unfold argsOk; rw [signature?_of (id := "object.__init__") (n := ['_', '_', 't', 'i', 'n', 'i', '_', '_']) (o := ['t', 'c', 'e', 'j', 'b', 'o']) (by kernel_rfl) PySem.F.owner_object]; kernel_rfl
theorem z_call3 {l1 l2 l3 : Addr} {xs ys zs : Array Value} {Q : Value → Shared → Prop} (a1 : s.heap.IsTuple l1 xs) (a2 : s.heap.IsTuple l2 ys) (a3 : s.heap.IsTuple l3 zs)
    (q : ∀ h' (z TI TO i1 i2 i3 : Addr), ZAp3 z TI TO i1 i2 i3 l1 l2 l3 → s.heap.objs.size ≤ i1 → IsZip h' z TI TO .none → IsTrio h' TI (.ref i1) (.ref i2) (.ref i3) → (∃ a b c, IsTrio h' TO a b c) → h'.IsTupleIter i1 l1 0 → h'.IsTupleIter i2 l2 0 → h'.IsTupleIter i3 l3 0 → (∀ c o, s.heap.get? c = some o → h'.get? c = some o) → Q (.ref z) { s with heap := h' }) :
    wpAny (model prog w) A (call (.type "zip") [.ref l1, .ref l2, .ref l3]) Q E s := by
  refine callType_new F.called_zip (by decide) (typeCall_zip3 _ _ _) (newCall_zip3 _ _ _) (fun obj => args_oinit4 obj _ _ _) F.entry_zip_new (z_meets3 l1 l2 l3 xs ys zs) ⟨a1, a2, a3, ?_⟩
  have lt1 := Kn.lt .T a1
  have lt2 := Kn.lt .T a2
  have lt3 := Kn.lt .T a3
  have g6 : (zh3 s.heap l1 l2 l3).get? (zK s.heap l1 l2 l3).objs.size = some _ := Heap.get?_push_size (zK s.heap l1 l2 l3) rfl
  have g5 : (zh3 s.heap l1 l2 l3).get? (zJ s.heap l1 l2 l3).objs.size = some _ := Heap.get?_push_of_some _ (Heap.get?_push_size (zJ s.heap l1 l2 l3) rfl)
  have g4 : (zh3 s.heap l1 l2 l3).get? (zI s.heap l1 l2 l3).objs.size = some _ := Heap.get?_push_of_some _ (Heap.get?_push_of_some _ (Heap.get?_push_size (zI s.heap l1 l2 l3) rfl))
  have k3 : (zh3 s.heap l1 l2 l3).IsTupleIter ((s.heap.push (tob l1)).push (tob l2)).objs.size l3 0 := Kn.itAt .T (Kn.it0 .T _ l3) fun o e => Heap.get?_push_of_some _ (Heap.get?_push_of_some _ (Heap.get?_push_of_some _ e))
  have k2 : (zh3 s.heap l1 l2 l3).IsTupleIter (s.heap.push (tob l1)).objs.size l2 0 := Kn.itAt .T (Kn.it0 .T _ l2) fun o e => Heap.get?_push_of_some _ (Heap.get?_push_of_some _ (Heap.get?_push_of_some _ (Heap.get?_push_of_some _ e)))
  have k1 : (zh3 s.heap l1 l2 l3).IsTupleIter s.heap.objs.size l1 0 := Kn.itAt .T (Kn.it0 .T _ l1) fun o e => Heap.get?_push_of_some _ (Heap.get?_push_of_some _ (Heap.get?_push_of_some _ (Heap.get?_push_of_some _ (Heap.get?_push_of_some _ e))))
  show _ ∧ _
  refine ⟨⟨_, g6, rfl⟩, q _ _ _ _ _ _ _ ⟨?_, ?_, ?_, ?_, ?_, lt1, lt2, lt3⟩ (Nat.le_refl _) g6 g4 ⟨_, _, _, g5⟩ k1 k2 k3 fun c o x => Heap.get?_push_of_some _ (Heap.get?_push_of_some _ (Heap.get?_push_of_some _ (Heap.get?_push_of_some _ (Heap.get?_push_of_some _ (Heap.get?_push_of_some _ x)))))⟩ <;>
  · (try unfold zK); (try unfold zJ); (try unfold zI); simp only [Heap.size_push]; exact Nat.lt_succ_self _
end
/-- the threes of the tuples at a, b and c -/
def Itz3 (K : PySem.W.Frag) (a b c : Addr) : It :=
  ⟨fun i H => ∃ xs ys zs, SqT K H a xs ∧ SqT K H b ys ∧ SqT K H c zs ∧ i < xs.length ∧ i < ys.length ∧ i < zs.length, fun i H v H' => ∃ T x y u, H T = none ∧ v = .ref T ∧ H' = upd H T (.tup [x, y, u]) ∧ (∀ xs, SqT K H a xs → xs[i]? = some x) ∧ (∀ ys, SqT K H b ys → ys[i]? = some y) ∧ (∀ zs, SqT K H c zs → zs[i]? = some u),
    fun i H => ∃ xs ys zs, SqT K H a xs ∧ SqT K H b ys ∧ SqT K H c zs ∧ (xs.length ≤ i ∨ ys.length ≤ i ∨ zs.length ≤ i)⟩
theorem turn_zip3 {P : Program} {w : World} {K : PySem.W.Frag} {elts : List Expr} {x1} {pos : Pos} {a b c z TI TO i1 i2 i3 : Addr} (D : ZAp3 z TI TO i1 i2 i3 a b c) :
    Turn P w K (.Tuple elts x1 pos) (Itz3 K a b c) [z, TI, TO, i1, i2, i3] z (fun i h => IsZip h z TI TO .none ∧ IsTrio h TI (.ref i1) (.ref i2) (.ref i3) ∧ (∃ x y u, IsTrio h TO x y u) ∧ Kn.it .T h i1 a i ∧ Kn.it .T h i2 b i ∧ Kn.it .T h i3 c i) where
  mem := by simp
  obj := fun i h ⟨hz, hI, ⟨x, y, u, hO⟩, t1, t2, t3⟩ c hc => by
    simp only [List.mem_cons, List.not_mem_nil, or_false] at hc
    rcases hc with rfl | rfl | rfl | rfl | rfl | rfl
    · exact ⟨_, hz, fun v q => by cases (show Data.fields _ = Data.cell v from q)⟩
    · exact ⟨_, hI, fun v q => by cases (show Data.seq _ _ = Data.cell v from q)⟩
    · exact ⟨_, hO, fun v q => by cases (show Data.seq _ _ = Data.cell v from q)⟩
    · exact Kn.itObj .T t1
    · exact Kn.itObj .T t2
    · exact Kn.itObj .T t3
  keep := fun i h h' ⟨hz, hI, ⟨x, y, u, hO⟩, t1, t2, t3⟩ kp => ⟨kp z (by simp) _ hz, kp TI (by simp) _ hI, ⟨x, y, u, kp TO (by simp) _ hO⟩, Kn.itAt .T t1 fun o e => kp i1 (by simp) o e, Kn.itAt .T t2 fun o e => kp i2 (by simp) o e, Kn.itAt .T t3 fun o e => kp i3 (by simp) o e⟩
  item := by
    intro X hP hw hK hc i pins s σ H E I hf ⟨hz, hI, hO, t1, t2, t3⟩ hg
    subst hP hw hK
    obtain ⟨xs, ys, zs, q1, q2, q3, l1, l2, l3⟩ := hg
    obtain ⟨v1, r1, p1⟩ := Kn.inv .T I q1
    obtain ⟨v2, r2, p2⟩ := Kn.inv .T I q2
    obtain ⟨v3, r3, p3⟩ := Kn.inv .T I q3
    obtain ⟨u1, e1, ru1⟩ := r1.get (List.getElem?_eq_getElem l1)
    obtain ⟨u2, e2, ru2⟩ := r2.get (List.getElem?_eq_getElem l2)
    obtain ⟨u3, e3, ru3⟩ := r3.get (List.getElem?_eq_getElem l3)
    obtain ⟨⟨n1, n2, n3, nO1, nO2, nO3, nOz, nIz, nIO, nI1, nI2, nI3, n12, n13, n23⟩, _⟩ := zap_nat3 D.a D.a' D.b D.c D.d D.e D.f D.g
    refine (z_next3 D (Kn.drw .T i1 a (Nat.ne_of_lt D.e) v1.toArray) (Kn.drw .T i2 b (Nat.ne_of_lt (Nat.lt_trans D.f D.a)) v2.toArray) (Kn.drw .T i3 c (Nat.ne_of_lt (Nat.lt_trans D.g (Nat.lt_trans D.a D.a'))) v3.toArray) ⟨hz, hI, hO, ⟨t1, p1⟩, ⟨t2, p2⟩, ⟨t3, p3⟩⟩).1 u1 u2 u3 (by simpa using e1) (by simpa using e2) (by simpa using e3) fun h' hz' hI' hO' s1' s2' s3' hT all => ⟨_, rfl, ?_⟩
    refine wpAny_letOwnedTupleGo_zip hz' fun h2 hz2 sb => ?_
    have nT : ∀ c ∈ [z, TI, TO, i1, i2, i3], c ≠ s.heap.objs.size := fun c hc' => by
      simp only [List.mem_cons, List.not_mem_nil, or_false] at hc'
      rcases hc' with rfl | rfl | rfl | rfl | rfl | rfl
      · exact Nat.ne_of_lt (Heap.lt_size hz)
      · exact Nat.ne_of_lt (Heap.lt_size hI)
      · obtain ⟨_, _, _, q⟩ := hO; exact Nat.ne_of_lt (Heap.lt_size q)
      · obtain ⟨_, q, _⟩ := Kn.itObj .T t1; exact Nat.ne_of_lt (Heap.lt_size q)
      · obtain ⟨_, q, _⟩ := Kn.itObj .T t2; exact Nat.ne_of_lt (Heap.lt_size q)
      · obtain ⟨_, q, _⟩ := Kn.itObj .T t3; exact Nat.ne_of_lt (Heap.lt_size q)
    have hfr : H s.heap.objs.size = none := I.hok.fresh (Nat.le_refl _)
    have I1 : Inv X pins σ (upd H s.heap.objs.size (.tup [xs[i], ys[i], zs[i]])) { s with heap := s.heap.push { cls := .type "tuple", data := .seq #[u1, u2, u3] } } :=
      I.laid (t' := s.toks) (fun b u e => Heap.get?_push_of_some _ e) (Nat.le_refl _) ⟨by show 3 ≤ sizeLine; decide, [u1, u2, u3], .cons ru1 (.cons ru2 (.cons ru3 .nil)), ⟨_, Heap.get?_push_size _ rfl, rfl, _, rfl⟩⟩
    have zT : s.heap.objs.size ≠ z := (nT z (by simp)).symm
    have I2 : Inv X pins σ (upd H s.heap.objs.size (.tup [xs[i], ys[i], zs[i]])) { s with heap := h2 } := Inv.turnedL (s := { s with heap := s.heap.push { cls := .type "tuple", data := .seq #[u1, u2, u3] } }) (t' := s.toks) (fp := [z, TI, TO, i1, i2, i3]) I1 (fun c o hc' e => by
      have hcz : c ≠ z := fun x => hc' (by simp [x])
      rcases Heap.get?_push_cases e with ⟨ec, eo⟩ | e
      · rw [ec, eo]; exact sb.extBut _ _ zT hT
      · exact sb.extBut _ _ hcz (all c o hc' e)) fun c hc' => ⟨by rw [upd_ne (nT c hc')]; exact (hf c hc').1, (hf c hc').2⟩
    refine ⟨.ref s.heap.objs.size, _, I2, rfl, ⟨s.heap.objs.size, xs[i], ys[i], zs[i], hfr, rfl, rfl, fun ws hz => ?_, fun ws hz => ?_, fun ws hz => ?_⟩, ⟨hz2, sb.extBut _ _ nIz hI', ?_, Kn.itAt .T s1'.1 fun o e => sb.extBut _ _ n1 e, Kn.itAt .T s2'.1 fun o e => sb.extBut _ _ n2 e, Kn.itAt .T s3'.1 fun o e => sb.extBut _ _ n3 e⟩, fun c hc' => by rw [upd_ne (nT c hc')]; exact (hf c hc').1⟩
    · rw [Kn.inj .T I hz q1, List.getElem?_eq_getElem l1]
    · rw [Kn.inj .T I hz q2, List.getElem?_eq_getElem l2]
    · rw [Kn.inj .T I hz q3, List.getElem?_eq_getElem l3]
    · obtain ⟨x, y, u, q⟩ := hO'
      exact ⟨x, y, u, sb.extBut _ _ nOz q⟩
  done := by
    intro X hP hw hK hc i pins s σ H E I hf ⟨hz, hI, hO, t1, t2, t3⟩ hg
    subst hP hw hK
    obtain ⟨xs, ys, zs, q1, q2, q3, le⟩ := hg
    obtain ⟨v1, r1, p1⟩ := Kn.inv .T I q1
    obtain ⟨v2, r2, p2⟩ := Kn.inv .T I q2
    obtain ⟨v3, r3, p3⟩ := Kn.inv .T I q3
    have e1 := r1.length
    have e2 := r2.length
    have e3 := r3.length
    refine (z_next3 D (Kn.drw .T i1 a (Nat.ne_of_lt D.e) v1.toArray) (Kn.drw .T i2 b (Nat.ne_of_lt (Nat.lt_trans D.f D.a)) v2.toArray) (Kn.drw .T i3 c (Nat.ne_of_lt (Nat.lt_trans D.g (Nat.lt_trans D.a D.a'))) v3.toArray) ⟨hz, hI, hO, ⟨t1, p1⟩, ⟨t2, p2⟩, ⟨t3, p3⟩⟩).2 (I.ok.hd hc) (by
      rcases le with q | q | q
      · exact .inl (by simp; omega)
      · exact .inr (.inl (by simp; omega))
      · exact .inr (.inr (by simp; omega))) fun h' all => ⟨rfl, I.turnedL (t' := s.toks) (fun c o hc' e => all c o hc' e) hf⟩
  self := fun _ _ _ _ _ st q => wpAny_pyIter_zip st.1 q
section
variable {X : Cx}
def iZip3 (K : PySem.W.Frag) (ta : TA) : TI := fun σ H R => ta σ H fun vs H1 => ∃ a b c xs ys zs, vs = [.ref a, .ref b, .ref c] ∧ SqT K H1 a xs ∧ SqT K H1 b ys ∧ SqT K H1 c zs ∧ R (Itz3 K a b c) H1
theorem pi_zip3 {x y u : Expr} {ta : TA} {elts : List Expr} {x1} {p pos tp : Pos} (hg : Gl X "zip") (hm : X.mg "zip" = none) (ha : PA X [x, y, u] ta) (hs : starEach [x, y, u] X.env = [(false, eval x X.env), (false, eval y X.env), (false, eval u X.env)] := by rfl) (hs2 : starEach [y, u] X.env = [(false, eval y X.env), (false, eval u X.env)] := by rfl) :
    PI X (.Tuple elts x1 tp) (.Call (.Name "zip" p) [x, y, u] [] pos) (iZip3 X.K ta) := by
  intro pins s σ H R I h
  refine Call_ (ld_blt I hg hm bb_zip (PyProof.Rows.callWith_type1 (thn (ha pos pins s σ H _ I h) fun us s1 ⟨vs, H1, I1, r1, q1⟩ => ?_) (by rw [hs, hs2]) (by rw [hs2]; rfl)))
  obtain ⟨a, b, c, xs, ys, zs, e, s1q, s2q, s3q, q⟩ := q1
  subst e
  cases r1 with
  | cons ra r1 => cases r1 with
    | cons rb r1 => cases r1 with
      | cons rc r1 =>
        cases r1
        cases ra
        cases rb
        cases rc
        obtain ⟨v1, w1, p1⟩ := Kn.inv .T I1 s1q
        obtain ⟨v2, w2, p2⟩ := Kn.inv .T I1 s2q
        obtain ⟨v3, w3, p3⟩ := Kn.inv .T I1 s3q
        refine z_call3 p1 p2 p3 fun h' z TI TO i1 i2 i3 D le hz hI hO t1 t2 t3 kp => ?_
        refine wpAny_pyIter_zip (s := { s1 with heap := h' }) hz ?_
        refine ⟨z, [z, TI, TO, i1, i2, i3], _, _, H1, rfl, I1.kept (t' := s1.toks) kp, turn_zip3 D, ⟨hz, hI, hO, t1, t2, t3⟩, fun c hc => ?_, q⟩
        have le2 : s1.heap.objs.size ≤ c := by
          have d1 := D.a
          have d1' := D.a'
          have d2 := D.b
          have d3 := D.c
          have d4 := D.d
          simp only [List.mem_cons, List.not_mem_nil, or_false] at hc
          rcases hc with rfl | rfl | rfl | rfl | rfl | rfl
          · exact Nat.le_of_lt (Nat.lt_of_le_of_lt le (Nat.lt_trans d1 (Nat.lt_trans d1' (Nat.lt_trans d2 (Nat.lt_trans d3 d4)))))
          · exact Nat.le_of_lt (Nat.lt_of_le_of_lt le (Nat.lt_trans d1 (Nat.lt_trans d1' d2)))
          · exact Nat.le_of_lt (Nat.lt_of_le_of_lt le (Nat.lt_trans d1 (Nat.lt_trans d1' (Nat.lt_trans d2 d3))))
          · exact le
          · exact Nat.le_of_lt (Nat.lt_of_le_of_lt le d1)
          · exact Nat.le_of_lt (Nat.lt_of_le_of_lt le (Nat.lt_trans d1 d1'))
        exact I1.fpOk le2 (I1.hok.fresh le2)
end
section
variable {K : PySem.W.Frag} {te : TE} {σ : St} {Q : VK} {H : Hp}
theorem k_zip3 {ta : TA} {R : It → Hp → Prop} (h : ta σ H fun vs H1 => ∃ a b c xs ys zs, vs = [.ref a, .ref b, .ref c] ∧ SqT K H1 a xs ∧ SqT K H1 b ys ∧ SqT K H1 c zs ∧ R (Itz3 K a b c) H1) : iZip3 K ta σ H R := h
/-- [elt for x, y, u in zip(a, b, c)], three of one length -/
theorem comp_zip3 {a b c : Addr} {xs ys zs : List V} {n m : Nat} {g : TG} (e1 : xs.length = m) (e2 : ys.length = m) (e3 : zs.length = m) (h : ∀ D, H D = none → ∃ Pv : Nat → Hp → Prop, Pv 0 (upd H D (.lst [])) ∧ (∀ i H2, i ≤ m → Pv i H2 → SqT K H2 a xs ∧ SqT K H2 b ys ∧ SqT K H2 c zs) ∧
    (∀ i x y u H2 T, xs[i]? = some x → ys[i]? = some y → zs[i]? = some u → Pv i H2 → H2 T = none → EltG g n te σ (.ref T) (upd H2 T (.tup [x, y, u])) D m i Pv) ∧ ∀ H2, Pv m H2 → Q (.ref D) H2) : CompG (Itz3 K a b c) n g te σ Q H := by
  intro D nD
  obtain ⟨Pv, h0, hl, hs, hd⟩ := h D nD
  refine ⟨fun i k H => k = m - i ∧ i ≤ m ∧ Pv i H, ⟨_, rfl, Nat.zero_le _, h0⟩, ?_⟩
  rintro i k H ⟨rfl, hi, p⟩
  obtain ⟨q1, q2, q3⟩ := hl i H hi p
  by_cases hlt : i < m
  · refine .inr ⟨⟨xs, ys, zs, q1, q2, q3, by omega, by omega, by omega⟩, fun v H' y us hu => ?_⟩
    obtain ⟨T, x, y, u, nT, rfl, rfl, z1, z2, z3⟩ := y
    exact hs i x y u H T (z1 xs q1) (z2 ys q2) (z3 zs q3) p nT us hu
  · have e : i = m := by omega
    subst e
    exact .inl ⟨⟨xs, ys, zs, q1, q2, q3, .inl (by omega)⟩, hd H p⟩
end
end L2

set_option Elab.async false
set_option linter.all false
set_option maxRecDepth 100000
set_option maxHeartbeats 4000000
open L2
local macro_rules | `(tactic| walk_at "side") => `(tactic| first
  | (show (0 : Int) < _; omega)
  | (unfold CDiv; omega)
  | (unfold CMul; omega)
  | exact ⟨by decide, by decide, by decide⟩)
local macro_rules | `(tactic| walk_at "rd1") => `(tactic| first
  | with_reducible refine k_seq ?_
  | with_reducible refine k_asg ?_
  | with_reducible refine k_gName ?_
  | ((with_reducible refine' k_var ?k1 ?_); (case k1 => exact rfl))
  | with_reducible refine k_c ?_
  | with_reducible refine k_op ?_
  | with_reducible refine k_rI0 ?_
  | with_reducible refine k_eqI ?_
  | with_reducible refine k_neI ?_
  | with_reducible refine k_eqS ?_
  | with_reducible refine k_eqB ?_
  | with_reducible refine k_neB ?_
  | with_reducible refine k_ifS ?_
  | with_reducible refine k_test ?_
  | with_reducible refine k_tB ?_
  | with_reducible refine k_bl ?_
  | with_reducible refine k_ret ?_
  | with_reducible refine k_next ?_
  | with_reducible refine k_drop ?_
  | with_reducible refine k_not ?_
  | with_reducible refine k_and ?_
  | with_reducible refine k_or ?_
  | with_reducible refine k_andV ?_
  | with_reducible refine k_orV ?_
  | with_reducible refine k_notV ?_
  | with_reducible refine k_if ?_
  | with_reducible refine k_chain ?_
  | with_reducible refine k_nil ?_
  | with_reducible refine k_cons ?_
  | with_reducible refine k_call ?_
  | with_reducible refine k_cB ?_
  | with_reducible refine k_tup ?_
  | with_reducible refine k_lst ?_
  | with_reducible refine k_un ?_
  | with_reducible refine k_rU ?_
  | with_reducible refine k_sl ?_
  | with_reducible refine k_noPart ?_
  | with_reducible refine k_part ?_
  | with_reducible refine k_int ?_
  | with_reducible refine k_retN ?_
  | with_reducible refine k_dput ?_
  | with_reducible refine k_revT ?_
  | with_reducible refine k_compG ?_
  | with_reducible refine k_compF ?_
  | with_reducible refine k_iStr ?_
  | with_reducible refine k_iSeq ?_
  | with_reducible refine k_isLT ?_
  | with_reducible refine k_enum ?_
  | with_reducible refine k_rev ?_
  | with_reducible refine k_dget ?_
  | with_reducible refine k_dnotIn ?_
  | with_reducible refine k_dget1 ?_
  | with_reducible refine k_par ?_
  | with_reducible refine k_fmtS ?_
  | with_reducible refine k_fmtI ?_
  | with_reducible refine k_jn ?_
  | with_reducible refine k_jn0 ?_
  | with_reducible refine k_zip ?_
  | with_reducible refine k_isN ?_
  | with_reducible refine k_notN ?_
  | with_reducible refine k_for ?_
  | with_reducible refine k_comp ?_
  | with_reducible refine k_rng1 ?_
  | with_reducible refine k_rng2 ?_
  | with_reducible refine k_iList ?_
  | with_reducible refine k_iTup ?_
  | with_reducible refine k_bm ?_
  | with_reducible refine k_bm0 ?_
  | with_reducible refine k_elt ?_
  | with_reducible refine k_gCons ?_
  | with_reducible refine k_gNil ?_
  | with_reducible refine k_break ?_
  | with_reducible refine k_cont ?_
  | with_reducible refine k_int1 ?_
  | with_reducible refine k_intB ?_
  | with_reducible refine k_abs ?_
  | with_reducible refine iteT ?_
  | with_reducible refine iteF ?_
  | with_reducible refine k_iteNT ?_
  | with_reducible refine k_iteNF ?_
  | with_reducible refine k_iteNNT ?_
  | with_reducible refine k_iteNNF ?_
  | ((with_reducible refine' k_rI ?k1 ?_); (case k1 => walk_at "side"))
  | ((with_reducible refine' k_r1F ?k1 ?_); (case k1 => (constructor <;> omega)))
  | ((with_reducible refine' k_r1C ?k1 ?_); (case k1 => (constructor <;> omega))))
local macro_rules | `(tactic| walk_at "rd") => `(tactic| repeat walk_at "rd1")
namespace G1
open PySem L2 Fr
open PySem.W (Dat kqdOk)
abbrev ends (Q : VK) : Ends := { nx := fun _ H' => Q .non H', rt := Q }
/-- a heap's numbers -/
def HeapOk (n : Nat) (hs : List Int) : Prop := hs.length = n ∧ ∀ x ∈ hs, 0 ≤ x ∧ x ≤ 3
abbrev dI (ns : List Int) : Dat := .tuple (ns.map Dat.int)
theorem AccZ.ints {K : PySem.W.Frag} {H0 H : Hp} {l : Addr} {ns : List Int} (A : AccZ K H0 l H (ns.map Dat.int)) : H l = some (.lst (ns.map V.int)) := by
  obtain ⟨xs, h1, h2⟩ := A.at_
  rw [RpL.ints_of h2] at h1
  exact h1
theorem AccZ.strs {K : PySem.W.Frag} {H0 H : Hp} {l : Addr} {ns : List Str} (A : AccZ K H0 l H (ns.map Dat.str)) : H l = some (.lst (ns.map V.str)) := by
  obtain ⟨xs, h1, h2⟩ := A.at_
  rw [RpL.strs_of h2] at h1
  exact h1
abbrev az : Str := "abcdefghijklmnopqrstuvwxyz"
theorem az_at : ∀ j : Nat, j < 26 → az.cps.toList[j]? = some (97 + j) := by decide +kernel
theorem az_len : az.length ≤ sizeLine := by decide +kernel
theorem az_ix {i : Int} (h0 : 0 ≤ i) (h1 : i < 26) : atI az.cps.toList i = some (97 + i.toNat) := by
  have e : i = ((i.toNat : Nat) : Int) := by omega
  have q := atI_nat (az_at i.toNat (by omega))
  rw [← e] at q
  exact q
def Low (z : Str) : Prop := ∀ x ∈ z.cps.toList, 97 ≤ x ∧ x ≤ 122
theorem cl_len (z : Str) : z.cps.toList.length = z.length := by simp [Str.length]
theorem low_one {c : Nat} (h0 : 97 ≤ c) (h1 : c ≤ 122) : Low ⟨#[c]⟩ := fun x hx => by
  have : x = c := by simpa using hx
  omega
theorem low_app {a b : Str} (ha : Low a) (hb : Low b) : Low (a ++ b) := fun x hx => by
  rw [Str.cps_append, Array.toList_append] at hx
  rcases List.mem_append.mp hx with q | q
  · exact ha x q
  · exact hb x q
theorem low_cut {z : Str} {lo hi : Option Int} (h : Low z) : Low (scut z lo hi) := fun x hx => by
  have q : x ∈ (hiL z.cps.toList hi).drop (lo.getD 0).toNat := by simpa [scut] using hx
  have q2 := List.mem_of_mem_drop q
  cases hi with
  | none => exact h x q2
  | some j => exact h x (List.mem_of_mem_take q2)
theorem scut_len (z : Str) (lo hi : Option Int) : (scut z lo hi).length = (hiL z.cps.toList hi).length - (lo.getD 0).toNat := by
  show (List.drop (lo.getD 0).toNat (hiL z.cps.toList hi)).toArray.size = _
  rw [List.size_toArray, List.length_drop]
end G1

namespace G1
open PySem L2 Fr
open PySem.W (Dat kqdOk)
def WordOk (w : Str) : Prop := 1 ≤ w.length ∧ w.length ≤ 8 ∧ Low w
def WordsOk (ws : List Str) : Prop := ws.Nodup ∧ ∀ w ∈ ws, WordOk w
theorem nodup_snoc {α : Type} {xs : List α} {x : α} (h : xs.Nodup) (n : x ∉ xs) : (xs ++ [x]).Nodup := by
  rw [List.nodup_append]
  refine ⟨h, by simp, ?_⟩
  intro a ha b hb e
  rw [List.mem_singleton.mp hb] at e
  exact n (e ▸ ha)
theorem all_snoc {α : Type} {P : α → Prop} {xs : List α} {x : α} (h : ∀ y ∈ xs, P y) (n : P x) : ∀ y ∈ xs ++ [x], P y := fun y hy => by
  rcases List.mem_append.mp hy with q | q
  · exact h y q
  · rw [List.mem_singleton.mp q]
    exact n
def PaceOk (q d : Int) : Prop := 0 < q ∧ 0 < d ∧ Gd.gd q d = 1 ∧ q ≤ 10000000000 ∧ d ≤ 10000000000
def spLowP (K : PySem.W.Frag) : Sp := fun vs H Q _ => ∃ t b : Int, vs = [.int t, .int b] ∧ 0 < t ∧ 0 < b ∧ t ≤ 10000000000 ∧ b ≤ 10000000000 ∧ ∀ (p : Addr) (q d : Int) (H' : Hp), Same H H' → PaceOk q d → Rz K H' (.ref p) (dI [q, d]) → Q (.ref p) H'
theorem len_lowP {K : PySem.W.Frag} {vs : List V} {H : Hp} {Q : VK} {E : XK} {y z : Str} (h : spLowP K vs H Q E) : vs.length = [y, z].length := by
  obtain ⟨a, b, rfl, _⟩ := h
  rfl
theorem p10 : (10 : Int) ^ (10 : Int).toNat = 10000000000 := by decide +kernel
theorem ok_dI (ns : List Int) (n : Nat) : kqdOk (n + 1) (dI ns) = true := by
  show ((ns.map Dat.int).all (kqdOk n)) = true
  rw [List.all_eq_true]
  intro x hx
  obtain ⟨i, _, rfl⟩ := List.mem_map.mp hx
  cases n <;> rfl
theorem dI_inj {a b : List Int} (h : dI a = dI b) : a = b := by
  have := Dat.tuple.inj h
  exact (List.map_inj_right (fun x y e => Dat.int.inj e)).mp this
theorem mem_dI {a : List Int} {hs : List (List Int)} : dI a ∈ hs.map dI ↔ a ∈ hs := by
  rw [List.mem_map]
  constructor
  · rintro ⟨b, hb, e⟩
    rw [← dI_inj e]
    exact hb
  · intro h
    exact ⟨a, h, rfl⟩
def PoolOk (n : Nat) (hs : List (List Int)) : Prop := hs.Nodup ∧ ∀ h ∈ hs, HeapOk n h
end G1

namespace L2
open PySem PySem.W
mutual
/-- no list in it -/
def noL : Dat → Bool
  | .list _ => false
  | .tuple ds => noLs ds
  | _ => true
def noLs : List Dat → Bool
  | [] => true
  | d :: ds => noL d && noLs ds
end
mutual
theorem Rp.toZ {K : Frag} {S : Addr → Prop} {H : Hp} : ∀ {v : V} {d : Dat}, noL d = true → Rp K S H v d → Rz K H v d
  | _, _, _, .non => .non
  | _, _, _, .bl b => .bl b
  | _, _, _, .int i => .int i
  | _, _, _, .str x => .str x
  | _, _, h, .tup e r => .tup e (RpL.toZ (by simpa [noL] using h) r)
  | _, _, h, .lst _ _ _ => by simp [noL] at h
theorem RpL.toZ {K : Frag} {S : Addr → Prop} {H : Hp} : ∀ {vs : List V} {ds : List Dat}, noLs ds = true → RpL K S H vs ds → RzL K H vs ds
  | _, _, _, .nil => .nil
  | _, d :: ds, h, .cons a r => by
    have h' : noL d = true ∧ noLs ds = true := by simpa [noLs] using h
    exact .cons (Rp.toZ h'.1 a) (RpL.toZ h'.2 r)
end
end L2
namespace G1
open PySem L2 Fr
open PySem.W (Dat kqdOk)
structure Tn where
  fr : List Int
  to : List Int
  q : Int
  d : Int
def dT (t : Tn) : Dat := .tuple [dI t.fr, dI t.to, dI [t.q, t.d]]
def TurnOk (hs : List (List Int)) (t : Tn) : Prop := t.fr ∈ hs ∧ t.to ∈ hs ∧ t.fr ≠ t.to ∧ PaceOk t.q t.d
def ends2 (t : Tn) : List Int × List Int := (t.fr, t.to)
structure TurnsOk (hs : List (List Int)) (ts : List Tn) : Prop where
  ne : ts ≠ []
  le : ts.length ≤ 8
  nd : (ts.map ends2).Nodup
  ok : ∀ t ∈ ts, TurnOk hs t
def dP (p : Nat × Nat) : Dat := dI [(p.1 : Int), (p.2 : Int)]
theorem dP_inj {a b : Nat × Nat} (h : dP a = dP b) : a = b := by
  have e := dI_inj h
  have e1 : (a.1 : Int) = b.1 := (List.cons.inj e).1
  have e2 : (a.2 : Int) = b.2 := (List.cons.inj (List.cons.inj e).2).1
  obtain ⟨a1, a2⟩ := a
  obtain ⟨b1, b2⟩ := b
  have e1' : a1 = b1 := Int.ofNat.inj e1
  have e2' : a2 = b2 := Int.ofNat.inj e2
  rw [e1', e2']
theorem mem_dP {a : Nat × Nat} {ps : List (Nat × Nat)} : dP a ∈ ps.map dP ↔ a ∈ ps := by
  rw [List.mem_map]
  constructor
  · rintro ⟨b, hb, e⟩
    rw [← dP_inj e]
    exact hb
  · intro h
    exact ⟨a, h, rfl⟩
def PairOk (n : Nat) (p : Nat × Nat) : Prop := p.1 < n ∧ p.2 < n ∧ p.1 ≠ p.2
def two (hs : List (List Int)) (p : Nat × Nat) : List Int × List Int := (hs.getD p.1 [], hs.getD p.2 [])
structure Good (hs : List (List Int)) (ps : List (Nat × Nat)) (ts : List Tn) : Prop where
  nd : ps.Nodup
  le : ps.length ≤ 8
  eq : ts.map ends2 = ps.map (two hs)
  ok : ∀ p ∈ ps, PairOk hs.length p
  pc : ∀ t ∈ ts, PaceOk t.q t.d
theorem Good.nil (hs : List (List Int)) : Good hs [] [] := ⟨List.nodup_nil, by simp, rfl, by simp, by simp⟩
theorem Good.push {hs : List (List Int)} {ps : List (Nat × Nat)} {ts : List Tn} (g : Good hs ps ts) {p : Nat × Nat} {q d : Int} (n : p ∉ ps) (l : ps.length < 8) (o : PairOk hs.length p) (c : PaceOk q d) : Good hs (ps ++ [p]) (ts ++ [⟨hs.getD p.1 [], hs.getD p.2 [], q, d⟩]) :=
  ⟨nodup_snoc g.nd n, by simp; omega, by rw [List.map_append, List.map_append, g.eq]; rfl, all_snoc g.ok o, all_snoc g.pc c⟩
theorem getD_mem {hs : List (List Int)} {i : Nat} (h : i < hs.length) : hs.getD i [] ∈ hs := by
  rw [List.getD_eq_getElem?_getD, List.getElem?_eq_getElem h]
  exact List.getElem_mem h
theorem getD_inj {hs : List (List Int)} (nd : hs.Nodup) {i j : Nat} (hi : i < hs.length) (hj : j < hs.length) (e : hs.getD i [] = hs.getD j []) : i = j := by
  rw [List.getD_eq_getElem?_getD, List.getElem?_eq_getElem hi, List.getD_eq_getElem?_getD, List.getElem?_eq_getElem hj] at e
  have e' : hs[i] = hs[j] := e
  have pw := List.pairwise_iff_getElem.mp nd
  rcases Nat.lt_trichotomy i j with z | z | z
  · exact absurd e' (pw i j hi hj z)
  · exact z
  · exact absurd e'.symm (pw j i hj hi z)
theorem nodup_map_on {α β : Type} {f : α → β} : ∀ {xs : List α}, xs.Nodup → (∀ a ∈ xs, ∀ b ∈ xs, f a = f b → a = b) → (xs.map f).Nodup
  | [], _, _ => List.nodup_nil
  | x :: xs, h, hf => by
    rw [List.map_cons, List.nodup_cons]
    refine ⟨fun hm => ?_, nodup_map_on (List.nodup_cons.mp h).2 fun a ha b hb => hf a (List.mem_cons_of_mem _ ha) b (List.mem_cons_of_mem _ hb)⟩
    obtain ⟨y, hy, e⟩ := List.mem_map.mp hm
    rw [← hf y (List.mem_cons_of_mem _ hy) x List.mem_cons_self e] at h
    exact (List.nodup_cons.mp h).1 hy
theorem Good.turns {hs : List (List Int)} {ps : List (Nat × Nat)} {ts : List Tn} (g : Good hs ps ts) (nd : hs.Nodup) (ne : ps ≠ []) : TurnsOk hs ts := by
  have len : ts.length = ps.length := by have := congrArg List.length g.eq; simpa using this
  refine ⟨fun z => ?_, by rw [len]; exact g.le, ?_, fun t ht => ?_⟩
  · rw [z] at len
    exact ne (List.length_eq_zero_iff.mp len.symm)
  · rw [g.eq]
    refine nodup_map_on g.nd fun a ha b hb e => ?_
    have oa := g.ok a ha
    have ob := g.ok b hb
    have e1 := getD_inj nd oa.1 ob.1 (congrArg Prod.fst e)
    have e2 := getD_inj nd oa.2.1 ob.2.1 (congrArg Prod.snd e)
    obtain ⟨a1, a2⟩ := a
    obtain ⟨b1, b2⟩ := b
    simp only at e1 e2
    rw [e1, e2]
  · have hm : ends2 t ∈ ps.map (two hs) := by rw [← g.eq]; exact List.mem_map.mpr ⟨t, ht, rfl⟩
    obtain ⟨p, hp, e⟩ := List.mem_map.mp hm
    have op := g.ok p hp
    have e1 : hs.getD p.1 [] = t.fr := congrArg Prod.fst e
    have e2 : hs.getD p.2 [] = t.to := congrArg Prod.snd e
    refine ⟨e1 ▸ getD_mem op.1, e2 ▸ getD_mem op.2.1, fun z => op.2.2 ?_, g.pc t ht⟩
    rw [← e1, ← e2] at z
    exact getD_inj nd op.1 op.2.1 z
structure VesOk (ws : List Str) (ts : List Tn) : Prop where
  words : WordsOk ws
  w1 : 1 ≤ ws.length
  w5 : ws.length ≤ 5
  turns : ∃ hs, PoolOk ws.length hs ∧ hs.length ≤ 8 ∧ TurnsOk hs ts
def dV (ws : List Str) (ts : List Tn) : Dat := .tuple [.tuple (ws.map Dat.str), .tuple (ts.map dT)]
end G1

namespace L2
open PySem PySem.Spec PyProof.Rows
open PySem.W (Dat kqdOk)
abbrev Ra (K : PySem.W.Frag) (H : Hp) : V → Dat → Prop := Rp K (fun _ => True) H
theorem Rp.a {K : PySem.W.Frag} {S : Addr → Prop} {H : Hp} {v : V} {d : Dat} (h : Rp K S H v d) : Ra K H v d := h.mono fun _ _ => trivial
end L2
namespace Sm
open PySem L2 G1
open PySem.W (Dat kqdOk)
end Sm

namespace Vs
open PySem L2 Fr G1 Sm
open PySem.W (Dat kqdOk)
def insH (hs : List (List Int)) (h : List Int) : List (List Int) := if h ∈ hs then hs else hs ++ [h]
def hddF (hs : List (List Int)) (ts : List Tn) : List (List Int) := ts.foldl (fun hs t => insH (insH hs t.fr) t.to) hs
def hdd (ts : List Tn) : List (List Int) := hddF [] ts
theorem dT_at {K : PySem.W.Frag} {H : Hp} {v : V} {t : Tn} (h : Rz K H v (dT t)) : ∃ (a : Addr) (v1 v2 v3 : V), v = .ref a ∧ H a = some (.tup [v1, v2, v3]) ∧ Rz K H v1 (dI t.fr) ∧ Rz K H v2 (dI t.to) ∧ Rz K H v3 (dI [t.q, t.d]) := by
  obtain ⟨a, xs, e, ha, r⟩ := h.tup_at
  cases r with
  | cons r1 r =>
    cases r with
    | cons r2 r =>
      cases r with
      | cons r3 r =>
        cases r
        exact ⟨a, _, _, _, e, ha, r1, r2, r3⟩
theorem dI_at {K : PySem.W.Frag} {H : Hp} {v : V} {ns : List Int} (h : Rz K H v (dI ns)) : ∃ a : Addr, v = .ref a ∧ H a = some (.tup (ns.map V.int)) := by
  obtain ⟨a, xs, e, ha, r⟩ := h.tup_at
  rw [RpL.ints_of r] at ha
  exact ⟨a, e, ha⟩
theorem dV_at {K : PySem.W.Frag} {H : Hp} {v : V} {ws : List Str} {ts : List Tn} (h : Rz K H v (dV ws ts)) : ∃ (a : Addr) (v1 v2 : V), v = .ref a ∧ H a = some (.tup [v1, v2]) ∧ Rz K H v1 (.tuple (ws.map Dat.str)) ∧ Rz K H v2 (.tuple (ts.map dT)) := by
  obtain ⟨a, xs, e, ha, r⟩ := h.tup_at
  cases r with
  | cons r1 r =>
    cases r with
    | cons r2 r =>
      cases r
      exact ⟨a, _, _, e, ha, r1, r2⟩
end Vs

namespace G2
open PySem L2 Fr G1
open PySem.W (Dat kqdOk)
def Mx2 (n : Int) : Prop := 0 ≤ n ∧ n < 2147483587
def spMix2 : Sp := fun vs H Q _ => ∃ c p : Int, vs = [.int c, .int p] ∧ 0 ≤ p ∧ p ≤ 1000 ∧ ∀ m : Int, Mx2 m → Q (.int m) H
theorem len_mix2 {vs : List V} {H : Hp} {Q : VK} {E : XK} {y z : Str} (h : spMix2 vs H Q E) : vs.length = [y, z].length := by
  obtain ⟨a, b, rfl, _⟩ := h
  rfl
def t_mix2 (K : PySem.W.Frag) : TS := (tSeq (tAsg (tOp rMod (tOp qAdd (tOp qAdd (tOp (rI CMul fun i j => .int (i * j)) (tOp rMod (tVar 0) (tC (.int 2147483629))) (tC (.int 16807))) (tOp (rI CMul fun i j => .int (i * j)) (tC (.int 69621)) (tVar 1))) (tC (.int 11))) (tC (.int 2147483629))) (gName 2))
  (tSeq (tAsg (tOp rMod (tOp qAdd (tOp qAdd (tOp (rI CMul fun i j => .int (i * j)) (tVar 2) (tVar 2)) (tOp (rI CMul fun i j => .int (i * j)) (tC (.int 48271)) (tVar 1))) (tC (.int 7))) (tC (.int 2147483629))) (gName 2))
  (tRet (tOp rMod (tOp qAdd (tOp (rI CMul fun i j => .int (i * j)) (tVar 2) (tVar 2)) (tC (.int 69621))) (tC (.int 2147483587))))))
theorem rd_mix2 {K : PySem.W.Frag} {vs : List V} {H : Hp} {Q : VK} {E : XK} {N : List Str} (hN : N.length = 3) (h : spMix2 vs H Q E) : t_mix2 K (ends Q) (L2.start N vs) H := by
  obtain ⟨c, p, rfl, h0, h1, k⟩ := h
  rw [show L2.start N [.int c, .int p] = [some (.int c), some (.int p), none] by unfold L2.start; rw [hN]; rfl]
  unfold t_mix2
  walk_at "rd"
  generalize hx : (c % 2147483629 * 16807 + 69621 * p + 11) % 2147483629 = x
  have x0 : 0 ≤ x ∧ x < 2147483629 := by omega
  walk_at "rd"
  generalize hy : (x * x + 48271 * p + 7) % 2147483629 = y
  have y0 : 0 ≤ y ∧ y < 2147483629 := by omega
  walk_at "rd"
  exact k _ ⟨by omega, by omega⟩
def t_div2 (K : PySem.W.Frag) : TS := (tSeq (tWhile (tTest (tOp rNe (tVar 1) (tC (.int 0))))
  (tPar 0 1 (tCons (tVar 1) (tCons (tOp rModN (tVar 0) (tVar 1)) tNil))))
  (tRet (tCB rAbs (tCons (tVar 0) tNil))))
theorem rd_div2 {K : PySem.W.Frag} {vs : List V} {H : Hp} {Q : VK} {E : XK} {N : List Str} (hN : N.length = 2) (h : spDiv vs H Q E) : t_div2 K (ends Q) (L2.start N vs) H := by
  obtain ⟨a, b, rfl, k⟩ := h
  rw [show L2.start N [.int a, .int b] = [some (.int a), some (.int b)] by unfold L2.start; rw [hN]; rfl]
  unfold t_div2
  refine while_by (fun σ H' => H' = H ∧ ∃ i j : Int, σ = [some (.int i), some (.int j)] ∧ Gd.gd i j = Gd.gd a b)
    (fun σ _ => match σ with | [_, some (.int j)] => j.natAbs | _ => 0) ⟨rfl, a, b, rfl, rfl⟩ ?_ ?_
  · rintro σ H' ⟨rfl, i, j, rfl, e⟩
    refine ⟨_, rfl, rfl, _, rfl, iteNE (fun hj => ?_) (fun hj => ?_)⟩
    · refine ⟨_, rfl, _, rfl, _, rfl, _, _, rfl, rfl, hj, _, _, rfl, ⟨rfl, j, i.fmod j, rfl, (Gd.gd_turn i j).trans e⟩, ?_⟩
      exact Gd.gd_less hj
    · subst hj
      refine ⟨_, rfl, _, rfl, ?_⟩
      rw [Gd.gd_out, e]
      exact k
  · rintro σ H' R R' h ⟨v, e, sc, c, ec, q⟩
    exact ⟨v, e, sc, c, ec, h _ _ q⟩
def t_low2 (K : PySem.W.Frag) : TS := (tSeq (tAsg (tCall spDiv [] E0 (tCons (tVar 0) (tCons (tVar 1) tNil))) (gName 2))
  (tRet (tTup (tCons (tOp rDivW (tVar 0) (tVar 2)) (tCons (tOp rDivW (tVar 1) (tVar 2)) tNil)))))
theorem rd_low2 {K : PySem.W.Frag} {vs : List V} {H : Hp} {Q : VK} {E : XK} {N : List Str} (hN : N.length = 3) (h : spLowP K vs H Q E) : t_low2 K (ends Q) (L2.start N vs) H := by
  obtain ⟨t, b, rfl, t0, b0, t1, b1, k⟩ := h
  rw [show L2.start N [.int t, .int b] = [some (.int t), some (.int b), none] by unfold L2.start; rw [hN]; rfl]
  unfold t_low2
  walk_at "rd"
  refine ⟨t, b, rfl, ?_⟩
  have nb : b ≠ 0 := by omega
  have gp := Gd.gd_pos (a := t) nb
  have gl := Gd.gd_le (a := t) nb
  have wd : (Gd.gd t b).natAbs < 2 ^ 9000 := Gd.wide (by omega)
  have L := Gd.low_of (t := t) (b := b) (d := Gd.gd t b) nb (.inl ⟨rfl, b0⟩)
  have M := Gd.low_abs (t := t) (b := b) (d := Gd.gd t b) nb (.inl ⟨rfl, b0⟩)
  walk_at "rd"
  refine k_rI ⟨by omega, wd⟩ ?_
  walk_at "rd"
  refine k_rI ⟨by omega, wd⟩ ?_
  walk_at "rd"
  refine ⟨by show 2 ≤ sizeLine; decide, fun p np => ?_⟩
  have q0 : 0 < t.fdiv (Gd.gd t b) := by
    have w := L.worth
    have := L.pos
    by_cases z : 0 < t.fdiv (Gd.gd t b)
    · exact z
    · have h1 : t.fdiv (Gd.gd t b) * b ≤ 0 := Int.mul_nonpos_of_nonpos_of_nonneg (by omega) (by omega)
      have h2 : 0 < t * b.fdiv (Gd.gd t b) := Int.mul_pos t0 L.pos
      omega
  have := L.pos
  exact k p _ _ _ (same_new np _) ⟨q0, L.pos, L.low, by omega, by omega⟩ (.tup upd_same (RpL.ints [_, _]))
def spPace2 (K : PySem.W.Frag) : Sp := fun vs H Q _ => ∃ a b : Int, vs = [.int a, .int b] ∧ ∀ (p : Addr) (q d : Int) (H' : Hp), Same H H' → PaceOk q d → Rz K H' (.ref p) (dI [q, d]) → Q (.ref p) H'
theorem len_pace2 {K : PySem.W.Frag} {vs : List V} {H : Hp} {Q : VK} {E : XK} {y z : Str} (h : spPace2 K vs H Q E) : vs.length = [y, z].length := by
  obtain ⟨a, b, rfl, _⟩ := h
  rfl
def t_pace2 (K : PySem.W.Frag) : TS := (tSeq (tIfS (tTest (tOp rEq (tVar 1) (tC (.int 0))))
  (tRet (tTup (tCons (tC (.int 1)) (tCons (tC (.int 1)) tNil))))
  tNext)
  (tSeq (tIfS (tTest (tOp rEq (tVar 1) (tC (.int 1))))
  (tRet (tCall (spLowP K) [] E0 (tCons (tOp qAdd (tC (.int 1)) (tOp rMod (tVar 0) (tC (.int 6)))) (tCons (tOp qAdd (tC (.int 1)) (tOp rMod (tOp rDiv (tVar 0) (tC (.int 6))) (tC (.int 5)))) tNil))))
  tNext)
  (tRet (tCall (spLowP K) [] E0 (tCons (tOp qAdd (tC (.int 1)) (tOp rMod (tVar 0) (tOp rPow (tC (.int 10)) (tC (.int 9))))) (tCons (tOp qAdd (tC (.int 1)) (tOp rMod (tOp rDiv (tVar 0) (tOp rPow (tC (.int 10)) (tC (.int 9)))) (tOp rPow (tC (.int 10)) (tC (.int 9))))) tNil))))))
theorem p9 : (10 : Int) ^ (9 : Int).toNat = 1000000000 := by decide +kernel
theorem gd11 : Gd.gd 1 1 = 1 := by decide +kernel
theorem rd_pace2 {K : PySem.W.Frag} {vs : List V} {H : Hp} {Q : VK} {E : XK} {N : List Str} (hN : N.length = 2) (h : spPace2 K vs H Q E) : t_pace2 K (ends Q) (L2.start N vs) H := by
  obtain ⟨a, b, rfl, k⟩ := h
  rw [show L2.start N [.int a, .int b] = [some (.int a), some (.int b)] by unfold L2.start; rw [hN]; rfl]
  unfold t_pace2
  walk_at "rd"
  refine k_ite (fun z => ?_) (fun z => ?_)
  · walk_at "rd"
    refine ⟨by show 2 ≤ sizeLine; decide, fun p np => ?_⟩
    exact k p 1 1 _ (same_new np _) ⟨by decide, by decide, gd11, by decide, by decide⟩ (.tup upd_same (RpL.ints [1, 1]))
  walk_at "rd"
  refine k_ite (fun z => ?_) (fun z => ?_)
  · walk_at "rd"
    exact ⟨_, _, rfl, by omega, by omega, by omega, by omega, k⟩
  · walk_at "rd"
    rw [p9]
    walk_at "rd"
    rw [p9]
    walk_at "rd"
    rw [p9]
    walk_at "rd"
    exact ⟨_, _, rfl, by omega, by omega, by omega, by omega, k⟩
def spWords2 (K : PySem.W.Frag) : Sp := fun vs H Q _ => ∃ n m : Int, vs = [.int n, .int m] ∧ 0 ≤ n ∧ 1 ≤ m ∧ m ≤ 5 ∧ ∀ (p : Addr) (H' : Hp) (ws : List Str), Same H H' → WordsOk ws → ws.length = m.toNat → Rz K H' (.ref p) (.tuple (ws.map Dat.str)) → Q (.ref p) H'
theorem len_words2 {K : PySem.W.Frag} {vs : List V} {H : Hp} {Q : VK} {E : XK} {y z : Str} (h : spWords2 K vs H Q E) : vs.length = [y, z].length := by
  obtain ⟨a, b, rfl, _⟩ := h
  rfl
theorem xyz_cut : ∀ j : Nat, j < 4 → (scut "xyz" none (some (j : Int))).length ≤ 3 ∧ Low (scut "xyz" none (some (j : Int))) := by
  intro j hj
  have sl := scut_len ("xyz" : Str) none (some (j : Int))
  have l3 : (("xyz" : Str)).length = 3 := by decide +kernel
  refine ⟨?_, low_cut ?_⟩
  · rw [sl]
    simp only [hiL, List.length_take, cl_len, l3, Option.getD]
    omega
  · intro x hx
    have : (("xyz" : Str)).cps.toList = [120, 121, 122] := by decide +kernel
    rw [this] at hx
    simp only [List.mem_cons, List.not_mem_nil, or_false] at hx
    omega
theorem app_list (a b : Str) : (a ++ b).cps.toList = a.cps.toList ++ b.cps.toList := by
  show (a.cps ++ b.cps).toList = _
  exact Array.toList_append
theorem low_app {a b : Str} (h1 : Low a) (h2 : Low b) : Low (a ++ b) := fun x hx => by
  rw [app_list] at hx
  rcases List.mem_append.mp hx with q | q
  · exact h1 x q
  · exact h2 x q
def t_words2 (K : PySem.W.Frag) : TS := (tSeq (tAsg (tC (.str "abcdefghijklmnopqrstuvwxyz")) (gName 2))
  (tSeq (tAsg (tLst tNil) (gName 3))
  (tSeq (tFor (iRng1 (tCons (tVar 1) tNil)) (gName 4)
  (tSeq (tAsg (tOp rIxS (tVar 2) (tOp rMod (tOp qAdd (tVar 0) (tOp (rI CMul fun i j => .int (i * j)) (tC (.int 5)) (tVar 4))) (tC (.int 26)))) (gName 5))
  (tDrop (tBM K "list" rAppend (tVar 3) (tCons (tOp rAddS (tOp rAddS (tVar 5) (tSl rSlS (tC (.str "xyz")) tNoPart (tPart (tOp rMod (tOp rDiv (tVar 0) (tC (.int 26))) (tC (.int 4)))))) (tOp rRepS (tVar 5) (tOp rMod (tOp rDiv (tVar 0) (tC (.int 104))) (tC (.int 2))))) tNil)))))
  (tRet (tCB (rTupOf K) (tCons (tVar 3) tNil))))))
theorem rd_words2 {K : PySem.W.Frag} {vs : List V} {H : Hp} {Q : VK} {E : XK} {N : List Str} (hN : N.length = 6) (h : spWords2 K vs H Q E) : t_words2 K (ends Q) (L2.start N vs) H := by
  obtain ⟨n, m, rfl, n0, m1, m5, k⟩ := h
  rw [show L2.start N [.int n, .int m] = [some (.int n), some (.int m), none, none, none, none] by unfold L2.start; rw [hN]; rfl]
  unfold t_words2
  walk_at "rd"
  refine ⟨by decide, fun l nl => ?_⟩
  walk_at "rd"
  refine fat_range (fun i σ H2 => ∃ (ws : List Str) (v4 v5 : Option V), σ = [some (.int n), some (.int m), some (.str az), some (.ref l), v4, v5] ∧ AccZ K H l H2 (ws.map Dat.str) ∧ ws.length = i ∧ WordsOk ws ∧
      ∀ (j : Nat) (w : Str), ws[j]? = some w → w.cps.toList[0]? = some (97 + ((n + 5 * (j : Int)) % 26).toNat))
    ⟨[], none, none, rfl, AccZ.start (Same.refl _) nl, rfl, ⟨List.nodup_nil, by simp⟩, by simp⟩ ?_ ?_
  · rintro i σ H2 hi ⟨ws, v4, v5, rfl, A, hl, hw, hj⟩
    have e0 : (0 : Int) + (i : Int) = (i : Int) := by omega
    rw [e0]
    have f0 := Int.emod_nonneg (n + 5 * (i : Int)) (b := 26) (by omega)
    have f1 := Int.emod_lt_of_pos (n + 5 * (i : Int)) (b := 26) (by omega)
    walk_at "rd"
    refine k_ixS az_len (az_ix f0 f1) ?_
    have lf := low_one (c := 97 + ((n + 5 * (i : Int)) % 26).toNat) (by omega) (by omega)
    have len1 : (⟨#[97 + ((n + 5 * (i : Int)) % 26).toNat]⟩ : Str).length = 1 := rfl
    have hd1 : (⟨#[97 + ((n + 5 * (i : Int)) % 26).toNat]⟩ : Str).cps.toList[0]? = some (97 + ((n + 5 * (i : Int)) % 26).toNat) := rfl
    generalize hf : (⟨#[97 + ((n + 5 * (i : Int)) % 26).toNat]⟩ : Str) = fw at lf len1 hd1 ⊢
    walk_at "rd"
    refine ⟨A.ty, ?_⟩
    walk_at "rd"
    have j0 : 0 ≤ n / 26 % 4 := by omega
    have ej : n / 26 % 4 = (((n / 26 % 4).toNat : Nat) : Int) := by omega
    have xc := xyz_cut (n / 26 % 4).toNat (by omega)
    rw [← ej] at xc
    refine ⟨_, rfl, by decide +kernel, trivial, j0, ?_⟩
    generalize scut "xyz" none (some (n / 26 % 4)) = mid at xc ⊢
    refine k_addS (by rw [len1, show sizeLine = 16777216 by decide]; omega) ?_
    walk_at "rd"
    refine k_repS (by omega) ?_
    generalize he : (if n / 104 % 2 = 0 then Str.empty else fw) = tl
    have tlo : tl.length ≤ 1 ∧ Low tl := by
      rw [← he]
      split
      · exact ⟨by decide, fun x hx => by cases hx⟩
      · exact ⟨by omega, lf⟩
    have lnew : (fw ++ mid ++ tl).length = fw.length + mid.length + tl.length := by rw [strLen_append, strLen_append]
    refine k_addS (by rw [strLen_append, len1, show sizeLine = 16777216 by decide]; omega) ?_
    walk_at "rd"
    refine k_appZ A (.str _) (small1000 (by rw [List.length_map]; omega)) fun H3 A3 _ _ _ => ?_
    have hd2 : (fw ++ mid ++ tl).cps.toList[0]? = some (97 + ((n + 5 * (i : Int)) % 26).toNat) := by
      rw [app_list, app_list, List.append_assoc, List.getElem?_append_left (by rw [cl_len, len1]; omega)]
      exact hd1
    walk_at "rd"
    refine ⟨ws ++ [fw ++ mid ++ tl], _, _, rfl, by rw [List.map_append]; exact A3, by simp [hl], ⟨nodup_snoc hw.1 fun hx => ?_, all_snoc hw.2 ⟨by omega, by omega, low_app (low_app lf xc.2) tlo.2⟩⟩, fun j w e => ?_⟩
    · obtain ⟨j, hj1, hj2⟩ := List.mem_iff_getElem.mp hx
      have g := hj j _ (by rw [List.getElem?_eq_getElem hj1, hj2])
      rw [hd2] at g
      have g' := Option.some.inj g
      omega
    · by_cases lt : j < ws.length
      · rw [List.getElem?_append_left lt] at e
        exact hj j w e
      · rw [List.getElem?_append_right (by omega)] at e
        have z : j - ws.length = 0 := by
          rcases Nat.eq_zero_or_pos (j - ws.length) with z | z
          · exact z
          · rw [List.getElem?_eq_none (by simp; omega)] at e
            cases e
        rw [z] at e
        have e' : fw ++ mid ++ tl = w := by simpa using e
        have ej2 : j = i := by omega
        rw [← e', ej2]
        exact hd2
  · rintro σ H2 ⟨ws, v4, v5, rfl, A, hl, hw, hj⟩
    have e := AccZ.strs A
    walk_at "rd"
    refine k_tupL (SqL.of e) fun p np => ?_
    exact k p _ ws (A.same.trans (same_new np _)) hw hl (.tup upd_same (RpL.strs ws))
def spHeap2 (K : PySem.W.Frag) : Sp := fun vs H Q _ => ∃ (c k m t : Int) (pl : Bool), vs = [.int c, .int k, .int m, .int t, .bl pl] ∧ 0 ≤ k ∧ k ≤ 100 ∧ 0 ≤ m ∧ m ≤ 5 ∧ 2 ≤ t ∧ t ≤ 4 ∧ ∀ (p : Addr) (H' : Hp) (hs : List Int), Same H H' → HeapOk m.toNat hs → Rz K H' (.ref p) (dI hs) → Q (.ref p) H'
theorem len_heap2 {K : PySem.W.Frag} {vs : List V} {H : Hp} {Q : VK} {E : XK} {v w x y z : Str} (h : spHeap2 K vs H Q E) : vs.length = [v, w, x, y, z].length := by
  obtain ⟨a, b, c, d, e, rfl, _⟩ := h
  rfl
def t_heap2 (K : PySem.W.Frag) : TS := (tSeq (tAsg (tVar 0) (gName 5))
  (tSeq (tIfS (tTest (tOp rGt (tVar 1) (tC (.int 5))))
  (tAsg (tOp rDiv (tVar 0) (tC (.int 1024))) (gName 5))
  tNext)
  (tSeq (tAsg (tLst tNil) (gName 6))
  (tSeq (tFor (iRng1 (tCons (tVar 2) tNil)) (gName 7)
  (tIfS (tB (tVar 4))
  (tSeq (tDrop (tBM K "list" rAppend (tVar 6) (tCons (tOp rMod (tVar 5) (tVar 3)) tNil)))
  (tAsg (tOp rDiv (tVar 5) (tVar 3)) (gName 5)))
  (tDrop (tBM K "list" rAppend (tVar 6) (tCons (tOp rMod (tCall spMix2 [] E0 (tCons (tVar 0) (tCons (tOp qAdd (tOp (rI CMul fun i j => .int (i * j)) (tC (.int 5)) (tVar 1)) (tVar 7)) tNil))) (tVar 3)) tNil)))))
  (tRet (tCB (rTupOf K) (tCons (tVar 6) tNil)))))))
theorem rd_heap2 {K : PySem.W.Frag} {vs : List V} {H : Hp} {Q : VK} {E : XK} {N : List Str} (hN : N.length = 8) (h : spHeap2 K vs H Q E) : t_heap2 K (ends Q) (L2.start N vs) H := by
  obtain ⟨c, kk, m, t, pl, rfl, k0, k1, m0, m5, t2, t4, k⟩ := h
  rw [show L2.start N [.int c, .int kk, .int m, .int t, .bl pl] = [some (.int c), some (.int kk), some (.int m), some (.int t), some (.bl pl), none, none, none] by unfold L2.start; rw [hN]; rfl]
  unfold t_heap2
  walk_at "rd"
  -- behind the number
  have rest : ∀ z0 : Int, (tSeq (tAsg (tLst tNil) (gName 6)) (tSeq (tFor (iRng1 (tCons (tVar 2) tNil)) (gName 7)
  (tIfS (tB (tVar 4))
  (tSeq (tDrop (tBM K "list" rAppend (tVar 6) (tCons (tOp rMod (tVar 5) (tVar 3)) tNil)))
  (tAsg (tOp rDiv (tVar 5) (tVar 3)) (gName 5)))
  (tDrop (tBM K "list" rAppend (tVar 6) (tCons (tOp rMod (tCall spMix2 [] E0 (tCons (tVar 0) (tCons (tOp qAdd (tOp (rI CMul fun i j => .int (i * j)) (tC (.int 5)) (tVar 1)) (tVar 7)) tNil))) (tVar 3)) tNil)))))
  (tRet (tCB (rTupOf K) (tCons (tVar 6) tNil))))) (ends Q) [some (.int c), some (.int kk), some (.int m), some (.int t), some (.bl pl), some (.int z0), none, none] H := by
    intro z0
    walk_at "rd"
    refine ⟨by decide, fun l nl => ?_⟩
    walk_at "rd"
    refine fat_range (fun i σ H2 => ∃ (ns : List Int) (z : Int) (v : Option V), σ = [some (.int c), some (.int kk), some (.int m), some (.int t), some (.bl pl), some (.int z), some (.ref l), v] ∧ AccZ K H l H2 (ns.map Dat.int) ∧ HeapOk i ns) ⟨[], z0, none, rfl, AccZ.start (Same.refl _) nl, rfl, by simp⟩ ?_ ?_
    · rintro i σ H2 hi ⟨ns, z, v, rfl, A, hl, hb⟩
      have one : ∀ x : Int, HeapOk (i + 1) (ns ++ [x % t]) := fun x => ⟨by simp [hl], fun y hy => by
        rcases List.mem_append.mp hy with q | q
        · exact hb y q
        · rw [List.mem_singleton.mp q]
          have e1 := Int.emod_nonneg x (b := t) (by omega)
          have e2 := Int.emod_lt_of_pos x (b := t) (by omega)
          exact ⟨by omega, by omega⟩⟩
      walk_at "rd"
      cases pl with
      | true =>
        walk_at "rd"
        refine ⟨A.ty, ?_⟩
        walk_at "rd"
        refine k_appZ A (.int _) (small1000 (by rw [List.length_map]; omega)) fun H3 A3 _ _ _ => ?_
        walk_at "rd"
        exact ⟨ns ++ [z % t], _, _, rfl, by simpa using A3, one z⟩
      | false =>
        walk_at "rd"
        refine ⟨A.ty, ?_⟩
        walk_at "rd"
        refine ⟨c, 5 * kk + (0 + (i : Int)), rfl, by omega, by omega, fun x hx => ?_⟩
        walk_at "rd"
        refine k_appZ A (.int _) (small1000 (by rw [List.length_map]; omega)) fun H3 A3 _ _ _ => ?_
        walk_at "rd"
        exact ⟨ns ++ [x % t], _, _, rfl, by simpa using A3, one x⟩
    · rintro σ H2 ⟨ns, z, v, rfl, A, hh⟩
      walk_at "rd"
      have e := AccZ.ints A
      refine k_tupL (SqL.of e) fun p np => ?_
      exact k p _ ns (A.same.trans (same_new np _)) hh (.tup upd_same (RpL.ints ns))
  refine k_ite (fun _ => ?_) (fun _ => ?_)
  · walk_at "rd1"
    walk_at "rd1"
    walk_at "rd1"
    walk_at "rd1"
    walk_at "rd1"
    walk_at "rd1"
    exact rest _
  · exact rest _
end G2

namespace G2
open PySem L2 Fr G1
open PySem.W (Dat kqdOk)
theorem acc_back {K : PySem.W.Frag} {H H3 H' : Hp} {l : Addr} {ds : List Dat} (S : Same H H3) (A : AccZ K H3 l H' ds) : AccZ K H l H' ds := ⟨S.trans A.same, S.free A.new, A.at_⟩
def spare (h1 : Int) (m : Nat) : List Int := (List.range m).map fun j => if j = 0 then (if decide (h1 = 0) = true then 1 else 0) else 0
def spPool2 (K : PySem.W.Frag) : Sp := fun vs H Q _ => ∃ (a : Addr) (ns : List Int) (t m s tp : Int) (pl : Bool), vs = [.ref a, .int t, .int m, .int s, .int tp, .bl pl] ∧ SqL K H a (ns.map V.int) ∧ 0 ≤ t ∧ 1 ≤ m ∧ m ≤ 5 ∧ 2 ≤ s ∧ s ≤ 8 ∧ 2 ≤ tp ∧ tp ≤ 4 ∧
  ∀ (p : Addr) (H' : Hp) (hs : List (List Int)), AccZ K H p H' (hs.map dI) → PoolOk m.toNat hs → 2 ≤ hs.length → hs.length ≤ 8 → Q (.ref p) H'
theorem len_pool2 {K : PySem.W.Frag} {vs : List V} {H : Hp} {Q : VK} {E : XK} {u v w x y z : Str} (h : spPool2 K vs H Q E) : vs.length = [u, v, w, x, y, z].length := by
  obtain ⟨a, b, c, d, e, f, g, rfl, _⟩ := h
  rfl
def t_pool2 (K : PySem.W.Frag) : TS := (tSeq (tAsg (tLst tNil) (gName 6))
  (tSeq (tFor (iRng1 (tCons (tVar 3) tNil)) (gName 7)
  (tSeq (tAsg (tCall (spHeap2 K) [] E0 (tCons (tCall (spCell K) [] E0 (tCons (tVar 0) (tCons (tOp qAdd (tVar 1) (tOp rMod (tVar 7) (tC (.int 6)))) tNil))) (tCons (tVar 7) (tCons (tVar 2) (tCons (tVar 4) (tCons (tVar 5) tNil)))))) (gName 8))
  (tIfS (tTest (tOp (rInD K true) (tVar 8) (tVar 6)))
  (tDrop (tBM K "list" rAppend (tVar 6) (tCons (tVar 8) tNil)))
  tNext)))
  (tSeq (tIfS (tTest (tOp rEq (tCB (rLenQ K) (tCons (tVar 6) tNil)) (tC (.int 1))))
  (tDrop (tBM K "list" rAppend (tVar 6) (tCons (tCB (rTupOf K) (tCons (tComp (iRng1 (tCons (tVar 2) tNil)) (tCB rInt1 (tCons (tAndV (tOp rEq (tVar 0) (tC (.int 0))) (tOp rEq (tOp (rIxT K) (tOp (rIxL K) (tVar 7) (tC (.int 0))) (tC (.int 0))) (tC (.int 0)))) tNil))) tNil)) tNil)))
  tNext)
  (tRet (tVar 6)))))
theorem rd_pool2 {K : PySem.W.Frag} {vs : List V} {H : Hp} {Q : VK} {E : XK} {N : List Str} (hN : N.length = 9) (h : spPool2 K vs H Q E) : t_pool2 K (ends Q) (L2.start N vs) H := by
  obtain ⟨a, ns, t, m, s, tp, pl, rfl, hS, t0, m1, m5, s2, s8, p2, p4, k⟩ := h
  rw [show L2.start N [.ref a, .int t, .int m, .int s, .int tp, .bl pl] = [some (.ref a), some (.int t), some (.int m), some (.int s), some (.int tp), some (.bl pl), none, none, none] by unfold L2.start; rw [hN]; rfl]
  unfold t_pool2
  walk_at "rd"
  refine ⟨by decide, fun l nl => ?_⟩
  walk_at "rd"
  refine fat_range (fun i σ H2 => ∃ (hs : List (List Int)) (v7 v8 : Option V), σ = [some (.ref a), some (.int t), some (.int m), some (.int s), some (.int tp), some (.bl pl), some (.ref l), v7, v8] ∧ AccZ K H l H2 (hs.map dI) ∧ hs.length ≤ i ∧ PoolOk m.toNat hs ∧ (0 < i → hs ≠ []))
    ⟨[], none, none, rfl, AccZ.start (Same.refl _) nl, Nat.le_refl _, ⟨List.nodup_nil, by simp⟩, by simp⟩ ?_ ?_
  · rintro i σ H2 hi ⟨hs, v7, v8, rfl, A, hl, hp, _⟩
    walk_at "rd"
    refine ⟨a, ns, t + (0 + (i : Int)) % 6, rfl, A.same.seq hS, by omega, ?_⟩
    generalize cellOf ns (t + (0 + (i : Int)) % 6) = c1
    walk_at "rd"
    refine ⟨c1, 0 + (i : Int), m, tp, pl, rfl, by omega, by omega, by omega, by omega, p2, p4, fun ph H4 h S4' oh rh => ?_⟩
    have A4 := A.on S4'
    walk_at "rd"
    refine k_notInD rh.rep A4.rep (fun e he => by obtain ⟨b, _, rfl⟩ := List.mem_map.mp he; exact ok_dI b 7) (ok_dI h 7) (fun nm => ?_) (fun mm => ?_)
    · walk_at "rd"
      refine ⟨A4.ty, ?_⟩
      walk_at "rd"
      refine k_appZ A4 rh (small1000 (by rw [List.length_map]; omega)) fun H5 A5 _ _ _ => ?_
      walk_at "rd"
      exact ⟨hs ++ [h], _, _, rfl, by rw [List.map_append]; exact A5, by simp; omega, ⟨nodup_snoc hp.1 fun z => nm (mem_dI.mpr z), all_snoc hp.2 oh⟩, by simp⟩
    · walk_at "rd"
      exact ⟨hs, _, _, rfl, A4, by omega, hp, fun _ z => by rw [z] at mm; cases mm⟩
  · rintro σ H2 ⟨hs, v7, v8, rfl, A, hl, hp, hne⟩
    have ne := hne (by omega)
    obtain ⟨xs, sx, lx, rx⟩ := A.sq
    rw [List.length_map] at lx
    walk_at "rd"
    refine k_lenL sx ?_
    walk_at "rd"
    refine k_ite (fun few => ?_) (fun few => ?_)
    · have l1 : hs.length = 1 := by omega
      obtain ⟨h, rfl⟩ : ∃ x, hs = [x] := List.length_eq_one_iff.mp l1
      have oh := hp.2 h (by simp)
      obtain ⟨h1, hr, eh⟩ : ∃ h1 hr, h = h1 :: hr := List.exists_cons_of_length_pos (by have := oh.1; omega)
      obtain ⟨v, ev, rv⟩ := RpL.get' (i := 0) rx (d := dI h) rfl
      obtain ⟨ah, ys, e1, sh, rh⟩ := rv.tup_of
      cases e1
      cases RpL.ints_of rh
      walk_at "rd"
      refine ⟨A.ty, ?_⟩
      walk_at "rd"
      refine comp_range fun Dl nD => ⟨fun j H4 => AccZ K H2 Dl H4 ((spare h1 j).map Dat.int), AccZ.start (Same.refl _) nD, ?_, ?_⟩
      · intro j H4 hj B
        have put : ∀ x : Int, x = (if j = 0 then (if decide (h1 = 0) = true then 1 else 0) else 0) → EltK Dl m.toNat j (fun j H4 => AccZ K H2 Dl H4 ((spare h1 j).map Dat.int)) (.int x) H4 := by
          intro x ex
          refine pushed hj (B.pushK (.int x) (small1000 ?_) fun H5 B5 => ?_)
          · rw [List.length_map]
            unfold spare
            rw [List.length_map, List.length_range]
            omega
          · show AccZ K H2 Dl H5 ((spare h1 (j + 1)).map Dat.int)
            unfold spare
            rw [List.range_succ, List.map_append, List.map_append, List.map_singleton, List.map_singleton, ← ex]
            exact B5
        walk_at "rd"
        refine k_ite (fun j0 => ?_) (fun j0 => ?_)
        · walk_at "rd"
          refine k_ixL (B.same.seq sx) (atI_nat (j := 0) ev) ?_
          walk_at "rd"
          refine k_ixT (B.same.seqT sh) (v := .int h1) (atI_nat (j := 0) (by rw [eh]; rfl)) ?_
          walk_at "rd"
          refine put _ ?_
          rw [if_pos (show j = 0 by omega)]
        · walk_at "rd"
          refine put _ ?_
          rw [if_neg (show ¬ j = 0 by omega)]
          rfl
      · intro H4 B
        have eB := AccZ.ints B
        walk_at "rd"
        refine k_tupL (SqL.of eB) fun p np => ?_
        walk_at "rd"
        have Sp := same_new np (.tup ((spare h1 m.toNat).map V.int))
        have A5 := (A.on B.same).on Sp
        refine k_appZ A5 (d := dI (spare h1 m.toNat)) (.tup upd_same (RpL.ints _)) (small1000 (by simp)) fun H6 A6 _ _ _ => ?_
        walk_at "rd"
        have e0 : (spare h1 m.toNat)[0]? = some (if decide (h1 = 0) = true then 1 else 0) := by
          unfold spare
          rw [List.getElem?_map, List.getElem?_range (by omega)]
          rfl
        refine k l H6 ([h] ++ [_]) (by rw [List.map_append]; exact A6) ⟨nodup_snoc hp.1 fun z => ?_, all_snoc hp.2 ⟨?_, fun x hx => ?_⟩⟩ (by simp) (by simp)
        · have z' := List.mem_singleton.mp z
          rw [z', eh] at e0
          have z2 : h1 = (if decide (h1 = 0) = true then 1 else 0) := Option.some.inj e0
          by_cases h10 : h1 = 0
          · rw [decide_eq_true h10] at z2
            simp at z2
            omega
          · rw [decide_eq_false h10] at z2
            simp at z2
            omega
        · unfold spare
          rw [List.length_map, List.length_range]
        · unfold spare at hx
          obtain ⟨j, _, rfl⟩ := List.mem_map.mp hx
          split
          · split <;> decide
          · decide
    · walk_at "rd"
      have : 0 < hs.length := List.length_pos_iff.mpr ne
      exact k l H2 hs A hp (by omega) (by omega)
def dI2 (p : Int × Int) : Dat := dI [p.1, p.2]
def FP (s : Int) (p : Int × Int) : Prop := 0 ≤ p.1 ∧ p.1 < s ∧ 0 ≤ p.2 ∧ p.1 ≠ p.2
def spPairs2 (K : PySem.W.Frag) : Sp := fun vs H Q _ => ∃ (a : Addr) (ns : List Int) (t s kd : Int) (pl : Bool), vs = [.ref a, .int t, .int s, .int kd, .bl pl] ∧ SqL K H a (ns.map V.int) ∧ 0 ≤ t ∧ 2 ≤ s ∧ s ≤ 8 ∧ 0 ≤ kd ∧ kd ≤ 3 ∧
  ∀ (p : Addr) (H' : Hp) (ps : List (Nat × Nat)), AccZ K H p H' (ps.map dP) → ps.Nodup → ps.length ≤ 8 → ps ≠ [] → (∀ q ∈ ps, PairOk s.toNat q) → Q (.ref p) H'
theorem len_pairs2 {K : PySem.W.Frag} {vs : List V} {H : Hp} {Q : VK} {E : XK} {v w x y z : Str} (h : spPairs2 K vs H Q E) : vs.length = [v, w, x, y, z].length := by
  obtain ⟨a, b, c, d, e, f, rfl, _⟩ := h
  rfl
def t_pairs2 (K : PySem.W.Frag) : TS := (tSeq (tAsg (tLst tNil) (gName 5))
  (tSeq (tFor (iRng1 (tCons (tVar 2) tNil)) (gName 6)
  (tSeq (tAsg (tOp rMod (tOp qAdd (tVar 6) (tC (.int 1))) (tVar 2)) (gName 7))
  (tSeq (tIfS (tAnd (tTest (tOp rEq (tVar 3) (tC (.int 3)))) (tTest (tOp rGt (tVar 2) (tC (.int 3)))))
  (tDrop (tBM K "list" rAppend (tVar 5) (tCons (tTup (tCons (tVar 6) (tCons (tOp qAdd (tOp (rI CMul fun i j => .int (i * j)) (tOp rDiv (tVar 6) (tC (.int 2))) (tC (.int 2))) (tOp rMod (tOp qAdd (tVar 6) (tC (.int 1))) (tC (.int 2)))) tNil))) tNil)))
  (tIfS (tTest (tOp rGt (tVar 3) (tC (.int 0))))
  (tDrop (tBM K "list" rAppend (tVar 5) (tCons (tTup (tCons (tVar 6) (tCons (tVar 7) tNil))) tNil)))
  tNext))
  (tIfS (tTest (tOp rEq (tVar 3) (tC (.int 2))))
  (tDrop (tBM K "list" rAppend (tVar 5) (tCons (tTup (tCons (tVar 7) (tCons (tVar 6) tNil))) tNil)))
  tNext))))
  (tSeq (tFor (iRng1 (tCons (tC (.int 8)) tNil)) (gName 6)
  (tSeq (tAsg (tCall (spCell K) [] E0 (tCons (tVar 0) (tCons (tOp qAdd (tVar 1) (tVar 6)) tNil))) (gName 8))
  (tIfS (tOr (tTest (tOp rEq (tVar 3) (tC (.int 0)))) (tTest (tOp rEq (tOp rMod (tVar 8) (tC (.int 5))) (tC (.int 1)))))
  (tSeq (tAsg (tOp rMod (tCall spMix2 [] E0 (tCons (tVar 8) (tCons (tC (.int 50)) tNil))) (tVar 2)) (gName 9))
  (tSeq (tAsg (tOp rMod (tCall spMix2 [] E0 (tCons (tVar 8) (tCons (tC (.int 51)) tNil))) (tOp qSub (tVar 2) (tC (.int 1)))) (gName 10))
  (tSeq (tIfS (tB (tVar 4))
  (tSeq (tAsg (tOp rMod (tOp rMod (tOp rDiv (tVar 8) (tC (.int 5))) (tC (.int 8))) (tVar 2)) (gName 9))
  (tAsg (tOp rMod (tOp rMod (tOp rDiv (tVar 8) (tC (.int 40))) (tC (.int 8))) (tOp qSub (tVar 2) (tC (.int 1)))) (gName 10)))
  tNext)
  (tDrop (tBM K "list" rAppend (tVar 5) (tCons (tTup (tCons (tVar 9) (tCons (tOp rMod (tOp qAdd (tOp qAdd (tVar 9) (tC (.int 1))) (tVar 10)) (tVar 2)) tNil))) tNil))))))
  tNext)))
  (tSeq (tAsg (tLst tNil) (gName 11))
  (tSeq (tFor (iList K (tVar 5)) (gTup K 2 (gCons (gName 9) (gCons (gName 12) gNil)))
  (tIfS (tAnd (tTest (tOp (rInD K true) (tTup (tCons (tVar 9) (tCons (tVar 12) tNil))) (tVar 11))) (tAnd (tTest (tOp rLt (tVar 12) (tVar 2))) (tTest (tOp rLt (tCB (rLenQ K) (tCons (tVar 11) tNil)) (tC (.int 8))))))
  (tDrop (tBM K "list" rAppend (tVar 11) (tCons (tTup (tCons (tVar 9) (tCons (tVar 12) tNil))) tNil)))
  tNext))
  (tRet (tVar 11)))))))
/-- a pair is made and joins the list -/
theorem k_pair {K : PySem.W.Frag} {H H2 : Hp} {l : Addr} {fs : List (Int × Int)} {x y : Int} {Q : VK} {σ : St} (A : AccZ K H l H2 (fs.map dI2)) (n : fs.length ≤ 100) (k : ∀ H3, AccZ K H l H3 ((fs ++ [(x, y)]).map dI2) → Q .non H3) :
    ([V.int x, .int y].length ≤ sizeLine ∧ ∀ p, H2 p = none → tNil σ (upd H2 p (.tup [.int x, .int y])) fun xs H3 => rAppend (.ref l) (.ref p :: xs) H3 Q) := by
  refine ⟨by show 2 ≤ sizeLine; decide, fun p np => ?_⟩
  have S := same_new np (.tup [V.int x, .int y])
  refine k_nil ?_
  refine k_appZ (A.on S) (d := dI2 (x, y)) (.tup upd_same (RpL.ints [x, y])) (small1000 (by rw [List.length_map]; omega)) fun H3 A3 _ _ _ => k H3 ?_
  rw [List.map_append]
  exact A3
theorem fp_snoc {s : Int} {fs : List (Int × Int)} {p : Int × Int} (h : ∀ q ∈ fs, FP s q) (n : FP s p) : ∀ q ∈ fs ++ [p], FP s q := all_snoc h n
theorem near2 {n u v : Int} (h1 : 0 ≤ u) (h2 : u < n) (h3 : 0 ≤ v) (h4 : v < n - 1) : (u + 1 + v) % n ≠ u := by
  intro e
  by_cases z : u + 1 + v < n
  · rw [Int.emod_eq_of_lt (by omega) z] at e
    omega
  · have e2 : (u + 1 + v) % n = u + 1 + v - n := by
      rw [← Int.sub_emod_right, Int.emod_eq_of_lt (by omega) (by omega)]
    omega
theorem ex_snoc {s : Int} {fs : List (Int × Int)} {p : Int × Int} (h : ∃ q ∈ fs, q.2 < s) : ∃ q ∈ fs ++ [p], q.2 < s := by
  obtain ⟨q, h1, h2⟩ := h
  exact ⟨q, List.mem_append_left _ h1, h2⟩
theorem ex_last {s : Int} {fs : List (Int × Int)} {p : Int × Int} (h : p.2 < s) : ∃ q ∈ fs ++ [p], q.2 < s := ⟨p, List.mem_append_right _ (List.mem_singleton.mpr rfl), h⟩
theorem rd_pairs2 {K : PySem.W.Frag} {vs : List V} {H : Hp} {Q : VK} {E : XK} {N : List Str} (hN : N.length = 13) (h : spPairs2 K vs H Q E) : t_pairs2 K (ends Q) (L2.start N vs) H := by
  obtain ⟨a, ns, t, s, kd, pl, rfl, hS, t0, s2, s8, k0, k3, k⟩ := h
  rw [show L2.start N [.ref a, .int t, .int s, .int kd, .bl pl] = [some (.ref a), some (.int t), some (.int s), some (.int kd), some (.bl pl), none, none, none, none, none, none, none, none] by unfold L2.start; rw [hN]; rfl]
  unfold t_pairs2
  walk_at "rd"
  refine ⟨by decide, fun l nl => ?_⟩
  walk_at "rd"
  refine fat_range (fun i σ H2 => ∃ (fs : List (Int × Int)) (v6 v7 : Option V), σ = [some (.ref a), some (.int t), some (.int s), some (.int kd), some (.bl pl), some (.ref l), v6, v7, none, none, none, none, none] ∧ AccZ K H l H2 (fs.map dI2) ∧ fs.length ≤ 2 * i ∧ (∀ q ∈ fs, FP s q) ∧ (0 < i → 0 < kd → ∃ q ∈ fs, q.2 < s))
    ⟨[], none, none, rfl, AccZ.start (Same.refl _) nl, Nat.le_refl _, by simp, by simp⟩ ?_ ?_
  · rintro i σ H2 hi ⟨fs, v6, v7, rfl, A, hl, hf, hx⟩
    have i8 : (i : Int) < s := by omega
    have hm0 := Int.emod_nonneg (0 + (i : Int) + 1) (b := s) (by omega)
    have hm1 := Int.emod_lt_of_pos (0 + (i : Int) + 1) (b := s) (by omega)
    have hne : (0 + (i : Int) + 1) % s ≠ 0 + (i : Int) := by
      have z := near2 (n := s) (u := 0 + (i : Int)) (v := 0) (by omega) (by omega) (by omega) (by omega)
      rw [Int.add_zero] at z
      exact z
    -- the ring's way back
    have back : ∀ (gs : List (Int × Int)) (H3 : Hp) (D' : Ends), AccZ K H l H3 (gs.map dI2) → gs.length ≤ 2 * i + 1 → (∀ q ∈ gs, FP s q) → (0 < kd → ∃ q ∈ gs, q.2 < s) →
        (∀ σ' H', (∃ (fs : List (Int × Int)) (v6 v7 : Option V), σ' = [some (.ref a), some (.int t), some (.int s), some (.int kd), some (.bl pl), some (.ref l), v6, v7, none, none, none, none, none] ∧ AccZ K H l H' (fs.map dI2) ∧ fs.length ≤ 2 * (i + 1) ∧ (∀ q ∈ fs, FP s q) ∧ (0 < i + 1 → 0 < kd → ∃ q ∈ fs, q.2 < s)) → D'.nx σ' H') →
        (tIfS (tTest (tOp rEq (tVar 3) (tC (.int 2))))
          (tDrop (tBM K "list" rAppend (tVar 5) (tCons (tTup (tCons (tVar 7) (tCons (tVar 6) tNil))) tNil))) tNext) D' [some (.ref a), some (.int t), some (.int s), some (.int kd), some (.bl pl), some (.ref l), some (.int (0 + (i : Int))), some (.int ((0 + (i : Int) + 1) % s)), none, none, none, none, none] H3 := by
      intro gs H3 D' B lg fg xg fin
      walk_at "rd"
      refine k_ite (fun _ => ?_) (fun _ => ?_)
      · walk_at "rd"
        refine ⟨B.ty, ?_⟩
        walk_at "rd"
        refine k_pair B (by omega) fun H4 B4 => ?_
        exact fin _ _ ⟨_, _, _, rfl, B4, by simp; omega, fp_snoc fg ⟨hm0, hm1, by dsimp only; omega, fun e => hne e⟩, fun _ z => ex_snoc (xg z)⟩
      · walk_at "rd"
        exact fin _ _ ⟨gs, _, _, rfl, B, by omega, fg, fun _ z => xg z⟩
    walk_at "rd"
    refine k_ite (fun e3 => ?_) (fun e3 => ?_)
    · walk_at "rd"
      refine k_ite (fun s3 => ?_) (fun s3 => ?_)
      · walk_at "rd"
        refine ⟨A.ty, ?_⟩
        walk_at "rd"
        refine k_pair A (by omega) fun H3 B => ?_
        refine back _ _ _ B (by simp; omega) (fp_snoc hf ⟨by dsimp only; omega, by dsimp only; omega, by dsimp only; omega, by dsimp only; omega⟩) (fun z => ?_) fun σ' H' z => z
        by_cases i0 : 0 < i
        · exact ex_snoc (hx i0 z)
        · exact ex_last (by dsimp only; omega)
      · walk_at "rd"
        refine k_ite (fun _ => ?_) (fun z => absurd z (by omega))
        walk_at "rd"
        refine ⟨A.ty, ?_⟩
        walk_at "rd"
        refine k_pair A (by omega) fun H3 B => ?_
        exact back _ _ _ B (by simp; omega) (fp_snoc hf ⟨by dsimp only; omega, by dsimp only; omega, hm0, fun e => hne e.symm⟩) (fun z => ex_last hm1) fun σ' H' z => z
    · walk_at "rd"
      refine k_ite (fun kp => ?_) (fun kp => ?_)
      · walk_at "rd"
        refine ⟨A.ty, ?_⟩
        walk_at "rd"
        refine k_pair A (by omega) fun H3 B => ?_
        exact back _ _ _ B (by simp; omega) (fp_snoc hf ⟨by dsimp only; omega, by dsimp only; omega, hm0, fun e => hne e.symm⟩) (fun z => ex_last hm1) fun σ' H' z => z
      · exact back fs _ _ A (by omega) hf (fun z => absurd z kp) fun σ' H' z => z
  rintro σ H2 ⟨fs, v6, v7, rfl, A, hl, hf, hx⟩
  have s8' : s.toNat ≤ 8 := by omega
  walk_at "rd"
  refine fat_range (fun i σ H3 => ∃ (gs : List (Int × Int)) (u6 u7 u8 u9 u10 : Option V), σ = [some (.ref a), some (.int t), some (.int s), some (.int kd), some (.bl pl), some (.ref l), u6, u7, u8, u9, u10, none, none] ∧ AccZ K H l H3 (gs.map dI2) ∧ gs.length ≤ 16 + i ∧ (∀ q ∈ gs, FP s q) ∧ (0 < kd ∨ 0 < i → ∃ q ∈ gs, q.2 < s))
    ⟨fs, v6, v7, none, none, none, rfl, A, by omega, hf, fun z => hx (by omega) (by omega)⟩ ?_ ?_
  · rintro i σ H3 hi ⟨gs, u6, u7, u8, u9, u10, rfl, B, lg, fg, xg⟩
    walk_at "rd"
    refine ⟨a, ns, t + (0 + (i : Int)), rfl, B.same.seq hS, by omega, ?_⟩
    generalize cellOf ns (t + (0 + (i : Int))) = c
    -- a drawn pair
    have draw : ∀ (D' : Ends), (∀ σ' H', (∃ (gs : List (Int × Int)) (u6 u7 u8 u9 u10 : Option V), σ' = [some (.ref a), some (.int t), some (.int s), some (.int kd), some (.bl pl), some (.ref l), u6, u7, u8, u9, u10, none, none] ∧ AccZ K H l H' (gs.map dI2) ∧ gs.length ≤ 16 + (i + 1) ∧ (∀ q ∈ gs, FP s q) ∧ (0 < kd ∨ 0 < i + 1 → ∃ q ∈ gs, q.2 < s)) → D'.nx σ' H') →
        (tSeq (tAsg (tOp rMod (tCall spMix2 [] E0 (tCons (tVar 8) (tCons (tC (.int 50)) tNil))) (tVar 2)) (gName 9))
        (tSeq (tAsg (tOp rMod (tCall spMix2 [] E0 (tCons (tVar 8) (tCons (tC (.int 51)) tNil))) (tOp qSub (tVar 2) (tC (.int 1)))) (gName 10))
        (tSeq (tIfS (tB (tVar 4))
        (tSeq (tAsg (tOp rMod (tOp rMod (tOp rDiv (tVar 8) (tC (.int 5))) (tC (.int 8))) (tVar 2)) (gName 9))
        (tAsg (tOp rMod (tOp rMod (tOp rDiv (tVar 8) (tC (.int 40))) (tC (.int 8))) (tOp qSub (tVar 2) (tC (.int 1)))) (gName 10)))
        tNext)
        (tDrop (tBM K "list" rAppend (tVar 5) (tCons (tTup (tCons (tVar 9) (tCons (tOp rMod (tOp qAdd (tOp qAdd (tVar 9) (tC (.int 1))) (tVar 10)) (tVar 2)) tNil))) tNil)))))) D'
          [some (.ref a), some (.int t), some (.int s), some (.int kd), some (.bl pl), some (.ref l), some (.int (0 + (i : Int))), u7, some (.int c), u9, u10, none, none] H3 := by
      intro D' fin
      have last : ∀ o st : Int, 0 ≤ o → o < s → 0 ≤ st → st < s - 1 → FP s (o, (o + 1 + st) % s) ∧ (o + 1 + st) % s < s := fun o st h1 h2 h3 h4 =>
        ⟨⟨h1, h2, Int.emod_nonneg _ (by omega), fun e => near2 h1 h2 h3 h4 e.symm⟩, Int.emod_lt_of_pos _ (by omega)⟩
      walk_at "rd"
      refine ⟨c, 50, rfl, by decide, by decide, fun y hy => ?_⟩
      have y0 := Int.emod_nonneg y (b := s) (by omega)
      have y1 := Int.emod_lt_of_pos y (b := s) (by omega)
      walk_at "rd"
      refine ⟨c, 51, rfl, by decide, by decide, fun w hw => ?_⟩
      have w0 := Int.emod_nonneg w (b := s - 1) (by omega)
      have w1 := Int.emod_lt_of_pos w (b := s - 1) (by omega)
      walk_at "rd"
      cases pl with
      | true =>
        have z0 := Int.emod_nonneg (c / 5 % 8) (b := s) (by omega)
        have z1 := Int.emod_lt_of_pos (c / 5 % 8) (b := s) (by omega)
        have x0 := Int.emod_nonneg (c / 40 % 8) (b := s - 1) (by omega)
        have x1 := Int.emod_lt_of_pos (c / 40 % 8) (b := s - 1) (by omega)
        walk_at "rd"
        refine ⟨B.ty, ?_⟩
        walk_at "rd"
        refine k_pair B (by omega) fun H4 B4 => ?_
        obtain ⟨o1, o2⟩ := last (c / 5 % 8 % s) (c / 40 % 8 % (s - 1)) z0 z1 x0 x1
        exact fin _ _ ⟨_, _, _, _, _, _, rfl, B4, by simp; omega, fp_snoc fg o1, fun _ => ex_last o2⟩
      | false =>
        walk_at "rd"
        refine ⟨B.ty, ?_⟩
        walk_at "rd"
        refine k_pair B (by omega) fun H4 B4 => ?_
        obtain ⟨o1, o2⟩ := last (y % s) (w % (s - 1)) y0 y1 w0 w1
        exact fin _ _ ⟨_, _, _, _, _, _, rfl, B4, by simp; omega, fp_snoc fg o1, fun _ => ex_last o2⟩
    walk_at "rd"
    refine k_ite (fun z => ?_) (fun z => ?_)
    · walk_at "rd1"
      exact draw _ fun σ' H' z => z
    · walk_at "rd"
      refine k_ite (fun y => ?_) (fun y => ?_)
      · exact draw _ fun σ' H' z => z
      · walk_at "rd"
        exact ⟨gs, _, _, _, _, _, rfl, B, by omega, fg, fun _ => xg (.inl (by omega))⟩
  rintro σ H3 ⟨gs, u6, u7, u8, u9, u10, rfl, B, lg, fg, xg⟩
  have xg' := xg (.inr (by decide))
  obtain ⟨xs, hl3, rx⟩ := B.at_
  have lx : xs.length = gs.length := by rw [rx.length, List.length_map]
  walk_at "rd"
  refine ⟨by decide, fun l2 nl2 => ?_⟩
  walk_at "rd"
  have S2 := same_new nl2 (.lst [])
  refine k_rlF (SqL.of (S2 _ _ hl3)) ?_
  refine fat_list (xs := xs) (fun i σ H4 => ∃ (ps : List (Nat × Nat)) (w6 w7 w8 w9 w10 w12 : Option V), σ = [some (.ref a), some (.int t), some (.int s), some (.int kd), some (.bl pl), some (.ref l), w6, w7, w8, w9, w10, some (.ref l2), w12] ∧ AccZ K H3 l2 H4 (ps.map dP) ∧ ps.Nodup ∧ ps.length ≤ 8 ∧ (∀ q ∈ ps, PairOk s.toNat q) ∧ ((∃ q ∈ gs.take i, q.2 < s) → ps ≠ []))
    ⟨[], u6, u7, u8, u9, u10, none, rfl, AccZ.start (Same.refl _) nl2, List.nodup_nil, by decide, by simp, by simp⟩ ?_ ?_ ?_
  · rintro i σ H4 _ ⟨ps, w6, w7, w8, w9, w10, w12, rfl, C, _⟩
    exact SqL.of (C.same _ _ hl3)
  · rintro i z σ H4 hz ⟨ps, w6, w7, w8, w9, w10, w12, rfl, C, nd, l8, okp, hne⟩
    obtain ⟨dd, g1, g2⟩ := rx.get hz
    rw [List.getElem?_map] at g1
    obtain ⟨g, eg, rfl⟩ := Option.map_eq_some_iff.mp g1
    have og := fg g (List.mem_of_getElem? eg)
    obtain ⟨tz, zs, e1, st, rt⟩ := (g2.same C.same).tup_at
    cases e1
    cases RpL.ints_of (ns := [g.1, g.2]) rt
    obtain ⟨x, y⟩ := g
    obtain ⟨o0, o1, o2, o3⟩ := og
    dsimp only at o0 o1 o2 o3
    have oo : y < s → PairOk s.toNat (x.toNat, y.toNat) := fun ys => by
      clear hne xg xg' hx
      exact ⟨by show x.toNat < s.toNat; omega, by show y.toNat < s.toNat; omega, by show x.toNat ≠ y.toNat; omega⟩
    have tk : gs.take (i + 1) = gs.take i ++ [(x, y)] := by rw [List.take_add_one, eg]; rfl
    have old : (∃ q ∈ gs.take (i + 1), q.2 < s) → ¬ y < s → ∃ q ∈ gs.take i, q.2 < s := by
      rintro ⟨q, h1, h2⟩ ny
      rw [tk] at h1
      rcases List.mem_append.mp h1 with h | h
      · exact ⟨q, h, h2⟩
      · rw [List.mem_singleton.mp h] at h2
        exact absurd h2 ny
    have st' : H4 tz = some (.tup [.int x, .int y]) := st
    refine k_gTup (SqT.of st') rfl ?_
    walk_at "rd"
    refine ⟨by show 2 ≤ sizeLine; decide, fun p np => ?_⟩
    have S5 := same_new np (.tup [V.int x, .int y])
    have C5 := C.on S5
    have r5 : Rz K (upd H4 p (.tup [V.int x, .int y])) (.ref p) (dI [x, y]) := .tup upd_same (RpL.ints [x, y])
    have eP : dI [x, y] = dP (x.toNat, y.toNat) := by
      show dI [x, y] = dI [((x.toNat : Nat) : Int), ((y.toNat : Nat) : Int)]
      rw [Int.toNat_of_nonneg o0, Int.toNat_of_nonneg o2]
    rw [eP] at r5
    walk_at "rd"
    refine k_notInD r5.rep C5.rep (fun e he => by obtain ⟨b, _, rfl⟩ := List.mem_map.mp he; exact ok_dI _ 7) (ok_dI _ 7) (fun nm => ?_) (fun mm => ?_)
    · walk_at "rd"
      refine k_ite (fun ys => ?_) (fun ys => ?_)
      · obtain ⟨xs5, s5, n5, _⟩ := C5.sq
        rw [List.length_map] at n5
        walk_at "rd"
        refine k_lenL s5 ?_
        walk_at "rd"
        refine k_ite (fun lt => ?_) (fun ge => ?_)
        · walk_at "rd"
          refine ⟨C5.ty, ?_⟩
          walk_at "rd"
          refine ⟨by show 2 ≤ sizeLine; decide, fun p' np' => ?_⟩
          have S6 := same_new np' (.tup [V.int x, .int y])
          refine k_nil ?_
          refine k_appZ (C5.on S6) (d := dP (x.toNat, y.toNat)) (by rw [← eP]; exact .tup upd_same (RpL.ints [x, y])) (small1000 (by rw [List.length_map]; omega)) fun H6 C6 _ _ _ => ?_
          walk_at "rd"
          exact ⟨ps ++ [(x.toNat, y.toNat)], _, _, _, _, _, _, rfl, by rw [List.map_append]; exact C6, nodup_snoc nd fun z => nm (mem_dP.mpr z), by simp; omega, all_snoc okp (oo ys), by simp⟩
        · have lz : ps = [] → False := fun z => by
            have z0 : ps.length = 0 := by rw [z]; rfl
            clear hne xg xg' hx
            omega
          walk_at "rd"
          exact ⟨ps, _, _, _, _, _, _, rfl, C5, nd, l8, okp, fun _ z => lz z⟩
      · walk_at "rd"
        exact ⟨ps, _, _, _, _, _, _, rfl, C5, nd, l8, okp, fun z => hne (old z ys)⟩
    · walk_at "rd"
      exact ⟨ps, _, _, _, _, _, _, rfl, C5, nd, l8, okp, fun _ z => by rw [z] at mm; cases mm⟩
  · rintro σ H4 ⟨ps, w6, w7, w8, w9, w10, w12, rfl, C, nd, l8, okp, hne⟩
    rw [lx, List.take_of_length_le (Nat.le_refl _)] at hne
    walk_at "rd"
    exact k l2 H4 ps (acc_back B.same C) nd l8 (hne xg') okp
end G2

namespace G2
open PySem L2 Fr G1
open PySem.W (Dat kqdOk)
def spVes2 (K : PySem.W.Frag) : Sp := fun vs H Q _ => ∃ (a : Addr) (ns : List Int) (t : Int), vs = [.ref a, .int t] ∧ SqL K H a (ns.map V.int) ∧ 0 ≤ t ∧ ∀ (p : Addr) (H' : Hp) (ws : List Str) (ts : List Tn), Same H H' → VesOk ws ts → Rz K H' (.ref p) (dV ws ts) → Q (.ref p) H'
theorem len_ves2 {K : PySem.W.Frag} {vs : List V} {H : Hp} {Q : VK} {E : XK} {x y : Str} (h : spVes2 K vs H Q E) : vs.length = [x, y].length := by
  obtain ⟨a, b, c, rfl, _⟩ := h
  rfl
def t_ves2 (K : PySem.W.Frag) : TS := (tSeq (tAsg (tCall spMix2 [] E0 (tCons (tCall (spCell K) [] E0 (tCons (tVar 0) (tCons (tVar 1) tNil))) (tCons (tC (.int 1)) tNil))) (gName 2))
  (tSeq (tAsg (tOp qAdd (tC (.int 1)) (tOp rMod (tVar 2) (tC (.int 5)))) (gName 3))
  (tSeq (tAsg (tOp qAdd (tC (.int 2)) (tOp rMod (tOp rDiv (tVar 2) (tC (.int 5))) (tC (.int 3)))) (gName 4))
  (tSeq (tAsg (tOp rEq (tOp rMod (tOp rDiv (tVar 2) (tC (.int 1260))) (tC (.int 2))) (tC (.int 1))) (gName 5))
  (tSeq (tAsg (tCall (spPool2 K) [] E0 (tCons (tVar 0) (tCons (tOp qAdd (tVar 1) (tC (.int 1))) (tCons (tVar 3) (tCons (tOp qAdd (tC (.int 2)) (tOp rMod (tOp rDiv (tVar 2) (tC (.int 15))) (tC (.int 7)))) (tCons (tVar 4) (tCons (tVar 5) tNil))))))) (gName 6))
  (tSeq (tAsg (tCall (spPairs2 K) [] E0 (tCons (tVar 0) (tCons (tOp qAdd (tVar 1) (tC (.int 7))) (tCons (tCB (rLenQ K) (tCons (tVar 6) tNil)) (tCons (tOp rMod (tOp rDiv (tVar 2) (tC (.int 105))) (tC (.int 4))) (tCons (tVar 5) tNil)))))) (gName 7))
  (tSeq (tAsg (tLst tNil) (gName 8))
  (tSeq (tFor (iRng1 (tCons (tCB (rLenQ K) (tCons (tVar 7) tNil)) tNil)) (gName 9)
  (tSeq (tAsg (tCall (spCell K) [] E0 (tCons (tVar 0) (tCons (tOp qAdd (tOp qAdd (tVar 1) (tC (.int 7))) (tVar 9)) tNil))) (gName 10))
  (tSeq (tAsg (tOp (rIxL K) (tVar 7) (tVar 9)) (gTup K 2 (gCons (gName 11) (gCons (gName 12) gNil))))
  (tDrop (tBM K "list" rAppend (tVar 8) (tCons (tTup (tCons (tOp (rIxL K) (tVar 6) (tVar 11)) (tCons (tOp (rIxL K) (tVar 6) (tVar 12)) (tCons (tCall (spPace2 K) [] E0 (tCons (tOp rDiv (tVar 10) (tC (.int 320))) (tCons (tOp rMod (tOp rDiv (tVar 2) (tC (.int 420))) (tC (.int 3))) tNil))) tNil)))) tNil))))))
  (tRet (tTup (tCons (tCall (spWords2 K) [] E0 (tCons (tOp rDiv (tVar 2) (tC (.int 2520))) (tCons (tVar 3) tNil))) (tCons (tCB (rTupOf K) (tCons (tVar 8) tNil)) tNil))))))))))))
theorem rd_ves2 {K : PySem.W.Frag} {vs : List V} {H : Hp} {Q : VK} {E : XK} {N : List Str} (hN : N.length = 13) (h : spVes2 K vs H Q E) : t_ves2 K (ends Q) (L2.start N vs) H := by
  obtain ⟨a, ns, t, rfl, hS, t0, k⟩ := h
  rw [show L2.start N [.ref a, .int t] = [some (.ref a), some (.int t), none, none, none, none, none, none, none, none, none, none, none] by unfold L2.start; rw [hN]; rfl]
  unfold t_ves2
  walk_at "rd"
  refine ⟨a, ns, t, rfl, hS, t0, ?_⟩
  generalize cellOf ns t = c
  walk_at "rd"
  refine ⟨c, 1, rfl, by decide, by decide, fun n ⟨n0, _⟩ => ?_⟩
  walk_at "rd"
  generalize decide (n / 1260 % 2 = 1) = pl
  refine ⟨a, ns, t + 1, 1 + n % 5, 2 + n / 15 % 7, 2 + n / 5 % 3, pl, rfl, hS, by omega, by omega, by omega, by omega, by omega, by omega, by omega, fun pp H1 hs A1 op h2 h8 => ?_⟩
  obtain ⟨xs, hpp, rz⟩ := A1.at_
  have lx : xs.length = hs.length := by rw [rz.length, List.length_map]
  have S1 := A1.same
  walk_at "rd"
  refine k_lenL (SqL.of hpp) ?_
  walk_at "rd"
  refine ⟨a, ns, t + 7, (xs.length : Int), n / 105 % 4, pl, rfl, S1.seq hS, by omega, by omega, by omega, by omega, by omega, fun pr H2 ps A2 nd l8 ne okp => ?_⟩
  obtain ⟨ys, hpr, ry⟩ := A2.at_
  have ly : ys.length = ps.length := by rw [ry.length, List.length_map]
  have S2 := A2.same
  have S02 := S1.trans S2
  walk_at "rd"
  refine ⟨by decide, fun l nl => ?_⟩
  walk_at "rd"
  have Sl := same_new nl (.lst [])
  refine k_lenL (SqL.of (Sl _ _ hpr)) ?_
  rw [ly]
  walk_at "rd"
  have et : ((ps.length : Nat) : Int).toNat = ps.length := by omega
  rw [et]
  refine fat_range (fun i σ H3 => ∃ (ts : List Tn) (v9 v10 v11 v12 : Option V), σ = [some (.ref a), some (.int t), some (.int n), some (.int (1 + n % 5)), some (.int (2 + n / 5 % 3)), some (.bl pl), some (.ref pp), some (.ref pr), some (.ref l), v9, v10, v11, v12] ∧ AccZ K H2 l H3 (ts.map dT) ∧ ts.map ends2 = (ps.take i).map (two hs) ∧ ∀ t ∈ ts, PaceOk t.q t.d)
    ⟨[], none, none, none, none, rfl, AccZ.start (Same.refl _) nl, rfl, by simp⟩ ?_ ?_
  · rintro i σ H3 hi ⟨ts, v9, v10, v11, v12, rfl, A, em, pc⟩
    have S3 := A.same
    have lts : ts.length = i := by
      have := congrArg List.length em
      rw [List.length_map, List.length_map, List.length_take] at this
      omega
    have eq1 : ps[i]? = some ps[i] := List.getElem?_eq_getElem hi
    have oq := okp _ (List.getElem_mem hi)
    generalize ps[i] = q at eq1 oq
    have oq1 : q.1 < hs.length := by have := oq.1; omega
    have oq2 : q.2 < hs.length := by have := oq.2.1; omega
    obtain ⟨w, ew, rw_⟩ := ry.get' (i := i) (d := dP q) (by rw [List.getElem?_map, eq1]; rfl)
    walk_at "rd"
    refine ⟨a, ns, t + 7 + (0 + (i : Int)), rfl, (S02.trans S3).seq hS, by omega, ?_⟩
    generalize cellOf ns (t + 7 + (0 + (i : Int))) = c2
    walk_at "rd"
    refine k_ixL (SqL.of (S3 _ _ hpr)) (v := w) (by rw [Int.zero_add]; exact atI_nat ew) ?_
    obtain ⟨tz, zs, rfl, st, rt⟩ := (rw_.same S3).tup_at
    cases RpL.ints_of (ns := [(q.1 : Int), (q.2 : Int)]) rt
    have st' : H3 tz = some (.tup [.int (q.1 : Int), .int (q.2 : Int)]) := st
    refine k_gTup (SqT.of st') rfl ?_
    have g1 : (hs.map dI)[q.1]? = some (dI (hs.getD q.1 [])) := by rw [List.getElem?_map, List.getD_eq_getElem?_getD, List.getElem?_eq_getElem oq1]; rfl
    have g2 : (hs.map dI)[q.2]? = some (dI (hs.getD q.2 [])) := by rw [List.getElem?_map, List.getD_eq_getElem?_getD, List.getElem?_eq_getElem oq2]; rfl
    obtain ⟨w1, ew1, rw1⟩ := rz.get' g1
    obtain ⟨w2, ew2, rw2⟩ := rz.get' g2
    have S13 := S2.trans S3
    walk_at "rd"
    refine ⟨A.ty, ?_⟩
    walk_at "rd"
    refine k_ixL (SqL.of (S13 _ _ hpp)) (atI_nat ew1) ?_
    walk_at "rd"
    refine k_ixL (SqL.of (S13 _ _ hpp)) (atI_nat ew2) ?_
    walk_at "rd"
    refine ⟨_, _, rfl, fun pa pq pd H4 S4 ok4 r4 => ?_⟩
    walk_at "rd"
    refine ⟨by show 3 ≤ sizeLine; decide, fun pt npt => ?_⟩
    have S5 := same_new npt (.tup [w1, w2, .ref pa])
    have S15 := S13.trans (S4.trans S5)
    have r5 : Rz K (upd H4 pt (.tup [w1, w2, .ref pa])) (.ref pt) (dT ⟨hs.getD q.1 [], hs.getD q.2 [], pq, pd⟩) := .tup upd_same (.cons (rw1.same S15) (.cons (rw2.same S15) (.cons (r4.same S5) .nil)))
    walk_at "rd"
    refine k_appZ (A.on (S4.trans S5)) r5 (small1000 (by rw [List.length_map]; omega)) fun H6 A6 _ _ _ => ?_
    walk_at "rd"
    refine ⟨ts ++ [_], _, _, _, _, rfl, by rw [List.map_append]; exact A6, ?_, all_snoc pc ok4⟩
    rw [List.map_append, em, List.take_add_one, eq1, List.map_append]
    rfl
  · rintro σ H3 ⟨ts, v9, v10, v11, v12, rfl, A, em, pc⟩
    rw [List.take_of_length_le (Nat.le_refl _)] at em
    have S3 := A.same
    obtain ⟨zs, hl, rzs⟩ := A.at_
    have gd : G1.Good hs ps ts := ⟨nd, l8, em, fun p hp => by have := okp p hp; have e : ((xs.length : Nat) : Int).toNat = hs.length := by omega
                                                              rw [e] at this; exact this, pc⟩
    have tk := gd.turns op.1 ne
    walk_at "rd"
    refine ⟨n / 2520, 1 + n % 5, rfl, by omega, by omega, by omega, fun pw H4 ws S4 ow lw r4 => ?_⟩
    walk_at "rd"
    refine k_tupL (SqL.of (S4 _ _ hl)) fun p np => ?_
    have S5 := same_new np (.tup zs)
    walk_at "rd"
    refine ⟨by show 2 ≤ sizeLine; decide, fun r nr => ?_⟩
    have S6 := same_new nr (.tup [.ref pw, .ref p])
    have r5 : Rz K (upd H4 p (.tup zs)) (.ref p) (.tuple (ts.map dT)) := .tup upd_same ((rzs.same S4).same S5)
    refine k r _ ws ts (S02.trans (S3.trans (S4.trans (S5.trans S6)))) ⟨ow, by omega, by omega, hs, ?_, h8, tk⟩ (.tup upd_same (.cons ((r4.same S5).same S6) (.cons (r5.same S6) .nil)))
    rw [lw]
    exact op
end G2

namespace Ti
open PySem L2 Fr G1 Sm Vs G2
open PySem.W (Dat kqdOk)
def ix : List (List Int) → List Int → Nat
  | [], _ => 0
  | x :: xs, h => if x = h then 0 else ix xs h + 1
end Ti

namespace Ti
open PySem L2 Fr G1 Sm Vs G2
open PySem.W (Dat kqdOk)
theorem nodup_len {α : Type} [DecidableEq α] : ∀ {l hs : List α}, l.Nodup → (∀ x ∈ l, x ∈ hs) → l.length ≤ hs.length
  | [], _, _, _ => Nat.zero_le _
  | x :: l, hs, nd, sub => by
    rw [List.nodup_cons] at nd
    have hx := sub x List.mem_cons_self
    have h := nodup_len (l := l) (hs := hs.erase x) nd.2 fun y hy => by
      refine (List.mem_erase_of_ne ?_).mpr (sub y (List.mem_cons_of_mem _ hy))
      rintro rfl
      exact nd.1 hy
    rw [List.length_erase_of_mem hx] at h
    have := List.length_pos_of_mem hx
    rw [List.length_cons]
    omega
inductive Rch (es : List (Nat × Nat)) (a : Nat) : Nat → Prop
  | refl : Rch es a a
  | step {x y : Nat} : Rch es a x → (x, y) ∈ es → Rch es a y
def Cl (es : List (Nat × Nat)) (S : List Nat) : Prop := ∀ e ∈ es, e.1 ∈ S → e.2 ∈ S
/-- what stands while roads are sought -/
structure RI (es : List (Nat × Nat)) (a n : Nat) (H3 : Hp) (rd ct : Addr) (cs : List Nat) (H : Hp) : Prop where
  same : Same H3 H
  dict : ∃ kvs : List (Key × V), H rd = some (.dK kvs) ∧ kvs.length ≤ cs.length ∧ (∀ c : Nat, (valV kvs (.inl (c : Int))).isSome = true ↔ c ∈ cs) ∧ ∀ k v, valV kvs k = some v → ∃ q xs, v = .ref q ∧ H q = some (.lst xs) ∧ q ≠ ct ∧ xs.length ≤ cs.length
  come : H ct = some (.lst (cs.map fun c : Nat => V.int (c : Int)))
  nd : cs.Nodup
  lt : ∀ c ∈ cs, c < n
  one : a ∈ cs
  rch : ∀ c ∈ cs, Rch es a c
theorem RI.on {es : List (Nat × Nat)} {a n : Nat} {H3 H H' : Hp} {rd ct : Addr} {cs : List Nat} (R : RI es a n H3 rd ct cs H) (S : Same H H') : RI es a n H3 rd ct cs H' := by
  obtain ⟨kvs, h1, h2, h3, h4⟩ := R.dict
  refine ⟨R.same.trans S, ⟨kvs, S _ _ h1, h2, h3, fun k v e => ?_⟩, S _ _ R.come, R.nd, R.lt, R.one, R.rch⟩
  obtain ⟨q, xs, e1, e2, e3⟩ := h4 k v e
  exact ⟨q, xs, e1, S _ _ e2, e3⟩
theorem RI.len {es : List (Nat × Nat)} {a n : Nat} {H3 H : Hp} {rd ct : Addr} {cs : List Nat} (R : RI es a n H3 rd ct cs H) : cs.length ≤ n := by
  have := nodup_len (hs := List.range n) R.nd fun x hx => List.mem_range.mpr (R.lt x hx)
  rwa [List.length_range] at this
/-- one more is come to -/
theorem RI.more {es : List (Nat × Nat)} {a n : Nat} {H3 H : Hp} {rd ct : Addr} {cs : List Nat} {kvs : List (Key × V)} {y p : Nat} {xs : List V} (R : RI es a n H3 rd ct cs H) (nr : H3 rd = none) (nc : H3 ct = none) (ed : H rd = some (.dK kvs)) (ny : y ∉ cs) (ly : y < n) (ry : Rch es a y)
    (hp : H p = some (.lst xs)) (npc : p ≠ ct) (lxs : xs.length ≤ cs.length + 1) :
    RI es a n H3 rd ct (cs ++ [y]) (upd (upd H rd (.dK (putK kvs (.inl (y : Int)) (.ref p)))) ct (.lst ((cs.map fun c : Nat => V.int (c : Int)) ++ [.int (y : Int)]))) := by
  obtain ⟨kvs', h1, h2, h3, h4⟩ := R.dict
  rw [ed] at h1
  cases h1
  have ncr : rd ≠ ct := ne_of ed R.come (by intro z; cases z)
  have lp := length_putK kvs (Sum.inl (y : Int) : Key) (.ref p)
  refine ⟨fun b o q => ?_, ⟨_, by rw [upd_ne ncr]; exact upd_same, by rw [List.length_append]; simp only [List.length_singleton]; omega, fun c => ?_, fun k v e => ?_⟩, by rw [upd_same, List.map_append]; rfl, nodup_snoc R.nd ny, all_snoc R.lt ly, List.mem_append_left _ R.one, all_snoc R.rch ry⟩
  · rw [upd_ne (ne_of_none q nc), upd_ne (ne_of_none q nr)]
    exact R.same b o q
  · rw [valV_put, List.mem_append, List.mem_singleton]
    by_cases e : c = y
    · subst e
      simp
    · rw [if_neg (show ¬ ((Sum.inl (c : Int) : Key) = Sum.inl (y : Int)) from fun z => e (Int.ofNat.inj (Sum.inl.inj z))), h3 c]
      simp [e]
  · rw [valV_put] at e
    have keep : ∀ q ys, H q = some (.lst ys) → q ≠ ct → upd (upd H rd (.dK (putK kvs (.inl (y : Int)) (.ref p)))) ct (.lst ((cs.map fun c : Nat => V.int (c : Int)) ++ [.int (y : Int)])) q = some (.lst ys) := fun q ys hq nq => by
      rw [upd_ne nq, upd_ne (ne_of hq ed (by intro z; cases z))]
      exact hq
    rw [List.length_append]
    simp only [List.length_singleton]
    by_cases ek : k = .inl (y : Int)
    · rw [if_pos ek] at e
      exact ⟨p, xs, (Option.some.inj e).symm, keep p xs hp npc, npc, lxs⟩
    · rw [if_neg ek] at e
      obtain ⟨q, ys, e1, e2, e3, e4⟩ := h4 k v e
      exact ⟨q, ys, e1, keep q ys e2 e3, e3, by omega⟩
end Ti

namespace L2
open PySem
open PySem.W (Dat)
theorem RpL.erase {K : PySem.W.Frag} {S : Addr → Prop} {H : Hp} : ∀ {vs : List V} {ds : List Dat} (j : Nat), RpL K S H vs ds → RpL K S H (vs.eraseIdx j) (ds.eraseIdx j)
  | _, _, _, .nil => .nil
  | _, _, 0, .cons _ r => r
  | _, _, j + 1, .cons h r => .cons h (RpL.erase j r)
end L2
namespace Sz
open PySem L2 Fr G1 Sm Vs G2 Rk
open PySem.W (Dat kqdOk)
def dL (r : List Int) : Dat := .list (r.map Dat.int)
theorem dL_at {K : PySem.W.Frag} {S : Addr → Prop} {H : Hp} {v : V} {r : List Int} (h : Rp K S H v (dL r)) : ∃ b, v = .ref b ∧ S b ∧ H b = some (.lst (r.map V.int)) := by
  obtain ⟨b, xs, rfl, s, hb, rx⟩ := Rp.lst_at h
  rw [RpL.ints_of rx] at hb
  exact ⟨b, rfl, s, hb⟩
def Bnd (n : Nat) (R : List (List Int)) : Prop := ∀ r ∈ R, ∀ c ∈ r, c.natAbs < 2 ^ n
/-- what the count knows of its rows -/
structure SzK (w L b i : Nat) (st : Nat × List (List Int)) : Prop where
  wide : Wide w st.2
  len : st.2.length ≤ L
  many : st.1 ≤ i
  bnd : Bnd ((b + 1) * 2 ^ i - 1) st.2
theorem Bnd.mono {m n : Nat} {R : List (List Int)} (h : Bnd m R) (l : m ≤ n) : Bnd n R := fun r hr c hc => Nat.lt_of_lt_of_le (h r hr c hc) (Nat.pow_le_pow_right (by decide) l)
theorem atI_row {r : List Int} {i : Nat} (h : i < r.length) : atI (r.map V.int) ((i : Nat) : Int) = some (V.int (pt r i)) := by
  refine atI_nat ?_
  unfold pt
  rw [List.getElem?_map, List.getD_eq_getElem?_getD, List.getElem?_eq_getElem h]
  rfl
def chg (t : Tn) : List Int := List.zipWith (fun a b => b - a) t.fr t.to
end Sz

namespace Sf
open Rk Sz
def fp (r : List Int) : Option Nat := r.findIdx? (fun x => decide (x ≠ 0))
def gcdL (r : List Int) : Int := r.foldl Gd.gd 0
def dvs (r : List Int) (i : Nat) : Int := if pt r i < 0 then -gcdL r else gcdL r
def ownR (n i : Nat) : List Int := (List.range n).map fun o => if o = i then 1 else 0
structure St5 where
  stairs : List (List Int)
  free : List Nat
  makers : List (List Int)
def rowsOf (R : List (List Int)) (ix : List Nat) : List (List Int) := ix.map fun i => R.getD i []
open Classical in
noncomputable def grd (R : List (List Int)) : Nat → List Nat
  | 0 => []
  | i + 1 => if Free (rowsOf R (grd R i) ++ [R.getD i []]) then grd R i ++ [i] else grd R i
def bits (b k : Nat) : Nat := (b + 1) * 2 ^ k - 1
def BndAt (b : Nat) (S : List (List Int)) : Prop := ∀ k s, S[k]? = some s → ∀ c ∈ s, c.natAbs < 2 ^ bits b k
structure SI (R : List (List Int)) (w b i : Nat) (st : St5) : Prop where
  sta : ∃ ps, Stair st.stairs ps ∧ (∀ p ∈ ps, p < w) ∧ st.stairs.map fp = ps.map some ∧ Eqv (rowsOf R st.free) (st.stairs.map (List.take w))
  len : ∀ s ∈ st.stairs, s.length = w + R.length
  own : ∀ s ∈ st.stairs, ∀ j, i ≤ j → pt s (w + j) = 0
  cnt : st.stairs.length ≤ i
  bnd : BndAt b st.stairs
  free : st.free = grd R i
  mks : st.makers.length ≤ i
/-- what is left of a row -/
structure RI (R : List (List Int)) (w b i : Nat) (st : St5) (r rest : List Int) : Prop where
  len : rest.length = w + R.length
  ne : ∃ q, fp rest = some q ∧ q ≤ w + i
  bnd : ∀ c ∈ rest, c.natAbs < 2 ^ bits b st.stairs.length
  own : ∀ j, i + 1 ≤ j → pt rest (w + j) = 0
  free : Free (rowsOf R (grd R i) ++ [r]) ↔ ∃ q, fp rest = some q ∧ q < w
end Sf

namespace Rw
open PySem L2 Fr G1 Sm Vs G2 Rk Sz Sf
open PySem.W (Dat kqdOk)
def SS (H : Hp) (D1 D2 D3 : Addr) : Addr → Prop := fun a => H a = none ∧ a ≠ D1 ∧ a ≠ D2 ∧ a ≠ D3
def ni (l : List Nat) : List Int := l.map fun i : Nat => (i : Int)
structure SH (K : PySem.W.Frag) (H H2 : Hp) (D1 D2 D3 : Addr) (st : St5) : Prop where
  same : Same H H2
  n1 : H D1 = none
  n2 : H D2 = none
  n3 : H D3 = none
  d12 : D1 ≠ D2
  d13 : D1 ≠ D3
  d23 : D2 ≠ D3
  a1 : ∃ xs, H2 D1 = some (.lst xs) ∧ RpL K (SS H D1 D2 D3) H2 xs (st.stairs.map dL)
  a2 : H2 D2 = some (.lst ((ni st.free).map V.int))
  a3 : ∃ xs, H2 D3 = some (.lst xs) ∧ RpL K (SS H D1 D2 D3) H2 xs (st.makers.map dL)
theorem SH.on {K : PySem.W.Frag} {H H2 H3 : Hp} {D1 D2 D3 : Addr} {st : St5} (A : SH K H H2 D1 D2 D3 st) (e : Same H2 H3) : SH K H H3 D1 D2 D3 st := by
  obtain ⟨xs, h1, r1⟩ := A.a1
  obtain ⟨zs, h3, r3⟩ := A.a3
  exact ⟨A.same.trans e, A.n1, A.n2, A.n3, A.d12, A.d13, A.d23, ⟨xs, e _ _ h1, r1.same e⟩, e _ _ A.a2, ⟨zs, e _ _ h3, r3.same e⟩⟩
def RowV (H : Hp) (x : V) (r : List Int) : Prop := ∃ c, x = .ref c ∧ (H c = some (.lst (r.map V.int)) ∨ H c = some (.tup (r.map V.int)))
theorem RowV.same {H H' : Hp} {x : V} {r : List Int} (h : RowV H x r) (e : Same H H') : RowV H' x r := by
  obtain ⟨c, rfl, h⟩ := h
  exact ⟨c, rfl, h.imp (e _ _) (e _ _)⟩
def dS (st : St5) : Dat := .tuple [dL (ni st.free), .list (st.makers.map dL)]
def ownsR (n : Nat) : List (List Int) := (List.range n).map (ownR n)
theorem ownsR_at {n i : Nat} (h : i < n) : (ownsR n)[i]? = some (ownR n i) := by unfold ownsR; rw [List.getElem?_map, List.getElem?_range h]; rfl
/-- the units' rows, that lie beside -/
structure UN (K : PySem.W.Frag) (H H2 : Hp) (D1 D2 D3 U : Addr) (n : Nat) : Prop where
  s : SS H D1 D2 D3 U
  at_ : ∃ xs, H2 U = some (.lst xs) ∧ RpL K (SS H D1 D2 D3) H2 xs ((ownsR n).map dL)
theorem UN.on {K : PySem.W.Frag} {H H2 H3 : Hp} {D1 D2 D3 U : Addr} {n : Nat} (A : UN K H H2 D1 D2 D3 U n) (e : Same H2 H3) : UN K H H3 D1 D2 D3 U n := by
  obtain ⟨xs, h1, r1⟩ := A.at_
  exact ⟨A.s, xs, e _ _ h1, r1.same e⟩
theorem UN.upd {K : PySem.W.Frag} {H H2 : Hp} {D1 D2 D3 U D : Addr} {n : Nat} {l : List V} {o : HO} (A : UN K H H2 D1 D2 D3 U n) (hD : D = D1 ∨ D = D2 ∨ D = D3) (h : H2 D = some (.lst l)) : UN K H (L2.upd H2 D o) D1 D2 D3 U n := by
  obtain ⟨xs, h1, r1⟩ := A.at_
  have no : ∀ a, SS H D1 D2 D3 a → a ≠ D := fun a z e => by
    rcases hD with rfl | rfl | rfl
    · exact z.2.1 e
    · exact z.2.2.1 e
    · exact z.2.2.2 e
  exact ⟨A.s, xs, by rw [upd_ne (no _ A.s)]; exact h1, r1.agr (Agr.of_upd h fun w => no _ w rfl)⟩
theorem UN.get {K : PySem.W.Frag} {H H2 : Hp} {D1 D2 D3 U : Addr} {n i : Nat} (A : UN K H H2 D1 D2 D3 U n) (hi : i < n) : ∃ xs c, H2 U = some (.lst xs) ∧ xs[i]? = some (.ref c) ∧ H2 c = some (.lst ((ownR n i).map V.int)) := by
  obtain ⟨xs, h1, r1⟩ := A.at_
  obtain ⟨x, e0, q0⟩ := r1.get' (i := i) (d := dL (ownR n i)) (by rw [List.getElem?_map, ownsR_at hi]; rfl)
  obtain ⟨c, rfl, _, hc⟩ := dL_at q0
  exact ⟨xs, c, h1, e0, hc⟩
end Rw

namespace Rw
open PySem L2 Fr G1 Sm Vs G2 Rk Sz Sf
open PySem.W (Dat kqdOk)
/-- the changes of a vessel -/
structure ChOk (w : Nat) (ts : List Tn) : Prop where
  le : ts.length ≤ 8
  w5 : w ≤ 5
  fr : ∀ t ∈ ts, t.fr.length = w
  wide : Wide w (ts.map chg)
  bnd : Bnd 2 (ts.map chg)
end Rw

namespace Cl
open Rk Sz Sf
def col (R : List (List Int)) (k : Nat) : List Int := R.map fun r => pt r k
def cols (w : Nat) (R : List (List Int)) : List (List Int) := (List.range w).map (col R)
/-- a row's worth by numbers at places -/
def rdt : List Int → List Nat → List Int → Int
  | a :: as, p :: ps, r => a * pt r p + rdt as ps r
  | _, _, _ => 0
def Rel (R : List (List Int)) (a : List Int) (ps : List Nat) : Prop := ∀ r ∈ R, rdt a ps r = 0
structure CI (R : List (List Int)) (w i : Nat) (st : Nat × List (List Int)) : Prop where
  wide : Wide w st.2
  nought : ∀ r ∈ st.2, ∀ q < i, pt r q = 0
  len : st.1 = (grd (cols w R) i).length
  pick : ∃ P, Stair P (grd (cols w R) i) ∧ ∀ (a : List Int) (ps : List Nat), Rel R a ps ↔ Rel P a ps ∧ Rel st.2 a ps
end Cl

namespace Mk
open Rk Sz Sf Cl
/-- a row's numbers are made by what stands behind them -/
def Md (w : Nat) (R : List (List Int)) (s : List Int) : Prop := ∀ q < w, pt s q = dot (s.drop w) R q
structure Good (R : List (List Int)) (w b : Nat) (m : List Int) : Prop where
  len : m.length = R.length
  nought : ∀ q, dot m R q = 0
  low : gcdL m = 1
  first : ∃ k, fp m = some k ∧ 0 < pt m k
  bnd : ∀ c ∈ m, c.natAbs < 2 ^ bits b (min w R.length)
structure MI (R : List (List Int)) (w b i : Nat) (st : St5) : Prop where
  cnt : st.makers.length + st.free.length = i
  md : ∀ s ∈ st.stairs, Md w R s
  good : ∀ m ∈ st.makers, Good R w b m
  last : ∀ m ∈ st.makers, ∀ j, i ≤ j → pt m j = 0
  free : Free st.makers
end Mk

namespace Rw
open PySem L2 Fr G1 Sm Vs G2 Rk Sz Sf Cl
open PySem.W (Dat kqdOk)
/-- a told row: lowest terms, the first number above 0 -/
structure GRow (n b : Nat) (m : List Int) : Prop where
  len : m.length = n
  low : gcdL m = 1
  first : ∃ k, fp m = some k ∧ 0 < pt m k
  bnd : ∀ c ∈ m, c.natAbs < 2 ^ b
end Rw

namespace L2
open PySem
section
variable {K : PySem.W.Frag} {te : TE} {σ : St} {Q : VK} {H : Hp}
end
end L2
namespace Rw
open PySem L2 Fr G1 Sm Vs G2 Rk Sz Sf Cl
open PySem.W (Dat kqdOk)
def dM (M : List (List Int)) : Dat := .list (M.map dL)
/-- the told rows and the list they stand in; H3: ahead of them; H4: as they are told -/
structure Told (H3 H4 H : Hp) (f : Addr) (xs : List V) : Prop where
  same : Same H3 H
  at_ : H f = some (.lst xs)
  new : H3 f = none
  old : H4 f ≠ none
  row : ∀ x ∈ xs, ∃ b l, x = .ref b ∧ H b = some (.lst l) ∧ b ≠ f ∧ H3 b = none ∧ H4 b ≠ none
theorem Told.clear {H3 H4 H : Hp} {f b : Addr} {xs : List V} (T : Told H3 H4 H f xs) (hb : .ref b ∈ xs) : Told H3 H4 (upd H b (.lst [])) f xs ∧ (∃ l, H b = some (.lst l)) ∧ H4 b ≠ none := by
  obtain ⟨b', l, e, h1, h2, h3, h4⟩ := T.row _ hb
  cases e
  refine ⟨⟨fun c o q => by rw [upd_ne (ne_of_none q h3)]; exact T.same c o q, by rw [upd_ne h2.symm]; exact T.at_, T.new, T.old, fun x hx => ?_⟩, ⟨l, h1⟩, h4⟩
  obtain ⟨c, l2, rfl, g1, g2, g3, g4⟩ := T.row x hx
  by_cases z : c = b
  · subst z
    exact ⟨c, [], rfl, upd_same, g2, g3, g4⟩
  · exact ⟨c, l2, rfl, by rw [upd_ne z]; exact g1, g2, g3, g4⟩
theorem Told.on {H3 H4 H H' : Hp} {f : Addr} {xs : List V} (T : Told H3 H4 H f xs) (S : Same H H') : Told H3 H4 H' f xs := ⟨T.same.trans S, S _ _ T.at_, T.new, T.old, fun x hx => by
  obtain ⟨b, l, e, h1, h2⟩ := T.row x hx
  exact ⟨b, l, e, S _ _ h1, h2⟩⟩
/-- the copies that were held -/
structure Held (K : PySem.W.Frag) (H4 H : Hp) (D : Addr) (M : List (List Int)) : Prop where
  new : H4 D = none
  at_ : ∃ ys, H D = some (.lst ys) ∧ RpL K (fun a => H4 a = none ∧ a ≠ D) H ys (M.map dL)
theorem Held.upd {K : PySem.W.Frag} {H4 H : Hp} {D b : Addr} {M : List (List Int)} {l : List V} {o : HO} (A : Held K H4 H D M) (hb : H4 b ≠ none) (h : H b = some (.lst l)) : Held K H4 (L2.upd H b o) D M := by
  obtain ⟨ys, h1, h2⟩ := A.at_
  have ne : D ≠ b := by
    rintro rfl
    exact hb A.new
  exact ⟨A.new, ys, by rw [upd_ne ne]; exact h1, h2.agr (Agr.of_upd h fun z => hb z.1)⟩
theorem Held.on {K : PySem.W.Frag} {H4 H H' : Hp} {D : Addr} {M : List (List Int)} (A : Held K H4 H D M) (S : Same H H') : Held K H4 H' D M := by
  obtain ⟨ys, h1, h2⟩ := A.at_
  exact ⟨A.new, ys, S _ _ h1, h2.same S⟩
theorem Held.rep {K : PySem.W.Frag} {H4 H : Hp} {D : Addr} {M : List (List Int)} (A : Held K H4 H D M) : Rep K H (.ref D) (dM M) := by
  obtain ⟨ys, h1, h2⟩ := A.at_
  exact (Rp.lst trivial h1 (h2.mono fun _ _ => trivial) : Rp K (fun _ => True) H (.ref D) (dM M)).rep
end Rw

namespace Rw
open PySem L2 Fr G1 Sm Vs G2 Rk Sz Sf Cl
open PySem.W (Dat kqdOk)
end Rw

namespace L2
open PySem
theorem k_while {c : TT} {tb : TS} {D : Ends} {σ : St} {H : Hp} (W : Nat → St → Hp → Prop) (m : Nat) (h0 : W m σ H) (hs : ∀ m σ H, W m σ H → c σ H fun b H1 => if b = true then ∃ N : St → Hp → Prop, (∀ σ' H', N σ' H' → ∃ m', m' < m ∧ W m' σ' H') ∧ tb { D with nx := N, ct := N, bk := D.nx } σ H1 else D.nx σ H1) : tWhile c tb D σ H := ⟨W, ⟨m, h0⟩, hs⟩
/-- [elt for tg in t if c], t a tuple -/
theorem compF_tup {K : PySem.W.Frag} {te : TE} {tc : TT} {σ : St} {Q : VK} {H : Hp} {a : Addr} {xs : List V} {n : Nat} {g : TG} (h : ∀ D, H D = none → ∃ Pv : Nat → Hp → Prop, Pv 0 (upd H D (.lst [])) ∧ (∀ i H2, i ≤ xs.length → Pv i H2 → SqT K H2 a xs) ∧ (∀ i x H2, xs[i]? = some x → Pv i H2 → EltF g n tc te σ x H2 D xs.length i Pv) ∧ ∀ H2, Pv xs.length H2 → Q (.ref D) H2) : CompF (Itt K a) n g tc te σ Q H := by
  intro D nD
  obtain ⟨Pv, h0, hl, hs, hd⟩ := h D nD
  refine ⟨fun i m H => m = xs.length - i ∧ i ≤ xs.length ∧ Pv i H, ⟨_, rfl, Nat.zero_le _, h0⟩, ?_⟩
  rintro i m H ⟨rfl, hi, p⟩
  have q := hl i H hi p
  by_cases hlt : i < xs.length
  · refine .inr ⟨⟨xs, xs[i], q, List.getElem?_eq_getElem hlt⟩, fun v H' y us hu => ?_⟩
    obtain ⟨rfl, z⟩ := y
    exact hs i v _ (z xs q) p us hu
  · have e : i = xs.length := by omega
    subst e
    exact .inl ⟨⟨xs, q, Nat.le_refl _⟩, hd H p⟩
theorem inV_nat {k : Nat} : ∀ {S : List Nat}, inV (.int (k : Int)) ((Dn.nI S).map V.int) = decide (k ∈ S)
  | [] => rfl
  | j :: S => by
    have ih := inV_nat (k := k) (S := S)
    show (eqV (.int (j : Int)) (.int (k : Int)) || inV (.int (k : Int)) ((Dn.nI S).map V.int)) = _
    rw [ih]
    have e : eqV (.int (j : Int)) (.int (k : Int)) = decide (j = k) := by
      show ((j : Int) == (k : Int)) = _
      by_cases h : j = k
      · subst h; simp
      · have : ¬ (j : Int) = k := by omega
        simp [h, this]
    rw [e]
    by_cases h : j = k
    · subst h; simp
    · have : k ≠ j := fun z => h z.symm
      simp [h, this]
theorem flat_ints : ∀ ns : List Int, (ns.map V.int).all flatV = true
  | [] => rfl
  | n :: ns => by show (true && (ns.map V.int).all flatV) = true; rw [flat_ints ns]; rfl
theorem k_inN {K : PySem.W.Frag} {H : Hp} {Q : VK} {a : Addr} {k : Nat} {S : List Nat} (e : SqT K H a ((Dn.nI S).map V.int)) (h : Q (.bl (decide (k ∈ S))) H) : rIn K false (.int (k : Int)) (.ref a) H Q := by
  refine ⟨a, _, rfl, .inr e, rfl, flat_ints _, ?_⟩
  show Q (.bl (inV (.int (k : Int)) _)) H
  rw [inV_nat]; exact h
theorem k_notInN {K : PySem.W.Frag} {H : Hp} {Q : VK} {a : Addr} {k : Nat} {S : List Nat} (e : SqT K H a ((Dn.nI S).map V.int)) (h : Q (.bl (!decide (k ∈ S))) H) : rIn K true (.int (k : Int)) (.ref a) H Q := by
  refine ⟨a, _, rfl, .inr e, rfl, flat_ints _, ?_⟩
  show Q (.bl (!inV (.int (k : Int)) _)) H
  rw [inV_nat]; exact h
/-- a list of our own grows by the things of another one -/
theorem AccZ.ext {K : PySem.W.Frag} {H0 H : Hp} {l b : Addr} {ds es : List PySem.W.Dat} {zs : List V} (A : AccZ K H0 l H ds) (hb : H b = some (.lst zs)) (rz : RzL K H zs es) (n : ds.length + es.length ≤ 1000) {Q : VK} (h : ∀ H2, AccZ K H0 l H2 (ds ++ es) → (∀ {us : List V} {fs : List PySem.W.Dat}, RzL K H us fs → RzL K H2 us fs) → (∀ c, c ≠ l → H2 c = H c) → Q .non H2) : rExtend (.ref l) [.ref b] H Q := by
  obtain ⟨xs, h1, h2⟩ := A.at_
  have lz : xs.length + zs.length ≤ sizeLine := by
    have := small1000 n
    rw [h2.length, rz.length]
    omega
  refine ⟨l, b, xs, zs, rfl, rfl, h1, hb, lz, h _ ⟨fun c o q => ?_, A.new, _, L2.upd_same, ?_⟩ (fun r => r.agr (Agr.of_upd h1 fun w => w)) fun c hc => L2.upd_ne hc⟩
  · rw [L2.upd_ne (ne_of_none q A.new)]; exact A.same c o q
  · exact (h2.append rz).agr (Agr.of_upd h1 fun w => w)
end L2
namespace Dn
open PySem L2 Fr G1 Sm Vs G2 Rk Sz
open PySem.W (Dat kqdOk)
def dS (S : List Nat) : Dat := dI (nI S)
def spSetsOf (K : PySem.W.Frag) : Sp := fun vs H Q _ => ∃ n : Nat, vs = [.int (n : Int)] ∧ n ≤ 5 ∧ ∀ (p : Addr) (H' : Hp), AccZ K H p H' ((setsR n).map dS) → Q (.ref p) H'
theorem len_setsOf {K : PySem.W.Frag} {vs : List V} {H : Hp} {Q : VK} {E : XK} {x : Str} (h : spSetsOf K vs H Q E) : vs.length = [x].length := by
  obtain ⟨a, rfl, _⟩ := h
  rfl
theorem dS_at {K : PySem.W.Frag} {H : Hp} {v : V} {S : List Nat} (h : Rz K H v (dS S)) : ∃ a : Addr, v = .ref a ∧ H a = some (.tup ((nI S).map V.int)) := dI_at h
theorem nI_len (S : List Nat) : (nI S).length = S.length := List.length_map _
theorem nI_get {S : List Nat} {i : Nat} {x : V} (h : ((nI S).map V.int)[i]? = some x) : ∃ k, S[i]? = some k ∧ x = .int (k : Int) := by
  unfold nI at h
  rw [List.getElem?_map, List.getElem?_map] at h
  cases e : S[i]? with
  | none => rw [e] at h; cases h
  | some k => rw [e] at h; cases h; exact ⟨k, rfl, rfl⟩
theorem atI_lastN {S : List Nat} (h : S ≠ []) : atI ((nI S).map V.int) (-1) = some (.int ((S.getLastD 0 : Nat) : Int)) := by
  have e : S.dropLast ++ [S.getLastD 0] = S := by
    rw [List.getLastD_eq_getLast?, List.getLast?_eq_some_getLast h]
    exact List.dropLast_concat_getLast h
  have e2 : (nI S).map V.int = (nI S.dropLast).map V.int ++ [V.int ((S.getLastD 0 : Nat) : Int)] := by
    conv => lhs; rw [← e]
    unfold nI
    rw [List.map_append, List.map_append]; rfl
  rw [e2]
  exact L2.atI_last _ _
def t_setsOf (K : PySem.W.Frag) : TS := (tSeq (tAsg (tLst tNil) (gName 1))
  (tSeq (tAsg (tComp (iRng1 (tCons (tVar 0) tNil)) (tTup (tCons (tVar 0) tNil))) (gName 2))
  (tSeq (tWhile (tTest (tOp rGt (tCB (rLenQ K) (tCons (tVar 2) tNil)) (tC (.int 0))))
  (tSeq (tDrop (tBM K "list" rExtend (tVar 1) (tCons (tVar 2) tNil)))
  (tSeq (tAsg (tLst tNil) (gName 3))
  (tSeq (tFor (iList K (tVar 2)) (gName 4)
  (tDrop (tBM K "list" rExtend (tVar 3) (tCons (tComp (iRng2 (tCons (tOp qAdd (tOp (rIxT K) (tVar 4) (tUn (rU fun i => .int (-i)) (tC (.int 1)))) (tC (.int 1))) (tCons (tVar 0) tNil))) (tOp (rCatT K) (tVar 5) (tTup (tCons (tVar 0) tNil)))) tNil))))
  (tAsg (tVar 3) (gName 2))))))
  (tRet (tVar 1)))))
theorem rd_setsOf {K : PySem.W.Frag} {vs : List V} {H : Hp} {Q : VK} {E : XK} {N : List Str} (hN : N.length = 5) (h : spSetsOf K vs H Q E) : t_setsOf K (ends Q) (L2.start N vs) H := by
  obtain ⟨n, rfl, hn, k⟩ := h
  rw [show L2.start N [.int (n : Int)] = [some (.int (n : Int)), none, none, none, none] by unfold L2.start; rw [hN]; rfl]
  have n6 : n < 6 := by omega
  unfold t_setsOf
  walk_at "rd"
  refine ⟨by decide, fun T nT => ?_⟩
  have AT : AccZ K H T (upd H T (.lst [])) (([] : List (List Nat)).map dS) := AccZ.start (Same.refl _) nT
  have hT0 : upd H T (.lst []) T = some (.lst []) := upd_same
  generalize upd H T (.lst []) = H0 at AT hT0 ⊢
  walk_at "rd"
  rw [Int.toNat_natCast]
  refine comp_range (n := n) fun L nL => ⟨fun j H2 => AccZ K H0 L H2 (((lvl n 0).take j).map dS), by simpa using AccZ.start (Same.refl _) nL, ?_, ?_⟩
  · intro j H2 hj A
    have e0 : (lvl n 0)[j]? = some [j] := by show ((List.range n).map _)[j]? = _; rw [List.getElem?_map, List.getElem?_range hj]; rfl
    rw [Int.zero_add]
    walk_at "rd"
    refine ⟨by show 1 ≤ sizeLine; decide, fun p np => ?_⟩
    refine pushed hj ?_
    refine (A.on (same_new np _)).pushK (d := dS [j]) (.tup upd_same (RpL.ints (nI [j]))) (small1000 (by rw [List.length_map, List.length_take]; omega)) fun H3 A3 => ?_
    show AccZ K H0 L H3 (((lvl n 0).take (j + 1)).map dS)
    rw [List.take_add_one, e0, List.map_append]
    exact A3
  intro H2 A
  rw [List.take_of_length_le (by show ((List.range n).map _).length ≤ n; rw [List.length_map, List.length_range]; exact Nat.le_refl _)] at A
  walk_at "rd"
  have neTL : T ≠ L := ne_of_none hT0 nL
  refine k_while (fun m σ H3 => ∃ (i : Nat) (L : Addr) (u3 u4 : Option V), m = n - i ∧ i ≤ n ∧ σ = [some (.int (n : Int)), some (.ref T), some (.ref L), u3, u4] ∧ T ≠ L ∧ AccZ K H T H3 ((tld n i).map dS) ∧ AccZ K H L H3 ((lvl n i).map dS)) n ⟨0, L, none, none, rfl, Nat.zero_le _, rfl, neTL, AT.on A.same, ⟨AT.same.trans A.same, AT.same.free A.new, A.at_⟩⟩ ?_
  clear A neTL nL L AT hT0 nT
  rintro m σ H3 ⟨i, L, u3, u4, rfl, hi, rfl, neTL, AT, AL⟩
  obtain ⟨zs, hz, rz⟩ := AL.at_
  have lz : zs.length = (lvl n i).length := by rw [rz.length, List.length_map]
  walk_at "rd"
  refine k_lenL (SqL.of hz) ?_
  walk_at "rd"
  refine k_ite (fun c => ?_) (fun c => ?_)
  · have li : i < n := by
      rcases Nat.lt_or_ge i n with l | l
      · exact l
      · have e : i = n := by omega
        subst e
        rw [lvl_end i n6] at lz
        rw [lz] at c
        exact absurd c (by decide)
    obtain ⟨l1, l2⟩ := lvl_len n n6 i (by omega)
    refine ⟨fun σ H4 => ∃ (L : Addr) (u3 u4 : Option V), σ = [some (.int (n : Int)), some (.ref T), some (.ref L), u3, u4] ∧ T ≠ L ∧ AccZ K H T H4 ((tld n (i + 1)).map dS) ∧ AccZ K H L H4 ((lvl n (i + 1)).map dS), fun σ' H' ⟨L, u3, u4, e, q⟩ => ⟨n - (i + 1), by omega, i + 1, L, u3, u4, rfl, by omega, e, q⟩, ?_⟩
    walk_at "rd"
    refine ⟨AT.ty, ?_⟩
    walk_at "rd"
    refine AT.ext hz rz (by rw [List.length_map, List.length_map]; omega) fun H4 AT4 keep oth => ?_
    have AT4' : AccZ K H T H4 ((tld n (i + 1)).map dS) := by
      show AccZ K H T H4 ((tld n i ++ lvl n i).map dS)
      rw [List.map_append]; exact AT4
    have hz4 : H4 L = some (.lst zs) := by rw [oth L neTL.symm]; exact hz
    have nL := AL.new
    have rz4 : RzL K H4 zs ((lvl n i).map dS) := keep rz
    clear AT4 AT AL oth keep hz rz
    walk_at "rd"
    refine ⟨by decide, fun G nG => ?_⟩
    have SG := same_new nG (.lst [])
    have AT5 := AT4'.on SG
    have neTG : T ≠ G := by
      obtain ⟨_, q, _⟩ := AT4'.at_
      exact ne_of_none q nG
    have neLG : L ≠ G := ne_of_none hz4 nG
    have AG : AccZ K H G (upd H4 G (.lst [])) ((((lvl n i).take 0).flatMap (nxt1 n)).map dS) := ⟨AT5.same, AT4'.same.free nG, [], upd_same, .nil⟩
    have hz5 := SG _ _ hz4
    have rz5 := rz4.same SG
    generalize upd H4 G (.lst []) = H5 at SG AT5 AG hz5 rz5 ⊢
    walk_at "rd"
    refine k_rlF (SqL.of hz5) ?_
    refine fat_list (xs := zs) (fun j σ H6 => ∃ u4 : Option V, σ = [some (.int (n : Int)), some (.ref T), some (.ref L), some (.ref G), u4] ∧ AccZ K H T H6 ((tld n (i + 1)).map dS) ∧ H6 L = some (.lst zs) ∧ RzL K H6 zs ((lvl n i).map dS) ∧ AccZ K H G H6 ((((lvl n i).take j).flatMap (nxt1 n)).map dS)) ⟨_, rfl, AT5, hz5, rz5, AG⟩ (fun j σ H6 _ ⟨_, _, _, h, _⟩ => SqL.of h) ?_ ?_
    · clear AT5 hz5 rz5 AG SG AT4' hz4 rz4
      rintro j x σ H6 hx ⟨u4, rfl, AT, hz, rz, AG⟩
      obtain ⟨d, g1, g2⟩ := rz.get hx
      rw [List.getElem?_map] at g1
      obtain ⟨S, hS, rfl⟩ := Option.map_eq_some_iff.mp g1
      obtain ⟨b0, rfl, hb0⟩ := dS_at g2
      have Sin := List.mem_of_getElem? hS
      obtain ⟨S1, S2, S3⟩ := lvl_in n n6 i (by omega) S Sin
      have S4 := nxt1_len n n6 i (by omega) S Sin
      walk_at "rd"
      refine ⟨AG.ty, ?_⟩
      walk_at "rd"
      refine k_ixT (SqT.of hb0) (atI_lastN S1) ?_
      walk_at "rd"
      have lastn : S.getLastD 0 < n := by
        obtain ⟨y, ys, rfl⟩ := List.exists_cons_of_ne_nil S1
        exact S3 _ (by rw [List.getLastD_eq_getLast?, List.getLast?_eq_some_getLast S1]; exact List.getLast_mem S1)
      refine k_r2C ⟨by omega, by omega, by omega, by omega⟩ ?_
      rw [show ((n : Int) - (((S.getLastD 0 : Nat) : Int) + 1)).toNat = n - (S.getLastD 0 + 1) by omega]
      refine comp_range (n := n - (S.getLastD 0 + 1)) fun C nC => ⟨fun m H7 => AccZ K H6 C H7 (((nxt1 n S).take m).map dS), by simpa using AccZ.start (Same.refl _) nC, ?_, ?_⟩
      · intro m H7 hm AC
        have e0 : (nxt1 n S)[m]? = some (S ++ [S.getLastD 0 + 1 + m]) := by unfold nxt1; rw [List.getElem?_map, List.getElem?_range hm]; rfl
        have ev : (((S.getLastD 0 : Nat) : Int) + 1 + (m : Int)) = ((S.getLastD 0 + 1 + m : Nat) : Int) := by omega
        rw [ev]
        walk_at "rd"
        refine ⟨by show 1 ≤ sizeLine; decide, fun p np => ?_⟩
        have Sp := same_new np (.tup [.int ((S.getLastD 0 + 1 + m : Nat) : Int)])
        have hp : upd H7 p (.tup [.int ((S.getLastD 0 + 1 + m : Nat) : Int)]) p = some (.tup [.int ((S.getLastD 0 + 1 + m : Nat) : Int)]) := upd_same
        have AC2 := AC.on Sp
        generalize upd H7 p (.tup [.int ((S.getLastD 0 + 1 + m : Nat) : Int)]) = H8 at Sp hp AC2 ⊢
        refine ⟨b0, p, _, _, rfl, rfl, SqT.of (AC2.same _ _ hb0), SqT.of hp, ?_, ?_, fun z => (List.cons_ne_nil _ _ z).elim, fun _ q nq => ?_⟩
        · intro z
          apply S1
          have := congrArg List.length z
          rw [List.length_map, nI_len] at this
          exact List.length_eq_zero_iff.mp this
        · have := small1000 (n := S.length + 1) (by omega)
          rw [List.length_map, nI_len]
          show S.length + 1 ≤ sizeLine
          omega
        · refine pushed hm ?_
          refine (AC2.on (same_new nq _)).pushK (d := dS (S ++ [S.getLastD 0 + 1 + m])) ?_ (small1000 (by rw [List.length_map, List.length_take]; omega)) fun H9 A9 => ?_
          · have e : (nI S).map V.int ++ [.int ((S.getLastD 0 + 1 + m : Nat) : Int)] = (nI (S ++ [S.getLastD 0 + 1 + m])).map V.int := by
              unfold nI; rw [List.map_append, List.map_append]; rfl
            rw [e]
            exact .tup upd_same (RpL.ints _)
          · show AccZ K H6 C H9 (((nxt1 n S).take (m + 1)).map dS)
            rw [List.take_add_one, e0, List.map_append]
            exact A9
      · intro H7 AC
        rw [List.take_of_length_le (by unfold nxt1; rw [List.length_map, List.length_range]; exact Nat.le_refl _)] at AC
        obtain ⟨cs, hc, rc⟩ := AC.at_
        have AG7 := AG.on AC.same
        have AT7 := AT.on AC.same
        have hz7 := AC.same _ _ hz
        have rz7 := rz.same AC.same
        have fl : ((lvl n i).take (j + 1)).flatMap (nxt1 n) = ((lvl n i).take j).flatMap (nxt1 n) ++ nxt1 n S := by
          rw [List.take_add_one, hS, List.flatMap_append]; simp
        have len5 : (((lvl n i).take (j + 1)).flatMap (nxt1 n)).length ≤ 10 := by
          have h1 := (lvl_len n n6 (i + 1) (by omega)).1
          have h2 : ((lvl n i).take (j + 1)).flatMap (nxt1 n) ++ ((lvl n i).drop (j + 1)).flatMap (nxt1 n) = lvl n (i + 1) := by
            rw [← List.flatMap_append, List.take_append_drop]; rfl
          rw [← h2, List.length_append] at h1
          omega
        walk_at "rd"
        refine AG7.ext hc rc ?_ fun H8 A8 keep oth => ?_
        · rw [fl, List.length_append] at len5
          rw [List.length_map, List.length_map]
          omega
        · obtain ⟨ys, hy, ry⟩ := AT7.at_
          refine ⟨_, rfl, ⟨A8.same, AT7.new, ys, by rw [oth T neTG]; exact hy, keep ry⟩, by rw [oth L neLG]; exact hz7, keep rz7, ?_⟩
          rw [fl, List.map_append]
          exact A8
    · rintro σ H6 ⟨u4, rfl, AT, hz, rz, AG⟩
      rw [List.take_of_length_le (by omega)] at AG
      walk_at "rd"
      exact ⟨G, _, _, rfl, neTG, AT, AG⟩
  · have e : i = n := by
      rcases Nat.lt_or_ge i n with l | l
      · have := List.length_pos_iff.mpr (lvl_ok n n6 i l)
        exact absurd (show (0 : Int) < (zs.length : Nat) by omega) c
      · omega
    subst e
    walk_at "rd"
    exact k T H3 AT
def spHasSome (K : PySem.W.Frag) : Sp := fun vs H Q _ => ∃ (v w : V) (h : List Int) (S : List Nat), vs = [v, w] ∧ Rz K H v (dI h) ∧ Rz K H w (dS S) ∧ (∀ k ∈ S, k < h.length) ∧ S.length ≤ 100 ∧ ∀ H', Same H H' → Q (.bl (hs h S)) H'
theorem len_hasSome {K : PySem.W.Frag} {vs : List V} {H : Hp} {Q : VK} {E : XK} {x y : Str} (h : spHasSome K vs H Q E) : vs.length = [x, y].length := by
  obtain ⟨a, b, c, d, rfl, _⟩ := h
  rfl
theorem any_map {α : Type} (f : α → Bool) (l : List α) : (l.map f).any id = l.any f := by rw [List.any_map]; rfl
theorem all_map {α : Type} (f : α → Bool) (l : List α) : (l.map f).all id = l.all f := by rw [List.all_map]; rfl
def t_hasSome (K : PySem.W.Frag) : TS := (tRet (tCB (rAny K) (tCons (tComp (iTup K (tVar 1)) (tOp rGt (tOp (rIxT K) (tVar 1) (tVar 0)) (tC (.int 0)))) tNil)))
theorem rd_hasSome {K : PySem.W.Frag} {vs : List V} {H : Hp} {Q : VK} {E : XK} {N : List Str} (hN : N.length = 2) (h : spHasSome K vs H Q E) : t_hasSome K (ends Q) (L2.start N vs) H := by
  obtain ⟨v, w, h, S, rfl, rv, rw_, hS, hl, k⟩ := h
  obtain ⟨a, rfl, ha⟩ := dI_at rv
  obtain ⟨b, rfl, hb⟩ := dS_at rw_
  rw [show L2.start N [.ref a, .ref b] = [some (.ref a), some (.ref b)] by unfold L2.start; rw [hN]; rfl]
  unfold t_hasSome
  walk_at "rd"
  refine k_rtC (SqT.of hb) ?_
  have lS : ((nI S).map V.int).length = S.length := by rw [List.length_map, nI_len]
  refine comp_tup (xs := (nI S).map V.int) fun D nD => ⟨fun j H2 => AccZ K H D H2 (((S.take j).map fun k => decide (0 < pt h k)).map Dat.bool), by simpa using AccZ.start (Same.refl _) nD, fun j H2 _ A => SqT.of (A.same _ _ hb), ?_, ?_⟩
  · intro j x H2 hx A
    have lj := (List.getElem?_eq_some_iff.mp hx).1
    obtain ⟨m, hm, rfl⟩ := nI_get hx
    walk_at "rd"
    refine k_ixT (SqT.of (A.same _ _ ha)) (atI_row (hS m (List.mem_of_getElem? hm))) ?_
    walk_at "rd"
    refine pushed lj ?_
    refine A.pushK (d := .bool (decide (0 < pt h m))) (.bl _) (small1000 (by rw [List.length_map, List.length_map, List.length_take]; omega)) fun H3 A3 => ?_
    show AccZ K H D H3 (((S.take (j + 1)).map fun k => decide (0 < pt h k)).map Dat.bool)
    rw [List.take_add_one, hm, List.map_append, List.map_append]
    exact A3
  · intro H2 A
    rw [lS, List.take_of_length_le (Nat.le_refl _)] at A
    walk_at "rd"
    refine k_any A.bls ?_
    rw [any_map]
    exact k H2 A.same
def pr (t : Tn) : Tp := (t.fr, t.to)
def spIsDrain (K : PySem.W.Frag) : Sp := fun vs H Q _ => ∃ (v w : V) (ws : List Str) (ts : List Tn) (S : List Nat), vs = [v, w] ∧ Rz K H v (dV ws ts) ∧ Rz K H w (dS S) ∧ (∀ t ∈ ts, ∀ k ∈ S, k < t.fr.length ∧ k < t.to.length) ∧ S.length ≤ 100 ∧ ts.length ≤ 100 ∧ ∀ H', Same H H' → Q (.bl (isD (ts.map pr) S)) H'
theorem len_isDrain {K : PySem.W.Frag} {vs : List V} {H : Hp} {Q : VK} {E : XK} {x y : Str} (h : spIsDrain K vs H Q E) : vs.length = [x, y].length := by
  obtain ⟨a, b, c, d, e, rfl, _⟩ := h
  rfl
def spIsTrap (K : PySem.W.Frag) : Sp := fun vs H Q _ => ∃ (v w : V) (ws : List Str) (ts : List Tn) (S : List Nat), vs = [v, w] ∧ Rz K H v (dV ws ts) ∧ Rz K H w (dS S) ∧ (∀ t ∈ ts, ∀ k ∈ S, k < t.fr.length ∧ k < t.to.length) ∧ S.length ≤ 100 ∧ ts.length ≤ 100 ∧ ∀ H', Same H H' → Q (.bl (isT (ts.map pr) S)) H'
theorem len_isTrap {K : PySem.W.Frag} {vs : List V} {H : Hp} {Q : VK} {E : XK} {x y : Str} (h : spIsTrap K vs H Q E) : vs.length = [x, y].length := by
  obtain ⟨a, b, c, d, e, rfl, _⟩ := h
  rfl
def t_isDrain (K : PySem.W.Frag) : TS := (tRet (tCB (rAll K) (tCons (tComp (iTup K (tOp (rIxT K) (tVar 0) (tC (.int 1)))) (tOrV (tCall (spHasSome K) [] E0 (tCons (tOp (rIxT K) (tVar 0) (tC (.int 0))) (tCons (tVar 2) tNil))) (tNotV (tCall (spHasSome K) [] E0 (tCons (tOp (rIxT K) (tVar 0) (tC (.int 1))) (tCons (tVar 2) tNil)))))) tNil)))
theorem rd_isDrain {K : PySem.W.Frag} {vs : List V} {H : Hp} {Q : VK} {E : XK} {N : List Str} (hN : N.length = 2) (h : spIsDrain K vs H Q E) : t_isDrain K (ends Q) (L2.start N vs) H := by
  obtain ⟨v, w, ws, ts, S, rfl, rv, rw_, hS, hl, ht, k⟩ := h
  obtain ⟨a, v1, v2, rfl, ha, _, r2⟩ := dV_at rv
  obtain ⟨b, xs, rfl, hb, rx⟩ := r2.tup_at
  have lx : xs.length = ts.length := by rw [rx.length, List.length_map]
  rw [show L2.start N [.ref a, w] = [some (.ref a), some w] by unfold L2.start; rw [hN]; rfl]
  unfold t_isDrain
  walk_at "rd"
  refine k_ixT (SqT.of ha) (v := .ref b) rfl ?_
  refine k_rtC (SqT.of hb) ?_
  refine comp_tup (xs := xs) fun D nD => ⟨fun j H2 => AccZ K H D H2 (((ts.take j).map fun t => hs t.fr S || !hs t.to S).map Dat.bool), by simpa using AccZ.start (Same.refl _) nD, fun j H2 _ A => SqT.of (A.same _ _ hb), ?_, ?_⟩
  · intro j x H2 hx A
    have lj := (List.getElem?_eq_some_iff.mp hx).1
    obtain ⟨d, g1, g2⟩ := rx.get hx
    rw [List.getElem?_map] at g1
    obtain ⟨t, htj, rfl⟩ := Option.map_eq_some_iff.mp g1
    obtain ⟨c, w1, w2, w3, rfl, hc, q1, q2, _⟩ := dT_at g2
    have hk := hS t (List.mem_of_getElem? htj)
    have fin : ∀ (H3 : Hp) (bb : Bool), Same H2 H3 → bb = (hs t.fr S || !hs t.to S) → EltK D xs.length j (fun j H2 => AccZ K H D H2 (((ts.take j).map fun t => hs t.fr S || !hs t.to S).map Dat.bool)) (.bl bb) H3 := by
      rintro H3 bb S3 rfl
      refine pushed lj ?_
      refine (A.on S3).pushK (d := .bool (hs t.fr S || !hs t.to S)) (.bl _) (small1000 (by rw [List.length_map, List.length_map, List.length_take]; omega)) fun H4 A4 => ?_
      show AccZ K H D H4 (((ts.take (j + 1)).map fun t => hs t.fr S || !hs t.to S).map Dat.bool)
      rw [List.take_add_one, htj, List.map_append, List.map_append]
      exact A4
    walk_at "rd"
    refine k_ixT (SqT.of (A.same _ _ hc)) (v := w1) rfl ?_
    walk_at "rd"
    refine ⟨w1, w, t.fr, S, rfl, q1.same A.same, rw_.same A.same, fun k h => (hk k h).1, hl, fun H3 S3 => ?_⟩
    walk_at "rd"
    cases e1 : hs t.fr S with
    | true =>
      walk_at "rd"
      exact fin H3 true S3 (by rw [e1]; rfl)
    | false =>
      walk_at "rd"
      refine k_ixT (SqT.of ((A.on S3).same _ _ hc)) (v := w2) rfl ?_
      walk_at "rd"
      refine ⟨w2, w, t.to, S, rfl, q2.same (A.on S3).same, rw_.same (A.on S3).same, fun k h => (hk k h).2, hl, fun H4 S4 => ?_⟩
      walk_at "rd"
      exact fin H4 _ (S3.trans S4) (by rw [e1]; rfl)
  · intro H2 A
    rw [lx, List.take_of_length_le (Nat.le_refl _)] at A
    walk_at "rd"
    refine k_all A.bls ?_
    rw [all_map]
    have := k H2 A.same
    unfold isD at this
    rw [List.all_map] at this
    exact this
def t_isTrap (K : PySem.W.Frag) : TS := (tRet (tCB (rAll K) (tCons (tComp (iTup K (tOp (rIxT K) (tVar 0) (tC (.int 1)))) (tOrV (tCall (spHasSome K) [] E0 (tCons (tOp (rIxT K) (tVar 0) (tC (.int 1))) (tCons (tVar 2) tNil))) (tNotV (tCall (spHasSome K) [] E0 (tCons (tOp (rIxT K) (tVar 0) (tC (.int 0))) (tCons (tVar 2) tNil)))))) tNil)))
theorem rd_isTrap {K : PySem.W.Frag} {vs : List V} {H : Hp} {Q : VK} {E : XK} {N : List Str} (hN : N.length = 2) (h : spIsTrap K vs H Q E) : t_isTrap K (ends Q) (L2.start N vs) H := by
  obtain ⟨v, w, ws, ts, S, rfl, rv, rw_, hS, hl, ht, k⟩ := h
  obtain ⟨a, v1, v2, rfl, ha, _, r2⟩ := dV_at rv
  obtain ⟨b, xs, rfl, hb, rx⟩ := r2.tup_at
  have lx : xs.length = ts.length := by rw [rx.length, List.length_map]
  rw [show L2.start N [.ref a, w] = [some (.ref a), some w] by unfold L2.start; rw [hN]; rfl]
  unfold t_isTrap
  walk_at "rd"
  refine k_ixT (SqT.of ha) (v := .ref b) rfl ?_
  refine k_rtC (SqT.of hb) ?_
  refine comp_tup (xs := xs) fun D nD => ⟨fun j H2 => AccZ K H D H2 (((ts.take j).map fun t => hs t.to S || !hs t.fr S).map Dat.bool), by simpa using AccZ.start (Same.refl _) nD, fun j H2 _ A => SqT.of (A.same _ _ hb), ?_, ?_⟩
  · intro j x H2 hx A
    have lj := (List.getElem?_eq_some_iff.mp hx).1
    obtain ⟨d, g1, g2⟩ := rx.get hx
    rw [List.getElem?_map] at g1
    obtain ⟨t, htj, rfl⟩ := Option.map_eq_some_iff.mp g1
    obtain ⟨c, w1, w2, w3, rfl, hc, q1, q2, _⟩ := dT_at g2
    have hk := hS t (List.mem_of_getElem? htj)
    have fin : ∀ (H3 : Hp) (bb : Bool), Same H2 H3 → bb = (hs t.to S || !hs t.fr S) → EltK D xs.length j (fun j H2 => AccZ K H D H2 (((ts.take j).map fun t => hs t.to S || !hs t.fr S).map Dat.bool)) (.bl bb) H3 := by
      rintro H3 bb S3 rfl
      refine pushed lj ?_
      refine (A.on S3).pushK (d := .bool (hs t.to S || !hs t.fr S)) (.bl _) (small1000 (by rw [List.length_map, List.length_map, List.length_take]; omega)) fun H4 A4 => ?_
      show AccZ K H D H4 (((ts.take (j + 1)).map fun t => hs t.to S || !hs t.fr S).map Dat.bool)
      rw [List.take_add_one, htj, List.map_append, List.map_append]
      exact A4
    walk_at "rd"
    refine k_ixT (SqT.of (A.same _ _ hc)) (v := w2) rfl ?_
    walk_at "rd"
    refine ⟨w2, w, t.to, S, rfl, q2.same A.same, rw_.same A.same, fun k h => (hk k h).2, hl, fun H3 S3 => ?_⟩
    walk_at "rd"
    cases e1 : hs t.to S with
    | true =>
      walk_at "rd"
      exact fin H3 true S3 (by rw [e1]; rfl)
    | false =>
      walk_at "rd"
      refine k_ixT (SqT.of ((A.on S3).same _ _ hc)) (v := w1) rfl ?_
      walk_at "rd"
      refine ⟨w1, w, t.fr, S, rfl, q1.same (A.on S3).same, rw_.same (A.on S3).same, fun k h => (hk k h).1, hl, fun H4 S4 => ?_⟩
      walk_at "rd"
      exact fin H4 _ (S3.trans S4) (by rw [e1]; rfl)
  · intro H2 A
    rw [lx, List.take_of_length_le (Nat.le_refl _)] at A
    walk_at "rd"
    refine k_all A.bls ?_
    rw [all_map]
    have := k H2 A.same
    unfold isT at this
    rw [List.all_map] at this
    exact this
def spWithin (K : PySem.W.Frag) : Sp := fun vs H Q _ => ∃ (v w : V) (M S : List Nat), vs = [v, w] ∧ Rz K H v (dS M) ∧ Rz K H w (dS S) ∧ M.length ≤ 100 ∧ ∀ H', Same H H' → Q (.bl (within M S)) H'
theorem len_within {K : PySem.W.Frag} {vs : List V} {H : Hp} {Q : VK} {E : XK} {x y : Str} (h : spWithin K vs H Q E) : vs.length = [x, y].length := by
  obtain ⟨a, b, c, d, rfl, _⟩ := h
  rfl
def t_within (K : PySem.W.Frag) : TS := (tRet (tCB (rAll K) (tCons (tComp (iTup K (tVar 0)) (tOp (rIn K false) (tVar 0) (tVar 2))) tNil)))
theorem rd_within {K : PySem.W.Frag} {vs : List V} {H : Hp} {Q : VK} {E : XK} {N : List Str} (hN : N.length = 2) (h : spWithin K vs H Q E) : t_within K (ends Q) (L2.start N vs) H := by
  obtain ⟨v, w, M, S, rfl, rv, rw_, hl, k⟩ := h
  obtain ⟨a, rfl, ha⟩ := dS_at rv
  obtain ⟨b, rfl, hb⟩ := dS_at rw_
  rw [show L2.start N [.ref a, .ref b] = [some (.ref a), some (.ref b)] by unfold L2.start; rw [hN]; rfl]
  unfold t_within
  walk_at "rd"
  refine k_rtC (SqT.of ha) ?_
  have lS : ((nI M).map V.int).length = M.length := by rw [List.length_map, nI_len]
  refine comp_tup (xs := (nI M).map V.int) fun D nD => ⟨fun j H2 => AccZ K H D H2 (((M.take j).map fun k => decide (k ∈ S)).map Dat.bool), by simpa using AccZ.start (Same.refl _) nD, fun j H2 _ A => SqT.of (A.same _ _ ha), ?_, ?_⟩
  · intro j x H2 hx A
    have lj := (List.getElem?_eq_some_iff.mp hx).1
    obtain ⟨m, hm, rfl⟩ := nI_get hx
    walk_at "rd"
    refine k_inN (SqT.of (A.same _ _ hb)) ?_
    refine pushed lj ?_
    refine A.pushK (d := .bool (decide (m ∈ S))) (.bl _) (small1000 (by rw [List.length_map, List.length_map, List.length_take]; omega)) fun H3 A3 => ?_
    show AccZ K H D H3 (((M.take (j + 1)).map fun k => decide (k ∈ S)).map Dat.bool)
    rw [List.take_add_one, hm, List.map_append, List.map_append]
    exact A3
  · intro H2 A
    rw [lS, List.take_of_length_le (Nat.le_refl _)] at A
    walk_at "rd"
    refine k_all A.bls ?_
    rw [all_map]
    exact k H2 A.same
def spLeastOf (K : PySem.W.Frag) : Sp := fun vs H Q _ => ∃ (a : Addr) (xs : List V) (L : List (List Nat)), vs = [.ref a] ∧ H a = some (.lst xs) ∧ RzL K H xs (L.map dS) ∧ L.length ≤ 100 ∧ (∀ S ∈ L, S.length ≤ 100) ∧ ∀ (p : Addr) (H' : Hp), AccZ K H p H' ((lst L).map dS) → Q (.ref p) H'
theorem len_leastOf {K : PySem.W.Frag} {vs : List V} {H : Hp} {Q : VK} {E : XK} {x : Str} (h : spLeastOf K vs H Q E) : vs.length = [x].length := by
  obtain ⟨a, b, c, rfl, _⟩ := h
  rfl
theorem lst_take {L : List (List Nat)} {i : Nat} {S : List Nat} (h : L[i]? = some S) : lst (L.take (i + 1)) = stpL (lst (L.take i)) S := by
  unfold lst
  rw [List.take_add_one, h, List.foldl_append]
  rfl
def t_leastOf (K : PySem.W.Frag) : TS := (tSeq (tAsg (tLst tNil) (gName 1))
  (tSeq (tFor (iList K (tVar 0)) (gName 2)
  (tIfS (tNot (tB (tCB (rAny K) (tCons (tComp (iList K (tVar 1)) (tCall (spWithin K) [] E0 (tCons (tVar 0) (tCons (tVar 3) tNil)))) tNil))))
  (tDrop (tBM K "list" rAppend (tVar 1) (tCons (tVar 2) tNil)))
  tNext))
  (tRet (tVar 1))))
theorem rd_leastOf {K : PySem.W.Frag} {vs : List V} {H : Hp} {Q : VK} {E : XK} {N : List Str} (hN : N.length = 3) (h : spLeastOf K vs H Q E) : t_leastOf K (ends Q) (L2.start N vs) H := by
  obtain ⟨a, xs, L, rfl, ha, rx, hl, hS, k⟩ := h
  have lx : xs.length = L.length := by rw [rx.length, List.length_map]
  rw [show L2.start N [.ref a] = [some (.ref a), none, none] by unfold L2.start; rw [hN]; rfl]
  unfold t_leastOf
  walk_at "rd"
  refine ⟨by decide, fun l nl => ?_⟩
  have A0 : AccZ K H l (upd H l (.lst [])) ((lst (L.take 0)).map dS) := AccZ.start (Same.refl _) nl
  generalize upd H l (.lst []) = H0 at A0 ⊢
  walk_at "rd"
  refine k_rlF (SqL.of (A0.same _ _ ha)) ?_
  refine fat_list (xs := xs) (fun i σ H2 => ∃ u2 : Option V, σ = [some (.ref a), some (.ref l), u2] ∧ AccZ K H l H2 ((lst (L.take i)).map dS)) ⟨none, rfl, A0⟩ (fun i σ H2 _ ⟨_, _, A⟩ => SqL.of (A.same _ _ ha)) ?_ ?_
  · rintro i x σ H2 hx ⟨u2, rfl, A⟩
    obtain ⟨d, g1, g2⟩ := rx.get hx
    rw [List.getElem?_map] at g1
    obtain ⟨S, hSi, rfl⟩ := Option.map_eq_some_iff.mp g1
    have ll : (lst (L.take i)).length ≤ 100 := Nat.le_trans (lst_len _) (by rw [List.length_take]; omega)
    have lM : ∀ M ∈ lst (L.take i), M.length ≤ 100 := fun M hM => hS M (List.mem_of_mem_take (lst_mem M hM))
    rw [lst_take hSi]
    generalize lst (L.take i) = acc at A ll lM ⊢
    obtain ⟨ys, hy, ry⟩ := A.at_
    have ly : ys.length = acc.length := by rw [ry.length, List.length_map]
    walk_at "rd"
    refine k_rlC (SqL.of hy) ?_
    refine comp_list (xs := ys) fun D nD => ⟨fun j H3 => AccZ K H2 D H3 (((acc.take j).map fun M => within M S).map Dat.bool), by simpa using AccZ.start (Same.refl _) nD, fun j H3 _ B => SqL.of (B.same _ _ hy), ?_, ?_⟩
    · intro j y H3 hyj B
      have lj := (List.getElem?_eq_some_iff.mp hyj).1
      obtain ⟨d, g3, g4⟩ := ry.get hyj
      rw [List.getElem?_map] at g3
      obtain ⟨M, hM, rfl⟩ := Option.map_eq_some_iff.mp g3
      walk_at "rd"
      refine ⟨y, x, M, S, rfl, g4.same B.same, (g2.same A.same).same B.same, lM M (List.mem_of_getElem? hM), fun H4 S4 => ?_⟩
      refine pushed lj ?_
      refine (B.on S4).pushK (d := .bool (within M S)) (.bl _) (small1000 (by rw [List.length_map, List.length_map, List.length_take]; omega)) fun H5 B5 => ?_
      show AccZ K H2 D H5 (((acc.take (j + 1)).map fun M => within M S).map Dat.bool)
      rw [List.take_add_one, hM, List.map_append, List.map_append]
      exact B5
    · intro H3 B
      rw [ly, List.take_of_length_le (Nat.le_refl _)] at B
      walk_at "rd"
      refine k_any B.bls ?_
      rw [any_map]
      have A3 := A.on B.same
      have gx := (g2.same A.same).same B.same
      unfold stpL
      cases e : (acc.any fun M => within M S) with
      | true =>
        walk_at "rd"
        exact ⟨_, rfl, A3⟩
      | false =>
        walk_at "rd"
        refine ⟨A3.ty, ?_⟩
        walk_at "rd"
        refine k_appZ A3 gx (small1000 (by rw [List.length_map]; omega)) fun H4 A4 _ _ _ => ?_
        refine ⟨_, rfl, ?_⟩
        show AccZ K H l H4 ((acc ++ [S]).map dS)
        rw [List.map_append]
        exact A4
  · rintro σ H2 ⟨u2, rfl, A⟩
    rw [List.take_of_length_le (by omega)] at A
    walk_at "rd"
    exact k l H2 A
def spDrains (K : PySem.W.Frag) : Sp := fun vs H Q _ => ∃ (v : V) (ws : List Str) (ts : List Tn), vs = [v] ∧ Rz K H v (dV ws ts) ∧ ws.length ≤ 5 ∧ ts.length ≤ 100 ∧ (∀ t ∈ ts, t.fr.length = ws.length ∧ t.to.length = ws.length) ∧ ∀ (p : Addr) (H' : Hp), AccZ K H p H' ((lst ((setsR ws.length).filter (isD (ts.map pr)))).map dS) → Q (.ref p) H'
theorem len_drains {K : PySem.W.Frag} {vs : List V} {H : Hp} {Q : VK} {E : XK} {x : Str} (h : spDrains K vs H Q E) : vs.length = [x].length := by
  obtain ⟨a, b, c, rfl, _⟩ := h
  rfl
def spTraps (K : PySem.W.Frag) : Sp := fun vs H Q _ => ∃ (v : V) (ws : List Str) (ts : List Tn), vs = [v] ∧ Rz K H v (dV ws ts) ∧ ws.length ≤ 5 ∧ ts.length ≤ 100 ∧ (∀ t ∈ ts, t.fr.length = ws.length ∧ t.to.length = ws.length) ∧ ∀ (p : Addr) (H' : Hp), AccZ K H p H' ((lst ((setsR ws.length).filter (isT (ts.map pr)))).map dS) → Q (.ref p) H'
theorem len_traps {K : PySem.W.Frag} {vs : List V} {H : Hp} {Q : VK} {E : XK} {x : Str} (h : spTraps K vs H Q E) : vs.length = [x].length := by
  obtain ⟨a, b, c, rfl, _⟩ := h
  rfl
def t_drains (K : PySem.W.Frag) : TS := (tRet (tCall (spLeastOf K) [] E0 (tCons (tCompF (iList K (tCall (spSetsOf K) [] E0 (tCons (tCB (rLenQ K) (tCons (tOp (rIxT K) (tVar 0) (tC (.int 0))) tNil)) tNil))) 1 (gName 0) (tB (tCall (spIsDrain K) [] E0 (tCons (tVar 1) (tCons (tVar 0) tNil)))) (tVar 0)) tNil)))
theorem rd_drains {K : PySem.W.Frag} {vs : List V} {H : Hp} {Q : VK} {E : XK} {N : List Str} (hN : N.length = 1) (h : spDrains K vs H Q E) : t_drains K (ends Q) (L2.start N vs) H := by
  obtain ⟨v, ws, ts, rfl, rv, hw, ht, hf, k⟩ := h
  have rv0 := rv
  obtain ⟨a, v1, v2, rfl, ha, r1, r2⟩ := dV_at rv
  obtain ⟨b, xs, rfl, hb, rx⟩ := r1.tup_at
  have lx : xs.length = ws.length := by rw [rx.length, List.length_map]
  rw [show L2.start N [.ref a] = [some (.ref a)] by unfold L2.start; rw [hN]; rfl]
  have n6 : ws.length < 6 := by omega
  have sl := sets_len ws.length n6
  have si := sets_in ws.length n6
  unfold t_drains
  walk_at "rd"
  refine k_ixT (SqT.of ha) (v := .ref b) rfl ?_
  walk_at "rd"
  refine k_lenT (SqT.of hb) ?_
  rw [lx]
  walk_at "rd"
  refine ⟨ws.length, rfl, hw, fun L H1 AL => ?_⟩
  obtain ⟨ys, hy, ry⟩ := AL.at_
  have ly : ys.length = (setsR ws.length).length := by rw [ry.length, List.length_map]
  refine ⟨L, rfl, ⟨ys, SqL.of hy⟩, ?_⟩
  refine compF_list (xs := ys) fun D nD => ⟨fun j H2 => AccZ K H1 D H2 ((((setsR ws.length).take j).filter (isD (ts.map pr))).map dS), by simpa using AccZ.start (Same.refl _) nD, fun j H2 _ A => SqL.of (A.same _ _ hy), ?_, ?_⟩
  · intro j x H2 hx A us hu
    obtain ⟨u0, rfl⟩ : ∃ u, us = [u] := List.length_eq_one_iff.mp hu
    have lj := (List.getElem?_eq_some_iff.mp hx).1
    obtain ⟨d, g1, g2⟩ := ry.get hx
    rw [List.getElem?_map] at g1
    obtain ⟨S, hS, rfl⟩ := Option.map_eq_some_iff.mp g1
    obtain ⟨S1, S2, S3⟩ := si S (List.mem_of_getElem? hS)
    walk_at "rd"
    refine ⟨⟨[some x], rfl, rfl⟩, ?_⟩
    walk_at "rd"
    refine ⟨.ref a, x, ws, ts, S, rfl, (rv0.same AL.same).same A.same, g2.same A.same, fun t h k hk => ?_, by omega, ht, fun H3 S4 => ?_⟩
    · have := S3 k hk
      have := hf t h
      omega
    have A3 := A.on S4
    walk_at "rd"
    cases e : isD (ts.map pr) S with
    | true =>
      walk_at "rd"
      refine pushed lj ?_
      refine A3.pushK (g2.same A3.same) (small1000 (by rw [List.length_map]; exact Nat.le_trans (List.length_filter_le _ _) (by rw [List.length_take]; omega))) fun H4 A4 => ?_
      show AccZ K H1 D H4 ((((setsR ws.length).take (j + 1)).filter (isD (ts.map pr))).map dS)
      rw [List.take_add_one, hS, List.filter_append, List.map_append]
      show AccZ K H1 D H4 (_ ++ ([S].filter (isD (ts.map pr))).map dS)
      rw [List.filter_cons_of_pos e]
      exact A4
    | false =>
      walk_at "rd"
      refine skipped lj ?_
      show AccZ K H1 D H3 ((((setsR ws.length).take (j + 1)).filter (isD (ts.map pr))).map dS)
      rw [List.take_add_one, hS, List.filter_append, List.map_append]
      show AccZ K H1 D H3 (_ ++ ([S].filter (isD (ts.map pr))).map dS)
      rw [List.filter_cons_of_neg (by rw [e]; exact Bool.false_ne_true)]
      simpa using A3
  · intro H2 A
    rw [ly, List.take_of_length_le (Nat.le_refl _)] at A
    obtain ⟨zs, hz, rz⟩ := A.at_
    walk_at "rd"
    refine ⟨D, zs, _, rfl, hz, rz, Nat.le_trans (List.length_filter_le _ _) (by omega), fun S hS => ?_, fun p H3 A3 => ?_⟩
    · have := (si S (List.mem_filter.mp hS).1).2.1
      omega
    · exact k p H3 ⟨(AL.same.trans A.same).trans A3.same, (AL.same.trans A.same).free A3.new, A3.at_⟩
def t_traps (K : PySem.W.Frag) : TS := (tRet (tCall (spLeastOf K) [] E0 (tCons (tCompF (iList K (tCall (spSetsOf K) [] E0 (tCons (tCB (rLenQ K) (tCons (tOp (rIxT K) (tVar 0) (tC (.int 0))) tNil)) tNil))) 1 (gName 0) (tB (tCall (spIsTrap K) [] E0 (tCons (tVar 1) (tCons (tVar 0) tNil)))) (tVar 0)) tNil)))
theorem rd_traps {K : PySem.W.Frag} {vs : List V} {H : Hp} {Q : VK} {E : XK} {N : List Str} (hN : N.length = 1) (h : spTraps K vs H Q E) : t_traps K (ends Q) (L2.start N vs) H := by
  obtain ⟨v, ws, ts, rfl, rv, hw, ht, hf, k⟩ := h
  have rv0 := rv
  obtain ⟨a, v1, v2, rfl, ha, r1, r2⟩ := dV_at rv
  obtain ⟨b, xs, rfl, hb, rx⟩ := r1.tup_at
  have lx : xs.length = ws.length := by rw [rx.length, List.length_map]
  rw [show L2.start N [.ref a] = [some (.ref a)] by unfold L2.start; rw [hN]; rfl]
  have n6 : ws.length < 6 := by omega
  have sl := sets_len ws.length n6
  have si := sets_in ws.length n6
  unfold t_traps
  walk_at "rd"
  refine k_ixT (SqT.of ha) (v := .ref b) rfl ?_
  walk_at "rd"
  refine k_lenT (SqT.of hb) ?_
  rw [lx]
  walk_at "rd"
  refine ⟨ws.length, rfl, hw, fun L H1 AL => ?_⟩
  obtain ⟨ys, hy, ry⟩ := AL.at_
  have ly : ys.length = (setsR ws.length).length := by rw [ry.length, List.length_map]
  refine ⟨L, rfl, ⟨ys, SqL.of hy⟩, ?_⟩
  refine compF_list (xs := ys) fun D nD => ⟨fun j H2 => AccZ K H1 D H2 ((((setsR ws.length).take j).filter (isT (ts.map pr))).map dS), by simpa using AccZ.start (Same.refl _) nD, fun j H2 _ A => SqL.of (A.same _ _ hy), ?_, ?_⟩
  · intro j x H2 hx A us hu
    obtain ⟨u0, rfl⟩ : ∃ u, us = [u] := List.length_eq_one_iff.mp hu
    have lj := (List.getElem?_eq_some_iff.mp hx).1
    obtain ⟨d, g1, g2⟩ := ry.get hx
    rw [List.getElem?_map] at g1
    obtain ⟨S, hS, rfl⟩ := Option.map_eq_some_iff.mp g1
    obtain ⟨S1, S2, S3⟩ := si S (List.mem_of_getElem? hS)
    walk_at "rd"
    refine ⟨⟨[some x], rfl, rfl⟩, ?_⟩
    walk_at "rd"
    refine ⟨.ref a, x, ws, ts, S, rfl, (rv0.same AL.same).same A.same, g2.same A.same, fun t h k hk => ?_, by omega, ht, fun H3 S4 => ?_⟩
    · have := S3 k hk
      have := hf t h
      omega
    have A3 := A.on S4
    walk_at "rd"
    cases e : isT (ts.map pr) S with
    | true =>
      walk_at "rd"
      refine pushed lj ?_
      refine A3.pushK (g2.same A3.same) (small1000 (by rw [List.length_map]; exact Nat.le_trans (List.length_filter_le _ _) (by rw [List.length_take]; omega))) fun H4 A4 => ?_
      show AccZ K H1 D H4 ((((setsR ws.length).take (j + 1)).filter (isT (ts.map pr))).map dS)
      rw [List.take_add_one, hS, List.filter_append, List.map_append]
      show AccZ K H1 D H4 (_ ++ ([S].filter (isT (ts.map pr))).map dS)
      rw [List.filter_cons_of_pos e]
      exact A4
    | false =>
      walk_at "rd"
      refine skipped lj ?_
      show AccZ K H1 D H3 ((((setsR ws.length).take (j + 1)).filter (isT (ts.map pr))).map dS)
      rw [List.take_add_one, hS, List.filter_append, List.map_append]
      show AccZ K H1 D H3 (_ ++ ([S].filter (isT (ts.map pr))).map dS)
      rw [List.filter_cons_of_neg (by rw [e]; exact Bool.false_ne_true)]
      simpa using A3
  · intro H2 A
    rw [ly, List.take_of_length_le (Nat.le_refl _)] at A
    obtain ⟨zs, hz, rz⟩ := A.at_
    walk_at "rd"
    refine ⟨D, zs, _, rfl, hz, rz, Nat.le_trans (List.length_filter_le _ _) (by omega), fun S hS => ?_, fun p H3 A3 => ?_⟩
    · have := (si S (List.mem_filter.mp hS).1).2.1
      omega
    · exact k p H3 ⟨(AL.same.trans A.same).trans A3.same, (AL.same.trans A.same).free A3.new, A3.at_⟩
end Dn

namespace L2
open PySem
end L2
namespace Dn
open PySem L2 Fr G1 Sm Vs G2 Rk Sz
open PySem.W (Dat kqdOk kas_sort)
theorem RpL.pick {K : PySem.W.Frag} {S : Addr → Prop} {H : Hp} {vs : List V} {L : List (List Nat)} (r : RpL K S H vs (L.map dS)) : ∀ (p : List Nat), (∀ i ∈ p, i < vs.length) → RpL K S H (p.map fun i => vs.getD i .non) ((p.map fun i => L.getD i []).map dS)
  | [], _ => .nil
  | i :: p, h => by
    refine .cons ?_ (RpL.pick r p fun j hj => h j (List.mem_cons_of_mem _ hj))
    have li := h i List.mem_cons_self
    obtain ⟨d, g1, g2⟩ := r.get (List.getElem?_eq_getElem li)
    rw [List.getElem?_map] at g1
    obtain ⟨M, hM, rfl⟩ := Option.map_eq_some_iff.mp g1
    show Rp K S H (vs.getD i .non) (dS (L.getD i []))
    rw [List.getD_eq_getElem?_getD, List.getElem?_eq_getElem li, List.getD_eq_getElem?_getD, hM]
    exact g2
def i1 (fl : Bool) : Int := if fl then 1 else 0
def i2 (fl : Bool) : Int := if fl then 0 else 1
end Dn

namespace Dn
open PySem L2 Fr G1 Sm Vs G2 Rk Sz
open PySem.W (Dat kqdOk)
def spCount (K : PySem.W.Frag) : Sp := fun vs H Q _ => ∃ (c z : Int) (n : Nat), vs = [.int c, .int (n : Int), .int z] ∧ n ≤ 5 ∧ 0 < z ∧ z.natAbs < 2 ^ 9000 ∧ ∀ (p : Addr) (H' : Hp) (cs : List Int), Same H H' → cs.length = n → (∀ x ∈ cs, 0 ≤ x ∧ x < z) → Rz K H' (.ref p) (dI cs) → Q (.ref p) H'
theorem len_count {K : PySem.W.Frag} {vs : List V} {H : Hp} {Q : VK} {E : XK} {x y z : Str} (h : spCount K vs H Q E) : vs.length = [x, y, z].length := by
  obtain ⟨a, b, c, rfl, _⟩ := h
  rfl
def t_count (K : PySem.W.Frag) : TS := (tSeq (tAsg (tLst tNil) (gName 3))
  (tSeq (tAsg (tOp rDiv (tVar 0) (tC (.int 2))) (gName 4))
  (tSeq (tFor (iRng1 (tCons (tVar 1) tNil)) (gName 5)
  (tIfS (tTest (tOp rEq (tOp rMod (tVar 0) (tC (.int 2))) (tC (.int 1))))
  (tSeq (tDrop (tBM K "list" rAppend (tVar 3) (tCons (tOp rMod (tVar 4) (tVar 2)) tNil)))
  (tAsg (tOp rDivW (tVar 4) (tVar 2)) (gName 4)))
  (tDrop (tBM K "list" rAppend (tVar 3) (tCons (tOp rMod (tCall spMix2 [] E0 (tCons (tVar 0) (tCons (tOp qAdd (tC (.int 30)) (tVar 5)) tNil))) (tVar 2)) tNil)))))
  (tRet (tCB (rTupOf K) (tCons (tVar 3) tNil))))))
theorem rd_count {K : PySem.W.Frag} {vs : List V} {H : Hp} {Q : VK} {E : XK} {N : List Str} (hN : N.length = 6) (h : spCount K vs H Q E) : t_count K (ends Q) (L2.start N vs) H := by
  obtain ⟨c, z, n, rfl, hn, hz, hz2, k⟩ := h
  rw [show L2.start N [.int c, .int (n : Int), .int z] = [some (.int c), some (.int (n : Int)), some (.int z), none, none, none] by unfold L2.start; rw [hN]; rfl]
  unfold t_count
  walk_at "rd"
  refine ⟨by decide, fun l nl => ?_⟩
  have A0 : AccZ K H l (upd H l (.lst [])) (([] : List Int).map Dat.int) := AccZ.start (Same.refl _) nl
  generalize upd H l (.lst []) = H0 at A0 ⊢
  walk_at "rd"
  rw [Int.toNat_natCast]
  refine fat_range (fun i σ H2 => ∃ (cs : List Int) (m : Int) (u5 : Option V), σ = [some (.int c), some (.int (n : Int)), some (.int z), some (.ref l), some (.int m), u5] ∧ AccZ K H l H2 (cs.map Dat.int) ∧ cs.length = i ∧ ∀ x ∈ cs, 0 ≤ x ∧ x < z) ⟨[], _, none, rfl, A0, rfl, by simp⟩ ?_ ?_
  · rintro i σ H2 hi ⟨cs, m, u5, rfl, A, lc, bc⟩
    have fin : ∀ (x : Int) (σ' : St), 0 ≤ x → x < z → ∀ H3, AccZ K H l H3 (cs.map Dat.int ++ [.int x]) → AccZ K H l H3 ((cs ++ [x]).map Dat.int) ∧ (cs ++ [x]).length = i + 1 ∧ ∀ y ∈ cs ++ [x], 0 ≤ y ∧ y < z := by
      intro x _ x0 x1 H3 A3
      refine ⟨by rw [List.map_append]; exact A3, by rw [List.length_append, lc]; rfl, fun y hy => ?_⟩
      rcases List.mem_append.mp hy with m | m
      · exact bc y m
      · rw [List.mem_singleton.mp m]; exact ⟨x0, x1⟩
    walk_at "rd"
    refine k_ite (fun e => ?_) (fun e => ?_)
    · walk_at "rd"
      refine ⟨A.ty, ?_⟩
      walk_at "rd"
      refine k_appZ A (.int _) (small1000 (by rw [List.length_map]; omega)) fun H3 A3 _ _ _ => ?_
      obtain ⟨f1, f2, f3⟩ := fin (m % z) [] (Int.emod_nonneg _ (by omega)) (Int.emod_lt_of_pos _ hz) H3 A3
      walk_at "rd"
      refine ⟨m, z, rfl, rfl, ⟨by omega, hz2⟩, ?_⟩
      walk_at "rd"
      exact ⟨cs ++ [m % z], _, _, rfl, f1, f2, f3⟩
    · walk_at "rd"
      refine ⟨A.ty, ?_⟩
      walk_at "rd"
      refine ⟨c, 30 + (0 + (i : Int)), rfl, by omega, by omega, fun q hq => ?_⟩
      walk_at "rd"
      refine k_appZ A (.int _) (small1000 (by rw [List.length_map]; omega)) fun H3 A3 _ _ _ => ?_
      obtain ⟨f1, f2, f3⟩ := fin (q % z) [] (Int.emod_nonneg _ (by omega)) (Int.emod_lt_of_pos _ hz) H3 A3
      exact ⟨cs ++ [q % z], _, _, rfl, f1, f2, f3⟩
  · rintro σ H2 ⟨cs, m, u5, rfl, A, lc, bc⟩
    walk_at "rd"
    refine k_tupL (SqL.of (AccZ.ints A)) fun p np => ?_
    exact k p _ cs (A.same.trans (same_new np _)) lc bc (.tup upd_same (RpL.ints _))
def spCan (K : PySem.W.Frag) : Sp := fun vs H Q _ => ∃ (v w : V) (t : Tn) (c : List Int), vs = [v, w] ∧ Rz K H v (dT t) ∧ Rz K H w (dI c) ∧ t.fr.length ≤ 100 ∧ ∀ H', Same H H' → Q (.bl (can (pr t) c)) H'
theorem len_can {K : PySem.W.Frag} {vs : List V} {H : Hp} {Q : VK} {E : XK} {x y : Str} (h : spCan K vs H Q E) : vs.length = [x, y].length := by
  obtain ⟨a, b, c, d, rfl, _⟩ := h
  rfl
theorem can_eq {t : Tp} {c : List Int} : decide ((((List.zip t.1 c).filter fun z => decide (z.2 < z.1)).length : Int) = 0) = can t c := by
  cases e : can t c with
  | true =>
    unfold can at e
    rw [List.all_eq_true] at e
    have z : (List.zip t.1 c).filter (fun z => decide (z.2 < z.1)) = [] := List.filter_eq_nil_iff.mpr fun x hx => by
      have := e x hx
      simp only [decide_eq_true_eq] at this ⊢
      omega
    rw [z]
    rfl
  | false =>
    unfold can at e
    rw [List.all_eq_false] at e
    obtain ⟨x, hx, p⟩ := e
    have : 0 < ((List.zip t.1 c).filter fun z => decide (z.2 < z.1)).length := List.length_pos_iff.mpr fun z => by
      have m : x ∈ (List.zip t.1 c).filter fun z => decide (z.2 < z.1) := List.mem_filter.mpr ⟨hx, by simp only [decide_eq_true_eq] at p ⊢; omega⟩
      rw [z] at m; cases m
    exact decide_eq_false (by omega)
def t_can (K : PySem.W.Frag) : TS := (tRet (tOp rEq (tCB (rLenQ K) (tCons (tCompF (iZip K .T .T (tCons (tOp (rIxT K) (tVar 0) (tC (.int 0))) (tCons (tVar 1) tNil))) 2 (gTup K 2 (gCons (gName 0) (gCons (gName 1) gNil))) (tTest (tOp rLt (tVar 1) (tVar 0))) (tC (.int 1))) tNil)) (tC (.int 0))))
theorem rd_can {K : PySem.W.Frag} {vs : List V} {H : Hp} {Q : VK} {E : XK} {N : List Str} (hN : N.length = 2) (h : spCan K vs H Q E) : t_can K (ends Q) (L2.start N vs) H := by
  obtain ⟨v, w, t, c, rfl, rv, rw_, hl, k⟩ := h
  obtain ⟨a, w1, w2, w3, rfl, ha, q1, q2, _⟩ := dT_at rv
  obtain ⟨b, rfl, hb⟩ := dI_at rw_
  obtain ⟨f, rfl, hf⟩ := dI_at q1
  rw [show L2.start N [.ref a, .ref b] = [some (.ref a), some (.ref b)] by unfold L2.start; rw [hN]; rfl]
  unfold t_can
  have lz : (List.zip t.fr c).length = min t.fr.length c.length := List.length_zip
  walk_at "rd"
  refine k_ixT (SqT.of ha) (v := .ref f) rfl ?_
  walk_at "rd"
  refine ⟨f, b, _, _, rfl, SqT.of hf, SqT.of hb, ?_⟩
  have ml : min (t.fr.map V.int).length (c.map V.int).length = (List.zip t.fr c).length := by rw [List.length_map, List.length_map, lz]
  refine compF_zip (k1 := .T) (k2 := .T) (xs := t.fr.map V.int) (ys := c.map V.int) fun D nD => ⟨fun i H2 => AccZ K H D H2 ((((List.zip t.fr c).take i).filter fun z => decide (z.2 < z.1)).map fun _ => Dat.int 1), by simpa using AccZ.start (Same.refl _) nD, fun i H2 _ A => ⟨SqT.of (A.same _ _ hf), SqT.of (A.same _ _ hb)⟩, ?_, ?_⟩
  · intro i x y H2 T e1 e2 A nT us hu
    obtain ⟨u1, u2', rfl⟩ : ∃ u0 u1, us = [u0, u1] := by
      match us, hu with
      | [u0, u1], _ => exact ⟨u0, u1, rfl⟩
    rw [List.getElem?_map] at e1 e2
    obtain ⟨m1, f1, rfl⟩ := Option.map_eq_some_iff.mp e1
    obtain ⟨m2, f2, rfl⟩ := Option.map_eq_some_iff.mp e2
    have ez : (List.zip t.fr c)[i]? = some (m1, m2) := by rw [List.getElem?_zip_eq_some]; exact ⟨f1, f2⟩
    have li : i < (List.zip t.fr c).length := (List.getElem?_eq_some_iff.mp ez).1
    have A2 := A.on (same_new nT (.tup [.int m1, .int m2]))
    have lf : (((List.zip t.fr c).take i).filter fun z => decide (z.2 < z.1)).length ≤ 100 := Nat.le_trans (List.length_filter_le _ _) (by rw [List.length_take]; omega)
    have er : (((List.zip t.fr c).take (i + 1)).filter fun z => decide (z.2 < z.1)) = (((List.zip t.fr c).take i).filter fun z => decide (z.2 < z.1)) ++ [(m1, m2)].filter fun z => decide (z.2 < z.1) := by rw [List.take_add_one, ez, List.filter_append]; rfl
    refine k_gTup (SqT.of upd_same) rfl ?_
    generalize upd H2 T (.tup [.int m1, .int m2]) = H3 at A2 ⊢
    walk_at "rd"
    refine ⟨⟨[some (.int m1), some (.int m2)], rfl, rfl⟩, ?_⟩
    walk_at "rd"
    refine k_ite (fun e => ?_) (fun e => ?_)
    · walk_at "rd"
      refine pushed (by rw [ml]; exact li) ?_
      refine A2.pushK (.int 1) (small1000 (by rw [List.length_map]; omega)) fun H4 A4 => ?_
      show AccZ K H D H4 ((((List.zip t.fr c).take (i + 1)).filter fun z => decide (z.2 < z.1)).map fun _ => Dat.int 1)
      rw [er, List.filter_cons_of_pos (by simpa using e), List.map_append]
      exact A4
    · refine skipped (by rw [ml]; exact li) ?_
      show AccZ K H D H3 ((((List.zip t.fr c).take (i + 1)).filter fun z => decide (z.2 < z.1)).map fun _ => Dat.int 1)
      rw [er, List.filter_cons_of_neg (by simpa using e)]
      simpa using A2
  · intro H2 A
    rw [ml, List.take_of_length_le (Nat.le_refl _)] at A
    obtain ⟨zs, hzs, rz⟩ := A.at_
    walk_at "rd"
    refine k_lenL (SqL.of hzs) ?_
    rw [rz.length, List.length_map]
    walk_at "rd"
    have := can_eq (t := pr t) (c := c)
    rw [show ((List.zip t.fr c).filter fun z => decide (z.2 < z.1)) = ((List.zip (pr t).1 c).filter fun z => decide (z.2 < z.1)) from rfl, this]
    exact k H2 A.same
def spBehind (K : PySem.W.Frag) : Sp := fun vs H Q _ => ∃ (v w : V) (t : Tn) (c : List Int), vs = [v, w] ∧ Rz K H v (dT t) ∧ Rz K H w (dI c) ∧ t.fr.length = c.length ∧ t.to.length = c.length ∧ c.length ≤ 100 ∧ ∀ (p : Addr) (H' : Hp), Same H H' → Rz K H' (.ref p) (dI (beh (pr t) c)) → Q (.ref p) H'
theorem len_behind {K : PySem.W.Frag} {vs : List V} {H : Hp} {Q : VK} {E : XK} {x y : Str} (h : spBehind K vs H Q E) : vs.length = [x, y].length := by
  obtain ⟨a, b, c, d, rfl, _⟩ := h
  rfl
def t_behind (K : PySem.W.Frag) : TS := (tRet (tCB (rTupOf K) (tCons (tCompG (iZip3 K (tCons (tOp (rIxT K) (tVar 0) (tC (.int 0))) (tCons (tOp (rIxT K) (tVar 0) (tC (.int 1))) (tCons (tVar 1) tNil)))) 3 (gTup K 3 (gCons (gName 0) (gCons (gName 1) (gCons (gName 2) gNil)))) (tOp qAdd (tOp qSub (tVar 2) (tVar 0)) (tVar 1))) tNil)))
theorem rd_behind {K : PySem.W.Frag} {vs : List V} {H : Hp} {Q : VK} {E : XK} {N : List Str} (hN : N.length = 2) (h : spBehind K vs H Q E) : t_behind K (ends Q) (L2.start N vs) H := by
  obtain ⟨v, w, t, c, rfl, rv, rw_, l1, l2, hl, k⟩ := h
  obtain ⟨a, w1, w2, w3, rfl, ha, q1, q2, _⟩ := dT_at rv
  obtain ⟨b, rfl, hb⟩ := dI_at rw_
  obtain ⟨f, rfl, hf⟩ := dI_at q1
  obtain ⟨g, rfl, hg⟩ := dI_at q2
  rw [show L2.start N [.ref a, .ref b] = [some (.ref a), some (.ref b)] by unfold L2.start; rw [hN]; rfl]
  unfold t_behind
  have lb : (beh (pr t) c).length = c.length := by unfold beh; rw [List.length_map, List.length_range]
  walk_at "rd"
  refine k_zip3 ?_
  walk_at "rd"
  refine k_ixT (SqT.of ha) (v := .ref f) rfl ?_
  walk_at "rd"
  refine k_ixT (SqT.of ha) (v := .ref g) rfl ?_
  walk_at "rd"
  refine ⟨f, g, b, _, _, _, rfl, SqT.of hf, SqT.of hg, SqT.of hb, ?_⟩
  refine comp_zip3 (xs := t.fr.map V.int) (ys := t.to.map V.int) (zs := c.map V.int) (m := c.length) (by rw [List.length_map]; exact l1) (by rw [List.length_map]; exact l2) (List.length_map _) fun D nD => ⟨fun i H2 => AccZ K H D H2 (((beh (pr t) c).take i).map Dat.int), by simpa using AccZ.start (Same.refl _) nD, fun i H2 _ A => ⟨SqT.of (A.same _ _ hf), SqT.of (A.same _ _ hg), SqT.of (A.same _ _ hb)⟩, ?_, ?_⟩
  · intro i x y u H2 T e1 e2 e3 A nT us hu
    obtain ⟨u1, u2, u3, rfl⟩ : ∃ u0 u1 u2, us = [u0, u1, u2] := by
      match us, hu with
      | [u0, u1, u2], _ => exact ⟨u0, u1, u2, rfl⟩
    rw [List.getElem?_map] at e1 e2 e3
    obtain ⟨m1, f1, rfl⟩ := Option.map_eq_some_iff.mp e1
    obtain ⟨m2, f2, rfl⟩ := Option.map_eq_some_iff.mp e2
    obtain ⟨m3, f3, rfl⟩ := Option.map_eq_some_iff.mp e3
    have li : i < c.length := (List.getElem?_eq_some_iff.mp f3).1
    have ec : (beh (pr t) c)[i]? = some (m3 - m1 + m2) := by
      unfold beh
      rw [List.getElem?_map, List.getElem?_range li]
      show some (pt c i - pt t.fr i + pt t.to i) = _
      unfold pt
      rw [List.getD_eq_getElem?_getD, f3, List.getD_eq_getElem?_getD, f1, List.getD_eq_getElem?_getD, f2]
      rfl
    refine k_gTup (SqT.of upd_same) rfl ?_
    walk_at "rd"
    refine ⟨⟨[some (.int m1), some (.int m2), some (.int m3)], rfl, rfl⟩, ?_⟩
    walk_at "rd"
    refine pushed li ?_
    refine (A.on (same_new nT _)).pushK (.int _) (small1000 (by rw [List.length_map, List.length_take]; omega)) fun H4 A4 => ?_
    show AccZ K H D H4 (((beh (pr t) c).take (i + 1)).map Dat.int)
    rw [List.take_add_one, ec, List.map_append]
    exact A4
  · intro H2 A
    rw [List.take_of_length_le (by omega)] at A
    walk_at "rd"
    refine k_tupL (SqL.of (AccZ.ints A)) fun p np => ?_
    exact k p _ (A.same.trans (same_new np _)) (.tup upd_same (RpL.ints _))
def spCounts (K : PySem.W.Frag) : Sp := fun vs H Q _ => ∃ (v w : V) (a : Addr) (ws : List Str) (ts : List Tn) (c cells : List Int) (n : Nat), vs = [v, w, .ref a] ∧ Rz K H v (dV ws ts) ∧ Rz K H w (dI c) ∧ H a = some (.lst (cells.map V.int)) ∧ Ct n c ∧ n ≤ 5 ∧ (∀ t ∈ ts, TpOk n (pr t)) ∧ ts.length ≤ 100 ∧ cells.length ≤ 100 ∧ ∀ (p : Addr) (H' : Hp), AccZ K H p H' ((walkC (ts.map pr) c cells).map dI) → Q (.ref p) H'
theorem len_counts {K : PySem.W.Frag} {vs : List V} {H : Hp} {Q : VK} {E : XK} {x y z : Str} (h : spCounts K vs H Q E) : vs.length = [x, y, z].length := by
  obtain ⟨a, b, c, d, e, f, g, i, rfl, _⟩ := h
  rfl
theorem walk_take {T : List Tp} {c cells : List Int} {i : Nat} {x : Int} (h : cells[i]? = some x) : walkC T c (cells.take (i + 1)) = stepC T (walkC T c (cells.take i)) x := by
  unfold walkC
  rw [List.take_add_one, h, List.foldl_append]
  rfl
theorem walk_len {T : List Tp} {c cells : List Int} : (walkC T c cells).length ≤ cells.length + 1 := by
  have go : ∀ (cells : List Int) (cs : List (List Int)), (cells.foldl (stepC T) cs).length ≤ cs.length + cells.length := by
    intro cells
    induction cells with
    | nil => intro cs; exact Nat.le_refl _
    | cons x cells ih =>
      intro cs
      have h1 := ih (stepC T cs x)
      have h2 : (stepC T cs x).length ≤ cs.length + 1 := by
        unfold stepC
        split
        · simp
        · omega
      show (cells.foldl (stepC T) (stepC T cs x)).length ≤ _
      rw [List.length_cons]
      omega
  have := go cells [c]
  unfold walkC
  simpa [Nat.add_comm] using this
theorem getLast_at {K : PySem.W.Frag} {H0 H : Hp} {l : Addr} {cs : List (List Int)} (A : AccZ K H0 l H (cs.map dI)) (ne : cs ≠ []) : ∃ xs v, H l = some (.lst xs) ∧ atI xs (-1) = some v ∧ Rz K H v (dI (lastC cs)) := by
  obtain ⟨xs, h1, h2⟩ := A.at_
  have lx : xs.length = cs.length := by rw [h2.length, List.length_map]
  have nx : xs ≠ [] := fun z => ne (List.length_eq_zero_iff.mp (by rw [← lx, z]; rfl))
  refine ⟨xs, xs.getLast nx, h1, ?_, ?_⟩
  · conv => lhs; rw [← List.dropLast_concat_getLast nx]
    exact L2.atI_last _ _
  · have li : xs.length - 1 < xs.length := by have := List.length_pos_iff.mpr nx; omega
    obtain ⟨d, g1, g2⟩ := h2.get (List.getElem?_eq_getElem li)
    rw [List.getLast_eq_getElem]
    have e : d = dI (lastC cs) := by
      rw [List.getElem?_map] at g1
      have : cs[xs.length - 1]? = some (lastC cs) := by
        unfold lastC
        rw [List.getLastD_eq_getLast?, List.getLast?_eq_getElem?, lx, List.getElem?_eq_getElem (by omega)]
        rfl
      rw [this] at g1
      exact (Option.some.inj g1).symm
    rw [← e]
    exact g2
def t_counts (K : PySem.W.Frag) : TS := (tSeq (tAsg (tLst (tCons (tVar 1) tNil)) (gName 3))
  (tSeq (tFor (iList K (tVar 2)) (gName 4)
  (tSeq (tAsg (tCompF (iTup K (tOp (rIxT K) (tVar 0) (tC (.int 1)))) 1 (gName 0) (tB (tCall (spCan K) [] E0 (tCons (tVar 0) (tCons (tOp (rIxL K) (tVar 4) (tUn (rU fun i => .int (-i)) (tC (.int 1)))) tNil)))) (tVar 0)) (gName 5))
  (tIfS (tTest (tOp rGt (tCB (rLenQ K) (tCons (tVar 5) tNil)) (tC (.int 0))))
  (tDrop (tBM K "list" rAppend (tVar 3) (tCons (tCall (spBehind K) [] E0 (tCons (tOp (rIxL K) (tVar 5) (tOp rMod (tVar 4) (tCB (rLenQ K) (tCons (tVar 5) tNil)))) (tCons (tOp (rIxL K) (tVar 3) (tUn (rU fun i => .int (-i)) (tC (.int 1)))) tNil))) tNil)))
  tNext)))
  (tRet (tVar 3))))
theorem rd_counts {K : PySem.W.Frag} {vs : List V} {H : Hp} {Q : VK} {E : XK} {N : List Str} (hN : N.length = 6) (h : spCounts K vs H Q E) : t_counts K (ends Q) (L2.start N vs) H := by
  obtain ⟨v, w, a, ws, ts, c, cells, n, rfl, rv, rw_, ha, hc, hn, hT, lt, lc, k⟩ := h
  have rv0 := rv
  obtain ⟨b, v1, v2, rfl, hb, _, r2⟩ := dV_at rv
  obtain ⟨e, xs, rfl, he, rx⟩ := r2.tup_at
  have lx : xs.length = ts.length := by rw [rx.length, List.length_map]
  rw [show L2.start N [.ref b, w, .ref a] = [some (.ref b), some w, some (.ref a), none, none, none] by unfold L2.start; rw [hN]; rfl]
  unfold t_counts
  walk_at "rd"
  refine ⟨by show 1 ≤ sizeLine; decide, fun l nl => ?_⟩
  have Sl := same_new nl (.lst [w])
  have A0 : AccZ K H l (upd H l (.lst [w])) ((walkC (ts.map pr) c (cells.take 0)).map dI) := ⟨Sl, nl, _, upd_same, .cons (rw_.same Sl) .nil⟩
  generalize upd H l (.lst [w]) = H0 at A0 ⊢
  clear Sl
  walk_at "rd"
  refine k_rlF (SqL.of (A0.same _ _ ha)) ?_
  refine fat_list (xs := cells.map V.int) (fun i σ H2 => ∃ u4 u5 : Option V, σ = [some (.ref b), some w, some (.ref a), some (.ref l), u4, u5] ∧ AccZ K H l H2 ((walkC (ts.map pr) c (cells.take i)).map dI)) ⟨none, none, rfl, A0⟩ (fun i σ H2 _ ⟨_, _, _, A⟩ => SqL.of (A.same _ _ ha)) ?_ ?_
  · rintro i x σ H2 hx ⟨u4, u5, rfl, A⟩
    rw [List.getElem?_map] at hx
    obtain ⟨cell, hcell, rfl⟩ := Option.map_eq_some_iff.mp hx
    have li : i < cells.length := (List.getElem?_eq_some_iff.mp hcell).1
    obtain ⟨ne, all⟩ := walk_all (T := ts.map pr) (P := Ct n) (fun d t hd ht h => ct_beh hd (by obtain ⟨t', ht', rfl⟩ := List.mem_map.mp ht; exact hT t' ht') h) hc (cells.take i)
    have ll : (walkC (ts.map pr) c (cells.take i)).length ≤ 101 := Nat.le_trans walk_len (by rw [List.length_take]; omega)
    rw [walk_take hcell]
    generalize walkC (ts.map pr) c (cells.take i) = cs at A ne all ll ⊢
    have hlast : Ct n (lastC cs) := by
      unfold lastC
      rw [List.getLastD_eq_getLast?, List.getLast?_eq_some_getLast ne]
      exact all _ (List.getLast_mem ne)
    walk_at "rd"
    refine k_ixT (SqT.of (A.same _ _ hb)) (v := .ref e) rfl ?_
    refine ⟨e, rfl, ⟨xs, SqT.of (A.same _ _ he)⟩, ?_⟩
    refine compF_tup (xs := xs) fun D nD => ⟨fun j H3 => AccZ K H2 D H3 (((ts.take j).filter fun t => can (pr t) (lastC cs)).map dT), by simpa using AccZ.start (Same.refl _) nD, fun j H3 _ B => SqT.of ((A.on B.same).same _ _ he), ?_, ?_⟩
    · intro j x H3 hx B us hu
      obtain ⟨u0, rfl⟩ : ∃ u, us = [u] := List.length_eq_one_iff.mp hu
      have lj := (List.getElem?_eq_some_iff.mp hx).1
      obtain ⟨d, g1, g2⟩ := rx.get hx
      rw [List.getElem?_map] at g1
      obtain ⟨t, ht, rfl⟩ := Option.map_eq_some_iff.mp g1
      have A3 := A.on B.same
      obtain ⟨ls, lv, h1, h2, h3⟩ := getLast_at A3 ne
      have lf : ((ts.take j).filter fun t => can (pr t) (lastC cs)).length ≤ 100 := Nat.le_trans (List.length_filter_le _ _) (by rw [List.length_take]; omega)
      have er : ((ts.take (j + 1)).filter fun t => can (pr t) (lastC cs)) = ((ts.take j).filter fun t => can (pr t) (lastC cs)) ++ [t].filter fun t => can (pr t) (lastC cs) := by rw [List.take_add_one, ht, List.filter_append]; rfl
      have tl := (hT t (List.mem_of_getElem? ht)).1.1
      walk_at "rd"
      refine ⟨⟨[some x], rfl, rfl⟩, ?_⟩
      walk_at "rd"
      refine k_ixL (SqL.of h1) h2 ?_
      walk_at "rd"
      refine ⟨x, lv, t, lastC cs, rfl, g2.same A3.same, h3, by show (pr t).1.length ≤ 100; omega, fun H4 S4 => ?_⟩
      have B4 := B.on S4
      walk_at "rd"
      cases e : can (pr t) (lastC cs) with
      | true =>
        walk_at "rd"
        refine pushed lj ?_
        refine B4.pushK (g2.same (A.on B4.same).same) (small1000 (by rw [List.length_map]; omega)) fun H5 B5 => ?_
        show AccZ K H2 D H5 (((ts.take (j + 1)).filter fun t => can (pr t) (lastC cs)).map dT)
        rw [er, List.filter_cons_of_pos (p := fun t => can (pr t) (lastC cs)) e, List.map_append]
        exact B5
      | false =>
        walk_at "rd"
        refine skipped lj ?_
        show AccZ K H2 D H4 (((ts.take (j + 1)).filter fun t => can (pr t) (lastC cs)).map dT)
        rw [er, List.filter_cons_of_neg (p := fun t => can (pr t) (lastC cs)) (by rw [e]; exact Bool.false_ne_true)]
        simpa using B4
    · intro H3 B
      rw [lx, List.take_of_length_le (Nat.le_refl _)] at B
      obtain ⟨zs, hz, rz⟩ := B.at_
      have lz : zs.length = (ts.filter fun t => can (pr t) (lastC cs)).length := by rw [rz.length, List.length_map]
      have fm : (ts.map pr).filter (fun t => can t (lastC cs)) = (ts.filter fun t => can (pr t) (lastC cs)).map pr := by rw [List.filter_map]; rfl
      have A3 := A.on B.same
      walk_at "rd"
      refine k_lenL (SqL.of hz) ?_
      walk_at "rd"
      unfold stepC
      rw [fm, List.length_map]
      refine k_ite (fun e => ?_) (fun e => ?_)
      · have pos : 0 < (ts.filter fun t => can (pr t) (lastC cs)).length := by omega
        rw [if_pos pos]
        walk_at "rd"
        refine ⟨A3.ty, ?_⟩
        walk_at "rd"
        refine k_lenL (SqL.of hz) ?_
        walk_at "rd"
        rw [lz]
        have m1 := Int.emod_lt_of_pos cell (show (0 : Int) < ((ts.filter fun t => can (pr t) (lastC cs)).length : Int) by omega)
        have m2 := Int.emod_nonneg cell (show ((ts.filter fun t => can (pr t) (lastC cs)).length : Int) ≠ 0 by omega)
        obtain ⟨m, hm⟩ : ∃ m : Nat, cell % ((ts.filter fun t => can (pr t) (lastC cs)).length : Int) = m := ⟨(cell % ((ts.filter fun t => can (pr t) (lastC cs)).length : Int)).toNat, by omega⟩
        rw [hm] at m1 ⊢
        have lm : m < zs.length := by omega
        obtain ⟨d, g1, g2⟩ := rz.get (List.getElem?_eq_getElem lm)
        rw [List.getElem?_map] at g1
        obtain ⟨t, ht, rfl⟩ := Option.map_eq_some_iff.mp g1
        have tin := (List.mem_filter.mp (List.mem_of_getElem? ht)).1
        obtain ⟨o1, o2⟩ := hT t tin
        obtain ⟨ls, lv, h1, h2, h3⟩ := getLast_at A3 ne
        refine k_ixL (SqL.of hz) (atI_nat (List.getElem?_eq_getElem lm)) ?_
        walk_at "rd"
        refine k_ixL (SqL.of h1) h2 ?_
        walk_at "rd"
        have l1 : t.fr.length = n := o1.1
        have l2 : t.to.length = n := o2.1
        have l3 : (lastC cs).length = n := hlast.1
        refine ⟨_, lv, t, lastC cs, rfl, g2, h3, by omega, by omega, by omega, fun p H4 S4 rp => ?_⟩
        walk_at "rd"
        refine k_appZ (A3.on S4) rp (small1000 (by rw [List.length_map]; omega)) fun H5 A5 _ _ _ => ?_
        refine ⟨_, _, rfl, ?_⟩
        rw [List.map_append]
        have eg : ((ts.filter fun t => can (pr t) (lastC cs)).map pr).getD (Int.toNat (m : Int)) ([], []) = pr t := by
          rw [Int.toNat_natCast, List.getD_eq_getElem?_getD, List.getElem?_map, ht]
          rfl
        rw [eg]
        exact A5
      · rw [if_neg (by omega)]
        walk_at "rd"
        exact ⟨_, _, rfl, A3⟩
  · rintro σ H2 ⟨u4, u5, rfl, A⟩
    rw [List.take_of_length_le (by rw [List.length_map]; exact Nat.le_refl _)] at A
    walk_at "rd"
    exact k l H2 A
end Dn

set_option Elab.async false
set_option linter.all false
set_option maxRecDepth 100000
set_option maxHeartbeats 4000000
namespace K72
open PySem L2 Fr G1 Sm Vs G2 Rk Sz Dn
open PySem.W (Dat kqdOk)
def top (i : Nat) : Stmt := PySem.Challenge.pw_vesselhall_k72_gone_and_there_along_walk.main.body.getD i (.Pass ⟨0, 0, 0, 0⟩)
def spLaw (K : PySem.W.Frag) : Sp := fun vs H Q _ => ∃ (a : Addr) (ns : List Int), vs = [.ref a] ∧ SqL K H a (ns.map V.int) ∧ ns.length ≤ 63 ∧ ∀ H', Q (.bl true) H'
def t_drn72 (K : PySem.W.Frag) : TS := (tFor (iList K (tCall (spDrains K) [] E0 (tCons (tVar 1) tNil))) (gName 5)
  (tSeq (tAsg (tCB (rTupOf K) (tCons (tComp (iRng1 (tCons (tVar 2) tNil)) (tOp (rI CMul fun i j => .int (i * j)) (tOp (rIxT K) (tVar 5) (tVar 0)) (tCB rInt1 (tCons (tOp (rIn K true) (tVar 0) (tVar 6)) tNil)))) tNil)) (gName 6))
  (tFor (iList K (tCall (spCounts K) [] E0 (tCons (tVar 1) (tCons (tVar 6) (tCons (tSl (rSlL K) (tVar 0) (tPart (tC (.int 17))) (tPart (tC (.int 63)))) tNil))))) (gName 7)
  (tIfS (tTest (tOp rNe (tCB (rSumL K) (tCons (tComp (iTup K (tVar 5)) (tOp (rIxT K) (tVar 8) (tVar 0))) tNil)) (tC (.int 0))))
  (tRet (tC (.bl false)))
  tNext))))
def t_trp72 (K : PySem.W.Frag) : TS := (tFor (iList K (tCall (spTraps K) [] E0 (tCons (tVar 1) tNil))) (gName 5)
  (tSeq (tAsg (tCB (rTupOf K) (tCons (tComp (iRng1 (tCons (tVar 2) tNil)) (tOp qAdd (tOp (rIxT K) (tVar 5) (tVar 0)) (tCB rInt1 (tCons (tOp rEq (tVar 0) (tOp (rIxT K) (tVar 6) (tUn (rU fun i => .int (-i)) (tC (.int 1))))) tNil)))) tNil)) (gName 6))
  (tFor (iList K (tCall (spCounts K) [] E0 (tCons (tVar 1) (tCons (tVar 6) (tCons (tSl (rSlL K) (tVar 0) (tPart (tC (.int 17))) (tPart (tC (.int 63)))) tNil))))) (gName 7)
  (tIfS (tTest (tOp rEq (tCB (rSumL K) (tCons (tComp (iTup K (tVar 5)) (tOp (rIxT K) (tVar 8) (tVar 0))) tNil)) (tC (.int 0))))
  (tRet (tC (.bl false)))
  tNext))))
def t_law (K : PySem.W.Frag) : TS := (tSeq (tAsg (tCall (spVes2 K) [] E0 (tCons (tVar 0) (tCons (tC (.int 0)) tNil))) (gName 1))
  (tSeq (tAsg (tCB (rLenQ K) (tCons (tOp (rIxT K) (tVar 1) (tC (.int 0))) tNil)) (gName 2))
  (tSeq (tAsg (tOp (rIxL K) (tLst (tCons (tC (.int 4)) (tCons (tC (.int 50)) (tCons (tOp rPow (tC (.int 10)) (tC (.int 39))) tNil)))) (tOp rMod (tCall (spCell K) [] E0 (tCons (tVar 0) (tCons (tC (.int 15)) tNil))) (tC (.int 3)))) (gName 3))
  (tSeq (tAsg (tCall (spCount K) [] E0 (tCons (tCall (spCell K) [] E0 (tCons (tVar 0) (tCons (tC (.int 16)) tNil))) (tCons (tVar 2) (tCons (tVar 3) tNil)))) (gName 4))
  (tSeq (tIfS (tTest (tOp rGt (tVar 3) (tC (.int 50))))
  (tAsg (tCB (rTupOf K) (tCons (tComp (iTup K (tVar 4)) (tOp qAdd (tOp (rI CMul fun i j => .int (i * j)) (tOp rMod (tVar 0) (tOp rPow (tC (.int 10)) (tC (.int 10)))) (tOp rPow (tC (.int 10)) (tC (.int 29)))) (tOp rMod (tCall (spCell K) [] E0 (tCons (tVar 1) (tCons (tC (.int 16)) tNil))) (tOp rPow (tC (.int 10)) (tC (.int 20)))))) tNil)) (gName 4))
  tNext)
  (tSeq (t_drn72 K)
  (tSeq (t_trp72 K)
  (tRet (tC (.bl true))))))))))
theorem cut_ints (ns : List Int) (lo hi : Option Int) : ∃ cells : List Int, cutV (ns.map V.int) lo hi = cells.map V.int ∧ cells.length ≤ ns.length := by
  unfold cutV
  rw [List.length_map, ← List.map_drop, ← List.map_take]
  exact ⟨_, rfl, by rw [List.length_take, List.length_drop]; omega⟩
/-- all that the two walks lean on -/
structure Env (K : PySem.W.Frag) (H : Hp) (a p pc : Addr) (ns : List Int) (ws : List Str) (ts : List Tn) (cs : List Int) : Prop where
  scr : SqL K H a (ns.map V.int)
  le : ns.length ≤ 63
  ves : Rz K H (.ref p) (dV ws ts)
  w5 : ws.length ≤ 5
  t8 : ts.length ≤ 8
  tp : ∀ t ∈ ts, TpOk ws.length (pr t)
  cnt : Rz K H (.ref pc) (dI cs)
  ct : Ct ws.length cs
theorem Env.same {K : PySem.W.Frag} {H H' : Hp} {a p pc : Addr} {ns : List Int} {ws : List Str} {ts : List Tn} {cs : List Int} (e : Env K H a p pc ns ws ts cs) (S : Same H H') : Env K H' a p pc ns ws ts cs := ⟨S.seq e.scr, e.le, e.ves.same S, e.w5, e.t8, e.tp, e.cnt.same S, e.ct⟩
theorem pt_ge {c : List Int} {n k : Nat} (h : c.length = n) (hk : n ≤ k) : pt c k = 0 := by
  unfold pt
  rw [List.getD_eq_getElem?_getD, List.getElem?_eq_none (by omega)]
  rfl
theorem pt_range {n k : Nat} {f : Nat → Int} (h : k < n) : pt ((List.range n).map f) k = f k := by
  unfold pt
  rw [List.getD_eq_getElem?_getD, List.getElem?_map, List.getElem?_range h]
  rfl
theorem ct_range {n : Nat} {f : Nat → Int} (h : ∀ k < n, 0 ≤ f k) : Ct n ((List.range n).map f) := by
  refine ⟨by rw [List.length_map, List.length_range], fun k => ?_⟩
  by_cases hk : k < n
  · rw [pt_range hk]; exact h k hk
  · rw [pt_ge (by rw [List.length_map, List.length_range]) (by omega)]; exact Int.le_refl _
/-- the sum of a count's pieces over a set -/
theorem sum_at {K : PySem.W.Frag} {H : Hp} {Q : VK} {σ : St} {b d : Addr} {S : List Nat} {c : List Int} (h7 : σ[7]? = some (some (.ref d))) (hb : H b = some (.tup ((nI S).map V.int))) (hd : H d = some (.tup (c.map V.int))) (hS : ∀ k ∈ S, k < c.length) (hl : S.length ≤ 100) (k : ∀ H', Same H H' → Q (.int (worthS c S)) H') :
    CompAt (Itt K b) (tOp (rIxT K) (tVar 8) (tVar 0)) σ (fun x H1 => tNil σ H1 fun xs H2 => rSumL K (x :: xs) H2 Q) H := by
  have lS : ((nI S).map V.int).length = S.length := by rw [List.length_map, nI_len]
  refine comp_tup (xs := (nI S).map V.int) fun D nD => ⟨fun j H2 => AccZ K H D H2 (((S.take j).map fun k => pt c k).map Dat.int), by simpa using AccZ.start (Same.refl _) nD, fun j H2 _ A => SqT.of (A.same _ _ hb), ?_, ?_⟩
  · intro j x H2 hx A
    have lj := (List.getElem?_eq_some_iff.mp hx).1
    obtain ⟨m, hm, rfl⟩ := nI_get hx
    refine k_elt (k_op (k_var (show (some (V.int (m : Int)) :: σ)[8]? = some (some (.ref d)) from h7) (k_var rfl ?_)))
    refine k_ixT (SqT.of (A.same _ _ hd)) (atI_row (hS m (List.mem_of_getElem? hm))) ?_
    refine pushed lj ?_
    refine A.pushK (.int _) (small1000 (by rw [List.length_map, List.length_map, List.length_take]; omega)) fun H3 A3 => ?_
    show AccZ K H D H3 (((S.take (j + 1)).map fun k => pt c k).map Dat.int)
    rw [List.take_add_one, hm, List.map_append, List.map_append]
    exact A3
  · intro H2 A
    rw [lS, List.take_of_length_le (Nat.le_refl _)] at A
    exact k_nil ⟨D, _, rfl, SqL.of (AccZ.ints A), k H2 A.same⟩
theorem rd_drn {K : PySem.W.Frag} {H : Hp} {D : Ends} {a p pc : Addr} {ns : List Int} {ws : List Str} {ts : List Tn} {cs : List Int} {z : V} (E : Env K H a p pc ns ws ts cs)
    (k : ∀ (u5 u6 u7 : Option V) H', Same H H' → D.nx [some (.ref a), some (.ref p), some (.int (ws.length : Int)), some z, some (.ref pc), u5, u6, u7] H') :
    t_drn72 K D [some (.ref a), some (.ref p), some (.int (ws.length : Int)), some z, some (.ref pc), none, none, none] H := by
  have w5 := E.w5
  have t8 := E.t8
  have si := sets_in ws.length (by omega)
  have lens : ∀ t ∈ ts, t.fr.length = ws.length ∧ t.to.length = ws.length := fun t ht => ⟨(E.tp t ht).1.1, (E.tp t ht).2.1⟩
  have tp' : ∀ t ∈ ts.map pr, TpOk ws.length t := fun t ht => by obtain ⟨t', ht', rfl⟩ := List.mem_map.mp ht; exact E.tp t' ht'
  unfold t_drn72
  walk_at "rd"
  refine ⟨.ref p, ws, ts, rfl, E.ves, w5, by omega, lens, fun L H1 AL => ?_⟩
  have E1 := E.same AL.same
  obtain ⟨ys, hy, ry⟩ := AL.at_
  refine k_rlF (SqL.of hy) ?_
  refine fat_list (xs := ys) (fun i σ H2 => ∃ u5 u6 u7 : Option V, σ = [some (.ref a), some (.ref p), some (.int (ws.length : Int)), some z, some (.ref pc), u5, u6, u7] ∧ Same H1 H2) ⟨none, none, none, rfl, Same.refl _⟩ (fun i σ H2 _ ⟨_, _, _, _, S⟩ => SqL.of (S _ _ hy)) ?_ ?_
  · rintro i x σ H2 hx ⟨u5, u6, u7, rfl, S2⟩
    obtain ⟨d, g1, g2⟩ := ry.get hx
    rw [List.getElem?_map] at g1
    obtain ⟨S, hSi, rfl⟩ := Option.map_eq_some_iff.mp g1
    have Sf := List.mem_filter.mp (lst_mem S (List.mem_of_getElem? hSi))
    obtain ⟨s1, s2, s3⟩ := si S Sf.1
    have sD : isD (ts.map pr) S = true := Sf.2
    obtain ⟨b, rfl, hb⟩ := dS_at g2
    have E2 := E1.same S2
    obtain ⟨pc', e, hpc⟩ := dI_at E2.cnt
    cases e
    have lc := E.ct.1
    walk_at "rd"
    rw [Int.toNat_natCast]
    refine comp_range (n := ws.length) fun C nC => ⟨fun j H3 => AccZ K H2 C H3 ((((List.range ws.length).map fun k => pt cs k * (if k ∈ S then 0 else 1)).take j).map Dat.int), by simpa using AccZ.start (Same.refl _) nC, ?_, ?_⟩
    · intro j H3 hj A
      have ej : ((List.range ws.length).map fun k => pt cs k * (if k ∈ S then 0 else 1))[j]? = some (pt cs j * (if j ∈ S then 0 else 1)) := by rw [List.getElem?_map, List.getElem?_range hj]; rfl
      rw [Int.zero_add]
      walk_at "rd"
      refine k_ixT (SqT.of (A.same _ _ hpc)) (atI_row (by omega)) ?_
      walk_at "rd"
      refine k_notInN (SqT.of ((S2.trans A.same) _ _ hb)) ?_
      walk_at "rd"
      have ei : (if (!decide (j ∈ S)) = true then (1 : Int) else 0) = if j ∈ S then 0 else 1 := by
        by_cases h : j ∈ S <;> simp [h]
      rw [ei]
      refine pushed hj ?_
      refine A.pushK (.int _) (small1000 (by rw [List.length_map, List.length_take, List.length_map, List.length_range]; omega)) fun H4 A4 => ?_
      show AccZ K H2 C H4 ((((List.range ws.length).map fun k => pt cs k * (if k ∈ S then 0 else 1)).take (j + 1)).map Dat.int)
      rw [List.take_add_one, ej, List.map_append]
      exact A4
    · intro H3 A
      rw [List.take_of_length_le (by rw [List.length_map, List.length_range]; exact Nat.le_refl _)] at A
      have hC := AccZ.ints A
      have ctf : Ct ws.length ((List.range ws.length).map fun k => pt cs k * (if k ∈ S then 0 else 1)) := ct_range fun k hk => by
        have := E.ct.2 k
        split <;> omega
      have zf : ∀ k ∈ S, pt ((List.range ws.length).map fun k => pt cs k * (if k ∈ S then 0 else 1)) k = 0 := fun k hk => by
        rw [pt_range (s3 k hk), if_pos hk]; omega
      generalize (List.range ws.length).map (fun k => pt cs k * (if k ∈ S then 0 else 1)) = fs at A hC ctf zf
      walk_at "rd"
      refine k_tupL (SqL.of hC) fun f nf => ?_
      have S3 := S2.trans (A.same.trans (same_new nf (.tup (fs.map V.int))))
      have hf : upd H3 f (.tup (fs.map V.int)) f = some (.tup (fs.map V.int)) := upd_same
      generalize upd H3 f (.tup (fs.map V.int)) = H4 at S3 hf ⊢
      have E4 := E1.same S3
      obtain ⟨cells, ec, lcl⟩ := cut_ints ns (some 17) (some 63)
      have le63 := E.le
      walk_at "rd"
      refine ⟨a, _, rfl, E4.scr, fun t nt => ?_⟩
      rw [ec]
      have S5 := S3.trans (same_new nt (.lst (cells.map V.int)))
      have ht : upd H4 t (.lst (cells.map V.int)) t = some (.lst (cells.map V.int)) := upd_same
      have hf5 := same_new nt (.lst (cells.map V.int)) _ _ hf
      generalize upd H4 t (.lst (cells.map V.int)) = H5 at S5 ht hf5 ⊢
      have E5 := E1.same S5
      walk_at "rd"
      refine ⟨.ref p, .ref f, t, ws, ts, fs, cells, ws.length, rfl, E5.ves, .tup hf5 (RpL.ints _), ht, ctf, w5, E.tp, by omega, by omega, fun q H6 A6 => ?_⟩
      obtain ⟨_, all⟩ := walk_all (T := ts.map pr) (P := fun c => Ct ws.length c ∧ ∀ k ∈ S, pt c k = 0) (fun c t hc ht h => drain_step tp' s3 sD c t hc ht h) ⟨ctf, zf⟩ cells
      generalize walkC (ts.map pr) fs cells = wk at A6 all
      obtain ⟨zs, hz, rz⟩ := A6.at_
      refine k_rlF (SqL.of hz) ?_
      refine fat_list (xs := zs) (fun m σ H7 => ∃ u7 : Option V, σ = [some (.ref a), some (.ref p), some (.int (ws.length : Int)), some z, some (.ref pc), some (.ref b), some (.ref f), u7] ∧ Same H6 H7) ⟨_, rfl, Same.refl _⟩ (fun m σ H7 _ ⟨_, _, S⟩ => SqL.of (S _ _ hz)) ?_ ?_
      · rintro m x σ H7 hx ⟨u7, rfl, S7⟩
        obtain ⟨d, g1, g3⟩ := rz.get hx
        rw [List.getElem?_map] at g1
        obtain ⟨c, hc, rfl⟩ := Option.map_eq_some_iff.mp g1
        obtain ⟨dd, rfl, hdd⟩ := dI_at g3
        obtain ⟨c1, c2⟩ := all c (List.mem_of_getElem? hc)
        have c11 := c1.1
        walk_at "rd"
        have hb7 := ((S5.trans A6.same).trans S7) _ _ hb
        refine k_rtC (SqT.of hb7) (sum_at rfl hb7 (S7 _ _ hdd) (fun k hk => by have := s3 k hk; omega) (by omega) fun H8 S8 => ?_)
        rw [worth_none c2]
        walk_at "rd"
        refine k_iteN (fun z => absurd rfl z) (fun _ => ?_)
        walk_at "rd"
        exact ⟨_, rfl, S7.trans S8⟩
      · rintro σ H7 ⟨u7, rfl, S7⟩
        exact ⟨_, _, _, rfl, (S5.trans A6.same).trans S7⟩
  · rintro σ H2 ⟨u5, u6, u7, rfl, S2⟩
    exact k _ _ _ H2 (AL.same.trans S2)
theorem rd_trp {K : PySem.W.Frag} {H : Hp} {D : Ends} {a p pc : Addr} {ns : List Int} {ws : List Str} {ts : List Tn} {cs : List Int} {z : V} {v5 v6 v7 : Option V} (E : Env K H a p pc ns ws ts cs)
    (k : ∀ (u5 u6 u7 : Option V) H', Same H H' → D.nx [some (.ref a), some (.ref p), some (.int (ws.length : Int)), some z, some (.ref pc), u5, u6, u7] H') :
    t_trp72 K D [some (.ref a), some (.ref p), some (.int (ws.length : Int)), some z, some (.ref pc), v5, v6, v7] H := by
  have w5 := E.w5
  have t8 := E.t8
  have si := sets_in ws.length (by omega)
  have lens : ∀ t ∈ ts, t.fr.length = ws.length ∧ t.to.length = ws.length := fun t ht => ⟨(E.tp t ht).1.1, (E.tp t ht).2.1⟩
  have tp' : ∀ t ∈ ts.map pr, TpOk ws.length t := fun t ht => by obtain ⟨t', ht', rfl⟩ := List.mem_map.mp ht; exact E.tp t' ht'
  unfold t_trp72
  walk_at "rd"
  refine ⟨.ref p, ws, ts, rfl, E.ves, w5, by omega, lens, fun L H1 AL => ?_⟩
  have E1 := E.same AL.same
  obtain ⟨ys, hy, ry⟩ := AL.at_
  refine k_rlF (SqL.of hy) ?_
  refine fat_list (xs := ys) (fun i σ H2 => ∃ u5 u6 u7 : Option V, σ = [some (.ref a), some (.ref p), some (.int (ws.length : Int)), some z, some (.ref pc), u5, u6, u7] ∧ Same H1 H2) ⟨v5, v6, v7, rfl, Same.refl _⟩ (fun i σ H2 _ ⟨_, _, _, _, S⟩ => SqL.of (S _ _ hy)) ?_ ?_
  · rintro i x σ H2 hx ⟨u5, u6, u7, rfl, S2⟩
    obtain ⟨d, g1, g2⟩ := ry.get hx
    rw [List.getElem?_map] at g1
    obtain ⟨S, hSi, rfl⟩ := Option.map_eq_some_iff.mp g1
    have Sf := List.mem_filter.mp (lst_mem S (List.mem_of_getElem? hSi))
    obtain ⟨s1, s2, s3⟩ := si S Sf.1
    have sD : isT (ts.map pr) S = true := Sf.2
    obtain ⟨b, rfl, hb⟩ := dS_at g2
    have E2 := E1.same S2
    obtain ⟨pc', e, hpc⟩ := dI_at E2.cnt
    cases e
    have lc := E.ct.1
    walk_at "rd"
    rw [Int.toNat_natCast]
    refine comp_range (n := ws.length) fun C nC => ⟨fun j H3 => AccZ K H2 C H3 ((((List.range ws.length).map fun k => pt cs k + (if k = S.getLastD 0 then 1 else 0)).take j).map Dat.int), by simpa using AccZ.start (Same.refl _) nC, ?_, ?_⟩
    · intro j H3 hj A
      have ej : ((List.range ws.length).map fun k => pt cs k + (if k = S.getLastD 0 then 1 else 0))[j]? = some (pt cs j + (if j = S.getLastD 0 then 1 else 0)) := by rw [List.getElem?_map, List.getElem?_range hj]; rfl
      rw [Int.zero_add]
      walk_at "rd"
      refine k_ixT (SqT.of (A.same _ _ hpc)) (atI_row (by omega)) ?_
      walk_at "rd"
      refine k_ixT (SqT.of ((S2.trans A.same) _ _ hb)) (atI_lastN s1) ?_
      walk_at "rd"
      have ei : (if decide ((j : Int) = ((S.getLastD 0 : Nat) : Int)) = true then (1 : Int) else 0) = if j = S.getLastD 0 then 1 else 0 := by
        by_cases h : j = S.getLastD 0
        · rw [if_pos h, if_pos (by rw [h]; simp)]
        · rw [if_neg h, if_neg (by simp only [decide_eq_true_eq]; omega)]
      rw [ei]
      refine pushed hj ?_
      refine A.pushK (.int _) (small1000 (by rw [List.length_map, List.length_take, List.length_map, List.length_range]; omega)) fun H4 A4 => ?_
      show AccZ K H2 C H4 ((((List.range ws.length).map fun k => pt cs k + (if k = S.getLastD 0 then 1 else 0)).take (j + 1)).map Dat.int)
      rw [List.take_add_one, ej, List.map_append]
      exact A4
    · intro H3 A
      rw [List.take_of_length_le (by rw [List.length_map, List.length_range]; exact Nat.le_refl _)] at A
      have hC := AccZ.ints A
      have ctf : Ct ws.length ((List.range ws.length).map fun k => pt cs k + (if k = S.getLastD 0 then 1 else 0)) := ct_range fun k hk => by
        have := E.ct.2 k
        split <;> omega
      have lin : S.getLastD 0 ∈ S := by
        rw [List.getLastD_eq_getLast?, List.getLast?_eq_some_getLast s1]
        exact List.getLast_mem s1
      have zf : ∃ k ∈ S, 0 < pt ((List.range ws.length).map fun k => pt cs k + (if k = S.getLastD 0 then 1 else 0)) k := ⟨S.getLastD 0, lin, by
        rw [pt_range (s3 _ lin), if_pos rfl]
        have := E.ct.2 (S.getLastD 0)
        omega⟩
      generalize (List.range ws.length).map (fun k => pt cs k + (if k = S.getLastD 0 then 1 else 0)) = fs at A hC ctf zf
      walk_at "rd"
      refine k_tupL (SqL.of hC) fun f nf => ?_
      have S3 := S2.trans (A.same.trans (same_new nf (.tup (fs.map V.int))))
      have hf : upd H3 f (.tup (fs.map V.int)) f = some (.tup (fs.map V.int)) := upd_same
      generalize upd H3 f (.tup (fs.map V.int)) = H4 at S3 hf ⊢
      have E4 := E1.same S3
      obtain ⟨cells, ec, lcl⟩ := cut_ints ns (some 17) (some 63)
      have le63 := E.le
      walk_at "rd"
      refine ⟨a, _, rfl, E4.scr, fun t nt => ?_⟩
      rw [ec]
      have S5 := S3.trans (same_new nt (.lst (cells.map V.int)))
      have ht : upd H4 t (.lst (cells.map V.int)) t = some (.lst (cells.map V.int)) := upd_same
      have hf5 := same_new nt (.lst (cells.map V.int)) _ _ hf
      generalize upd H4 t (.lst (cells.map V.int)) = H5 at S5 ht hf5 ⊢
      have E5 := E1.same S5
      walk_at "rd"
      refine ⟨.ref p, .ref f, t, ws, ts, fs, cells, ws.length, rfl, E5.ves, .tup hf5 (RpL.ints _), ht, ctf, w5, E.tp, by omega, by omega, fun q H6 A6 => ?_⟩
      obtain ⟨_, all⟩ := walk_all (T := ts.map pr) (P := fun c => Ct ws.length c ∧ ∃ k ∈ S, 0 < pt c k) (fun c t hc ht h => trap_step tp' s3 sD c t hc ht h) ⟨ctf, zf⟩ cells
      generalize walkC (ts.map pr) fs cells = wk at A6 all
      obtain ⟨zs, hz, rz⟩ := A6.at_
      refine k_rlF (SqL.of hz) ?_
      refine fat_list (xs := zs) (fun m σ H7 => ∃ u7 : Option V, σ = [some (.ref a), some (.ref p), some (.int (ws.length : Int)), some z, some (.ref pc), some (.ref b), some (.ref f), u7] ∧ Same H6 H7) ⟨_, rfl, Same.refl _⟩ (fun m σ H7 _ ⟨_, _, S⟩ => SqL.of (S _ _ hz)) ?_ ?_
      · rintro m x σ H7 hx ⟨u7, rfl, S7⟩
        obtain ⟨d, g1, g3⟩ := rz.get hx
        rw [List.getElem?_map] at g1
        obtain ⟨c, hc, rfl⟩ := Option.map_eq_some_iff.mp g1
        obtain ⟨dd, rfl, hdd⟩ := dI_at g3
        obtain ⟨c1, c2⟩ := all c (List.mem_of_getElem? hc)
        have c11 := c1.1
        walk_at "rd"
        have hb7 := ((S5.trans A6.same).trans S7) _ _ hb
        refine k_rtC (SqT.of hb7) (sum_at rfl hb7 (S7 _ _ hdd) (fun k hk => by have := s3 k hk; omega) (by omega) fun H8 S8 => ?_)
        have wz := worth_some c1.2 c2
        walk_at "rd"
        refine k_ite (fun z => absurd z wz) (fun _ => ?_)
        walk_at "rd"
        exact ⟨_, rfl, S7.trans S8⟩
      · rintro σ H7 ⟨u7, rfl, S7⟩
        exact ⟨_, _, _, rfl, (S5.trans A6.same).trans S7⟩
  · rintro σ H2 ⟨u5, u6, u7, rfl, S2⟩
    exact k _ _ _ H2 (AL.same.trans S2)
theorem rd_law {K : PySem.W.Frag} {vs : List V} {H : Hp} {Q : VK} {E : XK} (h : spLaw K vs H Q E) : t_law K (ends Q) (L2.start ["_law_script", "_law_vessel_here", "_law_many", "_law_size", "_law_count_here", "_law_some", "_law_first", "_law_later"] vs) H := by
  obtain ⟨a, ns, rfl, hS, hl, k⟩ := h
  show t_law K (ends Q) [some (.ref a), none, none, none, none, none, none, none] H
  unfold t_law
  walk_at "rd"
  refine ⟨a, ns, 0, rfl, hS, by decide, fun p H1 ws ts S1 vo rv => ?_⟩
  obtain ⟨hs_, po, _, tk⟩ := vo.turns
  have w5 := vo.w5
  have t8 := tk.le
  have ho : ∀ h ∈ hs_, Ct ws.length h := fun h hh => by
    obtain ⟨o1, o2⟩ := po.2 h hh
    refine ⟨o1, fun k => ?_⟩
    unfold pt
    rw [List.getD_eq_getElem?_getD]
    cases e : h[k]? with
    | none => exact Int.le_refl _
    | some x => exact (o2 x (List.mem_of_getElem? e)).1
  have tp : ∀ t ∈ ts, TpOk ws.length (pr t) := fun t ht => ⟨ho _ (tk.ok t ht).1, ho _ (tk.ok t ht).2.1⟩
  obtain ⟨pa, v1, v2, e, hpa, r1, r2⟩ := dV_at rv
  cases e
  obtain ⟨b, xs, rfl, hb, rx⟩ := r1.tup_at
  have lx : xs.length = ws.length := by rw [rx.length, List.length_map]
  walk_at "rd"
  refine k_ixT (SqT.of hpa) (v := .ref b) rfl ?_
  walk_at "rd"
  refine k_lenT (SqT.of hb) ?_
  rw [lx]
  walk_at "rd"
  refine ⟨by show 3 ≤ sizeLine; decide, fun q nq => ?_⟩
  have S2 := S1.trans (same_new nq (.lst [.int 4, .int 50, .int ((10 : Int) ^ ((39 : Int)).toNat)]))
  have rv2 := rv.same (same_new nq (.lst [.int 4, .int 50, .int ((10 : Int) ^ ((39 : Int)).toNat)]))
  have hq : upd H1 q (.lst [.int 4, .int 50, .int ((10 : Int) ^ ((39 : Int)).toNat)]) q = some (.lst [.int 4, .int 50, .int ((10 : Int) ^ ((39 : Int)).toNat)]) := upd_same
  generalize upd H1 q (.lst [.int 4, .int 50, .int ((10 : Int) ^ ((39 : Int)).toNat)]) = H2 at S2 rv2 hq ⊢
  walk_at "rd"
  refine ⟨a, ns, 15, rfl, S2.seq hS, by decide, ?_⟩
  generalize cellOf ns 15 = c15
  walk_at "rd"
  obtain ⟨z, ez, z0, z1⟩ : ∃ z : Int, atI [V.int 4, .int 50, .int ((10 : Int) ^ ((39 : Int)).toNat)] (c15 % 3) = some (.int z) ∧ 0 < z ∧ z ≤ 10 ^ 39 := by
    have : c15 % 3 = 0 ∨ c15 % 3 = 1 ∨ c15 % 3 = 2 := by omega
    rcases this with e | e | e <;> rw [e]
    · exact ⟨4, rfl, by decide, by decide⟩
    · exact ⟨50, rfl, by decide, by decide⟩
    · exact ⟨_, rfl, by decide, by decide⟩
  refine k_ixL (SqL.of hq) ez ?_
  walk_at "rd"
  refine ⟨a, ns, 16, rfl, S2.seq hS, by decide, ?_⟩
  generalize cellOf ns 16 = c16
  walk_at "rd"
  refine ⟨c16, z, ws.length, rfl, w5, z0, ?_, fun pc H3 cs S3 lcs bcs rc => ?_⟩
  · have : (10 : Nat) ^ 39 < 2 ^ 9000 := Nat.lt_of_lt_of_le (by decide : 10 ^ 39 < 2 ^ 200) (Nat.pow_le_pow_right (by decide) (by decide))
    omega
  have S13 := S2.trans S3
  have ct0 : Ct ws.length cs := ⟨lcs, fun k => by
    unfold pt
    rw [List.getD_eq_getElem?_getD]
    cases e : cs[k]? with
    | none => exact Int.le_refl _
    | some x => exact (bcs x (List.mem_of_getElem? e)).1⟩
  have rest : ∀ (pc : Addr) (H4 : Hp) (cs : List Int), Same H3 H4 → Ct ws.length cs → Rz K H4 (.ref pc) (dI cs) → tSeq (t_drn72 K) (tSeq (t_trp72 K) (tRet (tC (.bl true)))) (ends Q) [some (.ref a), some (.ref p), some (.int (ws.length : Int)), some (.int z), some (.ref pc), none, none, none] H4 := by
    intro pc H4 cs S4 ct rc
    have En : Env K H4 a p pc ns ws ts cs := ⟨(S13.trans S4).seq hS, hl, (rv2.same S3).same S4, w5, t8, tp, rc, ct⟩
    refine k_seq (rd_drn En fun u5 u6 u7 H5 S5 => ?_)
    refine k_seq (rd_trp (En.same S5) fun u5 u6 u7 H6 S6 => ?_)
    walk_at "rd"
    exact k H6
  clear hq nq q
  walk_at "rd"
  refine k_ite (fun e => ?_) (fun e => ?_)
  · walk_at "rd"
    obtain ⟨pc', e', hpc⟩ := dI_at rc
    cases e'
    refine k_rtC (SqT.of hpc) ?_
    refine comp_tup (xs := cs.map V.int) fun D nD => ⟨fun j H4 => ∃ es : List Int, AccZ K H3 D H4 (es.map Dat.int) ∧ es.length = j ∧ ∀ x ∈ es, 0 ≤ x, ⟨[], by simpa using AccZ.start (Same.refl _) nD, rfl, by simp⟩, fun j H4 _ ⟨_, A, _⟩ => SqT.of (A.same _ _ hpc), ?_, ?_⟩
    · rintro j x H4 hx ⟨es, A, le, be⟩
      have lj := (List.getElem?_eq_some_iff.mp hx).1
      rw [List.getElem?_map] at hx
      obtain ⟨m, hm, rfl⟩ := Option.map_eq_some_iff.mp hx
      have p10 : (10 : Int) ^ Int.toNat 10 = 10000000000 := by decide
      have p20 : (10 : Int) ^ Int.toNat 20 = 100000000000000000000 := by decide
      have p29 : (10 : Int) ^ Int.toNat 29 = 100000000000000000000000000000 := by decide
      walk_at "rd"
      refine ⟨a, ns, 16, rfl, (S13.trans A.same).seq hS, by decide, ?_⟩
      generalize cellOf ns 16 = c
      walk_at "rd"
      rw [p10, p20, p29]
      have nn : 0 ≤ m % 10000000000 * 100000000000000000000000000000 + c % 100000000000000000000 := by omega
      refine pushed lj ?_
      refine A.pushK (.int _) (small1000 (by rw [List.length_map, le]; rw [List.length_map] at lj; omega)) fun H5 A5 => ?_
      refine ⟨es ++ [m % 10000000000 * 100000000000000000000000000000 + c % 100000000000000000000], by rw [List.map_append]; exact A5, by rw [List.length_append, le]; rfl, fun x hx => ?_⟩
      rcases List.mem_append.mp hx with q | q
      · exact be x q
      · rw [List.mem_singleton.mp q]; exact nn
    · rintro H4 ⟨es, A, le, be⟩
      rw [List.length_map] at le
      walk_at "rd"
      refine k_tupL (SqL.of (AccZ.ints A)) fun pc2 np => ?_
      walk_at "rd"
      refine rest pc2 _ es (A.same.trans (same_new np _)) ⟨by rw [le]; exact lcs, fun k => ?_⟩ (.tup upd_same (RpL.ints _))
      unfold pt
      rw [List.getD_eq_getElem?_getD]
      cases e : es[k]? with
      | none => exact Int.le_refl _
      | some x => exact be x (List.mem_of_getElem? e)
  · walk_at "rd"
    exact rest pc H3 cs (Same.refl _) ct0 rc
theorem sc_sets_of : FnScope ["size", "told", "longest", "longer", "stuffs"] ["size"] (defScope (top 1)) := ⟨rfl, rfl, rfl, by decide +kernel, rfl, by decide +kernel, by decide +kernel⟩
theorem sc_has_some : FnScope ["heap", "stuffs"] ["heap", "stuffs"] (defScope (top 2)) := ⟨rfl, rfl, rfl, by decide +kernel, rfl, by decide +kernel, by decide +kernel⟩
theorem sc_is_drain : FnScope ["vessel", "stuffs"] ["vessel", "stuffs"] (defScope (top 3)) := ⟨rfl, rfl, rfl, by decide +kernel, rfl, by decide +kernel, by decide +kernel⟩
theorem sc_is_trap : FnScope ["vessel", "stuffs"] ["vessel", "stuffs"] (defScope (top 4)) := ⟨rfl, rfl, rfl, by decide +kernel, rfl, by decide +kernel, by decide +kernel⟩
theorem sc_lies_within : FnScope ["smaller", "greater"] ["smaller", "greater"] (defScope (top 5)) := ⟨rfl, rfl, rfl, by decide +kernel, rfl, by decide +kernel, by decide +kernel⟩
theorem sc_least_of : FnScope ["sets", "least", "stuffs"] ["sets"] (defScope (top 6)) := ⟨rfl, rfl, rfl, by decide +kernel, rfl, by decide +kernel, by decide +kernel⟩
theorem sc_drains : FnScope ["vessel"] ["vessel"] (defScope (top 7)) := ⟨rfl, rfl, rfl, by decide +kernel, rfl, by decide +kernel, by decide +kernel⟩
theorem sc_traps : FnScope ["vessel"] ["vessel"] (defScope (top 8)) := ⟨rfl, rfl, rfl, by decide +kernel, rfl, by decide +kernel, by decide +kernel⟩
theorem sc_law_cell_at : FnScope ["_law_script", "_law_k"] ["_law_script", "_law_k"] (defScope (top 10)) := ⟨rfl, rfl, rfl, by decide +kernel, rfl, by decide +kernel, by decide +kernel⟩
theorem sc_law_mixed : FnScope ["_law_cell", "_law_place", "_law_number"] ["_law_cell", "_law_place"] (defScope (top 11)) := ⟨rfl, rfl, rfl, by decide +kernel, rfl, by decide +kernel, by decide +kernel⟩
theorem sc_law_divisor : FnScope ["_law_one", "_law_two"] ["_law_one", "_law_two"] (defScope (top 12)) := ⟨rfl, rfl, rfl, by decide +kernel, rfl, by decide +kernel, by decide +kernel⟩
theorem sc_law_lowest : FnScope ["_law_top", "_law_bottom", "_law_by"] ["_law_top", "_law_bottom"] (defScope (top 13)) := ⟨rfl, rfl, rfl, by decide +kernel, rfl, by decide +kernel, by decide +kernel⟩
theorem sc_law_words : FnScope ["_law_number", "_law_many", "_law_letters", "_law_found", "_law_k", "_law_first"] ["_law_number", "_law_many"] (defScope (top 14)) := ⟨rfl, rfl, rfl, by decide +kernel, rfl, by decide +kernel, by decide +kernel⟩
theorem sc_law_heap : FnScope ["_law_cell", "_law_k", "_law_many", "_law_top", "_law_plain", "_law_number", "_law_found", "_law_j"] ["_law_cell", "_law_k", "_law_many", "_law_top", "_law_plain"] (defScope (top 15)) := ⟨rfl, rfl, rfl, by decide +kernel, rfl, by decide +kernel, by decide +kernel⟩
theorem sc_law_pool : FnScope ["_law_script", "_law_at", "_law_many", "_law_size", "_law_top", "_law_plain", "_law_found", "_law_k", "_law_heap_here"] ["_law_script", "_law_at", "_law_many", "_law_size", "_law_top", "_law_plain"] (defScope (top 16)) := ⟨rfl, rfl, rfl, by decide +kernel, rfl, by decide +kernel, by decide +kernel⟩
theorem sc_law_pairs : FnScope ["_law_script", "_law_at", "_law_size", "_law_kind", "_law_plain", "_law_found", "_law_k", "_law_after", "_law_cell", "_law_one", "_law_step", "_law_chosen", "_law_two"] ["_law_script", "_law_at", "_law_size", "_law_kind", "_law_plain"] (defScope (top 17)) := ⟨rfl, rfl, rfl, by decide +kernel, rfl, by decide +kernel, by decide +kernel⟩
theorem sc_law_pace : FnScope ["_law_cell", "_law_kind"] ["_law_cell", "_law_kind"] (defScope (top 18)) := ⟨rfl, rfl, rfl, by decide +kernel, rfl, by decide +kernel, by decide +kernel⟩
theorem sc_law_vessel : FnScope ["_law_script", "_law_at", "_law_number", "_law_many", "_law_top", "_law_plain", "_law_pool_here", "_law_pairs_here", "_law_rows", "_law_k", "_law_cell", "_law_one", "_law_two"] ["_law_script", "_law_at"] (defScope (top 19)) := ⟨rfl, rfl, rfl, by decide +kernel, rfl, by decide +kernel, by decide +kernel⟩
theorem sc_law_count : FnScope ["_law_cell", "_law_many", "_law_size", "_law_found", "_law_number", "_law_k"] ["_law_cell", "_law_many", "_law_size"] (defScope (top 20)) := ⟨rfl, rfl, rfl, by decide +kernel, rfl, by decide +kernel, by decide +kernel⟩
theorem sc_law_can : FnScope ["_law_turning", "_law_count_here"] ["_law_turning", "_law_count_here"] (defScope (top 21)) := ⟨rfl, rfl, rfl, by decide +kernel, rfl, by decide +kernel, by decide +kernel⟩
theorem sc_law_behind : FnScope ["_law_turning", "_law_count_here"] ["_law_turning", "_law_count_here"] (defScope (top 22)) := ⟨rfl, rfl, rfl, by decide +kernel, rfl, by decide +kernel, by decide +kernel⟩
theorem sc_law_counts : FnScope ["_law_vessel_here", "_law_count_here", "_law_cells", "_law_found", "_law_cell", "_law_can_here"] ["_law_vessel_here", "_law_count_here", "_law_cells"] (defScope (top 23)) := ⟨rfl, rfl, rfl, by decide +kernel, rfl, by decide +kernel, by decide +kernel⟩
theorem sc_law : FnScope ["_law_script", "_law_vessel_here", "_law_many", "_law_size", "_law_count_here", "_law_some", "_law_first", "_law_later"] ["_law_script"] (defScope (top 24)) := ⟨rfl, rfl, rfl, by decide +kernel, rfl, by decide +kernel, by decide +kernel⟩
section
variable {P : Program} {w : World} {K : PySem.W.Frag} {mg : Str → Option Value} {base : Heap}
theorem ok_sets_of (F : FunAt K mg "sets_of" (top 1) ["size"]) (B : Blt mg)  : FnC P w K mg base CX0 1 "sets_of" ["size"] (spSetsOf K) := by
  refine F.ok sc_sets_of (fun vs H Q E h => len_setsOf h) (fun f cdv A outer s H vs Q E hr h => ?_)
  have nd := sc_sets_of.nd
  have hpo := fun {M A env} => @PassesOwn.never M A env
  have hu := hr.units
  have hu1 := Nat.lt_of_le_of_lt (Nat.add_le_add_left (by decide : 1 ≤ 64) _) hu
  have own : OwnFr (cxOf CX0 P w K mg base ["size", "told", "longest", "longer", "stuffs"] "sets_of" (defScope (top 1)) f cdv A outer s H E).nox := ⟨rfl, rfl, rfl⟩
  exact ⟨t_setsOf K, (pss_cons (ps_set (i := 1) nd rfl (by first | exact Or.inl rfl | exact Or.inr rfl) (pe_lst pa_nil))
  (pss_cons (ps_lc (M := ["size", "told", "longest", "longer", "stuffs"]) (i := 2) nd rfl rfl (by show CompS (defScope (top 1)) ["size", "told", "longest", "longer", "stuffs"] ["size", "told", "longest", "longer", "stuffs"] _ _; exact ⟨rfl, by decide +kernel, by decide +kernel, by decide +kernel, by decide +kernel, rfl, by decide +kernel, by decide +kernel, by decide +kernel⟩) rfl (pi_range1 rfl B.range (pa_cons (pv 0) pa_nil)) (fun _ _ _ _ _ => (pe_tup (pa_cons (pv 0) pa_nil))))
  (pss_cons (ps_while hpo (pt_cmpR op_gt (pe_callB call_len_seq rfl B.len bb_len (pa_cons (pv 2) pa_nil)) pe_int (nomark _))
  (pss_cons (ps_expr (pe_bm PySem.F.plainAttrs_list PySem.F.slot_list_extend PySem.F.type_list_extend mt_extend (pv 1) (pa_cons (pv 2) pa_nil)))
  (pss_cons (ps_set (i := 3) nd rfl (by first | exact Or.inl rfl | exact Or.inr rfl) (pe_lst pa_nil))
  (pss_cons (ps_for hpo rfl (pi_list (pv 2)) (pg_name (i := 4) nd rfl (by first | exact Or.inl rfl | exact Or.inr rfl))
  (pss_one (ps_expr (pe_bm PySem.F.plainAttrs_list PySem.F.slot_list_extend PySem.F.type_list_extend mt_extend (pv 3) (pa_cons (pe_lc (M := ["size", "told", "longest", "longer", "stuffs"]) (by show CompS (defScope (top 1)) ["size", "told", "longest", "longer", "stuffs"] ["size", "told", "longest", "longer", "stuffs"] _ _; exact ⟨rfl, by decide +kernel, by decide +kernel, by decide +kernel, by decide +kernel, rfl, by decide +kernel, by decide +kernel, by decide +kernel⟩) nd rfl (pi_range2 rfl B.range (pa_cons (pe_op op_add (pe_ix ix_tup (pv 4) (pe_un un_neg pe_int) (fun _ _ => rfl)) pe_int) (pa_cons (pv 0) pa_nil))) (fun _ _ _ _ _ => (pe_op op_catT (pv 5) (pe_tup (pa_cons (pv 0) pa_nil))))) pa_nil)))))
  (pss_one (ps_set (i := 2) nd rfl (by first | exact Or.inl rfl | exact Or.inr rfl) (pv 3)))))))
  (pss_one (ps_ret (pv 1)))))), (rd_setsOf rfl h)⟩
theorem ok_has_some (F : FunAt K mg "has_some" (top 2) ["heap", "stuffs"]) (B : Blt mg)  : FnC P w K mg base CX0 1 "has_some" ["heap", "stuffs"] (spHasSome K) := by
  refine F.ok sc_has_some (fun vs H Q E h => len_hasSome h) (fun f cdv A outer s H vs Q E hr h => ?_)
  have nd := sc_has_some.nd
  have hpo := fun {M A env} => @PassesOwn.never M A env
  have hu := hr.units
  have hu1 := Nat.lt_of_le_of_lt (Nat.add_le_add_left (by decide : 1 ≤ 64) _) hu
  have own : OwnFr (cxOf CX0 P w K mg base ["heap", "stuffs"] "has_some" (defScope (top 2)) f cdv A outer s H E).nox := ⟨rfl, rfl, rfl⟩
  exact ⟨t_hasSome K, (pss_one (ps_ret (pe_callB (call_any rfl) rfl B.any bb_any (pa_cons (pe_lc (M := ["heap", "stuffs"]) (by show CompS (defScope (top 2)) ["heap", "stuffs"] ["heap", "stuffs"] _ _; exact ⟨rfl, by decide +kernel, by decide +kernel, by decide +kernel, by decide +kernel, rfl, by decide +kernel, by decide +kernel, by decide +kernel⟩) nd rfl (pi_tup (pv 1)) (fun _ _ _ _ _ => (pe_cmpR op_gt (pe_ix ix_tup (pv 1) (pv 0) (fun _ _ => rfl)) pe_int (nomark _)))) pa_nil)))), (rd_hasSome rfl h)⟩
theorem ok_is_drain (F : FunAt K mg "is_drain" (top 3) ["vessel", "stuffs"]) (B : Blt mg) (c_has_some : FnC P w K mg base CX0 1 "has_some" ["heap", "stuffs"] (spHasSome K)) : FnC P w K mg base CX0 2 "is_drain" ["vessel", "stuffs"] (spIsDrain K) := by
  refine F.ok sc_is_drain (fun vs H Q E h => len_isDrain h) (fun f cdv A outer s H vs Q E hr h => ?_)
  have nd := sc_is_drain.nd
  have hpo := fun {M A env} => @PassesOwn.never M A env
  have hu := hr.units
  have hu1 := Nat.lt_of_le_of_lt (Nat.add_le_add_left (by decide : 1 ≤ 64) _) hu
  have own : OwnFr (cxOf CX0 P w K mg base ["vessel", "stuffs"] "is_drain" (defScope (top 3)) f cdv A outer s H E).nox := ⟨rfl, rfl, rfl⟩
  exact ⟨t_isDrain K, (pss_one (ps_ret (pe_callB (call_all rfl) rfl B.all bb_all (pa_cons (pe_lc (M := ["vessel", "stuffs"]) (by show CompS (defScope (top 3)) ["vessel", "stuffs"] ["vessel", "stuffs"] _ _; exact ⟨rfl, by decide +kernel, by decide +kernel, by decide +kernel, by decide +kernel, rfl, by decide +kernel, by decide +kernel, by decide +kernel⟩) nd rfl (pi_tup (pe_ix ix_tup (pv 0) pe_int (fun _ _ => rfl))) (fun _ _ _ _ _ => (pe_or (pe_callF c_has_some hr rfl (pa_cons (pe_ix ix_tup (pv 0) pe_int (fun _ _ => rfl)) (pa_cons (pv 2) pa_nil))) (pe_one (pe_not (pe_callF c_has_some hr rfl (pa_cons (pe_ix ix_tup (pv 0) pe_int (fun _ _ => rfl)) (pa_cons (pv 2) pa_nil)))))))) pa_nil)))), (rd_isDrain rfl h)⟩
theorem ok_is_trap (F : FunAt K mg "is_trap" (top 4) ["vessel", "stuffs"]) (B : Blt mg) (c_has_some : FnC P w K mg base CX0 1 "has_some" ["heap", "stuffs"] (spHasSome K)) : FnC P w K mg base CX0 2 "is_trap" ["vessel", "stuffs"] (spIsTrap K) := by
  refine F.ok sc_is_trap (fun vs H Q E h => len_isTrap h) (fun f cdv A outer s H vs Q E hr h => ?_)
  have nd := sc_is_trap.nd
  have hpo := fun {M A env} => @PassesOwn.never M A env
  have hu := hr.units
  have hu1 := Nat.lt_of_le_of_lt (Nat.add_le_add_left (by decide : 1 ≤ 64) _) hu
  have own : OwnFr (cxOf CX0 P w K mg base ["vessel", "stuffs"] "is_trap" (defScope (top 4)) f cdv A outer s H E).nox := ⟨rfl, rfl, rfl⟩
  exact ⟨t_isTrap K, (pss_one (ps_ret (pe_callB (call_all rfl) rfl B.all bb_all (pa_cons (pe_lc (M := ["vessel", "stuffs"]) (by show CompS (defScope (top 4)) ["vessel", "stuffs"] ["vessel", "stuffs"] _ _; exact ⟨rfl, by decide +kernel, by decide +kernel, by decide +kernel, by decide +kernel, rfl, by decide +kernel, by decide +kernel, by decide +kernel⟩) nd rfl (pi_tup (pe_ix ix_tup (pv 0) pe_int (fun _ _ => rfl))) (fun _ _ _ _ _ => (pe_or (pe_callF c_has_some hr rfl (pa_cons (pe_ix ix_tup (pv 0) pe_int (fun _ _ => rfl)) (pa_cons (pv 2) pa_nil))) (pe_one (pe_not (pe_callF c_has_some hr rfl (pa_cons (pe_ix ix_tup (pv 0) pe_int (fun _ _ => rfl)) (pa_cons (pv 2) pa_nil)))))))) pa_nil)))), (rd_isTrap rfl h)⟩
theorem ok_lies_within (F : FunAt K mg "lies_within" (top 5) ["smaller", "greater"]) (B : Blt mg)  : FnC P w K mg base CX0 1 "lies_within" ["smaller", "greater"] (spWithin K) := by
  refine F.ok sc_lies_within (fun vs H Q E h => len_within h) (fun f cdv A outer s H vs Q E hr h => ?_)
  have nd := sc_lies_within.nd
  have hpo := fun {M A env} => @PassesOwn.never M A env
  have hu := hr.units
  have hu1 := Nat.lt_of_le_of_lt (Nat.add_le_add_left (by decide : 1 ≤ 64) _) hu
  have own : OwnFr (cxOf CX0 P w K mg base ["smaller", "greater"] "lies_within" (defScope (top 5)) f cdv A outer s H E).nox := ⟨rfl, rfl, rfl⟩
  exact ⟨t_within K, (pss_one (ps_ret (pe_callB (call_all rfl) rfl B.all bb_all (pa_cons (pe_lc (M := ["smaller", "greater"]) (by show CompS (defScope (top 5)) ["smaller", "greater"] ["smaller", "greater"] _ _; exact ⟨rfl, by decide +kernel, by decide +kernel, by decide +kernel, by decide +kernel, rfl, by decide +kernel, by decide +kernel, by decide +kernel⟩) nd rfl (pi_tup (pv 0)) (fun _ _ _ _ _ => (pe_cmpR op_in_seq (pv 0) (pv 2) (by with_unfolding_all rfl)))) pa_nil)))), (rd_within rfl h)⟩
theorem ok_least_of (F : FunAt K mg "least_of" (top 6) ["sets"]) (B : Blt mg) (c_lies_within : FnC P w K mg base CX0 1 "lies_within" ["smaller", "greater"] (spWithin K)) : FnC P w K mg base CX0 2 "least_of" ["sets"] (spLeastOf K) := by
  refine F.ok sc_least_of (fun vs H Q E h => len_leastOf h) (fun f cdv A outer s H vs Q E hr h => ?_)
  have nd := sc_least_of.nd
  have hpo := fun {M A env} => @PassesOwn.never M A env
  have hu := hr.units
  have hu1 := Nat.lt_of_le_of_lt (Nat.add_le_add_left (by decide : 1 ≤ 64) _) hu
  have own : OwnFr (cxOf CX0 P w K mg base ["sets", "least", "stuffs"] "least_of" (defScope (top 6)) f cdv A outer s H E).nox := ⟨rfl, rfl, rfl⟩
  exact ⟨t_leastOf K, (pss_cons (ps_set (i := 1) nd rfl (by first | exact Or.inl rfl | exact Or.inr rfl) (pe_lst pa_nil))
  (pss_cons (ps_for hpo rfl (pi_list (pv 0)) (pg_name (i := 2) nd rfl (by first | exact Or.inl rfl | exact Or.inr rfl))
  (pss_one (ps_if (pt_not (pt_val (pe_callB (call_any rfl) rfl B.any bb_any (pa_cons (pe_lc (M := ["sets", "least", "stuffs"]) (by show CompS (defScope (top 6)) ["sets", "least", "stuffs"] ["sets", "least", "stuffs"] _ _; exact ⟨rfl, by decide +kernel, by decide +kernel, by decide +kernel, by decide +kernel, rfl, by decide +kernel, by decide +kernel, by decide +kernel⟩) nd rfl (pi_list (pv 1)) (fun _ _ _ _ _ => (pe_callF c_lies_within hr rfl (pa_cons (pv 0) (pa_cons (pv 3) pa_nil))))) pa_nil))))
  (pss_one (ps_expr (pe_bm PySem.F.plainAttrs_list PySem.F.slot_list_append PySem.F.type_list_append mt_append (pv 1) (pa_cons (pv 2) pa_nil))))
  pss_nil)))
  (pss_one (ps_ret (pv 1))))), (rd_leastOf rfl h)⟩
theorem ok_drains (F : FunAt K mg "drains" (top 7) ["vessel"]) (B : Blt mg) (c_least_of : FnC P w K mg base CX0 2 "least_of" ["sets"] (spLeastOf K)) (c_sets_of : FnC P w K mg base CX0 2 "sets_of" ["size"] (spSetsOf K)) (c_is_drain : FnC P w K mg base CX0 2 "is_drain" ["vessel", "stuffs"] (spIsDrain K)) : FnC P w K mg base CX0 3 "drains" ["vessel"] (spDrains K) := by
  refine F.ok sc_drains (fun vs H Q E h => len_drains h) (fun f cdv A outer s H vs Q E hr h => ?_)
  have nd := sc_drains.nd
  have hpo := fun {M A env} => @PassesOwn.never M A env
  have hu := hr.units
  have hu1 := Nat.lt_of_le_of_lt (Nat.add_le_add_left (by decide : 1 ≤ 64) _) hu
  have own : OwnFr (cxOf CX0 P w K mg base ["vessel"] "drains" (defScope (top 7)) f cdv A outer s H E).nox := ⟨rfl, rfl, rfl⟩
  exact ⟨t_drains K, (pss_one (ps_ret (pe_callF c_least_of hr rfl (pa_cons (pe_lcF ["stuffs"] ["vessel"] (by show CompS (defScope (top 7)) ["vessel"] ["vessel"] _ _; exact ⟨rfl, by decide +kernel, by decide +kernel, by decide +kernel, by decide +kernel, rfl, by decide +kernel, by decide +kernel, by decide +kernel⟩) rfl (pi_list (pe_callF c_sets_of hr rfl (pa_cons (pe_callB call_len_seq rfl B.len bb_len (pa_cons (pe_ix ix_tup (pv 0) pe_int (fun _ _ => rfl)) pa_nil)) pa_nil))) (fun _ _ _ _ _ => (pg_name (i := 0) (show (["stuffs", "vessel"] : List Str).Nodup by decide +kernel) rfl (by first | exact Or.inl rfl | exact Or.inr rfl))) (fun _ _ _ _ _ => (pt_val (pe_callF c_is_drain hr rfl (pa_cons (pv 1) (pa_cons (pv 0) pa_nil))))) (fun _ _ _ _ _ => (pv 0))) pa_nil)))), (rd_drains rfl h)⟩
theorem ok_traps (F : FunAt K mg "traps" (top 8) ["vessel"]) (B : Blt mg) (c_least_of : FnC P w K mg base CX0 2 "least_of" ["sets"] (spLeastOf K)) (c_sets_of : FnC P w K mg base CX0 2 "sets_of" ["size"] (spSetsOf K)) (c_is_trap : FnC P w K mg base CX0 2 "is_trap" ["vessel", "stuffs"] (spIsTrap K)) : FnC P w K mg base CX0 3 "traps" ["vessel"] (spTraps K) := by
  refine F.ok sc_traps (fun vs H Q E h => len_traps h) (fun f cdv A outer s H vs Q E hr h => ?_)
  have nd := sc_traps.nd
  have hpo := fun {M A env} => @PassesOwn.never M A env
  have hu := hr.units
  have hu1 := Nat.lt_of_le_of_lt (Nat.add_le_add_left (by decide : 1 ≤ 64) _) hu
  have own : OwnFr (cxOf CX0 P w K mg base ["vessel"] "traps" (defScope (top 8)) f cdv A outer s H E).nox := ⟨rfl, rfl, rfl⟩
  exact ⟨t_traps K, (pss_one (ps_ret (pe_callF c_least_of hr rfl (pa_cons (pe_lcF ["stuffs"] ["vessel"] (by show CompS (defScope (top 8)) ["vessel"] ["vessel"] _ _; exact ⟨rfl, by decide +kernel, by decide +kernel, by decide +kernel, by decide +kernel, rfl, by decide +kernel, by decide +kernel, by decide +kernel⟩) rfl (pi_list (pe_callF c_sets_of hr rfl (pa_cons (pe_callB call_len_seq rfl B.len bb_len (pa_cons (pe_ix ix_tup (pv 0) pe_int (fun _ _ => rfl)) pa_nil)) pa_nil))) (fun _ _ _ _ _ => (pg_name (i := 0) (show (["stuffs", "vessel"] : List Str).Nodup by decide +kernel) rfl (by first | exact Or.inl rfl | exact Or.inr rfl))) (fun _ _ _ _ _ => (pt_val (pe_callF c_is_trap hr rfl (pa_cons (pv 1) (pa_cons (pv 0) pa_nil))))) (fun _ _ _ _ _ => (pv 0))) pa_nil)))), (rd_traps rfl h)⟩
theorem ok_law_cell_at (F : FunAt K mg "_law_cell_at" (top 10) ["_law_script", "_law_k"]) (B : Blt mg)  : FnC P w K mg base CX0 1 "_law_cell_at" ["_law_script", "_law_k"] (spCell K) := by
  refine F.ok sc_law_cell_at (fun vs H Q E h => len_cell h) (fun f cdv A outer s H vs Q E hr h => ?_)
  have nd := sc_law_cell_at.nd
  have hpo := fun {M A env} => @PassesOwn.never M A env
  have hu := hr.units
  have hu1 := Nat.lt_of_le_of_lt (Nat.add_le_add_left (by decide : 1 ≤ 64) _) hu
  have own : OwnFr (cxOf CX0 P w K mg base ["_law_script", "_law_k"] "_law_cell_at" (defScope (top 10)) f cdv A outer s H E).nox := ⟨rfl, rfl, rfl⟩
  exact ⟨tCell K, (pss_cons (ps_if (pt_cmpR op_lt (pv 1) (pe_callB call_len_seq rfl B.len bb_len (pa_cons (pv 0) pa_nil)) (nomark _))
  (pss_one (ps_ret (pe_ix ix_list (pv 0) (pv 1) (fun _ _ => rfl))))
  pss_nil)
  (pss_one (ps_ret pe_int))), (by obtain ⟨a, ns, k, rfl, hS, h0, q⟩ := h; exact rd_cell hS h0 q)⟩
theorem ok_law_mixed (F : FunAt K mg "_law_mixed" (top 11) ["_law_cell", "_law_place"]) (B : Blt mg)  : FnC P w K mg base CX0 1 "_law_mixed" ["_law_cell", "_law_place"] spMix2 := by
  refine F.ok sc_law_mixed (fun vs H Q E h => len_mix2 h) (fun f cdv A outer s H vs Q E hr h => ?_)
  have nd := sc_law_mixed.nd
  have hpo := fun {M A env} => @PassesOwn.never M A env
  have hu := hr.units
  have hu1 := Nat.lt_of_le_of_lt (Nat.add_le_add_left (by decide : 1 ≤ 64) _) hu
  have own : OwnFr (cxOf CX0 P w K mg base ["_law_cell", "_law_place", "_law_number"] "_law_mixed" (defScope (top 11)) f cdv A outer s H E).nox := ⟨rfl, rfl, rfl⟩
  exact ⟨t_mix2 K, (pss_cons (ps_set (i := 2) nd rfl (by first | exact Or.inl rfl | exact Or.inr rfl) (pe_op op_mod (pe_op op_add (pe_op op_add (pe_op op_mul (pe_op op_mod (pv 0) pe_int) pe_int) (pe_op op_mul pe_int (pv 1))) pe_int) pe_int))
  (pss_cons (ps_set (i := 2) nd rfl (by first | exact Or.inl rfl | exact Or.inr rfl) (pe_op op_mod (pe_op op_add (pe_op op_add (pe_op op_mul (pv 2) (pv 2)) (pe_op op_mul pe_int (pv 1))) pe_int) pe_int))
  (pss_one (ps_ret (pe_op op_mod (pe_op op_add (pe_op op_mul (pv 2) (pv 2)) pe_int) pe_int))))), (rd_mix2 rfl h)⟩
theorem ok_law_divisor (F : FunAt K mg "_law_divisor" (top 12) ["_law_one", "_law_two"]) (B : Blt mg)  : FnC P w K mg base CX0 1 "_law_divisor" ["_law_one", "_law_two"] spDiv := by
  refine F.ok sc_law_divisor (fun vs H Q E h => len_div h) (fun f cdv A outer s H vs Q E hr h => ?_)
  have nd := sc_law_divisor.nd
  have hpo := fun {M A env} => @PassesOwn.never M A env
  have hu := hr.units
  have hu1 := Nat.lt_of_le_of_lt (Nat.add_le_add_left (by decide : 1 ≤ 64) _) hu
  have own : OwnFr (cxOf CX0 P w K mg base ["_law_one", "_law_two"] "_law_divisor" (defScope (top 12)) f cdv A outer s H E).nox := ⟨rfl, rfl, rfl⟩
  exact ⟨t_div2 K, (pss_cons (ps_while hpo (pt_cmpR op_ne (pv 1) pe_int (nomark _))
  (pss_one (ps_par (i := 0) (j := 1) rfl nd rfl rfl (by decide) rfl rfl (pa_cons (pv 1) (pa_cons (pe_op op_modN (pv 0) (pv 1)) pa_nil)) rfl)))
  (pss_one (ps_ret (pe_callB call_abs rfl B.abs bb_abs (pa_cons (pv 0) pa_nil))))), (rd_div2 rfl h)⟩
theorem ok_law_lowest (F : FunAt K mg "_law_lowest" (top 13) ["_law_top", "_law_bottom"]) (B : Blt mg) (c_law_divisor : FnC P w K mg base CX0 1 "_law_divisor" ["_law_one", "_law_two"] spDiv) : FnC P w K mg base CX0 2 "_law_lowest" ["_law_top", "_law_bottom"] (spLowP K) := by
  refine F.ok sc_law_lowest (fun vs H Q E h => len_lowP h) (fun f cdv A outer s H vs Q E hr h => ?_)
  have nd := sc_law_lowest.nd
  have hpo := fun {M A env} => @PassesOwn.never M A env
  have hu := hr.units
  have hu1 := Nat.lt_of_le_of_lt (Nat.add_le_add_left (by decide : 1 ≤ 64) _) hu
  have own : OwnFr (cxOf CX0 P w K mg base ["_law_top", "_law_bottom", "_law_by"] "_law_lowest" (defScope (top 13)) f cdv A outer s H E).nox := ⟨rfl, rfl, rfl⟩
  exact ⟨t_low2 K, (pss_cons (ps_set (i := 2) nd rfl (by first | exact Or.inl rfl | exact Or.inr rfl) (pe_callF c_law_divisor hr rfl (pa_cons (pv 0) (pa_cons (pv 1) pa_nil))))
  (pss_one (ps_ret (pe_tup (pa_cons (pe_op op_fdivW (pv 0) (pv 2)) (pa_cons (pe_op op_fdivW (pv 1) (pv 2)) pa_nil)))))), (rd_low2 rfl h)⟩
theorem ok_law_words (F : FunAt K mg "_law_words" (top 14) ["_law_number", "_law_many"]) (B : Blt mg)  : FnC P w K mg base CX0 1 "_law_words" ["_law_number", "_law_many"] (spWords2 K) := by
  refine F.ok sc_law_words (fun vs H Q E h => len_words2 h) (fun f cdv A outer s H vs Q E hr h => ?_)
  have nd := sc_law_words.nd
  have hpo := fun {M A env} => @PassesOwn.never M A env
  have hu := hr.units
  have hu1 := Nat.lt_of_le_of_lt (Nat.add_le_add_left (by decide : 1 ≤ 64) _) hu
  have own : OwnFr (cxOf CX0 P w K mg base ["_law_number", "_law_many", "_law_letters", "_law_found", "_law_k", "_law_first"] "_law_words" (defScope (top 14)) f cdv A outer s H E).nox := ⟨rfl, rfl, rfl⟩
  exact ⟨t_words2 K, (pss_cons (ps_set (i := 2) nd rfl (by first | exact Or.inl rfl | exact Or.inr rfl) pe_str)
  (pss_cons (ps_set (i := 3) nd rfl (by first | exact Or.inl rfl | exact Or.inr rfl) (pe_lst pa_nil))
  (pss_cons (ps_for hpo rfl (pi_range1 rfl B.range (pa_cons (pv 1) pa_nil)) (pg_name (i := 4) nd rfl (by first | exact Or.inl rfl | exact Or.inr rfl))
  (pss_cons (ps_set (i := 5) nd rfl (by first | exact Or.inl rfl | exact Or.inr rfl) (pe_ix ix_str (pv 2) (pe_op op_mod (pe_op op_add (pv 0) (pe_op op_mul pe_int (pv 4))) pe_int) (fun _ _ => rfl)))
  (pss_one (ps_expr (pe_bm PySem.F.plainAttrs_list PySem.F.slot_list_append PySem.F.type_list_append mt_append (pv 3) (pa_cons (pe_op op_add_str (pe_op op_add_str (pv 5) (pe_slice sl_str pe_str po_none (po_some (pe_op op_mod (pe_op op_fdiv (pv 0) pe_int) pe_int)))) (pe_op op_repS (pv 5) (pe_op op_mod (pe_op op_fdiv (pv 0) pe_int) pe_int))) pa_nil))))))
  (pss_one (ps_ret (pe_callTy call_tuple_of rfl B.tuple bb_tuple (pa_cons (pv 3) pa_nil))))))), (rd_words2 rfl h)⟩
theorem ok_law_heap (F : FunAt K mg "_law_heap" (top 15) ["_law_cell", "_law_k", "_law_many", "_law_top", "_law_plain"]) (B : Blt mg) (c_law_mixed : FnC P w K mg base CX0 1 "_law_mixed" ["_law_cell", "_law_place"] spMix2) : FnC P w K mg base CX0 2 "_law_heap" ["_law_cell", "_law_k", "_law_many", "_law_top", "_law_plain"] (spHeap2 K) := by
  refine F.ok sc_law_heap (fun vs H Q E h => len_heap2 h) (fun f cdv A outer s H vs Q E hr h => ?_)
  have nd := sc_law_heap.nd
  have hpo := fun {M A env} => @PassesOwn.never M A env
  have hu := hr.units
  have hu1 := Nat.lt_of_le_of_lt (Nat.add_le_add_left (by decide : 1 ≤ 64) _) hu
  have own : OwnFr (cxOf CX0 P w K mg base ["_law_cell", "_law_k", "_law_many", "_law_top", "_law_plain", "_law_number", "_law_found", "_law_j"] "_law_heap" (defScope (top 15)) f cdv A outer s H E).nox := ⟨rfl, rfl, rfl⟩
  exact ⟨t_heap2 K, (pss_cons (ps_set (i := 5) nd rfl (by first | exact Or.inl rfl | exact Or.inr rfl) (pv 0))
  (pss_cons (ps_if (pt_cmpR op_gt (pv 1) pe_int (nomark _))
  (pss_one (ps_set (i := 5) nd rfl (by first | exact Or.inl rfl | exact Or.inr rfl) (pe_op op_fdiv (pv 0) pe_int)))
  pss_nil)
  (pss_cons (ps_set (i := 6) nd rfl (by first | exact Or.inl rfl | exact Or.inr rfl) (pe_lst pa_nil))
  (pss_cons (ps_for hpo rfl (pi_range1 rfl B.range (pa_cons (pv 2) pa_nil)) (pg_name (i := 7) nd rfl (by first | exact Or.inl rfl | exact Or.inr rfl))
  (pss_one (ps_if (pt_val (pv 4))
  (pss_cons (ps_expr (pe_bm PySem.F.plainAttrs_list PySem.F.slot_list_append PySem.F.type_list_append mt_append (pv 6) (pa_cons (pe_op op_mod (pv 5) (pv 3)) pa_nil)))
  (pss_one (ps_set (i := 5) nd rfl (by first | exact Or.inl rfl | exact Or.inr rfl) (pe_op op_fdiv (pv 5) (pv 3)))))
  (pss_one (ps_expr (pe_bm PySem.F.plainAttrs_list PySem.F.slot_list_append PySem.F.type_list_append mt_append (pv 6) (pa_cons (pe_op op_mod (pe_callF c_law_mixed hr rfl (pa_cons (pv 0) (pa_cons (pe_op op_add (pe_op op_mul pe_int (pv 1)) (pv 7)) pa_nil))) (pv 3)) pa_nil)))))))
  (pss_one (ps_ret (pe_callTy call_tuple_of rfl B.tuple bb_tuple (pa_cons (pv 6) pa_nil)))))))), (rd_heap2 rfl h)⟩
theorem ok_law_pool (F : FunAt K mg "_law_pool" (top 16) ["_law_script", "_law_at", "_law_many", "_law_size", "_law_top", "_law_plain"]) (B : Blt mg) (c_law_heap : FnC P w K mg base CX0 2 "_law_heap" ["_law_cell", "_law_k", "_law_many", "_law_top", "_law_plain"] (spHeap2 K)) (c_law_cell_at : FnC P w K mg base CX0 2 "_law_cell_at" ["_law_script", "_law_k"] (spCell K)) : FnC P w K mg base CX0 3 "_law_pool" ["_law_script", "_law_at", "_law_many", "_law_size", "_law_top", "_law_plain"] (spPool2 K) := by
  refine F.ok sc_law_pool (fun vs H Q E h => len_pool2 h) (fun f cdv A outer s H vs Q E hr h => ?_)
  have nd := sc_law_pool.nd
  have hpo := fun {M A env} => @PassesOwn.never M A env
  have hu := hr.units
  have hu1 := Nat.lt_of_le_of_lt (Nat.add_le_add_left (by decide : 1 ≤ 64) _) hu
  have own : OwnFr (cxOf CX0 P w K mg base ["_law_script", "_law_at", "_law_many", "_law_size", "_law_top", "_law_plain", "_law_found", "_law_k", "_law_heap_here"] "_law_pool" (defScope (top 16)) f cdv A outer s H E).nox := ⟨rfl, rfl, rfl⟩
  exact ⟨t_pool2 K, (pss_cons (ps_set (i := 6) nd rfl (by first | exact Or.inl rfl | exact Or.inr rfl) (pe_lst pa_nil))
  (pss_cons (ps_for hpo rfl (pi_range1 rfl B.range (pa_cons (pv 3) pa_nil)) (pg_name (i := 7) nd rfl (by first | exact Or.inl rfl | exact Or.inr rfl))
  (pss_cons (ps_set (i := 8) nd rfl (by first | exact Or.inl rfl | exact Or.inr rfl) (pe_callF c_law_heap hr rfl (pa_cons (pe_callF c_law_cell_at hr rfl (pa_cons (pv 0) (pa_cons (pe_op op_add (pv 1) (pe_op op_mod (pv 7) pe_int)) pa_nil))) (pa_cons (pv 7) (pa_cons (pv 2) (pa_cons (pv 4) (pa_cons (pv 5) pa_nil)))))))
  (pss_one (ps_if (pt_cmpR (op_notInD hu) (pv 8) (pv 6) (by with_unfolding_all rfl))
  (pss_one (ps_expr (pe_bm PySem.F.plainAttrs_list PySem.F.slot_list_append PySem.F.type_list_append mt_append (pv 6) (pa_cons (pv 8) pa_nil))))
  pss_nil))))
  (pss_cons (ps_if (pt_cmpR op_eq (pe_callB call_len_seq rfl B.len bb_len (pa_cons (pv 6) pa_nil)) pe_int (nomark _))
  (pss_one (ps_expr (pe_bm PySem.F.plainAttrs_list PySem.F.slot_list_append PySem.F.type_list_append mt_append (pv 6) (pa_cons (pe_callTy call_tuple_of rfl B.tuple bb_tuple (pa_cons (pe_lc (M := ["_law_script", "_law_at", "_law_many", "_law_size", "_law_top", "_law_plain", "_law_found", "_law_k", "_law_heap_here"]) (by show CompS (defScope (top 16)) ["_law_script", "_law_at", "_law_many", "_law_size", "_law_top", "_law_plain", "_law_found", "_law_k", "_law_heap_here"] ["_law_script", "_law_at", "_law_many", "_law_size", "_law_top", "_law_plain", "_law_found", "_law_k", "_law_heap_here"] _ _; exact ⟨rfl, by decide +kernel, by decide +kernel, by decide +kernel, by decide +kernel, rfl, by decide +kernel, by decide +kernel, by decide +kernel⟩) nd rfl (pi_range1 rfl B.range (pa_cons (pv 2) pa_nil)) (fun _ _ _ _ _ => (pe_callTy call_int1 rfl B.int bb_int (pa_cons (pe_and (pe_cmpR op_eq (pv 0) pe_int (nomark _)) (pe_one (pe_cmpR op_eq (pe_ix ix_tup (pe_ix ix_list (pv 7) pe_int (fun _ _ => rfl)) pe_int (fun _ _ => rfl)) pe_int (nomark _)))) pa_nil)))) pa_nil)) pa_nil))))
  pss_nil)
  (pss_one (ps_ret (pv 6)))))), (rd_pool2 rfl h)⟩
theorem ok_law_pairs (F : FunAt K mg "_law_pairs" (top 17) ["_law_script", "_law_at", "_law_size", "_law_kind", "_law_plain"]) (B : Blt mg) (c_law_cell_at : FnC P w K mg base CX0 1 "_law_cell_at" ["_law_script", "_law_k"] (spCell K)) (c_law_mixed : FnC P w K mg base CX0 1 "_law_mixed" ["_law_cell", "_law_place"] spMix2) : FnC P w K mg base CX0 2 "_law_pairs" ["_law_script", "_law_at", "_law_size", "_law_kind", "_law_plain"] (spPairs2 K) := by
  refine F.ok sc_law_pairs (fun vs H Q E h => len_pairs2 h) (fun f cdv A outer s H vs Q E hr h => ?_)
  have nd := sc_law_pairs.nd
  have hpo := fun {M A env} => @PassesOwn.never M A env
  have hu := hr.units
  have hu1 := Nat.lt_of_le_of_lt (Nat.add_le_add_left (by decide : 1 ≤ 64) _) hu
  have own : OwnFr (cxOf CX0 P w K mg base ["_law_script", "_law_at", "_law_size", "_law_kind", "_law_plain", "_law_found", "_law_k", "_law_after", "_law_cell", "_law_one", "_law_step", "_law_chosen", "_law_two"] "_law_pairs" (defScope (top 17)) f cdv A outer s H E).nox := ⟨rfl, rfl, rfl⟩
  exact ⟨t_pairs2 K, (pss_cons (ps_set (i := 5) nd rfl (by first | exact Or.inl rfl | exact Or.inr rfl) (pe_lst pa_nil))
  (pss_cons (ps_for hpo rfl (pi_range1 rfl B.range (pa_cons (pv 2) pa_nil)) (pg_name (i := 6) nd rfl (by first | exact Or.inl rfl | exact Or.inr rfl))
  (pss_cons (ps_set (i := 7) nd rfl (by first | exact Or.inl rfl | exact Or.inr rfl) (pe_op op_mod (pe_op op_add (pv 6) pe_int) (pv 2)))
  (pss_cons (ps_if (PW.pt (pw_and (pt_cmpR op_eq (pv 3) pe_int (nomark _)) (pw_and1 (pt_cmpR op_gt (pv 2) pe_int (nomark _)))))
  (pss_one (ps_expr (pe_bm PySem.F.plainAttrs_list PySem.F.slot_list_append PySem.F.type_list_append mt_append (pv 5) (pa_cons (pe_tup (pa_cons (pv 6) (pa_cons (pe_op op_add (pe_op op_mul (pe_op op_fdiv (pv 6) pe_int) pe_int) (pe_op op_mod (pe_op op_add (pv 6) pe_int) pe_int)) pa_nil))) pa_nil))))
  (pss_one (ps_if (pt_cmpR op_gt (pv 3) pe_int (nomark _))
  (pss_one (ps_expr (pe_bm PySem.F.plainAttrs_list PySem.F.slot_list_append PySem.F.type_list_append mt_append (pv 5) (pa_cons (pe_tup (pa_cons (pv 6) (pa_cons (pv 7) pa_nil))) pa_nil))))
  pss_nil)))
  (pss_one (ps_if (pt_cmpR op_eq (pv 3) pe_int (nomark _))
  (pss_one (ps_expr (pe_bm PySem.F.plainAttrs_list PySem.F.slot_list_append PySem.F.type_list_append mt_append (pv 5) (pa_cons (pe_tup (pa_cons (pv 7) (pa_cons (pv 6) pa_nil))) pa_nil))))
  pss_nil)))))
  (pss_cons (ps_for hpo rfl (pi_range1 rfl B.range (pa_cons pe_int pa_nil)) (pg_name (i := 6) nd rfl (by first | exact Or.inl rfl | exact Or.inr rfl))
  (pss_cons (ps_set (i := 8) nd rfl (by first | exact Or.inl rfl | exact Or.inr rfl) (pe_callF c_law_cell_at hr rfl (pa_cons (pv 0) (pa_cons (pe_op op_add (pv 1) (pv 6)) pa_nil))))
  (pss_one (ps_if (PW.pt (pw_or (pt_cmpR op_eq (pv 3) pe_int (nomark _)) (pw_or1 (pt_cmpR op_eq (pe_op op_mod (pv 8) pe_int) pe_int (nomark _)))))
  (pss_cons (ps_set (i := 9) nd rfl (by first | exact Or.inl rfl | exact Or.inr rfl) (pe_op op_mod (pe_callF c_law_mixed hr rfl (pa_cons (pv 8) (pa_cons pe_int pa_nil))) (pv 2)))
  (pss_cons (ps_set (i := 10) nd rfl (by first | exact Or.inl rfl | exact Or.inr rfl) (pe_op op_mod (pe_callF c_law_mixed hr rfl (pa_cons (pv 8) (pa_cons pe_int pa_nil))) (pe_op op_sub (pv 2) pe_int)))
  (pss_cons (ps_if (pt_val (pv 4))
  (pss_cons (ps_set (i := 9) nd rfl (by first | exact Or.inl rfl | exact Or.inr rfl) (pe_op op_mod (pe_op op_mod (pe_op op_fdiv (pv 8) pe_int) pe_int) (pv 2)))
  (pss_one (ps_set (i := 10) nd rfl (by first | exact Or.inl rfl | exact Or.inr rfl) (pe_op op_mod (pe_op op_mod (pe_op op_fdiv (pv 8) pe_int) pe_int) (pe_op op_sub (pv 2) pe_int)))))
  pss_nil)
  (pss_one (ps_expr (pe_bm PySem.F.plainAttrs_list PySem.F.slot_list_append PySem.F.type_list_append mt_append (pv 5) (pa_cons (pe_tup (pa_cons (pv 9) (pa_cons (pe_op op_mod (pe_op op_add (pe_op op_add (pv 9) pe_int) (pv 10)) (pv 2)) pa_nil))) pa_nil)))))))
  pss_nil))))
  (pss_cons (ps_set (i := 11) nd rfl (by first | exact Or.inl rfl | exact Or.inr rfl) (pe_lst pa_nil))
  (pss_cons (ps_for hpo rfl (pi_list (pv 5)) (pg_tup rfl (pgs_cons (pg_name (i := 9) nd rfl (by first | exact Or.inl rfl | exact Or.inr rfl)) (pgs_cons (pg_name (i := 12) nd rfl (by first | exact Or.inl rfl | exact Or.inr rfl)) pgs_nil)))
  (pss_one (ps_if (PW.pt (pw_and (pt_cmpR (op_notInD hu) (pe_tup (pa_cons (pv 9) (pa_cons (pv 12) pa_nil))) (pv 11) (by with_unfolding_all rfl)) (pw_and (pt_cmpR op_lt (pv 12) (pv 2) (nomark _)) (pw_and1 (pt_cmpR op_lt (pe_callB call_len_seq rfl B.len bb_len (pa_cons (pv 11) pa_nil)) pe_int (nomark _))))))
  (pss_one (ps_expr (pe_bm PySem.F.plainAttrs_list PySem.F.slot_list_append PySem.F.type_list_append mt_append (pv 11) (pa_cons (pe_tup (pa_cons (pv 9) (pa_cons (pv 12) pa_nil))) pa_nil))))
  pss_nil)))
  (pss_one (ps_ret (pv 11)))))))), (rd_pairs2 rfl h)⟩
theorem ok_law_pace (F : FunAt K mg "_law_pace" (top 18) ["_law_cell", "_law_kind"]) (B : Blt mg) (c_law_lowest : FnC P w K mg base CX0 2 "_law_lowest" ["_law_top", "_law_bottom"] (spLowP K)) : FnC P w K mg base CX0 3 "_law_pace" ["_law_cell", "_law_kind"] (spPace2 K) := by
  refine F.ok sc_law_pace (fun vs H Q E h => len_pace2 h) (fun f cdv A outer s H vs Q E hr h => ?_)
  have nd := sc_law_pace.nd
  have hpo := fun {M A env} => @PassesOwn.never M A env
  have hu := hr.units
  have hu1 := Nat.lt_of_le_of_lt (Nat.add_le_add_left (by decide : 1 ≤ 64) _) hu
  have own : OwnFr (cxOf CX0 P w K mg base ["_law_cell", "_law_kind"] "_law_pace" (defScope (top 18)) f cdv A outer s H E).nox := ⟨rfl, rfl, rfl⟩
  exact ⟨t_pace2 K, (pss_cons (ps_if (pt_cmpR op_eq (pv 1) pe_int (nomark _))
  (pss_one (ps_ret (pe_tup (pa_cons pe_int (pa_cons pe_int pa_nil)))))
  pss_nil)
  (pss_cons (ps_if (pt_cmpR op_eq (pv 1) pe_int (nomark _))
  (pss_one (ps_ret (pe_callF c_law_lowest hr rfl (pa_cons (pe_op op_add pe_int (pe_op op_mod (pv 0) pe_int)) (pa_cons (pe_op op_add pe_int (pe_op op_mod (pe_op op_fdiv (pv 0) pe_int) pe_int)) pa_nil)))))
  pss_nil)
  (pss_one (ps_ret (pe_callF c_law_lowest hr rfl (pa_cons (pe_op op_add pe_int (pe_op op_mod (pv 0) (pe_op op_pow pe_int pe_int))) (pa_cons (pe_op op_add pe_int (pe_op op_mod (pe_op op_fdiv (pv 0) (pe_op op_pow pe_int pe_int)) (pe_op op_pow pe_int pe_int))) pa_nil))))))), (rd_pace2 rfl h)⟩
theorem ok_law_vessel (F : FunAt K mg "_law_vessel" (top 19) ["_law_script", "_law_at"]) (B : Blt mg) (c_law_mixed : FnC P w K mg base CX0 3 "_law_mixed" ["_law_cell", "_law_place"] spMix2) (c_law_pool : FnC P w K mg base CX0 3 "_law_pool" ["_law_script", "_law_at", "_law_many", "_law_size", "_law_top", "_law_plain"] (spPool2 K)) (c_law_pairs : FnC P w K mg base CX0 3 "_law_pairs" ["_law_script", "_law_at", "_law_size", "_law_kind", "_law_plain"] (spPairs2 K)) (c_law_cell_at : FnC P w K mg base CX0 3 "_law_cell_at" ["_law_script", "_law_k"] (spCell K)) (c_law_words : FnC P w K mg base CX0 3 "_law_words" ["_law_number", "_law_many"] (spWords2 K)) (c_law_pace : FnC P w K mg base CX0 3 "_law_pace" ["_law_cell", "_law_kind"] (spPace2 K)) : FnC P w K mg base CX0 4 "_law_vessel" ["_law_script", "_law_at"] (spVes2 K) := by
  refine F.ok sc_law_vessel (fun vs H Q E h => len_ves2 h) (fun f cdv A outer s H vs Q E hr h => ?_)
  have nd := sc_law_vessel.nd
  have hpo := fun {M A env} => @PassesOwn.never M A env
  have hu := hr.units
  have hu1 := Nat.lt_of_le_of_lt (Nat.add_le_add_left (by decide : 1 ≤ 64) _) hu
  have own : OwnFr (cxOf CX0 P w K mg base ["_law_script", "_law_at", "_law_number", "_law_many", "_law_top", "_law_plain", "_law_pool_here", "_law_pairs_here", "_law_rows", "_law_k", "_law_cell", "_law_one", "_law_two"] "_law_vessel" (defScope (top 19)) f cdv A outer s H E).nox := ⟨rfl, rfl, rfl⟩
  exact ⟨t_ves2 K, (pss_cons (ps_set (i := 2) nd rfl (by first | exact Or.inl rfl | exact Or.inr rfl) (pe_callF c_law_mixed hr rfl (pa_cons (pe_callF c_law_cell_at hr rfl (pa_cons (pv 0) (pa_cons (pv 1) pa_nil))) (pa_cons pe_int pa_nil))))
  (pss_cons (ps_set (i := 3) nd rfl (by first | exact Or.inl rfl | exact Or.inr rfl) (pe_op op_add pe_int (pe_op op_mod (pv 2) pe_int)))
  (pss_cons (ps_set (i := 4) nd rfl (by first | exact Or.inl rfl | exact Or.inr rfl) (pe_op op_add pe_int (pe_op op_mod (pe_op op_fdiv (pv 2) pe_int) pe_int)))
  (pss_cons (ps_set (i := 5) nd rfl (by first | exact Or.inl rfl | exact Or.inr rfl) (pe_cmpR op_eq (pe_op op_mod (pe_op op_fdiv (pv 2) pe_int) pe_int) pe_int (nomark _)))
  (pss_cons (ps_set (i := 6) nd rfl (by first | exact Or.inl rfl | exact Or.inr rfl) (pe_callF c_law_pool hr rfl (pa_cons (pv 0) (pa_cons (pe_op op_add (pv 1) pe_int) (pa_cons (pv 3) (pa_cons (pe_op op_add pe_int (pe_op op_mod (pe_op op_fdiv (pv 2) pe_int) pe_int)) (pa_cons (pv 4) (pa_cons (pv 5) pa_nil))))))))
  (pss_cons (ps_set (i := 7) nd rfl (by first | exact Or.inl rfl | exact Or.inr rfl) (pe_callF c_law_pairs hr rfl (pa_cons (pv 0) (pa_cons (pe_op op_add (pv 1) pe_int) (pa_cons (pe_callB call_len_seq rfl B.len bb_len (pa_cons (pv 6) pa_nil)) (pa_cons (pe_op op_mod (pe_op op_fdiv (pv 2) pe_int) pe_int) (pa_cons (pv 5) pa_nil)))))))
  (pss_cons (ps_set (i := 8) nd rfl (by first | exact Or.inl rfl | exact Or.inr rfl) (pe_lst pa_nil))
  (pss_cons (ps_for hpo rfl (pi_range1 rfl B.range (pa_cons (pe_callB call_len_seq rfl B.len bb_len (pa_cons (pv 7) pa_nil)) pa_nil)) (pg_name (i := 9) nd rfl (by first | exact Or.inl rfl | exact Or.inr rfl))
  (pss_cons (ps_set (i := 10) nd rfl (by first | exact Or.inl rfl | exact Or.inr rfl) (pe_callF c_law_cell_at hr rfl (pa_cons (pv 0) (pa_cons (pe_op op_add (pe_op op_add (pv 1) pe_int) (pv 9)) pa_nil))))
  (pss_cons (ps_asg (pe_ix ix_list (pv 7) (pv 9) (fun _ _ => rfl)) (pg_tup rfl (pgs_cons (pg_name (i := 11) nd rfl (by first | exact Or.inl rfl | exact Or.inr rfl)) (pgs_cons (pg_name (i := 12) nd rfl (by first | exact Or.inl rfl | exact Or.inr rfl)) pgs_nil))))
  (pss_one (ps_expr (pe_bm PySem.F.plainAttrs_list PySem.F.slot_list_append PySem.F.type_list_append mt_append (pv 8) (pa_cons (pe_tup (pa_cons (pe_ix ix_list (pv 6) (pv 11) (fun _ _ => rfl)) (pa_cons (pe_ix ix_list (pv 6) (pv 12) (fun _ _ => rfl)) (pa_cons (pe_callF c_law_pace hr rfl (pa_cons (pe_op op_fdiv (pv 10) pe_int) (pa_cons (pe_op op_mod (pe_op op_fdiv (pv 2) pe_int) pe_int) pa_nil))) pa_nil)))) pa_nil)))))))
  (pss_one (ps_ret (pe_tup (pa_cons (pe_callF c_law_words hr rfl (pa_cons (pe_op op_fdiv (pv 2) pe_int) (pa_cons (pv 3) pa_nil))) (pa_cons (pe_callTy call_tuple_of rfl B.tuple bb_tuple (pa_cons (pv 8) pa_nil)) pa_nil))))))))))))), (rd_ves2 rfl h)⟩
theorem ok_law_count (F : FunAt K mg "_law_count" (top 20) ["_law_cell", "_law_many", "_law_size"]) (B : Blt mg) (c_law_mixed : FnC P w K mg base CX0 1 "_law_mixed" ["_law_cell", "_law_place"] spMix2) : FnC P w K mg base CX0 2 "_law_count" ["_law_cell", "_law_many", "_law_size"] (spCount K) := by
  refine F.ok sc_law_count (fun vs H Q E h => len_count h) (fun f cdv A outer s H vs Q E hr h => ?_)
  have nd := sc_law_count.nd
  have hpo := fun {M A env} => @PassesOwn.never M A env
  have hu := hr.units
  have hu1 := Nat.lt_of_le_of_lt (Nat.add_le_add_left (by decide : 1 ≤ 64) _) hu
  have own : OwnFr (cxOf CX0 P w K mg base ["_law_cell", "_law_many", "_law_size", "_law_found", "_law_number", "_law_k"] "_law_count" (defScope (top 20)) f cdv A outer s H E).nox := ⟨rfl, rfl, rfl⟩
  exact ⟨t_count K, (pss_cons (ps_set (i := 3) nd rfl (by first | exact Or.inl rfl | exact Or.inr rfl) (pe_lst pa_nil))
  (pss_cons (ps_set (i := 4) nd rfl (by first | exact Or.inl rfl | exact Or.inr rfl) (pe_op op_fdiv (pv 0) pe_int))
  (pss_cons (ps_for hpo rfl (pi_range1 rfl B.range (pa_cons (pv 1) pa_nil)) (pg_name (i := 5) nd rfl (by first | exact Or.inl rfl | exact Or.inr rfl))
  (pss_one (ps_if (pt_cmpR op_eq (pe_op op_mod (pv 0) pe_int) pe_int (nomark _))
  (pss_cons (ps_expr (pe_bm PySem.F.plainAttrs_list PySem.F.slot_list_append PySem.F.type_list_append mt_append (pv 3) (pa_cons (pe_op op_mod (pv 4) (pv 2)) pa_nil)))
  (pss_one (ps_set (i := 4) nd rfl (by first | exact Or.inl rfl | exact Or.inr rfl) (pe_op op_fdivW (pv 4) (pv 2)))))
  (pss_one (ps_expr (pe_bm PySem.F.plainAttrs_list PySem.F.slot_list_append PySem.F.type_list_append mt_append (pv 3) (pa_cons (pe_op op_mod (pe_callF c_law_mixed hr rfl (pa_cons (pv 0) (pa_cons (pe_op op_add pe_int (pv 5)) pa_nil))) (pv 2)) pa_nil)))))))
  (pss_one (ps_ret (pe_callTy call_tuple_of rfl B.tuple bb_tuple (pa_cons (pv 3) pa_nil))))))), (rd_count rfl h)⟩
theorem ok_law_can (F : FunAt K mg "_law_can" (top 21) ["_law_turning", "_law_count_here"]) (B : Blt mg)  : FnC P w K mg base CX0 1 "_law_can" ["_law_turning", "_law_count_here"] (spCan K) := by
  refine F.ok sc_law_can (fun vs H Q E h => len_can h) (fun f cdv A outer s H vs Q E hr h => ?_)
  have nd := sc_law_can.nd
  have hpo := fun {M A env} => @PassesOwn.never M A env
  have hu := hr.units
  have hu1 := Nat.lt_of_le_of_lt (Nat.add_le_add_left (by decide : 1 ≤ 64) _) hu
  have own : OwnFr (cxOf CX0 P w K mg base ["_law_turning", "_law_count_here"] "_law_can" (defScope (top 21)) f cdv A outer s H E).nox := ⟨rfl, rfl, rfl⟩
  exact ⟨t_can K, (pss_one (ps_ret (pe_cmpR op_eq (pe_callB call_len_seq rfl B.len bb_len (pa_cons (pe_lcF ["_law_one", "_law_here"] ["_law_turning", "_law_count_here"] (by show CompS (defScope (top 21)) ["_law_turning", "_law_count_here"] ["_law_turning", "_law_count_here"] _ _; exact ⟨rfl, by decide +kernel, by decide +kernel, by decide +kernel, by decide +kernel, rfl, by decide +kernel, by decide +kernel, by decide +kernel⟩) rfl (pi_zip (k1 := .T) (k2 := .T) rfl B.zip (pa_cons (pe_ix ix_tup (pv 0) pe_int (fun _ _ => rfl)) (pa_cons (pv 1) pa_nil))) (fun _ _ _ _ _ => (pg_tup rfl (pgs_cons (pg_name (i := 0) (show (["_law_one", "_law_here", "_law_turning", "_law_count_here"] : List Str).Nodup by decide +kernel) rfl (by first | exact Or.inl rfl | exact Or.inr rfl)) (pgs_cons (pg_name (i := 1) (show (["_law_one", "_law_here", "_law_turning", "_law_count_here"] : List Str).Nodup by decide +kernel) rfl (by first | exact Or.inl rfl | exact Or.inr rfl)) pgs_nil)))) (fun _ _ _ _ _ => (pt_cmpR op_lt (pv 1) (pv 0) (nomark _))) (fun _ _ _ _ _ => pe_int)) pa_nil)) pe_int (nomark _)))), (rd_can rfl h)⟩
theorem ok_law_behind (F : FunAt K mg "_law_behind" (top 22) ["_law_turning", "_law_count_here"]) (B : Blt mg)  : FnC P w K mg base CX0 1 "_law_behind" ["_law_turning", "_law_count_here"] (spBehind K) := by
  refine F.ok sc_law_behind (fun vs H Q E h => len_behind h) (fun f cdv A outer s H vs Q E hr h => ?_)
  have nd := sc_law_behind.nd
  have hpo := fun {M A env} => @PassesOwn.never M A env
  have hu := hr.units
  have hu1 := Nat.lt_of_le_of_lt (Nat.add_le_add_left (by decide : 1 ≤ 64) _) hu
  have own : OwnFr (cxOf CX0 P w K mg base ["_law_turning", "_law_count_here"] "_law_behind" (defScope (top 22)) f cdv A outer s H E).nox := ⟨rfl, rfl, rfl⟩
  exact ⟨t_behind K, (pss_one (ps_ret (pe_callTy call_tuple_of rfl B.tuple bb_tuple (pa_cons (pe_lcN ["_law_one", "_law_two", "_law_here"] ["_law_turning", "_law_count_here"] (by show CompS (defScope (top 22)) ["_law_turning", "_law_count_here"] ["_law_turning", "_law_count_here"] _ _; exact ⟨rfl, by decide +kernel, by decide +kernel, by decide +kernel, by decide +kernel, rfl, by decide +kernel, by decide +kernel, by decide +kernel⟩) rfl (pi_zip3 rfl B.zip (pa_cons (pe_ix ix_tup (pv 0) pe_int (fun _ _ => rfl)) (pa_cons (pe_ix ix_tup (pv 0) pe_int (fun _ _ => rfl)) (pa_cons (pv 1) pa_nil)))) (fun _ _ _ _ _ => (pg_tup rfl (pgs_cons (pg_name (i := 0) (show (["_law_one", "_law_two", "_law_here", "_law_turning", "_law_count_here"] : List Str).Nodup by decide +kernel) rfl (by first | exact Or.inl rfl | exact Or.inr rfl)) (pgs_cons (pg_name (i := 1) (show (["_law_one", "_law_two", "_law_here", "_law_turning", "_law_count_here"] : List Str).Nodup by decide +kernel) rfl (by first | exact Or.inl rfl | exact Or.inr rfl)) (pgs_cons (pg_name (i := 2) (show (["_law_one", "_law_two", "_law_here", "_law_turning", "_law_count_here"] : List Str).Nodup by decide +kernel) rfl (by first | exact Or.inl rfl | exact Or.inr rfl)) pgs_nil))))) (fun _ _ _ _ _ => (pe_op op_add (pe_op op_sub (pv 2) (pv 0)) (pv 1)))) pa_nil)))), (rd_behind rfl h)⟩
theorem ok_law_counts (F : FunAt K mg "_law_counts" (top 23) ["_law_vessel_here", "_law_count_here", "_law_cells"]) (B : Blt mg) (c_law_can : FnC P w K mg base CX0 1 "_law_can" ["_law_turning", "_law_count_here"] (spCan K)) (c_law_behind : FnC P w K mg base CX0 1 "_law_behind" ["_law_turning", "_law_count_here"] (spBehind K)) : FnC P w K mg base CX0 2 "_law_counts" ["_law_vessel_here", "_law_count_here", "_law_cells"] (spCounts K) := by
  refine F.ok sc_law_counts (fun vs H Q E h => len_counts h) (fun f cdv A outer s H vs Q E hr h => ?_)
  have nd := sc_law_counts.nd
  have hpo := fun {M A env} => @PassesOwn.never M A env
  have hu := hr.units
  have hu1 := Nat.lt_of_le_of_lt (Nat.add_le_add_left (by decide : 1 ≤ 64) _) hu
  have own : OwnFr (cxOf CX0 P w K mg base ["_law_vessel_here", "_law_count_here", "_law_cells", "_law_found", "_law_cell", "_law_can_here"] "_law_counts" (defScope (top 23)) f cdv A outer s H E).nox := ⟨rfl, rfl, rfl⟩
  exact ⟨t_counts K, (pss_cons (ps_set (i := 3) nd rfl (by first | exact Or.inl rfl | exact Or.inr rfl) (pe_lst (pa_cons (pv 1) pa_nil)))
  (pss_cons (ps_for hpo rfl (pi_list (pv 2)) (pg_name (i := 4) nd rfl (by first | exact Or.inl rfl | exact Or.inr rfl))
  (pss_cons (ps_lcF (i := 5) ["_law_turning"] ["_law_vessel_here", "_law_count_here", "_law_cells", "_law_found", "_law_cell", "_law_can_here"] nd rfl rfl (by show CompS (defScope (top 23)) ["_law_vessel_here", "_law_count_here", "_law_cells", "_law_found", "_law_cell", "_law_can_here"] ["_law_vessel_here", "_law_count_here", "_law_cells", "_law_found", "_law_cell", "_law_can_here"] _ _; exact ⟨rfl, by decide +kernel, by decide +kernel, by decide +kernel, by decide +kernel, rfl, by decide +kernel, by decide +kernel, by decide +kernel⟩) rfl (pi_tup (pe_ix ix_tup (pv 0) pe_int (fun _ _ => rfl))) (fun _ _ _ _ _ => (pg_name (i := 0) (show (["_law_turning", "_law_vessel_here", "_law_count_here", "_law_cells", "_law_found", "_law_cell", "_law_can_here"] : List Str).Nodup by decide +kernel) rfl (by first | exact Or.inl rfl | exact Or.inr rfl))) (fun _ _ _ _ _ => (pt_val (pe_callF c_law_can hr rfl (pa_cons (pv 0) (pa_cons (pe_ix ix_list (pv 4) (pe_un un_neg pe_int) (fun _ _ => rfl)) pa_nil))))) (fun _ _ _ _ _ => (pv 0)))
  (pss_one (ps_if (pt_cmpR op_gt (pe_callB call_len_seq rfl B.len bb_len (pa_cons (pv 5) pa_nil)) pe_int (nomark _))
  (pss_one (ps_expr (pe_bm PySem.F.plainAttrs_list PySem.F.slot_list_append PySem.F.type_list_append mt_append (pv 3) (pa_cons (pe_callF c_law_behind hr rfl (pa_cons (pe_ix ix_list (pv 5) (pe_op op_mod (pv 4) (pe_callB call_len_seq rfl B.len bb_len (pa_cons (pv 5) pa_nil))) (fun _ _ => rfl)) (pa_cons (pe_ix ix_list (pv 3) (pe_un un_neg pe_int) (fun _ _ => rfl)) pa_nil))) pa_nil))))
  pss_nil))))
  (pss_one (ps_ret (pv 3))))), (rd_counts rfl h)⟩
theorem ok_law {f : Addr} {fd : FuncData} (F : Fun K "law" "law" (top 24) f fd) (B : Blt mg) (c_law_vessel : FnC P w K mg base CX0 4 "_law_vessel" ["_law_script", "_law_at"] (spVes2 K)) (c_law_count : FnC P w K mg base CX0 4 "_law_count" ["_law_cell", "_law_many", "_law_size"] (spCount K)) (c_drains : FnC P w K mg base CX0 4 "drains" ["vessel"] (spDrains K)) (c_traps : FnC P w K mg base CX0 4 "traps" ["vessel"] (spTraps K)) (c_law_cell_at : FnC P w K mg base CX0 4 "_law_cell_at" ["_law_script", "_law_k"] (spCell K)) (c_law_counts : FnC P w K mg base CX0 4 "_law_counts" ["_law_vessel_here", "_law_count_here", "_law_cells"] (spCounts K)) : FnOk P w K mg base CX0 5 f fd ["_law_script"] (spLaw K) := by
  refine F.ok sc_law (fun vs H Q E h => ?_) (fun cdv A outer s H vs Q E hr h => ?_)
  · obtain ⟨a, ns, rfl, _⟩ := h
    rfl
  have nd := sc_law.nd
  have hpo := fun {M A env} => @PassesOwn.never M A env
  have hu := hr.units
  have hu1 := Nat.lt_of_le_of_lt (Nat.add_le_add_left (by decide : 1 ≤ 64) _) hu
  exact ⟨t_law K, (pss_cons (ps_set (i := 1) nd rfl (by first | exact Or.inl rfl | exact Or.inr rfl) (pe_callF c_law_vessel hr rfl (pa_cons (pv 0) (pa_cons pe_int pa_nil))))
  (pss_cons (ps_set (i := 2) nd rfl (by first | exact Or.inl rfl | exact Or.inr rfl) (pe_callB call_len_seq rfl B.len bb_len (pa_cons (pe_ix ix_tup (pv 1) pe_int (fun _ _ => rfl)) pa_nil)))
  (pss_cons (ps_set (i := 3) nd rfl (by first | exact Or.inl rfl | exact Or.inr rfl) (pe_ix ix_list (pe_lst (pa_cons pe_int (pa_cons pe_int (pa_cons (pe_op op_pow pe_int pe_int) pa_nil)))) (pe_op op_mod (pe_callF c_law_cell_at hr rfl (pa_cons (pv 0) (pa_cons pe_int pa_nil))) pe_int) (fun _ _ => rfl)))
  (pss_cons (ps_set (i := 4) nd rfl (by first | exact Or.inl rfl | exact Or.inr rfl) (pe_callF c_law_count hr rfl (pa_cons (pe_callF c_law_cell_at hr rfl (pa_cons (pv 0) (pa_cons pe_int pa_nil))) (pa_cons (pv 2) (pa_cons (pv 3) pa_nil)))))
  (pss_cons (ps_if (pt_cmpR op_gt (pv 3) pe_int (nomark _))
  (pss_one (ps_set (i := 4) nd rfl (by first | exact Or.inl rfl | exact Or.inr rfl) (pe_callTy call_tuple_of rfl B.tuple bb_tuple (pa_cons (pe_lc (M := ["_law_script", "_law_vessel_here", "_law_many", "_law_size", "_law_count_here", "_law_some", "_law_first", "_law_later"]) (by show CompS (defScope (top 24)) ["_law_script", "_law_vessel_here", "_law_many", "_law_size", "_law_count_here", "_law_some", "_law_first", "_law_later"] ["_law_script", "_law_vessel_here", "_law_many", "_law_size", "_law_count_here", "_law_some", "_law_first", "_law_later"] _ _; exact ⟨rfl, by decide +kernel, by decide +kernel, by decide +kernel, by decide +kernel, rfl, by decide +kernel, by decide +kernel, by decide +kernel⟩) nd rfl (pi_tup (pv 4)) (fun _ _ _ _ _ => (pe_op op_add (pe_op op_mul (pe_op op_mod (pv 0) (pe_op op_pow pe_int pe_int)) (pe_op op_pow pe_int pe_int)) (pe_op op_mod (pe_callF c_law_cell_at hr rfl (pa_cons (pv 1) (pa_cons pe_int pa_nil))) (pe_op op_pow pe_int pe_int))))) pa_nil))))
  pss_nil)
  (pss_cons (ps_for hpo rfl (pi_list (pe_callF c_drains hr rfl (pa_cons (pv 1) pa_nil))) (pg_name (i := 5) nd rfl (by first | exact Or.inl rfl | exact Or.inr rfl))
  (pss_cons (ps_set (i := 6) nd rfl (by first | exact Or.inl rfl | exact Or.inr rfl) (pe_callTy call_tuple_of rfl B.tuple bb_tuple (pa_cons (pe_lc (M := ["_law_script", "_law_vessel_here", "_law_many", "_law_size", "_law_count_here", "_law_some", "_law_first", "_law_later"]) (by show CompS (defScope (top 24)) ["_law_script", "_law_vessel_here", "_law_many", "_law_size", "_law_count_here", "_law_some", "_law_first", "_law_later"] ["_law_script", "_law_vessel_here", "_law_many", "_law_size", "_law_count_here", "_law_some", "_law_first", "_law_later"] _ _; exact ⟨rfl, by decide +kernel, by decide +kernel, by decide +kernel, by decide +kernel, rfl, by decide +kernel, by decide +kernel, by decide +kernel⟩) nd rfl (pi_range1 rfl B.range (pa_cons (pv 2) pa_nil)) (fun _ _ _ _ _ => (pe_op op_mul (pe_ix ix_tup (pv 5) (pv 0) (fun _ _ => rfl)) (pe_callTy call_int1 rfl B.int bb_int (pa_cons (pe_cmpR op_notIn_seq (pv 0) (pv 6) (by with_unfolding_all rfl)) pa_nil))))) pa_nil)))
  (pss_one (ps_for hpo rfl (pi_list (pe_callF c_law_counts hr rfl (pa_cons (pv 1) (pa_cons (pv 6) (pa_cons (pe_slice sl_list (pv 0) (po_some pe_int) (po_some pe_int)) pa_nil))))) (pg_name (i := 7) nd rfl (by first | exact Or.inl rfl | exact Or.inr rfl))
  (pss_one (ps_if (pt_cmpR op_ne (pe_callB (call_sumL rfl) rfl B.sum bb_sum (pa_cons (pe_lc (M := ["_law_script", "_law_vessel_here", "_law_many", "_law_size", "_law_count_here", "_law_some", "_law_first", "_law_later"]) (by show CompS (defScope (top 24)) ["_law_script", "_law_vessel_here", "_law_many", "_law_size", "_law_count_here", "_law_some", "_law_first", "_law_later"] ["_law_script", "_law_vessel_here", "_law_many", "_law_size", "_law_count_here", "_law_some", "_law_first", "_law_later"] _ _; exact ⟨rfl, by decide +kernel, by decide +kernel, by decide +kernel, by decide +kernel, rfl, by decide +kernel, by decide +kernel, by decide +kernel⟩) nd rfl (pi_tup (pv 5)) (fun _ _ _ _ _ => (pe_ix ix_tup (pv 8) (pv 0) (fun _ _ => rfl)))) pa_nil)) pe_int (nomark _))
  (pss_one (ps_ret pe_bl))
  pss_nil))))))
  (pss_cons (ps_for hpo rfl (pi_list (pe_callF c_traps hr rfl (pa_cons (pv 1) pa_nil))) (pg_name (i := 5) nd rfl (by first | exact Or.inl rfl | exact Or.inr rfl))
  (pss_cons (ps_set (i := 6) nd rfl (by first | exact Or.inl rfl | exact Or.inr rfl) (pe_callTy call_tuple_of rfl B.tuple bb_tuple (pa_cons (pe_lc (M := ["_law_script", "_law_vessel_here", "_law_many", "_law_size", "_law_count_here", "_law_some", "_law_first", "_law_later"]) (by show CompS (defScope (top 24)) ["_law_script", "_law_vessel_here", "_law_many", "_law_size", "_law_count_here", "_law_some", "_law_first", "_law_later"] ["_law_script", "_law_vessel_here", "_law_many", "_law_size", "_law_count_here", "_law_some", "_law_first", "_law_later"] _ _; exact ⟨rfl, by decide +kernel, by decide +kernel, by decide +kernel, by decide +kernel, rfl, by decide +kernel, by decide +kernel, by decide +kernel⟩) nd rfl (pi_range1 rfl B.range (pa_cons (pv 2) pa_nil)) (fun _ _ _ _ _ => (pe_op op_add (pe_ix ix_tup (pv 5) (pv 0) (fun _ _ => rfl)) (pe_callTy call_int1 rfl B.int bb_int (pa_cons (pe_cmpR op_eq (pv 0) (pe_ix ix_tup (pv 6) (pe_un un_neg pe_int) (fun _ _ => rfl)) (nomark _)) pa_nil))))) pa_nil)))
  (pss_one (ps_for hpo rfl (pi_list (pe_callF c_law_counts hr rfl (pa_cons (pv 1) (pa_cons (pv 6) (pa_cons (pe_slice sl_list (pv 0) (po_some pe_int) (po_some pe_int)) pa_nil))))) (pg_name (i := 7) nd rfl (by first | exact Or.inl rfl | exact Or.inr rfl))
  (pss_one (ps_if (pt_cmpR op_eq (pe_callB (call_sumL rfl) rfl B.sum bb_sum (pa_cons (pe_lc (M := ["_law_script", "_law_vessel_here", "_law_many", "_law_size", "_law_count_here", "_law_some", "_law_first", "_law_later"]) (by show CompS (defScope (top 24)) ["_law_script", "_law_vessel_here", "_law_many", "_law_size", "_law_count_here", "_law_some", "_law_first", "_law_later"] ["_law_script", "_law_vessel_here", "_law_many", "_law_size", "_law_count_here", "_law_some", "_law_first", "_law_later"] _ _; exact ⟨rfl, by decide +kernel, by decide +kernel, by decide +kernel, by decide +kernel, rfl, by decide +kernel, by decide +kernel, by decide +kernel⟩) nd rfl (pi_tup (pv 5)) (fun _ _ _ _ _ => (pe_ix ix_tup (pv 8) (pv 0) (fun _ _ => rfl)))) pa_nil)) pe_int (nomark _))
  (pss_one (ps_ret pe_bl))
  pss_nil))))))
  (pss_one (ps_ret pe_bl))))))))), (rd_law h)⟩
end
section
variable {P : Program} {w : World} {K : PySem.W.Frag} {mg : Str → Option Value} {base : Heap}
theorem ok_all {f : Addr} {fd : FuncData} (F : Fun K "law" "law" (top 24) f fd) (B : Blt mg) (F0 : FunAt K mg "sets_of" (top 1) ["size"]) (F1 : FunAt K mg "has_some" (top 2) ["heap", "stuffs"]) (F2 : FunAt K mg "is_drain" (top 3) ["vessel", "stuffs"]) (F3 : FunAt K mg "is_trap" (top 4) ["vessel", "stuffs"]) (F4 : FunAt K mg "lies_within" (top 5) ["smaller", "greater"]) (F5 : FunAt K mg "least_of" (top 6) ["sets"]) (F6 : FunAt K mg "drains" (top 7) ["vessel"]) (F7 : FunAt K mg "traps" (top 8) ["vessel"]) (F8 : FunAt K mg "_law_cell_at" (top 10) ["_law_script", "_law_k"]) (F9 : FunAt K mg "_law_mixed" (top 11) ["_law_cell", "_law_place"]) (F10 : FunAt K mg "_law_divisor" (top 12) ["_law_one", "_law_two"]) (F11 : FunAt K mg "_law_lowest" (top 13) ["_law_top", "_law_bottom"]) (F12 : FunAt K mg "_law_words" (top 14) ["_law_number", "_law_many"]) (F13 : FunAt K mg "_law_heap" (top 15) ["_law_cell", "_law_k", "_law_many", "_law_top", "_law_plain"]) (F14 : FunAt K mg "_law_pool" (top 16) ["_law_script", "_law_at", "_law_many", "_law_size", "_law_top", "_law_plain"]) (F15 : FunAt K mg "_law_pairs" (top 17) ["_law_script", "_law_at", "_law_size", "_law_kind", "_law_plain"]) (F16 : FunAt K mg "_law_pace" (top 18) ["_law_cell", "_law_kind"]) (F17 : FunAt K mg "_law_vessel" (top 19) ["_law_script", "_law_at"]) (F18 : FunAt K mg "_law_count" (top 20) ["_law_cell", "_law_many", "_law_size"]) (F19 : FunAt K mg "_law_can" (top 21) ["_law_turning", "_law_count_here"]) (F20 : FunAt K mg "_law_behind" (top 22) ["_law_turning", "_law_count_here"]) (F21 : FunAt K mg "_law_counts" (top 23) ["_law_vessel_here", "_law_count_here", "_law_cells"]) : FnOk P w K mg base CX0 5 f fd ["_law_script"] (spLaw K) := by
  have c_sets_of := ok_sets_of (P := P) (w := w) (base := base) F0 B 
  have c_has_some := ok_has_some (P := P) (w := w) (base := base) F1 B 
  have c_lies_within := ok_lies_within (P := P) (w := w) (base := base) F4 B 
  have c_law_cell_at := ok_law_cell_at (P := P) (w := w) (base := base) F8 B 
  have c_law_mixed := ok_law_mixed (P := P) (w := w) (base := base) F9 B 
  have c_law_divisor := ok_law_divisor (P := P) (w := w) (base := base) F10 B 
  have c_law_words := ok_law_words (P := P) (w := w) (base := base) F12 B 
  have c_law_can := ok_law_can (P := P) (w := w) (base := base) F19 B 
  have c_law_behind := ok_law_behind (P := P) (w := w) (base := base) F20 B 
  have c_is_drain := ok_is_drain (P := P) (w := w) (base := base) F2 B (c_has_some.mono (by decide : 1 ≤ 1))
  have c_is_trap := ok_is_trap (P := P) (w := w) (base := base) F3 B (c_has_some.mono (by decide : 1 ≤ 1))
  have c_least_of := ok_least_of (P := P) (w := w) (base := base) F5 B (c_lies_within.mono (by decide : 1 ≤ 1))
  have c_law_lowest := ok_law_lowest (P := P) (w := w) (base := base) F11 B (c_law_divisor.mono (by decide : 1 ≤ 1))
  have c_law_heap := ok_law_heap (P := P) (w := w) (base := base) F13 B (c_law_mixed.mono (by decide : 1 ≤ 1))
  have c_law_pairs := ok_law_pairs (P := P) (w := w) (base := base) F15 B (c_law_cell_at.mono (by decide : 1 ≤ 1)) (c_law_mixed.mono (by decide : 1 ≤ 1))
  have c_law_count := ok_law_count (P := P) (w := w) (base := base) F18 B (c_law_mixed.mono (by decide : 1 ≤ 1))
  have c_law_counts := ok_law_counts (P := P) (w := w) (base := base) F21 B (c_law_can.mono (by decide : 1 ≤ 1)) (c_law_behind.mono (by decide : 1 ≤ 1))
  have c_drains := ok_drains (P := P) (w := w) (base := base) F6 B (c_least_of.mono (by decide : 2 ≤ 2)) (c_sets_of.mono (by decide : 1 ≤ 2)) (c_is_drain.mono (by decide : 2 ≤ 2))
  have c_traps := ok_traps (P := P) (w := w) (base := base) F7 B (c_least_of.mono (by decide : 2 ≤ 2)) (c_sets_of.mono (by decide : 1 ≤ 2)) (c_is_trap.mono (by decide : 2 ≤ 2))
  have c_law_pool := ok_law_pool (P := P) (w := w) (base := base) F14 B (c_law_heap.mono (by decide : 2 ≤ 2)) (c_law_cell_at.mono (by decide : 1 ≤ 2))
  have c_law_pace := ok_law_pace (P := P) (w := w) (base := base) F16 B (c_law_lowest.mono (by decide : 2 ≤ 2))
  have c_law_vessel := ok_law_vessel (P := P) (w := w) (base := base) F17 B (c_law_mixed.mono (by decide : 1 ≤ 3)) (c_law_pool.mono (by decide : 3 ≤ 3)) (c_law_pairs.mono (by decide : 2 ≤ 3)) (c_law_cell_at.mono (by decide : 1 ≤ 3)) (c_law_words.mono (by decide : 1 ≤ 3)) (c_law_pace.mono (by decide : 3 ≤ 3))
  exact ok_law (P := P) (w := w) (base := base) F B (c_law_vessel.mono (by decide : 4 ≤ 4)) (c_law_count.mono (by decide : 2 ≤ 4)) (c_drains.mono (by decide : 3 ≤ 4)) (c_traps.mono (by decide : 3 ≤ 4)) (c_law_cell_at.mono (by decide : 1 ≤ 4)) (c_law_counts.mono (by decide : 2 ≤ 4))
end
theorem all_mk {l : PySem.W.OpenLaw} {w : World} {K : PySem.W.Frag} {h : Heap} {mg : Str → Option Value} {fa f0 f1 f2 f3 f4 f5 f6 f7 f8 f9 f10 f11 f12 f13 f14 f15 f16 f17 f18 f19 f20 f21 f22 : Addr} (X : K.In h) (G : h.Ns mainGlobals mg) (hfa : mg "law" = some (.ref fa))
    {od0 an0 od1 an1 od2 an2 od3 an3 od4 an4 od5 an5 od6 an6 od7 an7 od8 an8 od9 an9 od10 an10 od11 an11 od12 an12 od13 an13 od14 an14 od15 an15 od16 an16 od17 an17 od18 an18 od19 an19 od20 an20 od21 an21 od22 an22 : Option Addr} {sl0 sl1 sl2 sl3 sl4 sl5 sl6 sl7 sl8 sl9 sl10 sl11 sl12 sl13 sl14 sl15 sl16 sl17 sl18 sl19 sl20 sl21 sl22 : Array (Option Value)} {oc0 kV0 dc0 pm0 cd0 ct0 oc1 kV1 dc1 pm1 cd1 ct1 oc2 kV2 dc2 pm2 cd2 ct2 oc3 kV3 dc3 pm3 cd3 ct3 oc4 kV4 dc4 pm4 cd4 ct4 oc5 kV5 dc5 pm5 cd5 ct5 oc6 kV6 dc6 pm6 cd6 ct6 oc7 kV7 dc7 pm7 cd7 ct7 oc8 kV8 dc8 pm8 cd8 ct8 oc9 kV9 dc9 pm9 cd9 ct9 oc10 kV10 dc10 pm10 cd10 ct10 oc11 kV11 dc11 pm11 cd11 ct11 oc12 kV12 dc12 pm12 cd12 ct12 oc13 kV13 dc13 pm13 cd13 ct13 oc14 kV14 dc14 pm14 cd14 ct14 oc15 kV15 dc15 pm15 cd15 ct15 oc16 kV16 dc16 pm16 cd16 ct16 oc17 kV17 dc17 pm17 cd17 ct17 oc18 kV18 dc18 pm18 cd18 ct18 oc19 kV19 dc19 pm19 cd19 ct19 oc20 kV20 dc20 pm20 cd20 ct20 oc21 kV21 dc21 pm21 cd21 ct21 oc22 kV22 dc22 pm22 cd22 ct22 : Value}
    (a0 : PySem.W.nsIn K mainGlobals "sets_of" = some (some (.ref f0))) (l0 : K.lookup f0 = some ⟨oc0, od0, .func (PySem.W.fnOf "sets_of" "sets_of" (defArgs (top 1)) (defBody (top 1)) (defScope (top 1)) .none kV0 dc0 pm0 an0 cd0 ct0), sl0⟩) (c0 : PySem.W.codeIn K cd0 "sets_of" = true) (k0 : PySem.W.keepIn K (.ref f0) = true)
    (a1 : PySem.W.nsIn K mainGlobals "has_some" = some (some (.ref f1))) (l1 : K.lookup f1 = some ⟨oc1, od1, .func (PySem.W.fnOf "has_some" "has_some" (defArgs (top 2)) (defBody (top 2)) (defScope (top 2)) .none kV1 dc1 pm1 an1 cd1 ct1), sl1⟩) (c1 : PySem.W.codeIn K cd1 "has_some" = true) (k1 : PySem.W.keepIn K (.ref f1) = true)
    (a2 : PySem.W.nsIn K mainGlobals "is_drain" = some (some (.ref f2))) (l2 : K.lookup f2 = some ⟨oc2, od2, .func (PySem.W.fnOf "is_drain" "is_drain" (defArgs (top 3)) (defBody (top 3)) (defScope (top 3)) .none kV2 dc2 pm2 an2 cd2 ct2), sl2⟩) (c2 : PySem.W.codeIn K cd2 "is_drain" = true) (k2 : PySem.W.keepIn K (.ref f2) = true)
    (a3 : PySem.W.nsIn K mainGlobals "is_trap" = some (some (.ref f3))) (l3 : K.lookup f3 = some ⟨oc3, od3, .func (PySem.W.fnOf "is_trap" "is_trap" (defArgs (top 4)) (defBody (top 4)) (defScope (top 4)) .none kV3 dc3 pm3 an3 cd3 ct3), sl3⟩) (c3 : PySem.W.codeIn K cd3 "is_trap" = true) (k3 : PySem.W.keepIn K (.ref f3) = true)
    (a4 : PySem.W.nsIn K mainGlobals "lies_within" = some (some (.ref f4))) (l4 : K.lookup f4 = some ⟨oc4, od4, .func (PySem.W.fnOf "lies_within" "lies_within" (defArgs (top 5)) (defBody (top 5)) (defScope (top 5)) .none kV4 dc4 pm4 an4 cd4 ct4), sl4⟩) (c4 : PySem.W.codeIn K cd4 "lies_within" = true) (k4 : PySem.W.keepIn K (.ref f4) = true)
    (a5 : PySem.W.nsIn K mainGlobals "least_of" = some (some (.ref f5))) (l5 : K.lookup f5 = some ⟨oc5, od5, .func (PySem.W.fnOf "least_of" "least_of" (defArgs (top 6)) (defBody (top 6)) (defScope (top 6)) .none kV5 dc5 pm5 an5 cd5 ct5), sl5⟩) (c5 : PySem.W.codeIn K cd5 "least_of" = true) (k5 : PySem.W.keepIn K (.ref f5) = true)
    (a6 : PySem.W.nsIn K mainGlobals "drains" = some (some (.ref f6))) (l6 : K.lookup f6 = some ⟨oc6, od6, .func (PySem.W.fnOf "drains" "drains" (defArgs (top 7)) (defBody (top 7)) (defScope (top 7)) .none kV6 dc6 pm6 an6 cd6 ct6), sl6⟩) (c6 : PySem.W.codeIn K cd6 "drains" = true) (k6 : PySem.W.keepIn K (.ref f6) = true)
    (a7 : PySem.W.nsIn K mainGlobals "traps" = some (some (.ref f7))) (l7 : K.lookup f7 = some ⟨oc7, od7, .func (PySem.W.fnOf "traps" "traps" (defArgs (top 8)) (defBody (top 8)) (defScope (top 8)) .none kV7 dc7 pm7 an7 cd7 ct7), sl7⟩) (c7 : PySem.W.codeIn K cd7 "traps" = true) (k7 : PySem.W.keepIn K (.ref f7) = true)
    (a8 : PySem.W.nsIn K mainGlobals "_law_cell_at" = some (some (.ref f8))) (l8 : K.lookup f8 = some ⟨oc8, od8, .func (PySem.W.fnOf "_law_cell_at" "_law_cell_at" (defArgs (top 10)) (defBody (top 10)) (defScope (top 10)) .none kV8 dc8 pm8 an8 cd8 ct8), sl8⟩) (c8 : PySem.W.codeIn K cd8 "_law_cell_at" = true) (k8 : PySem.W.keepIn K (.ref f8) = true)
    (a9 : PySem.W.nsIn K mainGlobals "_law_mixed" = some (some (.ref f9))) (l9 : K.lookup f9 = some ⟨oc9, od9, .func (PySem.W.fnOf "_law_mixed" "_law_mixed" (defArgs (top 11)) (defBody (top 11)) (defScope (top 11)) .none kV9 dc9 pm9 an9 cd9 ct9), sl9⟩) (c9 : PySem.W.codeIn K cd9 "_law_mixed" = true) (k9 : PySem.W.keepIn K (.ref f9) = true)
    (a10 : PySem.W.nsIn K mainGlobals "_law_divisor" = some (some (.ref f10))) (l10 : K.lookup f10 = some ⟨oc10, od10, .func (PySem.W.fnOf "_law_divisor" "_law_divisor" (defArgs (top 12)) (defBody (top 12)) (defScope (top 12)) .none kV10 dc10 pm10 an10 cd10 ct10), sl10⟩) (c10 : PySem.W.codeIn K cd10 "_law_divisor" = true) (k10 : PySem.W.keepIn K (.ref f10) = true)
    (a11 : PySem.W.nsIn K mainGlobals "_law_lowest" = some (some (.ref f11))) (l11 : K.lookup f11 = some ⟨oc11, od11, .func (PySem.W.fnOf "_law_lowest" "_law_lowest" (defArgs (top 13)) (defBody (top 13)) (defScope (top 13)) .none kV11 dc11 pm11 an11 cd11 ct11), sl11⟩) (c11 : PySem.W.codeIn K cd11 "_law_lowest" = true) (k11 : PySem.W.keepIn K (.ref f11) = true)
    (a12 : PySem.W.nsIn K mainGlobals "_law_words" = some (some (.ref f12))) (l12 : K.lookup f12 = some ⟨oc12, od12, .func (PySem.W.fnOf "_law_words" "_law_words" (defArgs (top 14)) (defBody (top 14)) (defScope (top 14)) .none kV12 dc12 pm12 an12 cd12 ct12), sl12⟩) (c12 : PySem.W.codeIn K cd12 "_law_words" = true) (k12 : PySem.W.keepIn K (.ref f12) = true)
    (a13 : PySem.W.nsIn K mainGlobals "_law_heap" = some (some (.ref f13))) (l13 : K.lookup f13 = some ⟨oc13, od13, .func (PySem.W.fnOf "_law_heap" "_law_heap" (defArgs (top 15)) (defBody (top 15)) (defScope (top 15)) .none kV13 dc13 pm13 an13 cd13 ct13), sl13⟩) (c13 : PySem.W.codeIn K cd13 "_law_heap" = true) (k13 : PySem.W.keepIn K (.ref f13) = true)
    (a14 : PySem.W.nsIn K mainGlobals "_law_pool" = some (some (.ref f14))) (l14 : K.lookup f14 = some ⟨oc14, od14, .func (PySem.W.fnOf "_law_pool" "_law_pool" (defArgs (top 16)) (defBody (top 16)) (defScope (top 16)) .none kV14 dc14 pm14 an14 cd14 ct14), sl14⟩) (c14 : PySem.W.codeIn K cd14 "_law_pool" = true) (k14 : PySem.W.keepIn K (.ref f14) = true)
    (a15 : PySem.W.nsIn K mainGlobals "_law_pairs" = some (some (.ref f15))) (l15 : K.lookup f15 = some ⟨oc15, od15, .func (PySem.W.fnOf "_law_pairs" "_law_pairs" (defArgs (top 17)) (defBody (top 17)) (defScope (top 17)) .none kV15 dc15 pm15 an15 cd15 ct15), sl15⟩) (c15 : PySem.W.codeIn K cd15 "_law_pairs" = true) (k15 : PySem.W.keepIn K (.ref f15) = true)
    (a16 : PySem.W.nsIn K mainGlobals "_law_pace" = some (some (.ref f16))) (l16 : K.lookup f16 = some ⟨oc16, od16, .func (PySem.W.fnOf "_law_pace" "_law_pace" (defArgs (top 18)) (defBody (top 18)) (defScope (top 18)) .none kV16 dc16 pm16 an16 cd16 ct16), sl16⟩) (c16 : PySem.W.codeIn K cd16 "_law_pace" = true) (k16 : PySem.W.keepIn K (.ref f16) = true)
    (a17 : PySem.W.nsIn K mainGlobals "_law_vessel" = some (some (.ref f17))) (l17 : K.lookup f17 = some ⟨oc17, od17, .func (PySem.W.fnOf "_law_vessel" "_law_vessel" (defArgs (top 19)) (defBody (top 19)) (defScope (top 19)) .none kV17 dc17 pm17 an17 cd17 ct17), sl17⟩) (c17 : PySem.W.codeIn K cd17 "_law_vessel" = true) (k17 : PySem.W.keepIn K (.ref f17) = true)
    (a18 : PySem.W.nsIn K mainGlobals "_law_count" = some (some (.ref f18))) (l18 : K.lookup f18 = some ⟨oc18, od18, .func (PySem.W.fnOf "_law_count" "_law_count" (defArgs (top 20)) (defBody (top 20)) (defScope (top 20)) .none kV18 dc18 pm18 an18 cd18 ct18), sl18⟩) (c18 : PySem.W.codeIn K cd18 "_law_count" = true) (k18 : PySem.W.keepIn K (.ref f18) = true)
    (a19 : PySem.W.nsIn K mainGlobals "_law_can" = some (some (.ref f19))) (l19 : K.lookup f19 = some ⟨oc19, od19, .func (PySem.W.fnOf "_law_can" "_law_can" (defArgs (top 21)) (defBody (top 21)) (defScope (top 21)) .none kV19 dc19 pm19 an19 cd19 ct19), sl19⟩) (c19 : PySem.W.codeIn K cd19 "_law_can" = true) (k19 : PySem.W.keepIn K (.ref f19) = true)
    (a20 : PySem.W.nsIn K mainGlobals "_law_behind" = some (some (.ref f20))) (l20 : K.lookup f20 = some ⟨oc20, od20, .func (PySem.W.fnOf "_law_behind" "_law_behind" (defArgs (top 22)) (defBody (top 22)) (defScope (top 22)) .none kV20 dc20 pm20 an20 cd20 ct20), sl20⟩) (c20 : PySem.W.codeIn K cd20 "_law_behind" = true) (k20 : PySem.W.keepIn K (.ref f20) = true)
    (a21 : PySem.W.nsIn K mainGlobals "_law_counts" = some (some (.ref f21))) (l21 : K.lookup f21 = some ⟨oc21, od21, .func (PySem.W.fnOf "_law_counts" "_law_counts" (defArgs (top 23)) (defBody (top 23)) (defScope (top 23)) .none kV21 dc21 pm21 an21 cd21 ct21), sl21⟩) (c21 : PySem.W.codeIn K cd21 "_law_counts" = true) (k21 : PySem.W.keepIn K (.ref f21) = true)
    (a22 : PySem.W.nsIn K mainGlobals "law" = some (some (.ref f22))) (l22 : K.lookup f22 = some ⟨oc22, od22, .func (PySem.W.fnOf "law" "law" (defArgs (top 24)) (defBody (top 24)) (defScope (top 24)) .none kV22 dc22 pm22 an22 cd22 ct22), sl22⟩) (c22 : PySem.W.codeIn K cd22 "law" = true) (k22 : PySem.W.keepIn K (.ref f22) = true)
    (z_len : PySem.W.nsIn K mainGlobals "len" = some none)
    (z_abs : PySem.W.nsIn K mainGlobals "abs" = some none)
    (z_range : PySem.W.nsIn K mainGlobals "range" = some none)
    (z_isinstance : PySem.W.nsIn K mainGlobals "isinstance" = some none)
    (z_int : PySem.W.nsIn K mainGlobals "int" = some none)
    (z_bool : PySem.W.nsIn K mainGlobals "bool" = some none)
    (z_tuple : PySem.W.nsIn K mainGlobals "tuple" = some none)
    (z_list : PySem.W.nsIn K mainGlobals "list" = some none)
    (z_str : PySem.W.nsIn K mainGlobals "str" = some none)
    (z_zip : PySem.W.nsIn K mainGlobals "zip" = some none)
    (z_set : PySem.W.nsIn K mainGlobals "set" = some none)
    (z_all : PySem.W.nsIn K mainGlobals "all" = some none)
    (z_any : PySem.W.nsIn K mainGlobals "any" = some none)
    (z_min : PySem.W.nsIn K mainGlobals "min" = some none)
    (z_max : PySem.W.nsIn K mainGlobals "max" = some none)
    (z_sum : PySem.W.nsIn K mainGlobals "sum" = some none)
    (z_sorted : PySem.W.nsIn K mainGlobals "sorted" = some none)
    (z_enumerate : PySem.W.nsIn K mainGlobals "enumerate" = some none)
    (z_reversed : PySem.W.nsIn K mainGlobals "reversed" = some none)
    (z_dict : PySem.W.nsIn K mainGlobals "dict" = some none)
    (z_ord : PySem.W.nsIn K mainGlobals "ord" = some none)
    (z_divmod : PySem.W.nsIn K mainGlobals "divmod" = some none)
    : ∃ fd : FuncData, (∀ (s : Shared) (v : Value), BindsTo s fd ⟨[v], []⟩ [("_law_script", v)]) ∧ ∀ base : Heap, K.In base → base.Ns mainGlobals mg → FnOk l.prog w K mg base CX0 5 fa fd ["_law_script"] (spLaw K) := by
  have e := hfa.symm.trans (PySem.W.mg_of X G a22)
  cases e
  have B : Blt mg := ⟨PySem.W.mg_none_of X G z_len, PySem.W.mg_none_of X G z_abs, PySem.W.mg_none_of X G z_range, PySem.W.mg_none_of X G z_isinstance, PySem.W.mg_none_of X G z_int, PySem.W.mg_none_of X G z_bool, PySem.W.mg_none_of X G z_tuple, PySem.W.mg_none_of X G z_list, PySem.W.mg_none_of X G z_str, PySem.W.mg_none_of X G z_zip, PySem.W.mg_none_of X G z_set, PySem.W.mg_none_of X G z_all, PySem.W.mg_none_of X G z_any, PySem.W.mg_none_of X G z_min, PySem.W.mg_none_of X G z_max, PySem.W.mg_none_of X G z_sum, PySem.W.mg_none_of X G z_sorted, PySem.W.mg_none_of X G z_enumerate, PySem.W.mg_none_of X G z_reversed, PySem.W.mg_none_of X G z_dict, PySem.W.mg_none_of X G z_ord, PySem.W.mg_none_of X G z_divmod⟩
  have F0 : FunAt K mg "sets_of" (top 1) ["size"] := funAt_mk X G a0 l0 c0 k0 fun _ _ _ _ _ _ us hl => match us, hl with | [_], _ => rfl
  have F1 : FunAt K mg "has_some" (top 2) ["heap", "stuffs"] := funAt_mk X G a1 l1 c1 k1 fun _ _ _ _ _ _ us hl => match us, hl with | [_, _], _ => rfl
  have F2 : FunAt K mg "is_drain" (top 3) ["vessel", "stuffs"] := funAt_mk X G a2 l2 c2 k2 fun _ _ _ _ _ _ us hl => match us, hl with | [_, _], _ => rfl
  have F3 : FunAt K mg "is_trap" (top 4) ["vessel", "stuffs"] := funAt_mk X G a3 l3 c3 k3 fun _ _ _ _ _ _ us hl => match us, hl with | [_, _], _ => rfl
  have F4 : FunAt K mg "lies_within" (top 5) ["smaller", "greater"] := funAt_mk X G a4 l4 c4 k4 fun _ _ _ _ _ _ us hl => match us, hl with | [_, _], _ => rfl
  have F5 : FunAt K mg "least_of" (top 6) ["sets"] := funAt_mk X G a5 l5 c5 k5 fun _ _ _ _ _ _ us hl => match us, hl with | [_], _ => rfl
  have F6 : FunAt K mg "drains" (top 7) ["vessel"] := funAt_mk X G a6 l6 c6 k6 fun _ _ _ _ _ _ us hl => match us, hl with | [_], _ => rfl
  have F7 : FunAt K mg "traps" (top 8) ["vessel"] := funAt_mk X G a7 l7 c7 k7 fun _ _ _ _ _ _ us hl => match us, hl with | [_], _ => rfl
  have F8 : FunAt K mg "_law_cell_at" (top 10) ["_law_script", "_law_k"] := funAt_mk X G a8 l8 c8 k8 fun _ _ _ _ _ _ us hl => match us, hl with | [_, _], _ => rfl
  have F9 : FunAt K mg "_law_mixed" (top 11) ["_law_cell", "_law_place"] := funAt_mk X G a9 l9 c9 k9 fun _ _ _ _ _ _ us hl => match us, hl with | [_, _], _ => rfl
  have F10 : FunAt K mg "_law_divisor" (top 12) ["_law_one", "_law_two"] := funAt_mk X G a10 l10 c10 k10 fun _ _ _ _ _ _ us hl => match us, hl with | [_, _], _ => rfl
  have F11 : FunAt K mg "_law_lowest" (top 13) ["_law_top", "_law_bottom"] := funAt_mk X G a11 l11 c11 k11 fun _ _ _ _ _ _ us hl => match us, hl with | [_, _], _ => rfl
  have F12 : FunAt K mg "_law_words" (top 14) ["_law_number", "_law_many"] := funAt_mk X G a12 l12 c12 k12 fun _ _ _ _ _ _ us hl => match us, hl with | [_, _], _ => rfl
  have F13 : FunAt K mg "_law_heap" (top 15) ["_law_cell", "_law_k", "_law_many", "_law_top", "_law_plain"] := funAt_mk X G a13 l13 c13 k13 fun _ _ _ _ _ _ us hl => match us, hl with | [_, _, _, _, _], _ => rfl
  have F14 : FunAt K mg "_law_pool" (top 16) ["_law_script", "_law_at", "_law_many", "_law_size", "_law_top", "_law_plain"] := funAt_mk X G a14 l14 c14 k14 fun _ _ _ _ _ _ us hl => match us, hl with | [_, _, _, _, _, _], _ => rfl
  have F15 : FunAt K mg "_law_pairs" (top 17) ["_law_script", "_law_at", "_law_size", "_law_kind", "_law_plain"] := funAt_mk X G a15 l15 c15 k15 fun _ _ _ _ _ _ us hl => match us, hl with | [_, _, _, _, _], _ => rfl
  have F16 : FunAt K mg "_law_pace" (top 18) ["_law_cell", "_law_kind"] := funAt_mk X G a16 l16 c16 k16 fun _ _ _ _ _ _ us hl => match us, hl with | [_, _], _ => rfl
  have F17 : FunAt K mg "_law_vessel" (top 19) ["_law_script", "_law_at"] := funAt_mk X G a17 l17 c17 k17 fun _ _ _ _ _ _ us hl => match us, hl with | [_, _], _ => rfl
  have F18 : FunAt K mg "_law_count" (top 20) ["_law_cell", "_law_many", "_law_size"] := funAt_mk X G a18 l18 c18 k18 fun _ _ _ _ _ _ us hl => match us, hl with | [_, _, _], _ => rfl
  have F19 : FunAt K mg "_law_can" (top 21) ["_law_turning", "_law_count_here"] := funAt_mk X G a19 l19 c19 k19 fun _ _ _ _ _ _ us hl => match us, hl with | [_, _], _ => rfl
  have F20 : FunAt K mg "_law_behind" (top 22) ["_law_turning", "_law_count_here"] := funAt_mk X G a20 l20 c20 k20 fun _ _ _ _ _ _ us hl => match us, hl with | [_, _], _ => rfl
  have F21 : FunAt K mg "_law_counts" (top 23) ["_law_vessel_here", "_law_count_here", "_law_cells"] := funAt_mk X G a21 l21 c21 k21 fun _ _ _ _ _ _ us hl => match us, hl with | [_, _, _], _ => rfl
  refine ⟨PySem.W.fnOf "law" "law" (defArgs (top 24)) (defBody (top 24)) (defScope (top 24)) .none kV22 dc22 pm22 an22 cd22 ct22, fun s v => .of_eq rfl, fun base _ _ => ?_⟩
  exact ok_all  (fun_mk (st := top 24) l22 c22 k22) B F0 F1 F2 F3 F4 F5 F6 F7 F8 F9 F10 F11 F12 F13 F14 F15 F16 F17 F18 F19 F20 F21
theorem walk {l : PySem.W.OpenLaw} {q : Program} {loose : List Str} {XP : (Str → Option Value) → Heap → Prop} {YP : World → Heap → Prop} {d : DefRec} {K : Params → PySem.W.Frag} (hn : l.most = some 63) (hdf : d.params.defaults = [])
    (hY : ∀ (w : World) (h : Heap), YP w h → (K w.params).In h)
    (F : ∀ (w : World) (mg : Str → Option Value) (fa : Addr) (h : Heap), (K w.params).In h → h.Ns mainGlobals mg → mg d.name = some (.ref fa) →
      ∃ fd : FuncData, (∀ (s : Shared) (u : Value), BindsTo s fd ⟨[u], []⟩ [("_law_script", u)]) ∧ ∀ base : Heap, (K w.params).In base → base.Ns mainGlobals mg → FnOk l.prog w (K w.params) mg base CX0 5 fa fd ["_law_script"] (spLaw (K w.params))) :
    PySem.W.WalkO q loose XP YP l.row.toRowW d [] (fun f vs => PySem.call f vs) :=
  L2.walk_of (n := 63) (k := 5) (x := "_law_script") (CX := fun _ => CX0) (sp := fun w => spLaw (K w.params)) hn (by decide) hdf ⟨rfl, by decide, by decide⟩ hY F (fun _ _ a ns hl _ hS => ⟨a, ns, rfl, hS, hl, fun _ => rfl⟩) fun _ _ _ _ _ z => z
end K72
open PySem PySem.W PyProof.Rows
set_option maxRecDepth 100000 in
set_option maxHeartbeats 0 in
theorem PySem.Challenge.cw_vesselhall_k72_gone_and_there_along_walk_holds : PySem.Challenge.rw_vesselhall_k72_gone_and_there_along_walk.Holds := by
  w_on; o_law; k_head; (case hw => w_witness2)
  k_fill
  refine K72.walk (l := PySem.Challenge.rw_vesselhall_k72_gone_and_there_along_walk) rfl rfl (fun w h Y => PySem.W.kIn_of Y) ?F
  case F =>
    intro w mg fa h KX G hmg
    refine' K72.all_mk KX G hmg ?a0 ?l0 ?c0 ?k0 ?a1 ?l1 ?c1 ?k1 ?a2 ?l2 ?c2 ?k2 ?a3 ?l3 ?c3 ?k3 ?a4 ?l4 ?c4 ?k4 ?a5 ?l5 ?c5 ?k5 ?a6 ?l6 ?c6 ?k6 ?a7 ?l7 ?c7 ?k7 ?a8 ?l8 ?c8 ?k8 ?a9 ?l9 ?c9 ?k9 ?a10 ?l10 ?c10 ?k10 ?a11 ?l11 ?c11 ?k11 ?a12 ?l12 ?c12 ?k12 ?a13 ?l13 ?c13 ?k13 ?a14 ?l14 ?c14 ?k14 ?a15 ?l15 ?c15 ?k15 ?a16 ?l16 ?c16 ?k16 ?a17 ?l17 ?c17 ?k17 ?a18 ?l18 ?c18 ?k18 ?a19 ?l19 ?c19 ?k19 ?a20 ?l20 ?c20 ?k20 ?a21 ?l21 ?c21 ?k21 ?a22 ?l22 ?c22 ?k22 ?z_len ?z_abs ?z_range ?z_isinstance ?z_int ?z_bool ?z_tuple ?z_list ?z_str ?z_zip ?z_set ?z_all ?z_any ?z_min ?z_max ?z_sum ?z_sorted ?z_enumerate ?z_reversed ?z_dict ?z_ord ?z_divmod
    (case a0 => k_is)
    (case l0 => k_is)
    (case c0 => k_is)
    (case k0 => k_is)
    (case a1 => k_is)
    (case l1 => k_is)
    (case c1 => k_is)
    (case k1 => k_is)
    (case a2 => k_is)
    (case l2 => k_is)
    (case c2 => k_is)
    (case k2 => k_is)
    (case a3 => k_is)
    (case l3 => k_is)
    (case c3 => k_is)
    (case k3 => k_is)
    (case a4 => k_is)
    (case l4 => k_is)
    (case c4 => k_is)
    (case k4 => k_is)
    (case a5 => k_is)
    (case l5 => k_is)
    (case c5 => k_is)
    (case k5 => k_is)
    (case a6 => k_is)
    (case l6 => k_is)
    (case c6 => k_is)
    (case k6 => k_is)
    (case a7 => k_is)
    (case l7 => k_is)
    (case c7 => k_is)
    (case k7 => k_is)
    (case a8 => k_is)
    (case l8 => k_is)
    (case c8 => k_is)
    (case k8 => k_is)
    (case a9 => k_is)
    (case l9 => k_is)
    (case c9 => k_is)
    (case k9 => k_is)
    (case a10 => k_is)
    (case l10 => k_is)
    (case c10 => k_is)
    (case k10 => k_is)
    (case a11 => k_is)
    (case l11 => k_is)
    (case c11 => k_is)
    (case k11 => k_is)
    (case a12 => k_is)
    (case l12 => k_is)
    (case c12 => k_is)
    (case k12 => k_is)
    (case a13 => k_is)
    (case l13 => k_is)
    (case c13 => k_is)
    (case k13 => k_is)
    (case a14 => k_is)
    (case l14 => k_is)
    (case c14 => k_is)
    (case k14 => k_is)
    (case a15 => k_is)
    (case l15 => k_is)
    (case c15 => k_is)
    (case k15 => k_is)
    (case a16 => k_is)
    (case l16 => k_is)
    (case c16 => k_is)
    (case k16 => k_is)
    (case a17 => k_is)
    (case l17 => k_is)
    (case c17 => k_is)
    (case k17 => k_is)
    (case a18 => k_is)
    (case l18 => k_is)
    (case c18 => k_is)
    (case k18 => k_is)
    (case a19 => k_is)
    (case l19 => k_is)
    (case c19 => k_is)
    (case k19 => k_is)
    (case a20 => k_is)
    (case l20 => k_is)
    (case c20 => k_is)
    (case k20 => k_is)
    (case a21 => k_is)
    (case l21 => k_is)
    (case c21 => k_is)
    (case k21 => k_is)
    (case a22 => k_is)
    (case l22 => k_is)
    (case c22 => k_is)
    (case k22 => k_is)
    (case z_len => k_is)
    (case z_abs => k_is)
    (case z_range => k_is)
    (case z_isinstance => k_is)
    (case z_int => k_is)
    (case z_bool => k_is)
    (case z_tuple => k_is)
    (case z_list => k_is)
    (case z_str => k_is)
    (case z_zip => k_is)
    (case z_set => k_is)
    (case z_all => k_is)
    (case z_any => k_is)
    (case z_min => k_is)
    (case z_max => k_is)
    (case z_sum => k_is)
    (case z_sorted => k_is)
    (case z_enumerate => k_is)
    (case z_reversed => k_is)
    (case z_dict => k_is)
    (case z_ord => k_is)
    (case z_divmod => k_is)
#print axioms PySem.Challenge.cw_vesselhall_k72_gone_and_there_along_walk_holds


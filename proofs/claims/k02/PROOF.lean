import PyProof.Rows.All
import Wide.All
import OpenK.AllK
import Wide.FinOn
import PyProof.EqAt
import PyProof.EqKinds
import PyProof.TupleCall
import Lean
import PySem.Challenge.RW_joinmill_k02_expressions
import PyProof.ListMulRoad
import KE.KLam
section
-- CHANGE: your row's module here, as the last of these rows
set_option Elab.async false
set_option linter.all false
set_option maxRecDepth 100000
/-! THE HAND LAYER, for ints, bools, texts, own classes, LISTS and tuples (index, slices, in, append, pop ..), calls, loops. Paste it whole ahead of your own text; what your proof does not reach may be deleted. -/
namespace L2
open PySem PySem.Spec PyProof.Rows

/-- a key: an int or a str -/
abbrev Key := Sum Int Str
def keyIs : Key → Value → Bool
  | .inl k, v => Value.isInt k v
  | .inr x, v => Value.isStrOf x v
def keyH (w : World) : Key → Int
  | .inl k => hashInt k
  | .inr x => hashStr w x
theorem keyIs_shape : ∀ {k : Key} {v : Value}, keyIs k v = true → (∃ i t, k = Sum.inl i ∧ v = Value.int i t) ∨ (∃ x t, k = Sum.inr x ∧ v = Value.str x t)
  | .inl i, v, h => by
    obtain ⟨t, e⟩ := Value.isInt_shape (k := i) (v := v) h
    exact .inl ⟨i, t, rfl, e⟩
  | .inr x, v, h => by
    obtain ⟨t, e⟩ := Value.isStrOf_shape (x := x) (v := v) h
    exact .inr ⟨x, t, rfl, e⟩
theorem keyIs_int (i : Int) (t : Tok) : keyIs (.inl i) (.int i t) = true := by simp [keyIs, Value.isInt]
theorem keyIs_str (x : Str) (t : Tok) : keyIs (.inr x) (.str x t) = true := by simp [keyIs, Value.isStrOf]
theorem key_ll (a b : Int) : decide ((Sum.inl a : Key) = Sum.inl b) = (a == b) := by
  by_cases e : a = b
  · subst e; simp
  · have h : ¬ (Sum.inl a : Key) = Sum.inl b := fun q => e (Sum.inl.inj q)
    rw [decide_eq_false h]
    exact (beq_eq_false_iff_ne.mpr e).symm
theorem key_rr (a b : Str) : decide ((Sum.inr a : Key) = Sum.inr b) = decide (a = b) := by
  by_cases e : a = b
  · subst e; simp
  · have h : ¬ (Sum.inr a : Key) = Sum.inr b := fun q => e (Sum.inr.inj q)
    rw [decide_eq_false h, decide_eq_false e]
theorem key_lr (a : Int) (b : Str) : decide ((Sum.inl a : Key) = Sum.inr b) = false := decide_eq_false (fun q => nomatch q)
theorem key_rl (a : Str) (b : Int) : decide ((Sum.inr a : Key) = Sum.inl b) = false := decide_eq_false (fun q => nomatch q)

def mixKind (prog : Program) (w : World) : PySem.KeyKind prog w Key where
  is := keyIs
  hash := keyH w
  inj := fun v a b ha hb => by
    rcases keyIs_shape ha with ⟨i, t, rfl, rfl⟩ | ⟨x, t, rfl, rfl⟩
    · rcases keyIs_shape hb with ⟨j, u, rfl, e⟩ | ⟨y, u, rfl, e⟩
      · injection e with e1 _; rw [e1]
      · exact nomatch e
    · rcases keyIs_shape hb with ⟨j, u, rfl, e⟩ | ⟨y, u, rfl, e⟩
      · exact nomatch e
      · injection e with e1 _; rw [e1]
  byValue := fun k v h => by
    rcases keyIs_shape h with ⟨i, t, rfl, rfl⟩ | ⟨x, t, rfl, rfl⟩ <;> rfl
  pyHash := fun hv h => by
    rcases keyIs_shape hv with ⟨i, t, rfl, rfl⟩ | ⟨x, t, rfl, rfl⟩
    · exact wpAny_pyHash_int h
    · exact wpAny_pyHash_str h
  eqBool := fun hu hv h => by
    rcases keyIs_shape hu with ⟨i, t, rfl, rfl⟩ | ⟨x, t, rfl, rfl⟩
    · rcases keyIs_shape hv with ⟨j, u, rfl, rfl⟩ | ⟨y, u, rfl, rfl⟩
      · rw [key_ll] at h; exact wpAny_eqBool_int h
      · rw [key_lr] at h; exact SeqAt.EqAt.int_str i t y u _ _ _ _ h
    · rcases keyIs_shape hv with ⟨j, u, rfl, rfl⟩ | ⟨y, u, rfl, rfl⟩
      · rw [key_rl] at h; exact SeqAt.EqAt.str_int x t j u _ _ _ _ h
      · rw [key_rr] at h; exact wpAny_eqBool_str h
  «strs» := fun k x t v h => by
    rcases keyIs_shape h with ⟨i, u, rfl, e⟩ | ⟨y, u, rfl, e⟩
    · exact nomatch e
    · injection e with e1 _
      subst e1
      cases v <;> rfl

theorem mixKind_is (prog : Program) (w : World) (k : Key) (v : Value) : (mixKind prog w).is k v = keyIs k v := rfl
theorem mixKind_int (prog : Program) (w : World) (i : Int) (t : Tok) : (mixKind prog w).is (.inl i) (.int i t) = true := keyIs_int i t
theorem mixKind_str (prog : Program) (w : World) (x : Str) (t : Tok) : (mixKind prog w).is (.inr x) (.str x t) = true := keyIs_str x t
end L2

namespace L2
open PySem PySem.Spec PyProof.Rows

/-- a value, without the heap -/
inductive V where
  | non | bl (b : Bool) | int (i : Int) | str (x : Str) | byt (b : Array UInt8) | flt (b : UInt64) | ref (a : Addr) | ty (n : String)
  deriving DecidableEq

def RelV : V → Value → Prop
  | .non, u => u = Value.none
  | .bl b, u => u = Value.bool b
  | .int i, u => ∃ t, u = Value.int i t
  | .str x, u => ∃ t, u = Value.str x t
  | .byt b, u => ∃ t, u = Value.bytes b t
  | .flt b, u => ∃ t, u = Value.float b t
  | .ref a, u => u = Value.ref a
  | .ty n, u => u = Value.type n

abbrev Vals : List V → List Value → Prop := Paired RelV
theorem Vals.length {xs : List V} {us : List Value} (r : Vals xs us) : xs.length = us.length := Paired.length r
theorem Vals.get : ∀ {xs : List V} {us : List Value} {i : Nat} {x : V}, Vals xs us → xs[i]? = some x → ∃ u, us[i]? = some u ∧ RelV x u
  | _, _, _, _, .nil, e => by simp at e
  | _, _, 0, _, .cons r _, e => by simp at e; subst e; exact ⟨_, rfl, r⟩
  | _, _, i + 1, x, .cons _ t, e => by
    obtain ⟨u, h1, h2⟩ := Vals.get (i := i) (x := x) t (by simpa using e)
    exact ⟨u, by simpa using h1, h2⟩
theorem Vals.set {x : V} {u : Value} (r : RelV x u) : ∀ {xs : List V} {us : List Value} (i : Nat), Vals xs us → Vals (xs.set i x) (us.set i u)
  | _, _, _, .nil => .nil
  | _, _, 0, .cons _ t => .cons r t
  | _, _, i + 1, .cons q t => .cons q (Vals.set r i t)
theorem Vals.append : ∀ {xs ys : List V} {us ws : List Value}, Vals xs us → Vals ys ws → Vals (xs ++ ys) (us ++ ws)
  | _, _, _, _, .nil, s => s
  | _, _, _, _, .cons r t, s => .cons r (Vals.append t s)
theorem Vals.take : ∀ {xs : List V} {us : List Value} (n : Nat), Vals xs us → Vals (xs.take n) (us.take n)
  | _, _, 0, _ => .nil
  | _, _, _ + 1, .nil => .nil
  | _, _, n + 1, .cons r t => .cons r (Vals.take n t)
theorem Vals.drop : ∀ {xs : List V} {us : List Value} (n : Nat), Vals xs us → Vals (xs.drop n) (us.drop n)
  | _, _, 0, r => r
  | _, _, _ + 1, .nil => .nil
  | _, _, n + 1, .cons _ t => Vals.drop n t
theorem Vals.none_of : ∀ {xs : List V} {us : List Value} {i : Nat}, Vals xs us → xs[i]? = none → us[i]? = none := fun {xs us i} r e => by
  have h1 := r.length
  have h2 : xs.length ≤ i := List.getElem?_eq_none_iff.mp e
  exact List.getElem?_eq_none_iff.mpr (by omega)

def RelO : Option V → Option Value → Prop
  | some v, some u => RelV v u
  | none, none => True
  | _, _ => False
def KV {κ : Type} : List (κ × V) → List (κ × Value) → Prop := Paired fun (p : κ × V) (q : κ × Value) => p.1 = q.1 ∧ RelV p.2 q.2

/-- a key of a dict (00_mix): an int or a text -/
def kV : Key → V
  | .inl i => .int i
  | .inr x => .str x

/-- what stands at a tracked address -/
inductive HO where
  /-- a list -/
  | lst (xs : List V)
  /-- a tuple (never changes) -/
  | tup (xs : List V)
  /-- a dict whose keys are ints and texts; one whose keys are tuples of ints and texts (the empty one is both) -/
  | dK (kvs : List (Key × V)) | dT (kvs : List (List Key × V))
  /-- a set of ints: its members, its size -/
  | set (S : Int → Bool) (n : Nat)
  /-- an instance of the class at C, its dict at dx, its attributes -/
  | ins (C dx : Addr) (fs : List (Str × V))
  /-- the dict of the instance at x -/
  | own (x : Addr)
  /-- the dict of an exception -/
  | xd (fs : List (Str × V))
  /-- a bound method, f of x -/
  | met (f x : Addr)
  /-- a range object lo, lo + 1, .. below hi -/
  | rng (lo hi : Int)
  /-- a thing that is known to the object (the script; a dict while a loop walks it): read, never written while it is so -/
  | frz (o : Obj) (u : HO)
  /-- a code object's table -/
  | tbl (ps : Array Value)
  /-- any other thing, by what is true of its one object (a def of one's own: SetO a S n := HO.ext fun h => ..) -/
  | ext (φ : Heap → Prop)

abbrev Hp := Addr → Option HO
def upd (H : Hp) (a : Addr) (o : HO) : Hp := fun b => if b = a then some o else H b
theorem upd_same {H : Hp} {a : Addr} {o : HO} : upd H a o a = some o := by unfold upd; rw [if_pos rfl]
theorem upd_ne {H : Hp} {a b : Addr} {o : HO} (h : b ≠ a) : upd H a o b = H b := by unfold upd; rw [if_neg h]
theorem upd_upd {H : Hp} {a : Addr} {o u : HO} : upd (upd H a o) a u = upd H a u := by
  funext b; unfold upd; split <;> rfl
/-- two objects of different content stand apart -/
theorem ne_of {H : Hp} {a b : Addr} {o u : HO} (h : H a = some o) (h' : H b = some u) (d : o ≠ u) : a ≠ b := by
  intro e; subst e; rw [h] at h'; exact d (Option.some.inj h')
theorem ne_of_none {H : Hp} {a b : Addr} {o : HO} (h : H a = some o) (h' : H b = none) : a ≠ b := by
  intro e; subst e; rw [h] at h'; cases h'

section
variable (P : Program) (w : World)
def ObjOk (H : Hp) (h : Heap) (a : Addr) : HO → Prop
  | .lst xs => xs.length ≤ sizeLine ∧ ∃ (its : List Value) (n : Nat), Vals xs its ∧ h.get? a = some { cls := .type "list", data := .seq its.toArray n }
  | .tup xs => xs.length ≤ sizeLine ∧ ∃ its : List Value, Vals xs its ∧ IsTup h a its.toArray
  | .dK kvs => kvs.length ≤ sizeLine ∧ (a == sysModules) = false ∧ ∃ vs, KV kvs vs ∧ h.DictOf (mixKind P w) a vs
  | .dT kvs => kvs.length ≤ sizeLine ∧ (a == sysModules) = false ∧ ∃ xs : List (List Key × Addr × Value),
      Paired (fun (p : List Key × V) (q : List Key × Addr × Value) => p.1 = q.1 ∧ H q.2.1 = some (.tup (p.1.map kV)) ∧ RelV p.2 q.2.2) kvs xs ∧
      ∃ o es ep, h.get? a = some o ∧ o.ExactDict ∧ o.data = .dict es ep ∧ es.toList = xs.map (entryOfKey (tupleKind (mixKind P w))) ∧ (xs.map (·.1)).Nodup
  | .set S n => h.SetOf (intKind P w) a S n
  | .ins C dx fs => H dx = some (.own a) ∧ fs.length ≤ 1000 ∧ dx ≠ a ∧ h.get? a = some (PySem.W.instObj C dx) ∧
      ∃ mA, h.Ns1 dx mA ∧ (∀ f, RelO (fs.lookup f) (mA f)) ∧ PySem.Within mA (fs.map (·.1))
  | .own _ => ∃ o, h.get? a = some o
  | .xd fs => ∃ mA, h.Ns1 a mA ∧ ∀ f, RelO (fs.lookup f) (mA f)
  | .rng lo hi => ∃ t u v, h.get? a = some { cls := .type "range", data := .fields #[.int lo t, .int hi u, .int 1 v] }
  | .frz o u => h.get? a = some o ∧ ObjOk H h a u
  | .tbl ps => h.get? a = some { cls := .none, data := .fields ps }
  | .met f x => h.get? a = some (PySem.W.methodObj (.ref f) (.ref x))
  | .ext φ => φ h ∧ (∃ o, h.get? a = some o) ∧ ∀ h1 h2 : Heap, φ h1 → (∀ o, h1.get? a = some o → h2.get? a = some o) → φ h2
/-- the abstract heap is held -/
def HOk (H : Hp) (h : Heap) : Prop := ∀ a o, H a = some o → ObjOk P w H h a o
end

section
variable {P : Program} {w : World} {H H' : Hp} {h h' : Heap} {a : Addr} {o : HO}
theorem ObjOk.lt (x : ObjOk P w H h a o) : a < h.objs.size := by
  cases o with
  | lst xs => obtain ⟨_, _, _, _, e⟩ := x; exact Heap.lt_size e
  | tup xs => obtain ⟨_, _, _, p⟩ := x; exact p.lt
  | dK kvs => obtain ⟨_, _, _, _, o, _, _, e, _⟩ := x; exact Heap.lt_size e
  | dT kvs => obtain ⟨_, _, _, _, o, _, _, e, _⟩ := x; exact Heap.lt_size e
  | set S n => obtain ⟨o, _, _, _, e, _⟩ := x; exact Heap.lt_size e
  | ins C dx fs => obtain ⟨_, _, _, e, _⟩ := x; exact Heap.lt_size e
  | own y => obtain ⟨_, e⟩ := x; exact Heap.lt_size e
  | xd fs => obtain ⟨_, ⟨_, _, _, e, _⟩, _⟩ := x; exact Heap.lt_size e
  | rng lo hi => obtain ⟨_, _, _, e⟩ := x; exact Heap.lt_size e
  | frz ob u => obtain ⟨e, _⟩ := x; exact Heap.lt_size e
  | tbl ps => exact Heap.lt_size (show h.get? a = some _ from x)
  | met f y => exact Heap.lt_size (show h.get? a = some _ from x)
  | ext φ => obtain ⟨_, ⟨_, e⟩, _⟩ := x; exact Heap.lt_size e
theorem Paired.mapP {α β : Type} {F G : α → β → Prop} : ∀ {l₁ : List α} {l₂ : List β}, Paired F l₁ l₂ → (∀ a b, F a b → G a b) → Paired G l₁ l₂
  | _, _, .nil, _ => .nil
  | _, _, .cons r t, f => .cons (f _ _ r) (Paired.mapP t f)
theorem Paired.imp' {α β : Type} {F G : α → β → Prop} (f : ∀ a b, F a b → G a b) {l₁ : List α} {l₂ : List β} (r : Paired F l₁ l₂) : Paired G l₁ l₂ := Paired.mapP r f
/-- what an object's description leans on: its own object, its own dict, the tuples -/
theorem ObjOk.stay (x : ObjOk P w H h a o) (k : ∀ b u, (b = a ∨ H b = some (.own a)) → h.get? b = some u → h'.get? b = some u)
    (ho : ∀ b, H b = some (.own a) → H' b = some (.own a)) (ht : ∀ b xs, H b = some (.tup xs) → H' b = some (.tup xs)) : ObjOk P w H' h' a o := by
  induction o with
  | lst xs => obtain ⟨z, its, n, r, e⟩ := x; exact ⟨z, its, n, r, k _ _ (.inl rfl) e⟩
  | tup xs => obtain ⟨z, its, r, ob, e, c⟩ := x; exact ⟨z, its, r, ob, k _ _ (.inl rfl) e, c⟩
  | dK kvs => obtain ⟨z, y, vs, r, ob, es, ep, e, c⟩ := x; exact ⟨z, y, vs, r, ob, es, ep, k _ _ (.inl rfl) e, c⟩
  | dT kvs =>
    obtain ⟨z, y, xs, r, ob, es, ep, e, c⟩ := x
    exact ⟨z, y, xs, Paired.mapP r fun p q z => ⟨z.1, ht _ _ z.2.1, z.2.2⟩, ob, es, ep, k _ _ (.inl rfl) e, c⟩
  | set S n => obtain ⟨ob, es, ep, t, e, c⟩ := x; exact ⟨ob, es, ep, t, k _ _ (.inl rfl) e, c⟩
  | ins C dx fs =>
    obtain ⟨d, z, ne, e, mA, ⟨od, es, ep, e2, c⟩, r⟩ := x
    exact ⟨ho _ d, z, ne, k _ _ (.inl rfl) e, mA, ⟨od, es, ep, k _ _ (.inr d) e2, c⟩, r⟩
  | own y => obtain ⟨ob, e⟩ := x; exact ⟨ob, k _ _ (.inl rfl) e⟩
  | xd fs => obtain ⟨mA, ⟨od, es, ep, e, c⟩, r⟩ := x; exact ⟨mA, ⟨od, es, ep, k _ _ (.inl rfl) e, c⟩, r⟩
  | rng lo hi => obtain ⟨t, u, v, e⟩ := x; exact ⟨t, u, v, k _ _ (.inl rfl) e⟩
  | frz ob u ih => obtain ⟨e, q⟩ := x; exact ⟨k _ _ (.inl rfl) e, ih q⟩
  | tbl ps =>
    have e : h.get? a = some { cls := .none, data := .fields ps } := x
    show h'.get? a = some { cls := .none, data := .fields ps }
    exact k a _ (.inl rfl) e
  | met f y =>
    have e : h.get? a = some (PySem.W.methodObj (.ref f) (.ref y)) := x
    show h'.get? a = some (PySem.W.methodObj (.ref f) (.ref y))
    exact k a _ (.inl rfl) e
  | ext φ => obtain ⟨p, ⟨o, e⟩, st⟩ := x; exact ⟨st _ _ p fun o q => k _ _ (.inl rfl) q, ⟨o, k _ _ (.inl rfl) e⟩, st⟩
theorem HOk.lt (x : HOk P w H h) (e : H a = some o) : a < h.objs.size := (x a o e).lt
theorem HOk.fresh (x : HOk P w H h) (e : h.objs.size ≤ a) : H a = none := by
  cases q : H a with
  | none => rfl
  | some u => exact absurd (Nat.lt_of_lt_of_le (x.lt q) e) (Nat.lt_irrefl _)
/-- every object of the heap is kept -/
theorem HOk.kept (x : HOk P w H h) (k : ∀ b u, h.get? b = some u → h'.get? b = some u) : HOk P w H h' := fun a o e =>
  (x a o e).stay (fun b u _ q => k b u q) (fun _ q => q) fun _ _ q => q
/-- a new object is laid and tracked -/
theorem HOk.laid (x : HOk P w H h) (k : ∀ b u, h.get? b = some u → h'.get? b = some u) (hp : h.objs.size ≤ a) (new : ObjOk P w (upd H a o) h' a o) : HOk P w (upd H a o) h' := fun b u e => by
  have hn := x.fresh hp
  by_cases hb : b = a
  · subst hb; rw [upd_same] at e; cases e; exact new
  · rw [upd_ne hb] at e
    exact (x b u e).stay (fun c v _ q => k c v q) (fun c q => by rw [upd_ne (ne_of_none q hn)]; exact q) fun c xs q => by rw [upd_ne (ne_of_none q hn)]; exact q
end

/-- what may be read as u: it is u, or a known u -/
def Rd (H : Hp) (a : Addr) (u : HO) : Prop := H a = some u ∨ ∃ o, H a = some (.frz o u)
theorem Rd.of {H : Hp} {a : Addr} {u : HO} (h : H a = some u) : Rd H a u := .inl h
theorem Rd.ok {P : Program} {w : World} {H : Hp} {h : Heap} {a : Addr} {u : HO} (r : Rd H a u) (x : HOk P w H h) : ObjOk P w H h a u := by
  rcases r with r | ⟨o, r⟩
  · exact x a u r
  · obtain ⟨_, q⟩ := x a _ r
    exact q
/-- what may be written -/
def Mut : Option HO → Prop
  | some (.lst _) => True
  | some (.dK _) => True
  | some (.dT _) => True
  | some (.set _ _) => True
  | some (.ins _ _ _) => True
  | some (.ext _) => True
  | _ => False
section
variable {P : Program} {w : World} {H : Hp} {h h' : Heap} {x e : Addr} {o' : HO}
/-- the object at e is changed: x itself, or the dict of the instance x -/
theorem HOk.write (ok : HOk P w H h) (mu : Mut (H x)) (he : e = x ∨ H e = some (.own x)) (k : ∀ b u, b ≠ e → h.get? b = some u → h'.get? b = some u) (heo : ∃ u, h'.get? e = some u)
    (new : ObjOk P w (upd H x o') h' x o') : HOk P w (upd H x o') h' := fun b u q => by
  have nown : ∀ c y, H c = some (.own y) → c ≠ x := fun c y r z => by subst z; rw [r] at mu; exact mu
  have ntup : ∀ c xs, H c = some (.tup xs) → c ≠ x := fun c xs r z => by subst z; rw [r] at mu; exact mu
  by_cases hb : b = x
  · subst hb; rw [upd_same] at q; cases q; exact new
  · rw [upd_ne hb] at q
    by_cases hbe : b = e
    · have q' : H b = some (.own x) := by
        rcases he with z | z
        · exact absurd (hbe.trans z) hb
        · rw [hbe]; exact z
      rw [q] at q'; cases q'
      obtain ⟨v, hv⟩ := heo
      exact ⟨v, by rw [hbe]; exact hv⟩
    · refine (ok b u q).stay (fun c v hc r => k c v ?_ r) (fun c r => by rw [upd_ne (nown c b r)]; exact r) fun c xs r => by rw [upd_ne (ntup c xs r)]; exact r
      rcases hc with rfl | hc
      · exact hbe
      · rintro rfl
        rcases he with z | z
        · exact nown c b hc z
        · rw [hc] at z; cases z; exact hb rfl
end

/-! ### kept unless tracked; of the frames at fs (the callers') the slots may change (an exception that passes writes there); of the records at ex (iterators) nothing is said -/
structure Un (fs ex : List Addr) (H H' : Hp) (h h' : Heap) : Prop where
  keep : ∀ b o, h.get? b = some o → H b = none → b ∉ fs → b ∉ ex → h'.get? b = some o
  slot : ∀ b o, h.get? b = some o → H b = none → b ∈ fs → b ∉ ex → ∃ sl, h'.get? b = some { o with slots := sl }
  free : ∀ b o, h.get? b = some o → H b = none → b ∉ ex → H' b = none
  there : ∀ b o, h.get? b = some o → b ∉ ex → ∃ o', h'.get? b = some o'
  tups : ∀ b xs, H b = some (.tup xs) → H' b = some (.tup xs)
  frzs : ∀ b o u, H b = some (.frz o u) → H' b = some (.frz o u)
  tbls : ∀ b ps, H b = some (.tbl ps) → ∃ more, H' b = some (.tbl (ps ++ more))
section
variable {fs fs' ex ex' : List Addr} {H H1 H2 : Hp} {h h1 h2 h' : Heap} {a x e : Addr} {o : HO}
theorem Un.any (u : Un fs ex H H1 h h1) {b : Addr} {ob : Obj} (q : h.get? b = some ob) (n : H b = none) (hx : b ∉ ex) : ∃ sl, h1.get? b = some { ob with slots := sl } := by
  by_cases hb : b ∈ fs
  · exact u.slot b ob q n hb hx
  · exact ⟨ob.slots, u.keep b ob q n hb hx⟩
theorem Un.trans (a : Un fs ex H H1 h h1) (b : Un fs ex H1 H2 h1 h2) : Un fs ex H H2 h h2 where
  keep := fun c ob q n hc hx => b.keep c ob (a.keep c ob q n hc hx) (a.free c ob q n hx) hc hx
  slot := fun c ob q n hc hx => by
    obtain ⟨sl, e1⟩ := a.slot c ob q n hc hx
    obtain ⟨sl', e2⟩ := b.slot c _ e1 (a.free c ob q n hx) hc hx
    exact ⟨sl', e2⟩
  free := fun c ob q n hx => by
    obtain ⟨o', e1⟩ := a.there c ob q hx
    exact b.free c o' e1 (a.free c ob q n hx) hx
  there := fun c ob q hx => by
    obtain ⟨o', e1⟩ := a.there c ob q hx
    exact b.there c o' e1 hx
  tups := fun c xs q => b.tups c xs (a.tups c xs q)
  frzs := fun c ob xs q => b.frzs c ob xs (a.frzs c ob xs q)
  tbls := fun c ps q => by
    obtain ⟨m1, e1⟩ := a.tbls c ps q
    obtain ⟨m2, e2⟩ := b.tbls c _ e1
    exact ⟨m1 ++ m2, by rw [e2, Array.append_assoc]⟩
theorem Un.kept (k : ∀ b u, h.get? b = some u → h'.get? b = some u) : Un fs ex H H h h' :=
  ⟨fun b ob q _ _ _ => k b ob q, fun b ob q _ _ _ => ⟨ob.slots, k b ob q⟩, fun _ _ _ n _ => n, fun b ob q _ => ⟨ob, k b ob q⟩, fun _ _ q => q, fun _ _ _ q => q, fun _ ps q => ⟨#[], by rw [q]; simp⟩⟩
theorem Un.refl : Un fs ex H H h h := Un.kept fun _ _ q => q
theorem Un.laid (k : ∀ b u, h.get? b = some u → h'.get? b = some u) (hp : h.objs.size ≤ a) (hn : H a = none) : Un fs ex H (upd H a o) h h' where
  keep := fun b u q _ _ _ => k b u q
  slot := fun b u q _ _ _ => ⟨u.slots, k b u q⟩
  free := fun b u q n _ => by rw [upd_ne (Nat.ne_of_lt (Nat.lt_of_lt_of_le (Heap.lt_size q) hp))]; exact n
  there := fun b u q _ => ⟨u, k b u q⟩
  tups := fun b xs q => by rw [upd_ne (ne_of_none q hn)]; exact q
  frzs := fun b u xs q => by rw [upd_ne (ne_of_none q hn)]; exact q
  tbls := fun b ps q => ⟨#[], by rw [upd_ne (ne_of_none q hn), q]; simp⟩
theorem Un.write (mu : Mut (H x)) (he : e = x ∨ H e = some (.own x)) (k : ∀ b u, b ≠ e → h.get? b = some u → h'.get? b = some u) (heo : ∃ u, h'.get? e = some u) : Un fs ex H (upd H x o) h h' := by
  have hx : ∀ b, H b = none → b ≠ x := fun b n z => by subst z; rw [n] at mu; exact mu
  have hb : ∀ b, H b = none → b ≠ e := fun b n z => by
    subst z
    rcases he with r | r
    · exact hx b n r
    · rw [n] at r; cases r
  have hm : ∀ b u, H b = some u → ¬ Mut (some u) → b ≠ x := fun b u q nm z => by subst z; rw [q] at mu; exact nm mu
  refine ⟨fun b u q n _ _ => k b u (hb b n) q, fun b u q n _ _ => ⟨u.slots, k b u (hb b n) q⟩, fun b u q n _ => by rw [upd_ne (hx b n)]; exact n, fun b u q _ => ?_,
    fun b xs q => by rw [upd_ne (hm b _ q fun z => z)]; exact q, fun b u xs q => by rw [upd_ne (hm b _ q fun z => z)]; exact q, fun b ps q => ⟨#[], by rw [upd_ne (hm b _ q fun z => z), q]; simp⟩⟩
  by_cases hbe : b = e
  · subst hbe; exact heo
  · exact ⟨u, k b u hbe q⟩
theorem Un.mono (u : Un fs ex H H1 h h1) (hs : ∀ b ∈ fs, b ∈ fs') (hx : ∀ b ∈ ex, b ∈ ex') : Un fs' ex' H H1 h h1 :=
  ⟨fun b ob q n hb he => u.keep b ob q n (fun z => hb (hs b z)) fun z => he (hx b z), fun _ _ q n _ he => u.any q n fun z => he (hx _ z), fun b ob q n he => u.free b ob q n fun z => he (hx b z), fun b ob q he => u.there b ob q fun z => he (hx b z), u.tups, u.frzs, u.tbls⟩
end

/-! ### the heap without what is tracked -/
def trk (h : Heap) (H : Hp) : List Addr := (List.range h.objs.size).filter fun a => (H a).isSome
def hidT (h : Heap) (H : Hp) : Heap := PySem.W.hideAll h (trk h H)
theorem hidT_size (h : Heap) (H : Hp) : (hidT h H).objs.size = h.objs.size := PySem.W.hideAll_size _ _
theorem hidT_get {h : Heap} {H : Hp} {b : Addr} {o : Obj} (e : h.get? b = some o) (n : H b = none) : (hidT h H).get? b = some o :=
  PySem.W.hideAll_get _ e fun hm => by
    have q : (H b).isSome = true := (List.mem_filter.mp hm).2
    rw [n] at q; simp at q
theorem of_hidT {h : Heap} {H : Hp} {b : Addr} {o : Obj} (e : (hidT h H).get? b = some o) : h.get? b = some o ∧ H b = none := by
  have e' : h.get? b = some o := PySem.W.of_hideAll (trk h H) e
  refine ⟨e', ?_⟩
  cases q : H b with
  | none => rfl
  | some x =>
    have hm : b ∈ trk h H := List.mem_filter.mpr ⟨List.mem_range.mpr (Heap.lt_size e'), by simp [q]⟩
    have z : (hidT h H).get? b = none := PySem.W.hideAll_none (trk h H) hm
    rw [z] at e; cases e

/-! ### OpenK's ledger, filled with every new object but one -/
def allNews (g h : Heap) (L : Addr) : List (Addr × Obj) := (List.range h.objs.size).filterMap fun a => if a = L ∨ (g.get? a).isSome = true then none else (h.get? a).map fun o => (a, o)
theorem mem_allNews {g h : Heap} {L a : Addr} {o : Obj} (h1 : a ≠ L) (h2 : g.get? a = none) (h3 : h.get? a = some o) : (a, o) ∈ allNews g h L :=
  List.mem_filterMap.mpr ⟨a, List.mem_range.mpr (Heap.lt_size h3), by simp [h1, h2, h3]⟩
theorem of_mem_allNews {g h : Heap} {L : Addr} {p : Addr × Obj} (hp : p ∈ allNews g h L) : p.1 ≠ L ∧ g.get? p.1 = none ∧ h.get? p.1 = some p.2 := by
  obtain ⟨b, _, e⟩ := List.mem_filterMap.mp hp
  split at e
  · cases e
  · rename_i hn
    cases q : h.get? b with
    | none => rw [q] at e; simp at e
    | some u =>
      rw [q] at e
      simp only [Option.map_some, Option.some.injEq] at e
      subst e
      refine ⟨fun z => hn (.inl z), ?_, q⟩
      show g.get? b = none
      cases r : g.get? b with
      | none => rfl
      | some v => exact (hn (.inr (by simp [r]))).elim
def rest (g h : Heap) (L d : Addr) : List (Addr × Obj) := (allNews g h L).filter fun p => decide (p.1 ≠ d)
theorem rest_ne {g h : Heap} {L d : Addr} : ∀ p ∈ rest g h L d, p.1 ≠ d := fun p hp => of_decide_eq_true (List.mem_filter.mp hp).2
theorem mem_rest {g h : Heap} {L d a : Addr} {o : Obj} (h1 : a ≠ L) (h2 : g.get? a = none) (h3 : h.get? a = some o) (h4 : a ≠ d) : (a, o) ∈ rest g h L d :=
  List.mem_filter.mpr ⟨mem_allNews h1 h2 h3, decide_eq_true h4⟩
theorem news_all {g h : Heap} {L : Addr} : News g L h (allNews g h L) := fun p hp => let ⟨a, b, c⟩ := of_mem_allNews hp; ⟨c, a, b⟩
theorem news_at {g h : Heap} {L d : Addr} {o : Obj} (h1 : d ≠ L) (h2 : g.get? d = none) (h3 : h.get? d = some o) : News g L h ((d, o) :: rest g h L d) := fun p hp => by
  rcases List.mem_cons.mp hp with rfl | hp
  · exact ⟨h3, h1, h2⟩
  · exact news_all p (List.mem_filter.mp hp).1
/-- behind a rule that changed d alone: all else but the frame is kept -/
theorem kept_of_news {g h h' : Heap} {L d : Addr} {m : Str → Option Value} (k : ∀ b o, g.get? b = some o → h.get? b = some o) (F : Fr g L h' m) (N : News g L h' (rest g h L d)) :
    ∀ b o, b ≠ L → b ≠ d → h.get? b = some o → h'.get? b = some o := fun b o h1 h2 e => by
  cases q : g.get? b with
  | some u =>
    have := k b u q
    rw [e] at this; cases this
    exact F.keep b _ q
  | none => exact (N (b, o) (mem_rest h1 q e h2)).1
end L2

namespace L2
open PySem PySem.Spec PyProof.Rows

/-- the module's facts, over the base: the heap at the law's entry without what is tracked there -/
structure Mod (K : PySem.W.Frag) (mg : Str → Option Value) (base : Heap) : Prop where
  kin : K.In base
  glob : base.Ns mainGlobals mg
  blt : ∃ mb, base.Ns builtinsNs mb ∧ ∀ x : Str, x ≠ "__name__" → mb x = bootBuiltins x
  nolimit : base.NoLimit

/-- the context: a def's body (or a comprehension's block) running. base: fixed through the whole law; s₀, H₀: the entry; outer: the frames whose slots others may change (a def's callers); stack: all frames that run;
   ex: iterators that were made ahead of the entry and are walked here (a comprehension's); fn: the names whose cells were made at the entry (a def: all; a comprehension's block: its own); calm: not within an except suite; pn: pins that every state bears; xe: what is wanted of an exception that leaves the code -/
structure Cx where
  prog : Program
  w : World
  K : PySem.W.Frag
  mg : Str → Option Value
  base : Heap
  A : Around
  N : List Str
  s₀ : Shared
  H₀ : Hp
  env : Env
  outer : List Env
  stack : List Env
  ex : List Addr
  fn : Str → Bool
  calm : Bool
  pn : List (Addr × Obj)
  xe : Value → Shared → Prop
/-- the callers' frames -/
def frs (l : List Env) : List Addr := l.filterMap (·.frame)
abbrev Cx.fs (X : Cx) : List Addr := frs X.outer

def Vis (sc : Scope) (x : Str) : Prop := sc.names.lookup x = some .local ∨ sc.names.lookup x = some .cell ∨ sc.names.lookup x = some .free
def Loc (sc : Scope) (x : Str) : Prop := sc.names.lookup x = some .local ∨ sc.names.lookup x = some .cell
def Look (env : Env) (h : Heap) (m : Str → Option Value) (x : Str) (u : Value) : Prop :=
  (env.kindOf x = some .local ∧ m x = some u) ∨ ((env.kindOf x = some .cell ∨ env.kindOf x = some .free) ∧ ∃ c, env.cells.lookup x = some c ∧ h.IsCell c (some u))

structure Cx.Ok (X : Cx) : Prop where
  mod : Mod X.K X.mg X.base
  kind : X.env.scope.kind = .function
  glob : X.env.globals = mainGlobals
  blt : X.env.builtins = builtinsNs
  above : X.s₀.heap.objs.size ≤ X.env.locals
  inj : ∀ x y c, X.env.cells.lookup x = some c → X.env.cells.lookup y = some c → x = y
  has : ∀ x, (X.env.kindOf x = some .cell ∨ X.env.kindOf x = some .free) → ∃ c, X.env.cells.lookup x = some c
  cab : ∀ x c, X.fn x = true → X.env.cells.lookup x = some c → X.s₀.heap.objs.size ≤ c
  hd : X.calm = true → X.A.handled = none
  frames : X.A.frames = some X.stack
  stk : X.stack = X.outer ∨ (X.stack = X.env :: X.outer ∧ X.env.frame = some X.env.locals)
  exf : ∀ b ∈ X.ex, b ≠ X.env.locals ∧ ∀ x c, X.env.cells.lookup x = some c → c ≠ b
  bs : ∀ b o, X.base.get? b = some o → X.s₀.heap.get? b = some o ∧ X.H₀ b = none
  bsz : X.base.objs.size ≤ X.s₀.heap.objs.size
  noex : ∀ b o, X.base.get? b = some o → b ∉ X.ex
  exfs : ∀ b ∈ X.ex, b ∉ X.fs
  funs : X.s₀.heap.FunFrames X.base X.outer
  frf : ∀ b ∈ X.fs, X.H₀ b = none

structure Inv (X : Cx) (pins : List (Addr × Obj)) (σ : List (Option V)) (H : Hp) (s : Shared) : Prop where
  ok : X.Ok
  os : s.os = X.s₀.os
  bare : AllBare s.gens
  base : Un X.fs X.ex X.H₀ H X.s₀.heap s.heap
  loc : ∃ m, s.heap.Ns X.env.locals m ∧ ∀ (i : Nat) (x : Str) (v : V), X.N[i]? = some x → σ[i]? = some (some v) → Vis X.env.scope x → ∃ u, RelV v u ∧ Look X.env s.heap m x u
  cell : ∀ x c, X.env.cells.lookup x = some c → ∃ v, s.heap.IsCell c v
  free : H X.env.locals = none
  freeC : ∀ x c, X.env.cells.lookup x = some c → H c = none
  pin : ∀ p ∈ X.pn ++ pins, s.heap.get? p.1 = some p.2 ∧ H p.1 = none ∧ p.1 ≠ X.env.locals ∧ p.1 ∉ X.fs ∧ ∀ v, p.2.data ≠ .cell v
  hok : HOk X.prog X.w H s.heap
  len : σ.length = X.N.length

section
variable {X : Cx} {pins : List (Addr × Obj)} {σ : List (Option V)} {H H' : Hp} {s : Shared} {h' : Heap}

theorem Cx.Ok.nofr (ok : X.Ok) {b : Addr} {o : Obj} (e : X.base.get? b = some o) : b ∉ X.fs := fun hb => by
  have := (ok.funs.mem hb).1
  rw [e] at this; cases this
theorem Inv.bs (I : Inv X pins σ H s) : ∀ b o, X.base.get? b = some o → s.heap.get? b = some o ∧ H b = none := fun b o e =>
  ⟨I.base.keep b o (I.ok.bs b o e).1 (I.ok.bs b o e).2 (I.ok.nofr e) (I.ok.noex b o e), I.base.free b o (I.ok.bs b o e).1 (I.ok.bs b o e).2 (I.ok.noex b o e)⟩
theorem Inv.bk (I : Inv X pins σ H s) : ∀ b o, X.base.get? b = some o → s.heap.get? b = some o := fun b o e => (I.bs b o e).1
theorem Inv.mod (I : Inv X pins σ H s) : Mod X.K X.mg X.base := I.ok.mod
theorem Inv.kIn (I : Inv X pins σ H s) : X.K.In s.heap := I.ok.mod.kin.keeps I.bk
theorem Inv.nolimit (I : Inv X pins σ H s) : s.heap.NoLimit := I.ok.mod.nolimit.keeps I.bk
/-- the frame over the base: for OpenK's rules (K.In X.base is I.mod.kin) -/
theorem Inv.fr (I : Inv X pins σ H s) : ∃ m, Fr X.base X.env.locals s.heap m :=
  let ⟨m, hn, _⟩ := I.loc
  ⟨m, hn, I.bk, Nat.le_trans I.ok.bsz I.ok.above⟩
theorem Inv.lt (I : Inv X pins σ H s) : X.env.locals < s.heap.objs.size := let ⟨_, hn, _⟩ := I.loc; hn.lt
theorem Inv.sz (I : Inv X pins σ H s) : X.s₀.heap.objs.size ≤ s.heap.objs.size := Nat.le_trans I.ok.above (Nat.le_of_lt I.lt)
theorem Inv.nofs (I : Inv X pins σ H s) {a : Addr} (h : s.heap.objs.size ≤ a) : a ∉ X.fs := fun hb => by
  obtain ⟨_, o, ho, _⟩ := I.ok.funs.mem hb
  exact absurd (Nat.lt_of_lt_of_le (Heap.lt_size ho) (Nat.le_trans I.sz h)) (Nat.lt_irrefl _)
theorem Inv.cne (I : Inv X pins σ H s) : ∀ x c, X.env.cells.lookup x = some c → c ≠ X.env.locals := fun x c e z => by
  obtain ⟨v, o, ho, hd⟩ := I.cell x c e
  obtain ⟨m, ⟨o', es, ep, ho', hd', _⟩, _⟩ := I.loc
  rw [z, ho'] at ho; cases ho; rw [hd'] at hd; cases hd
theorem Inv.funs (I : Inv X pins σ H s) : s.heap.FunFrames X.base X.outer := by
  have all : ∀ (l : List Env), (∀ b ∈ frs l, b ∈ X.fs) → X.s₀.heap.FunFrames X.base l → s.heap.FunFrames X.base l := by
    intro l
    induction l with
    | nil => intro _ _; trivial
    | cons env r ih =>
      intro hs hl
      obtain ⟨hk, ⟨L, o, hf, hn, ho, hd⟩, hr⟩ := hl
      have hL : L ∈ X.fs := hs L (by unfold frs; rw [List.filterMap_cons, hf]; exact List.mem_cons_self)
      obtain ⟨sl, e⟩ := I.base.slot L o ho (I.ok.frf L hL) hL fun z => I.ok.exfs L z hL
      exact ⟨hk, ⟨L, _, hf, hn, e, hd⟩, ih (fun b hb => hs b (by unfold frs; rw [List.filterMap_cons, hf]; exact List.mem_cons_of_mem _ hb)) hr⟩
  exact all X.outer (fun _ hb => hb) I.ok.funs

/-- the frames that run, for a call -/
theorem Inv.stack (I : Inv X pins σ H s) : s.heap.FunFrames X.base X.stack := by
  rcases I.ok.stk with e | ⟨e, hf⟩
  · rw [e]; exact I.funs
  · rw [e]
    obtain ⟨m, hn, _⟩ := I.loc
    refine .cons (by rw [I.ok.kind]; decide) hf hn ?_ I.funs
    exact Heap.get?_none_of_le (Nat.le_trans I.ok.bsz I.ok.above)
theorem Inv.stkSub (I : Inv X pins σ H s) : ∀ b ∈ frs X.stack, b ∈ X.env.locals :: X.fs := fun b hb => by
  rcases I.ok.stk with e | ⟨e, hf⟩
  · rw [e] at hb; exact List.mem_cons_of_mem _ hb
  · rw [e] at hb
    unfold frs at hb
    rw [List.filterMap_cons, hf] at hb
    exact hb
theorem Inv.stkFree (I : Inv X pins σ H s) : ∀ b ∈ frs X.stack, H b = none := fun b hb => by
  rcases List.mem_cons.mp (I.stkSub b hb) with e | hb
  · rw [e]; exact I.free
  · obtain ⟨_, o, ho, _⟩ := I.ok.funs.mem hb
    exact I.base.free b o ho (I.ok.frf b hb) fun z => I.ok.exfs b z hb

/-- THE STEP: the untracked objects but the frame and the records at ch are kept (the callers' frames up to slots), the frame's map is kept, the new abstract heap is held -/
theorem Inv.step {g' : Array GenState} {t' : Nat} {d' : Drawn} {ch : List Addr} (I : Inv X pins σ H s)
    (hch : ∀ b ∈ ch, (b ∈ X.ex ∨ X.s₀.heap.objs.size ≤ b) ∧ b ≠ X.env.locals ∧ (∀ x c, X.env.cells.lookup x = some c → c ≠ b) ∧ ∀ p ∈ X.pn ++ pins, p.1 ≠ b)
    (keep : ∀ b o, b ≠ X.env.locals → b ∉ X.fs → b ∉ ch → s.heap.get? b = some o → H b = none → h'.get? b = some o)
    (slot : ∀ b o, b ≠ X.env.locals → b ∈ X.fs → b ∉ ch → s.heap.get? b = some o → H b = none → ∃ sl, h'.get? b = some { o with slots := sl }) (free : ∀ b o, b ∉ ch → s.heap.get? b = some o → H b = none → H' b = none)
    (there : ∀ b o, b ∉ ch → s.heap.get? b = some o → ∃ o', h'.get? b = some o')
    (tups : ∀ b xs, H b = some (.tup xs) → H' b = some (.tup xs)) (frzs : ∀ b o u, H b = some (.frz o u) → H' b = some (.frz o u)) (tbls : ∀ b ps, H b = some (.tbl ps) → ∃ more, H' b = some (.tbl (ps ++ more)))
    (ns : ∀ m, s.heap.Ns X.env.locals m → h'.Ns X.env.locals m) (hok : HOk X.prog X.w H' h') (hg : AllBare g') :
    Inv X pins σ H' { s with heap := h', gens := g', drawn := d', toks := t' } := by
  have neL : ∀ b o, X.s₀.heap.get? b = some o → b ≠ X.env.locals := fun b o e => Nat.ne_of_lt (Nat.lt_of_lt_of_le (Heap.lt_size e) I.ok.above)
  have neC : ∀ b o, X.s₀.heap.get? b = some o → b ∉ X.ex → b ∉ ch := fun b o e hx hb => by
    rcases (hch b hb).1 with z | z
    · exact hx z
    · exact absurd (Nat.lt_of_lt_of_le (Heap.lt_size e) z) (Nat.lt_irrefl _)
  have cellK : ∀ x c, X.env.cells.lookup x = some c → ∀ v, s.heap.IsCell c v → h'.IsCell c v := fun x c e v ⟨o, ho, hd⟩ => by
    have nch : c ∉ ch := fun z => (hch c z).2.2.1 x c e rfl
    by_cases hc : c ∈ X.fs
    · obtain ⟨sl, q⟩ := slot c o (I.cne x c e) hc nch ho (I.freeC x c e)
      exact ⟨_, q, hd⟩
    · exact ⟨o, keep c o (I.cne x c e) hc nch ho (I.freeC x c e), hd⟩
  refine ⟨I.ok, I.os, hg, ⟨fun b o e n hb hx => ?_, fun b o e n hb hx => ?_, fun b o e n hx => ?_, fun b o e hx => ?_, fun b xs e => tups b xs (I.base.tups b xs e), fun b o xs e => frzs b o xs (I.base.frzs b o xs e), fun b ps e => ?_⟩, ?_, fun x c e => ?_, ?_, fun x c e => ?_, fun p hp => ?_, hok, I.len⟩
  · exact keep b o (neL b o e) hb (neC b o e hx) (I.base.keep b o e n hb hx) (I.base.free b o e n hx)
  · obtain ⟨sl, e1⟩ := I.base.slot b o e n hb hx
    obtain ⟨sl', e2⟩ := slot b _ (neL b o e) hb (neC b o e hx) e1 (I.base.free b o e n hx)
    exact ⟨sl', e2⟩
  · obtain ⟨o', e1⟩ := I.base.there b o e hx
    exact free b o' (neC b o e hx) e1 (I.base.free b o e n hx)
  · obtain ⟨o', e1⟩ := I.base.there b o e hx
    exact there b o' (neC b o e hx) e1
  · obtain ⟨m1, e1⟩ := I.base.tbls b ps e
    obtain ⟨m2, e2⟩ := tbls b _ e1
    exact ⟨m1 ++ m2, by rw [e2, Array.append_assoc]⟩
  · obtain ⟨m, hn, hl⟩ := I.loc
    refine ⟨m, ns m hn, fun i x v e1 e2 e3 => ?_⟩
    obtain ⟨u, r, l⟩ := hl i x v e1 e2 e3
    refine ⟨u, r, ?_⟩
    rcases l with l | ⟨k, c, e, z⟩
    · exact .inl l
    · exact .inr ⟨k, c, e, cellK x c e _ z⟩
  · obtain ⟨v, z⟩ := I.cell x c e
    exact ⟨v, cellK x c e v z⟩
  · obtain ⟨m, ⟨o, _, _, ho, _⟩, _⟩ := I.loc
    exact free _ o (fun z => (hch _ z).2.1 rfl) ho I.free
  · obtain ⟨v, o, ho, hd⟩ := I.cell x c e
    exact free c o (fun z => (hch c z).2.2.1 x c e rfl) ho (I.freeC x c e)
  · obtain ⟨e, n, ne, nf, d⟩ := I.pin p hp
    have nch : p.1 ∉ ch := fun z => (hch p.1 z).2.2.2 p hp rfl
    exact ⟨keep p.1 p.2 ne nf nch e n, free p.1 p.2 nch e n, ne, nf, d⟩
/-- .. where the frame's own object is kept too -/
theorem Inv.un {t' : Nat} (I : Inv X pins σ H s) (u : Un X.fs [] H H' s.heap h') (hok : HOk X.prog X.w H' h') : Inv X pins σ H' { s with heap := h', toks := t' } := by
  obtain ⟨m, ⟨o, es, ep, ho, r⟩, _⟩ := id I.loc
  obtain ⟨sl, hL⟩ := u.any ho I.free (by simp)
  exact I.step (g' := s.gens) (d' := s.drawn) (ch := []) (fun _ z => nomatch z) (fun b o _ hb _ e n => u.keep b o e n hb (by simp)) (fun b o _ hb _ e n => u.slot b o e n hb (by simp)) (fun b o _ e n => u.free b o e n (by simp)) (fun b o _ e => u.there b o e (by simp)) u.tups u.frzs u.tbls (fun m' hm => by
    obtain ⟨o', es', ep', ho', r'⟩ := hm
    rw [ho] at ho'; cases ho'
    exact ⟨_, es', ep', hL, r'⟩) hok I.bare
/-- behind a call (or a comprehension's block): the slots of this frame may have changed too, the records at ch may have turned -/
theorem Inv.call {g' : Array GenState} {t' : Nat} {d' : Drawn} {ch : List Addr} (I : Inv X pins σ H s) (u : Un (frs X.stack) ch H H' s.heap h') (hok : HOk X.prog X.w H' h') (hg : AllBare g')
    (hch : ∀ b ∈ ch, (b ∈ X.ex ∨ X.s₀.heap.objs.size ≤ b) ∧ b ≠ X.env.locals ∧ (∀ x c, X.env.cells.lookup x = some c → c ≠ b) ∧ ∀ p ∈ X.pn ++ pins, p.1 ≠ b) :
    Inv X pins σ H' { s with heap := h', gens := g', drawn := d', toks := t' } := by
  obtain ⟨m, ⟨o, es, ep, ho, r⟩, _⟩ := id I.loc
  obtain ⟨sl, hL⟩ := u.any ho I.free fun z => (hch _ z).2.1 rfl
  exact I.step (ch := ch) hch (fun b o hL hb hc e n => u.keep b o e n (fun z => (List.mem_cons.mp (I.stkSub b z)).elim hL hb) hc) (fun b o _ _ hc e n => u.any e n hc) (fun b o hc e n => u.free b o e n hc) (fun b o hc e => u.there b o e hc) u.tups u.frzs u.tbls (fun m' hm => by
    obtain ⟨o', es', ep', ho', r'⟩ := hm
    rw [ho] at ho'; cases ho'
    exact ⟨_, es', ep', hL, r'⟩) hok hg
/-- an untracked record of ours (an iterator) has turned -/
theorem Inv.turned {t' : Nat} {it : Addr} (I : Inv X pins σ H s) (k : ∀ b o, b ≠ it → s.heap.get? b = some o → h'.get? b = some o) (hn : H it = none) (hL : it ≠ X.env.locals)
    (h1 : it ∈ X.ex ∨ X.s₀.heap.objs.size ≤ it) (h2 : ∀ x c, X.env.cells.lookup x = some c → c ≠ it) (h3 : ∀ p ∈ X.pn ++ pins, p.1 ≠ it) : Inv X pins σ H { s with heap := h', toks := t' } := by
  have nit : ∀ b u, H b = some u → b ≠ it := fun b u e z => by rw [z, hn] at e; cases e
  refine I.step (g' := s.gens) (d' := s.drawn) (ch := [it]) (fun b hb => ?_) (fun b o _ _ hc e _ => k b o (fun z => hc (by simp [z])) e) (fun b o _ _ hc e _ => ⟨o.slots, k b o (fun z => hc (by simp [z])) e⟩) (fun _ _ _ _ n => n)
    (fun b o hc e => ⟨o, k b o (fun z => hc (by simp [z])) e⟩) (fun _ _ e => e) (fun _ _ _ e => e) (fun b ps e => ⟨#[], by rw [e]; simp⟩) (fun m hm => ?_) (fun b u e => ?_) I.bare
  · have e : b = it := by simpa using hb
    subst e
    exact ⟨h1, hL, h2, h3⟩
  · obtain ⟨o, es, ep, ho, r⟩ := hm
    exact ⟨o, es, ep, k _ o (Ne.symm hL) ho, r⟩
  · refine (I.hok b u e).stay (fun c v hc q => k c v ?_ q) (fun _ q => q) fun _ _ q => q
    rcases hc with z | z
    · rw [z]; exact nit b u e
    · exact nit c _ z
theorem Inv.tok (I : Inv X pins σ H s) (t : Nat) : Inv X pins σ H { s with toks := t } := I.un (h' := s.heap) (t' := t) Un.refl I.hok
/-- all objects kept -/
theorem Inv.kept {t' : Nat} (I : Inv X pins σ H s) (k : ∀ b u, s.heap.get? b = some u → h'.get? b = some u) : Inv X pins σ H { s with heap := h', toks := t' } := I.un (Un.kept k) (I.hok.kept k)
/-- a new object laid and tracked -/
theorem Inv.laid {a : Addr} {o : HO} {t' : Nat} (I : Inv X pins σ H s) (k : ∀ b u, s.heap.get? b = some u → h'.get? b = some u) (hp : s.heap.objs.size ≤ a) (new : ObjOk X.prog X.w (upd H a o) h' a o) :
    Inv X pins σ (upd H a o) { s with heap := h', toks := t' } := I.un (Un.laid k hp (I.hok.fresh hp)) (I.hok.laid k hp new)
/-- an object written -/
theorem Inv.write {x e : Addr} {o : HO} {t' : Nat} (I : Inv X pins σ H s) (mu : Mut (H x)) (he : e = x ∨ H e = some (.own x)) (k : ∀ b u, b ≠ e → s.heap.get? b = some u → h'.get? b = some u) (heo : ∃ u, h'.get? e = some u)
    (new : ObjOk X.prog X.w (upd H x o) h' x o) : Inv X pins σ (upd H x o) { s with heap := h', toks := t' } := I.un (Un.write mu he k heo) (I.hok.write mu he k heo new)
/-- forgetting slots, pins -/
theorem Inv.weak {σ' : List (Option V)} (I : Inv X pins σ H s) (hl : σ'.length = σ.length) (w : ∀ (i : Nat) v, σ'[i]? = some (some v) → σ[i]? = some (some v)) : Inv X pins σ' H s :=
  ⟨I.ok, I.os, I.bare, I.base, let ⟨m, hn, hl'⟩ := I.loc; ⟨m, hn, fun i x v e1 e2 e3 => hl' i x v e1 (w i v e2) e3⟩, I.cell, I.free, I.freeC, I.pin, I.hok, hl.trans I.len⟩
theorem Inv.pins_of {pins' : List (Addr × Obj)} (I : Inv X pins σ H s) (h : ∀ p ∈ pins', s.heap.get? p.1 = some p.2 ∧ H p.1 = none ∧ p.1 ≠ X.env.locals ∧ p.1 ∉ X.fs ∧ ∀ v, p.2.data ≠ .cell v) : Inv X pins' σ H s :=
  ⟨I.ok, I.os, I.bare, I.base, I.loc, I.cell, I.free, I.freeC, fun p hp => (List.mem_append.mp hp).elim (fun z => I.pin p (List.mem_append_left _ z)) (h p), I.hok, I.len⟩

theorem nodup_ix {N : List Str} (hN : N.Nodup) {i j : Nat} {x : Str} (a : N[i]? = some x) (b : N[j]? = some x) : i = j := by
  obtain ⟨h1, e1⟩ := List.getElem?_eq_some_iff.mp a
  obtain ⟨h2, e2⟩ := List.getElem?_eq_some_iff.mp b
  exact (List.getElem_inj hN).mp (e1.trans e2.symm)

/-- a name is stored; what changed -/
theorem store_ok2 {M : Model} {A : Around} {E : Value → Shared → Prop} {i : Nat} {x : Str} {v : V} {u : Value} {Q : Unit → Shared → Prop} (I : Inv X pins σ H s) (hN : X.N.Nodup) (hi : X.N[i]? = some x) (hx : Loc X.env.scope x) (r : RelV v u)
    (h : ∀ s', Inv X pins (σ.set i (some v)) H s' → (∃ a, Heap.SameBut a s.heap s'.heap ∧ (a = X.env.locals ∨ X.env.cells.lookup x = some a)) → Q () s') (hf : X.fn x = true ∨ X.env.scope.names.lookup x = some .local := by first | exact .inl rfl | exact .inr rfl | assumption) : wpAny M A (storeName X.env x u) Q E s := by
  obtain ⟨m, hn, hl⟩ := id I.loc
  have hcls : (X.env.scope.kind == .class || (X.env.scope.kind == .module && X.env.locals != X.env.globals)) = false := by rw [I.ok.kind]; rfl
  have hiσ : i < σ.length := by rw [I.len]; exact (List.getElem?_eq_some_iff.mp hi).1
  have cne := I.cne
  have tracked : ∀ {a : Addr} {h' : Heap}, (∃ o, s.heap.get? a = some o ∧ H a = none) → Heap.SameBut a s.heap h' → HOk X.prog X.w H h' := fun {a h'} ha hs b ob e => by
    obtain ⟨_, _, hfree⟩ := ha
    refine (I.hok b ob e).stay (fun c w' hc q => (hs.2 c ?_).trans q) (fun _ q => q) fun _ _ q => q
    rintro rfl
    rcases hc with rfl | hc
    · rw [hfree] at e; cases e
    · rw [hfree] at hc; cases hc
  rcases hx with hk | hk
  · refine wpAny_storeName_local hk hn (fun h' hn' hs => ?_) hcls
    obtain ⟨oL, _, _, hoL, _⟩ := id hn
    refine h _ ⟨I.ok, I.os, I.bare, ⟨fun b o e n hb hx => ?_, fun b o e n hb hx => ?_, I.base.free, fun b o e hx => ?_, I.base.tups, I.base.frzs, I.base.tbls⟩, ⟨_, hn', fun j y v' e1 e2 e3 => ?_⟩, fun y c e => ?_, I.free, I.freeC, fun p hp => ?_, tracked ⟨oL, hoL, I.free⟩ hs, by simpa using I.len⟩ ⟨_, hs, .inl rfl⟩
    · exact (hs.2 b (Nat.ne_of_lt (Nat.lt_of_lt_of_le (Heap.lt_size e) I.ok.above))).trans (I.base.keep b o e n hb hx)
    · obtain ⟨sl, e1⟩ := I.base.slot b o e n hb hx
      exact ⟨sl, (hs.2 b (Nat.ne_of_lt (Nat.lt_of_lt_of_le (Heap.lt_size e) I.ok.above))).trans e1⟩
    · obtain ⟨o', e1⟩ := I.base.there b o e hx
      exact ⟨o', (hs.2 b (Nat.ne_of_lt (Nat.lt_of_lt_of_le (Heap.lt_size e) I.ok.above))).trans e1⟩
    · by_cases hj : j = i
      · subst hj
        rw [hi] at e1; cases e1
        rw [List.getElem?_set_self hiσ] at e2
        cases e2
        exact ⟨u, r, .inl ⟨hk, by simp⟩⟩
      · rw [List.getElem?_set_ne (Ne.symm hj)] at e2
        obtain ⟨u', r', q⟩ := hl j y v' e1 e2 e3
        refine ⟨u', r', ?_⟩
        rcases q with ⟨k, e⟩ | ⟨k, c, e, z⟩
        · refine .inl ⟨k, ?_⟩
          have : y ≠ x := fun e => hj (nodup_ix hN e1 (e ▸ hi))
          simp [this, e]
        · exact .inr ⟨k, c, e, z.sameBut hs (cne y c e)⟩
    · obtain ⟨w', z⟩ := I.cell y c e
      exact ⟨w', z.sameBut hs (cne y c e)⟩
    · obtain ⟨e, n, ne, nf, d⟩ := I.pin p hp
      exact ⟨(hs.2 p.1 ne).trans e, n, ne, nf, d⟩
  · have hfn : X.fn x = true := by
      rcases hf with z | z
      · exact z
      · rw [z] at hk; cases hk
    obtain ⟨c, hc⟩ := I.ok.has x (.inl hk)
    obtain ⟨w', z⟩ := I.cell x c hc
    refine wpAny_storeName_cell I.ok.kind hk hc z (fun h' hc' hs => ?_)
    obtain ⟨oc, hoc, hocd⟩ := id z
    refine h { s with heap := h' } ⟨I.ok, I.os, I.bare, ⟨fun b o e n hb hx => ?_, fun b o e n hb hx => ?_, I.base.free, fun b o e hx => ?_, I.base.tups, I.base.frzs, I.base.tbls⟩, ⟨m, hn.sameBut hs (Ne.symm (cne x c hc)), fun j y v' e1 e2 e3 => ?_⟩, fun y c' e => ?_, I.free, I.freeC, fun p hp => ?_, tracked ⟨oc, hoc, I.freeC x c hc⟩ hs, by simpa using I.len⟩ ⟨c, hs, .inr hc⟩
    · exact (hs.2 b (Nat.ne_of_lt (Nat.lt_of_lt_of_le (Heap.lt_size e) (I.ok.cab x c hfn hc)))).trans (I.base.keep b o e n hb hx)
    · obtain ⟨sl, e1⟩ := I.base.slot b o e n hb hx
      exact ⟨sl, (hs.2 b (Nat.ne_of_lt (Nat.lt_of_lt_of_le (Heap.lt_size e) (I.ok.cab x c hfn hc)))).trans e1⟩
    · obtain ⟨o', e1⟩ := I.base.there b o e hx
      exact ⟨o', (hs.2 b (Nat.ne_of_lt (Nat.lt_of_lt_of_le (Heap.lt_size e) (I.ok.cab x c hfn hc)))).trans e1⟩
    · by_cases hj : j = i
      · subst hj
        rw [hi] at e1; cases e1
        rw [List.getElem?_set_self hiσ] at e2
        cases e2
        exact ⟨u, r, .inr ⟨.inl hk, c, hc, hc'⟩⟩
      · rw [List.getElem?_set_ne (Ne.symm hj)] at e2
        obtain ⟨u', r', q⟩ := hl j y v' e1 e2 e3
        refine ⟨u', r', ?_⟩
        rcases q with q | ⟨k, c', e, z'⟩
        · exact .inl q
        · refine .inr ⟨k, c', e, z'.sameBut hs ?_⟩
          rintro rfl
          exact hj (nodup_ix hN e1 (I.ok.inj _ _ _ e hc ▸ hi))
    · by_cases hcc : c' = c
      · subst hcc; exact ⟨_, hc'⟩
      · obtain ⟨w2, z2⟩ := I.cell y c' e
        exact ⟨w2, z2.sameBut hs hcc⟩
    · obtain ⟨e, n, ne, nf, d⟩ := I.pin p hp
      refine ⟨(hs.2 p.1 ?_).trans e, n, ne, nf, d⟩
      intro q
      rw [q, hoc] at e
      have q' : oc = p.2 := Option.some.inj e
      exact d w' (by rw [← q']; exact hocd)
theorem store_ok {M : Model} {A : Around} {E : Value → Shared → Prop} {i : Nat} {x : Str} {v : V} {u : Value} {Q : Unit → Shared → Prop} (I : Inv X pins σ H s) (hN : X.N.Nodup) (hi : X.N[i]? = some x) (hx : Loc X.env.scope x) (r : RelV v u)
    (h : ∀ s', Inv X pins (σ.set i (some v)) H s' → Q () s') (hf : X.fn x = true ∨ X.env.scope.names.lookup x = some .local := by first | exact .inl rfl | exact .inr rfl | assumption) : wpAny M A (storeName X.env x u) Q E s :=
  store_ok2 I hN hi hx r (fun s' I' _ => h s' I') hf
/-- behind a call or a block, the state as it is -/
theorem Inv.call' {s' : Shared} {ch : List Addr} (I : Inv X pins σ H s) (ho : s'.os = s.os) (u : Un (frs X.stack) ch H H' s.heap s'.heap) (hok : HOk X.prog X.w H' s'.heap) (hg : AllBare s'.gens)
    (hch : ∀ b ∈ ch, (b ∈ X.ex ∨ X.s₀.heap.objs.size ≤ b) ∧ b ≠ X.env.locals ∧ (∀ x c, X.env.cells.lookup x = some c → c ≠ b) ∧ ∀ p ∈ X.pn ++ pins, p.1 ≠ b) : Inv X pins σ H' s' := by
  obtain ⟨h', g', d', t', o'⟩ := s'
  have e : o' = s.os := ho
  subst e
  exact I.call (g' := g') (t' := t') (d' := d') u hok hg hch
end

/-! ### the judgements -/
/-- an exception: its class, its own dict's address (where it has one), the abstract heap behind it -/
abbrev XK := Value → Option Addr → Hp → Prop
abbrev St := List (Option V)
abbrev VK := V → Hp → Prop
/-- an expression's reading; a test's; an argument list's -/
abbrev TE := St → Hp → VK → Prop
abbrev TT := St → Hp → (Bool → Hp → Prop) → Prop
abbrev TA := St → Hp → (List V → Hp → Prop) → Prop
/-- what is wanted behind a statement -/
structure Ends where
  nx : St → Hp → Prop
  rt : VK
  bk : St → Hp → Prop := fun _ _ => False
  ct : St → Hp → Prop := fun _ _ => False
abbrev TS := Ends → St → Hp → Prop

def EP (X : Cx) (pins : List (Addr × Obj)) (σ : St) (Q : VK) (u : Value) (s' : Shared) : Prop := ∃ v H', Inv X pins σ H' s' ∧ RelV v u ∧ Q v H'
def TP (X : Cx) (pins : List (Addr × Obj)) (σ : St) (Q : Bool → Hp → Prop) (b : Bool) (s' : Shared) : Prop := ∃ H', Inv X pins σ H' s' ∧ Q b H'
def AP (X : Cx) (pins : List (Addr × Obj)) (σ : St) (Q : List V → Hp → Prop) (us : List Value) (s' : Shared) : Prop := ∃ vs H', Inv X pins σ H' s' ∧ Vals vs us ∧ Q vs H'
def SP (X : Cx) (pins : List (Addr × Obj)) (D : Ends) (f : Flow) (s' : Shared) : Prop :=
  match f with
  | .next => ∃ σ' H', Inv X pins σ' H' s' ∧ D.nx σ' H'
  | .brk => ∃ σ' H', Inv X pins σ' H' s' ∧ D.bk σ' H'
  | .cont => ∃ σ' H', Inv X pins σ' H' s' ∧ D.ct σ' H'
  | .ret u => ∃ v σ' H', Inv X pins σ' H' s' ∧ RelV v u ∧ D.rt v H'

def PE (X : Cx) (e : Expr) (t : TE) : Prop :=
  ∀ (pins : List (Addr × Obj)) (s : Shared) (σ : St) (H : Hp) (Q : VK), Inv X pins σ H s → t σ H Q → wpAny (model X.prog X.w) X.A (eval e X.env) (EP X pins σ Q) X.xe s
def PT (X : Cx) (e : Expr) (t : TT) : Prop :=
  ∀ (pins : List (Addr × Obj)) (s : Shared) (σ : St) (H : Hp) (Q : Bool → Hp → Prop), Inv X pins σ H s → t σ H Q → wpAny (model X.prog X.w) X.A (isTrue e X.env (eval e X.env)) (TP X pins σ Q) X.xe s
/-- a test whatever its 'whole' is (and, or) -/
def PW (X : Cx) (e : Expr) (t : TT) : Prop :=
  ∀ (whole : Sem Value) (pins : List (Addr × Obj)) (s : Shared) (σ : St) (H : Hp) (Q : Bool → Hp → Prop), Inv X pins σ H s → t σ H Q → wpAny (model X.prog X.w) X.A (isTrue e X.env whole) (TP X pins σ Q) X.xe s
theorem PW.pt {X : Cx} {e : Expr} {t : TT} (h : PW X e t) : PT X e t := h _
/-- an argument list (no star), from the left -/
def PA (X : Cx) (es : List Expr) (t : TA) : Prop :=
  ∀ (pos : Pos) (pins : List (Addr × Obj)) (s : Shared) (σ : St) (H : Hp) (Q : List V → Hp → Prop), Inv X pins σ H s → t σ H Q → wpAny (model X.prog X.w) X.A (spliced (backTo pos (starEach es X.env))) (AP X pins σ Q) X.xe s
def PS (X : Cx) (st : Stmt) (t : TS) : Prop :=
  ∀ (pins : List (Addr × Obj)) (s : Shared) (σ : St) (H : Hp) (D : Ends), Inv X pins σ H s → t D σ H → wpAny (model X.prog X.w) X.A (exec st X.env) (SP X pins D) X.xe s
def PSs (X : Cx) (st : List Stmt) (t : TS) : Prop :=
  ∀ (pins : List (Addr × Obj)) (s : Shared) (σ : St) (H : Hp) (D : Ends), Inv X pins σ H s → t D σ H → wpAny (model X.prog X.w) X.A (execs st X.env) (SP X pins D) X.xe s
/-- weaken the end -/
theorem thn {α : Type} {t : Sem α} {Q Q' : α → Shared → Prop} {M : Model} {A : Around} {E : Value → Shared → Prop} {s : Shared} (h : wpAny M A t Q E s) (hQ : ∀ a s, Q a s → Q' a s) : wpAny M A t Q' E s := wpAny_mono h hQ fun _ _ x => x
end L2

namespace L2
open PySem PySem.Spec PyProof.Rows
section
variable {X : Cx}

/-- two expressions in a row -/
theorem bin {a b : Expr} {ta tb : TE} (ha : PE X a ta) (hb : PE X b tb) {pins : List (Addr × Obj)} {s : Shared} {σ : St} {H : Hp} {R : V → V → Hp → Prop} (I : Inv X pins σ H s) (h : ta σ H fun x H1 => tb σ H1 fun y H2 => R x y H2)
    {α : Type} {Q : α → Shared → Prop} {f : Value → Value → Sem α}
    (hf : ∀ v u s2 x y H2, Inv X pins σ H2 s2 → RelV x v → RelV y u → R x y H2 → wpAny (model X.prog X.w) X.A (f v u) Q X.xe s2) :
    wpAny (model X.prog X.w) X.A (eval a X.env) (fun v s₁ => wpAny (model X.prog X.w) X.A (eval b X.env) (fun u s₂ => wpAny (model X.prog X.w) X.A (f v u) Q X.xe s₂) X.xe s₁) X.xe s := by
  refine thn (ha pins s σ H _ I h) fun v s1 ⟨x, H1, I1, r1, q1⟩ => ?_
  refine thn (hb pins s1 σ H1 _ I1 q1) fun u s2 ⟨y, H2, I2, r2, q2⟩ => ?_
  exact hf v u s2 x y H2 I2 r1 r2 q2

/-! ### names and constants -/
def tVar (i : Nat) : TE := fun σ H Q => ∃ v, σ[i]? = some (some v) ∧ Q v H
def tC (v : V) : TE := fun _ H Q => Q v H
theorem pe_var {i : Nat} {x : Str} {pos : Pos} (hN : X.N[i]? = some x) (hv : Vis X.env.scope x) (hd : (x == ("__debug__" : Str)) = false := by decide) (hcd : (x == ("__classdict__" : Str)) = false := by decide) : PE X (.Name x pos) (tVar i) := by
  intro pins s σ H Q I h
  obtain ⟨v, e, h⟩ := h
  obtain ⟨m, hn, hl⟩ := I.loc
  obtain ⟨u, r, l⟩ := hl i x v hN e hv
  have fin : EP X pins σ Q u s := ⟨v, H, I, r, h⟩
  rcases l with ⟨hk, hm⟩ | ⟨hk, c, hc, hcell⟩
  · exact wpAny_Name (wpAny_loadName_local I.ok.kind hk hn hm fin) hd
  · rcases hk with hk | hk
    · exact wpAny_Name (wpAny_loadName_cell I.ok.kind hk hc hcell fin) hd
    · exact wpAny_Name (wpAny_loadName_free I.ok.kind hk hc hcell fin hcd) hd
theorem pe_int {i j pos} : PE X (.Constant (.int i) j pos) (tC (.int i)) := fun _ _ _ H _ I h => wpAny_Constant_int ⟨.int i, H, I.tok _, ⟨_, rfl⟩, h⟩
theorem pe_bl {b j pos} : PE X (.Constant (.bool b) j pos) (tC (.bl b)) := fun _ _ _ H _ I h => Constant_bool ⟨.bl b, H, I, rfl, h⟩
theorem pe_non {j pos} : PE X (.Constant .none j pos) (tC .non) := fun _ _ _ H _ I h => Constant_none ⟨.non, H, I, rfl, h⟩
theorem pe_str {x j pos} : PE X (.Constant (.str x) j pos) (tC (.str x)) := fun _ _ _ H _ I h => Calls.Constant_str ⟨.str x, H, I.tok _, ⟨_, rfl⟩, h⟩

/-- a global name of the def -/
def Gl (X : Cx) (x : Str) : Prop := X.env.kindOf x = some .globalImplicit
theorem ld_glob {E : Value → Shared → Prop} {pins : List (Addr × Obj)} {s : Shared} {σ : St} {H : Hp} {x : Str} {u : Value} {pos : Pos} {Q : Value → Shared → Prop} (I : Inv X pins σ H s) (hg : Gl X x) (hm : X.mg x = some u) (h : Q u s)
    (hd : (x == ("__debug__" : Str)) = false := by decide) : wpAny (model X.prog X.w) X.A (eval (.Name x pos) X.env) Q E s :=
  Calls.Name_function_global I.ok.kind hg (Calls.loadGlobal_global (by rw [I.ok.glob]; exact I.mod.glob.keeps I.bk) hm h) hd
theorem ld_blt {E : Value → Shared → Prop} {pins : List (Addr × Obj)} {s : Shared} {σ : St} {H : Hp} {x : Str} {u : Value} {pos : Pos} {Q : Value → Shared → Prop} (I : Inv X pins σ H s) (hg : Gl X x) (hm : X.mg x = none) (hv : bootBuiltins x = some u) (h : Q u s)
    (hn : x ≠ "__name__" := by decide) (hd : (x == ("__debug__" : Str)) = false := by decide) : wpAny (model X.prog X.w) X.A (eval (.Name x pos) X.env) Q E s := by
  obtain ⟨mb, h1, h2⟩ := I.mod.blt
  exact Calls.Name_function_global I.ok.kind hg (Calls.loadGlobal_builtin (by rw [I.ok.glob]; exact I.mod.glob.keeps I.bk) hm (by rw [I.ok.blt]; exact h1.keeps I.bk) ((h2 x hn).trans hv) h) hd
/-- a module's constant, a class, a function, as a value -/
theorem pe_glob {x : Str} {v : V} {u : Value} {pos : Pos} (hg : Gl X x) (hm : X.mg x = some u) (r : RelV v u) (hd : (x == ("__debug__" : Str)) = false := by decide) : PE X (.Name x pos) (tC v) :=
  fun _ _ _ H _ I h => ld_glob I hg hm ⟨v, H, I, r, h⟩ hd
theorem pe_bltn {x : Str} {v : V} {u : Value} {pos : Pos} (hg : Gl X x) (hm : X.mg x = none) (hv : bootBuiltins x = some u) (r : RelV v u) (hn : x ≠ "__name__" := by decide) (hd : (x == ("__debug__" : Str)) = false := by decide) : PE X (.Name x pos) (tC v) :=
  fun _ _ _ H _ I h => ld_blt I hg hm hv ⟨v, H, I, r, h⟩ hn hd

/-! ### arithmetic -/
/-- two ints -/
def t2I (ta tb : TE) (k : Int → Int → Hp → Prop) : St → Hp → Prop := fun σ H => ta σ H fun x H1 => tb σ H1 fun y H2 => ∃ i j, x = .int i ∧ y = .int j ∧ k i j H2
def tAdd (ta tb : TE) : TE := fun σ H Q => t2I ta tb (fun i j H2 => Q (.int (i + j)) H2) σ H
def tSub (ta tb : TE) : TE := fun σ H Q => t2I ta tb (fun i j H2 => Q (.int (i - j)) H2) σ H
/-- the left factor below 2^64 -/
def tMul (ta tb : TE) : TE := fun σ H Q => t2I ta tb (fun i j H2 => (-(2 ^ 64) < i ∧ i < 2 ^ 64) ∧ Q (.int (i * j)) H2) σ H
variable {a b : Expr} {ta tb : TE} {pos : Pos}
theorem pe_add (ha : PE X a ta) (hb : PE X b tb) : PE X (.BinOp a .Add b pos) (tAdd ta tb) := by
  intro pins s σ H Q I h
  refine wpAny_BinOp (bin ha hb I h fun v u s2 x y H2 I2 rx ry q => ?_)
  obtain ⟨i, j, rfl, rfl, q⟩ := q
  obtain ⟨t, rfl⟩ := rx
  obtain ⟨t', rfl⟩ := ry
  exact add_int ⟨.int _, H2, I2.tok _, ⟨_, rfl⟩, q⟩
theorem pe_sub (ha : PE X a ta) (hb : PE X b tb) : PE X (.BinOp a .Sub b pos) (tSub ta tb) := by
  intro pins s σ H Q I h
  refine wpAny_BinOp (bin ha hb I h fun v u s2 x y H2 I2 rx ry q => ?_)
  obtain ⟨i, j, rfl, rfl, q⟩ := q
  obtain ⟨t, rfl⟩ := rx
  obtain ⟨t', rfl⟩ := ry
  exact sub_int ⟨.int _, H2, I2.tok _, ⟨_, rfl⟩, q⟩
theorem pe_mul (ha : PE X a ta) (hb : PE X b tb) : PE X (.BinOp a .Mult b pos) (tMul ta tb) := by
  intro pins s σ H Q I h
  refine wpAny_BinOp (bin ha hb I h fun v u s2 x y H2 I2 rx ry q => ?_)
  obtain ⟨i, j, rfl, rfl, ⟨q1, q2⟩, q⟩ := q
  obtain ⟨t, rfl⟩ := rx
  obtain ⟨t', rfl⟩ := ry
  exact mul_int ⟨.int _, H2, I2.tok _, ⟨_, rfl⟩, q⟩ (.of_left (intBits_le_64 q1 q2))

/-! ### comparisons -/
def PC (X : Cx) (op : CmpOp) (a b : Expr) (t : TE) : Prop :=
  ∀ (pins : List (Addr × Obj)) (s : Shared) (σ : St) (H : Hp) (Q : VK), Inv X pins σ H s → t σ H Q →
    wpAny (model X.prog X.w) X.A (eval a X.env) (fun v s₁ => wpAny (model X.prog X.w) X.A (eval b X.env) (fun u s₂ => wpAny (model X.prog X.w) X.A (compareOp op v u) (EP X pins σ Q) X.xe s₂) X.xe s₁) X.xe s
theorem nobehind (b : Expr) {op : CmpOp} (h : op ≠ .In) (h2 : op ≠ .NotIn) : behindInMarks op b = false := by
  have e1 : (op == CmpOp.In) = false := by cases op <;> first | rfl | exact absurd rfl h
  have e2 : (op == CmpOp.NotIn) = false := by cases op <;> first | rfl | exact absurd rfl h2
  cases b <;> simp [behindInMarks, e1, e2]
def tCmp (p : Int → Int → Bool) (ta tb : TE) : TE := fun σ H Q => t2I ta tb (fun i j H2 => Q (.bl (p i j)) H2) σ H
abbrev tLt : TE → TE → TE := tCmp fun i j => decide (i < j)
abbrev tLe : TE → TE → TE := tCmp fun i j => decide (i ≤ j)
abbrev tGt : TE → TE → TE := tCmp fun i j => decide (j < i)
abbrev tGe : TE → TE → TE := tCmp fun i j => decide (j ≤ i)
abbrev tEqI : TE → TE → TE := tCmp fun i j => decide (i = j)
abbrev tNeI : TE → TE → TE := tCmp fun i j => !decide (i = j)
/-- a comparison of two ints, by its rule -/
theorem pc_int {op : CmpOp} {p : Int → Int → Bool} (ha : PE X a ta) (hb : PE X b tb)
    (rule : ∀ (i j : Int) (t u : Tok) (Q : Value → Shared → Prop) (s : Shared), Q (.bool (p i j)) s → wpAny (model X.prog X.w) X.A (compareOp op (.int i t) (.int j u)) Q X.xe s) : PC X op a b (tCmp p ta tb) := by
  intro pins s σ H Q I h
  refine bin ha hb I h fun v u s2 x y H2 I2 rx ry q => ?_
  obtain ⟨i, j, rfl, rfl, q⟩ := q
  obtain ⟨t, rfl⟩ := rx
  obtain ⟨t', rfl⟩ := ry
  exact rule i j t t' _ s2 ⟨.bl _, H2, I2, rfl, q⟩
theorem pc_lt (ha : PE X a ta) (hb : PE X b tb) : PC X .Lt a b (tLt ta tb) := pc_int ha hb fun _ _ _ _ _ _ h => lt_int h
theorem pc_le (ha : PE X a ta) (hb : PE X b tb) : PC X .LtE a b (tLe ta tb) := pc_int ha hb fun _ _ _ _ _ _ h => le_int h
theorem pc_gt (ha : PE X a ta) (hb : PE X b tb) : PC X .Gt a b (tGt ta tb) := pc_int ha hb fun _ _ _ _ _ _ h => gt_int h
theorem pc_ge (ha : PE X a ta) (hb : PE X b tb) : PC X .GtE a b (tGe ta tb) := pc_int ha hb fun _ _ _ _ _ _ h => ge_int h
theorem pc_eqI (ha : PE X a ta) (hb : PE X b tb) : PC X .Eq a b (tEqI ta tb) := pc_int ha hb fun _ _ _ _ _ _ h => eq_int (by rw [Bool.beq_eq_decide_eq]; exact h)
theorem pc_neI (ha : PE X a ta) (hb : PE X b tb) : PC X .NotEq a b (tNeI ta tb) := pc_int ha hb fun _ _ _ _ _ _ h => ne_int (by rw [bne, Bool.beq_eq_decide_eq]; exact h)
/-- is None -/
def tIsN (ta : TE) : TE := fun σ H Q => ta σ H fun x H1 => Q (.bl (decide (x = .non))) H1
def tNotN (ta : TE) : TE := fun σ H Q => ta σ H fun x H1 => Q (.bl (!decide (x = .non))) H1
theorem RelV.none_iff {x : V} {v : Value} (r : RelV x v) : (v == Value.none) = decide (x = .non) := by
  cases x with
  | non => cases r; rfl
  | bl _ => cases r; rfl
  | int _ => obtain ⟨t, rfl⟩ := r; rfl
  | str _ => obtain ⟨t, rfl⟩ := r; rfl
  | byt _ => obtain ⟨t, rfl⟩ := r; rfl
  | flt _ => obtain ⟨t, rfl⟩ := r; rfl
  | ref _ => cases r; rfl
  | ty _ => cases r; rfl
theorem pc_isN {j pos'} (ha : PE X a ta) : PC X .Is a (.Constant .none j pos') (tIsN ta) := by
  intro pins s σ H Q I h
  refine thn (ha pins s σ H _ I h) fun v s1 ⟨x, H1, I1, r1, q1⟩ => ?_
  exact Constant_none (is_none_gen ⟨.bl _, H1, I1, by rw [r1.none_iff]; rfl, q1⟩)
theorem pc_notN {j pos'} (ha : PE X a ta) : PC X .IsNot a (.Constant .none j pos') (tNotN ta) := by
  intro pins s σ H Q I h
  refine thn (ha pins s σ H _ I h) fun v s1 ⟨x, H1, I1, r1, q1⟩ => ?_
  exact Constant_none (isnot_none_gen ⟨.bl _, H1, I1, by rw [r1.none_iff]; rfl, q1⟩)
/-- a comparison as a value, as a test -/
def tB (t : TE) : TT := fun σ H Q => t σ H fun x H1 => ∃ c, x = .bl c ∧ Q c H1
theorem pe_cmp {op : CmpOp} {t : TE} (h : PC X op a b t) (h1 : behindInMarks op b = false := by first | exact nobehind _ (by decide) (by decide) | rfl) : PE X (.Compare a [op] [b] pos) t := fun pins s σ H Q I hw => wpAny_Compare1 (h pins s σ H Q I hw) h1
theorem pt_cmp {op : CmpOp} {t : TE} (h : PC X op a b t) (h1 : behindInMarks op b = false := by first | exact nobehind _ (by decide) (by decide) | rfl) : PT X (.Compare a [op] [b] pos) (tB t) := by
  intro pins s σ H Q I hw
  refine wpAny_isTrue_Compare1 (thn (h pins s σ H _ I hw) fun v s1 h1 => thn h1 fun u s2 h2 => thn h2 fun c s3 ⟨x, H1, I1, r1, q1⟩ => ?_) h1
  obtain ⟨d, rfl, q⟩ := q1
  cases r1
  exact wpAny_truthy_bool ⟨H1, I1, q⟩
/-- an expression whose value is a bool, as a test -/
theorem pt_val {e : Expr} {t : TE} (h : PE X e t) (he : ∀ whole, isTrue e X.env whole = (do let v ← whole; standAt e.pos; holding [v] (truthy v)) := by intro _; rfl) : PT X e (tB t) := by
  intro pins s σ H Q I hw
  refine isTrue_plain (thn (h pins s σ H _ I hw) fun v s1 ⟨x, H1, I1, r1, q1⟩ => ?_) (he _)
  obtain ⟨d, rfl, q⟩ := q1
  cases r1
  exact wpAny_truthy_bool ⟨H1, I1, q⟩

/-! ### and, or, not -/
variable {tA tB' : TT} {rest : List Expr}
def tAnd (t u : TT) : TT := fun σ H Q => t σ H fun c H1 => if c = true then u σ H1 Q else Q false H1
def tOr (t u : TT) : TT := fun σ H Q => t σ H fun c H1 => if c = true then Q true H1 else u σ H1 Q
def tNot (t : TT) : TT := fun σ H Q => t σ H fun c H1 => Q (!c) H1
theorem pw_and1 (ha : PT X a tA) : PW X (.BoolOp .And [a] pos) tA := by
  intro wh pins s σ H Q I h
  refine isTrue_and (thn (ha pins s σ H Q I h) fun c s1 e => ?_)
  cases c with
  | true => exact isTrue_and_nil e
  | false => exact e
theorem pw_or1 (ha : PT X a tA) : PW X (.BoolOp .Or [a] pos) tA := by
  intro wh pins s σ H Q I h
  refine isTrue_or (thn (ha pins s σ H Q I h) fun c s1 e => ?_)
  cases c with
  | false => exact isTrue_or_nil e
  | true => exact e
theorem pw_and (ha : PT X a tA) (hb : PW X (.BoolOp .And (b :: rest) pos) tB') : PW X (.BoolOp .And (a :: b :: rest) pos) (tAnd tA tB') := by
  intro wh pins s σ H Q I h
  refine isTrue_and (thn (ha pins s σ H _ I h) fun c s1 ⟨H1, I1, q1⟩ => ?_)
  cases c with
  | true => exact hb wh pins s1 σ H1 Q I1 q1
  | false => exact ⟨H1, I1, q1⟩
theorem pw_or (ha : PT X a tA) (hb : PW X (.BoolOp .Or (b :: rest) pos) tB') : PW X (.BoolOp .Or (a :: b :: rest) pos) (tOr tA tB') := by
  intro wh pins s σ H Q I h
  refine isTrue_or (thn (ha pins s σ H _ I h) fun c s1 ⟨H1, I1, q1⟩ => ?_)
  cases c with
  | true => exact ⟨H1, I1, q1⟩
  | false => exact hb wh pins s1 σ H1 Q I1 q1
theorem pt_not (ha : PT X a tA) : PT X (.UnaryOp .Not a pos) (tNot tA) := by
  intro pins s σ H Q I h
  exact isTrue_not (ha pins s σ H (fun c H1 => Q (!c) H1) I h)
/-- .. as values (bools) -/
def tAndV (ta tb : TE) : TE := fun σ H Q => ta σ H fun x H1 => ∃ c, x = .bl c ∧ if c = true then tb σ H1 Q else Q (.bl false) H1
def tOrV (ta tb : TE) : TE := fun σ H Q => ta σ H fun x H1 => ∃ c, x = .bl c ∧ if c = true then Q (.bl true) H1 else tb σ H1 Q
def tNotV (ta : TE) : TE := fun σ H Q => ta σ H fun x H1 => ∃ c, x = .bl c ∧ Q (.bl (!c)) H1
theorem pe_one {op} {t : TE} (h : PE X a t) : PE X (.BoolOp op [a] pos) t := fun pins s σ H Q I hw => BoolOp_one (h pins s σ H Q I hw)
theorem pe_and (ha : PE X a ta) (hb : PE X (.BoolOp .And (b :: rest) pos) tb) : PE X (.BoolOp .And (a :: b :: rest) pos) (tAndV ta tb) := by
  intro pins s σ H Q I h
  refine BoolOp_and (thn (ha pins s σ H _ I h) fun v s1 ⟨x, H1, I1, r1, q1⟩ => ?_)
  obtain ⟨c, rfl, q1⟩ := q1
  cases r1
  refine wpAny_truthy_bool ?_
  cases c with
  | true => exact hb pins s1 σ H1 Q I1 q1
  | false => exact ⟨.bl false, H1, I1, rfl, q1⟩
theorem pe_or (ha : PE X a ta) (hb : PE X (.BoolOp .Or (b :: rest) pos) tb) : PE X (.BoolOp .Or (a :: b :: rest) pos) (tOrV ta tb) := by
  intro pins s σ H Q I h
  refine BoolOp_or (thn (ha pins s σ H _ I h) fun v s1 ⟨x, H1, I1, r1, q1⟩ => ?_)
  obtain ⟨c, rfl, q1⟩ := q1
  cases r1
  refine wpAny_truthy_bool ?_
  cases c with
  | false => exact hb pins s1 σ H1 Q I1 q1
  | true => exact ⟨.bl true, H1, I1, rfl, q1⟩
theorem pe_not (ha : PE X a ta) : PE X (.UnaryOp .Not a pos) (tNotV ta) := by
  intro pins s σ H Q I h
  refine UnaryOp_ (thn (ha pins s σ H _ I h) fun v s1 ⟨x, H1, I1, r1, q1⟩ => ?_)
  obtain ⟨c, rfl, q1⟩ := q1
  cases r1
  exact not_of (wpAny_truthy_bool ⟨.bl (!c), H1, I1, rfl, q1⟩)
/-- a if t else b -/
def tIf (t : TT) (ta tb : TE) : TE := fun σ H Q => t σ H fun c H1 => if c = true then ta σ H1 Q else tb σ H1 Q
theorem pe_ifExp {c : Expr} (hc : PT X c tA) (ha : PE X a ta) (hb : PE X b tb) : PE X (.IfExp c a b pos) (tIf tA ta tb) := by
  intro pins s σ H Q I h
  refine wpAny_IfExp (thn (hc pins s σ H _ I h) fun d s1 ⟨H1, I1, q1⟩ => ?_)
  cases d with
  | true => exact ha pins s1 σ H1 Q I1 q1
  | false => exact hb pins s1 σ H1 Q I1 q1
end
end L2

namespace L2
open PySem PySem.Spec PyProof.Rows

/-! ### a list, a tuple that is read: tracked, frozen, or an object of the module -/
def SqL (K : PySem.W.Frag) (H : Hp) (a : Addr) (xs : List V) : Prop :=
  Rd H a (.lst xs) ∨
    ∃ (o : Obj) (its : Array Value) (n : Nat), K.lookup a = some o ∧ o.cls = .type "list" ∧ o.dict = none ∧ o.data = .seq its n ∧ its.size ≤ sizeLine ∧ Vals xs its.toList
def SqT (K : PySem.W.Frag) (H : Hp) (a : Addr) (xs : List V) : Prop :=
  Rd H a (.tup xs) ∨
    ∃ (o : Obj) (its : Array Value) (n : Nat), K.lookup a = some o ∧ o.cls = .type "tuple" ∧ o.data = .seq its n ∧ its.size ≤ sizeLine ∧ Vals xs its.toList
def absV : Value → Option V
  | .none => some .non
  | .bool b => some (.bl b)
  | .int i _ => some (.int i)
  | .str x _ => some (.str x)
  | .bytes b _ => some (.byt b)
  | .float b _ => some (.flt b)
  | .ref a => some (.ref a)
  | .type n => some (.ty n)
  | _ => none
theorem RelV.abs {x : V} {u : Value} (r : RelV x u) : absV u = some x := by
  cases x with
  | non => cases r; rfl
  | bl _ => cases r; rfl
  | int _ => obtain ⟨t, rfl⟩ := r; rfl
  | str _ => obtain ⟨t, rfl⟩ := r; rfl
  | byt _ => obtain ⟨t, rfl⟩ := r; rfl
  | flt _ => obtain ⟨t, rfl⟩ := r; rfl
  | ref _ => cases r; rfl
  | ty _ => cases r; rfl
theorem RelV.inj {x y : V} {u : Value} (r : RelV x u) (q : RelV y u) : x = y := Option.some.inj (r.abs.symm.trans q.abs)
theorem Vals.inj : ∀ {xs ys : List V} {us : List Value}, Vals xs us → Vals ys us → xs = ys
  | _, _, _, .nil, .nil => rfl
  | _, _, _, .cons r t, .cons r' t' => by rw [r.inj r', Vals.inj t t']
section
variable {X : Cx} {pins : List (Addr × Obj)} {σ : St} {H : Hp} {s : Shared} {a : Addr} {xs ys : List V}
theorem SqL.of {K : PySem.W.Frag} (h : H a = some (.lst xs)) : SqL K H a xs := .inl (.inl h)
theorem SqT.of {K : PySem.W.Frag} (h : H a = some (.tup xs)) : SqT K H a xs := .inl (.inl h)
theorem Inv.list (I : Inv X pins σ H s) (h : SqL X.K H a xs) : ∃ its : List Value, Vals xs its ∧ PlainL s.heap a its.toArray ∧ xs.length ≤ sizeLine := by
  rcases h with h | ⟨o, its, n, hk, hc, hd, hs, hz, r⟩
  · obtain ⟨z, its, n, r, e⟩ := h.ok I.hok
    exact ⟨its, r, ⟨_, n, e, rfl, rfl, rfl⟩, z⟩
  · refine ⟨its.toList, r, ⟨o, n, I.kIn a o hk, hc, hd, by simpa using hs⟩, ?_⟩
    have e := r.length
    simp only [Array.length_toList] at e
    omega
theorem Inv.tuple (I : Inv X pins σ H s) (h : SqT X.K H a xs) : ∃ its : List Value, Vals xs its ∧ IsTup s.heap a its.toArray ∧ xs.length ≤ sizeLine := by
  rcases h with h | ⟨o, its, n, hk, hc, hs, hz, r⟩
  · obtain ⟨z, its, r, p⟩ := h.ok I.hok
    exact ⟨its, r, p, z⟩
  · refine ⟨its.toList, r, ⟨o, I.kIn a o hk, hc, n, by simpa using hs⟩, ?_⟩
    have e := r.length
    simp only [Array.length_toList] at e
    omega
theorem Inv.list_inj (I : Inv X pins σ H s) (h : SqL X.K H a xs) (h' : SqL X.K H a ys) : xs = ys := by
  obtain ⟨its, r, ⟨o, n, e, _, _, d⟩, _⟩ := I.list h
  obtain ⟨its', r', ⟨o', n', e', _, _, d'⟩, _⟩ := I.list h'
  rw [e] at e'; cases e'
  rw [d] at d'
  injection d' with d1 _
  have : its = its' := by simpa using congrArg Array.toList d1
  subst this
  exact r.inj r'
theorem Inv.tuple_inj (I : Inv X pins σ H s) (h : SqT X.K H a xs) (h' : SqT X.K H a ys) : xs = ys := by
  obtain ⟨its, r, ⟨o, e, _, n, d⟩, _⟩ := I.tuple h
  obtain ⟨its', r', ⟨o', e', _, n', d'⟩, _⟩ := I.tuple h'
  rw [e] at e'; cases e'
  rw [d] at d'
  injection d' with d1 _
  have : its = its' := by simpa using congrArg Array.toList d1
  subst this
  exact r.inj r'
end

/-! ### another wish about exceptions -/
abbrev Cx.wish (X : Cx) (E : Value → Shared → Prop) : Cx := { X with xe := E }
/-- no exception leaves -/
abbrev Cx.nox (X : Cx) : Cx := X.wish fun _ _ => False
theorem Cx.Ok.wish {X : Cx} (ok : X.Ok) (E : Value → Shared → Prop) : (X.wish E).Ok :=
  ⟨ok.mod, ok.kind, ok.glob, ok.blt, ok.above, ok.inj, ok.has, ok.cab, ok.hd, ok.frames, ok.stk, ok.exf, ok.bs, ok.bsz, ok.noex, ok.exfs, ok.funs, ok.frf⟩
theorem Cx.Ok.unwish {X : Cx} {E : Value → Shared → Prop} (ok : (X.wish E).Ok) : X.Ok :=
  ⟨ok.mod, ok.kind, ok.glob, ok.blt, ok.above, ok.inj, ok.has, ok.cab, ok.hd, ok.frames, ok.stk, ok.exf, ok.bs, ok.bsz, ok.noex, ok.exfs, ok.funs, ok.frf⟩
section
variable {X : Cx} {pins : List (Addr × Obj)} {σ : St} {H : Hp} {s : Shared} {E : Value → Shared → Prop}
theorem Inv.wish (I : Inv X pins σ H s) (E : Value → Shared → Prop) : Inv (X.wish E) pins σ H s := ⟨I.ok.wish E, I.os, I.bare, I.base, I.loc, I.cell, I.free, I.freeC, I.pin, I.hok, I.len⟩
theorem Inv.unwish (I : Inv (X.wish E) pins σ H s) : Inv X pins σ H s := ⟨I.ok.unwish, I.os, I.bare, I.base, I.loc, I.cell, I.free, I.freeC, I.pin, I.hok, I.len⟩
theorem SP.unwish {D : Ends} {f : Flow} {s' : Shared} (h : SP (X.wish E) pins D f s') : SP X pins D f s' := by
  cases f with
  | next => obtain ⟨σ', H', I, q⟩ := h; exact ⟨σ', H', I.unwish, q⟩
  | brk => obtain ⟨σ', H', I, q⟩ := h; exact ⟨σ', H', I.unwish, q⟩
  | cont => obtain ⟨σ', H', I, q⟩ := h; exact ⟨σ', H', I.unwish, q⟩
  | ret u => obtain ⟨v, σ', H', I, r, q⟩ := h; exact ⟨v, σ', H', I.unwish, r, q⟩
theorem PE.nox {e : Expr} {t : TE} (h : PE X.nox e t) : PE X e t := fun pins s σ H Q I hw =>
  wpAny_mono (h pins s σ H Q (I.wish _) hw) (fun _ _ ⟨v, H', I', r, q⟩ => ⟨v, H', I'.unwish, r, q⟩) fun _ _ z => False.elim z
theorem PT.nox {e : Expr} {t : TT} (h : PT X.nox e t) : PT X e t := fun pins s σ H Q I hw =>
  wpAny_mono (h pins s σ H Q (I.wish _) hw) (fun _ _ ⟨H', I', q⟩ => ⟨H', I'.unwish, q⟩) fun _ _ z => False.elim z
theorem PSs.nox {st : List Stmt} {t : TS} (h : PSs X.nox st t) : PSs X st t := fun pins s σ H D I hw =>
  wpAny_mono (h pins s σ H D (I.wish _) hw) (fun _ _ q => q.unwish) fun _ _ z => False.elim z
end

/-! ### blocks and small statements -/
section
variable {X : Cx} {st : Stmt} {rest : List Stmt} {t u : TS} {e : Expr} {te : TE} {pos : Pos}
def tNext : TS := fun D σ H => D.nx σ H
def tSeq (t u : TS) : TS := fun D σ H => t { D with nx := u D } σ H
theorem pss_nil : PSs X [] tNext := fun _ _ σ H _ I h => wpAny_execs_nil ⟨σ, H, I, h⟩
theorem pss_cons (h1 : PS X st t) (h2 : PSs X rest u) : PSs X (st :: rest) (tSeq t u) := by
  intro pins s σ H D I h
  refine wpAny_execs_cons (thn (h1 pins s σ H { D with nx := u D } I h) fun f s1 q => ?_)
  cases f with
  | next =>
    obtain ⟨σ', H', I', q⟩ := q
    exact h2 pins s1 σ' H' D I' q
  | ret v => exact q
  | brk => exact q
  | cont => exact q
theorem pss_one (h1 : PS X st t) : PSs X [st] t := by
  intro pins s σ H D I h
  refine wpAny_execs_cons (thn (h1 pins s σ H D I h) fun f s1 q => ?_)
  cases f with
  | next => exact wpAny_execs_nil q
  | ret v => exact q
  | brk => exact q
  | cont => exact q
def tBreak : TS := fun D σ H => D.bk σ H
def tCont : TS := fun D σ H => D.ct σ H
theorem ps_pass : PS X (.Pass pos) tNext := fun _ _ σ H _ I h => wpAny_Pass ⟨σ, H, I, h⟩
theorem ps_break : PS X (.Break pos) tBreak := fun _ _ σ H _ I h => wpAny_Break ⟨σ, H, I, h⟩
theorem ps_continue : PS X (.Continue pos) tCont := fun _ _ σ H _ I h => wpAny_Continue ⟨σ, H, I, h⟩
/-- in a def's body nothing is shown -/
theorem Inv.quiet {pins : List (Addr × Obj)} {σ : St} {H : Hp} {s : Shared} (I : Inv X pins σ H s) : interactive X.env = false := by simp [interactive, I.ok.kind]
/-- a docstring -/
theorem ps_doc {x j pos pos'} : PS X (.Expr (.Constant (.str x) j pos) pos') tNext := fun _ s σ H _ I h => wpAny_Expr (Calls.Constant_str (show SP X _ _ .next { s with toks := s.toks + 1 } from ⟨σ, H, I.tok _, h⟩)) I.quiet
/-- an expression whose value is dropped -/
def tDrop (te : TE) : TS := fun D σ H => te σ H fun _ H1 => D.nx σ H1
theorem ps_expr (he : PE X e te) (hs : swapsWith e none pos.line X.env = pure false := by rfl) : PS X (.Expr e pos) (tDrop te) := by
  intro pins s σ H D I h
  exact wpAny_Expr_any (thn (he pins s σ H _ I h) fun v s1 ⟨x, H1, I1, r1, q1⟩ => ⟨σ, H1, I1, q1⟩) I.quiet hs
def tRet (te : TE) : TS := fun D σ H => te σ H D.rt
theorem ps_ret (he : PE X e te) : PS X (.Return (some e) pos) (tRet te) := by
  intro pins s σ H D I h
  exact wpAny_Return_some (thn (he pins s σ H _ I h) fun v s1 ⟨x, H1, I1, r1, q1⟩ => ⟨x, σ, H1, I1, r1, q1⟩)
def tRetN : TS := fun D _ H => D.rt .non H
theorem ps_retN : PS X (.Return none pos) tRetN := fun _ _ σ H _ I h => wpAny_Return_none ⟨.non, σ, H, I, rfl, h⟩
def tIfS (c : TT) (t u : TS) : TS := fun D σ H => c σ H fun b H1 => if b = true then t D σ H1 else u D σ H1
theorem ps_if {c : Expr} {a b : List Stmt} {tc : TT} (hc : PT X c tc) (ha : PSs X a t) (hb : PSs X b u) : PS X (.If c a b pos) (tIfS tc t u) := by
  intro pins s σ H D I h
  refine wpAny_If (thn (hc pins s σ H _ I h) fun d s1 ⟨H1, I1, q1⟩ => ?_)
  cases d with
  | true => exact ha pins s1 σ H1 D I1 q1
  | false => exact hb pins s1 σ H1 D I1 q1
/-- code that the proof never comes to -/
def tNever : TS := fun _ _ _ => False
theorem ps_never : PS X st tNever := fun _ _ _ _ _ _ h => h.elim
theorem pss_never {sts : List Stmt} : PSs X sts tNever := fun _ _ _ _ _ _ h => h.elim
end

/-! ### targets -/
abbrev TG := V → St → Hp → (St → Hp → Prop) → Prop
abbrev TGs := List V → St → Hp → (St → Hp → Prop) → Prop
def PG (X : Cx) (target : Expr) (t : TG) : Prop :=
  ∀ (pins : List (Addr × Obj)) (s : Shared) (σ : St) (H : Hp) (v : V) (u : Value) (Q : St → Hp → Prop), Inv X pins σ H s → RelV v u → t v σ H Q →
    wpAny (model X.prog X.w) X.A (assign target X.env u) (fun _ s' => ∃ σ' H', Inv X pins σ' H' s' ∧ Q σ' H') X.xe s
/-- several targets, one after another -/
def PGs (X : Cx) (ts : List Expr) (t : TGs) : Prop :=
  ∀ (pins : List (Addr × Obj)) (s : Shared) (σ : St) (H : Hp) (vs : List V) (us : List Value) (Q : St → Hp → Prop), Inv X pins σ H s → Vals vs us → t vs σ H Q →
    wpAny (model X.prog X.w) X.A (assignInOrder ((assignEach ts X.env).map (·.2)) us) (fun _ s' => ∃ σ' H', Inv X pins σ' H' s' ∧ Q σ' H') X.xe s
/-- o[i] = v, by values -/
abbrev TSet := V → V → V → Hp → (Hp → Prop) → Prop
def PSet (X : Cx) (t : TSet) : Prop :=
  ∀ (pins : List (Addr × Obj)) (s : Shared) (σ : St) (H : Hp) (o i v : V) (ov iv u : Value) (Q : Hp → Prop), Inv X pins σ H s → RelV o ov → RelV i iv → RelV v u → t o i v H Q →
    wpAny (model X.prog X.w) X.A (setItem ov iv u) (fun _ s' => ∃ H', Inv X pins σ H' s' ∧ Q H') X.xe s
/-- a op= b, by values -/
abbrev TIp := V → V → Hp → VK → Prop
def PIp (X : Cx) (op : Operator) (t : TIp) : Prop :=
  ∀ (pins : List (Addr × Obj)) (s : Shared) (σ : St) (H : Hp) (x y : V) (v u : Value) (Q : VK), Inv X pins σ H s → RelV x v → RelV y u → t x y H Q →
    wpAny (model X.prog X.w) X.A (inplaceOp op v u) (EP X pins σ Q) X.xe s
section
variable {X : Cx} {pos : Pos}
def gName (i : Nat) : TG := fun v σ H Q => Q (σ.set i (some v)) H
theorem pg_name {i : Nat} {x : Str} (hN : X.N.Nodup) (hi : X.N[i]? = some x) (hx : Loc X.env.scope x) (hf : X.fn x = true ∨ X.env.scope.names.lookup x = some .local := by first | exact .inl rfl | exact .inr rfl | assumption) : PG X (.Name x pos) (gName i) := by
  intro pins s σ H v u Q I r h
  exact wpAny_assign_Name (store_ok I hN hi hx r (fun s' I' => ⟨_, H, I', h⟩) hf)
def gNil : TGs := fun vs σ H Q => vs = [] ∧ Q σ H
def gCons (t : TG) (u : TGs) : TGs := fun vs σ H Q => ∃ v r, vs = v :: r ∧ t v σ H fun σ' H' => u r σ' H' Q
theorem pgs_nil : PGs X [] gNil := by
  intro pins s σ H vs us Q I r h
  obtain ⟨e, h⟩ := h
  subst e
  cases r
  exact assignInOrder_nil ⟨σ, H, I, h⟩
theorem pgs_cons {e : Expr} {es : List Expr} {t : TG} {u : TGs} (h1 : PG X e t) (h2 : PGs X es u)
    (hs : (assignEach (e :: es) X.env).map (·.2) = assign e X.env :: (assignEach es X.env).map (·.2) := by rfl) : PGs X (e :: es) (gCons t u) := by
  intro pins s σ H vs us Q I r h
  obtain ⟨v, vr, e1, h⟩ := h
  subst e1
  cases r with
  | cons r rr =>
    rw [hs]
    refine assignInOrder_cons (thn (h1 pins s σ H _ _ _ I r h) fun _ s1 ⟨σ1, H1, I1, q1⟩ => ?_)
    exact h2 pins s1 σ1 H1 _ _ Q I1 rr q1
/-- (a, b, ..) = a tuple of that length -/
def gTup (K : PySem.W.Frag) (n : Nat) (t : TGs) : TG := fun v σ H Q => ∃ a xs, v = .ref a ∧ SqT K H a xs ∧ xs.length = n ∧ t xs σ H Q
theorem pg_tup {es : List Expr} {k : Nat} {t : TGs} {n : Nat} (hc : X.calm = true) (h : PGs X es t)
    (hn : (assignEach es X.env).length = n := by rfl) (hst : (assignEach es X.env).findIdx? (·.1) = none := by rfl) : PG X (.Tuple es k pos) (gTup X.K n t) := by
  intro pins s σ H v u Q I r hw
  obtain ⟨a, xs, e1, hq, hl, hw⟩ := hw
  subst e1
  cases r
  obtain ⟨its, rv, ht, hz⟩ := I.tuple hq
  refine assign_Tuple_tuple (I.ok.hd hc) ht (by simp [hn, ← hl, rv.length]) hst fun h' hx => ?_
  have I1 : Inv X pins σ H { s with heap := h' } := I.kept (t' := s.toks) fun b o e => hx b o (Nat.ne_of_lt (Heap.lt_size e)) e
  exact h pins _ σ H xs _ Q I1 (by simpa using rv) hw
/-- o[i] = .. -/
def gSub (to ti : TE) (t : TSet) : TG := fun v σ H Q => to σ H fun o H1 => ti σ H1 fun i H2 => t o i v H2 fun H3 => Q σ H3
theorem pg_sub {o i : Expr} {to ti : TE} {t : TSet} (ho : PE X o to) (hi : PE X i ti) (hs : PSet X t)
    (ha : ∀ v, assign (.Subscript o i pos) X.env v = (do
      let ov ← holding [v] (eval o X.env)
      let iv ← holding [v, ov] (eval i X.env)
      standAt pos
      holding [v, ov, iv] (setItem ov iv v)
      release [v, ov, iv] []) := by intro _; rfl) : PG X (.Subscript o i pos) (gSub to ti t) := by
  intro pins s σ H v u Q I r h
  rw [ha]
  refine wpAny_bind (wpAny_holding (thn (ho pins s σ H _ I h) fun ov s1 ⟨x, H1, I1, r1, q1⟩ => ?_))
  refine wpAny_bind (wpAny_holding (thn (hi pins s1 σ H1 _ I1 q1) fun iv s2 ⟨y, H2, I2, r2, q2⟩ => ?_))
  refine wpAny_bind (wpAny_standAt (wpAny_bind (wpAny_holding (thn (hs pins s2 σ H2 x y v ov iv u _ I2 r1 r2 r q2) fun _ s3 ⟨H3, I3, q3⟩ => ?_))))
  exact wpAny_release ⟨σ, H3, I3, q3⟩
/-- target = value -/
def tAsg (te : TE) (g : TG) : TS := fun D σ H => te σ H fun x H1 => g x σ H1 D.nx
theorem ps_asg {tg e : Expr} {te : TE} {g : TG} (he : PE X e te) (hg : PG X tg g) (hs : swapsWithSole [tg] e pos.line X.env = pure false := by rfl) (hw : swappedStores [tg] e X.env = pure none := by rfl)
    (h1 : (assignEach [tg] X.env).map (·.2) = [assign tg X.env] := by rfl) : PS X (.Assign [tg] e pos) (tAsg te g) := by
  intro pins s σ H D I h
  refine wpAny_Assign_stores (thn (he pins s σ H _ I h) fun v s1 ⟨x, H1, I1, r1, q1⟩ => ?_) hs hw
  rw [h1]
  exact thn (hg pins s1 σ H1 x v _ I1 r1 q1) fun _ s2 q => q
/-- name = value -/
theorem ps_set {i : Nat} {x : Str} {e : Expr} {te : TE} {pos' : Pos} (hN : X.N.Nodup) (hi : X.N[i]? = some x) (hx : Loc X.env.scope x) (he : PE X e te) (hs : swapsWith e (some (.Name x pos')) pos.line X.env = pure false := by rfl) (hf : X.fn x = true ∨ X.env.scope.names.lookup x = some .local := by first | exact .inl rfl | exact .inr rfl | assumption) :
    PS X (.Assign [.Name x pos'] e pos) (tAsg te (gName i)) := by
  intro pins s σ H D I h
  refine wpAny_Assign_Name (thn (he pins s σ H _ I h) fun v s1 ⟨y, H1, I1, r1, q1⟩ => ?_) hs
  exact store_ok I1 hN hi hx r1 (fun s2 I2 => ⟨_, H1, I2, q1⟩) hf
/-- a, b = x, y with plain local names: stored from the right; the pair itself is not tracked (the opening rows as in PyProof/Rows/TupAssign.lean:23) -/
def tPar (i j : Nat) (ta : TA) : TS := fun D σ H => ta σ H fun vs H1 => ∃ v w, vs = [v, w] ∧ D.nx ((σ.set i (some v)).set j (some w)) H1
theorem ps_par {i j : Nat} {x y : Str} {a b : Expr} {ta : TA} {px py pt : Pos} {kt k2 pt2} (hc : X.calm = true) (hN : X.N.Nodup) (hi : X.N[i]? = some x) (hj : X.N[j]? = some y) (hij : i ≠ j)
    (hx : X.env.scope.names.lookup x = some .local) (hy : X.env.scope.names.lookup y = some .local) (ha : PA X [a, b] ta)
    (hw : swappedStores [.Tuple [.Name x px, .Name y py] kt pt] (.Tuple [a, b] k2 pt2) X.env = pure (some [x, y]))
    (hs : swapsWithSole [.Tuple [.Name x px, .Name y py] kt pt] (.Tuple [a, b] k2 pt2) pos.line X.env = pure false := by rfl) :
    PS X (.Assign [.Tuple [.Name x px, .Name y py] kt pt] (.Tuple [a, b] k2 pt2) pos) (tPar i j ta) := by
  intro pins s σ H D I h
  rw [exec_Assign_arm]
  refine wpAny_bind (wpAny_standAt ?_)
  rw [hs]
  refine wpAny_bind (wpAny_pure ?_)
  rw [if_neg (by decide)]
  refine wpAny_bind (Tuple_ (thn (ha _ pins s σ H _ I h) fun us s1 ⟨vs, H1, I1, r1, q1⟩ => ?_))
  obtain ⟨v, w, e1, q1⟩ := q1
  subst e1
  obtain ⟨u1, u2, rfl, rv, rw'⟩ : ∃ u1 u2, us = [u1, u2] ∧ RelV v u1 ∧ RelV w u2 := by
    cases r1 with
    | cons p q =>
      cases q with
      | cons p' q' =>
        cases q'
        exact ⟨_, _, rfl, p, p'⟩
  refine wpAny_newObj_type ?_ (by show 2 ≤ sizeLine; decide)
  have I2 : Inv X pins σ H1 { s1 with heap := s1.heap.push { cls := .type "tuple", data := .seq [u1, u2].toArray } } := I1.kept (t' := s1.toks) fun b o e => Heap.get?_push_of_some _ e
  rw [hw]
  refine wpAny_bind (wpAny_pure ?_)
  show wpAny (model X.prog X.w) X.A (do rule "assign.swapped-stores"; let items ← unpackItems (.ref s1.heap.objs.size) 2 none; assignInOrder [fun v => bindName X.env y v, fun v => bindName X.env x v] items.reverse; pure Flow.next) _ _ _
  refine wpAny_bind (wpAny_rule (wpAny_bind (unpackItems_tuple (items := #[u1, u2]) (I.ok.hd hc) (IsTup.new s1.heap _) fun h' hx' => ?_)))
  have I3 := I2.kept (h' := h') (t' := s1.toks) fun b o e => hx' b o (Nat.ne_of_lt (Heap.lt_size e)) e
  show wpAny _ _ (assignInOrder [fun v => bindName X.env y v, fun v => bindName X.env x v] [u2, u1] >>= fun _ => pure Flow.next) _ _ _
  refine wpAny_bind (assignInOrder_cons (wpAny_bindName (store_ok I3 hN hj (.inl hy) rw' (fun s2 I4 => ?_) (.inr hy))))
  refine assignInOrder_cons (wpAny_bindName (store_ok I4 hN hi (.inl hx) rv (fun s3 I5 => assignInOrder_nil (wpAny_pure ?_)) (.inr hx)))
  rw [List.set_comm _ _ (Ne.symm hij)] at I5
  exact ⟨_, H1, I5, q1⟩
/-- name op= e -/
def tAug (i : Nat) (te : TE) (ti : TIp) : TS := fun D σ H => ∃ x, σ[i]? = some (some x) ∧ te σ H fun y H1 => ti x y H1 fun z H2 => D.nx (σ.set i (some z)) H2
theorem ps_aug {i : Nat} {x : Str} {e : Expr} {te : TE} {op : Operator} {ti : TIp} {pos' : Pos} (hN : X.N.Nodup) (hi : X.N[i]? = some x) (hx : Loc X.env.scope x) (he : PE X e te) (ho : PIp X op ti) (hf : X.fn x = true ∨ X.env.scope.names.lookup x = some .local := by first | exact .inl rfl | exact .inr rfl | assumption) :
    PS X (.AugAssign (.Name x pos') op e pos) (tAug i te ti) := by
  intro pins s σ H D I h
  obtain ⟨v, e1, h⟩ := h
  obtain ⟨m, hn, hl⟩ := I.loc
  have vis : Vis X.env.scope x := by rcases hx with k | k; exact .inl k; exact .inr (.inl k)
  obtain ⟨u, r, l⟩ := hl i x v hi e1 vis
  refine wpAny_AugAssign_Name ?_
  have go : wpAny (model X.prog X.w) X.A (eval e X.env) (fun w s₂ => wpAny (model X.prog X.w) X.A (inplaceOp op u w) (fun r s₃ => wpAny (model X.prog X.w) X.A (storeName X.env x r) (fun _ => SP X pins D .next) X.xe s₃) X.xe s₂) X.xe s := by
    refine thn (he pins s σ H _ I h) fun w s1 ⟨y, H1, I1, r1, q1⟩ => ?_
    refine thn (ho pins s1 σ H1 v y u w _ I1 r r1 q1) fun z s2 ⟨zv, H2, I2, r2, q2⟩ => ?_
    exact store_ok I2 hN hi hx r2 (fun s3 I3 => ⟨_, H2, I3, q2⟩) hf
  rcases l with ⟨hk, hm⟩ | ⟨hk, c, hc, hcell⟩
  · exact wpAny_loadName_local I.ok.kind hk hn hm go
  · rcases hk with hk | hk
    · exact wpAny_loadName_cell I.ok.kind hk hc hcell go
    · rcases hx with k | k
      · have : X.env.scope.names.lookup x = some .free := hk
        rw [k] at this; cases this
      · have : X.env.scope.names.lookup x = some .free := hk
        rw [k] at this; cases this
/-- o[i] op= e -/
def tAugS (to ti te : TE) (tget : V → V → Hp → VK → Prop) (tip : TIp) (tset : TSet) : TS := fun D σ H => to σ H fun o H1 => ti σ H1 fun i H2 => tget o i H2 fun x H3 => te σ H3 fun y H4 => tip x y H4 fun z H5 => tset o i z H5 fun H6 => D.nx σ H6
/-- o[i], by values -/
def PGet (X : Cx) (t : V → V → Hp → VK → Prop) : Prop :=
  ∀ (pins : List (Addr × Obj)) (s : Shared) (σ : St) (H : Hp) (o i : V) (ov iv : Value) (Q : VK), Inv X pins σ H s → RelV o ov → RelV i iv → t o i H Q →
    wpAny (model X.prog X.w) X.A (getItem ov iv) (EP X pins σ Q) X.xe s
theorem ps_augS {o i e : Expr} {to ti te : TE} {tget : V → V → Hp → VK → Prop} {tip : TIp} {tset : TSet} {op : Operator} {tpos : Pos} (ho : PE X o to) (hi : PE X i ti) (hg : PGet X tget) (he : PE X e te) (hp : PIp X op tip) (hs : PSet X tset)
    (ha : ∀ ov iv new, augStore i ov iv new = (do holding [new, ov, iv] (setItem ov iv new); release [new, ov, iv] []; pure .next) := by intros; rfl) : PS X (.AugAssign (.Subscript o i tpos) op e pos) (tAugS to ti te tget tip tset) := by
  intro pins s σ H D I h
  refine wpAny_AugAssign_SubscriptAny (thn (ho pins s σ H _ I h) fun ov s1 ⟨x1, H1, I1, r1, q1⟩ => ?_) ha
  refine thn (hi pins s1 σ H1 _ I1 q1) fun iv s2 ⟨x2, H2, I2, r2, q2⟩ => ?_
  refine thn (hg pins s2 σ H2 x1 x2 ov iv _ I2 r1 r2 q2) fun old s3 ⟨x3, H3, I3, r3, q3⟩ => ?_
  refine thn (he pins s3 σ H3 _ I3 q3) fun v s4 ⟨x4, H4, I4, r4, q4⟩ => ?_
  refine thn (hp pins s4 σ H4 x3 x4 old v _ I4 r3 r4 q4) fun new s5 ⟨x5, H5, I5, r5, q5⟩ => ?_
  exact thn (hs pins s5 σ H5 x1 x2 x5 ov iv new _ I5 r1 r2 r5 q5) fun _ s6 ⟨H6, I6, q6⟩ => ⟨σ, H6, I6, q6⟩
/-- ints -/
def ipI (f : Int → Int → Int) : TIp := fun x y H Q => ∃ i j, x = .int i ∧ y = .int j ∧ Q (.int (f i j)) H
theorem ip_add : PIp X .Add (ipI fun i j => i + j) := by
  intro pins s σ H x y v u Q I r1 r2 h
  obtain ⟨i, j, e1, e2, q⟩ := h
  subst e1; subst e2
  obtain ⟨t, rfl⟩ := r1
  obtain ⟨t', rfl⟩ := r2
  exact iadd_int ⟨.int _, H, I.tok _, ⟨_, rfl⟩, q⟩
theorem ip_sub : PIp X .Sub (ipI fun i j => i - j) := by
  intro pins s σ H x y v u Q I r1 r2 h
  obtain ⟨i, j, e1, e2, q⟩ := h
  subst e1; subst e2
  obtain ⟨t, rfl⟩ := r1
  obtain ⟨t', rfl⟩ := r2
  exact isub_int ⟨.int _, H, I.tok _, ⟨_, rfl⟩, q⟩
end

/-! ### while -/
section
variable {X : Cx} {pos : Pos}
/-- the invariant W with its measure -/
def tWhile (c : TT) (tb : TS) : TS := fun D σ H => ∃ W : Nat → St → Hp → Prop, (∃ m, W m σ H) ∧ ∀ m σ H, W m σ H →
  c σ H fun b H1 => if b = true then ∃ N : St → Hp → Prop, (∀ σ' H', N σ' H' → ∃ m', m' < m ∧ W m' σ' H') ∧ tb { D with nx := N, ct := N, bk := D.nx } σ H1 else D.nx σ H1
theorem ps_while {c : Expr} {body : List Stmt} {tc : TT} {tb : TS} (hp : PassesOwn (model X.prog X.w) X.A X.env X.xe) (hc : PT X c tc) (hb : PSs X body tb) : PS X (.While c body [] pos) (tWhile tc tb) := by
  intro pins s σ H D I h
  obtain ⟨W, ⟨m0, w0⟩, turn⟩ := h
  refine wpAny_While (codeAny_whileLoop (fun n s' => ∃ σ' H', Inv X pins σ' H' s' ∧ W n σ' H') ?_ m0 ⟨σ, H, I, w0⟩)
  rintro n s1 ⟨σ1, H1, I1, w1⟩
  refine wpAny_passesOwn hp (thn (hc pins s1 σ1 H1 _ I1 (turn n σ1 H1 w1)) fun b s2 ⟨H2, I2, q2⟩ => ?_)
  cases b with
  | true =>
    obtain ⟨N, hN, q2⟩ := q2
    rw [if_pos rfl]
    refine wpAny_passesOwn hp (thn (hb pins s2 σ1 H2 _ I2 q2) fun f s3 q3 => ?_)
    cases f with
    | next =>
      obtain ⟨σ3, H3, I3, n3⟩ := q3
      obtain ⟨m', hm, w3⟩ := hN σ3 H3 n3
      exact ⟨m', hm, σ3, H3, I3, w3⟩
    | cont =>
      obtain ⟨σ3, H3, I3, n3⟩ := q3
      obtain ⟨m', hm, w3⟩ := hN σ3 H3 n3
      exact ⟨m', hm, σ3, H3, I3, w3⟩
    | brk => exact q3
    | ret v => exact q3
  | false =>
    rw [if_neg Bool.false_ne_true]
    exact wpAny_execs_nil ⟨σ1, H2, I2, q2⟩
end

/-! ### what a loop or a comprehension walks -/
/-- at turn i: it yields x (the heap may grow), or it stops -/
structure It where
  go : Nat → Hp → Prop
  yld : Nat → Hp → V → Hp → Prop
  stop : Nat → Hp → Prop
/-- the iterator's own objects may turn: they are not the frame's, not pinned, younger than the entry (or a comprehension's own) -/
def FpOk (X : Cx) (pins : List (Addr × Obj)) (H : Hp) (b : Addr) : Prop :=
  H b = none ∧ b ≠ X.env.locals ∧ b ∉ X.fs ∧ (b ∈ X.ex ∨ X.s₀.heap.objs.size ≤ b) ∧ (∀ x c, X.env.cells.lookup x = some c → c ≠ b) ∧ ∀ p ∈ X.pn ++ pins, p.1 ≠ b
theorem Inv.fpOk {X : Cx} {pins : List (Addr × Obj)} {σ : St} {H H' : Hp} {s : Shared} {b : Addr} (I : Inv X pins σ H s) (hb : s.heap.objs.size ≤ b) (hn : H' b = none) : FpOk X pins H' b := by
  refine ⟨hn, Nat.ne_of_gt (Nat.lt_of_lt_of_le I.lt hb), I.nofs hb, .inr (Nat.le_trans I.sz hb), fun x c e z => ?_, fun p hp z => ?_⟩
  · obtain ⟨v, q⟩ := I.cell x c e
    exact absurd (Nat.lt_of_lt_of_le q.lt (by rw [z]; exact hb)) (Nat.lt_irrefl _)
  · exact absurd (Nat.lt_of_lt_of_le (Heap.lt_size (I.pin p hp).1) (by rw [z]; exact hb)) (Nat.lt_irrefl _)
structure Turn (P : Program) (w : World) (K : PySem.W.Frag) (tg : Expr) (J : It) (fp : List Addr) (it : Addr) (tn : Nat → Heap → Prop) : Prop where
  mem : it ∈ fp
  obj : ∀ i h, tn i h → ∀ b ∈ fp, ∃ o, h.get? b = some o ∧ ∀ v, o.data ≠ .cell v
  keep : ∀ i h h', tn i h → (∀ b ∈ fp, ∀ o, h.get? b = some o → h'.get? b = some o) → tn i h'
  item : ∀ (X : Cx), X.prog = P → X.w = w → X.K = K → X.calm = true → ∀ (i : Nat) (pins : List (Addr × Obj)) (s : Shared) (σ : St) (H : Hp) (E : Value → Shared → Prop), Inv X pins σ H s → (∀ b ∈ fp, FpOk X pins H b) → tn i s.heap → J.go i H →
    wpAny (model P w) X.A (pyNext (.ref it)) (fun r s1 => ∃ u, r = some u ∧
      wpAny (model P w) X.A (letOwnedTupleGo tg (.ref it) u) (fun _ s2 => ∃ x H', Inv X pins σ H' s2 ∧ RelV x u ∧ J.yld i H x H' ∧ tn (i + 1) s2.heap ∧ ∀ b ∈ fp, H' b = none) E s1) E s
  done : ∀ (X : Cx), X.prog = P → X.w = w → X.K = K → X.calm = true → ∀ (i : Nat) (pins : List (Addr × Obj)) (s : Shared) (σ : St) (H : Hp) (E : Value → Shared → Prop), Inv X pins σ H s → (∀ b ∈ fp, FpOk X pins H b) → tn i s.heap → J.stop i H →
    wpAny (model P w) X.A (pyNext (.ref it)) (fun r s1 => r = none ∧ Inv X pins σ H s1) E s
  self : ∀ (A : Around) (i : Nat) (s : Shared) (Q : Value → Shared → Prop) (E : Value → Shared → Prop), tn i s.heap → Q (.ref it) s → wpAny (model P w) A (pyIter (.ref it)) Q E s
abbrev TI := St → Hp → (It → Hp → Prop) → Prop
/-- an iterator has come -/
def PIE (X : Cx) (pins : List (Addr × Obj)) (σ : St) (tg : Expr) (R : It → Hp → Prop) (itv : Value) (s2 : Shared) : Prop :=
  ∃ (it : Addr) (fp : List Addr) (tn : Nat → Heap → Prop) (J : It) (H' : Hp), itv = .ref it ∧ Inv X pins σ H' s2 ∧ Turn X.prog X.w X.K tg J fp it tn ∧ tn 0 s2.heap ∧ (∀ b ∈ fp, FpOk X pins H' b) ∧ R J H'
def PI (X : Cx) (tg iter : Expr) (wi : TI) : Prop :=
  ∀ (pins : List (Addr × Obj)) (s : Shared) (σ : St) (H : Hp) (R : It → Hp → Prop), Inv X pins σ H s → wi σ H R →
    wpAny (model X.prog X.w) X.A (eval iter X.env) (fun v s1 => wpAny (model X.prog X.w) X.A (pyIter v) (PIE X pins σ tg R) X.xe s1) X.xe s

/-- the step ahead of the store is nothing for an iterator that keeps no tuple -/
theorem go_of {M : Model} {A : Around} {E : Value → Shared → Prop} {s : Shared} {tg : Expr} {it : Addr} {u : Value} {o : Obj} {n : String} {vs : Array Value} {Q : Unit → Shared → Prop} (ho : s.heap.get? it = some o) (hc : o.cls = .type n) (hd : o.data = .fields vs)
    (hn : ["enumerate", "zip", "dict_itemiterator", "dict_reverseitemiterator", "odict_iterator", "itertools.zip_longest", "itertools.pairwise"].contains n = false) (hQ : Q () s) : wpAny M A (letOwnedTupleGo tg (.ref it) u) Q E s := by
  unfold letOwnedTupleGo
  cases tg <;> first
    | exact wpAny_pure hQ
    | (cases u <;> first
        | exact wpAny_pure hQ
        | (refine wpAny_bind (wpAny_load ho ?_)
           rw [hc, hd]
           show wpAny M A (if (["enumerate", "zip", "dict_itemiterator", "dict_reverseitemiterator", "odict_iterator", "itertools.zip_longest", "itertools.pairwise"].contains n && vs[0]? == some (rawInt _)) = true then _ else _) Q E s
           rw [if_neg (by intro h; rw [hn, Bool.false_and] at h; cases h)]
           exact wpAny_pure hQ))

/-- the list at a, as it stands at each turn (a loop may append to it) -/
def Itl (K : PySem.W.Frag) (a : Addr) : It :=
  ⟨fun i H => ∃ xs x, SqL K H a xs ∧ xs[i]? = some x, fun i H x H' => H' = H ∧ ∀ xs, SqL K H a xs → xs[i]? = some x, fun i H => ∃ xs, SqL K H a xs ∧ xs.length ≤ i⟩
def Itt (K : PySem.W.Frag) (a : Addr) : It :=
  ⟨fun i H => ∃ xs x, SqT K H a xs ∧ xs[i]? = some x, fun i H x H' => H' = H ∧ ∀ xs, SqT K H a xs → xs[i]? = some x, fun i H => ∃ xs, SqT K H a xs ∧ xs.length ≤ i⟩
/-- lo, lo + 1, .. (n of them) -/
def Itr (lo : Int) (n : Nat) : It := ⟨fun i _ => i < n, fun i H x H' => H' = H ∧ x = .int (lo + i), fun i _ => n ≤ i⟩
theorem turn_list {P : Program} {w : World} {K : PySem.W.Frag} {tg : Expr} (a it : Addr) : Turn P w K tg (Itl K a) [it] it (fun i h => h.IsListIter it a i) where
  mem := by simp
  obj := fun i h st b hb => by
    have e : b = it := by simpa using hb
    subst e
    obtain ⟨o, e, c, d⟩ := st
    exact ⟨o, e, fun v z => by rw [d] at z; cases z⟩
  keep := fun i h h' st k => st.at fun o e => k it (by simp) o e
  item := by
    intro X hP hw hK hc i pins s σ H E I hf st hg
    subst hP hw hK
    obtain ⟨xs, x, hq, hx⟩ := hg
    obtain ⟨its, rv, p, hz⟩ := I.list hq
    obtain ⟨u, hu, ru⟩ := rv.get hx
    obtain ⟨f0, f1, f2, f3, f4, f5⟩ := hf it (by simp)
    refine wpAny_pyNext_list_item st p.isList (x := u) (by simpa using hu) fun h' st' sb => ?_
    have I1 : Inv X pins σ H { s with heap := h' } := I.turned (t' := s.toks) (fun b o hb e => (sb.2 b hb).trans e) f0 f1 f3 f4 f5
    obtain ⟨o, e, c, d⟩ := id st'
    exact ⟨u, rfl, go_of (s := { s with heap := h' }) e c d (by decide) ⟨x, H, I1, ru, ⟨rfl, fun ys hy => by rw [I.list_inj hy hq]; exact hx⟩, st', fun b hb => (hf b hb).1⟩⟩
  done := by
    intro X hP hw hK hc i pins s σ H E I hf st hg
    subst hP hw hK
    obtain ⟨xs, hq, hx⟩ := hg
    obtain ⟨its, rv, p, hz⟩ := I.list hq
    obtain ⟨f0, f1, f2, f3, f4, f5⟩ := hf it (by simp)
    have hl := rv.length
    exact wpAny_pyNext_list_end (I.ok.hd hc) st p.isList (by simp; omega) fun h' eb => ⟨rfl, I.turned (t' := s.toks) (fun b o hb e => eb b o hb e) f0 f1 f3 f4 f5⟩
  self := fun _ _ _ _ _ st h => wpAny_pyIter_listiter st h
theorem turn_tuple {P : Program} {w : World} {K : PySem.W.Frag} {tg : Expr} (a it : Addr) : Turn P w K tg (Itt K a) [it] it (fun i h => h.IsTupleIter it a i) where
  mem := by simp
  obj := fun i h st b hb => by
    have e : b = it := by simpa using hb
    subst e
    obtain ⟨o, e, c, d⟩ := st
    exact ⟨o, e, fun v z => by rw [d] at z; cases z⟩
  keep := fun i h h' st k => st.at fun o e => k it (by simp) o e
  item := by
    intro X hP hw hK hc i pins s σ H E I hf st hg
    subst hP hw hK
    obtain ⟨xs, x, hq, hx⟩ := hg
    obtain ⟨its, rv, p, hz⟩ := I.tuple hq
    obtain ⟨u, hu, ru⟩ := rv.get hx
    obtain ⟨f0, f1, f2, f3, f4, f5⟩ := hf it (by simp)
    refine wpAny_pyNext_tuple_item st (show s.heap.IsTuple a its.toArray from p) (x := u) (by simpa using hu) fun h' st' sb => ?_
    have I1 : Inv X pins σ H { s with heap := h' } := I.turned (t' := s.toks) (fun b o hb e => (sb.2 b hb).trans e) f0 f1 f3 f4 f5
    obtain ⟨o, e, c, d⟩ := id st'
    exact ⟨u, rfl, go_of (s := { s with heap := h' }) e c d (by decide) ⟨x, H, I1, ru, ⟨rfl, fun ys hy => by rw [I.tuple_inj hy hq]; exact hx⟩, st', fun b hb => (hf b hb).1⟩⟩
  done := by
    intro X hP hw hK hc i pins s σ H E I hf st hg
    subst hP hw hK
    obtain ⟨xs, hq, hx⟩ := hg
    obtain ⟨its, rv, p, hz⟩ := I.tuple hq
    obtain ⟨f0, f1, f2, f3, f4, f5⟩ := hf it (by simp)
    have hl := rv.length
    exact wpAny_pyNext_tuple_end (I.ok.hd hc) st (show s.heap.IsTuple a its.toArray from p) (by simp; omega) fun h' eb => ⟨rfl, I.turned (t' := s.toks) (fun b o hb e => eb b o hb e) f0 f1 f3 f4 f5⟩
  self := fun _ _ _ _ _ st h => wpAny_pyIter_tupleiter st h
theorem turn_range {P : Program} {w : World} {K : PySem.W.Frag} {tg : Expr} (it : Addr) (lo : Int) (n : Nat) : Turn P w K tg (Itr lo n) [it] it (fun i h => IsRangeIter h it (lo + (i : Nat) * 1) ((n : Int) - (i : Nat)) 1) where
  mem := by simp
  obj := fun i h st b hb => by
    have e : b = it := by simpa using hb
    subst e
    exact ⟨_, st, fun v z => by
      have z' : Data.fields _ = Data.cell v := z
      cases z'⟩
  keep := fun i h h' st k => k it (by simp) _ st
  item := by
    intro X hP hw hK hc i pins s σ H E I hf st hg
    subst hP hw hK
    obtain ⟨f0, f1, f2, f3, f4, f5⟩ := hf it (by simp)
    have W := Walks.range (prog := X.prog) (w := X.w) (I.ok.hd hc) it lo 1 n
    refine W.item i s _ _ hg st fun v h' tk hv st' kk => ?_
    obtain ⟨t, rfl⟩ := hv
    have I1 : Inv X pins σ H { s with heap := h', toks := tk } := I.turned (fun b o hb e => kk b o (by simpa using hb) e) f0 f1 f3 f4 f5
    refine ⟨_, rfl, go_of (s := { s with heap := h', toks := tk }) (n := "range_iterator") st' rfl rfl (by decide) ⟨.int (lo + i), H, I1, ⟨t, ?_⟩, ⟨rfl, rfl⟩, st', fun b hb => (hf b hb).1⟩⟩
    rw [Int.mul_one]
  done := by
    intro X hP hw hK hc i pins s σ H E I hf st hg
    subst hP hw hK
    obtain ⟨f0, f1, f2, f3, f4, f5⟩ := hf it (by simp)
    exact wpAny_pyNext_range_end (I.ok.hd hc) st (by have : n ≤ i := hg; omega) fun h' eb => ⟨rfl, I.turned (t' := s.toks) (fun b o hb e => eb b o hb e) f0 f1 f3 f4 f5⟩
  self := fun _ _ _ _ _ st h => wpAny_pyIter_rangeiter st h
end L2

namespace L2
open PySem PySem.Spec PyProof.Rows
section
variable {X : Cx} {tg : Expr}
def iList (K : PySem.W.Frag) (tl : TE) : TI := fun σ H R => tl σ H fun x H1 => ∃ a, x = .ref a ∧ (∃ xs, SqL K H1 a xs) ∧ R (Itl K a) H1
def iTup (K : PySem.W.Frag) (tl : TE) : TI := fun σ H R => tl σ H fun x H1 => ∃ a, x = .ref a ∧ (∃ xs, SqT K H1 a xs) ∧ R (Itt K a) H1
theorem pi_list {l : Expr} {tl : TE} (hl : PE X l tl) : PI X tg l (iList X.K tl) := by
  intro pins s σ H R I h
  refine thn (hl pins s σ H _ I h) fun v s1 ⟨x, H1, I1, r1, q1⟩ => ?_
  obtain ⟨a, e, ⟨xs, hq⟩, q⟩ := q1
  subst e
  cases r1
  obtain ⟨its, rv, p, hz⟩ := I1.list hq
  refine wpAny_pyIter_list p.isList ?_
  refine ⟨s1.heap.objs.size, [s1.heap.objs.size], _, _, H1, rfl, I1.kept (t' := s1.toks) fun b o e => Heap.get?_push_of_some _ e, turn_list a _, ⟨_, Heap.get?_push_size _ rfl, rfl, rfl⟩, fun b hb => ?_, q⟩
  have e : b = s1.heap.objs.size := by simpa using hb
  subst e
  exact I1.fpOk (Nat.le_refl _) (I1.hok.fresh (Nat.le_refl _))
theorem pi_tup {l : Expr} {tl : TE} (hl : PE X l tl) : PI X tg l (iTup X.K tl) := by
  intro pins s σ H R I h
  refine thn (hl pins s σ H _ I h) fun v s1 ⟨x, H1, I1, r1, q1⟩ => ?_
  obtain ⟨a, e, ⟨xs, hq⟩, q⟩ := q1
  subst e
  cases r1
  obtain ⟨its, rv, p, hz⟩ := I1.tuple hq
  refine wpAny_pyIter_tuple (show s1.heap.IsTuple a its.toArray from p) ?_
  refine ⟨s1.heap.objs.size, [s1.heap.objs.size], _, _, H1, rfl, I1.kept (t' := s1.toks) fun b o e => Heap.get?_push_of_some _ e, turn_tuple a _, ⟨_, Heap.get?_push_size _ rfl, rfl, rfl⟩, fun b hb => ?_, q⟩
  have e : b = s1.heap.objs.size := by simpa using hb
  subst e
  exact I1.fpOk (Nat.le_refl _) (I1.hok.fresh (Nat.le_refl _))
/-- a range object just made, walked -/
theorem range_it {pins : List (Addr × Obj)} {σ : St} {H : Hp} {s : Shared} {R : It → Hp → Prop} {E : Value → Shared → Prop} {lo hi : Int} {t u v : Tok} {tk : Nat} (I : Inv X pins σ H s) (h1 : -(2 ^ 62) ≤ lo) (h2 : lo < 2 ^ 62) (h3 : -(2 ^ 62) ≤ hi) (h4 : hi < 2 ^ 62)
    (q : R (Itr lo (hi - lo).toNat) H) : wpAny (model X.prog X.w) X.A (pyIter (.ref s.heap.objs.size)) (PIE X pins σ tg R) E { s with heap := s.heap.push { cls := .type "range", data := .fields #[.int lo t, .int hi u, .int 1 v] }, toks := tk } := by
  refine wpAny_pyIter_range (IsRange.new ..) (small_one h1 h2 h3 h4) ?_
  have I1 : Inv X pins σ H { s with heap := s.heap.push { cls := .type "range", data := .fields #[.int lo t, .int hi u, .int 1 v] }, toks := tk } := I.kept fun b o e => Heap.get?_push_of_some _ e
  refine ⟨(s.heap.push { cls := .type "range", data := .fields #[.int lo t, .int hi u, .int 1 v] }).objs.size, [(s.heap.push { cls := .type "range", data := .fields #[.int lo t, .int hi u, .int 1 v] }).objs.size], _, _, H, rfl,
    I1.kept (t' := tk) fun b o e => Heap.get?_push_of_some _ e, turn_range _ lo (hi - lo).toNat, ?_, fun b hb => ?_, q⟩
  · have e1 : lo + ((0 : Nat) : Int) * 1 = lo := by simp
    have e2 : (((hi - lo).toNat : Nat) : Int) - ((0 : Nat) : Int) = Builtin.Range.rangeSize lo hi 1 := by rw [rangeSize_one]; split <;> omega
    show IsRangeIter _ _ (lo + ((0 : Nat) : Int) * 1) ((((hi - lo).toNat : Nat) : Int) - ((0 : Nat) : Int)) 1
    rw [e1, e2]
    exact Heap.get?_push_size _ rfl
  · have e : b = (s.heap.push { cls := .type "range", data := .fields #[.int lo t, .int hi u, .int 1 v] }).objs.size := by simpa using hb
    subst e
    exact I1.fpOk (Nat.le_refl _) (I1.hok.fresh (Nat.le_refl _))
def iRng1 (ta : TA) : TI := fun σ H R => ta σ H fun vs H1 => ∃ j : Int, vs = [.int j] ∧ -(2 ^ 62) ≤ j ∧ j < 2 ^ 62 ∧ R (Itr 0 j.toNat) H1
def iRng2 (ta : TA) : TI := fun σ H R => ta σ H fun vs H1 => ∃ i j : Int, vs = [.int i, .int j] ∧ (-(2 ^ 62) ≤ i ∧ i < 2 ^ 62 ∧ -(2 ^ 62) ≤ j ∧ j < 2 ^ 62) ∧ R (Itr i (j - i).toNat) H1
theorem pi_range1 {a : Expr} {ta : TA} {p pos : Pos} (hg : Gl X "range") (hm : X.mg "range" = none) (ha : PA X [a] ta) (hs : starEach [a] X.env = [(false, eval a X.env)] := by rfl) : PI X tg (.Call (.Name "range" p) [a] [] pos) (iRng1 ta) := by
  intro pins s σ H R I h
  refine Call_ (ld_blt I hg hm boot_range (PyProof.Rows.callWith_type1 (thn (ha pos pins s σ H _ I h) fun us s1 ⟨vs, H1, I1, r1, q1⟩ => ?_) hs rfl))
  obtain ⟨j, e, q1, q2, q⟩ := q1
  subst e
  cases r1 with
  | cons r rr =>
    cases rr
    obtain ⟨t, rfl⟩ := r
    exact call_range_1 (range_it I1 (by omega) (by omega) q1 q2 (by simpa using q))
theorem pi_range2 {a b : Expr} {ta : TA} {p pos : Pos} (hg : Gl X "range") (hm : X.mg "range" = none) (ha : PA X [a, b] ta) (hs : starEach [a, b] X.env = [(false, eval a X.env), (false, eval b X.env)] := by rfl) (hs2 : starEach [b] X.env = [(false, eval b X.env)] := by rfl) :
    PI X tg (.Call (.Name "range" p) [a, b] [] pos) (iRng2 ta) := by
  intro pins s σ H R I h
  refine Call_ (ld_blt I hg hm boot_range (PyProof.Rows.callWith_type1 (thn (ha pos pins s σ H _ I h) fun us s1 ⟨vs, H1, I1, r1, q1⟩ => ?_) (by rw [hs, hs2]) (by rw [hs2]; rfl)))
  obtain ⟨i, j, e, ⟨q1, q2, q3, q4⟩, q⟩ := q1
  subst e
  cases r1 with
  | cons r rr =>
    cases rr with
    | cons r' rr =>
      cases rr
      obtain ⟨t, rfl⟩ := r
      obtain ⟨t', rfl⟩ := r'
      exact call_range_2 (range_it I1 q1 q2 q3 q4 q)

/-! ### for -/
/-- W: the invariant by the turn and a measure; N: what the body is to reach -/
def tFor (wi : TI) (g : TG) (tb : TS) : TS := fun D σ H => wi σ H fun J H1 => ∃ W : Nat → Nat → St → Hp → Prop, (∃ m, W 0 m σ H1) ∧ ∀ i m σ H, W i m σ H →
  (J.stop i H ∧ D.nx σ H) ∨ (J.go i H ∧ ∃ N : St → Hp → Prop, (∀ σ' H', N σ' H' → ∃ m', m' < m ∧ W (i + 1) m' σ' H') ∧ ∀ x H', J.yld i H x H' → g x σ H' fun σ2 H2 => tb { D with nx := N, ct := N, bk := D.nx } σ2 H2)
/-- the records at fp as they stand -/
def pinsAt (fp : List Addr) (h : Heap) : List (Addr × Obj) := fp.filterMap fun b => (h.get? b).map fun o => (b, o)
theorem mem_pinsAt {fp : List Addr} {h : Heap} {b : Addr} {o : Obj} (hb : b ∈ fp) (e : h.get? b = some o) : (b, o) ∈ pinsAt fp h := List.mem_filterMap.mpr ⟨b, hb, by rw [e]; rfl⟩
theorem of_pinsAt {fp : List Addr} {h : Heap} {p : Addr × Obj} (hp : p ∈ pinsAt fp h) : p.1 ∈ fp ∧ h.get? p.1 = some p.2 := by
  obtain ⟨b, hb, e⟩ := List.mem_filterMap.mp hp
  cases q : h.get? b with
  | none => rw [q] at e; cases e
  | some o =>
    rw [q] at e
    have e' : (b, o) = p := Option.some.inj e
    subst e'
    exact ⟨hb, q⟩
theorem Inv.pinned {pins : List (Addr × Obj)} {σ : St} {H : Hp} {s : Shared} {fp : List Addr} (I : Inv X pins σ H s) (hf : ∀ b ∈ fp, FpOk X pins H b) (ho : ∀ b ∈ fp, ∃ o, s.heap.get? b = some o ∧ ∀ v, o.data ≠ .cell v) : Inv X (pins ++ pinsAt fp s.heap) σ H s :=
  I.pins_of fun p hp => (List.mem_append.mp hp).elim (fun z => I.pin p (List.mem_append_right _ z)) fun z => by
    obtain ⟨hb, e⟩ := of_pinsAt z
    obtain ⟨f0, f1, f2, _⟩ := hf p.1 hb
    obtain ⟨o, e', d⟩ := ho p.1 hb
    rw [e] at e'; cases e'
    exact ⟨e, f0, f1, f2, d⟩
theorem Inv.unpinned {pins pl : List (Addr × Obj)} {σ : St} {H : Hp} {s : Shared} (I : Inv X (pins ++ pl) σ H s) : Inv X pins σ H s := I.pins_of fun p hp => I.pin p (List.mem_append_right _ (List.mem_append_left _ hp))
theorem ps_for {iter : Expr} {body : List Stmt} {wi : TI} {g : TG} {tb : TS} {pos : Pos} (hp : PassesOwn (model X.prog X.w) X.A X.env X.xe) (hc : X.calm = true) (hi : PI X tg iter wi) (hg : PG X tg g) (hb : PSs X body tb)
    (hs : ∀ x, foldedSetIterable iter X.env x = pure x := by intro _; rfl) : PS X (.For tg iter body [] pos) (tFor wi g tb) := by
  intro pins s σ H D I h
  refine wpAny_For (thn (hi pins s σ H _ I h) fun v s1 h1 => thn h1 fun itv s2 h2 => ?_) hs
  obtain ⟨it, fp, tn, J, H2, e, I2, T, st2, f2, W, ⟨m0, w0⟩, turn⟩ := h2
  subst e
  -- what stays true of the iterator's objects through the loop
  have stat : ∀ {H' : Hp}, (∀ b ∈ fp, H' b = none) → ∀ b ∈ fp, FpOk X pins H' b := fun hn b hb => ⟨hn b hb, (f2 b hb).2⟩
  refine codeAny_forLoop_any (fun n s' => ∃ i σ' H', Inv X pins σ' H' s' ∧ tn i s'.heap ∧ (∀ b ∈ fp, H' b = none) ∧ W i n σ' H') ?_ m0 ⟨0, σ, H2, I2, st2, fun b hb => (f2 b hb).1, w0⟩
  rintro n s3 ⟨i, σ3, H3, I3, st3, fr3, w3⟩
  rcases turn i n σ3 H3 w3 with ⟨stop, qn⟩ | ⟨go, N, hN, step⟩
  · refine wpAny_passesOwn hp (thn (T.done X rfl rfl rfl hc i pins s3 σ3 H3 X.xe I3 (stat fr3) st3 stop) fun r s4 ⟨hr, I4⟩ => ?_)
    subst hr
    exact wpAny_execs_nil ⟨σ3, H3, I4, qn⟩
  · refine wpAny_passesOwn hp (thn (T.item X rfl rfl rfl hc i pins s3 σ3 H3 X.xe I3 (stat fr3) st3 go) fun r s4 ⟨u, hr, h4⟩ => ?_)
    subst hr
    refine wpAny_passesOwn hp (thn h4 fun _ s5 ⟨x, H5, I5, r5, y5, st5, fr5⟩ => ?_)
    have I5' := I5.pinned (stat fr5) (T.obj _ _ st5)
    refine wpAny_passesOwn hp (thn (hg _ s5 σ3 H5 x u _ I5' r5 (step x H5 y5)) fun _ s6 ⟨σ6, H6, I6, q6⟩ => ?_)
    refine wpAny_passesOwn hp (thn (hb _ s6 σ6 H6 _ I6 q6) fun f s7 q7 => ?_)
    have again : ∀ {σ7 : St} {H7 : Hp}, Inv X (pins ++ pinsAt fp s5.heap) σ7 H7 s7 → N σ7 H7 → ∃ m, m < n ∧ ∃ i σ' H', Inv X pins σ' H' s7 ∧ tn i s7.heap ∧ (∀ b ∈ fp, H' b = none) ∧ W i m σ' H' := fun {σ7 H7} I7 n7 => by
      obtain ⟨m', hm, w7⟩ := hN σ7 H7 n7
      refine ⟨m', hm, i + 1, σ7, H7, I7.unpinned, T.keep _ _ _ st5 fun b hb o e => (I7.pin (b, o) (List.mem_append_right _ (List.mem_append_right _ (mem_pinsAt hb e)))).1, fun b hb => ?_, w7⟩
      obtain ⟨o, e, d⟩ := T.obj _ _ st5 b hb
      exact (I7.pin (b, o) (List.mem_append_right _ (List.mem_append_right _ (mem_pinsAt hb e)))).2.1
    cases f with
    | next => obtain ⟨σ7, H7, I7, n7⟩ := q7; exact again I7 n7
    | cont => obtain ⟨σ7, H7, I7, n7⟩ := q7; exact again I7 n7
    | brk => obtain ⟨σ7, H7, I7, q7⟩ := q7; exact ⟨σ7, H7, I7.unpinned, q7⟩
    | ret v => obtain ⟨x7, σ7, H7, I7, r7, q7⟩ := q7; exact ⟨x7, σ7, H7, I7.unpinned, r7, q7⟩
end

/-! ### the forms one uses -/
/-- over a list that the body leaves as it is -/
theorem for_list {K : PySem.W.Frag} {a : Addr} {xs : List V} {g : TG} {tb : TS} {D : Ends} {σ : St} {H : Hp} (Pv : Nat → St → Hp → Prop) (h0 : Pv 0 σ H) (hl : ∀ i σ H, i ≤ xs.length → Pv i σ H → SqL K H a xs)
    (hs : ∀ i x σ H, xs[i]? = some x → Pv i σ H → g x σ H fun σ2 H2 => tb { D with nx := Pv (i + 1), ct := Pv (i + 1), bk := D.nx } σ2 H2) (hd : ∀ σ H, Pv xs.length σ H → D.nx σ H) :
    ∃ W : Nat → Nat → St → Hp → Prop, (∃ m, W 0 m σ H) ∧ ∀ i m σ H, W i m σ H →
      ((Itl K a).stop i H ∧ D.nx σ H) ∨ ((Itl K a).go i H ∧ ∃ N : St → Hp → Prop, (∀ σ' H', N σ' H' → ∃ m', m' < m ∧ W (i + 1) m' σ' H') ∧ ∀ x H', (Itl K a).yld i H x H' → g x σ H' fun σ2 H2 => tb { D with nx := N, ct := N, bk := D.nx } σ2 H2) := by
  refine ⟨fun i m σ H => m = xs.length - i ∧ i ≤ xs.length ∧ Pv i σ H, ⟨xs.length, by simp, Nat.zero_le _, h0⟩, ?_⟩
  rintro i m σ H ⟨rfl, hi, p⟩
  have q := hl i σ H hi p
  by_cases hlt : i < xs.length
  · refine .inr ⟨⟨xs, xs[i], q, by simp [hlt]⟩, Pv (i + 1), fun σ' H' p' => ⟨xs.length - (i + 1), by omega, rfl, hlt, p'⟩, fun x H' y => ?_⟩
    obtain ⟨e, y⟩ := y
    subst e
    exact hs i x σ _ (y xs q) p
  · have e : i = xs.length := by omega
    subst e
    exact .inl ⟨⟨xs, q, Nat.le_refl _⟩, hd σ H p⟩
theorem for_tup {K : PySem.W.Frag} {a : Addr} {xs : List V} {g : TG} {tb : TS} {D : Ends} {σ : St} {H : Hp} (Pv : Nat → St → Hp → Prop) (h0 : Pv 0 σ H) (hl : ∀ i σ H, i ≤ xs.length → Pv i σ H → SqT K H a xs)
    (hs : ∀ i x σ H, xs[i]? = some x → Pv i σ H → g x σ H fun σ2 H2 => tb { D with nx := Pv (i + 1), ct := Pv (i + 1), bk := D.nx } σ2 H2) (hd : ∀ σ H, Pv xs.length σ H → D.nx σ H) :
    ∃ W : Nat → Nat → St → Hp → Prop, (∃ m, W 0 m σ H) ∧ ∀ i m σ H, W i m σ H →
      ((Itt K a).stop i H ∧ D.nx σ H) ∨ ((Itt K a).go i H ∧ ∃ N : St → Hp → Prop, (∀ σ' H', N σ' H' → ∃ m', m' < m ∧ W (i + 1) m' σ' H') ∧ ∀ x H', (Itt K a).yld i H x H' → g x σ H' fun σ2 H2 => tb { D with nx := N, ct := N, bk := D.nx } σ2 H2) := by
  refine ⟨fun i m σ H => m = xs.length - i ∧ i ≤ xs.length ∧ Pv i σ H, ⟨xs.length, by simp, Nat.zero_le _, h0⟩, ?_⟩
  rintro i m σ H ⟨rfl, hi, p⟩
  have q := hl i σ H hi p
  by_cases hlt : i < xs.length
  · refine .inr ⟨⟨xs, xs[i], q, by simp [hlt]⟩, Pv (i + 1), fun σ' H' p' => ⟨xs.length - (i + 1), by omega, rfl, hlt, p'⟩, fun x H' y => ?_⟩
    obtain ⟨e, y⟩ := y
    subst e
    exact hs i x σ _ (y xs q) p
  · have e : i = xs.length := by omega
    subst e
    exact .inl ⟨⟨xs, q, Nat.le_refl _⟩, hd σ H p⟩
theorem for_range {lo : Int} {n : Nat} {g : TG} {tb : TS} {D : Ends} {σ : St} {H : Hp} (Pv : Nat → St → Hp → Prop) (h0 : Pv 0 σ H)
    (hs : ∀ i σ H, i < n → Pv i σ H → g (.int (lo + i)) σ H fun σ2 H2 => tb { D with nx := Pv (i + 1), ct := Pv (i + 1), bk := D.nx } σ2 H2) (hd : ∀ σ H, Pv n σ H → D.nx σ H) :
    ∃ W : Nat → Nat → St → Hp → Prop, (∃ m, W 0 m σ H) ∧ ∀ i m σ H, W i m σ H →
      ((Itr lo n).stop i H ∧ D.nx σ H) ∨ ((Itr lo n).go i H ∧ ∃ N : St → Hp → Prop, (∀ σ' H', N σ' H' → ∃ m', m' < m ∧ W (i + 1) m' σ' H') ∧ ∀ x H', (Itr lo n).yld i H x H' → g x σ H' fun σ2 H2 => tb { D with nx := N, ct := N, bk := D.nx } σ2 H2) := by
  refine ⟨fun i m σ H => m = n - i ∧ i ≤ n ∧ Pv i σ H, ⟨n, by simp, Nat.zero_le _, h0⟩, ?_⟩
  rintro i m σ H ⟨rfl, hi, p⟩
  by_cases hlt : i < n
  · refine .inr ⟨hlt, Pv (i + 1), fun σ' H' p' => ⟨n - (i + 1), by omega, rfl, hlt, p'⟩, fun x H' y => ?_⟩
    obtain ⟨e, y⟩ := y
    subst e y
    exact hs i σ _ hlt p
  · have e : i = n := by omega
    subst e
    exact .inl ⟨Nat.le_refl _, hd σ H p⟩
/-- while, by a word and a measure of the state -/
theorem while_by {c : TT} {tb : TS} {D : Ends} {σ : St} {H : Hp} (Pv : St → Hp → Prop) (μ : St → Hp → Nat) (h0 : Pv σ H)
    (hs : ∀ σ H, Pv σ H → c σ H fun b H1 => if b = true then tb { D with nx := fun σ' H' => Pv σ' H' ∧ μ σ' H' < μ σ H, ct := fun σ' H' => Pv σ' H' ∧ μ σ' H' < μ σ H, bk := D.nx } σ H1 else D.nx σ H1)
    (mono : ∀ σ H Q Q', (∀ b H1, Q b H1 → Q' b H1) → c σ H Q → c σ H Q') : tWhile c tb D σ H := by
  refine ⟨fun m σ H => m = μ σ H ∧ Pv σ H, ⟨_, rfl, h0⟩, ?_⟩
  rintro m σ H ⟨rfl, p⟩
  refine mono σ H _ _ (fun b H1 q => ?_) (hs σ H p)
  cases b with
  | true => exact ⟨_, fun σ' H' ⟨p', l⟩ => ⟨_, l, rfl, p'⟩, q⟩
  | false => exact q
end L2

namespace L2
open PySem PySem.Spec PyProof.Rows

abbrev R2 := V → V → Hp → VK → Prop
/-- a two-place operation on values: f is binaryOp op, inplaceOp op or compareOp op -/
def OpR (X : Cx) (f : Value → Value → Sem Value) (r : R2) : Prop :=
  ∀ (pins : List (Addr × Obj)) (s : Shared) (σ : St) (H : Hp) (x y : V) (v u : Value) (Q : VK), Inv X pins σ H s → RelV x v → RelV y u → r x y H Q →
    wpAny (model X.prog X.w) X.A (f v u) (EP X pins σ Q) X.xe s
/-- a one-place operation -/
def UnR (X : Cx) (f : Value → Sem Value) (r : V → Hp → VK → Prop) : Prop :=
  ∀ (pins : List (Addr × Obj)) (s : Shared) (σ : St) (H : Hp) (x : V) (v : Value) (Q : VK), Inv X pins σ H s → RelV x v → r x H Q →
    wpAny (model X.prog X.w) X.A (f v) (EP X pins σ Q) X.xe s
/-- a call of a value that is known (a builtin, a type) with values -/
def CallR (X : Cx) (f : Value) (r : List V → Hp → VK → Prop) : Prop :=
  ∀ (pins : List (Addr × Obj)) (s : Shared) (σ : St) (H : Hp) (xs : List V) (us : List Value) (Q : VK), Inv X pins σ H s → Vals xs us → r xs H Q →
    wpAny (model X.prog X.w) X.A (call f us) (EP X pins σ Q) X.xe s
/-- a value's truth -/
def TruR (X : Cx) (r : V → Hp → (Bool → Hp → Prop) → Prop) : Prop :=
  ∀ (pins : List (Addr × Obj)) (s : Shared) (σ : St) (H : Hp) (x : V) (v : Value) (Q : Bool → Hp → Prop), Inv X pins σ H s → RelV x v → r x H Q →
    wpAny (model X.prog X.w) X.A (truthy v) (TP X pins σ Q) X.xe s

def tOp (r : R2) (ta tb : TE) : TE := fun σ H Q => ta σ H fun x H1 => tb σ H1 fun y H2 => r x y H2 Q
def tUn (r : V → Hp → VK → Prop) (ta : TE) : TE := fun σ H Q => ta σ H fun x H1 => r x H1 Q
/-- ints in, under C, and a value out -/
def rI (C : Int → Int → Prop) (g : Int → Int → V) : R2 := fun x y H Q => ∃ i j, x = .int i ∧ y = .int j ∧ C i j ∧ Q (g i j) H
def rI0 (g : Int → Int → V) : R2 := fun x y H Q => ∃ i j, x = .int i ∧ y = .int j ∧ Q (g i j) H
def rU (g : Int → V) : V → Hp → VK → Prop := fun x H Q => ∃ i, x = .int i ∧ Q (g i) H

section
variable {X : Cx} {a b c : Expr} {ta tb tc : TE} {pos : Pos}

theorem binT (ha : PE X a ta) (hb : PE X b tb) {pins : List (Addr × Obj)} {s : Shared} {σ : St} {H : Hp} {R : V → V → Hp → Prop} (I : Inv X pins σ H s)
    (h : ta σ H fun x H1 => tb σ H1 fun y H2 => R x y H2) {Q : Value → Shared → Prop} {f : Value → Value → Sem Value}
    (hf : ∀ v u s2 x y H2, Inv X pins σ H2 s2 → RelV x v → RelV y u → R x y H2 → wpAny (model X.prog X.w) X.A (f v u) Q X.xe s2) :
    wpAny (model X.prog X.w) X.A (eval a X.env) (fun v s₁ => wpAny (model X.prog X.w) X.A (eval b X.env) (fun u s₂ => wpAny (model X.prog X.w) X.A (f v u) Q X.xe s₂) X.xe s₁) X.xe s := by
  refine thn (ha pins s σ H _ I h) fun v s1 ⟨x, H1, I1, r1, q1⟩ => ?_
  refine thn (hb pins s1 σ H1 _ I1 q1) fun u s2 ⟨y, H2, I2, r2, q2⟩ => ?_
  exact hf v u s2 x y H2 I2 r1 r2 q2

theorem pe_op {op : Operator} {r : R2} (ho : OpR X (binaryOp op) r) (ha : PE X a ta) (hb : PE X b tb) : PE X (.BinOp a op b pos) (tOp r ta tb) := by
  intro pins s σ H Q I h
  exact wpAny_BinOp (binT ha hb I h fun v u s2 x y H2 I2 rx ry q => ho pins s2 σ H2 x y v u Q I2 rx ry q)
theorem pe_un {op : UnaryOp} {r : V → Hp → VK → Prop} (ho : UnR X (unaryOp op) r) (ha : PE X a ta) : PE X (.UnaryOp op a pos) (tUn r ta) := by
  intro pins s σ H Q I h
  exact UnaryOp_ (thn (ha pins s σ H _ I h) fun v s1 ⟨x, H1, I1, r1, q1⟩ => ho pins s1 σ H1 x v Q I1 r1 q1)
/-- a op= e at a name: the name's slot i -/
theorem augR {op : Operator} {r : R2} (ho : OpR X (inplaceOp op) r) {pins : List (Addr × Obj)} {s : Shared} {σ : St} {H : Hp} {x y : V} {v u : Value} {Q : VK} (I : Inv X pins σ H s)
    (rx : RelV x v) (ry : RelV y u) (q : r x y H Q) : wpAny (model X.prog X.w) X.A (inplaceOp op v u) (EP X pins σ Q) X.xe s := ho pins s σ H x y v u Q I rx ry q

/-! ### ints -/
theorem opI {f : Value → Value → Sem Value} {C : Int → Int → Prop} {g : Int → Int → Int}
    (rule : ∀ (i j : Int) (t u : Tok) (s : Shared) (Q : Value → Shared → Prop) (E : Value → Shared → Prop), C i j → Q (.int (g i j) s.toks) { s with toks := s.toks + 1 } → wpAny (model X.prog X.w) X.A (f (.int i t) (.int j u)) Q E s) :
    OpR X f (rI C fun i j => .int (g i j)) := by
  intro pins s σ H x y v u Q I rx ry h
  obtain ⟨i, j, rfl, rfl, hc, q⟩ := h
  obtain ⟨t, rfl⟩ := rx
  obtain ⟨t', rfl⟩ := ry
  exact rule i j t t' s _ _ hc ⟨.int (g i j), H, I.tok _, ⟨_, rfl⟩, q⟩
theorem opI0 {f : Value → Value → Sem Value} {g : Int → Int → Int}
    (rule : ∀ (i j : Int) (t u : Tok) (s : Shared) (Q : Value → Shared → Prop) (E : Value → Shared → Prop), Q (.int (g i j) s.toks) { s with toks := s.toks + 1 } → wpAny (model X.prog X.w) X.A (f (.int i t) (.int j u)) Q E s) :
    OpR X f (rI0 fun i j => .int (g i j)) := by
  intro pins s σ H x y v u Q I rx ry h
  obtain ⟨i, j, rfl, rfl, q⟩ := h
  obtain ⟨t, rfl⟩ := rx
  obtain ⟨t', rfl⟩ := ry
  exact rule i j t t' s _ _ ⟨.int (g i j), H, I.tok _, ⟨_, rfl⟩, q⟩
theorem opB0 {f : Value → Value → Sem Value} {g : Int → Int → Bool}
    (rule : ∀ (i j : Int) (t u : Tok) (s : Shared) (Q : Value → Shared → Prop) (E : Value → Shared → Prop), Q (.bool (g i j)) s → wpAny (model X.prog X.w) X.A (f (.int i t) (.int j u)) Q E s) :
    OpR X f (rI0 fun i j => .bl (g i j)) := by
  intro pins s σ H x y v u Q I rx ry h
  obtain ⟨i, j, rfl, rfl, q⟩ := h
  obtain ⟨t, rfl⟩ := rx
  obtain ⟨t', rfl⟩ := ry
  exact rule i j t t' s _ _ ⟨.bl (g i j), H, I, rfl, q⟩

def CDiv (i j : Int) : Prop := 0 < j ∧ j < 1073741824
def CDivN (i j : Int) : Prop := j ≠ 0 ∧ j.natAbs < 1073741824
def CPow (i j : Int) : Prop := 0 ≤ j ∧ j ≤ 1000000 ∧ i.natAbs < 2 ^ 64
def CMul (i j : Int) : Prop := (-(2 ^ 64) < i ∧ i < 2 ^ 64) ∨ (-(2 ^ 64) < j ∧ j < 2 ^ 64)
theorem CMul.ok {i j : Int} (h : CMul i j) : IntMulOk i j := by
  rcases h with ⟨h1, h2⟩ | ⟨h1, h2⟩
  · exact .of_left (intBits_le_64 h1 h2)
  · exact .of_right (intBits_le_64 h1 h2)
theorem two_pow_nn (k : Nat) : (0 : Int) ≤ 2 ^ k := by
  rw [two_pow_cast]
  exact Int.natCast_nonneg _

theorem op_add : OpR X (binaryOp .Add) (rI0 fun i j => .int (i + j)) := opI0 fun _ _ _ _ _ _ _ q => add_int q
theorem op_sub : OpR X (binaryOp .Sub) (rI0 fun i j => .int (i - j)) := opI0 fun _ _ _ _ _ _ _ q => sub_int q
theorem op_mul : OpR X (binaryOp .Mult) (rI CMul fun i j => .int (i * j)) := opI fun _ _ _ _ _ _ _ hc q => mul_int q hc.ok
/-- // by a positive divisor -/
theorem op_fdiv : OpR X (binaryOp .FloorDiv) (rI CDiv fun i j => .int (i / j)) := opI fun i j _ _ _ _ _ hc q => by
  have h1 : (0 : Int) < j := hc.1
  have h2 : j < 1073741824 := hc.2
  exact floordiv_int (by omega) (by rw [Int.fdiv_eq_ediv_of_nonneg i (by omega)]; exact q) (.inl (PyProof.noPylong_small (by omega)))
theorem op_fdivN : OpR X (binaryOp .FloorDiv) (rI CDivN fun i j => .int (i.fdiv j)) := opI fun _ _ _ _ _ _ _ hc q => floordiv_int hc.1 q (.inl (PyProof.noPylong_small hc.2))
/-- % by a positive divisor of any size -/
theorem op_mod : OpR X (binaryOp .Mod) (rI (fun _ j => 0 < j) fun i j => .int (i % j)) := opI fun i j _ _ _ _ _ hc q => by
  have h1 : (0 : Int) < j := hc
  exact mod_int' (by omega) (by rw [Int.fmod_eq_emod_of_nonneg i (by omega)]; exact q)
theorem op_modN : OpR X (binaryOp .Mod) (rI (fun _ j => j ≠ 0) fun i j => .int (i.fmod j)) := opI fun _ _ _ _ _ _ _ hc q => mod_int' hc q
theorem op_pow : OpR X (binaryOp .Pow) (rI CPow fun i j => .int (i ^ j.toNat)) := opI fun _ _ _ _ _ _ _ hc q => pow_int_small hc.1 hc.2.1 hc.2.2 q
theorem op_shl : OpR X (binaryOp .LShift) (rI CPow fun i j => .int (i * 2 ^ j.toNat)) := opI fun _ _ _ _ _ _ _ hc q => lshift_int_small hc.1 hc.2.1 hc.2.2 q
theorem op_shr : OpR X (binaryOp .RShift) (rI (fun _ j => 0 ≤ j) fun i j => .int (i / 2 ^ j.toNat)) := opI fun i j _ _ _ _ _ hc q =>
  rshift_int hc (by rw [Int.fdiv_eq_ediv_of_nonneg i (two_pow_nn _)]; exact q)
theorem op_and : OpR X (binaryOp .BitAnd) (rI0 fun i j => .int (Builtin.bitAnd i j)) := opI0 fun _ _ _ _ _ _ _ q => and_int q
theorem op_or : OpR X (binaryOp .BitOr) (rI0 fun i j => .int (Builtin.bitOr i j)) := opI0 fun _ _ _ _ _ _ _ q => or_int q
theorem op_xor : OpR X (binaryOp .BitXor) (rI0 fun i j => .int (Builtin.bitXor i j)) := opI0 fun _ _ _ _ _ _ _ q => xor_int q

theorem iop_add : OpR X (inplaceOp .Add) (rI0 fun i j => .int (i + j)) := opI0 fun _ _ _ _ _ _ _ q => iadd_int q
theorem iop_sub : OpR X (inplaceOp .Sub) (rI0 fun i j => .int (i - j)) := opI0 fun _ _ _ _ _ _ _ q => isub_int q
theorem iop_mul : OpR X (inplaceOp .Mult) (rI CMul fun i j => .int (i * j)) := opI fun _ _ _ _ _ _ _ hc q => imul_int q hc.ok
theorem iop_fdiv : OpR X (inplaceOp .FloorDiv) (rI CDiv fun i j => .int (i / j)) := opI fun i j _ _ _ _ _ hc q => by
  have h1 : (0 : Int) < j := hc.1
  have h2 : j < 1073741824 := hc.2
  exact ifloordiv_int (by omega) (by rw [Int.fdiv_eq_ediv_of_nonneg i (by omega)]; exact q) (.inl (PyProof.noPylong_small (by omega)))
theorem iop_mod : OpR X (inplaceOp .Mod) (rI (fun _ j => 0 < j) fun i j => .int (i % j)) := opI fun i j _ _ _ _ _ hc q => by
  have h1 : (0 : Int) < j := hc
  exact imod_int (by omega) (by rw [Int.fmod_eq_emod_of_nonneg i (by omega)]; exact q)
theorem iop_shl : OpR X (inplaceOp .LShift) (rI CPow fun i j => .int (i * 2 ^ j.toNat)) := opI fun _ _ _ _ _ _ _ hc q => ilshift_int_small hc.1 hc.2.1 hc.2.2 q
theorem iop_shr : OpR X (inplaceOp .RShift) (rI (fun _ j => 0 ≤ j) fun i j => .int (i / 2 ^ j.toNat)) := opI fun i j _ _ _ _ _ hc q =>
  irshift_int hc (by rw [Int.fdiv_eq_ediv_of_nonneg i (two_pow_nn _)]; exact q)
theorem iop_and : OpR X (inplaceOp .BitAnd) (rI0 fun i j => .int (Builtin.bitAnd i j)) := opI0 fun _ _ _ _ _ _ _ q => iand_int q
theorem iop_or : OpR X (inplaceOp .BitOr) (rI0 fun i j => .int (Builtin.bitOr i j)) := opI0 fun _ _ _ _ _ _ _ q => ior_int q
theorem iop_xor : OpR X (inplaceOp .BitXor) (rI0 fun i j => .int (Builtin.bitXor i j)) := opI0 fun _ _ _ _ _ _ _ q => ixor_int q

theorem unI {f : Value → Sem Value} {g : Int → Int}
    (rule : ∀ (i : Int) (t : Tok) (s : Shared) (Q : Value → Shared → Prop) (E : Value → Shared → Prop), Q (.int (g i) s.toks) { s with toks := s.toks + 1 } → wpAny (model X.prog X.w) X.A (f (.int i t)) Q E s) :
    UnR X f (rU fun i => .int (g i)) := by
  intro pins s σ H x v Q I rx h
  obtain ⟨i, rfl, q⟩ := h
  obtain ⟨t, rfl⟩ := rx
  exact rule i t s _ _ ⟨.int (g i), H, I.tok _, ⟨_, rfl⟩, q⟩
theorem un_neg : UnR X (unaryOp .USub) (rU fun i => .int (-i)) := unI fun _ _ _ _ _ q => neg_int q
theorem un_inv : UnR X (unaryOp .Invert) (rU fun i => .int (Builtin.bitNot i)) := unI fun _ _ _ _ _ q => invert_int q

/-! ### bools among ints: n += (a < b) -/
theorem op_add_ib : OpR X (binaryOp .Add) (fun x y H Q => ∃ i k, x = .int i ∧ y = .bl k ∧ Q (.int (i + b2i k)) H) := by
  intro pins s σ H x y v u Q I rx ry h
  obtain ⟨i, k, rfl, rfl, q⟩ := h
  obtain ⟨t, rfl⟩ := rx
  cases ry
  exact add_int_bool ⟨.int (i + b2i k), H, I.tok _, ⟨_, rfl⟩, q⟩
end

/-! ### comparisons -/
/-- the scalars that == tells apart as data does -/
def scal : V → V → Bool
  | .non, .non => true | .non, .int _ => true | .int _, .non => true | .non, .bl _ => true | .bl _, .non => true | .non, .str _ => true | .str _, .non => true
  | .int _, .int _ => true | .bl _, .bl _ => true | .str _, .str _ => true | .byt _, .byt _ => true
  | .int _, .str _ => true | .str _, .int _ => true | .bl _, .str _ => true | .str _, .bl _ => true
  | _, _ => false
def rEq : R2 := fun x y H Q => scal x y = true ∧ Q (.bl (decide (x = y))) H
def rNe : R2 := fun x y H Q => scal x y = true ∧ Q (.bl (!decide (x = y))) H

theorem dec_int {i j : Int} : decide (V.int i = V.int j) = (i == j) := by
  rw [Bool.eq_iff_iff]
  simp
theorem dec_bl {i j : Bool} : decide (V.bl i = V.bl j) = (i == j) := by
  rw [Bool.eq_iff_iff]
  simp
theorem dec_str {i j : Str} : decide (V.str i = V.str j) = (i == j) := by
  rw [Bool.eq_iff_iff]
  simp
theorem dec_byt {i j : Array UInt8} : decide (V.byt i = V.byt j) = (i.toList == j.toList) := by
  rw [Bool.eq_iff_iff]
  cases i
  cases j
  simp

section
variable {X : Cx} {a b c : Expr} {ta tb tc : TE} {pos : Pos}
theorem fin_bl {pins : List (Addr × Obj)} {σ : St} {H : Hp} {s : Shared} {Q : VK} {k k' : Bool} (I : Inv X pins σ H s) (q : Q (.bl k) H) (e : k = k') : EP X pins σ Q (.bool k') s := by
  subst e
  exact ⟨.bl k, H, I, rfl, q⟩
theorem op_eq : OpR X (compareOp .Eq) rEq := by
  intro pins s σ H x y v u Q I rx ry h
  obtain ⟨hs, q⟩ := h
  cases x with
  | non =>
    cases rx
    cases y with
    | non => cases ry; exact PySem.EqNone.eq_none_none (fin_bl I q (by simp))
    | bl j => cases ry; exact PySem.EqNone.eq_none_bool (fin_bl I q (by simp))
    | int j => obtain ⟨t', rfl⟩ := ry; exact PySem.EqNone.eq_none_int (fin_bl I q (by simp))
    | str j => obtain ⟨t', rfl⟩ := ry; exact PySem.EqNone.eq_none_str (fin_bl I q (by simp))
    | _ => exact absurd (show false = true from hs) Bool.false_ne_true
  | bl i =>
    cases rx
    cases y with
    | non => cases ry; exact PySem.EqNone.eq_bool_none (fin_bl I q (by simp))
    | bl j => cases ry; exact eq_bool (fin_bl I q dec_bl)
    | str j => obtain ⟨t', rfl⟩ := ry; exact PySem.EqMixed.eq_bool_str (fin_bl I q (by simp))
    | _ => exact absurd (show false = true from hs) Bool.false_ne_true
  | int i =>
    obtain ⟨t, rfl⟩ := rx
    cases y with
    | non => cases ry; exact PySem.EqNone.eq_int_none (fin_bl I q (by simp))
    | int j => obtain ⟨t', rfl⟩ := ry; exact eq_int (fin_bl I q dec_int)
    | str j => obtain ⟨t', rfl⟩ := ry; exact PySem.EqMixed.eq_int_str (fin_bl I q (by simp))
    | _ => exact absurd (show false = true from hs) Bool.false_ne_true
  | str i =>
    obtain ⟨t, rfl⟩ := rx
    cases y with
    | non => cases ry; exact PySem.EqNone.eq_str_none (fin_bl I q (by simp))
    | bl j => cases ry; exact PySem.EqMixed.eq_str_bool (fin_bl I q (by simp))
    | int j => obtain ⟨t', rfl⟩ := ry; exact PySem.EqMixed.eq_str_int (fin_bl I q (by simp))
    | str j => obtain ⟨t', rfl⟩ := ry; exact eq_str (fin_bl I q dec_str)
    | _ => exact absurd (show false = true from hs) Bool.false_ne_true
  | byt i =>
    obtain ⟨t, rfl⟩ := rx
    cases y with
    | byt j => obtain ⟨t', rfl⟩ := ry; exact PySem.W.eq_bytes (fin_bl I q dec_byt)
    | _ => exact absurd (show false = true from hs) Bool.false_ne_true
  | _ => cases y <;> exact absurd (show false = true from hs) Bool.false_ne_true
theorem op_ne : OpR X (compareOp .NotEq) rNe := by
  intro pins s σ H x y v u Q I rx ry h
  obtain ⟨hs, q⟩ := h
  cases x with
  | non =>
    cases rx
    cases y with
    | non => cases ry; exact PySem.EqNone.ne_none_none (fin_bl I q (by simp))
    | bl j => cases ry; exact PySem.EqNone.ne_none_bool (fin_bl I q (by simp))
    | int j => obtain ⟨t', rfl⟩ := ry; exact PySem.EqNone.ne_none_int (fin_bl I q (by simp))
    | str j => obtain ⟨t', rfl⟩ := ry; exact PySem.EqNone.ne_none_str (fin_bl I q (by simp))
    | _ => exact absurd (show false = true from hs) Bool.false_ne_true
  | bl i =>
    cases rx
    cases y with
    | non => cases ry; exact PySem.EqNone.ne_bool_none (fin_bl I q (by simp))
    | bl j => cases ry; exact ne_bool (fin_bl I q (congrArg not dec_bl))
    | str j => obtain ⟨t', rfl⟩ := ry; exact PySem.EqMixed.ne_bool_str (fin_bl I q (by simp))
    | _ => exact absurd (show false = true from hs) Bool.false_ne_true
  | int i =>
    obtain ⟨t, rfl⟩ := rx
    cases y with
    | non => cases ry; exact PySem.EqNone.ne_int_none (fin_bl I q (by simp))
    | int j => obtain ⟨t', rfl⟩ := ry; exact ne_int (fin_bl I q (congrArg not dec_int))
    | str j => obtain ⟨t', rfl⟩ := ry; exact PySem.EqMixed.ne_int_str (fin_bl I q (by simp))
    | _ => exact absurd (show false = true from hs) Bool.false_ne_true
  | str i =>
    obtain ⟨t, rfl⟩ := rx
    cases y with
    | non => cases ry; exact PySem.EqNone.ne_str_none (fin_bl I q (by simp))
    | bl j => cases ry; exact PySem.EqMixed.ne_str_bool (fin_bl I q (by simp))
    | int j => obtain ⟨t', rfl⟩ := ry; exact PySem.EqMixed.ne_str_int (fin_bl I q (by simp))
    | str j => obtain ⟨t', rfl⟩ := ry; exact ne_str (fin_bl I q (congrArg not dec_str))
    | _ => exact absurd (show false = true from hs) Bool.false_ne_true
  | byt i =>
    obtain ⟨t, rfl⟩ := rx
    cases y with
    | byt j => obtain ⟨t', rfl⟩ := ry; exact PySem.W.ne_bytes (fin_bl I q (congrArg not dec_byt))
    | _ => exact absurd (show false = true from hs) Bool.false_ne_true
  | _ => cases y <;> exact absurd (show false = true from hs) Bool.false_ne_true

theorem op_lt : OpR X (compareOp .Lt) (rI0 fun i j => .bl (decide (i < j))) := opB0 fun _ _ _ _ _ _ _ q => lt_int q
theorem op_le : OpR X (compareOp .LtE) (rI0 fun i j => .bl (decide (i ≤ j))) := opB0 fun _ _ _ _ _ _ _ q => le_int q
theorem op_gt : OpR X (compareOp .Gt) (rI0 fun i j => .bl (decide (j < i))) := opB0 fun _ _ _ _ _ _ _ q => gt_int q
theorem op_ge : OpR X (compareOp .GtE) (rI0 fun i j => .bl (decide (j ≤ i))) := opB0 fun _ _ _ _ _ _ _ q => ge_int q
theorem op_lt_str : OpR X (compareOp .Lt) (fun x y H Q => ∃ i j, x = .str i ∧ y = .str j ∧ Q (.bl (decide (i.cps.toList < j.cps.toList))) H) := by
  intro pins s σ H x y v u Q I rx ry h
  obtain ⟨i, j, rfl, rfl, q⟩ := h
  obtain ⟨t, rfl⟩ := rx
  obtain ⟨t', rfl⟩ := ry
  exact lt_str (fin_bl I q rfl)
/-- the one string within the other -/
theorem op_in_str : OpR X (compareOp .In) (fun x y H Q => ∃ i j, x = .str i ∧ y = .str j ∧ Q (.bl (!(Builtin.Str.occurrences j i 0 j.length 1).isEmpty)) H) := by
  intro pins s σ H x y v u Q I rx ry h
  obtain ⟨i, j, rfl, rfl, q⟩ := h
  obtain ⟨t, rfl⟩ := rx
  obtain ⟨t', rfl⟩ := ry
  exact in_str (fin_bl I q rfl)

/-- is None, is not None: the right side a value none -/
theorem op_isN : OpR X (compareOp .Is) (fun x y H Q => y = .non ∧ Q (.bl (decide (x = .non))) H) := by
  intro pins s σ H x y v u Q I rx ry h
  obtain ⟨rfl, q⟩ := h
  cases ry
  refine is_none_gen (fin_bl I q ?_)
  cases x <;> first
    | (cases rx; rfl)
    | (obtain ⟨t, rfl⟩ := rx; rfl)
theorem op_notN : OpR X (compareOp .IsNot) (fun x y H Q => y = .non ∧ Q (.bl (!decide (x = .non))) H) := by
  intro pins s σ H x y v u Q I rx ry h
  obtain ⟨rfl, q⟩ := h
  cases ry
  refine isnot_none_gen (fin_bl I q ?_)
  cases x <;> first
    | (cases rx; rfl)
    | (obtain ⟨t, rfl⟩ := rx; rfl)

theorem op_notin_str : OpR X (compareOp .NotIn) (fun x y H Q => ∃ i j, x = .str i ∧ y = .str j ∧ Q (.bl (!(!(Builtin.Str.occurrences j i 0 j.length 1).isEmpty))) H) := by
  intro pins s σ H x y v u Q I rx ry h
  obtain ⟨i, j, rfl, rfl, q⟩ := h
  obtain ⟨t, rfl⟩ := rx
  obtain ⟨t', rfl⟩ := ry
  exact notIn_str (fin_bl I q rfl)
/-- is, is not of two objects that are tracked lists or instances -/
def isObj : HO → Bool
  | .lst _ => true
  | .ins _ _ _ => true
  | _ => false
theorem obj_there {pins : List (Addr × Obj)} {s : Shared} {σ : St} {H : Hp} {a : Addr} {o : HO} (I : Inv X pins σ H s) (h : H a = some o) (p : isObj o = true) : ∃ ob, s.heap.get? a = some ob ∧ ob.cls ≠ .type "tuple" := by
  cases o with
  | lst xs =>
    obtain ⟨_, its, n, _, e⟩ : xs.length ≤ sizeLine ∧ ∃ (its : List Value) (n : Nat), Vals xs its ∧ s.heap.get? a = some { cls := .type "list", data := .seq its.toArray n } := I.hok a _ h
    exact ⟨_, e, (by show Value.type "list" ≠ .type "tuple"; decide +kernel)⟩
  | ins C dx fs =>
    have x := I.hok a _ h
    obtain ⟨_, _, _, e, _⟩ := x
    exact ⟨_, e, (by show Value.ref C ≠ .type "tuple"; exact fun z => by cases z)⟩
  | _ => exact absurd (show false = true from p) Bool.false_ne_true
theorem op_is_ref : OpR X (compareOp .Is) (fun x y H Q => ∃ a b oa ob, x = .ref a ∧ y = .ref b ∧ H a = some oa ∧ isObj oa = true ∧ H b = some ob ∧ isObj ob = true ∧ Q (.bl (decide (a = b))) H) := by
  intro pins s σ H x y v u Q I rx ry h
  obtain ⟨a, b, oa, ob, rfl, rfl, ha, pa, hb, pb, q⟩ := h
  cases rx
  cases ry
  obtain ⟨o1, e1, n1⟩ := obj_there I ha pa
  obtain ⟨o2, e2, _⟩ := obj_there I hb pb
  by_cases z : a = b
  · subst z
    exact wpAny_is_ref_self (fin_bl I q (by simp))
  · exact wpAny_is_ref_other z e1 e2 n1 (fin_bl I q (by simp [z]))
theorem op_isnot_ref : OpR X (compareOp .IsNot) (fun x y H Q => ∃ a b oa ob, x = .ref a ∧ y = .ref b ∧ H a = some oa ∧ isObj oa = true ∧ H b = some ob ∧ isObj ob = true ∧ Q (.bl (!decide (a = b))) H) := by
  intro pins s σ H x y v u Q I rx ry h
  obtain ⟨a, b, oa, ob, rfl, rfl, ha, pa, hb, pb, q⟩ := h
  cases rx
  cases ry
  obtain ⟨o1, e1, n1⟩ := obj_there I ha pa
  obtain ⟨o2, e2, _⟩ := obj_there I hb pb
  by_cases z : a = b
  · subst z
    exact wpAny_isNot_ref_self (fin_bl I q (by simp))
  · exact wpAny_isNot_ref_other z e1 e2 n1 (fin_bl I q (by simp [z]))

/-- two rules for one operation: by cases -/
theorem OpR.or {f : Value → Value → Sem Value} {r r' : R2} (h : OpR X f r) (h' : OpR X f r') : OpR X f (fun x y H Q => r x y H Q ∨ r' x y H Q) := by
  intro pins s σ H x y v u Q I rx ry q
  rcases q with q | q
  · exact h pins s σ H x y v u Q I rx ry q
  · exact h' pins s σ H x y v u Q I rx ry q

theorem nomark (b : Expr) {op : CmpOp} (h : op ≠ .In := by decide) (h2 : op ≠ .NotIn := by decide) : behindInMarks op b = false := by
  have e1 : (op == CmpOp.In) = false := by cases op <;> first | rfl | exact absurd rfl h
  have e2 : (op == CmpOp.NotIn) = false := by cases op <;> first | rfl | exact absurd rfl h2
  cases b <;> simp [behindInMarks, e1, e2]
/-- a comparison as a value; hm: nomark b, or (for in, not in) by with_unfolding_all rfl -/
theorem pe_cmpR {op : CmpOp} {r : R2} (ho : OpR X (compareOp op) r) (ha : PE X a ta) (hb : PE X b tb) (hm : behindInMarks op b = false) : PE X (.Compare a [op] [b] pos) (tOp r ta tb) := by
  intro pins s σ H Q I h
  exact wpAny_Compare1 (binT ha hb I h fun v u s2 x y H2 I2 rx ry q => ho pins s2 σ H2 x y v u Q I2 rx ry q) hm
/-- a reading of a value as a test -/
def tTest (t : TE) : TT := fun σ H Q => t σ H fun x H' => ∃ k, x = .bl k ∧ Q k H'
theorem pt_cmpR {op : CmpOp} {r : R2} (ho : OpR X (compareOp op) r) (ha : PE X a ta) (hb : PE X b tb) (hm : behindInMarks op b = false) : PT X (.Compare a [op] [b] pos) (tTest (tOp r ta tb)) := by
  intro pins s σ H Q I h
  refine wpAny_isTrue_Compare1 (thn (ha pins s σ H _ I h) fun v s1 ⟨x, H1, I1, r1, q1⟩ => thn (hb pins s1 σ H1 _ I1 q1) fun u s2 ⟨y, H2, I2, r2, q2⟩ =>
    thn (ho pins s2 σ H2 x y v u _ I2 r1 r2 q2) fun c s3 ⟨z, H3, I3, r3, k, e, q3⟩ => ?_) hm
  subst e
  cases r3
  exact wpAny_truthy_bool ⟨H3, I3, q3⟩
/-- a op1 b op2 c -/
def tChain (r r' : R2) (ta tb tc : TE) : TE := fun σ H Q => ta σ H fun x H1 => tb σ H1 fun y H2 => r x y H2 fun z H3 => ∃ k, z = .bl k ∧
  (if k = true then tc σ H3 fun w' H4 => r' y w' H4 Q else Q (.bl false) H3)
theorem pe_chain {op op' : CmpOp} {r r' : R2} (ho : OpR X (compareOp op) r) (ho' : OpR X (compareOp op') r') (ha : PE X a ta) (hb : PE X b tb) (hc : PE X c tc)
    (hm : lastMarks [op, op'] [b, c] = false := by with_unfolding_all rfl) : PE X (.Compare a [op, op'] [b, c] pos) (tChain r r' ta tb tc) := by
  intro pins s σ H Q I h
  refine Compare_chain (thn (ha pins s σ H _ I h) fun v s1 ⟨x, H1, I1, r1, q1⟩ => chain_link (thn (hb pins s1 σ H1 _ I1 q1) fun u s2 ⟨y, H2, I2, r2, q2⟩ =>
    thn (ho pins s2 σ H2 x y v u _ I2 r1 r2 q2) fun d s3 ⟨z, H3, I3, r3, k, e, q3⟩ => ?_)) hm
  subst e
  cases r3
  refine wpAny_truthy_bool ?_
  cases k with
  | false => exact ite_ff ⟨.bl false, H3, I3, rfl, q3⟩
  | true => exact ite_tt (chain_last (thn (hc pins s3 σ H3 _ I3 q3) fun w' s4 ⟨z', H4, I4, r4, q4⟩ => ho' pins s4 σ H4 y z' u w' Q I4 r2 r4 q4))
theorem pt_chain {op op' : CmpOp} {r r' : R2} (ho : OpR X (compareOp op) r) (ho' : OpR X (compareOp op') r') (ha : PE X a ta) (hb : PE X b tb) (hc : PE X c tc)
    (hm : lastMarks [op, op'] [b, c] = false := by with_unfolding_all rfl) : PT X (.Compare a [op, op'] [b, c] pos) (tTest (tChain r r' ta tb tc)) := by
  intro pins s σ H Q I h
  refine isTrue_chain (thn (ha pins s σ H _ I h) fun v s1 ⟨x, H1, I1, r1, q1⟩ => test_link (thn (hb pins s1 σ H1 _ I1 q1) fun u s2 ⟨y, H2, I2, r2, q2⟩ =>
    thn (ho pins s2 σ H2 x y v u _ I2 r1 r2 q2) fun d s3 ⟨z, H3, I3, r3, k, e, q3⟩ => ?_)) hm
  subst e
  cases r3
  refine wpAny_truthy_bool ?_
  cases k with
  | false =>
    obtain ⟨k', e', q'⟩ := q3
    cases e'
    exact ite_ff ⟨H3, I3, q'⟩
  | true =>
    refine ite_tt (test_last (thn (hc pins s3 σ H3 _ I3 q3) fun w' s4 ⟨z', H4, I4, r4, q4⟩ => thn (ho' pins s4 σ H4 y z' u w' _ I4 r2 r4 q4) fun d' s5 ⟨z2, H5, I5, r5, k2, e2, q5⟩ => ?_))
    subst e2
    cases r5
    exact wpAny_truthy_bool ⟨H5, I5, q5⟩

/-! ### truth -/
/-- a value's truth by the abstract heap -/
def TruV (K : PySem.W.Frag) (x : V) (H : Hp) (k : Bool) : Prop :=
  match x with
  | .non => k = false
  | .bl b => k = b
  | .int i => k = (i != 0)
  | .str y => y.length ≤ sizeLine ∧ k = ((y.length : Int) != 0)
  | .byt y => y.size ≤ sizeLine ∧ k = ((y.size : Int) != 0)
  | .ref p => (∃ xs, SqL K H p xs ∧ k = !xs.isEmpty) ∨ (∃ xs, SqT K H p xs ∧ k = !xs.isEmpty) ∨ ∃ kvs, H p = some (.dK kvs) ∧ k = !kvs.isEmpty
  | _ => False
theorem isEmpty_kv {κ : Type} {kvs : List (κ × V)} {vs : List (κ × Value)} (r : KV kvs vs) : (!vs.isEmpty) = !kvs.isEmpty := by
  cases r <;> rfl
theorem isEmpty_of {xs : List V} {its : List Value} (r : Vals xs its) : (!its.toArray.isEmpty) = !xs.isEmpty := by
  cases r <;> simp
theorem line63 : (sizeLine : Nat) < 2 ^ 63 := by rw [sizeLine_eq]; decide
theorem tru_ok : TruR X (fun x H Q => ∃ k, TruV X.K x H k ∧ Q k H) := by
  intro pins s σ H x v Q I rx h
  obtain ⟨k, e, q⟩ := h
  have hl := line63
  have hs : sizeLine = 16777216 := sizeLine_eq
  cases x with
  | non =>
    cases rx
    have e' : k = false := e
    subst e'
    exact truthy_none ⟨H, I, q⟩
  | bl b =>
    cases rx
    have e' : k = b := e
    subst e'
    exact wpAny_truthy_bool ⟨H, I, q⟩
  | int i =>
    obtain ⟨t, rfl⟩ := rx
    have e' : k = (i != 0) := e
    subst e'
    exact PySem.P.truthy_int ⟨H, I, q⟩
  | str y =>
    obtain ⟨t, rfl⟩ := rx
    obtain ⟨hy, e'⟩ : y.length ≤ sizeLine ∧ k = ((y.length : Int) != 0) := e
    subst e'
    exact PySem.P.truthy_str (by omega) ⟨H, I.tok _, q⟩
  | byt y =>
    obtain ⟨t, rfl⟩ := rx
    obtain ⟨hy, e'⟩ : y.size ≤ sizeLine ∧ k = ((y.size : Int) != 0) := e
    subst e'
    exact PySem.W.truthy_bytes (by omega) ⟨H, I.tok _, q⟩
  | ref p =>
    cases rx
    have e' : (∃ xs, SqL X.K H p xs ∧ k = !xs.isEmpty) ∨ (∃ xs, SqT X.K H p xs ∧ k = !xs.isEmpty) ∨ ∃ kvs, H p = some (.dK kvs) ∧ k = !kvs.isEmpty := e
    rcases e' with ⟨xs, hx, e'⟩ | ⟨xs, hx, e'⟩ | ⟨kvs, hx, e'⟩
    · subst e'
      obtain ⟨its, r, pl, hz⟩ := I.list hx
      have hlen := r.length
      exact wpAny_truthy_list pl.isList (by simp only [List.size_toArray]; omega) ⟨H, I.tok _, by rw [isEmpty_of r]; exact q⟩
    · subst e'
      obtain ⟨its, r, pl, hz⟩ := I.tuple hx
      have hlen := r.length
      exact truthy_tuple pl (by simp only [List.size_toArray]; omega) ⟨H, I.tok _, by rw [isEmpty_of r]; exact q⟩
    · subst e'
      obtain ⟨hz, hS, vs, r, m⟩ : kvs.length ≤ sizeLine ∧ (p == sysModules) = false ∧ ∃ vs, KV kvs vs ∧ s.heap.DictOf (mixKind X.prog X.w) p vs := I.hok p _ hx
      have hlen : kvs.length = vs.length := Paired.length r
      exact wpAny_truthy_dict hS m (by omega) ⟨H, I.tok _, by rw [isEmpty_kv r]; exact q⟩
  | _ => exact (show False from e).elim
/-- any expression whose test is its value's truth (a name, a call, a subscript, a field ..: he by fun _ => rfl) -/
theorem pt_truth (ha : PE X a ta) (he : ∀ whole, isTrue a X.env whole = (do let v ← whole; standAt a.pos; holding [v] (truthy v))) :
    PT X a (fun σ H Q => ta σ H fun x H' => ∃ k, TruV X.K x H' k ∧ Q k H') := by
  intro pins s σ H Q I h
  exact isTrue_plain (thn (ha pins s σ H _ I h) fun v s1 ⟨x, H1, I1, r1, q1⟩ => tru_ok pins s1 σ H1 x v Q I1 r1 q1) (he _)

/-! ### strs and bytes -/
theorem pe_byt {x : List UInt8} {k : Nat} : PE X (.Constant (.bytes x) k pos) (fun _ H Q => Q (.byt x.toArray) H) := fun _ _ _ H _ I h => PySem.W.Constant_bytes ⟨.byt x.toArray, H, I.tok _, ⟨_, rfl⟩, h⟩
theorem op_add_str : OpR X (binaryOp .Add) (fun x y H Q => ∃ i j, x = .str i ∧ y = .str j ∧ i.length + j.length ≤ sizeLine ∧ Q (.str (i ++ j)) H) := by
  intro pins s σ H x y v u Q I rx ry h
  obtain ⟨i, j, rfl, rfl, hz, q⟩ := h
  obtain ⟨t, rfl⟩ := rx
  obtain ⟨t', rfl⟩ := ry
  exact add_str (fun t' tk => ⟨.str (i ++ j), H, I.tok _, ⟨_, rfl⟩, q⟩) hz
theorem iop_add_str : OpR X (inplaceOp .Add) (fun x y H Q => ∃ i j, x = .str i ∧ y = .str j ∧ i.length + j.length ≤ sizeLine ∧ Q (.str (i ++ j)) H) := by
  intro pins s σ H x y v u Q I rx ry h
  obtain ⟨i, j, rfl, rfl, hz, q⟩ := h
  obtain ⟨t, rfl⟩ := rx
  obtain ⟨t', rfl⟩ := ry
  exact iadd_str (fun t' tk => ⟨.str (i ++ j), H, I.tok _, ⟨_, rfl⟩, q⟩) hz
theorem op_add_byt : OpR X (binaryOp .Add) (fun x y H Q => ∃ i j, x = .byt i ∧ y = .byt j ∧ i.size + j.size ≤ 16777216 ∧ Q (.byt (i ++ j)) H) := by
  intro pins s σ H x y v u Q I rx ry h
  obtain ⟨i, j, rfl, rfl, hz, q⟩ := h
  obtain ⟨t, rfl⟩ := rx
  obtain ⟨t', rfl⟩ := ry
  exact PySem.W.KBy.add_bytes hz (fun t' tk => ⟨.byt (i ++ j), H, I.tok _, ⟨_, rfl⟩, q⟩)

def PlainIxT (b : Expr) : Prop := ∀ o i, subscripted b false o i = operate [o, i] (getItem o i)
/-- s[i], 0 ≤ i < len -/
theorem pe_item_str (ha : PE X a ta) (hb : PE X b tb) (hs : PlainIxT b) :
    PE X (.Subscript a b pos) (tOp (fun x y H Q => ∃ z i c, x = .str z ∧ y = .int i ∧ 0 ≤ i ∧ i < 2 ^ 63 ∧ i < z.length ∧ z.cps[i.toNat]? = some c ∧ Q (.str ⟨#[c]⟩) H) ta tb) := by
  intro pins s σ H Q I h
  refine Subscript_ (binT ha hb I h fun v u s2 x y H2 I2 rx ry q => ?_)
  obtain ⟨z, i, c, rfl, rfl, h0, h63, h1, hc, q⟩ := q
  obtain ⟨t, rfl⟩ := rx
  obtain ⟨t', rfl⟩ := ry
  have e : seqIndex? i z.length = some i.toNat := PySem.StrLaws.seqIndex_nonneg h0 h1
  exact tail_any (typeIs_str s2 z t) slot_str_getitem.lookup (getItem_str (c := c) (by
    have e1 : decide (i < -(2 ^ 63 : Int)) = false := decide_eq_false (by omega)
    have e2 : decide (i ≥ 2 ^ 63) = false := decide_eq_false (by omega)
    rw [e1, e2] <;> rfl) (by rw [e]; exact hc) ⟨.str ⟨#[c]⟩, H2, I2.tok _, ⟨_, rfl⟩, q⟩) (hs _ _)
/-- b[i], 0 ≤ i < len -/
theorem pe_item_byt (ha : PE X a ta) (hb : PE X b tb) (hs : PlainIxT b) :
    PE X (.Subscript a b pos) (tOp (fun x y H Q => ∃ (z : List UInt8) (i : Int), x = .byt z.toArray ∧ y = .int i ∧ z.length ≤ sizeLine ∧ 0 ≤ i ∧ i < z.length ∧ Q (.int ((z.getD i.toNat 0).toNat : Nat)) H) ta tb) := by
  intro pins s σ H Q I h
  refine Subscript_ (binT ha hb I h fun v u s2 x y H2 I2 rx ry q => ?_)
  obtain ⟨z, i, rfl, rfl, hz, h0, h1, q⟩ := q
  obtain ⟨t, rfl⟩ := rx
  obtain ⟨t', rfl⟩ := ry
  have hl : sizeLine = 16777216 := sizeLine_eq
  exact tail_any (PySem.W.typeIs_bytes s2 z.toArray t) PySem.W.FB.slot_bytes_getitem.lookup (PySem.W.getItem_bytes (by omega) h0 h1 ⟨.int ((z.getD i.toNat 0).toNat : Nat), H2, I2.tok _, ⟨_, rfl⟩, q⟩) (hs _ _)

/-! ### scalar builtins, by CallR -/
theorem vals1 {x : V} {us : List Value} (r : Vals [x] us) : ∃ u, us = [u] ∧ RelV x u := by
  cases r with
  | cons r1 r2 => cases r2; exact ⟨_, rfl, r1⟩
theorem vals2 {x y : V} {us : List Value} (r : Vals [x, y] us) : ∃ u w', us = [u, w'] ∧ RelV x u ∧ RelV y w' := by
  cases r with
  | cons r1 r2 =>
    cases r2 with
    | cons r3 r4 => cases r4; exact ⟨_, _, rfl, r1, r3⟩
theorem call_abs : CallR X (.builtin "abs") (fun xs H Q => ∃ i, xs = [.int i] ∧ Q (.int (if i < 0 then -i else i)) H) := by
  intro pins s σ H xs us Q I r h
  obtain ⟨i, rfl, q⟩ := h
  obtain ⟨u, rfl, t, rfl⟩ := vals1 r
  exact call_abs_int fun u tk => ⟨.int (if i < 0 then -i else i), H, I.tok _, ⟨_, rfl⟩, q⟩
theorem call_max2 (hc : X.calm = true) : CallR X (.builtin "max") (fun xs H Q => ∃ i j, xs = [.int i, .int j] ∧ Q (.int (if j > i then j else i)) H) := by
  intro pins s σ H xs us Q I r h
  obtain ⟨i, j, rfl, q⟩ := h
  obtain ⟨u, w', rfl, ⟨t, rfl⟩, ⟨t', rfl⟩⟩ := vals2 r
  refine max_two_ints (I.ok.hd hc) fun h' tk k => ⟨_, H, I.kept k, ?_, q⟩
  by_cases hj : j > i
  · rw [if_pos hj, if_pos hj]; exact ⟨_, rfl⟩
  · rw [if_neg hj, if_neg hj]; exact ⟨_, rfl⟩
theorem call_min2 (hc : X.calm = true) : CallR X (.builtin "min") (fun xs H Q => ∃ i j, xs = [.int i, .int j] ∧ Q (.int (if j < i then j else i)) H) := by
  intro pins s σ H xs us Q I r h
  obtain ⟨i, j, rfl, q⟩ := h
  obtain ⟨u, w', rfl, ⟨t, rfl⟩, ⟨t', rfl⟩⟩ := vals2 r
  refine min_two_ints (I.ok.hd hc) fun h' tk k => ⟨_, H, I.kept k, ?_, q⟩
  by_cases hj : j < i
  · rw [if_pos hj, if_pos hj]; exact ⟨_, rfl⟩
  · rw [if_neg hj, if_neg hj]; exact ⟨_, rfl⟩
theorem call_int1 : CallR X (.type "int") (fun xs H Q => (∃ i, xs = [.int i] ∧ Q (.int i) H) ∨ ∃ k, xs = [.bl k] ∧ Q (.int (if k then 1 else 0)) H) := by
  intro pins s σ H xs us Q I r h
  rcases h with ⟨i, rfl, q⟩ | ⟨k, rfl, q⟩
  · obtain ⟨u, rfl, t, rfl⟩ := vals1 r
    exact call_int_int ⟨.int i, H, I, ⟨_, rfl⟩, q⟩
  · obtain ⟨u, rfl, r1⟩ := vals1 r
    cases r1
    exact call_int_bool ⟨.int (if k then 1 else 0), H, I.tok _, ⟨_, rfl⟩, q⟩
theorem call_bool1 : CallR X (.type "bool") (fun xs H Q => (∃ i, xs = [.int i] ∧ Q (.bl (i != 0)) H) ∨ ∃ k, xs = [.bl k] ∧ Q (.bl k) H) := by
  intro pins s σ H xs us Q I r h
  rcases h with ⟨i, rfl, q⟩ | ⟨k, rfl, q⟩
  · obtain ⟨u, rfl, t, rfl⟩ := vals1 r
    exact call_bool_int ⟨.bl (i != 0), H, I, rfl, q⟩
  · obtain ⟨u, rfl, r1⟩ := vals1 r
    cases r1
    exact call_bool_bool ⟨.bl k, H, I, rfl, q⟩
theorem call_str_int : CallR X (.type "str") (fun xs H Q => ∃ i, xs = [.int i] ∧ i.natAbs.log2 < 1920 ∧ Q (.str (toString i)) H) := by
  intro pins s σ H xs us Q I r h
  obtain ⟨i, rfl, hz, q⟩ := h
  obtain ⟨u, rfl, t, rfl⟩ := vals1 r
  exact PySem.P.str_of_int hz ⟨.str _, H, I.tok _, ⟨_, rfl⟩, q⟩
theorem call_ord : CallR X (.builtin "ord") (fun xs H Q => ∃ x, xs = [.str x] ∧ x.length = 1 ∧ Q (.int (x.cps.getD 0 0 : Nat)) H) := by
  intro pins s σ H xs us Q I r h
  obtain ⟨x, rfl, hz, q⟩ := h
  obtain ⟨u, rfl, t, rfl⟩ := vals1 r
  exact ord_of_one hz ⟨.int _, H, I.tok _, ⟨_, rfl⟩, q⟩
theorem call_chr : CallR X (.builtin "chr") (fun xs H Q => ∃ i, xs = [.int i] ∧ 0 ≤ i ∧ i ≤ 1114111 ∧ Q (.str ⟨#[i.toNat]⟩) H) := by
  intro pins s σ H xs us Q I r h
  obtain ⟨i, rfl, h0, h1, q⟩ := h
  obtain ⟨u, rfl, t, rfl⟩ := vals1 r
  exact chr_of_range h0 h1 ⟨.str _, H, I.tok _, ⟨_, rfl⟩, q⟩
/-- len of a str, a bytes, a list, a tuple -/
def LenV (K : PySem.W.Frag) (x : V) (H : Hp) (n : Nat) : Prop :=
  match x with
  | .str y => y.length ≤ sizeLine ∧ n = y.length
  | .byt y => y.size ≤ sizeLine ∧ n = y.size
  | .ref p => (∃ xs, SqL K H p xs ∧ n = xs.length) ∨ ∃ xs, SqT K H p xs ∧ n = xs.length
  | _ => False
theorem call_len : CallR X (.builtin "len") (fun xs H Q => ∃ x n, xs = [x] ∧ LenV X.K x H n ∧ Q (.int n) H) := by
  intro pins s σ H xs us Q I r h
  obtain ⟨x, n, rfl, e, q⟩ := h
  obtain ⟨u, rfl, rx⟩ := vals1 r
  have hl := line63
  have hs : sizeLine = 16777216 := sizeLine_eq
  cases x with
  | str y =>
    obtain ⟨t, rfl⟩ := rx
    obtain ⟨hy, e'⟩ : y.length ≤ sizeLine ∧ n = y.length := e
    subst e'
    exact len_str (by omega) ⟨.int _, H, I.tok _, ⟨_, rfl⟩, q⟩
  | byt y =>
    obtain ⟨t, rfl⟩ := rx
    obtain ⟨hy, e'⟩ : y.size ≤ sizeLine ∧ n = y.size := e
    subst e'
    exact PySem.W.len_bytes (by omega) ⟨.int _, H, I.tok _, ⟨_, rfl⟩, q⟩
  | ref p =>
    cases rx
    have e' : (∃ xs, SqL X.K H p xs ∧ n = xs.length) ∨ ∃ xs, SqT X.K H p xs ∧ n = xs.length := e
    rcases e' with ⟨xs, hx, e'⟩ | ⟨xs, hx, e'⟩
    · subst e'
      obtain ⟨its, r', pl, hz⟩ := I.list hx
      have hlen := r'.length
      exact Calls.call_len_list pl.isList (by simp only [List.size_toArray]; omega) ⟨.int xs.length, H, I.tok _, ⟨_, by simp only [List.size_toArray]; rw [hlen]⟩, q⟩
    · subst e'
      obtain ⟨its, r', pl, hz⟩ := I.tuple hx
      have hlen := r'.length
      exact len_tuple pl (by simp only [List.size_toArray]; omega) ⟨.int xs.length, H, I.tok _, ⟨_, by simp only [List.size_toArray]; rw [hlen]⟩, q⟩
  | _ => exact (show False from e).elim
/-- divmod: a new tuple -/
theorem call_divmod : CallR X (.builtin "divmod") (fun xs H Q => ∃ i j, xs = [.int i, .int j] ∧ CDiv i j ∧ ∀ p, H p = none → Q (.ref p) (upd H p (.tup [.int (i / j), .int (i % j)]))) := by
  intro pins s σ H xs us Q I r h
  obtain ⟨i, j, rfl, ⟨h1, h2⟩, q⟩ := h
  obtain ⟨u, w', rfl, ⟨t, rfl⟩, ⟨t', rfl⟩⟩ := vals2 r
  refine divmod_int (by omega) ?_ (.inl (PyProof.noPylong_small (by omega)))
  rw [Int.fdiv_eq_ediv_of_nonneg i (by omega), Int.fmod_eq_emod_of_nonneg i (by omega)]
  have hn : H s.heap.objs.size = none := I.hok.fresh (Nat.le_refl _)
  refine ⟨.ref s.heap.objs.size, _, ?_, rfl, q _ hn⟩
  refine I.laid (fun b o e => Heap.get?_push_of_some _ e) (Nat.le_refl _) ⟨by simp only [List.length_cons, List.length_nil]; rw [sizeLine_eq]; decide, [.int (i / j) s.toks, .int (i % j) (s.toks + 1)], .cons ⟨_, rfl⟩ (.cons ⟨_, rfl⟩ .nil), ?_⟩
  exact ⟨_, Heap.get?_push_size s.heap rfl, rfl, 0, rfl⟩
end
end L2

namespace L2
open PySem PySem.Spec PyProof.Rows

/-! ### an instance, its attributes a map -/
structure ObjM (h : Heap) (x dx C : Addr) (mA : Str → Option Value) : Prop where
  obj : h.get? x = some (PySem.W.instObj C dx)
  ns : h.Ns1 dx mA
  ne : dx ≠ x

theorem lookIn_ns {h : Heap} {dx : Addr} {mA : Str → Option Value} (n : h.Ns1 dx mA) : ∃ od, h.get? dx = some od ∧ ∀ name, PySem.W.lookIn name od = some (mA name) := by
  obtain ⟨o, es, ep, ho, hd, hk, _, hm⟩ := n
  refine ⟨o, ho, fun name => ?_⟩
  have e := hm name
  unfold nsFind findBy at e
  rw [← Array.find?_toList] at e
  unfold PySem.W.lookIn
  rw [hd]
  dsimp only
  split
  · rename_i y q
    rw [q] at e
    exact congrArg some e
  · rename_i q
    rw [q] at e
    have a : es.toList.any (·.refKey) = false := by
      rw [List.any_eq_false]
      intro y hy
      obtain ⟨z, t, hkey⟩ := hk y (Array.mem_toList_iff.mp hy)
      simp [DictEntry.refKey, hkey]
    have a' : ¬ es.toList.any (·.refKey) = true := by rw [a]; exact Bool.false_ne_true
    rw [if_neg a']
    exact congrArg some e

theorem ObjM.look {h : Heap} {x dx C : Addr} {mA : Str → Option Value} (I : ObjM h x dx C mA) : ∃ od, PySem.W.InstAt h x (PySem.W.instObj C dx) C (some od) ∧ ∀ name, PySem.W.lookIn name od = some (mA name) :=
  let ⟨od, ho, hl⟩ := lookIn_ns I.ns
  ⟨od, ⟨I.obj, rfl, rfl, ho⟩, hl⟩

section
variable {prog : Program} {w : World} {A : Around} {E : Value → Shared → Prop} {s : Shared} {K : PySem.W.Frag} {x dx C f : Addr} {mA : Str → Option Value} {name : Str} {v : Value}

theorem get_map {expr : Bool} {Q : Value → Shared → Prop} (X : K.In s.heap) (I : ObjM s.heap x dx C mA) (hg : PySem.W.plainGet K C name = true) (hh : PySem.W.hasDictIn K C = true)
    (ha : PySem.W.findIn K (.ref C) name = some none) (hv : mA name = some v) (hv' : PySem.W.handedIn v = true) (h : Q v { s with toks := s.toks + 1 }) :
    wpAny (model prog w) A (getAttr (.ref x) name expr) Q E s := by
  obtain ⟨od, J, hl⟩ := I.look
  exact PySem.W.get_value X J (PySem.W.plainGet_of hg).1 (PySem.W.findObj_own hh ha rfl (by rw [hl, hv])) hv' h

theorem get_const {expr : Bool} {a : Value} {Q : Value → Shared → Prop} (X : K.In s.heap) (I : ObjM s.heap x dx C mA) (hg : PySem.W.plainGet K C name = true) (hh : PySem.W.hasDictIn K C = true)
    (ha : PySem.W.findIn K (.ref C) name = some (some a)) (hn : PySem.W.specialIn K a "__get__" = some none) (hc : PySem.W.copiedNames.contains name = false) (hv : mA name = none) (hv' : PySem.W.handedIn a = true)
    (h : Q a { s with toks := s.toks + 1 }) : wpAny (model prog w) A (getAttr (.ref x) name expr) Q E s := by
  obtain ⟨od, J, hl⟩ := I.look
  exact PySem.W.get_value X J (PySem.W.plainGet_of hg).1 (PySem.W.findObj_cls hh ha hn hv' hc (by rw [hl, hv])) hv' h

theorem get_meth {pl : Sem Bool} {Q : Value × List Value → Shared → Prop} (X : K.In s.heap) (I : ObjM s.heap x dx C mA) (hg : PySem.W.plainGet K C name = true)
    (hf : PySem.W.findIn K (.ref C) name = some (some (.ref f))) (ht : PySem.W.isFn K (.ref f) = true) (hv : mA name = none) (h : Q (.ref f, [.ref x]) s) :
    wpAny (model prog w) A (getMethod (.ref x) name pl) Q E s := by
  obtain ⟨od, J, hl⟩ := I.look
  exact PySem.W.method_fn X J (PySem.W.plainGet_of hg).1 (PySem.W.plainGet_of hg).2 hf (beq_iff_eq.mp ht) (by show (PySem.W.lookIn name od).map (·.isSome) = some false; rw [hl, hv]; rfl) h

theorem set_map {ns : List Str} {Q : Unit → Shared → Prop} (X : K.In s.heap) (I : ObjM s.heap x dx C mA)
    (hs : PySem.W.findIn K (.ref C) "__setattr__" = some (some (.builtin "object.__setattr__"))) (hp : PySem.W.plainOver K C = true) (ht : PySem.W.takerIn K C name = some none) (hh : PySem.W.hasDictIn K C = true)
    (hw : PySem.Within mA ns) (hsz : ns.length ≤ sizeLine)
    (h : ∀ h', ObjM h' x dx C (fun y => if y = name then some v else mA y) → Heap.SameBut dx s.heap h' → Q () { s with heap := h', toks := s.toks + 2 }) :
    wpAny (model prog w) A (setAttr (.ref x) name v) Q E s := by
  obtain ⟨od, J, hl⟩ := I.look
  refine PySem.W.set_plain X J hs (PySem.W.osa_open (s := { s with toks := s.toks + 1 }) (r := none) X J hp ht fun b => ?_)
  obtain ⟨cd, hc, hd'⟩ := PySem.W.any_some hh
  have hx : s.heap.get? x = some ⟨.ref C, some dx, .plain, #[]⟩ := I.obj
  refine wpAny_bind (wpAny_pure (wpAny_bind (wpAny_bind (wpAny_loadPart hx (wpAny_bind (PySem.W.Looks.here (s := { s with toks := s.toks + 1 }) (PySem.W.looks_clsIn X hc) ?_))))))
  rw [hd']
  refine wpAny_pure (a := some dx) (wpAny_bind (wpAny_pure (wpAny_bind ?_)))
  refine wpAny_nsSet1 (s := { s with toks := s.toks + 1 }) I.ns fun h' hn2 hs2 => ?_
  obtain ⟨oD, esD, epD, hoD, hdD, hcD⟩ := hn2.count (PySem.Within.cons name v hw)
  refine wpAny_bind (wpAny_lookBehind hoD (by rw [hdD]; exact pastItsLine_dict (Nat.le_trans hcD (by rw [List.length_cons]; omega))) ?_)
  exact wpAny_pure (h _ ⟨(hs2.2 _ (Ne.symm I.ne)).trans I.obj, hn2, I.ne⟩ hs2)

/-- C(..): the dict at the heap's end, the instance behind it; then its __init__ -/
theorem make_map {R : Result → Shared → Prop} {vs : List Value} {kw : List (Str × Value)} (X : K.In s.heap) (hm : PySem.W.makesIn K C = true)
    (hi : PySem.W.findIn K (.ref C) "__init__" = some (some (.ref f))) (hf : PySem.W.typeIn K (.ref f) = some (.type "function"))
    (h : codeAny (model prog w) (A.under (.builtin "type.__call__" ⟨.ref C :: vs, kw⟩)) (.call (.ref f) ⟨.ref (s.heap.objs.size + 1) :: vs, kw⟩) (PySem.W.InitBack (s.heap.objs.size + 1) R)
      { s with heap := (s.heap.push PySem.W.emptyDict).push (PySem.W.instObj C s.heap.objs.size) }) :
    codeAny (model prog w) A (.call (.ref C) ⟨vs, kw⟩) R s := by
  obtain ⟨hh, g, d, t, os⟩ := s
  exact PySem.W.make_core (PySem.W.makes_of X hm) (PySem.W.looks_findIn X hi) (fun self => PySem.W.bind_fn X self hf) (.inl rfl) h
/-- C() where there is no __init__ but object's -/
theorem make_map0 {R : Result → Shared → Prop} (X : K.In s.heap) (hm : PySem.W.makesIn K C = true)
    (hi : PySem.W.findIn K (.ref C) "__init__" = some (some (.builtin "object.__init__")))
    (hb : ∀ self, PySem.W.Looks (model prog w) s.heap (bindSpecial (.builtin "object.__init__") self) (.builtin "object.__init__", [self]))
    (h : codeAny (model prog w) (A.under (.builtin "type.__call__" ⟨[.ref C], []⟩)) (.call (.builtin "object.__init__") ⟨[.ref (s.heap.objs.size + 1)], []⟩) (PySem.W.InitBack (s.heap.objs.size + 1) R)
      { s with heap := (s.heap.push PySem.W.emptyDict).push (PySem.W.instObj C s.heap.objs.size) }) :
    codeAny (model prog w) A (.call (.ref C) ⟨[], []⟩) R s := by
  obtain ⟨hh, g, d, t, os⟩ := s
  exact PySem.W.make_core (PySem.W.makes_of X hm) (PySem.W.looks_findIn X hi) hb (.inr ⟨rfl, rfl⟩) h
end

/-! ### the attributes as a list of pairs -/
def putF (f : Str) (v : V) : List (Str × V) → List (Str × V)
  | [] => [(f, v)]
  | (g, x) :: r => if g = f then (g, v) :: r else (g, x) :: putF f v r
theorem lookup_putF (f g : Str) (v : V) : ∀ fs : List (Str × V), (putF f v fs).lookup g = if g = f then some v else fs.lookup g
  | [] => by
    show List.lookup g [(f, v)] = _
    by_cases h : g = f
    · have hb : (g == f) = true := beq_iff_eq.mpr h
      simp only [List.lookup, hb, if_pos h]
    · have hb : (g == f) = false := beq_eq_false_iff_ne.mpr h
      simp only [List.lookup, hb, if_neg h]
  | (k, x) :: r => by
    have ih := lookup_putF f g v r
    rw [show putF f v ((k, x) :: r) = (if k = f then (k, v) :: r else (k, x) :: putF f v r) from rfl]
    by_cases hk : k = f
    · rw [if_pos hk]
      by_cases h : g = k
      · have hb : (g == k) = true := beq_iff_eq.mpr h
        simp only [List.lookup, hb, if_pos (h.trans hk)]
      · have hb : (g == k) = false := beq_eq_false_iff_ne.mpr h
        simp only [List.lookup, hb, if_neg (fun e : g = f => h (e.trans hk.symm))]
    · rw [if_neg hk]
      by_cases h : g = k
      · have hb : (g == k) = true := beq_iff_eq.mpr h
        simp only [List.lookup, hb, if_neg (fun e : g = f => hk (h.symm.trans e))]
      · have hb : (g == k) = false := beq_eq_false_iff_ne.mpr h
        simp only [List.lookup, hb]
        exact ih
theorem keys_putF (f : Str) (v : V) : ∀ fs : List (Str × V), f ∈ (putF f v fs).map (·.1) ∧ ∀ g, g ∈ fs.map (·.1) → g ∈ (putF f v fs).map (·.1)
  | [] => ⟨by simp [putF], fun g h => by simp at h⟩
  | (k, x) :: r => by
    obtain ⟨i1, i2⟩ := keys_putF f v r
    rw [show putF f v ((k, x) :: r) = (if k = f then (k, v) :: r else (k, x) :: putF f v r) from rfl]
    by_cases hk : k = f
    · rw [if_pos hk]
      subst hk
      exact ⟨by simp, fun g h => by simpa using h⟩
    · rw [if_neg hk]
      refine ⟨?_, fun g h => ?_⟩
      · rw [List.map_cons]
        exact List.mem_cons_of_mem _ i1
      · rw [List.map_cons] at h ⊢
        rcases List.mem_cons.mp h with e | e
        · exact List.mem_cons.mpr (.inl e)
        · exact List.mem_cons_of_mem _ (i2 g e)
theorem length_putF (f : Str) (v : V) : ∀ fs : List (Str × V), (putF f v fs).length ≤ fs.length + 1
  | [] => by simp [putF]
  | (k, x) :: r => by
    have ih := length_putF f v r
    rw [show putF f v ((k, x) :: r) = (if k = f then (k, v) :: r else (k, x) :: putF f v r) from rfl]
    by_cases hk : k = f
    · rw [if_pos hk, List.length_cons, List.length_cons]; omega
    · rw [if_neg hk, List.length_cons, List.length_cons]; omega

theorem RelO.some_of {v : V} {o : Option Value} (r : RelO (some v) o) : ∃ u, o = some u ∧ RelV v u := by
  cases o with
  | none => exact (show False from r).elim
  | some u => exact ⟨u, rfl, r⟩
theorem RelO.none_of {o : Option Value} (r : RelO none o) : o = none := by
  cases o with
  | none => rfl
  | some u => exact (show False from r).elim
theorem handed_of {v : V} {u : Value} (r : RelV v u) : PySem.W.handedIn u = true := by
  cases v with
  | non => cases (show u = Value.none from r); rfl
  | bl b => cases (show u = Value.bool b from r); rfl
  | int i => obtain ⟨t, e⟩ := (show ∃ t, u = Value.int i t from r); cases e; rfl
  | str x => obtain ⟨t, e⟩ := (show ∃ t, u = Value.str x t from r); cases e; rfl
  | byt b => obtain ⟨t, e⟩ := (show ∃ t, u = Value.bytes b t from r); cases e; rfl
  | flt b => obtain ⟨t, e⟩ := (show ∃ t, u = Value.float b t from r); cases e; rfl
  | ref a => cases (show u = Value.ref a from r); rfl
  | ty n => cases (show u = Value.type n from r); rfl

section
variable {P : Program} {w : World} {H H' : Hp} {h h' : Heap} {a C dx : Addr} {fs fs' : List (Str × V)}
theorem ins_get (hok : HOk P w H h) (e : H a = some (.ins C dx fs)) : ∃ mA, ObjM h a dx C mA ∧ (∀ f, RelO (fs.lookup f) (mA f)) ∧ PySem.Within mA (fs.map (·.1)) ∧ fs.length ≤ 1000 ∧ H dx = some (.own a) := by
  obtain ⟨d, z, ne, ob, mA, n, r, q⟩ := (show ObjOk P w H h a (.ins C dx fs) from hok a _ e)
  exact ⟨mA, ⟨ob, n, ne⟩, r, q, z, d⟩
end

/-! ### what of the text a class must have -/
structure Cls (K : PySem.W.Frag) (C : Addr) : Prop where
  pg : PySem.W.plainGet K C Str.empty = true
  hd : PySem.W.hasDictIn K C = true
  po : PySem.W.plainOver K C = true
  sa : PySem.W.findIn K (.ref C) "__setattr__" = some (some (.builtin "object.__setattr__"))
theorem Cls.get {K : PySem.W.Frag} {C : Addr} (c : Cls K C) (f : Str) : PySem.W.plainGet K C f = true := c.pg
/-- no class of it has the name -/
def NoAttr (K : PySem.W.Frag) (C : Addr) (f : Str) : Prop := PySem.W.findIn K (.ref C) f = some none
theorem NoAttr.taker {K : PySem.W.Frag} {C : Addr} {f : Str} (n : NoAttr K C f) : PySem.W.takerIn K C f = some none := by
  unfold PySem.W.takerIn
  rw [show PySem.W.findIn K (.ref C) f = some none from n]
  rfl
/-- a constant of the class -/
structure Con (K : PySem.W.Frag) (C : Addr) (f : Str) (v : V) (u : Value) : Prop where
  at_ : PySem.W.findIn K (.ref C) f = some (some u)
  rel : RelV v u
  get : PySem.W.specialIn K u "__get__" = some none
  cp : PySem.W.copiedNames.contains f = false
/-- a method: a plain def of the class or of one above it -/
structure Meth (K : PySem.W.Frag) (C : Addr) (m : Str) (f : Addr) : Prop where
  at_ : PySem.W.findIn K (.ref C) m = some (some (.ref f))
  fn : PySem.W.isFn K (.ref f) = true
  kp : PySem.W.keepIn K (.ref f) = true

section
variable {X : Cx} {pins : List (Addr × Obj)} {σ : St} {H : Hp} {s : Shared} {a C dx : Addr} {fs : List (Str × V)} {f : Str} {v : V} {A : Around} {E : Value → Shared → Prop}

theorem getattr_ok {b : Bool} {Q : Value → Shared → Prop} (I : Inv X pins σ H s) (e : H a = some (.ins C dx fs)) (c : Cls X.K C) (n : NoAttr X.K C f) (l : fs.lookup f = some v)
    (h : ∀ u s', Inv X pins σ H s' → RelV v u → Q u s') : wpAny (model X.prog X.w) A (getAttr (.ref a) f b) Q E s := by
  obtain ⟨mA, O, r, _, _, _⟩ := ins_get I.hok e
  obtain ⟨u, hu, ru⟩ := RelO.some_of (v := v) (o := mA f) (by rw [← l]; exact r f)
  exact get_map I.kIn O (c.get f) c.hd n hu (handed_of ru) (h u _ (I.tok _) ru)

theorem getcon_ok {b : Bool} {u : Value} {Q : Value → Shared → Prop} (I : Inv X pins σ H s) (e : H a = some (.ins C dx fs)) (c : Cls X.K C) (k : Con X.K C f v u) (l : fs.lookup f = none)
    (h : ∀ s', Inv X pins σ H s' → Q u s') : wpAny (model X.prog X.w) A (getAttr (.ref a) f b) Q E s := by
  obtain ⟨mA, O, r, _, _, _⟩ := ins_get I.hok e
  have hn : mA f = none := RelO.none_of (by rw [← l]; exact r f)
  exact get_const I.kIn O (c.get f) c.hd k.at_ k.get k.cp hn (handed_of k.rel) (h _ (I.tok _))

theorem getmeth_ok {m : Str} {g : Addr} {pl : Sem Bool} {Q : Value × List Value → Shared → Prop} (I : Inv X pins σ H s) (e : H a = some (.ins C dx fs)) (c : Cls X.K C) (k : Meth X.K C m g) (l : fs.lookup m = none)
    (h : Q (.ref g, [.ref a]) s) : wpAny (model X.prog X.w) A (getMethod (.ref a) m pl) Q E s := by
  obtain ⟨mA, O, r, _, _, _⟩ := ins_get I.hok e
  have hn : mA m = none := RelO.none_of (by rw [← l]; exact r m)
  exact get_meth I.kIn O (c.get m) k.at_ k.fn hn h

theorem setattr_ok {y : V} {u : Value} {Q : Unit → Shared → Prop} (I : Inv X pins σ H s) (e : H a = some (.ins C dx fs)) (c : Cls X.K C) (n : NoAttr X.K C f) (hl : fs.length < 1000) (ry : RelV y u)
    (h : ∀ s', Inv X pins σ (upd H a (.ins C dx (putF f y fs))) s' → Q () s') : wpAny (model X.prog X.w) A (setAttr (.ref a) f u) Q E s := by
  obtain ⟨mA, O, r, wi, _, ho⟩ := ins_get I.hok e
  have hz : (fs.map (·.1)).length ≤ sizeLine := by rw [List.length_map, sizeLine_eq]; omega
  refine set_map I.kIn O c.sa c.po n.taker c.hd wi hz fun h' O' sb => h _ ?_
  have hd : ∃ o, h'.get? dx = some o := let ⟨o, _, _, e', _⟩ := O'.ns; ⟨o, e'⟩
  refine I.write (x := a) (e := dx) (by rw [e]; exact True.intro) (.inr ho) (fun b q hb z => (sb.2 b hb).trans z) hd ?_
  refine ⟨by rw [upd_ne O.ne]; exact ho, ?_, O.ne, O'.obj, _, O'.ns, fun g => ?_, fun g hg => ?_⟩
  · have := length_putF f y fs; omega
  · show RelO ((putF f y fs).lookup g) (if g = f then some u else mA g)
    rw [lookup_putF]
    by_cases q : g = f
    · rw [if_pos q, if_pos q]; exact ry
    · rw [if_neg q, if_neg q]; exact r g
  · by_cases q : g = f
    · rw [q]; exact (keys_putF f y fs).1
    · refine (keys_putF f y fs).2 g (wi g fun z => hg ?_)
      show (if g = f then some u else mA g) = none
      rw [if_neg q]; exact z

/-- a new instance, tracked, without attributes -/
theorem Inv.made (I : Inv X pins σ H s) : Inv X pins σ (upd (upd H s.heap.objs.size (.own (s.heap.objs.size + 1))) (s.heap.objs.size + 1) (.ins C s.heap.objs.size []))
    { s with heap := (s.heap.push PySem.W.emptyDict).push (PySem.W.instObj C s.heap.objs.size) } := by
  have e1 : (s.heap.push PySem.W.emptyDict).get? s.heap.objs.size = some PySem.W.emptyDict := Heap.get?_push_size s.heap rfl
  have e2 : ((s.heap.push PySem.W.emptyDict).push (PySem.W.instObj C s.heap.objs.size)).get? (s.heap.objs.size + 1) = some (PySem.W.instObj C s.heap.objs.size) := by
    have := Heap.get?_push_size (s.heap.push PySem.W.emptyDict) (o := PySem.W.instObj C s.heap.objs.size) rfl
    rwa [Heap.size_push] at this
  have e3 : (s.heap.push PySem.W.emptyDict).Ns s.heap.objs.size (fun _ => none) := ⟨PySem.W.emptyDict, #[], _, e1, rfl, (fun e he => absurd he (by simp)), fun _ => rfl⟩
  have I1 := I.laid (a := s.heap.objs.size) (o := .own (s.heap.objs.size + 1)) (h' := s.heap.push PySem.W.emptyDict) (t' := s.toks) (fun b u q => Heap.get?_push_of_some _ q) (Nat.le_refl _) ⟨_, e1⟩
  refine I1.laid (a := s.heap.objs.size + 1) (o := .ins C s.heap.objs.size []) (t' := s.toks) (fun b u q => Heap.get?_push_of_some _ q) (Nat.le_of_eq (Heap.size_push _ _)) ?_
  have ne : s.heap.objs.size ≠ s.heap.objs.size + 1 := Nat.ne_of_lt (Nat.lt_succ_self _)
  refine ⟨by rw [upd_ne ne, upd_same], Nat.zero_le _, ne, e2, fun _ => none, (Heap.Ns1.of_empty e3).at fun o q => Heap.get?_push_of_some _ q, fun _ => True.intro, fun y hy => absurd rfl hy⟩

/-- e.f where nothing but the object is asked: through attributeBase (super) and the last hold -/
theorem attr_of {prog : Program} {w : World} {env : Env} {e : Expr} {f : Str} {pos : Pos} {s : Shared} {Q : Value → Shared → Prop} (hb : attributeBase e f env (eval e env) = eval e env)
    (h : wpAny (model prog w) A (eval e env) (fun o s₁ => wpAny (model prog w) A (getAttr o f true) Q E s₁) E s) : wpAny (model prog w) A (eval (.Attribute e f pos) env) Q E s :=
  Attribute_any_ h (by rw [arm_eval_Attribute, hb])
end

/-! ### readings and rules -/
/-- e.f, an attribute of the instance -/
def tFld (K : PySem.W.Frag) (ta : TE) (f : Str) : TE := fun σ H Q => ta σ H fun x H1 => ∃ a C dx fs v, x = .ref a ∧ H1 a = some (.ins C dx fs) ∧ Cls K C ∧ NoAttr K C f ∧ fs.lookup f = some v ∧ Q v H1
/-- e.f, a constant of the class -/
def tCon (K : PySem.W.Frag) (ta : TE) (f : Str) : TE := fun σ H Q => ta σ H fun x H1 => ∃ a C dx fs v u, x = .ref a ∧ H1 a = some (.ins C dx fs) ∧ Cls K C ∧ Con K C f v u ∧ fs.lookup f = none ∧ Q v H1
/-- e.f = value -/
def sFld (K : PySem.W.Frag) (ta tv : TE) (f : Str) : TS := fun D σ H => tv σ H fun y H1 => ta σ H1 fun x H2 => ∃ a C dx fs, x = .ref a ∧ H2 a = some (.ins C dx fs) ∧ Cls K C ∧ NoAttr K C f ∧ fs.length < 1000 ∧
  D.nx σ (upd H2 a (.ins C dx (putF f y fs)))
/-- an augmented operator on two values -/
def InOp (X : Cx) (op : Operator) (rd : V → V → Hp → VK → Prop) : Prop :=
  ∀ (pins : List (Addr × Obj)) (s : Shared) (σ : St) (H : Hp) (x y : V) (u v : Value) (Q : VK), Inv X pins σ H s → RelV x u → RelV y v → rd x y H Q → wpAny (model X.prog X.w) X.A (inplaceOp op u v) (EP X pins σ Q) X.xe s
/-- e.f op= value -/
def sFldAug (K : PySem.W.Frag) (ta tv : TE) (rd : V → V → Hp → VK → Prop) (f : Str) : TS := fun D σ H => ta σ H fun x H1 => ∃ a C dx fs v, x = .ref a ∧ H1 a = some (.ins C dx fs) ∧ Cls K C ∧ NoAttr K C f ∧ fs.lookup f = some v ∧
  tv σ H1 fun y H2 => rd v y H2 fun z H3 => ∃ dx' fs', H3 a = some (.ins C dx' fs') ∧ fs'.length < 1000 ∧ D.nx σ (upd H3 a (.ins C dx' (putF f z fs')))

section
variable {X : Cx} {o e value : Expr} {f : Str} {pos pos' tpos : Pos} {ta tv : TE}
theorem pe_fld (he : PE X e ta) (hb : attributeBase e f X.env (eval e X.env) = eval e X.env) : PE X (.Attribute e f pos) (tFld X.K ta f) := by
  intro pins s σ H Q I h
  refine attr_of hb (thn (he pins s σ H _ I h) fun u s1 ⟨x, H1, I1, rx, a, C, dx, fs, v, ex, ea, c, n, l, q⟩ => ?_)
  subst ex
  obtain rfl : u = Value.ref a := rx
  exact getattr_ok I1 ea c n l fun u' s2 I2 ru => ⟨v, H1, I2, ru, q⟩
theorem pe_con (he : PE X e ta) (hb : attributeBase e f X.env (eval e X.env) = eval e X.env) : PE X (.Attribute e f pos) (tCon X.K ta f) := by
  intro pins s σ H Q I h
  refine attr_of hb (thn (he pins s σ H _ I h) fun u s1 ⟨x, H1, I1, rx, a, C, dx, fs, v, u0, ex, ea, c, k, l, q⟩ => ?_)
  subst ex
  obtain rfl : u = Value.ref a := rx
  exact getcon_ok I1 ea c k l fun s2 I2 => ⟨v, H1, I2, k.rel, q⟩
theorem ps_fld (ha : PE X o ta) (hv : PE X value tv) (hs : swapsWith value (some (.Attribute o f pos')) pos.line X.env = pure false) : PS X (.Assign [.Attribute o f pos'] value pos) (sFld X.K ta tv f) := by
  intro pins s σ H D I h
  refine plainObj_wpAny_Assign_Attribute (thn (hv pins s σ H _ I h) fun u s1 ⟨y, H1, I1, ry, q⟩ => thn (ha pins s1 σ H1 _ I1 q) fun ov s2 ⟨x, H2, I2, rx, a, C, dx, fs, ex, ea, c, n, l, q2⟩ => ?_) hs
  subst ex
  obtain rfl : ov = Value.ref a := rx
  exact setattr_ok I2 ea c n l ry fun s3 I3 => ⟨σ, _, I3, q2⟩
theorem ps_fldaug {op : Operator} {rd : V → V → Hp → VK → Prop} (ha : PE X o ta) (hv : PE X value tv) (hop : InOp X op rd) : PS X (.AugAssign (.Attribute o f tpos) op value pos) (sFldAug X.K ta tv rd f) := by
  intro pins s σ H D I h
  refine wpAny_AugAssign_AttributeAny (thn (ha pins s σ H _ I h) fun ov s1 ⟨x, H1, I1, rx, a, C, dx, fs, v, ex, ea, c, n, l, q⟩ => ?_)
  subst ex
  obtain rfl : ov = Value.ref a := rx
  refine getattr_ok I1 ea c n l fun u s2 I2 ru => thn (hv pins s2 σ H1 _ I2 q) fun w3 s3 ⟨y, H2, I3, ry, q3⟩ => thn (hop pins s3 σ H2 v y u w3 _ I3 ru ry q3) fun w4 s4 ⟨z, H3, I4, rz, dx', fs', ea', l', q4⟩ => ?_
  exact setattr_ok I4 ea' c n l' rz fun s5 I5 => ⟨σ, _, I5, q4⟩
def rAdd : V → V → Hp → VK → Prop := fun x y H Q => ∃ i j, x = .int i ∧ y = .int j ∧ Q (.int (i + j)) H
def rSub : V → V → Hp → VK → Prop := fun x y H Q => ∃ i j, x = .int i ∧ y = .int j ∧ Q (.int (i - j)) H
theorem in_add : InOp X .Add rAdd := by
  rintro pins s σ H x y u v Q I rx ry ⟨i, j, rfl, rfl, q⟩
  obtain ⟨t, rfl⟩ := (show ∃ t, u = Value.int i t from rx)
  obtain ⟨t', rfl⟩ := (show ∃ t', v = Value.int j t' from ry)
  exact PyProof.Rows.iadd_int ⟨.int (i + j), H, I.tok _, ⟨_, rfl⟩, q⟩
theorem in_sub : InOp X .Sub rSub := by
  rintro pins s σ H x y u v Q I rx ry ⟨i, j, rfl, rfl, q⟩
  obtain ⟨t, rfl⟩ := (show ∃ t, u = Value.int i t from rx)
  obtain ⟨t', rfl⟩ := (show ∃ t', v = Value.int j t' from ry)
  exact PyProof.Rows.isub_int ⟨.int (i - j), H, I.tok _, ⟨_, rfl⟩, q⟩

/-- what is between an instance and its method: the tree of a method call -/
theorem methcall_of {pl : Sem Bool} {m : Str} {apos : Pos} {args : List Expr} {pins : List (Addr × Obj)} {s : Shared} {σ : St} {H : Hp} {Q : Value → Shared → Prop} {te : TE} (he : PE X e te) (I : Inv X pins σ H s)
    (h : te σ H fun x H1 => ∃ a C dx fs g, x = .ref a ∧ H1 a = some (.ins C dx fs) ∧ Cls X.K C ∧ Meth X.K C m g ∧ fs.lookup m = none ∧
      ∀ s1, Inv X pins σ H1 s1 → wpAny (model X.prog X.w) X.A (callWith pos (.ref g) [.ref a] (backTo pos (starEach args X.env)) (backToKw pos (keywordEach [] X.env))) Q X.xe s1)
    (ht : eval (.Call (.Attribute e m apos) args [] pos) X.env = (do
      let ov ← eval e X.env
      standAt apos.atName
      let (f, first) ← holding [ov] (getMethod ov m pl)
      callWith pos f first (backTo pos (starEach args X.env)) (backToKw pos (keywordEach [] X.env)))) :
    wpAny (model X.prog X.w) X.A (eval (.Call (.Attribute e m apos) args [] pos) X.env) Q X.xe s := by
  refine PySem.W.methodCall_KW (pl := pl) (thn (he pins s σ H _ I h) fun u s1 ⟨x, H1, I1, rx, a, C, dx, fs, g, ex, ea, c, k, l, q⟩ => ?_) ht
  subst ex
  obtain rfl : u = Value.ref a := rx
  exact getmeth_ok I1 ea c k l (q s1 I1)
end

/-! ### isinstance -/
section
variable {X : Cx} {pins : List (Addr × Obj)} {σ : St} {H : Hp} {s : Shared} {A : Around} {E : Value → Shared → Prop} {Q : Value → Shared → Prop} {c : Value} {b : Bool}
/-- the type of a value, as the fragment's deciders take it; for an instance its class -/
inductive TyOf (K : PySem.W.Frag) (H : Hp) : V → Value → Prop where
  | non : TyOf K H .non (.type "NoneType")
  | bl (x : Bool) : TyOf K H (.bl x) (.type "bool")
  | int (i : Int) : TyOf K H (.int i) (.type "int")
  | str (x : Str) : TyOf K H (.str x) (.type "str")
  | flt (x : UInt64) : TyOf K H (.flt x) (.type "float")
  | lst {a : Addr} {xs : List V} (e : H a = some (.lst xs)) : TyOf K H (.ref a) (.type "list")
  | frz {a : Addr} {o : Obj} {xs : List V} (e : H a = some (.frz o (.lst xs))) : TyOf K H (.ref a) (.type "list")
  | tup {a : Addr} {xs : List V} (e : H a = some (.tup xs)) : TyOf K H (.ref a) (.type "tuple")
  | dK {a : Addr} {kvs : List (Key × V)} (e : H a = some (.dK kvs)) : TyOf K H (.ref a) (.type "dict")
  | dT {a : Addr} {kvs : List (List Key × V)} (e : H a = some (.dT kvs)) : TyOf K H (.ref a) (.type "dict")
  | ins {a C dx : Addr} {fs : List (Str × V)} (e : H a = some (.ins C dx fs)) (cl : Cls K C) (ha : PySem.W.findIn K (.ref C) "__class__" = some (some (.builtin "object.__class__")))
      (hn : PySem.W.specialIn K (.builtin "object.__class__") "__get__" = some (some (.builtin "getset_descriptor.__get__"))) (htk : PySem.W.takesIn K (.builtin "object.__class__") = some true)
      (hm : PySem.W.mroIn K C (.type "object") = some true) : TyOf K H (.ref a) (.ref C)
/-- isinstance(x, c) for one class c, a built-in or an own one: kitOne's answer -/
theorem isinst_ok {x : V} {u t : Value} (I : Inv X pins σ H s) (rx : RelV x u) (ty : TyOf X.K H x t) (e : PySem.W.kitOne X.K t c = some b) (h : ∀ tk, Q (.bool b) { s with toks := tk }) :
    wpAny (model X.prog X.w) A (call (.builtin "isinstance") [u, c]) Q E s := by
  cases ty with
  | non => cases (show u = Value.none from rx); exact PySem.W.kia_one PySem.W.kitx_none I.kIn True.intro e (fun z => nomatch z) h
  | bl y => cases (show u = Value.bool y from rx); exact PySem.W.kia_one PySem.W.kitx_bool I.kIn True.intro e (fun z => nomatch z) h
  | int i => obtain ⟨t, q⟩ := (show ∃ t, u = Value.int i t from rx); cases q; exact PySem.W.kia_one PySem.W.kitx_int I.kIn True.intro e (fun z => nomatch z) h
  | str y => obtain ⟨t, q⟩ := (show ∃ t, u = Value.str y t from rx); cases q; exact PySem.W.kia_one PySem.W.kitx_str I.kIn True.intro e (fun z => nomatch z) h
  | flt y => obtain ⟨t, q⟩ := (show ∃ t, u = Value.float y t from rx); cases q; exact PySem.W.kia_one PySem.W.kitx_float I.kIn True.intro e (fun z => nomatch z) h
  | @lst a xs ea =>
    cases (show u = Value.ref a from rx)
    obtain ⟨_, _, n, _, h1⟩ := (show ObjOk X.prog X.w H s.heap a (.lst xs) from I.hok a _ ea)
    exact PySem.W.kia_one PySem.W.kitx_list I.kIn ⟨_, h1, rfl⟩ e (fun z => nomatch z) h
  | @frz a ob xs ea =>
    cases (show u = Value.ref a from rx)
    obtain ⟨_, _, _, n, _, h1⟩ := (show ObjOk X.prog X.w H s.heap a (.frz ob (.lst xs)) from I.hok a _ ea)
    exact PySem.W.kia_one PySem.W.kitx_list I.kIn ⟨_, h1, rfl⟩ e (fun z => nomatch z) h
  | @tup a xs ea =>
    cases (show u = Value.ref a from rx)
    obtain ⟨_, _, _, p⟩ := (show ObjOk X.prog X.w H s.heap a (.tup xs) from I.hok a _ ea)
    obtain ⟨o, h1, h2, _⟩ := p
    exact PySem.W.kia_one PySem.W.kitx_tuple I.kIn ⟨o, h1, h2⟩ e (fun z => nomatch z) h
  | @dK a kvs ea =>
    cases (show u = Value.ref a from rx)
    obtain ⟨_, _, vs, _, p⟩ := (show ObjOk X.prog X.w H s.heap a (.dK kvs) from I.hok a _ ea)
    obtain ⟨o, es, ep, h1, h2, _⟩ := p
    exact PySem.W.kia_one PySem.W.kitx_dict I.kIn ⟨o, h1, h2.1⟩ e (fun z => nomatch z) h
  | @dT a kvs ea =>
    cases (show u = Value.ref a from rx)
    obtain ⟨_, _, xs, _, o, es, ep, h1, h2, _⟩ := (show ObjOk X.prog X.w H s.heap a (.dT kvs) from I.hok a _ ea)
    exact PySem.W.kia_one PySem.W.kitx_dict I.kIn ⟨o, h1, h2.1⟩ e (fun z => nomatch z) h
  | @ins a C dx fs ea cl ha hn htk hm =>
    cases (show u = Value.ref a from rx)
    obtain ⟨mA, O, _⟩ := ins_get I.hok ea
    obtain ⟨od, J, _⟩ := O.look
    exact PySem.W.kia_one (PySem.W.kitx_own (cl.get _) cl.hd ha hn htk hm) I.kIn J e (fun z => nomatch z) h
end
end L2

namespace L2
open PySem PySem.Spec PyProof.Rows

/-! ### room -/
structure Room (k : Nat) (A : Around) : Prop where
  hd : A.handled = none
  dp : A.depth + 3 * k + 5 < recursionLimit
  un : A.units + 16 * k + 200 < cLine
theorem Room.mono {j k : Nat} {A : Around} (r : Room k A) (h : j ≤ k) : Room j A := ⟨r.hd, by have := r.dp; omega, by have := r.un; omega⟩
theorem Room.deeper {k : Nat} {A : Around} (r : Room (k + 1) A) (env : Env) : Room k (A.deeper env) :=
  ⟨r.hd, by have := r.dp; show A.depth + 1 + 3 * k + 5 < _; omega, by have := r.un; show A.units + 3 + 16 * k + 200 < _; omega⟩
theorem Room.in1 {k : Nat} {A : Around} (r : Room (k + 1) A) : Room k A.in1 :=
  ⟨r.hd, by have := r.dp; show A.depth + 3 * k + 5 < _; omega, by have := r.un; show A.units + 1 + 16 * k + 200 < _; omega⟩
theorem make_depth {A : Around} {C : Addr} {us : List Value} {kw : List (Str × Value)} : (A.under (.builtin "type.__call__" ⟨.ref C :: us, kw⟩)).depth = A.depth + 1 := by
  first | rfl | simp [Around.under, Code.weight, Code.isCreation, Code.isGuard, Code.isCaller, Code.frames, Code.isFrame, guardIds]
theorem make_units {A : Around} {C : Addr} {us : List Value} {kw : List (Str × Value)} : (A.under (.builtin "type.__call__" ⟨.ref C :: us, kw⟩)).units = A.units + 1 := by
  first | rfl | simp [Around.under, Code.cUnits, Code.frames, Code.isFrame]
theorem Room.make {k : Nat} {A : Around} (r : Room (k + 1) A) (C : Addr) (us : List Value) (kw : List (Str × Value)) : Room k (A.under (.builtin "type.__call__" ⟨.ref C :: us, kw⟩)) :=
  ⟨r.hd, by have := r.dp; rw [make_depth]; omega, by have := r.un; rw [make_units]; omega⟩
theorem Room.depth {k : Nat} {A : Around} (r : Room k A) : A.depth < recursionLimit := by have := r.dp; omega
theorem Room.units {k : Nat} {A : Around} (r : Room k A) : A.units + 64 < cLine := by have := r.un; omega
theorem Room.units0 {k : Nat} {A : Around} (r : Room k A) : A.units < cLine := by have := r.un; omega

/-! ### argument lists and displays -/
def tNil : TA := fun _ H Q => Q [] H
def tCons (ta : TE) (tr : TA) : TA := fun σ H Q => ta σ H fun x H1 => tr σ H1 fun xs H2 => Q (x :: xs) H2
section
variable {X : Cx} {e : Expr} {es : List Expr} {te : TE} {t : TA} {pos : Pos}
theorem pa_nil : PA X [] tNil := fun _ _ _ _ H Q I h => Calls.spliced_nil ⟨[], H, I, .nil, h⟩
theorem pa_cons (ha : PE X e te) (hr : PA X es t) (hs : starEach (e :: es) X.env = (false, eval e X.env) :: starEach es X.env := by rfl) : PA X (e :: es) (tCons te t) := by
  intro pos pins s σ H Q I h
  rw [hs]
  show wpAny _ _ (spliced ((false, eval e X.env) :: backTo pos (starEach es X.env))) _ _ s
  refine Calls.spliced_cons (thn (ha pins s σ H _ I h) fun u s1 ⟨x, H1, I1, r1, q1⟩ => ?_)
  exact thn (hr pos pins s1 σ H1 _ I1 q1) fun us s2 ⟨xs, H2, I2, r2, q2⟩ => ⟨x :: xs, H2, I2, .cons r1 r2, q2⟩

/-- a tuple, a list of written items -/
def tTup (t : TA) : TE := fun σ H Q => t σ H fun xs H1 => xs.length ≤ sizeLine ∧ ∀ p, H1 p = none → Q (.ref p) (upd H1 p (.tup xs))
def tLst (t : TA) : TE := fun σ H Q => t σ H fun xs H1 => xs.length ≤ sizeLine ∧ ∀ p, H1 p = none → Q (.ref p) (upd H1 p (.lst xs))
theorem pe_tup {x1} (h : PA X es t) : PE X (.Tuple es x1 pos) (tTup t) := by
  intro pins s σ H Q I hq
  refine wpAny_Tuple_spliced (thn (h pos pins s σ H _ I hq) fun us s1 ⟨xs, H1, I1, r, z, q⟩ => ⟨by rw [← r.length]; exact z, ?_⟩)
  have hf : H1 s1.heap.objs.size = none := I1.hok.fresh (Nat.le_refl _)
  refine ⟨.ref s1.heap.objs.size, upd H1 s1.heap.objs.size (.tup xs), I1.laid (t' := s1.toks) (fun b u e => Heap.get?_push_of_some _ e) (Nat.le_refl _) ?_, rfl, q _ hf⟩
  exact ⟨z, us, r, ⟨_, Heap.get?_push_size _ rfl, rfl, _, rfl⟩⟩
theorem pe_lst (h : PA X es t) : PE X (.List es pos) (tLst t) := by
  intro pins s σ H Q I hq
  refine wpAny_List_spliced (thn (h pos pins s σ H _ I hq) fun us s1 ⟨xs, H1, I1, r, z, q⟩ => ⟨by rw [← r.length]; exact z, ?_⟩)
  have hf : H1 s1.heap.objs.size = none := I1.hok.fresh (Nat.le_refl _)
  refine ⟨.ref s1.heap.objs.size, upd H1 s1.heap.objs.size (.lst xs), I1.laid (t' := s1.toks) (fun b u e => Heap.get?_push_of_some _ e) (Nat.le_refl _) ?_, rfl, q _ hf⟩
  exact ⟨z, us, 0, r, Heap.get?_push_size _ rfl⟩
end

/-! ### what a def promises -/
/-- a def's promise: the bound arguments in the parameters' order, the heap, the wanted end, the wanted exception -/
abbrev Sp := List V → Hp → VK → XK → Prop
/-- how an exception lies behind a call (file 08 gives it): the callers' frames, abstract heap and state ahead of the call, the wish, the exception, the state -/
abbrev CXT := List Env → Hp → Shared → XK → Value → Shared → Prop

/-- the state at a call -/
structure Env0 (P : Program) (w : World) (K : PySem.W.Frag) (mg : Str → Option Value) (base : Heap) (A : Around) (outer : List Env) (s : Shared) (H : Hp) : Prop where
  frames : A.frames = some outer
  mod : Mod K mg base
  bs : ∀ b o, base.get? b = some o → s.heap.get? b = some o ∧ H b = none
  bsz : base.objs.size ≤ s.heap.objs.size
  funs : s.heap.FunFrames base outer
  frf : ∀ b ∈ frs outer, H b = none
  hok : HOk P w H s.heap
  bare : AllBare s.gens
/-- a call's end -/
def CE (outer : List Env) (P : Program) (w : World) (H : Hp) (s : Shared) (Q : VK) (u : Value) (s' : Shared) : Prop :=
  ∃ v H', s'.os = s.os ∧ AllBare s'.gens ∧ Un (frs outer) [] H H' s.heap s'.heap ∧ HOk P w H' s'.heap ∧ RelV v u ∧ Q v H'
def CR (CX : CXT) (outer : List Env) (P : Program) (w : World) (H : Hp) (s : Shared) (Q : VK) (E : XK) (r : Result) (s' : Shared) : Prop :=
  match r with
  | .ok (.ret u) => CE outer P w H s Q u s'
  | .ok _ => False
  | .error e => CX outer H s E e s'
structure FnOk (P : Program) (w : World) (K : PySem.W.Frag) (mg : Str → Option Value) (base : Heap) (CX : CXT) (k : Nat) (f : Addr) (fd : FuncData) (ps : List Str) (sp : Sp) : Prop where
  len : ∀ vs H Q E, sp vs H Q E → vs.length = ps.length
  run : ∀ (A : Around) (outer : List Env) (s : Shared) (H : Hp) (args : Args) (us : List Value) (vs : List V) (Q : VK) (E : XK), Room k A → Env0 P w K mg base A outer s H → BindsTo s fd args (ps.zip us) → Vals vs us → sp vs H Q E →
    codeAny (model P w) A (.call (.ref f) args) (CR CX outer P w H s Q E) s
theorem FnOk.mono {P : Program} {w : World} {K : PySem.W.Frag} {mg : Str → Option Value} {base : Heap} {CX : CXT} {j k : Nat} {f : Addr} {fd : FuncData} {ps : List Str} {sp : Sp} (F : FnOk P w K mg base CX j f fd ps sp) (h : j ≤ k) :
    FnOk P w K mg base CX k f fd ps sp := ⟨F.len, fun A outer s H args us vs Q E hr => F.run A outer s H args us vs Q E (hr.mono h)⟩
/-- a weaker promise -/
theorem FnOk.imp {P : Program} {w : World} {K : PySem.W.Frag} {mg : Str → Option Value} {base : Heap} {CX : CXT} {k : Nat} {f : Addr} {fd : FuncData} {ps : List Str} {sp sp' : Sp} (F : FnOk P w K mg base CX k f fd ps sp)
    (h : ∀ vs H Q E, sp' vs H Q E → sp vs H Q E) : FnOk P w K mg base CX k f fd ps sp' :=
  ⟨fun vs H Q E q => F.len vs H Q E (h _ _ _ _ q), fun A outer s H args us vs Q E hr he hb hv hs => F.run A outer s H args us vs Q E hr he hb hv (h _ _ _ _ hs)⟩

theorem Env0.make {P : Program} {w : World} {K : PySem.W.Frag} {mg : Str → Option Value} {base : Heap} {A : Around} {outer : List Env} {s : Shared} {H : Hp} (e : Env0 P w K mg base A outer s H) (C : Addr) (us : List Value) (kw : List (Str × Value)) :
    Env0 P w K mg base (A.under (.builtin "type.__call__" ⟨.ref C :: us, kw⟩)) outer s H := ⟨by first | exact e.frames | (simpa [Around.under, Code.envs, Code.isFrame, pushEnvs] using e.frames), e.mod, e.bs, e.bsz, e.funs, e.frf, e.hok, e.bare⟩
theorem Env0.in1 {P : Program} {w : World} {K : PySem.W.Frag} {mg : Str → Option Value} {base : Heap} {A : Around} {outer : List Env} {s : Shared} {H : Hp} (e : Env0 P w K mg base A outer s H) :
    Env0 P w K mg base A.in1 outer s H := ⟨e.frames, e.mod, e.bs, e.bsz, e.funs, e.frf, e.hok, e.bare⟩

section
variable {X : Cx} {pins : List (Addr × Obj)} {σ : St} {H : Hp} {s s' : Shared}
/-- from a body: what a callee wants -/
theorem Inv.env0 (I : Inv X pins σ H s) : Env0 X.prog X.w X.K X.mg X.base X.A X.stack s H :=
  ⟨I.ok.frames, I.ok.mod, I.bs, Nat.le_trans I.ok.bsz I.sz, I.stack, I.stkFree, I.hok, I.bare⟩
/-- behind a call -/
theorem Inv.after {Q : VK} {u : Value} (I : Inv X pins σ H s) (h : CE X.stack X.prog X.w H s Q u s') : EP X pins σ Q u s' := by
  obtain ⟨v, H', os, bare, un, hok, r, q⟩ := h
  obtain ⟨hh, g, d, t, os'⟩ := s'
  obtain rfl : os' = s.os := os
  exact ⟨v, H', I.call (h' := hh) (g' := g) (d' := d) (t' := t) (ch := []) un hok bare (fun b z => absurd z (by simp)), r, q⟩
end

/-! ### calls -/
/-- f(..): the written arguments, then the defaults dvs; E: what is wanted of an exception -/
def tCall (sp : Sp) (dvs : List V) (E : XK) (t : TA) : TE := fun σ H Q => t σ H fun vs H1 => sp (vs ++ dvs) H1 Q E
/-- o.m(..) of an instance of the class at C -/
def tMeth (C : Addr) (m : Str) (sp : Sp) (dvs : List V) (E : XK) (ta : TE) (t : TA) : TE := fun σ H Q => ta σ H fun x H1 => ∃ a dx fs, x = .ref a ∧ H1 a = some (.ins C dx fs) ∧ fs.lookup m = none ∧
  t σ H1 fun vs H2 => sp (x :: (vs ++ dvs)) H2 Q E
/-- C(..): a new instance and its dict, then __init__ -/
def tMake (C : Addr) (sp : Sp) (dvs : List V) (E : XK) (t : TA) : TE := fun σ H Q => t σ H fun vs H1 => ∀ x dx, H1 x = none → H1 dx = none → dx ≠ x →
  sp (.ref x :: (vs ++ dvs)) (upd (upd H1 dx (.own x)) x (.ins C dx [])) (fun v H2 => v = .non ∧ Q (.ref x) H2) E

/-- how the parameters are bound: us the positional arguments, kw the keywords' values by name, ds the defaults that fill up -/
def Binds (K : PySem.W.Frag) (fd : FuncData) (ps : List Str) (ds : List Value) : Prop :=
  ∀ (s : Shared) (us : List Value), K.In s.heap → (us ++ ds).length = ps.length → BindsTo s fd ⟨us, []⟩ (ps.zip (us ++ ds))
/-- every parameter is given -/
theorem Binds.all {K : PySem.W.Frag} {fd : FuncData} {ps : List Str} (h : ∀ us : List Value, us.length = ps.length → bindArgs fd ⟨us, []⟩ = pure (ps.zip us)) : Binds K fd ps [] := fun s us _ hl => by
  rw [List.append_nil] at hl ⊢
  exact .of_eq (h us hl)

/-- an exception of a callee reaches what this body wants of exceptions -/
def Passes (CX : CXT) (X : Cx) (E : XK) : Prop := ∀ (pins : List (Addr × Obj)) (σ : St) (H : Hp) (s : Shared) (e : Value) (s' : Shared), Inv X pins σ H s → CX X.stack H s E e s' → X.xe e s'

section
variable {X : Cx} {CX : CXT} {k : Nat} {f C : Addr} {fd : FuncData} {ps : List Str} {sp : Sp} {dvs : List V} {ds : List Value} {E : XK} {x m : Str} {p pos apos : Pos} {e o : Expr} {es : List Expr} {ta : TE} {t : TA}

/-- the callee runs -/
theorem run_fn {pins : List (Addr × Obj)} {σ : St} {H : Hp} {s : Shared} {Q : VK} {us : List Value} {vs : List V} (F : FnOk X.prog X.w X.K X.mg X.base CX k f fd ps sp) (hr : Room k X.A) (hb : Binds X.K fd ps ds) (hd : Vals dvs ds) (hx : Passes CX X E)
    (I : Inv X pins σ H s) (r : Vals vs us) (h : sp (vs ++ dvs) H Q E) : wpAny (model X.prog X.w) X.A (call (.ref f) us) (EP X pins σ Q) X.xe s := by
  have r2 : Vals (vs ++ dvs) (us ++ ds) := r.append hd
  have hl : (us ++ ds).length = ps.length := by rw [← r2.length]; exact F.len _ _ _ _ h
  refine wpAny_call (codeAny_mono (F.run X.A X.stack s H ⟨us, []⟩ (us ++ ds) (vs ++ dvs) Q E hr I.env0 (hb s us I.kIn hl) r2 h) fun r s' hq => ?_)
  cases r with
  | error e => exact hx pins σ H s e s' I hq
  | ok fl =>
    cases fl with
    | ret u => exact I.after hq
    | next => exact False.elim hq
    | brk => exact False.elim hq
    | cont => exact False.elim hq

theorem pe_call (F : FnOk X.prog X.w X.K X.mg X.base CX k f fd ps sp) (hr : Room k X.A) (hg : Gl X x) (hm : X.mg x = some (.ref f)) (hk : PySem.W.keepIn X.K (.ref f) = true) (hb : Binds X.K fd ps ds) (hd : Vals dvs ds) (hx : Passes CX X E)
    (ha : PA X (e :: es) t) (hdb : (x == ("__debug__" : Str)) = false := by decide) (he : starEach (e :: es) X.env = (false, eval e X.env) :: starEach es X.env := by rfl) (hpl : (backTo pos (starEach es X.env)).any (·.1) = false := by rfl) :
    PE X (.Call (.Name x p) (e :: es) [] pos) (tCall sp dvs E t) := by
  intro pins s σ H Q I h
  refine wpAny_Call_Name_kw (ld_glob I hg hm ?_ hdb)
  refine PySem.W.callWith_K (h₀ := X.base) I.ok.mod.kin hk (thn (ha pos pins s σ H _ I h) fun us s1 ⟨vs, H1, I1, r, q⟩ => ⟨I1.kIn, ?_⟩) he hpl
  exact run_fn F hr hb hd hx I1 r q
theorem pe_call0 (F : FnOk X.prog X.w X.K X.mg X.base CX k f fd ps sp) (hr : Room k X.A) (hg : Gl X x) (hm : X.mg x = some (.ref f)) (hk : PySem.W.keepIn X.K (.ref f) = true) (hb : Binds X.K fd ps ds) (hd : Vals dvs ds) (hx : Passes CX X E)
    (hdb : (x == ("__debug__" : Str)) = false := by decide) : PE X (.Call (.Name x p) [] [] pos) (tCall sp dvs E tNil) := by
  intro pins s σ H Q I h
  refine wpAny_Call_Name_kw (ld_glob I hg hm ?_ hdb)
  exact PySem.W.callWith_K0 I.kIn hk (run_fn (us := []) F hr hb hd hx I .nil h)

/-- o.m(e, ..) -/
theorem pe_meth {pl : Sem Bool} (he : PE X o ta) (c : Cls X.K C) (hm : Meth X.K C m f) (F : FnOk X.prog X.w X.K X.mg X.base CX k f fd ps sp) (hr : Room k X.A) (hb : Binds X.K fd ps ds) (hd : Vals dvs ds) (hx : Passes CX X E) (ha : PA X (e :: es) t)
    (hst : starEach (e :: es) X.env = (false, eval e X.env) :: starEach es X.env := by rfl) (hpl : (backTo pos (starEach es X.env)).any (·.1) = false := by rfl)
    (ht : eval (.Call (.Attribute o m apos) (e :: es) [] pos) X.env = (do
      let ov ← eval o X.env
      standAt apos.atName
      let (f, first) ← holding [ov] (getMethod ov m pl)
      callWith pos f first (backTo pos (starEach (e :: es) X.env)) (backToKw pos (keywordEach [] X.env))) := by rfl) :
    PE X (.Call (.Attribute o m apos) (e :: es) [] pos) (tMeth C m sp dvs E ta t) := by
  intro pins s σ H Q I h
  refine PySem.W.methodCall_KW (pl := pl) (thn (he pins s σ H _ I h) fun u s1 ⟨x, H1, I1, rx, a, dx, fs, ex, ea, l, q⟩ => ?_) ht
  subst ex
  obtain rfl : u = Value.ref a := rx
  refine getmeth_ok I1 ea c hm l ?_
  refine PySem.W.callWith_K (first := [.ref a]) (h₀ := X.base) I.ok.mod.kin hm.kp (thn (ha pos pins s1 σ H1 _ I1 q) fun us s2 ⟨vs, H2, I2, r, q2⟩ => ⟨I2.kIn, ?_⟩) hst hpl
  exact run_fn (us := .ref a :: us) (vs := .ref a :: vs) F hr hb hd hx I2 (.cons rfl r) q2
/-- o.m() -/
theorem pe_meth0 {pl : Sem Bool} (he : PE X o ta) (c : Cls X.K C) (hm : Meth X.K C m f) (F : FnOk X.prog X.w X.K X.mg X.base CX k f fd ps sp) (hr : Room k X.A) (hb : Binds X.K fd ps ds) (hd : Vals dvs ds) (hx : Passes CX X E)
    (ht : eval (.Call (.Attribute o m apos) [] [] pos) X.env = (do
      let ov ← eval o X.env
      standAt apos.atName
      let (f, first) ← holding [ov] (getMethod ov m pl)
      callWith pos f first (backTo pos (starEach [] X.env)) (backToKw pos (keywordEach [] X.env))) := by rfl) :
    PE X (.Call (.Attribute o m apos) [] [] pos) (tMeth C m sp dvs E ta tNil) := by
  intro pins s σ H Q I h
  refine PySem.W.methodCall_KW (pl := pl) (thn (he pins s σ H _ I h) fun u s1 ⟨x, H1, I1, rx, a, dx, fs, ex, ea, l, q⟩ => ?_) ht
  subst ex
  obtain rfl : u = Value.ref a := rx
  refine getmeth_ok I1 ea c hm l ?_
  exact PySem.W.callWith_K0 (first := [.ref a]) I1.kIn hm.kp (run_fn (us := [.ref a]) (vs := [.ref a]) F hr hb hd hx I1 (.cons rfl .nil) q)

/-- what a class must have to be made -/
structure Mk (K : PySem.W.Frag) (C f : Addr) : Prop where
  makes : PySem.W.makesIn K C = true
  init : PySem.W.findIn K (.ref C) "__init__" = some (some (.ref f))
  fn : PySem.W.isFn K (.ref f) = true
  kp : PySem.W.keepIn K (.ref C) = true

theorem run_make {pins : List (Addr × Obj)} {σ : St} {H : Hp} {s : Shared} {Q : VK} {us : List Value} {vs : List V} (M : Mk X.K C f) (F : FnOk X.prog X.w X.K X.mg X.base CX k f fd ps sp) (hr : Room (k + 1) X.A) (hb : Binds X.K fd ps ds) (hd : Vals dvs ds)
    (hx : Passes CX X E) (I : Inv X pins σ H s) (r : Vals vs us)
    (h : ∀ x dx, H x = none → H dx = none → dx ≠ x → sp (.ref x :: (vs ++ dvs)) (upd (upd H dx (.own x)) x (.ins C dx [])) (fun v H2 => v = .non ∧ Q (.ref x) H2) E) :
    wpAny (model X.prog X.w) X.A (call (.ref C) us) (EP X pins σ Q) X.xe s := by
  have hq := h (s.heap.objs.size + 1) s.heap.objs.size (I.hok.fresh (Nat.le_succ _)) (I.hok.fresh (Nat.le_refl _)) (Nat.ne_of_lt (Nat.lt_succ_self _))
  have I2 := Inv.made (C := C) I
  have r2 : Vals (V.ref (s.heap.objs.size + 1) :: (vs ++ dvs)) (Value.ref (s.heap.objs.size + 1) :: (us ++ ds)) := .cons rfl (r.append hd)
  have hl : (Value.ref (s.heap.objs.size + 1) :: us ++ ds).length = ps.length := by
    have e := r2.length
    rw [F.len _ _ _ _ hq] at e
    exact e.symm
  refine wpAny_call (make_map (f := f) I.kIn M.makes M.init (beq_iff_eq.mp M.fn) (codeAny_mono (F.run _ X.stack _ _ ⟨Value.ref (s.heap.objs.size + 1) :: us, []⟩ (Value.ref (s.heap.objs.size + 1) :: (us ++ ds)) _ _ E (hr.make C us [])
    (I2.env0.make C us []) (hb _ (Value.ref (s.heap.objs.size + 1) :: us) I2.kIn hl) r2 hq) fun r s' hq' => ?_))
  cases r with
  | error e => exact hx pins σ _ _ e s' I2 hq'
  | ok fl =>
    cases fl with
    | ret u =>
      obtain ⟨v, H', I3, rv, ev, q3⟩ := I2.after hq'
      subst ev
      exact ⟨rv, ⟨V.ref (s.heap.objs.size + 1), H', I3, rfl, q3⟩⟩
    | next => exact False.elim hq'
    | brk => exact False.elim hq'
    | cont => exact False.elim hq'
theorem pe_make (M : Mk X.K C f) (F : FnOk X.prog X.w X.K X.mg X.base CX k f fd ps sp) (hr : Room (k + 1) X.A) (hg : Gl X x) (hm : X.mg x = some (.ref C)) (hb : Binds X.K fd ps ds) (hd : Vals dvs ds) (hx : Passes CX X E)
    (ha : PA X (e :: es) t) (hdb : (x == ("__debug__" : Str)) = false := by decide) (he : starEach (e :: es) X.env = (false, eval e X.env) :: starEach es X.env := by rfl) (hpl : (backTo pos (starEach es X.env)).any (·.1) = false := by rfl) :
    PE X (.Call (.Name x p) (e :: es) [] pos) (tMake C sp dvs E t) := by
  intro pins s σ H Q I h
  refine wpAny_Call_Name_kw (ld_glob I hg hm ?_ hdb)
  refine PySem.W.callWith_K (h₀ := X.base) I.ok.mod.kin M.kp (thn (ha pos pins s σ H _ I h) fun us s1 ⟨vs, H1, I1, r, q⟩ => ⟨I1.kIn, ?_⟩) he hpl
  exact run_make M F hr hb hd hx I1 r q
theorem pe_make0 (M : Mk X.K C f) (F : FnOk X.prog X.w X.K X.mg X.base CX k f fd ps sp) (hr : Room (k + 1) X.A) (hg : Gl X x) (hm : X.mg x = some (.ref C)) (hb : Binds X.K fd ps ds) (hd : Vals dvs ds) (hx : Passes CX X E)
    (hdb : (x == ("__debug__" : Str)) = false := by decide) : PE X (.Call (.Name x p) [] [] pos) (tMake C sp dvs E tNil) := by
  intro pins s σ H Q I h
  refine wpAny_Call_Name_kw (ld_glob I hg hm ?_ hdb)
  exact PySem.W.callWith_K0 I.kIn M.kp (run_make (us := []) M F hr hb hd hx I .nil h)
end

/-! ### keywords -/
/-- the values of the keywords, from the left -/
def PK (X : Cx) (kws : List Keyword) (t : TA) : Prop :=
  ∀ (pos : Pos) (pins : List (Addr × Obj)) (s : Shared) (σ : St) (H : Hp) (Q : List V → Hp → Prop), Inv X pins σ H s → t σ H Q → wpAny (model X.prog X.w) X.A (evalAll ((backToKw pos (keywordEach kws X.env)).map (·.2))) (AP X pins σ Q) X.xe s
section
variable {X : Cx} {CX : CXT} {k : Nat} {f C : Addr} {fd : FuncData} {ps ks : List Str} {sp : Sp} {E : XK} {x m : Str} {p pos apos kpos : Pos} {e o : Expr} {es : List Expr} {kws : List Keyword} {te ta : TE} {t tk : TA} {nm : Option Str}
theorem pk_nil : PK X [] tNil := fun _ _ _ _ H Q I h => wpAny_evalAll_nil ⟨[], H, I, .nil, h⟩
theorem pk_cons (ha : PE X e te) (hr : PK X kws t) : PK X (⟨nm, e, kpos⟩ :: kws) (tCons te t) := by
  intro pos pins s σ H Q I h
  show wpAny _ _ (evalAll ((do let v ← eval e X.env; standAt pos; pure v) :: (backToKw pos (keywordEach kws X.env)).map (·.2))) _ _ s
  refine wpAny_evalAll_cons (wpAny_bind (thn (ha pins s σ H _ I h) fun u s1 ⟨x, H1, I1, r1, q1⟩ => wpAny_bind (wpAny_standAt (wpAny_pure ?_))))
  exact thn (hr pos pins s1 σ H1 _ I1 q1) fun us s2 ⟨xs, H2, I2, r2, q2⟩ => ⟨x :: xs, H2, I2, .cons r1 r2, q2⟩

/-- how a call with keywords binds: g puts the positional values us and the keywords' values ws (names ks) in the parameters' order, defaults among them -/
structure KBinds (K : PySem.W.Frag) (fd : FuncData) (ps ks : List Str) (g : List Value → List Value → List Value) (gV : List V → List V → List V) : Prop where
  to : ∀ (s : Shared) (us ws : List Value), K.In s.heap → (g us ws).length = ps.length → BindsTo s fd ⟨us, ks.zip ws⟩ (ps.zip (g us ws))
  rel : ∀ {vs : List V} {us : List Value} {zs : List V} {ws : List Value}, Vals vs us → Vals zs ws → Vals (gV vs zs) (g us ws)
def tCallK (sp : Sp) (gV : List V → List V → List V) (E : XK) (t tk : TA) : TE := fun σ H Q => t σ H fun vs H1 => tk σ H1 fun zs H2 => sp (gV vs zs) H2 Q E
variable {g : List Value → List Value → List Value} {gV : List V → List V → List V}
theorem run_fnk {pins : List (Addr × Obj)} {σ : St} {H : Hp} {s : Shared} {Q : VK} {us ws : List Value} {vs zs : List V} (F : FnOk X.prog X.w X.K X.mg X.base CX k f fd ps sp) (hr : Room k X.A) (hb : KBinds X.K fd ps ks g gV) (hx : Passes CX X E)
    (I : Inv X pins σ H s) (r : Vals vs us) (rz : Vals zs ws) (h : sp (gV vs zs) H Q E) : wpAny (model X.prog X.w) X.A (call (.ref f) us (ks.zip ws)) (EP X pins σ Q) X.xe s := by
  have r2 := hb.rel r rz
  have hl : (g us ws).length = ps.length := by rw [← r2.length]; exact F.len _ _ _ _ h
  refine wpAny_call (codeAny_mono (F.run X.A X.stack s H ⟨us, ks.zip ws⟩ (g us ws) (gV vs zs) Q E hr I.env0 (hb.to s us ws I.kIn hl) r2 h) fun r s' hq => ?_)
  cases r with
  | error e => exact hx pins σ H s e s' I hq
  | ok fl =>
    cases fl with
    | ret u => exact I.after hq
    | next => exact False.elim hq
    | brk => exact False.elim hq
    | cont => exact False.elim hq
/-- f(e, .., k = v, ..) -/
theorem pe_callK (F : FnOk X.prog X.w X.K X.mg X.base CX k f fd ps sp) (hr : Room k X.A) (hg : Gl X x) (hm : X.mg x = some (.ref f)) (hk : PySem.W.keepIn X.K (.ref f) = true) (hb : KBinds X.K fd ps ks g gV) (hx : Passes CX X E)
    (ha : PA X (e :: es) t) (hkw : PK X kws tk) (hall : (backToKw pos (keywordEach kws X.env)).all (·.1.isSome) = true := by rfl) (hks : (backToKw pos (keywordEach kws X.env)).filterMap (·.1) = ks := by rfl)
    (hdb : (x == ("__debug__" : Str)) = false := by decide) (he : starEach (e :: es) X.env = (false, eval e X.env) :: starEach es X.env := by rfl)
    (hpl : ((backTo pos (starEach (e :: es) X.env)).any (·.1) || (backToKw pos (keywordEach kws X.env)).any (·.1.isNone)) = false := by rfl) :
    PE X (.Call (.Name x p) (e :: es) kws pos) (tCallK sp gV E t tk) := by
  intro pins s σ H Q I h
  refine wpAny_Call_Name_kw (ld_glob I hg hm ?_ hdb)
  refine PySem.W.callWith_KW (h₀ := X.base) I.ok.mod.kin hk hall (thn (ha pos pins s σ H _ I h) fun us s1 ⟨vs, H1, I1, r, q⟩ => ?_) hpl he
  refine thn (hkw pos pins s1 σ H1 _ I1 q) fun ws s2 ⟨zs, H2, I2, rz, q2⟩ => ⟨I2.kIn, ?_⟩
  rw [hks]
  exact run_fnk F hr hb hx I2 r rz q2
end

/-! ### a def's body keeps its promise -/
/-- names: the parameters first -/
structure FnScope (N P : List Str) (sc : Scope) : Prop where
  kind : sc.kind = .function
  co : sc.isCoroutine = false
  gen : sc.isGenerator = false
  nd : N.Nodup
  pre : N.take P.length = P
  par : ∀ x ∈ P, sc.names.lookup x = some .local ∨ sc.names.lookup x = some .cell
  nofree : ∀ y ∈ sc.names, y.2 ≠ .free

theorem bindL_out {kindOf : Str → Option NameKind} {x : Str} : ∀ {binds : List (Str × Value)} {m : Str → Option Value}, (∀ v, (x, v) ∉ binds) → bindL kindOf binds m x = m x
  | [], _, _ => rfl
  | (n, v) :: r, m, h => by
    unfold bindL
    rw [bindL_out fun w hw => h w (List.mem_cons_of_mem _ hw)]
    split
    · have : x ≠ n := by rintro rfl; exact h v List.mem_cons_self
      simp [this]
    · rfl
theorem bindC_out {kindOf : Str → Option NameKind} {x : Str} : ∀ {binds : List (Str × Value)} {m : Str → Option Value}, (∀ v, (x, v) ∉ binds) → bindC kindOf binds m x = m x
  | [], _, _ => rfl
  | (n, v) :: r, m, h => by
    unfold bindC
    rw [bindC_out fun w hw => h w (List.mem_cons_of_mem _ hw)]
    split
    · rfl
    · have : x ≠ n := by rintro rfl; exact h v List.mem_cons_self
      simp [this]
theorem bindL_get {kindOf : Str → Option NameKind} {x : Str} {v : Value} : ∀ {P : List Str} {vs : List Value} {i : Nat} {m : Str → Option Value}, P.Nodup → P[i]? = some x → vs[i]? = some v → kindOf x = some .local →
    bindL kindOf (P.zip vs) m x = some v
  | [], _, _, _, _, h, _, _ => by simp at h
  | _ :: _, [], _, _, _, _, h, _ => by simp at h
  | p :: P, w :: vs, 0, m, nd, h1, h2, hk => by
    simp at h1 h2; subst h1; subst h2
    show bindL kindOf ((p, w) :: P.zip vs) m p = _
    unfold bindL
    rw [bindL_out fun v hv => (List.nodup_cons.mp nd).1 (List.of_mem_zip hv).1, if_pos hk]
    simp
  | p :: P, w :: vs, i + 1, m, nd, h1, h2, hk => by
    show bindL kindOf ((p, w) :: P.zip vs) m x = _
    unfold bindL
    exact bindL_get (i := i) (List.nodup_cons.mp nd).2 (by simpa using h1) (by simpa using h2) hk
theorem bindC_get {kindOf : Str → Option NameKind} {x : Str} {v : Value} : ∀ {P : List Str} {vs : List Value} {i : Nat} {m : Str → Option Value}, P.Nodup → P[i]? = some x → vs[i]? = some v → kindOf x ≠ some .local →
    bindC kindOf (P.zip vs) m x = some v
  | [], _, _, _, _, h, _, _ => by simp at h
  | _ :: _, [], _, _, _, _, h, _ => by simp at h
  | p :: P, w :: vs, 0, m, nd, h1, h2, hk => by
    simp at h1 h2; subst h1; subst h2
    show bindC kindOf ((p, w) :: P.zip vs) m p = _
    unfold bindC
    rw [bindC_out fun v hv => (List.nodup_cons.mp nd).1 (List.of_mem_zip hv).1, if_neg hk]
    simp
  | p :: P, w :: vs, i + 1, m, nd, h1, h2, hk => by
    show bindC kindOf ((p, w) :: P.zip vs) m x = _
    unfold bindC
    exact bindC_get (i := i) (List.nodup_cons.mp nd).2 (by simpa using h1) (by simpa using h2) hk

/-- the names' values at the entry -/
def start (N : List Str) (vs : List V) : St := vs.map some ++ List.replicate (N.length - vs.length) none

/-- the context of a def's body, at its entry; an exception leaves the frame, then lies as CX says -/
def cxOf (CX : CXT) (P : Program) (w : World) (K : PySem.W.Frag) (mg : Str → Option Value) (base : Heap) (N : List Str) (qual : Str) (scope : Scope) (f : Addr) (cd : Value) (A : Around) (outer : List Env) (s : Shared) (H : Hp) (E : XK) : Cx where
  prog := P
  w := w
  K := K
  mg := mg
  base := base
  A := A.deeper (envOfC qual scope s.heap.objs.size f cd)
  N := N
  s₀ := s
  H₀ := H
  env := envOfC qual scope s.heap.objs.size f cd
  outer := outer
  stack := envOfC qual scope s.heap.objs.size f cd :: outer
  ex := []
  calm := true
  fn := fun _ => true
  pn := []
  xe := fun e s' => wpAny (model P w) (A.deeper (envOfC qual scope s.heap.objs.size f cd)) (leaving (envOfC qual scope s.heap.objs.size f cd) e) (fun _ s'' => CX outer H s E e s'') (fun e' s'' => CX outer H s E e' s'') s'

theorem cell_has {sc : Scope} {n : Nat} {x : Str} (h : sc.names.lookup x = some .cell) : ∃ c, (cellsFrom n sc.names []).lookup x = some c := by
  have q := PySem.W.cellsFrom_some sc.names n [] (.inl h)
  exact Option.isSome_iff_exists.mp q

theorem inv_start {CX : CXT} {P : Program} {w : World} {K : PySem.W.Frag} {mg : Str → Option Value} {base : Heap} {N ps : List Str} {qual : Str} {scope : Scope} {f : Addr} {cd : Value} {A : Around} {outer : List Env} {s s1 : Shared} {H : Hp} {E : XK} {us : List Value} {vs : List V}
    (S : FnScope N ps scope) (hd : A.handled = none) (e0 : Env0 P w K mg base A outer s H) (hl : vs.length = ps.length) (r : Vals vs us)
    (x : InCallC s s.heap.objs.size (bindL (envOfC qual scope s.heap.objs.size f cd).kindOf (ps.zip us) fun _ => none) (cellsFrom (s.heap.objs.size + 1) scope.names []) (bindC (envOfC qual scope s.heap.objs.size f cd).kindOf (ps.zip us) fun _ => none) s1) :
    Inv (cxOf CX P w K mg base N qual scope f cd A outer s H E) [] (start N vs) H s1 := by
  have hpl : ps.length ≤ N.length := by have := congrArg List.length S.pre; rw [List.length_take] at this; omega
  obtain ⟨h1, tk, rfl, hk⟩ := x.done
  have noA : ∀ b : Addr, b ∉ (cxOf CX P w K mg base N qual scope f cd A outer s H E).ex := fun b z => absurd (show b ∈ ([] : List Addr) from z) (by simp)
  refine ⟨⟨e0.mod, S.kind, rfl, rfl, Nat.le_refl _, fun y z c h1 h2 => ?_, fun y hy => ?_, fun y c _ h => ?_, fun _ => hd, Around.frames_deeper e0.frames, .inr ⟨rfl, rfl⟩, fun b z => absurd z (noA b), e0.bs, e0.bsz, fun b _ _ => noA b, fun b z => absurd z (noA b), e0.funs, e0.frf⟩,
    rfl, e0.bare, Un.kept hk, ⟨_, x.toInCall.ns, fun i y v h1 h2 h3 => ?_⟩, fun y c h => ⟨_, x.cell y c h⟩, e0.hok.fresh (Nat.le_refl _), fun y c h => ?_, fun p hp => absurd (show p ∈ ([] : List (Addr × Obj)) from hp) (by simp), e0.hok.kept hk, ?_⟩
  · exact name_of_addr x.apart (PySem.mem_of_lookup h1) (PySem.mem_of_lookup h2)
  · have hy : scope.names.lookup y = some .cell ∨ scope.names.lookup y = some .free := hy
    rcases hy with hy | hy
    · exact cell_has hy
    · exact absurd rfl (S.nofree _ (PySem.mem_of_lookup hy))
  · exact Nat.le_of_lt (x.above y c (PySem.mem_of_lookup h))
  · have hi : i < vs.length := by
      unfold start at h2
      by_cases hi : i < vs.length
      · exact hi
      · rw [List.getElem?_append_right (by simpa using hi)] at h2
        rw [List.getElem?_replicate] at h2
        split at h2 <;> cases h2
    have ha : vs[i]? = some v := by
      unfold start at h2
      rw [List.getElem?_append_left (by simpa using hi), List.getElem?_map] at h2
      cases e : vs[i]? with
      | none => rw [e] at h2; cases h2
      | some a => rw [e] at h2; cases h2; rfl
    obtain ⟨u, hu, rv⟩ := r.get ha
    have hp : ps[i]? = some y := by
      rw [← S.pre, List.getElem?_take_of_lt (by omega)]; exact h1
    have ndP : ps.Nodup := by rw [← S.pre]; exact S.nd.sublist (List.take_sublist _ _)
    refine ⟨u, rv, ?_⟩
    rcases S.par y (List.mem_of_getElem? hp) with k | k
    · exact .inl ⟨k, bindL_get ndP hp hu k⟩
    · obtain ⟨c, e⟩ := cell_has (n := s.heap.objs.size + 1) k
      refine .inr ⟨.inl k, c, e, ?_⟩
      have q := x.cell y c e
      rw [bindC_get ndP hp hu (by show scope.names.lookup y ≠ _; rw [k]; decide)] at q
      exact q
  · exact e0.hok.fresh (Nat.le_of_lt (x.above y c (PySem.mem_of_lookup h)))
  · unfold start
    show _ = N.length
    rw [List.length_append, List.length_map, List.length_replicate]
    omega

/-- THE RULE: a def (or a method) of the text, by its body. The body's reading t is chosen for each entry; it is run at the parameters' values -/
theorem fn_of {CX : CXT} {P : Program} {w : World} {K : PySem.W.Frag} {mg : Str → Option Value} {base : Heap} {k : Nat} {f : Addr} {name qual : Str} {params : Arguments} {body : List Stmt} {scope : Scope} {dV kV doc pm cdv ct oc : Value} {an od : Option Addr}
    {osl : Array (Option Value)} {N ps : List Str} {sp : Sp} (lk : K.lookup f = some ⟨oc, od, .func (PySem.W.fnOf name qual params body scope dV kV doc pm an cdv ct), osl⟩) (hcd : PySem.W.codeIn K cdv qual = true) (S : FnScope N ps scope)
    (len : ∀ vs H Q E, sp vs H Q E → vs.length = ps.length)
    (hbody : ∀ (A : Around) (outer : List Env) (s : Shared) (H : Hp) (vs : List V) (Q : VK) (E : XK), Room k (A.deeper (envOfC qual scope s.heap.objs.size f cdv)) → sp vs H Q E →
      ∃ t, PSs (cxOf CX P w K mg base N qual scope f cdv A outer s H E) body t ∧ t { nx := fun _ H' => Q .non H', rt := Q } (start N vs) H) :
    FnOk P w K mg base CX (k + 1) f (PySem.W.fnOf name qual params body scope dV kV doc pm an cdv ct) ps sp := by
  refine ⟨len, fun A outer s H args us vs Q E hr e0 hb r hsp => ?_⟩
  have hl := len _ _ _ _ hsp
  have KX : K.In s.heap := e0.mod.kin.keeps fun b o e => (e0.bs b o e).1
  have lim : s.heap.NoLimit := e0.mod.nolimit.keeps fun b o e => (e0.bs b o e).1
  have hkind : ∀ y ∈ ps.zip us, scope.names.lookup y.1 = some .local ∨ (scope.names.lookup y.1 = some .cell ∧ ((cellsFrom (s.heap.objs.size + 1) scope.names []).lookup y.1).isSome = true) := fun ⟨n, v⟩ hy => by
    rcases S.par n (List.of_mem_zip hy).1 with q | q
    · exact .inl q
    · exact .inr ⟨q, PySem.W.cellsFrom_some _ _ _ (.inl q)⟩
  refine codeAny_call_function hr.depth (KX _ _ lk) rfl S.co S.gen rfl (PySem.W.codeRec_of KX hcd) (hb _ _ _ _ ?_)
  refine wpAny_newFunctionEnv_cells S.kind hkind fun env he s1 x => ?_
  subst he
  refine ⟨lim.keeps x.toInCall.keep, codeAny_func ?_⟩
  obtain ⟨t, ht, hq⟩ := hbody A outer s H vs Q E (hr.deeper _) hsp
  have I : Inv (cxOf CX P w K mg base N qual scope f cdv A outer s H E) [] (start N vs) H s1 := inv_start S hr.hd e0 hl r x
  refine wpAny_mono (ht [] s1 (start N vs) H _ I hq) (fun fl s' hs => ?_) fun e s' hs => hs
  have fin : ∀ {σ' : St} {H' : Hp} {v : V} {u : Value}, Inv (cxOf CX P w K mg base N qual scope f cdv A outer s H E) [] σ' H' s' → RelV v u → Q v H' → CE outer P w H s Q u s' :=
    fun {σ' H' v u} J rv q => ⟨v, H', J.os, J.bare, J.base, J.hok, rv, q⟩
  cases fl with
  | ret u =>
    obtain ⟨v, σ', H', J, rv, q⟩ := hs
    exact fin J rv q
  | next =>
    obtain ⟨σ', H', J, q⟩ := hs
    exact fin (v := V.non) (u := Value.none) J rfl q
  | brk =>
    obtain ⟨_, _, _, q⟩ := hs
    exact False.elim q
  | cont =>
    obtain ⟨_, _, _, q⟩ := hs
    exact False.elim q
end L2

namespace L2
open PySem PySem.Spec PyProof.Rows
section
variable {X : Cx} {x : Str} {p pos : Pos} {e : Expr} {es : List Expr} {t : TA} {id T : String} {r : List V → Hp → VK → Prop}

def tCB (r : List V → Hp → VK → Prop) (t : TA) : TE := fun σ H Q => t σ H fun vs H1 => r vs H1 Q
/-- f(e, ..), f a built-in function -/
theorem pe_callB (hc : CallR X (.builtin id) r) (hg : Gl X x) (hm : X.mg x = none) (hv : bootBuiltins x = some (.builtin id)) (ha : PA X (e :: es) t) (hn : x ≠ "__name__" := by decide) (hdb : (x == ("__debug__" : Str)) = false := by decide)
    (he : starEach (e :: es) X.env = (false, eval e X.env) :: starEach es X.env := by rfl) (hpl : (backTo pos (starEach es X.env)).any (·.1) = false := by rfl) : PE X (.Call (.Name x p) (e :: es) [] pos) (tCB r t) := by
  intro pins s σ H Q I h
  refine wpAny_Call_Name_kw (ld_blt I hg hm hv ?_ hn hdb)
  exact PyProof.Rows.callWith_builtin1 (thn (ha pos pins s σ H _ I h) fun us s1 ⟨vs, H1, I1, r1, q1⟩ => hc pins s1 σ H1 vs us Q I1 r1 q1) he hpl
/-- T(e, ..), T a built-in type -/
theorem pe_callTy (hc : CallR X (.type T) r) (hg : Gl X x) (hm : X.mg x = none) (hv : bootBuiltins x = some (.type T)) (ha : PA X (e :: es) t) (hn : x ≠ "__name__" := by decide) (hdb : (x == ("__debug__" : Str)) = false := by decide)
    (he : starEach (e :: es) X.env = (false, eval e X.env) :: starEach es X.env := by rfl) (hpl : (backTo pos (starEach es X.env)).any (·.1) = false := by rfl) : PE X (.Call (.Name x p) (e :: es) [] pos) (tCB r t) := by
  intro pins s σ H Q I h
  refine wpAny_Call_Name_kw (ld_blt I hg hm hv ?_ hn hdb)
  exact PyProof.Rows.callWith_type1 (thn (ha pos pins s σ H _ I h) fun us s1 ⟨vs, H1, I1, r1, q1⟩ => hc pins s1 σ H1 vs us Q I1 r1 q1) he hpl
/-- T() -/
theorem pe_callTy0 (hc : CallR X (.type T) r) (hg : Gl X x) (hm : X.mg x = none) (hv : bootBuiltins x = some (.type T)) (hn : x ≠ "__name__" := by decide) (hdb : (x == ("__debug__" : Str)) = false := by decide) :
    PE X (.Call (.Name x p) [] [] pos) (tCB r tNil) := by
  intro pins s σ H Q I h
  refine wpAny_Call_Name_kw (ld_blt I hg hm hv ?_ hn hdb)
  exact PyProof.Rows.callWith_type0 (hc pins s σ H [] [] Q I .nil h)
end
end L2

namespace HT
open PySem PyProof.Rows

/-- t < u of tuples of ints -/
def lexLt : List Int → List Int → Bool
  | [], [] => false
  | [], _ :: _ => true
  | _ :: _, [] => false
  | x :: xs, y :: ys => if x = y then lexLt xs ys else decide (x < y)
theorem lexLt_cons (x y : Int) (xs ys : List Int) : lexLt (x :: xs) (y :: ys) = if x = y then lexLt xs ys else decide (x < y) := rfl
theorem lexLt_nil_nil : lexLt [] [] = false := rfl
theorem lexLt_nil_cons (y : Int) (ys : List Int) : lexLt [] (y :: ys) = true := rfl
theorem lexLt_cons_nil (x : Int) (xs : List Int) : lexLt (x :: xs) [] = false := rfl

theorem eqAt_int (A : Around) (s : Shared) (a : Int) (t : Tok) (c : Int) (u : Tok) : ∃ e, SeqAt.EqAt A s (.int a t) (.int c u) e ∧ (e = true ↔ a = c) :=
  ⟨(a == c), SeqAt.EqAt.int_int a t c u, by simp⟩
theorem rcLt_int (A : Around) (s : Shared) (a : Int) (t : Tok) (c : Int) (u : Tok) (prog : Program) (w : World) (E : Value → Shared → Prop) (Q : Value → Shared → Prop) (h : Q (.bool (decide (a < c))) s) :
    wpAny (model prog w) A (richCompare .Lt (.int a t) (.int c u)) Q E s :=
  (PyProof.Rows.lt_int h : wpAny (model prog w) A (compareOp .Lt (.int a t) (.int c u)) Q E s)

section
open PySem.SeqAt
open PySem.AutoSeq1 (wpAny_loadPart')
open PySem.MeetsSeq PySem.MeetsSeq2 PySem.MeetsSeq3

theorem tuple_lt_ints (l b : Addr) (items items2 : Array Value) (n n2 : Nat) (dd dd2 : Option Addr) (sl sl2 : Array (Option Value)) (ns ms : List Int) (hi : IntsAre items.toList ns) (hj : IntsAre items2.toList ms) :
    Meets (Builtin.«tuple.__lt__» ⟨[.ref l, .ref b], []⟩)
      (fun _ R s => s.heap.get? l = some { cls := .type "tuple", dict := dd, data := .seq items n, slots := sl } ∧ s.heap.get? b = some { cls := .type "tuple", dict := dd2, data := .seq items2 n2, slots := sl2 } ∧
        R (.ok (.ret (.bool (lexLt ns ms)))) s) :=
  .of_wp fun prog w A R s h => by
    obtain ⟨hp, g, d, tk, os⟩ := s; obtain ⟨hl, hb, h⟩ := h
    have f2 := AutoSeq1.sub_tuple_tuple
    have z1 : items.size = ns.length := by rw [← hi.length]; simp
    have z2 : items2.size = ms.length := by rw [← hj.length]; simp
    wp_walk using wpAny_loadPart' hl, wpAny_loadPart' hb, wpAny_forIn_list _ (fun rest b s' => b.1 = none ∧ s' = ⟨hp, g, d, tk, os⟩ ∧ ∃ (vs ws : List Value) (ns' ms' : List Int), rest = vs.zip ws ∧
      IntsAre vs ns' ∧ IntsAre ws ms' ∧ ns'.length + items2.size = ms'.length + items.size ∧ R (.ok (.ret (.bool (lexLt ns' ms')))) ⟨hp, g, d, tk, os⟩) _
    case turn =>
      rintro ⟨y, x⟩ rest b s' ⟨hb', rfl, vs, ws, ns', ms', hz, hvi, hwi, hlen, hR⟩
      cases hvi with
      | nil => rw [List.zip_nil_left] at hz; cases hz
      | cons a t hvi' =>
        cases hwi with
        | nil => rw [List.zip_nil_right] at hz; cases hz
        | cons c u hwi' =>
          rw [List.zip_cons_cons] at hz
          injection hz with hyx hrest
          injection hyx with hy hx
          subst hy hx
          rw [lexLt_cons] at hR
          simp only [List.length_cons] at hlen
          obtain ⟨e, he, hiff⟩ := eqAt_int A.in1 ⟨hp, g, d, tk, os⟩ a t c u
          refine wpAny_bind (he prog w _ _ ?_)
          cases e with
          | true =>
            rw [if_pos (hiff.mp rfl)] at hR
            wp_walk
            exact ⟨rfl, rfl, _, _, _, _, hrest, hvi', hwi', by omega, hR⟩
          | false =>
            rw [if_neg (fun q => absurd (hiff.mpr q) Bool.false_ne_true)] at hR
            have hri := rcLt_int A.in1 ⟨hp, g, d, tk, os⟩ a t c u prog w
            wp_walk using hri
            exact ⟨_, rfl, by simpa using hR⟩
    case fin =>
      rintro ⟨b1, b2⟩ s' ⟨hb', rfl, vs, ws, ns', ms', hz, hvi, hwi, hlen, hR⟩
      simp only at hb'
      subst hb'
      have hv : lexLt ns' ms' = decide (items.size < items2.size) := by
        cases hvi with
        | nil =>
          cases hwi with
          | nil =>
            simp only [List.length_nil] at hlen
            rw [lexLt_nil_nil]
            exact (decide_eq_false (by omega)).symm
          | cons c u hw =>
            simp only [List.length_nil, List.length_cons] at hlen
            rw [lexLt_nil_cons]
            exact (decide_eq_true (by omega)).symm
        | cons a t hv =>
          cases hwi with
          | nil =>
            simp only [List.length_nil, List.length_cons] at hlen
            rw [lexLt_cons_nil]
            exact (decide_eq_false (by omega)).symm
          | cons c u hw =>
            rw [List.zip_cons_cons] at hz
            cases hz
      rw [hv] at hR
      wp_walk
      exact ⟨_, rfl, by simpa [Builtin.Tuple.tupleCompareSizes] using hR⟩
    case h =>
      exact ⟨rfl, rfl, items.toList, items2.toList, ns, ms, rfl, hi, hj, by omega, h⟩
end

section
variable {prog : Program} {w : World} {A : Around} {E : Value → Shared → Prop} {s : Shared}

theorem lt_tupInts {l b : Addr} {items items2 : Array Value} {ns ms : List Int} {Q : Value → Shared → Prop} (hl : IsTup s.heap l items) (hb : IsTup s.heap b items2) (hi : IntsAre items.toList ns) (hj : IntsAre items2.toList ms)
    (hu : A.units < cLine) (h : Q (.bool (lexLt ns ms)) s) : wpAny (model prog w) A (compareOp .Lt (.ref l) (.ref b)) Q E s := by
  obtain ⟨⟨cls, dd, data, sl⟩, ho, hc, n, hd⟩ := id hl
  obtain ⟨⟨cls2, dd2, data2, sl2⟩, ho2, hc2, n2, hd2⟩ := id hb
  simp only at hc hd hc2 hd2
  subst hc hd hc2 hd2
  exact richCompare_meets_room (op := .Lt) ⟨_, ho, rfl⟩ ⟨_, ho2, rfl⟩ PySem.F.slot_tuple_lt PySem.F.entry_tuple_lt (PySem.F.args_tuple_lt_2 _ _) (tuple_lt_ints l b items items2 n n2 dd dd2 sl sl2 ns ms hi hj)
    ⟨ho, ho2, show Value.bool (lexLt ns ms) ≠ Value.notImplemented ∧ Q (.bool (lexLt ns ms)) s from ⟨(fun x => nomatch x), h⟩⟩ hu

/-- t + u, t not empty -/
theorem cat_tup {t b : Addr} {vs ws : List Value} {Q : Value → Shared → Prop} (ht : IsTup s.heap t vs.toArray) (hb : IsTup s.heap b ws.toArray) (hv : vs ≠ [])
    (h1 : ws = [] → Q (.ref t) s) (h2 : ws ≠ [] → Q (.ref s.heap.objs.size) { s with heap := s.heap.push { cls := .type "tuple", data := .seq (vs ++ ws).toArray } })
    (hsz : vs.length + ws.length ≤ sizeLine) : wpAny (model prog w) A (binaryOp .Add (.ref t) (.ref b)) Q E s := by
  obtain ⟨⟨cls, dd, data, sl⟩, ho, hc, n, hd⟩ := id ht
  obtain ⟨⟨cls2, dd2, data2, sl2⟩, ho2, hc2, n2, hd2⟩ := id hb
  simp only at hc hd hc2 hd2
  subst hc hd hc2 hd2
  have e : vs.toArray ++ ws.toArray = (vs ++ ws).toArray := by simp
  by_cases hw : ws = []
  · exact concat_meets ⟨_, ho, rfl⟩ ⟨_, ho2, rfl⟩ noFill_tuple_add seq_tuple_add PySem.F.slot_tuple_add PySem.F.entry_tuple_add (PySem.F.args_tuple_add_2 _ _)
      (tuple_addW1 t b vs.toArray ws.toArray n n2 dd dd2 sl sl2 (by simpa using hv) (by simp [hw])) ⟨ho, ho2, h1 hw⟩
  · refine concat_meets ⟨_, ho, rfl⟩ ⟨_, ho2, rfl⟩ noFill_tuple_add seq_tuple_add PySem.F.slot_tuple_add PySem.F.entry_tuple_add (PySem.F.args_tuple_add_2 _ _)
      (tuple_addW2 t b vs.toArray ws.toArray n n2 dd dd2 sl sl2 (by simpa using hv) (by simpa using hw) (by rw [List.size_toArray, List.size_toArray]; exact hsz)) ⟨ho, ho2, ?_⟩
    rw [e]
    exact h2 hw

/-! ### t[a:b], not the whole -/
/-- a slice's bound as a place among n (d where it is left out) -/
def sIx (n d : Nat) : Option Int → Nat
  | none => d
  | some v => if v < 0 then (v + (n : Int)).toNat else min v.toNat n
theorem sIx_none (n d : Nat) : sIx n d none = d := rfl
theorem sIx_nat (n d k : Nat) : sIx n d (some (k : Int)) = min k n := by
  show (if (k : Int) < 0 then ((k : Int) + (n : Int)).toNat else min (k : Int).toNat n) = min k n
  rw [if_neg (by omega), Int.toNat_natCast]
theorem sIx_le (n d : Nat) (hd : d ≤ n) (o : Option Int) : sIx n d o ≤ n := by
  cases o with
  | none => exact hd
  | some v =>
    show (if v < 0 then (v + (n : Int)).toNat else min v.toNat n) ≤ n
    by_cases hv : v < 0
    · rw [if_pos hv]; omega
    · rw [if_neg hv]; exact Nat.min_le_right _ _
theorem clip_eq (v : Int) (n d : Nat) : (if v < 0 then max (v + (n : Int)) 0 else min v (n : Int)) = ((sIx n d (some v) : Nat) : Int) := by
  show (if v < 0 then max (v + (n : Int)) 0 else min v (n : Int)) = (((if v < 0 then (v + (n : Int)).toNat else min v.toNat n) : Nat) : Int)
  by_cases hv : v < 0
  · simp only [if_pos hv]; omega
  · simp only [if_neg hv]; omega
theorem adjust_gen (lo hi : Option Int) (n : Nat) : Builtin.Slice.sliceAdjust lo hi 1 (n : Int) = (((sIx n 0 lo : Nat) : Int), ((sIx n n hi : Nat) : Int)) := by
  have h1 : ¬ ((1 : Int) < 0) := by omega
  unfold Builtin.Slice.sliceAdjust
  simp only [h1, if_false]
  refine Prod.ext ?_ ?_
  · cases lo with
    | none => rfl
    | some v => exact clip_eq v n 0
  · cases hi with
    | none => rfl
    | some v => exact clip_eq v n n
theorem places_gen (i j : Nat) : Builtin.Slice.slicePlaces (i : Int) (j : Int) 1 = j - i := by
  unfold Builtin.Slice.slicePlaces
  have h1 : (1 : Int) > 0 := by omega
  simp only [h1, if_true, Int.ediv_one]
  split <;> omega
theorem slicePart_ {v : Value} {o : Option Int} {Q : Option Int → Shared → Prop} (p : IsPart v o) (h : Q o s) : wpAny (model prog w) A (Builtin.Slice.slicePartIndex v) Q E s := by
  cases p with
  | none => exact slicePart_none h
  | int i t => exact slicePart_int h
theorem sliceApplied_gen {sl : Addr} {vl vu : Value} {lo hi : Option Int} {n : Nat} {Q : Int × Int × Nat → Shared → Prop} (hs : s.heap.IsSliceOf sl vl vu .none) (pl : IsPart vl lo) (pu : IsPart vu hi)
    (h : Q (((sIx n 0 lo : Nat) : Int), 1, sIx n n hi - sIx n 0 lo) s) : wpAny (model prog w) A (Builtin.Slice.sliceApplied (.ref sl) (pure (n : Int))) Q E s := by
  obtain ⟨os, hos, hcs, hds⟩ := id hs
  unfold Builtin.Slice.sliceApplied Builtin.Slice.sliceFields
  refine wpAny_bind (wpAny_bind (wpAny_field hos hds (x := vl) rfl (wpAny_bind (wpAny_field hos hds (x := vu) rfl (wpAny_bind (wpAny_field hos hds (x := .none) rfl (wpAny_pure ?_)))))))
  refine wpAny_bind (slicePart_none ?_)
  show wpAny _ _ (if ((1 : Int) == 0) = true then _ else _) _ _ s
  rw [if_neg (by decide)]
  refine wpAny_bind (slicePart_ pl (wpAny_bind (slicePart_ pu (wpAny_bind (wpAny_pure ?_)))))
  show wpAny _ _ (match Builtin.Slice.sliceAdjust lo hi 1 (n : Int) with | (lo, hi) => pure (lo, (1 : Int), Builtin.Slice.slicePlaces lo hi 1)) _ _ s
  rw [adjust_gen lo hi n]
  show wpAny _ _ (pure (((sIx n 0 lo : Nat) : Int), (1 : Int), Builtin.Slice.slicePlaces ((sIx n 0 lo : Nat) : Int) ((sIx n n hi : Nat) : Int) 1)) _ _ s
  rw [places_gen]
  exact wpAny_pure h
theorem pick_gen (xs : Array Value) (i k : Nat) : ((List.range k).filterMap fun (m : Nat) => xs[((i : Int) + (m : Int) * 1).toNat]?).toArray = ((xs.toList.drop i).take k).toArray := by
  have e : (fun (m : Nat) => xs[((i : Int) + (m : Int) * 1).toNat]?) = fun m => xs[i + m]? := by
    funext m
    have : ((i : Int) + (m : Int) * 1).toNat = i + m := by omega
    rw [this]
  rw [e]
  have := pick_run xs i k
  rw [List.filterMap_map] at this
  have e2 : ((fun x => xs[x]?) ∘ fun x => i + x) = fun m => xs[i + m]? := rfl
  rw [e2] at this
  rw [this]

theorem getItem_tuple_cut {t sl : Addr} {items : Array Value} {vl vu : Value} {lo hi : Option Int} {Q : Value → Shared → Prop} (ht : IsTup s.heap t items) (hs : s.heap.IsSliceOf sl vl vu .none) (pl : IsPart vl lo) (pu : IsPart vu hi)
    (hw : ¬ (sIx items.size 0 lo = 0 ∧ sIx items.size items.size hi = items.size))
    (h : Q (.ref s.heap.objs.size) { s with heap := s.heap.push { cls := .type "tuple", data := .seq ((items.toList.drop (sIx items.size 0 lo)).take (sIx items.size items.size hi - sIx items.size 0 lo)).toArray } })
    (hsz : items.size ≤ sizeLine) : wpAny (model prog w) A (getItem (.ref t) (.ref sl)) Q E s := by
  have htake : sizeOk (.seq ((items.toList.drop (sIx items.size 0 lo)).take (sIx items.size items.size hi - sIx items.size 0 lo)).toArray) := by
    show ((items.toList.drop (sIx items.size 0 lo)).take (sIx items.size items.size hi - sIx items.size 0 lo)).toArray.size ≤ sizeLine
    rw [List.size_toArray, List.length_take, List.length_drop, Array.length_toList]
    omega
  have hj : sIx items.size items.size hi ≤ items.size := sIx_le _ _ (Nat.le_refl _) hi
  obtain ⟨os, hos, hcs, hds⟩ := id hs
  have hTs : s.TypeIs (.ref sl) "slice" := ⟨os, hos, hcs⟩
  unfold getItem
  try with_reducible refine wpAny_holding ?_
  first | refine wpAny_bind (wpAny_pure ?_) | skip
  refine wpAny_bind (wpAny_sequenceKey ht.typeIs (by decide) ?_)
  refine wpAny_bind (wpAny_callSpecial?_slot (name := Str.ofString "__getitem__") ht.typeIs PyProof.Rows.slot_tuple_getitem
    (wpAny_call_entry PyProof.Rows.slot_tuple_getitem ht.typeIs entry_tuple_getitem ?_ (args_tuple_getitem _ _)))
  show wpAny _ _ (Builtin.Tuple.tupleItemsOf (.ref t) >>= _) _ _ s
  refine wpAny_bind (tupleItemsOf_ ht ?_)
  refine wpAny_bind (wpAny_typeOf hTs ?_)
  rw [if_pos (by decide)]
  refine wpAny_bind (sliceApplied_gen hs pl pu ?_)
  have hno : ¬ ((((sIx items.size 0 lo : Nat) : Int) == 0 && (1 : Int) == 1 && (sIx items.size items.size hi - sIx items.size 0 lo) == items.size) = true) := by
    intro q
    rw [Bool.and_eq_true, Bool.and_eq_true] at q
    have q1 : ((sIx items.size 0 lo : Nat) : Int) = 0 := eq_of_beq q.1.1
    have q2 : sIx items.size items.size hi - sIx items.size 0 lo = items.size := eq_of_beq q.2
    exact hw ⟨by omega, by omega⟩
  show wpAny _ _ (if (((sIx items.size 0 lo : Nat) : Int) == 0 && (1 : Int) == 1 && (sIx items.size items.size hi - sIx items.size 0 lo) == items.size) = true then _ else _) _ _ s
  rw [if_neg hno, pick_gen]
  first
    | exact wpAny_bind (m := Builtin.Tuple.tupleExact _) (wpAny_newObj_type (wpAny_pure ⟨_, rfl, wpAny_pure h⟩) htake)
    | exact wpAny_bind (m := Builtin.Tuple.tupleExact _) (wpAny_newObj_type (wpAny_bind (wpAny_pure (wpAny_pure ⟨_, rfl, wpAny_pure h⟩))) htake)
    | exact wpAny_bind (wpAny_bind (m := Builtin.Tuple.tupleExact _) (wpAny_newObj_type (wpAny_pure (wpAny_pure ⟨_, rfl, wpAny_pure h⟩)) htake))
    | exact wpAny_bind (wpAny_bind (m := Builtin.Tuple.tupleExact _) (wpAny_newObj_type (wpAny_pure ⟨_, rfl, wpAny_pure h⟩) htake))
end
end HT

namespace L2
open PySem PySem.Spec PyProof.Rows

/-! ### the parts of a slice -/
abbrev TO := St → Hp → (Option Int → Hp → Prop) → Prop
/-- a slice's part (left out, or an int) -/
def PO (X : Cx) (e : Option Expr) (t : TO) : Prop :=
  ∀ (pins : List (Addr × Obj)) (s : Shared) (σ : St) (H : Hp) (Q : Option Int → Hp → Prop), Inv X pins σ H s → t σ H Q →
    wpAny (model X.prog X.w) X.A (evalPart e X.env) (fun u s' => ∃ o H', Inv X pins σ H' s' ∧ IsPart u o ∧ Q o H') X.xe s
def tNoPart : TO := fun _ H Q => Q none H
def tPart (t : TE) : TO := fun σ H Q => t σ H fun x H1 => ∃ i, x = .int i ∧ Q (some i) H1

theorem intsAre_of {ns : List Int} : ∀ {us : List Value}, Vals (ns.map V.int) us → IntsAre us ns := by
  induction ns with
  | nil => intro us r; rw [List.map_nil] at r; cases r; exact .nil
  | cons n ns ih =>
    intro us r
    rw [List.map_cons] at r
    cases r with
    | cons r1 r2 =>
      obtain ⟨t, e⟩ := r1
      subst e
      exact .cons n t (ih r2)

section
variable {X : Cx} {e : Expr} {te : TE} {lo hi : Option Expr} {tl th : TO} {pos p2 : Pos}

theorem po_none : PO X none tNoPart := by
  intro pins s σ H Q I h
  rw [evalPart_none]
  exact wpAny_pure ⟨none, H, I, .none, h⟩
theorem po_some (h : PE X e te) : PO X (some e) (tPart te) := by
  intro pins s σ H Q I hw
  rw [evalPart_some]
  refine thn (h pins s σ H _ I hw) fun u s1 ⟨x, H1, I1, r1, q1⟩ => ?_
  obtain ⟨i, rfl, q⟩ := q1
  obtain ⟨t, rfl⟩ := r1
  exact ⟨some i, H1, I1, .int i t, q⟩

/-- what a slice of a value is, by values: the slice object stands at sl -/
def SlR (X : Cx) (r : V → Option Int → Option Int → Hp → VK → Prop) : Prop :=
  ∀ (pins : List (Addr × Obj)) (s : Shared) (σ : St) (H : Hp) (x : V) (v vl vu : Value) (lo hi : Option Int) (sl : Addr) (Q : VK), Inv X pins σ H s → RelV x v → s.heap.IsSliceOf sl vl vu .none → IsPart vl lo → IsPart vu hi → r x lo hi H Q →
    ∃ T id, typeLookup (.type T) "__getitem__" = pure (some (.builtin id)) ∧ s.TypeIs v T ∧ wpAny (model X.prog X.w) X.A (getItem v (.ref sl)) (EP X pins σ Q) X.xe s
theorem SlR.or {r r' : V → Option Int → Option Int → Hp → VK → Prop} (h : SlR X r) (h' : SlR X r') : SlR X (fun x lo hi H Q => r x lo hi H Q ∨ r' x lo hi H Q) := by
  intro pins s σ H x v vl vu lo hi sl Q I rx hs pl pu q
  rcases q with q | q
  · exact h pins s σ H x v vl vu lo hi sl Q I rx hs pl pu q
  · exact h' pins s σ H x v vl vu lo hi sl Q I rx hs pl pu q
def tSl (r : V → Option Int → Option Int → Hp → VK → Prop) (te : TE) (tl th : TO) : TE := fun σ H Q => te σ H fun x H1 => tl σ H1 fun l H2 => th σ H2 fun u H3 => r x l u H3 Q
/-- a[lo:hi], any a -/
theorem pe_slice {r : V → Option Int → Option Int → Hp → VK → Prop} (hr : SlR X r) (he : PE X e te) (hl : PO X lo tl) (hu : PO X hi th) : PE X (.Subscript e (.Slice lo hi none p2) pos) (tSl r te tl th) := by
  intro pins s σ H Q I h
  refine Subscript_ (thn (he pins s σ H _ I h) fun v s1 ⟨x, H1, I1, r1, q1⟩ => ?_)
  refine wpAny_Slice (thn (hl pins s1 σ H1 _ I1 q1) fun vl s2 ⟨l, H2, I2, pl, q2⟩ => thn (hu pins s2 σ H2 _ I2 q2) fun vu s3 ⟨u, H3, I3, pu, q3⟩ => ?_)
  rw [evalPart_none]
  refine wpAny_pure ?_
  have I4 : Inv X pins σ H3 { s3 with heap := s3.heap.push { cls := .type "slice", data := .fields #[vl, vu, .none] } } := I3.kept (t' := s3.toks) fun b ob q => Heap.get?_push_of_some _ q
  obtain ⟨T, id, hT, ht, hg⟩ := hr pins { s3 with heap := s3.heap.push { cls := .type "slice", data := .fields #[vl, vu, .none] } } σ H3 x v vl vu l u s3.heap.objs.size Q I4 r1 (Heap.IsSliceOf.new ..) pl pu q3
  show wpAny (model X.prog X.w) X.A (subscriptTail e (.Slice lo hi none p2) v (.ref s3.heap.objs.size)) (EP X pins σ Q) X.xe { s3 with heap := s3.heap.push { cls := .type "slice", data := .fields #[vl, vu, .none] } }
  exact tail_any (ops := [.ref s3.heap.objs.size, v]) ht hT hg (by with_unfolding_all rfl)

/-- the items of xs[lo:hi] -/
def cutV (xs : List V) (lo hi : Option Int) : List V := (xs.drop (HT.sIx xs.length 0 lo)).take (HT.sIx xs.length xs.length hi - HT.sIx xs.length 0 lo)
theorem cutV_length (xs : List V) (lo hi : Option Int) : (cutV xs lo hi).length ≤ xs.length := by
  unfold cutV
  rw [List.length_take, List.length_drop]
  omega
/-- t[lo:hi], not the whole of it (the whole would be t itself) -/
def rSlT (K : PySem.W.Frag) : V → Option Int → Option Int → Hp → VK → Prop := fun x lo hi H Q => ∃ a xs, x = .ref a ∧ SqT K H a xs ∧
  ¬ (HT.sIx xs.length 0 lo = 0 ∧ HT.sIx xs.length xs.length hi = xs.length) ∧ ∀ p, H p = none → Q (.ref p) (upd H p (.tup (cutV xs lo hi)))
theorem sl_tup : SlR X (rSlT X.K) := by
  intro pins s σ H x v vl vu lo hi sl Q I rx hs pl pu h
  obtain ⟨a, xs, rfl, hx, hw, q⟩ := h
  cases rx
  obtain ⟨its, r, ht, hz⟩ := I.tuple hx
  have hlen : its.toArray.size = xs.length := by rw [List.size_toArray]; exact r.length.symm
  refine ⟨"tuple", _, PyProof.Rows.slot_tuple_getitem.lookup, ht.typeIs, ?_⟩
  refine HT.getItem_tuple_cut ht hs pl pu (by rw [hlen]; exact hw) ?_ (by rw [hlen]; exact hz)
  rw [hlen]
  refine ⟨.ref s.heap.objs.size, _, I.laid (t' := s.toks) (o := .tup (cutV xs lo hi)) (fun b ob q => Heap.get?_push_of_some _ q) (Nat.le_refl _) ?_, rfl, q _ (I.hok.fresh (Nat.le_refl _))⟩
  exact ⟨Nat.le_trans (cutV_length xs lo hi) hz, _, (r.drop (HT.sIx xs.length 0 lo)).take (HT.sIx xs.length xs.length hi - HT.sIx xs.length 0 lo), IsTup.new _ _⟩

/-! ### t < u, t + u -/
def rLtT (K : PySem.W.Frag) : R2 := fun x y H Q => ∃ a b ns ms, x = .ref a ∧ y = .ref b ∧ SqT K H a (ns.map V.int) ∧ SqT K H b (ms.map V.int) ∧ Q (.bl (HT.lexLt ns ms)) H
theorem op_ltT (hu : X.A.units < cLine) : OpR X (compareOp .Lt) (rLtT X.K) := by
  intro pins s σ H x y v u Q I rx ry h
  obtain ⟨a, b, ns, ms, rfl, rfl, ha, hb, q⟩ := h
  cases rx
  cases ry
  obtain ⟨its, r1, p1, _⟩ := I.tuple ha
  obtain ⟨its2, r2, p2, _⟩ := I.tuple hb
  have i1 : IntsAre its.toArray.toList ns := intsAre_of r1
  have i2 : IntsAre its2.toArray.toList ms := intsAre_of r2
  exact HT.lt_tupInts p1 p2 i1 i2 hu ⟨.bl (HT.lexLt ns ms), H, I, rfl, q⟩
/-- t + u, t not empty: u empty gives t itself -/
def rCatT (K : PySem.W.Frag) : R2 := fun x y H Q => ∃ a b xs ys, x = .ref a ∧ y = .ref b ∧ SqT K H a xs ∧ SqT K H b ys ∧ xs ≠ [] ∧ xs.length + ys.length ≤ sizeLine ∧
  (ys = [] → Q (.ref a) H) ∧ (ys ≠ [] → ∀ p, H p = none → Q (.ref p) (upd H p (.tup (xs ++ ys))))
theorem Vals.nil_iff {xs : List V} {us : List Value} (r : Vals xs us) : us = [] ↔ xs = [] := by
  cases r with
  | nil => simp
  | cons _ _ => simp
theorem op_catT : OpR X (binaryOp .Add) (rCatT X.K) := by
  intro pins s σ H x y v u Q I rx ry h
  obtain ⟨a, b, xs, ys, rfl, rfl, ha, hb, hx, hz, q1, q2⟩ := h
  cases rx
  cases ry
  obtain ⟨its, r1, p1, _⟩ := I.tuple ha
  obtain ⟨its2, r2, p2, _⟩ := I.tuple hb
  refine HT.cat_tup p1 p2 (fun z => hx (r1.nil_iff.mp z)) (fun z => ⟨.ref a, H, I, rfl, q1 (r2.nil_iff.mp z)⟩) (fun z => ?_) (by rw [← r1.length, ← r2.length]; exact hz)
  refine ⟨.ref s.heap.objs.size, _, I.laid (t' := s.toks) (o := .tup (xs ++ ys)) (fun b ob q => Heap.get?_push_of_some _ q) (Nat.le_refl _) ?_, rfl, q2 (fun w => z (r2.nil_iff.mpr w)) _ (I.hok.fresh (Nat.le_refl _))⟩
  exact ⟨by rw [List.length_append]; exact hz, _, r1.append r2, IsTup.new _ _⟩
/-- tuple(t) -/
theorem call_tupleT : CallR X (.type "tuple") (fun xs H Q => ∃ a ys, xs = [.ref a] ∧ SqT X.K H a ys ∧ Q (.ref a) H) := by
  intro pins s σ H xs us Q I r h
  obtain ⟨a, ys, rfl, ha, q⟩ := h
  obtain ⟨u, rfl, ru⟩ := vals1 r
  cases ru
  obtain ⟨its, _, p1, _⟩ := I.tuple ha
  exact call_tuple_same (items := its.toArray) p1 ⟨.ref a, H, I, rfl, q⟩
end
end L2

namespace L2
open PySem PySem.Spec PyProof.Rows

/-! ### places -/
/-- the place that an index of any sign means -/
def ixN (n : Nat) (i : Int) : Option Nat := if 0 ≤ i then (if i < n then some i.toNat else none) else if -(n : Int) ≤ i then some (i + n).toNat else none
def atI {α : Type} (xs : List α) (i : Int) : Option α := (ixN xs.length i).bind fun j => xs[j]?
theorem ixN_seq {n : Nat} {i : Int} {j : Nat} (h : ixN n i = some j) : seqIndex? i n = some j ∧ j < n ∧ -(n : Int) ≤ i ∧ i < n := by
  unfold ixN at h
  by_cases h0 : 0 ≤ i
  · rw [if_pos h0] at h
    by_cases h1 : i < n
    · rw [if_pos h1] at h
      have e : i.toNat = j := Option.some.inj h
      exact ⟨by rw [seqIndex_of h0 h1, e], by omega, by omega, h1⟩
    · rw [if_neg h1] at h; cases h
  · rw [if_neg h0] at h
    by_cases h1 : -(n : Int) ≤ i
    · rw [if_pos h1] at h
      have e : (i + n).toNat = j := Option.some.inj h
      exact ⟨by rw [seqIndex_neg (by omega) h1, e], by omega, h1, by omega⟩
    · rw [if_neg h1] at h; cases h
theorem atI_get {α : Type} {xs : List α} {i : Int} {v : α} (h : atI xs i = some v) : ∃ j, seqIndex? i xs.length = some j ∧ xs[j]? = some v ∧ j < xs.length ∧ -(xs.length : Int) ≤ i ∧ i < xs.length := by
  unfold atI at h
  cases e : ixN xs.length i with
  | none => rw [e] at h; cases h
  | some j =>
    rw [e] at h
    obtain ⟨h1, h2, h3, h4⟩ := ixN_seq e
    exact ⟨j, h1, h, h2, h3, h4⟩
theorem atI_nat {α : Type} {xs : List α} {j : Nat} {v : α} (h : xs[j]? = some v) : atI xs (j : Int) = some v := by
  have hj : j < xs.length := (List.getElem?_eq_some_iff.mp h).1
  have e : ixN xs.length (j : Int) = some j := by
    unfold ixN
    rw [if_pos (by omega), if_pos (by omega)]; simp
  unfold atI; rw [e]; exact h
theorem atI_last {α : Type} (xs : List α) (v : α) : atI (xs ++ [v]) (-1) = some v := by
  have hl : (xs ++ [v]).length = xs.length + 1 := by simp
  have e : ixN (xs ++ [v]).length (-1) = some xs.length := by
    unfold ixN
    rw [hl, if_neg (by decide), if_pos (by omega)]
    congr 1
    omega
  unfold atI
  rw [e]
  show (xs ++ [v])[xs.length]? = some v
  simp

/-! ### what may be subscripted -/
/-- what stands as an index of a plain subscript -/
def PlainIx (b : Expr) : Prop := ∀ o i, subscripted b false o i = operate [o, i] (getItem o i)
/-- a subscript by values -/
def IxR (X : Cx) (r : R2) : Prop :=
  ∀ (value slice : Expr) (pins : List (Addr × Obj)) (s : Shared) (σ : St) (H : Hp) (x y : V) (v u : Value) (Q : VK), Inv X pins σ H s → RelV x v → RelV y u → r x y H Q →
    subscripted slice false v u = operate [v, u] (getItem v u) → wpAny (model X.prog X.w) X.A (subscriptTail value slice v u) (EP X pins σ Q) X.xe s
/-- a call of a builtin's method by values: the receiver, the arguments -/
def MtR (X : Cx) (id : String) (r : V → List V → Hp → VK → Prop) : Prop :=
  ∀ (pins : List (Addr × Obj)) (s : Shared) (σ : St) (H : Hp) (x : V) (xs : List V) (v : Value) (us : List Value) (Q : VK), Inv X pins σ H s → RelV x v → Vals xs us → r x xs H Q →
    wpAny (model X.prog X.w) X.A (call (.builtin id) (v :: us)) (EP X pins σ Q) X.xe s
section
variable {X : Cx} {a b : Expr} {ta tb : TE} {pos : Pos}
theorem IxR.or {r r' : R2} (h : IxR X r) (h' : IxR X r') : IxR X (fun x y H Q => r x y H Q ∨ r' x y H Q) := by
  intro value slice pins s σ H x y v u Q I rx ry q hs
  rcases q with q | q
  · exact h value slice pins s σ H x y v u Q I rx ry q hs
  · exact h' value slice pins s σ H x y v u Q I rx ry q hs
theorem MtR.or {id : String} {r r' : V → List V → Hp → VK → Prop} (h : MtR X id r) (h' : MtR X id r') : MtR X id (fun x xs H Q => r x xs H Q ∨ r' x xs H Q) := by
  intro pins s σ H x xs v us Q I rx rs q
  rcases q with q | q
  · exact h pins s σ H x xs v us Q I rx rs q
  · exact h' pins s σ H x xs v us Q I rx rs q
/-- a[b] -/
theorem pe_ix {r : R2} (hr : IxR X r) (ha : PE X a ta) (hb : PE X b tb) (hs : PlainIx b) : PE X (.Subscript a b pos) (tOp r ta tb) := by
  intro pins s σ H Q I h
  exact Subscript_ (binT ha hb I h fun v u s2 x y H2 I2 rx ry q => hr a b pins s2 σ H2 x y v u Q I2 rx ry q (hs _ _))

def rIxL (K : PySem.W.Frag) : R2 := fun x y H Q => ∃ p xs i v, x = .ref p ∧ y = .int i ∧ SqL K H p xs ∧ atI xs i = some v ∧ Q v H
def rIxT (K : PySem.W.Frag) : R2 := fun x y H Q => ∃ p xs i v, x = .ref p ∧ y = .int i ∧ SqT K H p xs ∧ atI xs i = some v ∧ Q v H
def rIxS : R2 := fun x y H Q => ∃ z i c, x = .str z ∧ y = .int i ∧ z.length ≤ sizeLine ∧ atI z.cps.toList i = some c ∧ Q (.str ⟨#[c]⟩) H
theorem ix_list : IxR X (rIxL X.K) := by
  intro value slice pins s σ H x y v u Q I rx ry h hs
  obtain ⟨p, xs, i, z, rfl, rfl, hq, he, q⟩ := h
  cases rx
  obtain ⟨t, rfl⟩ := ry
  obtain ⟨its, r, pl, hz⟩ := I.list hq
  obtain ⟨j, h1, h2, h3, h4, h5⟩ := atI_get he
  obtain ⟨w, ew, rw'⟩ := r.get h2
  have hl := r.length
  have hn := line63
  have fin : EP X pins σ Q w s := ⟨z, H, I, rw', q⟩
  by_cases h0 : 0 ≤ i
  · have hj : i.toNat = j := by
      rw [seqIndex_of h0 h5] at h1
      exact Option.some.inj h1
    exact item_listR pl.isList h0 (by omega) (by rw [hj]; simpa using ew) fin hs
  · have hj : (i + (its.toArray.size : Int)).toNat = j := by
      rw [seqIndex_neg (by omega) h4] at h1
      rw [List.size_toArray, ← hl]
      exact Option.some.inj h1
    exact subscriptTail_builtinR (x := w) pl.isList.typeIs slot_list_getitem.lookup
      (wpAny_getItem_list_neg (Q := fun r s' => r = w ∧ EP X pins σ Q r s') pl.isList (by omega) (by rw [List.size_toArray] <;> omega) (by omega) (by rw [hj]; simpa using ew) ⟨rfl, fin⟩) hs
theorem ix_tup : IxR X (rIxT X.K) := by
  intro value slice pins s σ H x y v u Q I rx ry h hs
  obtain ⟨p, xs, i, z, rfl, rfl, hq, he, q⟩ := h
  cases rx
  obtain ⟨t, rfl⟩ := ry
  obtain ⟨its, r, pl, hz⟩ := I.tuple hq
  obtain ⟨j, h1, h2, h3, h4, h5⟩ := atI_get he
  obtain ⟨w, ew, rw'⟩ := r.get h2
  have hl := r.length
  have hn := line63
  have fin : EP X pins σ Q w s := ⟨z, H, I, rw', q⟩
  exact subscriptTail_builtinR (x := w) pl.typeIs slot_tuple_getitem.lookup
    (getItem_tuple (j := j) (Q := fun r s' => r = w ∧ EP X pins σ Q r s') pl (by omega) (by omega) (by rw [List.size_toArray, ← hl]; exact h1) (by simpa using ew) ⟨rfl, fin⟩) hs
theorem ix_str : IxR X rIxS := by
  intro value slice pins s σ H x y v u Q I rx ry h hs
  obtain ⟨z, i, c, rfl, rfl, hz, he, q⟩ := h
  obtain ⟨t, rfl⟩ := rx
  obtain ⟨t', rfl⟩ := ry
  obtain ⟨j, h1, h2, h3, h4, h5⟩ := atI_get he
  have hl : z.cps.toList.length = z.length := by simp [Str.length]
  rw [hl] at h1 h4 h5
  have hn := line63
  exact tail_any (typeIs_str s z t) slot_str_getitem.lookup (getItem_str (c := c) (by
    have e1 : decide (i < -(2 ^ 63 : Int)) = false := decide_eq_false (by omega)
    have e2 : decide (i ≥ 2 ^ 63) = false := decide_eq_false (by omega)
    rw [e1, e2, Bool.or_false]) (by rw [h1]; simpa using h2) ⟨.str ⟨#[c]⟩, H, I.tok _, ⟨_, rfl⟩, q⟩) hs
/-- list, tuple or str -/
def rIx (K : PySem.W.Frag) : R2 := fun x y H Q => rIxL K x y H Q ∨ rIxT K x y H Q ∨ rIxS x y H Q
theorem ix_seq : IxR X (rIx X.K) := ix_list.or (ix_tup.or ix_str)

/-! ### xs[i] = v, any sign -/
/-- the list's object behind a store -/
theorem mapSeq_set (its : List Value) (n j : Nat) (u : Value) : Obj.mapSeq (·.setIfInBounds j u) { cls := .type "list", data := .seq its.toArray n } = { cls := .type "list", data := .seq (its.set j u).toArray n } := by
  simp [Obj.mapSeq]
theorem Inv.lst {pins : List (Addr × Obj)} {σ : St} {H : Hp} {s : Shared} {p : Addr} {xs : List V} (I : Inv X pins σ H s) (h : H p = some (.lst xs)) :
    ∃ (its : List Value) (n : Nat), Vals xs its ∧ s.heap.get? p = some { cls := .type "list", data := .seq its.toArray n } ∧ xs.length ≤ sizeLine := by
  obtain ⟨z, its, n, r, e⟩ := I.hok p _ h
  exact ⟨its, n, r, e, z⟩
/-- the list at p is written by an update of its object -/
theorem Inv.lstUpd {pins : List (Addr × Obj)} {σ : St} {H : Hp} {s : Shared} {p : Addr} {xs ys : List V} {its its' : List Value} {n n' : Nat} {f : Obj → Obj} (I : Inv X pins σ H s) (h : H p = some (.lst xs))
    (ho : s.heap.get? p = some { cls := .type "list", data := .seq its.toArray n }) (hf : f { cls := .type "list", data := .seq its.toArray n } = { cls := .type "list", data := .seq its'.toArray n' }) (r : Vals ys its') (hz : ys.length ≤ sizeLine) (t : Nat) :
    Inv X pins σ (upd H p (.lst ys)) { s with heap := s.heap.update p f, toks := t } := by
  have e : (s.heap.update p f).get? p = some { cls := .type "list", data := .seq its'.toArray n' } := by
    rw [Heap.get?_update_self f ho (by rw [hf] <;> rfl), hf]
  refine I.write (x := p) (e := p) (by rw [h]; trivial) (.inl rfl) (fun b u hb q => (Heap.get?_update_other _ _ (Ne.symm hb)).trans q) ⟨_, e⟩ ?_
  exact ⟨hz, its', n', r, e⟩
def rSetL : V → V → V → Hp → (Hp → Prop) → Prop := fun o i v H Q => ∃ p xs k j, o = .ref p ∧ i = .int k ∧ H p = some (.lst xs) ∧ ixN xs.length k = some j ∧ Q (upd H p (.lst (xs.set j v)))
theorem set_list : PSet X rSetL := by
  intro pins s σ H o i v ov iv u Q I ro ri rv h
  obtain ⟨p, xs, k, j, rfl, rfl, hp, hj, q⟩ := h
  cases ro
  obtain ⟨t, rfl⟩ := ri
  obtain ⟨its, n, r, ho, hz⟩ := I.lst hp
  obtain ⟨h1, h2, h3, h4⟩ := ixN_seq hj
  have hl := r.length
  have hn := line63
  have I' : Inv X pins σ (upd H p (.lst (xs.set j v))) { s with heap := s.heap.update p (Obj.mapSeq (·.setIfInBounds j u)) } :=
    I.lstUpd hp ho (mapSeq_set its n j u) (r.set rv j) (by rw [List.length_set]; exact hz) s.toks
  by_cases h0 : 0 ≤ k
  · have hk : k.toNat = j := by
      rw [seqIndex_of h0 h4] at h1
      exact Option.some.inj h1
    exact PySem.W.ki_setAt ho h0 (by omega) (by rw [List.size_toArray, ← hl]; exact h4) (by rw [hk]; exact ⟨_, I', q⟩)
  · have hk : (k + (its.toArray.size : Int)).toNat = j := by
      rw [seqIndex_neg (by omega) h3] at h1
      rw [List.size_toArray, ← hl]
      exact Option.some.inj h1
    exact PySem.W.ki_setBack ho (by omega) (by rw [List.size_toArray, ← hl]; exact h3) (by omega) (by rw [hk]; exact ⟨_, I', q⟩)

/-! ### slices -/
theorem slice_bounds (lo hi : Option Int) (n : Nat) : (sliceBounds lo hi none n).1 = ((HT.sIx n 0 lo : Nat) : Int) ∧ (sliceBounds lo hi none n).2.1 = ((HT.sIx n n hi : Nat) : Int) ∧ (sliceBounds lo hi none n).2.2 = 1 := by
  refine ⟨?_, ?_, rfl⟩
  · cases lo with
    | none => simp [sliceBounds, HT.sIx]
    | some i =>
      simp only [sliceBounds, HT.sIx, Option.getD_none, show (1 : Int) > 0 by decide, if_true]
      by_cases h : i < 0
      · simp only [h, if_true] <;> omega
      · simp only [h, if_false] <;> omega
  · cases hi with
    | none => simp [sliceBounds, HT.sIx]
    | some i =>
      simp only [sliceBounds, HT.sIx, Option.getD_none, show (1 : Int) > 0 by decide, if_true]
      by_cases h : i < 0
      · simp only [h, if_true] <;> omega
      · simp only [h, if_false] <;> omega
theorem slicePick_cut (its : List Value) (lo hi : Option Int) : slicePick its.toArray lo hi none = ((its.drop (HT.sIx its.length 0 lo)).take (HT.sIx its.length its.length hi - HT.sIx its.length 0 lo)).toArray := by
  obtain ⟨h1, h2, h3⟩ := slice_bounds lo hi its.toArray.size
  unfold slicePick
  rw [h1, h2, h3]
  simp only [sliceRange_one, pick_run, List.size_toArray] <;> rfl
/-- xs[lo:hi] of a list: a new list -/
def rSlL (K : PySem.W.Frag) : V → Option Int → Option Int → Hp → VK → Prop := fun x lo hi H Q => ∃ a xs, x = .ref a ∧ SqL K H a xs ∧ ∀ p, H p = none → Q (.ref p) (upd H p (.lst (cutV xs lo hi)))
theorem sl_list : SlR X (rSlL X.K) := by
  intro pins s σ H x v vl vu lo hi sl Q I rx hs pl pu h
  obtain ⟨a, xs, rfl, hx, q⟩ := h
  cases rx
  obtain ⟨its, r, ht, hz⟩ := I.list hx
  have hlen := r.length
  refine ⟨"list", _, slot_list_getitem.lookup, ht.isList.typeIs, ?_⟩
  refine wpAny_getItem_list_slice ht.isList hs pl pu .none (by simp) ?_ (by rw [List.size_toArray] <;> omega)
  rw [slicePick_cut, ← hlen]
  refine ⟨.ref s.heap.objs.size, _, I.laid (t' := s.toks) (o := .lst (cutV xs lo hi)) (fun b ob q => Heap.get?_push_of_some _ q) (Nat.le_refl _) ?_, rfl, q _ (I.hok.fresh (Nat.le_refl _))⟩
  exact ⟨Nat.le_trans (cutV_length xs lo hi) hz, _, 0, (r.drop (HT.sIx xs.length 0 lo)).take (HT.sIx xs.length xs.length hi - HT.sIx xs.length 0 lo), Heap.get?_push_size _ rfl⟩

/-! ### in, not in: flat items -/
def flatV : V → Bool
  | .non => true
  | .bl _ => true
  | .int _ => true
  | .str _ => true
  | _ => false
/-- == of flat values -/
def eqV : V → V → Bool
  | .non, .non => true
  | .bl a, .bl b => a == b
  | .bl a, .int b => (if a then 1 else 0) == b
  | .int a, .bl b => a == (if b then 1 else 0)
  | .int a, .int b => a == b
  | .str a, .str b => a == b
  | _, _ => false
theorem eqAt_V {A : Around} {s : Shared} {y x : V} {u v : Value} (ry : RelV y u) (rx : RelV x v) (fy : flatV y = true) (fx : flatV x = true) : SeqAt.EqAt A s u v (eqV y x) := by
  cases y with
  | non =>
    cases ry
    cases x with
    | non => cases rx; exact SeqAt.EqAt.same _
    | bl b => cases rx; exact SeqAt.EqAt.none_bool b
    | int b => obtain ⟨t, rfl⟩ := rx; exact SeqAt.EqAt.none_int b t
    | str b => obtain ⟨t, rfl⟩ := rx; exact SeqAt.EqAt.none_str b t
    | _ => exact absurd (show false = true from fx) Bool.false_ne_true
  | bl a =>
    cases ry
    cases x with
    | non => cases rx; exact SeqAt.EqAt.bool_none a
    | bl b => cases rx; exact SeqAt.EqAt.bool_bool a b
    | int b => obtain ⟨t, rfl⟩ := rx; exact SeqAt.EqAt.bool_int a b t
    | str b => obtain ⟨t, rfl⟩ := rx; exact SeqAt.EqAt.bool_str a b t
    | _ => exact absurd (show false = true from fx) Bool.false_ne_true
  | int a =>
    obtain ⟨t', rfl⟩ := ry
    cases x with
    | non => cases rx; exact SeqAt.EqAt.int_none a t'
    | bl b => cases rx; exact SeqAt.EqAt.int_bool a t' b
    | int b => obtain ⟨t, rfl⟩ := rx; exact SeqAt.EqAt.int_int a t' b t
    | str b => obtain ⟨t, rfl⟩ := rx; exact SeqAt.EqAt.int_str a t' b t
    | _ => exact absurd (show false = true from fx) Bool.false_ne_true
  | str a =>
    obtain ⟨t', rfl⟩ := ry
    cases x with
    | non => cases rx; exact SeqAt.EqAt.str_none a t'
    | bl b => cases rx; exact SeqAt.EqAt.str_bool a t' b
    | int b => obtain ⟨t, rfl⟩ := rx; exact SeqAt.EqAt.str_int a t' b t
    | str b => obtain ⟨t, rfl⟩ := rx; exact SeqAt.EqAt.str_str a t' b t
    | _ => exact absurd (show false = true from fx) Bool.false_ne_true
  | _ => exact absurd (show false = true from fy) Bool.false_ne_true
/-- the items' answers, read off the values (a value's own answer does not lean on its token) -/
def eqU (x : V) (u : Value) : Bool := match u with
  | .none => eqV .non x
  | .bool b => eqV (.bl b) x
  | .int i _ => eqV (.int i) x
  | .str z _ => eqV (.str z) x
  | _ => false
theorem eqU_of {x y : V} {u : Value} (r : RelV y u) (f : flatV y = true) : eqU x u = eqV y x := by
  cases y with
  | non => cases r; rfl
  | bl b => cases r; rfl
  | int i => obtain ⟨t, rfl⟩ := r; rfl
  | str z => obtain ⟨t, rfl⟩ := r; rfl
  | _ => exact absurd (show false = true from f) Bool.false_ne_true
theorem any_eqU {x : V} : ∀ {xs : List V} {us : List Value}, Vals xs us → xs.all flatV = true → us.any (eqU x) = xs.any fun y => eqV y x
  | _, _, .nil, _ => rfl
  | y :: xs, u :: us, .cons r t, f => by
    rw [List.all_cons, Bool.and_eq_true] at f
    rw [List.any_cons, List.any_cons, eqU_of r f.1, any_eqU t f.2]
theorem mem_eqAt {A : Around} {s : Shared} {x : V} {v : Value} (rx : RelV x v) (fx : flatV x = true) : ∀ {xs : List V} {us : List Value}, Vals xs us → xs.all flatV = true → ∀ u ∈ us, SeqAt.EqAt A s u v (eqU x u)
  | _, _, .nil, _ => fun u hu => by cases hu
  | y :: xs, u :: us, .cons r t, f => fun u' hu => by
    rw [List.all_cons, Bool.and_eq_true] at f
    rcases List.mem_cons.mp hu with rfl | hu
    · rw [eqU_of r f.1]; exact eqAt_V r rx f.1 fx
    · exact mem_eqAt rx fx t f.2 u' hu
def inV (x : V) (xs : List V) : Bool := xs.any fun y => eqV y x
/-- x in a list or tuple of flat items -/
def rIn (K : PySem.W.Frag) (neg : Bool) : R2 := fun x y H Q => ∃ p xs, y = .ref p ∧ (SqL K H p xs ∨ SqT K H p xs) ∧ flatV x = true ∧ xs.all flatV = true ∧ Q (.bl (if neg then !inV x xs else inV x xs)) H
theorem op_in_seq : OpR X (compareOp .In) (rIn X.K false) := by
  intro pins s σ H x y v u Q I rx ry h
  obtain ⟨p, xs, rfl, hq, fx, fs, q⟩ := h
  cases ry
  rcases hq with hq | hq
  · obtain ⟨its, r, pl, hz⟩ := I.list hq
    refine SeqAt.in_listAt (eqU x) pl.isList (fun w hw => mem_eqAt rx fx r fs w (by simpa using hw)) ⟨.bl _, H, I, rfl, ?_⟩
    rw [show its.toArray.any (eqU x) = its.any (eqU x) by simp, any_eqU r fs]
    exact q
  · obtain ⟨its, r, pl, hz⟩ := I.tuple hq
    refine SeqAt.in_tupleAt (eqU x) pl (fun w hw => mem_eqAt rx fx r fs w (by simpa using hw)) ⟨.bl _, H, I, rfl, ?_⟩
    rw [show its.toArray.any (eqU x) = its.any (eqU x) by simp, any_eqU r fs]
    exact q
theorem op_notIn_seq : OpR X (compareOp .NotIn) (rIn X.K true) := by
  intro pins s σ H x y v u Q I rx ry h
  obtain ⟨p, xs, rfl, hq, fx, fs, q⟩ := h
  cases ry
  rcases hq with hq | hq
  · obtain ⟨its, r, pl, hz⟩ := I.list hq
    refine SeqAt.notIn_listAt (eqU x) pl.isList (fun w hw => mem_eqAt rx fx r fs w (by simpa using hw)) ⟨.bl _, H, I, rfl, ?_⟩
    rw [show its.toArray.any (eqU x) = its.any (eqU x) by simp, any_eqU r fs]
    exact q
  · obtain ⟨its, r, pl, hz⟩ := I.tuple hq
    refine SeqAt.notIn_tupleAt (eqU x) pl (fun w hw => mem_eqAt rx fx r fs w (by simpa using hw)) ⟨.bl _, H, I, rfl, ?_⟩
    rw [show its.toArray.any (eqU x) = its.any (eqU x) by simp, any_eqU r fs]
    exact q
theorem op_notIn_str : OpR X (compareOp .NotIn) (fun x y H Q => ∃ i j, x = .str i ∧ y = .str j ∧ Q (.bl (!(!(Builtin.Str.occurrences j i 0 j.length 1).isEmpty))) H) := by
  intro pins s σ H x y v u Q I rx ry h
  obtain ⟨i, j, rfl, rfl, q⟩ := h
  obtain ⟨t, rfl⟩ := rx
  obtain ⟨t', rfl⟩ := ry
  exact notIn_str ⟨.bl _, H, I, rfl, q⟩

/-! ### len, list(x), tuple(x) of any list or tuple that is read -/
theorem call_len_seq : CallR X (.builtin "len") (fun xs H Q => ∃ p ys, xs = [.ref p] ∧ (SqL X.K H p ys ∨ SqT X.K H p ys) ∧ Q (.int ys.length) H) := by
  intro pins s σ H xs us Q I r h
  obtain ⟨p, ys, rfl, hq, q⟩ := h
  obtain ⟨u, rfl, rx⟩ := vals1 r
  cases rx
  have hn := line63
  rcases hq with hq | hq
  · obtain ⟨its, r', pl, hz⟩ := I.list hq
    have hlen := r'.length
    exact Calls.call_len_list pl.isList (by simp only [List.size_toArray] <;> omega) ⟨.int ys.length, H, I.tok _, ⟨s.toks + 1, by rw [List.size_toArray, hlen]⟩, q⟩
  · obtain ⟨its, r', pl, hz⟩ := I.tuple hq
    have hlen := r'.length
    exact len_tuple pl (by simp only [List.size_toArray] <;> omega) ⟨.int ys.length, H, I.tok _, ⟨s.toks + 1, by rw [List.size_toArray, hlen]⟩, q⟩
theorem call_len_str : CallR X (.builtin "len") (fun xs H Q => ∃ z, xs = [.str z] ∧ z.length ≤ sizeLine ∧ Q (.int z.length) H) := by
  intro pins s σ H xs us Q I r h
  obtain ⟨z, rfl, hz, q⟩ := h
  obtain ⟨u, rfl, t, rfl⟩ := vals1 r
  have hn := line63
  exact len_str (by omega) ⟨.int z.length, H, I.tok _, ⟨_, rfl⟩, q⟩
theorem CallR.or {f : Value} {r r' : List V → Hp → VK → Prop} (h : CallR X f r) (h' : CallR X f r') : CallR X f (fun xs H Q => r xs H Q ∨ r' xs H Q) := by
  intro pins s σ H xs us Q I rs q
  rcases q with q | q
  · exact h pins s σ H xs us Q I rs q
  · exact h' pins s σ H xs us Q I rs q
theorem call_list_of : CallR X (.type "list") (fun xs H Q => ∃ p ys, xs = [.ref p] ∧ (SqL X.K H p ys ∨ SqT X.K H p ys) ∧ ∀ l, H l = none → Q (.ref l) (upd H l (.lst ys))) := by
  intro pins s σ H xs us Q I r h
  obtain ⟨p, ys, rfl, hq, q⟩ := h
  obtain ⟨u, rfl, rx⟩ := vals1 r
  cases rx
  have fin : ∀ (its : List Value), Vals ys its → ys.length ≤ sizeLine → ∀ (h' : Heap) (c' : Nat), (∀ b o', s.heap.get? b = some o' → h'.get? b = some o') →
      h'.get? s.heap.objs.size = some { cls := .type "list", dict := none, data := .seq its.toArray c', slots := #[] } → EP X pins σ Q (.ref s.heap.objs.size) { s with heap := h' } := fun its r' hz h' c' kp e =>
    ⟨.ref s.heap.objs.size, _, I.laid (t' := s.toks) kp (Nat.le_refl _) (show ObjOk X.prog X.w _ h' _ (.lst ys) from ⟨hz, its, c', r', e⟩), rfl, q _ (I.hok.fresh (Nat.le_refl _))⟩
  rcases hq with hq | hq
  · obtain ⟨its, r', pl, hz⟩ := I.list hq
    have hlen := r'.length
    obtain ⟨o, ho, hc, n, hd⟩ := pl.isList
    exact call_list_seq p (.inl rfl) ho hc hd (fun h' c' kp e => fin its r' hz h' c' kp e) (by simp only [List.size_toArray] <;> omega)
  · obtain ⟨its, r', pl, hz⟩ := I.tuple hq
    have hlen := r'.length
    obtain ⟨o, ho, hc, n, hd⟩ := pl
    exact call_list_seq p (.inr rfl) ho hc hd (fun h' c' kp e => fin its r' hz h' c' kp e) (by simp only [List.size_toArray] <;> omega)
theorem call_tuple_of : CallR X (.type "tuple") (fun xs H Q => ∃ p ys, xs = [.ref p] ∧ ((SqL X.K H p ys ∧ ∀ l, H l = none → Q (.ref l) (upd H l (.tup ys))) ∨ (SqT X.K H p ys ∧ Q (.ref p) H))) := by
  intro pins s σ H xs us Q I r h
  obtain ⟨p, ys, rfl, h⟩ := h
  obtain ⟨u, rfl, rx⟩ := vals1 r
  cases rx
  rcases h with ⟨hq, q⟩ | ⟨hq, q⟩
  · obtain ⟨its, r', pl, hz⟩ := I.list hq
    have hlen := r'.length
    refine call_tuple_list pl.isList (fun h' kp => ?_) (by simp only [List.size_toArray] <;> omega)
    have I1 : Inv X pins σ H { s with heap := h' } := I.kept (t' := s.toks) kp
    have I2 : Inv X pins σ (upd H h'.objs.size (.tup ys)) { s with heap := h'.push { cls := .type "tuple", data := .seq its.toArray } } :=
      I1.laid (t' := s.toks) (fun b o e => Heap.get?_push_of_some _ e) (Nat.le_refl _) (show ObjOk X.prog X.w _ _ _ (.tup ys) from ⟨hz, its, r', IsTup.new _ _⟩)
    exact ⟨.ref h'.objs.size, _, I2, rfl, q _ (I1.hok.fresh (Nat.le_refl _))⟩
  · obtain ⟨its, r', pl, hz⟩ := I.tuple hq
    exact call_tuple_same pl ⟨.ref p, H, I, rfl, q⟩

/-! ### the call of a builtin's method: o.m(..) -/
/-- the value is of that builtin type -/
def tyV (K : PySem.W.Frag) (T : String) (x : V) (H : Hp) : Prop := match x with
  | .str _ => T = "str"
  | .int _ => T = "int"
  | .ref p => (T = "list" ∧ ∃ xs, SqL K H p xs) ∨ (T = "tuple" ∧ ∃ o, K.lookup p = some o ∧ o.cls = .type "tuple" ∧ o.dict = none) ∨
      (T = "dict" ∧ ((∃ kvs, H p = some (.dK kvs)) ∨ ∃ kvs, H p = some (.dT kvs))) ∨ (T = "set" ∧ ∃ S n, H p = some (.set S n))
  | _ => False
theorem tyV_is {pins : List (Addr × Obj)} {σ : St} {H : Hp} {s : Shared} {T : String} {x : V} {v : Value} (I : Inv X pins σ H s) (r : RelV x v) (ty : tyV X.K T x H) :
    s.TypeIs v T ∧ ∀ a, v = .ref a → ∃ ob, s.heap.get? a = some ob ∧ ob.dict = none := by
  cases x with
  | str z =>
    obtain ⟨t, rfl⟩ := r
    cases (show T = "str" from ty)
    exact ⟨typeIs_str s z t, fun _ e => nomatch e⟩
  | int i =>
    obtain ⟨t, rfl⟩ := r
    cases (show T = "int" from ty)
    exact ⟨typeIs_int s i t, fun _ e => nomatch e⟩
  | ref p =>
    cases r
    rcases ty with ⟨rfl, xs, hq⟩ | ⟨rfl, o, hk, hc, hd⟩ | ⟨rfl, hk⟩ | ⟨rfl, S, n, hk⟩
    · obtain ⟨its, _, pl, _⟩ := I.list hq
      refine ⟨pl.isList.typeIs, fun a e => ?_⟩
      cases e
      obtain ⟨o, n, e, c, hd, _⟩ := pl
      exact ⟨o, e, hd⟩
    · refine ⟨⟨o, I.kIn p o hk, hc⟩, fun a e => ?_⟩
      cases e
      exact ⟨o, I.kIn _ o hk, hd⟩
    · have z : ∃ o, s.heap.get? p = some o ∧ o.ExactDict := by
        rcases hk with ⟨kvs, hk⟩ | ⟨kvs, hk⟩
        · obtain ⟨_, _, _, _, o, _, _, e, ex, _⟩ := I.hok p _ hk
          exact ⟨o, e, ex⟩
        · obtain ⟨_, _, _, _, o, _, _, e, ex, _⟩ := I.hok p _ hk
          exact ⟨o, e, ex⟩
      obtain ⟨o, e, ex⟩ := z
      refine ⟨⟨o, e, ex.1⟩, fun a e2 => ?_⟩
      cases e2
      exact ⟨o, e, ex.2.1⟩
    · obtain ⟨o, _, _, _, e, ex, _⟩ := I.hok p _ hk
      refine ⟨⟨o, e, ex.1⟩, fun a e2 => ?_⟩
      cases e2
      exact ⟨o, e, ex.2.1⟩
  | _ => exact False.elim ty
def tBM0 (K : PySem.W.Frag) (T : String) (r : V → List V → Hp → VK → Prop) (to : TE) : TE := fun σ H Q => to σ H fun x H1 => tyV K T x H1 ∧ r x [] H1 Q
def tBM (K : PySem.W.Frag) (T : String) (r : V → List V → Hp → VK → Prop) (to : TE) (t : TA) : TE := fun σ H Q => to σ H fun x H1 => tyV K T x H1 ∧ t σ H1 fun xs H2 => r x xs H2 Q
variable {o e : Expr} {es : List Expr} {to : TE} {t : TA} {name : Str} {apos cpos : Pos} {T id : String} {r : V → List V → Hp → VK → Prop}
theorem pe_bm0 (pa : PlainAttrs T) (slot : Slot T name id) (hty : typeOf (.builtin id) = pure (.type "method_descriptor")) (hm : MtR X id r) (ho : PE X o to)
    (hbase : attributeBase o name X.env (eval o X.env) = eval o X.env := by rfl) (hline : (apos.endLine == cpos.line) = true := by rfl) : PE X (.Call (.Attribute o name apos) [] [] cpos) (tBM0 X.K T r to) := by
  intro pins s σ H Q I h
  refine wpAny_Call_method0_late hbase hline (thn (ho pins s σ H _ I h) fun v s1 ⟨x, H1, I1, r1, ty, q1⟩ => ?_)
  obtain ⟨h1, h2⟩ := tyV_is I1 r1 ty
  exact ⟨T, id, pa, slot, hty, h1, h2, Calls.callWith_builtin rfl (PySem.evalArgs_none (hm pins s1 σ H1 x [] v [] Q I1 r1 .nil q1))⟩
theorem pe_bm (pa : PlainAttrs T) (slot : Slot T name id) (hty : typeOf (.builtin id) = pure (.type "method_descriptor")) (hm : MtR X id r) (ho : PE X o to) (ha : PA X (e :: es) t)
    (hbase : attributeBase o name X.env (eval o X.env) = eval o X.env := by rfl)
    (hfew : ((backTo cpos (starEach (e :: es) X.env)).all (fun x => !x.1) && (backToKw cpos (keywordEach [] X.env)).all (fun x => x.1.isSome)
      && decide ((e :: es).length + ([] : List Keyword).length + (if ([] : List Keyword).isEmpty then 0 else 1) < 30)) = true := by rfl)
    (hline : (apos.endLine == cpos.line) = true := by rfl) (hs : starEach (e :: es) X.env = (false, eval e X.env) :: starEach es X.env := by rfl) (hplain : (backTo cpos (starEach es X.env)).any (·.1) = false := by rfl) :
    PE X (.Call (.Attribute o name apos) (e :: es) [] cpos) (tBM X.K T r to t) := by
  intro pins s σ H Q I h
  refine wpAny_Call_method_late hbase hfew hline rfl (thn (ho pins s σ H _ I h) fun v s1 ⟨x, H1, I1, r1, ty, q1⟩ => ?_)
  obtain ⟨h1, h2⟩ := tyV_is I1 r1 ty
  refine ⟨T, id, pa, slot, hty, h1, h2, ?_⟩
  have hA := ha cpos pins s1 σ H1 _ I1 q1
  rw [hs] at hA ⊢
  refine Calls.callWith_builtin (by show (false || (backTo cpos (starEach es X.env)).any (·.1)) = false; rw [hplain] <;> rfl) (Calls.evalArgs_plain ?_)
  exact thn hA fun us s2 ⟨vs, H2, I2, r2, q2⟩ => hm pins s2 σ H2 x vs v us Q I2 r1 r2 q2
/- xs.append(e), list.index on a module's tuple .. are MtR facts of 06m -/
end
end L2

namespace L2
open PySem PySem.Spec PyProof.Rows

def MtM (X : Cx) (id : String) (r : V → List V → Hp → VK → Prop) : Prop :=
  ∀ (pins : List (Addr × Obj)) (s : Shared) (σ : St) (H : Hp) (x : V) (xs : List V) (v : Value) (us : List Value) (Q : VK), Inv X pins σ H s → RelV x v → Vals xs us → r x xs H Q →
    wpAny (model X.prog X.w) X.A (call (.builtin id) (v :: us)) (EP X pins σ Q) X.xe s

/-! ### lists of values -/
theorem Vals.one : ∀ {x : V} {us : List Value}, Vals [x] us → ∃ u, us = [u] ∧ RelV x u
  | _, _, .cons r .nil => ⟨_, rfl, r⟩
theorem Vals.two : ∀ {x y : V} {us : List Value}, Vals [x, y] us → ∃ u v, us = [u, v] ∧ RelV x u ∧ RelV y v
  | _, _, _, .cons r (.cons q .nil) => ⟨_, _, rfl, r, q⟩
theorem Vals.zero : ∀ {us : List Value}, Vals [] us → us = []
  | _, .nil => rfl
theorem Vals.dropLast {xs : List V} {us : List Value} (h : Vals xs us) : Vals xs.dropLast us.dropLast := by
  induction h with
  | nil => exact .nil
  | cons r t ih =>
    cases t with
    | nil => exact .nil
    | cons q t' => exact .cons r ih
theorem Vals.eraseIdx : ∀ {xs : List V} {us : List Value} (i : Nat), Vals xs us → Vals (xs.eraseIdx i) (us.eraseIdx i)
  | _, _, _, .nil => .nil
  | _, _, 0, .cons _ t => t
  | _, _, i + 1, .cons r t => .cons r (Vals.eraseIdx i t)
theorem Vals.reverse {xs : List V} {us : List Value} (h : Vals xs us) : Vals xs.reverse us.reverse := by
  induction h with
  | nil => exact .nil
  | cons r t ih => rw [List.reverse_cons, List.reverse_cons]; exact Vals.append ih (.cons r .nil)
theorem Vals.rep {xs : List V} {us : List Value} (h : Vals xs us) : ∀ k : Nat, Vals (List.replicate k xs).flatten (List.replicate k us).flatten
  | 0 => .nil
  | k + 1 => by
    rw [List.replicate_succ, List.replicate_succ, List.flatten_cons, List.flatten_cons]
    exact Vals.append h (Vals.rep h k)
theorem erase_last {α : Type} (l : List α) : l.eraseIdx (l.length - 1) = l.dropLast := by
  induction l with
  | nil => rfl
  | cons a r ih =>
    cases r with
    | nil => rfl
    | cons b r =>
      have e : (a :: b :: r).length - 1 = ((b :: r).length - 1) + 1 := by
        have h1 : (a :: b :: r).length = r.length + 2 := rfl
        have h2 : (b :: r).length = r.length + 1 := rfl
        omega
      rw [e, List.eraseIdx_cons_succ, ih]
      all_goals rfl
theorem len_erase {α : Type} : ∀ (l : List α) (i : Nat), (l.eraseIdx i).length ≤ l.length
  | [], _ => Nat.le_refl _
  | _ :: _, 0 => Nat.le_succ _
  | _ :: r, i + 1 => Nat.succ_le_succ (len_erase r i)
theorem foldl_rep (its : List Value) : ∀ (k : Nat) (acc : List Value),
    List.foldl (fun x1 x2 => x1 ++ x2) acc.toArray (List.replicate k its.toArray) = (acc ++ (List.replicate k its).flatten).toArray
  | 0, acc => by simp
  | k + 1, acc => by
    have e : acc.toArray ++ its.toArray = (acc ++ its).toArray := by simp
    have e2 : (acc ++ its) ++ (List.replicate k its).flatten = acc ++ (List.replicate (k + 1) its).flatten := by
      rw [List.replicate_succ, List.flatten_cons, List.append_assoc]
    rw [← e2, ← foldl_rep its k (acc ++ its), ← e, List.replicate_succ, List.foldl_cons]

section
variable {X : Cx} {pins : List (Addr × Obj)} {σ : St} {H : Hp} {s : Shared} {l b : Addr} {xs ys zs : List V}

/-! ### the two steps: a tracked list is rewritten, a new list is laid -/
theorem Inv.lset {its its' : List Value} {n : Nat} {f : Array Value → Array Value} {t' : Nat} (I : Inv X pins σ H s) (hH : H l = some (.lst xs))
    (e : s.heap.get? l = some { cls := .type "list", data := .seq its.toArray n }) (hf : f its.toArray = its'.toArray) (hv : Vals ys its') (hz : ys.length ≤ sizeLine) :
    Inv X pins σ (upd H l (.lst ys)) { s with heap := s.heap.update l (Obj.mapSeq f), toks := t' } := by
  have q := PySem.IsL.update e f
  rw [hf] at q
  refine I.write (x := l) (e := l) (by rw [hH]; exact trivial) (.inl rfl) (fun b' u hb hu => (Heap.get?_update_other s.heap (Obj.mapSeq f) (Ne.symm hb)).trans hu) ⟨_, q⟩ ?_
  exact ⟨hz, its', _, hv, q⟩
theorem Inv.lnew {its : List Value} {t' : Nat} (I : Inv X pins σ H s) (hv : Vals ys its) (hz : ys.length ≤ sizeLine) :
    Inv X pins σ (upd H s.heap.objs.size (.lst ys)) { s with heap := s.heap.push { cls := .type "list", data := .seq its.toArray }, toks := t' } :=
  I.laid (fun _ _ q => Heap.get?_push_of_some _ q) (Nat.le_refl _) ⟨hz, its, 0, hv, Heap.get?_push_size _ rfl⟩
theorem Inv.fresh (I : Inv X pins σ H s) : H s.heap.objs.size = none := I.hok.fresh (Nat.le_refl _)
theorem Inv.lstM (I : Inv X pins σ H s) (hH : H l = some (.lst xs)) : xs.length ≤ sizeLine ∧ ∃ (its : List Value) (n : Nat), Vals xs its ∧ xs.length = its.length ∧ s.heap.get? l = some { cls := .type "list", data := .seq its.toArray n } := by
  obtain ⟨z, its, n, r, e⟩ := I.hok l _ hH
  exact ⟨z, its, n, r, r.length, e⟩

theorem notLongL {n : Nat} (h : n ≤ sizeLine) : Builtin.List.listTooLong n = false := by
  unfold Builtin.List.listTooLong
  exact decide_eq_false (by omega)
end

section
variable {X : Cx}

/-! ### methods -/
def rAppend : V → List V → Hp → VK → Prop := fun x vs H Q => ∃ l xs y, x = .ref l ∧ vs = [y] ∧ H l = some (.lst xs) ∧ xs.length < sizeLine ∧ Q .non (upd H l (.lst (xs ++ [y])))
theorem mt_append : MtM X "list.append" rAppend := by
  intro pins s σ H x vs v us Q I rx rv h
  obtain ⟨l, xs, y, rfl, rfl, hH, hz, q⟩ := h
  cases rx
  obtain ⟨u, rfl, ru⟩ := rv.one
  obtain ⟨z, its, n, r, hl, e⟩ := I.lstM hH
  refine call_meets F.slot_list_append ⟨_, e, rfl⟩ F.entry_list_append (F.args_list_append_2 _ _) (PySem.list_append l its.toArray n u (by rw [List.size_toArray]; omega)) ⟨e, ?_⟩
  refine ⟨.non, _, I.lset (its' := its ++ [u]) hH e (by simp) (r.append (.cons ru .nil)) ?_, rfl, q⟩
  rw [List.length_append, List.length_singleton]
  omega

def rExtend : V → List V → Hp → VK → Prop := fun x vs H Q => ∃ l b xs zs, x = .ref l ∧ vs = [.ref b] ∧ H l = some (.lst xs) ∧ H b = some (.lst zs) ∧ xs.length + zs.length ≤ sizeLine ∧ Q .non (upd H l (.lst (xs ++ zs)))
theorem mt_extend : MtM X "list.extend" rExtend := by
  intro pins s σ H x vs v us Q I rx rv h
  obtain ⟨l, b, xs, zs, rfl, rfl, hH, hB, hz, q⟩ := h
  cases rx
  obtain ⟨u, rfl, ru⟩ := rv.one
  cases ru
  obtain ⟨z, its, n, r, hl, e⟩ := I.lstM hH
  obtain ⟨z2, its2, n2, r2, hl2, e2⟩ := I.lstM hB
  have hsz : its.toArray.size + its2.toArray.size ≤ sizeLine := by rw [List.size_toArray, List.size_toArray]; omega
  have hlong : ¬ (!its.toArray.isEmpty && Builtin.List.listTooLong (its.toArray.size + its2.toArray.size)) = true := by
    rw [notLongL hsz, Bool.and_false]
    exact Bool.false_ne_true
  refine call_meets F.slot_list_extend ⟨_, e, rfl⟩ F.entry_list_extend (F.args_list_extend_2 _ _)
    (AutoSeq1.list_extend_list_list_0 l its.toArray n b its2.toArray n2 hlong (by rw [List.size_toArray]; omega) (by omega)) ⟨e, e2, ?_⟩
  refine ⟨.non, _, I.lset (its' := its ++ its2) hH e (by simp) (r.append r2) ?_, rfl, q⟩
  rw [List.length_append]
  omega

def rPop : V → List V → Hp → VK → Prop := fun x vs H Q => ∃ l xs y, x = .ref l ∧ vs = [] ∧ H l = some (.lst xs) ∧ xs[xs.length - 1]? = some y ∧ Q y (upd H l (.lst xs.dropLast))
theorem mt_pop : MtM X "list.pop" rPop := by
  intro pins s σ H x vs v us Q I rx rv h
  obtain ⟨l, xs, y, rfl, rfl, hH, hy, q⟩ := h
  cases rx
  have hus := rv.zero
  subst hus
  obtain ⟨z, its, n, r, hl, e⟩ := I.lstM hH
  obtain ⟨u, hu, ru⟩ := r.get hy
  have hy' : its.toArray[its.toArray.size - 1]? = some u := by
    show its.toArray[its.length - 1]? = some u
    rw [← Array.getElem?_toList, ← hl]
    exact hu
  refine call_meets F.slot_list_pop ⟨_, e, rfl⟩ F.entry_list_pop (F.args_list_pop_1 _) (MeetsSeq.list_pop_last l its.toArray n u hy' (by rw [List.size_toArray]; omega)) ⟨e, ?_⟩
  refine ⟨y, _, I.lset (its' := its.dropLast) hH e ?_ r.dropLast ?_, ru, q⟩
  · show its.toArray.eraseIdxIfInBounds (its.toArray.size - 1) = its.dropLast.toArray
    rw [List.size_toArray, List.eraseIdxIfInBounds_toArray, erase_last]
  · rw [List.length_dropLast]
    omega

def rPopAt : V → List V → Hp → VK → Prop := fun x vs H Q => ∃ l xs i k y, x = .ref l ∧ vs = [.int i] ∧ H l = some (.lst xs) ∧ -(2 ^ 63) ≤ i ∧ i < 2 ^ 63 ∧ seqIndex? i xs.length = some k ∧ xs[k]? = some y ∧ Q y (upd H l (.lst (xs.eraseIdx k)))
theorem mt_popAt : MtM X "list.pop" rPopAt := by
  intro pins s σ H x vs v us Q I rx rv h
  obtain ⟨l, xs, i, k, y, rfl, rfl, hH, h1, h2, hk, hy, q⟩ := h
  cases rx
  obtain ⟨u, rfl, ru⟩ := rv.one
  obtain ⟨t, rfl⟩ := ru
  obtain ⟨z, its, n, r, hl, e⟩ := I.lstM hH
  obtain ⟨w, hw, rw'⟩ := r.get hy
  refine call_meets F.slot_list_pop ⟨_, e, rfl⟩ F.entry_list_pop (F.args_list_pop_2 _ _)
    (MeetsSeq.list_pop_at l its.toArray n i t k w (fitsIndex_both h1 h2) (by rw [List.size_toArray, ← hl]; exact hk) (by rw [← Array.getElem?_toList]; exact hw) (by rw [List.size_toArray]; omega)) ⟨e, ?_⟩
  refine ⟨y, _, I.lset (its' := its.eraseIdx k) hH e ?_ (r.eraseIdx k) ?_, rw', q⟩
  · show its.toArray.eraseIdxIfInBounds k = (its.eraseIdx k).toArray
    rw [List.eraseIdxIfInBounds_toArray]
  · have := len_erase xs k
    omega

def rReverse : V → List V → Hp → VK → Prop := fun x vs H Q => ∃ l xs, x = .ref l ∧ vs = [] ∧ H l = some (.lst xs) ∧ Q .non (upd H l (.lst xs.reverse))
theorem mt_reverse : MtM X "list.reverse" rReverse := by
  intro pins s σ H x vs v us Q I rx rv h
  obtain ⟨l, xs, rfl, rfl, hH, q⟩ := h
  cases rx
  have hus := rv.zero
  subst hus
  obtain ⟨z, its, n, r, hl, e⟩ := I.lstM hH
  refine call_meets F.slot_list_reverse ⟨_, e, rfl⟩ F.entry_list_reverse (F.args_list_reverse_1 _) (AutoSeq1.list_reverse_list_0 l its.toArray n (by rw [List.size_toArray]; omega)) ⟨e, ?_⟩
  refine ⟨.non, _, I.lset (its' := its.reverse) hH e (by simp) r.reverse ?_, rfl, q⟩
  rw [List.length_reverse]
  omega

def rClear : V → List V → Hp → VK → Prop := fun x vs H Q => ∃ l xs, x = .ref l ∧ vs = [] ∧ H l = some (.lst xs) ∧ Q .non (upd H l (.lst []))
theorem mt_clear : MtM X "list.clear" rClear := by
  intro pins s σ H x vs v us Q I rx rv h
  obtain ⟨l, xs, rfl, rfl, hH, q⟩ := h
  cases rx
  have hus := rv.zero
  subst hus
  obtain ⟨z, its, n, r, hl, e⟩ := I.lstM hH
  refine call_meets F.slot_list_clear ⟨_, e, rfl⟩ F.entry_list_clear (F.args_list_clear_1 _) (AutoSeq1.list_clear_list_0 l its.toArray n (by rw [List.size_toArray]; omega)) ⟨e, ?_⟩
  exact ⟨.non, _, I.lset (its' := []) (ys := []) hH e rfl .nil (Nat.zero_le _), rfl, q⟩

/-! ### list + list, list += list, list * int -/
def rCat : R2 := fun x y H Q => ∃ l b xs zs, x = .ref l ∧ y = .ref b ∧ H l = some (.lst xs) ∧ H b = some (.lst zs) ∧ xs.length + zs.length ≤ sizeLine ∧ ∀ p, H p = none → Q (.ref p) (upd H p (.lst (xs ++ zs)))
theorem op_cat : OpR X (binaryOp .Add) rCat := by
  intro pins s σ H x y v u Q I rx ry h
  obtain ⟨l, b, xs, zs, rfl, rfl, hH, hB, hz, q⟩ := h
  cases rx
  cases ry
  obtain ⟨z, its, n, r, hl, e⟩ := I.lstM hH
  obtain ⟨z2, its2, n2, r2, hl2, e2⟩ := I.lstM hB
  refine PySem.P.add_list e e2 ?_ (by rw [List.size_toArray, List.size_toArray]; omega)
  have ea : its.toArray ++ its2.toArray = (its ++ its2).toArray := by simp
  rw [ea]
  exact ⟨.ref _, _, I.lnew (t' := s.toks) (r.append r2) (by rw [List.length_append]; omega), rfl, q _ I.fresh⟩
/-- a list times an int (a negative one is nothing) -/
def rRep : R2 := fun x y H Q => ∃ l k xs, x = .ref l ∧ y = .int k ∧ H l = some (.lst xs) ∧ -(2 ^ 63) ≤ k ∧ k < 2 ^ 63 ∧ xs.length * k.toNat ≤ sizeLine ∧
  ∀ p, H p = none → Q (.ref p) (upd H p (.lst (List.replicate k.toNat xs).flatten))
theorem len_rep {α : Type} (xs : List α) (k : Nat) : (List.replicate k xs).flatten.length = k * xs.length := by
  induction k with
  | zero => simp
  | succ k ih => rw [List.replicate_succ, List.flatten_cons, List.length_append, ih, Nat.succ_mul, Nat.add_comm]
theorem op_rep : OpR X (binaryOp .Mult) rRep := by
  intro pins s σ H x y v u Q I rx ry h
  obtain ⟨l, k, xs, rfl, rfl, hH, h1, h2, hz, q⟩ := h
  cases rx
  obtain ⟨t, rfl⟩ := ry
  obtain ⟨z, its, n, r, hl, e⟩ := I.lstM hH
  have hlen : its.toArray.size * k.toNat ≤ sizeLine := by rw [List.size_toArray, ← hl]; exact hz
  have hcap : ¬ its.toArray.size * k.toNat > (2 ^ 63 - 1) / 8 := by
    have : (sizeLine : Nat) ≤ (2 ^ 63 - 1) / 8 := by decide
    omega
  have hfit : ¬ (!Builtin.List.listFitsIndex k) = true := by
    rw [fitsIndex_both h1 h2]
    exact Bool.false_ne_true
  have hlong : ¬ Builtin.List.listTooLong (its.toArray.size * k.toNat) = true := by
    rw [notLongL hlen]
    exact Bool.false_ne_true
  have hnew : List.foldl (fun x1 x2 => x1 ++ x2) #[] (List.replicate (if its.toArray.isEmpty = true then 0 else k.toNat) its.toArray) = (List.replicate k.toNat its).flatten.toArray := by
    have f0 : ∀ m : Nat, List.foldl (fun x1 x2 => x1 ++ x2) #[] (List.replicate m its.toArray) = (List.replicate m its).flatten.toArray := fun m => by
      have := foldl_rep its m []
      rw [List.nil_append] at this
      exact this
    rw [f0]
    cases its with
    | nil => simp
    | cons a r' => rw [if_neg (by simp)]
  refine wpAny_binaryOp_repeat_ref (T := "list") (U := "int") (by decide) ⟨_, e, rfl⟩ (fun s' => typeIs_int s' k t) noFill_list_mul F.fills_int_mul F.slot_int_rmul repeat_list F.slot_int_index.lookup
    (call_meets F.slot_int_rmul (typeIs_int s k t) F.entry_int_rmul (F.args_int_rmul_2 _ _) (int___rmul___int_list k t l its.toArray n)
      ⟨e, rfl, ⟨_, e, rfl⟩, call_meets F.slot_list_mul ⟨_, e, rfl⟩ F.entry_list_mul (F.args_list_mul_2 _ _) (AutoListH.list___mul___list_int_3 l its.toArray n k t hfit hcap hlong) ⟨e, ?_⟩⟩)
  rw [hnew]
  exact ⟨.ref _, _, I.lnew (t' := s.toks) (r.rep k.toNat) (by rw [len_rep, Nat.mul_comm]; exact hz), rfl, q _ I.fresh⟩

/-! ### del xs[i] -/
theorem del_list {pins : List (Addr × Obj)} {s : Shared} {σ : St} {H : Hp} {l : Addr} {xs : List V} {i : Int} {t : Tok} {k : Nat} {Q : Unit → Shared → Prop} (I : Inv X pins σ H s) (hH : H l = some (.lst xs))
    (h1 : -(2 ^ 63) ≤ i) (h2 : i < 2 ^ 63) (hk : seqIndex? i xs.length = some k) (h : ∀ s', Inv X pins σ (upd H l (.lst (xs.eraseIdx k))) s' → Q () s') :
    wpAny (model X.prog X.w) X.A (delItem (.ref l) (.int i t)) Q X.xe s := by
  obtain ⟨z, its, n, r, hl, e⟩ := I.lstM hH
  refine PySem.P.delItem_list (k := k) e (fitsIndex_both h1 h2) (by rw [List.size_toArray, ← hl]; exact hk) (h _ ?_) (by rw [List.size_toArray]; omega)
  refine I.lset (its' := its.eraseIdx k) (t' := s.toks) hH e ?_ (r.eraseIdx k) ?_
  · show its.toArray.eraseIdxIfInBounds k = (its.eraseIdx k).toArray
    rw [List.eraseIdxIfInBounds_toArray]
  · have := len_erase xs k
    omega
end

/-! ### xs[a:b] = ys -/
section
variable {prog : Program} {w : World} {A : Around} {E : Value → Shared → Prop} {s : Shared}
theorem splice_eq (its its2 : List Value) (a c : Nat) : its.toArray.extract 0 a ++ its2.toArray ++ its.toArray.extract c its.toArray.size = (its.take a ++ its2 ++ its.drop c).toArray := by
  apply Array.toList_inj.mp
  first
    | (simp
       exact List.take_of_length_le (by simp))
    | simp [List.take_of_length_le]
    | simp
theorem bounds_run {a c n : Nat} (hac : a ≤ c) (hc : c ≤ n) : sliceBounds (some (a : Int)) (some (c : Int)) none n = ((a : Int), (c : Int), 1) := by
  simp only [sliceBounds, Option.getD_none]
  have h1 : ¬ ((a : Int) < 0) := by omega
  have h2 : ¬ ((c : Int) < 0) := by omega
  simp only [h1, h2, if_false, show (1 : Int) > 0 by decide, if_true]
  congr 1
  · omega
  · congr 1; omega
set_option maxRecDepth 100000 in
/-- list.__setitem__ with a slice of step one and another list -/
theorem setItem_slice {l b sl : Addr} {items new : Array Value} {n n2 : Nat} {vl vu : Value} {a c : Nat} {Q : Unit → Shared → Prop}
    (e : s.heap.get? l = some { cls := .type "list", data := .seq items n }) (e2 : s.heap.get? b = some { cls := .type "list", data := .seq new n2 }) (hne : l ≠ b)
    (hs : s.heap.IsSliceOf sl vl vu .none) (pl : IsPart vl (some (a : Int))) (pu : IsPart vu (some (c : Int))) (hac : a ≤ c) (hc : c ≤ items.size)
    (hsz : items.size + new.size ≤ sizeLine) (h : Q () { s with heap := s.heap.update l (Obj.mapSeq fun xs => xs.extract 0 a ++ new ++ xs.extract c xs.size) }) :
    wpAny (model prog w) A (setItem (.ref l) (.ref sl) (.ref b)) Q E s := by
  have hl : s.heap.IsList l items := PySem.IsL.isList e
  have hb : s.heap.IsList b new := PySem.IsL.isList e2
  obtain ⟨os, hos, hcs, hds⟩ := id hs
  have hTs : s.TypeIs (.ref sl) "slice" := ⟨os, hos, hcs⟩
  have hstep : ¬ ((rawPart none == rawInt 0) = true) := Bool.false_ne_true
  have hsame : Builtin.List.listSameRef (.ref l) (.ref b) = false := by
    unfold Builtin.List.listSameRef
    exact beq_eq_false_iff_ne.mpr hne
  have hmax : (max (a : Int) (c : Int)).toNat = c := by omega
  have hz' : ((fun xs : Array Value => xs.extract 0 a ++ new ++ xs.extract c xs.size) items).size ≤ sizeLine + 1 := by
    simp only [Array.size_append, Array.size_extract]
    omega
  unfold setItem
  try with_reducible refine wpAny_holding ?_
  first | refine wpAny_bind (wpAny_pure ?_) | skip
  refine wpAny_bind (wpAny_sequenceKey hl.typeIs (by decide) ?_)
  refine wpAny_bind (wpAny_callSpecial?_slot (name := Str.ofString "__setitem__") hl.typeIs slot_list_setitem
    (wpAny_call_entry slot_list_setitem hl.typeIs entry_list_setitem ?_ (args_list_setitem _ _ _)))
  show wpAny _ _ (Builtin.List.listSubscript? (.ref sl) >>= _) _ _ s
  refine wpAny_bind ?_
  unfold Builtin.List.listSubscript?
  refine wpAny_bind (wpAny_specialOf hTs slice_no_index ?_)
  simp only [Option.isNone_none, if_true]
  refine wpAny_pure ?_
  show wpAny _ _ (typeOf (.ref sl) >>= _) _ _ s
  refine wpAny_bind (wpAny_typeOf hTs ?_)
  first
    | rw [if_neg (by decide)]
    | refine PySem.W.KFB.if_not (by decide) ?_
  rw [listSliceParts_eq]
  refine wpAny_bind (wpAny_bind (wpAny_field hos hds (x := .none) rfl (wpAny_bind (wpAny_listPart .none ?_))))
  rw [if_neg hstep]
  refine wpAny_bind (wpAny_field hos hds (x := vl) rfl (wpAny_bind (wpAny_listPart pl ?_)))
  refine wpAny_bind (wpAny_field hos hds (x := vu) rfl (wpAny_bind (wpAny_listPart pu (wpAny_pure ?_))))
  first
    | simp only [hsame, Bool.false_eq_true, if_false]
    | refine PySem.W.KFB.if_not hsame ?_
    | (dsimp only
       rw [if_neg (by rw [hsame]; exact Bool.false_ne_true)])
  refine wpAny_bind (m := Builtin.List.listAllItems (.ref b) "must assign iterable to extended slice") ?_
  unfold Builtin.List.listAllItems
  refine wpAny_bind (wpAny_typeOf hb.typeIs ?_)
  first
    | refine PySem.W.KFB.if_so (by decide) ?_
    | rw [if_pos (by decide)]
    | simp only [beq_self_eq_true, Bool.true_or, if_true]
  unfold Builtin.List.listItems
  refine wpAny_bind (wpAny_seqItems e2 rfl (wpAny_pure ?_))
  refine wpAny_bind (wpAny_bind (wpAny_seqItems e rfl (wpAny_pure ?_)))
  refine wpAny_bind (wpAny_of_eq ((sliceIndices_raw (some (a : Int)) (some (c : Int)) none items.size (by simp)).trans (congrArg (pure : Int × Int × Int → Sem (Int × Int × Int)) (bounds_run hac hc))) ?_)
  show wpAny _ _ (if ((1 : Int) == 1) = true then _ else _) _ _ s
  rw [if_pos (by decide)]
  refine wpAny_bind (wpAny_rule ?_)
  first
    | simp only [notLongL hsz, Bool.false_eq_true, if_false]
    | refine PySem.W.KFB.if_not (notLongL hsz) ?_
  first | refine wpAny_bind (wpAny_pure ?_) | skip
  show wpAny _ _ (updateSeq l (fun xs => xs.extract 0 ((a : Int)).toNat ++ new ++ xs.extract (max (a : Int) (c : Int)).toNat xs.size) >>= _) _ _ s
  rw [hmax, Int.toNat_natCast]
  refine wpAny_bind (wpAny_updateSeq (hz := Nat.le_trans (Nat.le_add_right _ _) hsz) (_hz' := hz') e rfl ?_)
  refine wpAny_bind (wpAny_letGo ?_)
  first
    | exact wpAny_bind (wpAny_pure (wpAny_pure ⟨.none, rfl, wpAny_pure h⟩))
    | exact wpAny_pure ⟨.none, rfl, wpAny_pure h⟩
end

section
variable {X : Cx}
/-- xs[a:c] = ys of another list, at the value level: sl is the slice object that was just made -/
theorem set_slice {pins : List (Addr × Obj)} {s : Shared} {σ : St} {H : Hp} {l b sl : Addr} {xs ys : List V} {a c : Int} {vl vu : Value} {Q : Unit → Shared → Prop} (I : Inv X pins σ H s)
    (hH : H l = some (.lst xs)) (hB : H b = some (.lst ys)) (hne : l ≠ b) (hs : s.heap.IsSliceOf sl vl vu .none) (ra : RelV (.int a) vl) (rc : RelV (.int c) vu) (h0 : 0 ≤ a) (hac : a ≤ c) (hc : c ≤ xs.length)
    (hz : xs.length + ys.length ≤ sizeLine) (h : ∀ s', Inv X pins σ (upd H l (.lst (xs.take a.toNat ++ ys ++ xs.drop c.toNat))) s' → Q () s') :
    wpAny (model X.prog X.w) X.A (setItem (.ref l) (.ref sl) (.ref b)) Q X.xe s := by
  obtain ⟨ta, rfl⟩ := ra
  obtain ⟨tc, rfl⟩ := rc
  obtain ⟨z, its, n, r, hl, e⟩ := I.lstM hH
  obtain ⟨z2, its2, n2, r2, hl2, e2⟩ := I.lstM hB
  obtain ⟨a', rfl⟩ := Int.eq_ofNat_of_zero_le h0
  obtain ⟨c', rfl⟩ := Int.eq_ofNat_of_zero_le (Int.le_trans h0 hac)
  simp only [Int.toNat_natCast] at h
  refine setItem_slice (a := a') (c := c') e e2 hne hs (.int _ _) (.int _ _) (by omega) (by rw [List.size_toArray]; omega) (by rw [List.size_toArray, List.size_toArray]; omega) (h _ ?_)
  refine I.lset (its' := its.take a' ++ its2 ++ its.drop c') (t' := s.toks) hH e ?_ (Vals.append (Vals.append (r.take _) r2) (r.drop _)) ?_
  · exact splice_eq its its2 a' c'
  · rw [List.length_append, List.length_append, List.length_take, List.length_drop]
    omega
end
end L2

namespace Att
open PySem PySem.W PySem.Calls PyProof.Rows

/-! ### the script -/
theorem ints_of_wellAll {P : Params} {h : Heap} : ∀ (ns : List Int) (vs : List Value), WellAll P h vs (ns.map WData.int) → IntsAre vs ns := by
  intro ns
  induction ns with
  | nil =>
    intro vs w
    rw [List.map_nil] at w
    cases w
    exact .nil
  | cons n ns ih =>
    intro vs w
    rw [List.map_cons] at w
    cases w with
    | cons a b =>
      cases a
      exact .cons _ _ (ih _ b)

theorem script_of {l : OpenLaw} {n : Nat} (hn : l.most = some n) {P : Params} {h : Heap} {args : List WData} {vals : List Value}
    (hpre : l.row.toRowW.claim.pre args = true) (hwl : WellAll P h vals args) :
    ∃ a vs ns, vals = [Value.ref a] ∧ args = [WData.list (ns.map WData.int)] ∧ h.get? a = some { cls := .type "list", data := .seq vs.toArray } ∧ IntsAre vs ns ∧ ns.length ≤ n := by
  have hsh : WShape.hasAll [] args [.list .int] = true := (pre_splitW hpre).1
  have hc : l.pre.holds [] { args := args } = true := (pre_splitW hpre).2
  obtain ⟨d, r, rfl, h1, h2⟩ := hasAllW_cons hsh
  obtain rfl := hasAllW_nil h2
  obtain ⟨xs, rfl, h3⟩ := hasW_list h1
  obtain ⟨ns, rfl⟩ := items_int h3
  have hlen : ns.length ≤ n := by
    unfold OpenLaw.pre at hc
    have h4 : (WTm.not (.lt (.lit (.int (n : Int))) (.len (.arg 0)))).holds [] { args := [.list (ns.map .int)] } = true := by
      have h4 := (holds_andW hc).1
      rw [hn] at h4
      exact h4
    have h5 := condW_of h4 (w_not (w_lt w_lit (w_len_list (w_arg rfl))))
    rw [List.length_map] at h5
    refine Nat.le_of_not_lt fun q => ?_
    have q' : (n : Int) < ((ns.length : Nat) : Int) := by omega
    first
      | (rw [decide_eq_true q'] at h5; exact absurd h5 (by decide))
      | (simp at h5; omega)
  cases hwl with
  | cons w1 w2 =>
    cases w2
    cases w1 with
    | list ho hall => exact ⟨_, _, ns, rfl, rfl, ho, ints_of_wellAll ns _ hall, hlen⟩

theorem post_true (l : OpenLaw) (args : List WData) : l.row.toRowW.claim.post args (.bool true) args = true :=
  postW_of (r := l.row.toRowW) (X := (true == true))
    (show WShape.has [] (.bool true) .bool = true by first | rfl | decide | simp [WShape.has, WShape.arms, WShape.armsAll])
    (show (WTm.eq .res (.lit (.bool true))).value [] { args := args, res := some (.bool true), after := args } = some (.bool (true == true)) from w_eq_bool (w_res rfl) w_lit) rfl

/-! ### the attachment: holds_open's last premise (the goal 'hc' behind k_head) from a wpAny of the law's body -/
theorem attach {l : OpenLaw} {n : Nat} {q : Program} {loose : List Str} {XP : (Str → Option Value) → Heap → Prop} {YP : World → Heap → Prop} {d : DefRec} {x : Str}
    (hn : l.most = some n) (hdf : d.params.defaults = [])
    (hbind : ∀ pm cd doc v : Value, bindArgs (docDef d.name d.params d.body d.scope pm cd doc) ⟨[v], []⟩ = pure [(x, v)])
    (hx : d.scope.names.lookup x = some .local ∨ d.scope.names.lookup x = some .cell)
    (hk : d.scope.kind = .function) (hco : d.scope.isCoroutine = false) (hgen : d.scope.isGenerator = false)
    (body : ∀ (w : World) (s₀ s₁ s : Shared) (mg mb : Str → Option Value) (fa : Addr) (o : Obj) (pm cd doc : Value) (a : Addr) (vs : List Value) (ns : List Int),
      Ground q loose [] XP w s₀ mg mb s₁.heap → YP w s₁.heap →
      s₁.heap.get? fa = some o → o.data = .func (docDef d.name d.params d.body d.scope pm cd doc) → s₁.heap.CodeRec cd d.name → mg d.name = some (.ref fa) →
      s₁.heap.get? a = some { cls := .type "list", data := .seq vs.toArray } → IntsAre vs ns → ns.length ≤ n →
      s.gens = #[] → s.os = s₁.os →
      Fr s₁.heap s₁.heap.objs.size s.heap (bindL (envOfC d.name d.scope s₁.heap.objs.size fa cd).kindOf [(x, .ref a)] fun _ => none) →
      Cl s₁.heap.objs.size (cellsFrom (s₁.heap.objs.size + 1) d.scope.names []) s.heap (bindC (envOfC d.name d.scope s₁.heap.objs.size fa cd).kindOf [(x, .ref a)] fun _ => none) →
      wpAny (model l.prog w) (callerA.deeper (envOfC d.name d.scope s₁.heap.objs.size fa cd)) (execs d.body (envOfC d.name d.scope s₁.heap.objs.size fa cd))
        (fun f s' => f = .ret (.bool true) ∧ OldK s₁.heap s'.heap ∧ s'.os = s₁.os ∧ AllBare s'.gens) (fun _ _ => False) s) :
    WalkO q loose XP YP l.row.toRowW d [] (fun f vs => PySem.call f vs) := by
  intro w s₀ s₁ mg mb G Y fa o pm cd doc dV kV ho hd hcd hD hmg hg args vals as hpre hlay hrd hwl hlo
  obtain rfl : dV = .none := Dflts.none hD hdf
  obtain rfl : kV = .none := Dflts.noKw hD
  obtain ⟨a, vs, ns, rfl, rfl, hobj, hints, hlen⟩ := script_of hn hpre hwl
  refine enter_call ?_
  refine call_cells_ret (o := o) (by rw [depth_caller]; decide) ho (fd_plain hd) G.T.nolimit hcd (hbind pm cd doc (.ref a)) (fun y hy => ?_) (fun h₁ tk F X => ?_) hco hgen hk
  · obtain rfl : y = (x, Value.ref a) := List.mem_singleton.mp hy
    rcases hx with e | e
    · exact .inl e
    · exact .inr ⟨e, cellsFrom_some _ _ _ (.inl e)⟩
  · refine wpAny_mono (body w s₀ s₁ { s₁ with heap := h₁, toks := tk } mg mb fa o pm cd doc a vs ns G Y ho (fd_plain hd) hcd hmg hobj hints hlen hg rfl F X) (fun f s' hq => ?_) (fun _ _ hq => hq)
    obtain ⟨rfl, h2, h3, h4⟩ := hq
    exact ⟨.inl ⟨.bool true, .bool true, [], rfl, fun _ => rfl, .bool true, post_true l _, fun _ => ⟨List.Pairwise.nil, fun _ hm => (nomatch hm)⟩⟩, h2, h3, h4⟩

/-- the same from a codeAny of the CALL (for a layer whose function contracts speak of calls) -/
theorem attach_call {l : OpenLaw} {n : Nat} {q : Program} {loose : List Str} {XP : (Str → Option Value) → Heap → Prop} {YP : World → Heap → Prop} {d : DefRec}
    (hn : l.most = some n) (hdf : d.params.defaults = [])
    (call : ∀ (w : World) (s₀ s₁ : Shared) (mg mb : Str → Option Value) (fa : Addr) (o : Obj) (pm cd doc : Value) (a : Addr) (vs : List Value) (ns : List Int),
      Ground q loose [] XP w s₀ mg mb s₁.heap → YP w s₁.heap →
      s₁.heap.get? fa = some o → o.data = .func (docDef d.name d.params d.body d.scope pm cd doc) → s₁.heap.CodeRec cd d.name → mg d.name = some (.ref fa) →
      s₁.heap.get? a = some { cls := .type "list", data := .seq vs.toArray } → IntsAre vs ns → ns.length ≤ n → s₁.gens = #[] →
      codeAny (model l.prog w) callerA (.call (.ref fa) ⟨[.ref a], []⟩) (fun r s' => r = .ok (.ret (.bool true)) ∧ OldK s₁.heap s'.heap ∧ s'.os = s₁.os ∧ AllBare s'.gens) s₁) :
    WalkO q loose XP YP l.row.toRowW d [] (fun f vs => PySem.call f vs) := by
  intro w s₀ s₁ mg mb G Y fa o pm cd doc dV kV ho hd hcd hD hmg hg args vals as hpre hlay hrd hwl hlo
  obtain rfl : dV = .none := Dflts.none hD hdf
  obtain rfl : kV = .none := Dflts.noKw hD
  obtain ⟨a, vs, ns, rfl, rfl, hobj, hints, hlen⟩ := script_of hn hpre hwl
  refine enter_call (codeAny_mono (call w s₀ s₁ mg mb fa o pm cd doc a vs ns G Y ho (fd_plain hd) hcd hmg hobj hints hlen hg) fun r s' hq => ?_)
  obtain ⟨rfl, h2, h3, h4⟩ := hq
  exact ⟨.inl ⟨.bool true, .bool true, [], rfl, fun _ => rfl, .bool true, post_true l _, fun _ => ⟨List.Pairwise.nil, fun _ hm => (nomatch hm)⟩⟩, h2, h3, h4⟩

/-- the same where the top left finished generators (o_head chose holds_openN): nothing may have changed at all and no generator may be left -/
theorem attachN {l : OpenLaw} {n : Nat} {q : Program} {loose : List Str} {XP : (Str → Option Value) → Heap → Prop} {YP : World → Heap → Prop} {d : DefRec} {x : Str}
    (hn : l.most = some n) (hdf : d.params.defaults = [])
    (hbind : ∀ pm cd doc v : Value, bindArgs (docDef d.name d.params d.body d.scope pm cd doc) ⟨[v], []⟩ = pure [(x, v)])
    (hx : d.scope.names.lookup x = some .local ∨ d.scope.names.lookup x = some .cell)
    (hk : d.scope.kind = .function) (hco : d.scope.isCoroutine = false) (hgen : d.scope.isGenerator = false)
    (body : ∀ (w : World) (s₀ s₁ s : Shared) (mg mb : Str → Option Value) (fa : Addr) (o : Obj) (pm cd doc : Value) (a : Addr) (vs : List Value) (ns : List Int),
      Ground q loose [] XP w s₀ mg mb s₁.heap → YP w s₁.heap →
      s₁.heap.get? fa = some o → o.data = .func (docDef d.name d.params d.body d.scope pm cd doc) → s₁.heap.CodeRec cd d.name → mg d.name = some (.ref fa) →
      s₁.heap.get? a = some { cls := .type "list", data := .seq vs.toArray } → IntsAre vs ns → ns.length ≤ n →
      s.gens = #[] → s.os = s₁.os →
      Fr s₁.heap s₁.heap.objs.size s.heap (bindL (envOfC d.name d.scope s₁.heap.objs.size fa cd).kindOf [(x, .ref a)] fun _ => none) →
      Cl s₁.heap.objs.size (cellsFrom (s₁.heap.objs.size + 1) d.scope.names []) s.heap (bindC (envOfC d.name d.scope s₁.heap.objs.size fa cd).kindOf [(x, .ref a)] fun _ => none) →
      wpAny (model l.prog w) (callerA.deeper (envOfC d.name d.scope s₁.heap.objs.size fa cd)) (execs d.body (envOfC d.name d.scope s₁.heap.objs.size fa cd))
        (fun f s' => f = .ret (.bool true) ∧ (∀ b o, s₁.heap.get? b = some o → s'.heap.get? b = some o) ∧ s'.os = s₁.os ∧ s'.gens = #[]) (fun _ _ => False) s) :
    WalkN q loose XP YP l.row.toRowW d [] (fun f vs => PySem.call f vs) := by
  intro w s₀ s₁ mg mb G Y fa o pm cd doc dV kV ho hd hcd hD hmg hg args vals as hpre hlay hrd hwl hlo
  obtain rfl : dV = .none := Dflts.none hD hdf
  obtain rfl : kV = .none := Dflts.noKw hD
  obtain ⟨a, vs, ns, rfl, rfl, hobj, hints, hlen⟩ := script_of hn hpre hwl
  refine enter_callW ?_
  refine call_cells_ret (o := o) (by rw [depth_caller]; decide) ho (fd_plain hd) G.T.nolimit hcd (hbind pm cd doc (.ref a)) (fun y hy => ?_) (fun h₁ tk F X => ?_) hco hgen hk
  · obtain rfl : y = (x, Value.ref a) := List.mem_singleton.mp hy
    rcases hx with e | e
    · exact .inl e
    · exact .inr ⟨e, cellsFrom_some _ _ _ (.inl e)⟩
  · refine wpAny_mono (body w s₀ s₁ { s₁ with heap := h₁, toks := tk } mg mb fa o pm cd doc a vs ns G Y ho (fd_plain hd) hcd hmg hobj hints hlen hg rfl F X) (fun f s' hq => ?_) (fun _ _ hq => hq)
    obtain ⟨rfl, h2, h3, h4⟩ := hq
    exact ⟨.inl ⟨.bool true, .bool true, [], rfl, fun _ => rfl, .bool true, post_true l _, fun _ => ⟨List.Pairwise.nil, fun _ hm => (nomatch hm)⟩⟩, h2, h3, h4⟩

/-! ### rules over ANY heap (no ledger) from facts about the written part K: the library's own take a ledger (News) for what they write -/
section
variable {prog : Program} {w : World} {A : Around} {E : Value → Shared → Prop} {s : Shared} {K : Frag}

/-- a def of the module, or a method (qual 'C.m'), entered: the frame is the next address; cells behind it -/
theorem call_fn {R : Result → Shared → Prop} {name qual : Str} {params : Arguments} {body : List Stmt} {scope : Scope} {dV kV doc pm cdv ct oc : Value} {an od : Option Addr} {osl : Array (Option Value)} {f : Addr} {args : Args} {binds : List (Str × Value)}
    (X : K.In s.heap) (hlim : s.heap.NoLimit) (ho : K.lookup f = some ⟨oc, od, .func (fnOf name qual params body scope dV kV doc pm an cdv ct), osl⟩) (hcd : codeIn K cdv qual = true) (hroom : A.depth < recursionLimit)
    (hbind : BindsTo s (fnOf name qual params body scope dV kV doc pm an cdv ct) args binds)
    (hkind : (binds.all fun y => scope.names.lookup y.1 == some .local || scope.names.lookup y.1 == some .cell) = true)
    (h : ∀ s₁, InCallC s s.heap.objs.size (bindL (envOfC qual scope s.heap.objs.size f cdv).kindOf binds fun _ => none) (cellsFrom (s.heap.objs.size + 1) scope.names [])
        (bindC (envOfC qual scope s.heap.objs.size f cdv).kindOf binds fun _ => none) s₁ →
      wpAny (model prog w) (A.deeper (envOfC qual scope s.heap.objs.size f cdv)) (execs body (envOfC qual scope s.heap.objs.size f cdv))
        (fun fl s' => R (.ok (.ret (match fl with | .ret v => v | _ => .none))) s')
        (fun e s' => wpAny (model prog w) (A.deeper (envOfC qual scope s.heap.objs.size f cdv)) (leaving (envOfC qual scope s.heap.objs.size f cdv) e) (fun _ s'' => R (.error e) s'') (fun e' s'' => R (.error e') s'') s') s₁)
    (hco : scope.isCoroutine = false) (hgen : scope.isGenerator = false) (hk : scope.kind = .function) : codeAny (model prog w) A (.call (.ref f) args) R s := by
  refine codeAny_call_function hroom (X _ _ ho) rfl hco hgen rfl (codeRec_of X hcd) (hbind _ _ _ _ ?_)
  refine wpAny_newFunctionEnv_cells hk (kindsX hkind _) fun env he s₁ x => ?_
  subst he
  exact ⟨hlim.keeps x.toInCall.keep, codeAny_func (h s₁ x)⟩

/-- C(..): dict at size, instance at size + 1, then __init__ -/
theorem make_obj {R : Result → Shared → Prop} {C fI : Addr} {rest : List Value} {kw : List (Str × Value)}
    (X : K.In s.heap) (hm : makesIn K C = true) (hi : findIn K (.ref C) "__init__" = some (some (.ref fI))) (hf : isFn K (.ref fI) = true)
    (h : codeAny (model prog w) (A.under (.builtin "type.__call__" ⟨.ref C :: rest, kw⟩)) (.call (.ref fI) ⟨.ref (s.heap.objs.size + 1) :: rest, kw⟩) (InitBack (s.heap.objs.size + 1) R)
      { s with heap := (s.heap.push emptyDict).push (instObj C s.heap.objs.size) }) : codeAny (model prog w) A (.call (.ref C) ⟨rest, kw⟩) R s := by
  obtain ⟨hh, g, d, t, os⟩ := s
  exact make_core (makes_of X hm) (looks_findIn X hi) (fun self => bind_fn X self (beq_iff_eq.mp hf)) (.inl rfl) h

/-- x.name where the instance's dict holds the name and the class does not -/
theorem get_field {x C : Addr} {ox : Obj} {es : List DictEntry} {n : Nat} {name : Str} {expr : Bool} {v : Value} {Q : Value → Shared → Prop}
    (X : K.In s.heap) (I : PySem.W.InstAt s.heap x ox C (some (dictOf es n))) (hg : plainGet K C name = true) (hh : hasDictIn K C = true) (ha : findIn K (.ref C) name = some none)
    (hl : getL name es = some (some v)) (hv : handedIn v = true) (h : Q v { s with toks := s.toks + 1 }) : wpAny (model prog w) A (getAttr (.ref x) name expr) Q E s :=
  get_value X I (plainGet_of hg).1 (findObj_own hh ha rfl hl) hv h

/-- x.m(..): the method found in the class -/
theorem get_method {x C f : Addr} {ox : Obj} {es : List DictEntry} {n : Nat} {name : Str} {pl : Sem Bool} {Q : Value × List Value → Shared → Prop}
    (X : K.In s.heap) (I : PySem.W.InstAt s.heap x ox C (some (dictOf es n))) (hg : plainGet K C name = true) (hf : findIn K (.ref C) name = some (some (.ref f))) (ht : isFn K (.ref f) = true)
    (hl : getL name es = some none) (h : Q (.ref f, [.ref x]) s) : wpAny (model prog w) A (getMethod (.ref x) name pl) Q E s :=
  method_fn X I (plainGet_of hg).1 (plainGet_of hg).2 hf (beq_iff_eq.mp ht) (by show (lookIn name (dictOf es n)).map _ = _; rw [lookIn_dict, hl]; rfl) h

/-! the whole heap as the ledger: makes every rule that writes through a ledger a rule over any heap -/
def noObjs (h : Heap) : Heap := { h with objs := #[] }
theorem noObjs_get (h : Heap) (b : Addr) : (noObjs h).get? b = none := by
  cases e : (noObjs h).get? b with
  | none => rfl
  | some o => exact absurd (Heap.lt_size e) (Nat.not_lt_zero _)
def ledger (h : Heap) (L d : Addr) : List (Addr × Obj) := (List.range h.objs.size).filterMap fun a => if a = L ∨ a = d then none else (h.get? a).map fun o => (a, o)
theorem mem_ledger {h : Heap} {L d a : Addr} {o : Obj} : (a, o) ∈ ledger h L d ↔ a ≠ L ∧ a ≠ d ∧ h.get? a = some o := by
  unfold ledger
  rw [List.mem_filterMap]
  constructor
  · rintro ⟨b, _, e⟩
    split at e
    · cases e
    · rename_i hb
      obtain ⟨o', ho, e'⟩ := Option.map_eq_some_iff.mp e
      cases e'
      exact ⟨fun q => hb (.inl q), fun q => hb (.inr q), ho⟩
  · rintro ⟨n1, n2, ho⟩
    refine ⟨a, List.mem_range.mpr (Heap.lt_size ho), ?_⟩
    rw [if_neg (show ¬ (a = L ∨ a = d) from fun q => q.elim n1 n2), ho] <;> rfl
theorem news_ledger {h : Heap} {L d : Addr} {od : Obj} (hne : d ≠ L) (ho : h.get? d = some od) : News (noObjs h) L h ([] ++ (d, od) :: ledger h L d) := by
  rintro ⟨a, o⟩ hp
  rcases List.mem_cons.mp hp with e | hp
  · cases e
    exact ⟨ho, hne, noObjs_get _ _⟩
  · obtain ⟨n1, n2, e⟩ := mem_ledger.mp hp
    exact ⟨e, n1, noObjs_get _ _⟩
theorem fr_all {h : Heap} {L : Addr} {m : Str → Option Value} (n : h.Ns L m) : Fr (noObjs h) L h m :=
  ⟨n, fun b o e => (by rw [noObjs_get] at e; cases e), Nat.zero_le _⟩
/-- Upd of the head entry (for append_K, setItem_K ..) -/
theorem upd_ledger {h : Heap} {L d : Addr} {o o' : Obj} : Upd d o o' ((d, o) :: ledger h L d) ((d, o') :: ledger h L d) :=
  .head fun ⟨_, _⟩ hp => (mem_ledger.mp hp).2.1

/-- x.name = v over any heap: L is any namespace of the heap (the frame's, say): its map stays, its object is not told; all else but the dict stays -/
theorem set_field {x C dx L : Addr} {ox : Obj} {m : Str → Option Value} {es es' : List DictEntry} {n n' : Nat} {name : Str} {v : Value} {Q : Unit → Shared → Prop}
    (X : K.In s.heap) (I : PySem.W.InstAt s.heap x ox C (some (dictOf es n))) (hd : ox.dict = some dx) (hL : s.heap.Ns L m) (hne : dx ≠ L)
    (hs : findIn K (.ref C) "__setattr__" = some (some (.builtin "object.__setattr__"))) (hp : plainOver K C = true) (ht : takerIn K C name = some none) (hh : hasDictIn K C = true) (hl : (getL name es).isSome = true)
    (e : (putL name (PyData.keyHash w.params name) (.str name (s.toks + 1)) v es, putN name es n) = (es', n')) (hz : es'.length ≤ 1000)
    (h : ∀ h' : Heap, h'.Ns L m → h'.get? dx = some (dictOf es' n') → (∀ b o, b ≠ dx → b ≠ L → s.heap.get? b = some o → h'.get? b = some o) → Q () { s with heap := h', toks := s.toks + 2 }) :
    wpAny (model prog w) A (setAttr (.ref x) name v) Q E s := by
  obtain ⟨e1, e2⟩ := Prod.mk.inj e
  have hdx : s.heap.get? dx = some (dictOf es n) := by
    have := I.dict
    rw [hd] at this
    exact this
  refine set_plain X I hs (osa_dict (s := { s with toks := s.toks + 1 }) (h₀ := noObjs s.heap) (L := L) (m := m) (od := dictOf es n) (od' := dictOf es' n') (es := es') (n := n') (pre := []) (post := ledger s.heap L dx)
    (fr_all hL) (news_ledger hne hdx) X I hd hp ht hh hl (fun _ q => nomatch q) (fun ⟨_, _⟩ q => (mem_ledger.mp q).2.1) (by rw [putName_dict, e1, e2]) rfl hz fun h' F' N' => ?_)
  exact h h' F'.ns (N'.get (List.Mem.head _)) fun b o n1 n2 ho => N'.get (List.Mem.tail _ (mem_ledger.mpr ⟨n2, n1, ho⟩))
end
end Att

namespace L2
open PySem PySem.Spec PyProof.Rows

theorem vals_ints : ∀ {vs : List Value} {ns : List Int}, IntsAre vs ns → Vals (ns.map V.int) vs
  | _, _, .nil => .nil
  | _, _, .cons n t h => .cons ⟨t, rfl⟩ (vals_ints h)

/-- nothing is tracked but the script, known to the object (or it is an object of the module) -/
def Only (H : Hp) : Prop := ∀ b, H b = none ∨ ∃ o xs, H b = some (.frz o (.lst xs))

/-- THE HEAD: the law's promise, at the heap behind the top. F, the promise of the law's def, may use that base is part of the heap (so K.In base, base.Ns mainGlobals mg stand in Mod) -/
theorem law_call {P : Program} {w : World} {K : PySem.W.Frag} {mg mb : Str → Option Value} {CX : CXT} {k : Nat} {fa a : Addr} {fd : FuncData} {x : Str} {sp : Sp} {s₁ : Shared} {vs : List Value} {ns : List Int}
    (KX : K.In s₁.heap) (hns : s₁.heap.Ns mainGlobals mg) (hb : s₁.heap.Ns builtinsNs mb) (hbb : ∀ x : Str, x ≠ "__name__" → mb x = bootBuiltins x) (hlim : s₁.heap.NoLimit) (hg : s₁.gens = #[])
    (ha : s₁.heap.get? a = some { cls := .type "list", data := .seq vs.toArray }) (hi : IntsAre vs ns) (hl : ns.length ≤ sizeLine) (hr : Room k callerA)
    (F : ∀ base : Heap, K.In base → base.Ns mainGlobals mg → FnOk P w K mg base CX k fa fd [x] sp) (hbind : ∀ (s : Shared) (u : Value), BindsTo s fd ⟨[u], []⟩ [(x, u)])
    (hsp : ∀ H : Hp, Only H → SqL K H a (ns.map V.int) → sp [.ref a] H (fun v _ => v = .bl true) fun _ _ _ => False)
    (hCX : ∀ H e s', CX [] H s₁ (fun _ _ _ => False) e s' → False) :
    codeAny (model P w) callerA (.call (.ref fa) ⟨[.ref a], []⟩) (fun r s' => r = .ok (.ret (.bool true)) ∧ OldK s₁.heap s'.heap ∧ s'.os = s₁.os ∧ AllBare s'.gens) s₁ := by
  have rv := vals_ints hi
  have lenV := hi.length
  -- from an abstract heap in which nothing but the script may be tracked
  have core : ∀ H : Hp, Only H → SqL K H a (ns.map V.int) → HOk P w H s₁.heap → (∀ b, H b ≠ none → b = a) → (H a ≠ none → K.lookup a = none) →
      codeAny (model P w) callerA (.call (.ref fa) ⟨[.ref a], []⟩) (fun r s' => r = .ok (.ret (.bool true)) ∧ OldK s₁.heap s'.heap ∧ s'.os = s₁.os ∧ AllBare s'.gens) s₁ := by
    intro H hO hS hok hA hK
    have base_of : ∀ {b : Addr} {o : Obj}, s₁.heap.get? b = some o → H b = none → (hidT s₁.heap H).get? b = some o := fun e n => hidT_get e n
    have noA : ∀ {b : Addr} {o : Obj} {es : Array DictEntry} {ep : Nat}, s₁.heap.get? b = some o → o.data = .dict es ep → H b = none := fun {b o es ep} e d => by
      cases q : H b with
      | none => rfl
      | some u =>
        have e' : b = a := hA b (by rw [q]; simp)
        subst e'
        rw [ha] at e; cases e
        have d' : Data.seq vs.toArray _ = Data.dict es ep := d
        cases d'
    have nsK : ∀ {b : Addr} {m : Str → Option Value}, s₁.heap.Ns b m → (hidT s₁.heap H).Ns b m := fun {b m} ⟨o, es, ep, e, d, r⟩ => ⟨o, es, ep, base_of e (noA e d), d, r⟩
    have hKb : K.In (hidT s₁.heap H) := fun b o e => base_of (KX b o e) (by
      cases q : H b with
      | none => rfl
      | some u =>
        have e' : b = a := hA b (by rw [q]; simp)
        subst e'
        rw [hK (by rw [q]; simp)] at e; cases e)
    have hM : Mod K mg (hidT s₁.heap H) := ⟨hKb, nsK hns, ⟨mb, nsK hb, hbb⟩, let ⟨mc, h1, h2⟩ := hlim; ⟨mc, nsK h1, h2⟩⟩
    have e0 : Env0 P w K mg (hidT s₁.heap H) callerA [] s₁ H := ⟨rfl, hM, fun b o e => of_hidT e, Nat.le_of_eq (hidT_size _ _), trivial, fun b hb => absurd (show b ∈ ([] : List Addr) from hb) (by simp), hok, .of_eq hg⟩
    refine codeAny_mono ((F _ hKb (nsK hns)).run callerA [] s₁ H ⟨[.ref a], []⟩ [.ref a] [.ref a] _ _ hr e0 (hbind s₁ (.ref a)) (.cons rfl .nil) (hsp H hO hS)) fun r s' h => ?_
    cases r with
    | error e => exact (hCX H e s' h).elim
    | ok fl =>
      cases fl with
      | next => exact False.elim h
      | brk => exact False.elim h
      | cont => exact False.elim h
      | ret u =>
        obtain ⟨v, H', os, bare, un, hok', r', q⟩ := h
        have q' : v = .bl true := q
        subst q'
        obtain rfl : u = Value.bool true := r'
        refine ⟨rfl, OldK.of_keep fun b o e => ?_, os, bare⟩
        cases q : H b with
        | none => exact un.keep b o e q (by intro z; exact absurd (show b ∈ ([] : List Addr) from z) (by simp)) (by simp)
        | some u =>
          rcases hO b with z | ⟨ob, xs, z⟩
          · rw [q] at z; cases z
          · have z2 := un.frzs b ob _ z
            obtain ⟨e1, _⟩ := hok b _ z
            obtain ⟨e2, _⟩ := hok' b _ z2
            rw [e] at e1; cases e1
            exact e2
  cases hk : K.lookup a with
  | some o =>
    -- the script is one of the module's own objects
    have e := KX a o hk
    rw [ha] at e
    cases e
    refine core (fun _ => none) (fun _ => .inl rfl) (.inr ⟨_, vs.toArray, _, hk, rfl, rfl, rfl, by rw [List.size_toArray, lenV]; exact hl, by simpa using rv⟩) (fun b u z => by have z' : (none : Option HO) = some u := z; cases z') (fun b z => absurd rfl z) fun z => absurd rfl z
  | none =>
    refine core (fun b => if b = a then some (.frz { cls := .type "list", data := .seq vs.toArray } (.lst (ns.map V.int))) else none) (fun b => ?_) (.inl (.inr ⟨{ cls := .type "list", data := .seq vs.toArray }, if_pos rfl⟩)) (fun b u z => ?_) (fun b z => ?_) fun _ => hk
    · by_cases hb : b = a
      · exact .inr ⟨_, _, if_pos hb⟩
      · exact .inl (if_neg hb)
    · by_cases hb : b = a
      · have z' := (if_pos hb).symm.trans z
        cases z'
        subst hb
        exact ⟨ha, by rw [List.length_map]; exact hl, vs, _, rv, ha⟩
      · have z' := (if_neg hb).symm.trans z
        cases z'
    · by_cases hb : b = a
      · exact hb
      · exact absurd (if_neg hb) z
end L2

namespace L2
open PySem PySem.Spec PyProof.Rows

abbrev KOf {K : PySem.W.Frag} {h : Heap} (_ : K.In h) : PySem.W.Frag := K

/-- the goal that k_head leaves (case hc), from the law's promise. F gives the function object fd (K's own) once, then the promise over every base -/
theorem walk_of {l : PySem.W.OpenLaw} {n k : Nat} {q : Program} {loose : List Str} {XP : (Str → Option Value) → Heap → Prop} {YP : World → Heap → Prop} {d : DefRec} {K : Params → PySem.W.Frag} {CX : World → CXT} {sp : World → Sp} {x : Str}
    (hn : l.most = some n) (hn2 : n ≤ sizeLine) (hdf : d.params.defaults = []) (hr : Room k callerA)
    (hY : ∀ (w : World) (h : Heap), YP w h → (K w.params).In h)
    (F : ∀ (w : World) (mg : Str → Option Value) (fa : Addr) (h : Heap), (K w.params).In h → h.Ns mainGlobals mg → mg d.name = some (.ref fa) →
      ∃ fd : FuncData, (∀ (s : Shared) (u : Value), BindsTo s fd ⟨[u], []⟩ [(x, u)]) ∧
        ∀ base : Heap, (K w.params).In base → base.Ns mainGlobals mg → FnOk l.prog w (K w.params) mg base (CX w) k fa fd [x] (sp w))
    (hsp : ∀ (w : World) (H : Hp) (a : Addr) (ns : List Int), ns.length ≤ n → Only H → SqL (K w.params) H a (ns.map V.int) → sp w [.ref a] H (fun v _ => v = .bl true) fun _ _ _ => False)
    (hCX : ∀ (w : World) (H : Hp) (s : Shared) (e : Value) (s' : Shared), CX w [] H s (fun _ _ _ => False) e s' → False) :
    PySem.W.WalkO q loose XP YP l.row.toRowW d [] (fun f vs => PySem.call f vs) := by
  refine Att.attach_call hn hdf fun w s₀ s₁ mg mb fa o pm cd doc a vs ns G Y ho hd hcd hmg hobj hints hlen hg => ?_
  have KX := hY w _ Y
  obtain ⟨fd, hb, hF⟩ := F w mg fa _ KX G.T.g hmg
  exact law_call KX G.T.g G.T.b G.T.builtins G.T.nolimit hg hobj hints (Nat.le_trans hlen hn2) hr hF hb (fun H hO hS => hsp w H a ns hlen hO hS) fun H e s' => hCX w H s₁ e s'
/-- the same where the promise hangs on the written part alone: (sp := My.sp_law), no hole under a binder -/
theorem walk_ofK {l : PySem.W.OpenLaw} {n k : Nat} {q : Program} {loose : List Str} {XP : (Str → Option Value) → Heap → Prop} {YP : World → Heap → Prop} {d : DefRec} {K : Params → PySem.W.Frag} {CX : CXT} {sp : PySem.W.Frag → Sp} {x : Str}
    (hn : l.most = some n) (hn2 : n ≤ sizeLine) (hdf : d.params.defaults = []) (hr : Room k callerA)
    (hY : ∀ (w : World) (h : Heap), YP w h → (K w.params).In h)
    (F : ∀ (w : World) (mg : Str → Option Value) (fa : Addr) (h : Heap), (K w.params).In h → h.Ns mainGlobals mg → mg d.name = some (.ref fa) →
      ∃ fd : FuncData, (∀ (s : Shared) (u : Value), BindsTo s fd ⟨[u], []⟩ [(x, u)]) ∧
        ∀ base : Heap, (K w.params).In base → base.Ns mainGlobals mg → FnOk l.prog w (K w.params) mg base CX k fa fd [x] (sp (K w.params)))
    (hsp : ∀ (K : PySem.W.Frag) (H : Hp) (a : Addr) (ns : List Int), ns.length ≤ n → Only H → SqL K H a (ns.map V.int) → sp K [.ref a] H (fun v _ => v = .bl true) fun _ _ _ => False)
    (hCX : ∀ (H : Hp) (s : Shared) (e : Value) (s' : Shared), CX [] H s (fun _ _ _ => False) e s' → False) :
    PySem.W.WalkO q loose XP YP l.row.toRowW d [] (fun f vs => PySem.call f vs) :=
  walk_of (K := K) (CX := fun _ => CX) (sp := fun w => sp (K w.params)) hn hn2 hdf hr hY F (fun w H a ns h1 h2 h3 => hsp (K w.params) H a ns h1 h2 h3) fun _ H s e s' => hCX H s e s'
end L2

/- THE LAST THEOREM (shape; LID, My.* are yours):
   My.Adr: a structure of the addresses that your layer names (classes, functions); My.Txt K t: a structure (Prop) of the equations over K;
   My.txt_mk : {K} {implicit addresses ..} (e1 : nsIn K mainGlobals "law" = some (some (.ref f))) (e2 : K.lookup f = some ⟨oc, od, .func (fnOf "law" "law" params body scope dV kV doc pm an cdv ct), sl⟩) (e3 : codeIn K cdv "law" = true) .. : ∃ t, My.Txt K t

set_option maxRecDepth 100000 in
set_option maxHeartbeats 0 in
theorem PySem.Challenge.cw_LID_holds : PySem.Challenge.rw_LID.Holds := by
  w_on; o_law; k_head; (case hw => w_witness2)
  k_fill
  refine L2.walk_of (l := PySem.Challenge.rw_LID) (n := 63) (k := 40) (x := "script") (CX := fun w => ..) (sp := fun _ => My.sp_law) rfl (by decide) rfl ⟨rfl, by decide, by decide⟩ (fun w h Y => PySem.W.kIn_of Y) ?F ?S ?C
  case F =>
    intro w mg fa h KX G hmg
    have T : ∃ t, My.Txt (L2.KOf KX) t := by
      dsimp only [L2.KOf]                          -- K must stand as «<heap const> w.params» for k_is
      refine' My.txt_mk ?e1 ?e2 ?e3 ..
      (case e1 => PySem.W.k_is)                    -- in the order: a name -> its address -> its object -> its parts
      (case e2 => PySem.W.k_is)
      ..
    obtain ⟨t, T⟩ := T
    have e0 := hmg.symm.trans (PySem.W.mg_of KX G T.law)
    cases e0                                       -- fa is the law's own address
    exact ⟨_, fun s u => .of_eq rfl, fun base kb nb => My.law_fn T kb nb⟩     -- if «.of_eq rfl» comes too early: refine' ⟨_, ?b, fun base kb nb => My.law_fn T kb nb⟩; exact fun s u => .of_eq rfl
  case S => exact fun w H a ns hl hO hS => ..
  case C => exact ..
(the tactic k_is has no namespace: write k_is) -/

/-! SHORT WORDS over the layer: a def of the text, its body, what a loop and a test want. -/
namespace L2
open PySem PySem.Spec PyProof.Rows

/-! ### the text by places -/
/-- the j-th statement of a class's body -/
def inClass (s : Stmt) (j : Nat) : Stmt := match s with
  | .ClassDef _ _ _ body _ _ _ _ _ _ _ => body.getD j (.Pass ⟨0, 0, 0, 0⟩)
  | _ => .Pass ⟨0, 0, 0, 0⟩
def defArgs (s : Stmt) : Arguments := match s with
  | .FunctionDef _ a _ _ _ _ _ _ _ _ => a
  | _ => { posonlyargs := [], args := [], vararg := none, kwonlyargs := [], kw_defaults := [], kwarg := none, defaults := [] }
def defBody (s : Stmt) : List Stmt := match s with
  | .FunctionDef _ _ b _ _ _ _ _ _ _ => b
  | _ => []
def defScope (s : Stmt) : Scope := match s with
  | .FunctionDef _ _ _ _ _ _ sc _ _ _ => sc
  | _ => { kind := .function, names := [], isGenerator := false, isCoroutine := false }

/-! ### no exception leaves a def -/
abbrev CX0 : CXT := fun _ _ _ _ _ _ => False
abbrev E0 : XK := fun _ _ _ => False
theorem pass0 {X : Cx} : Passes CX0 X E0 := fun _ _ _ _ _ _ _ h => h.elim

/-! ### a def (or method) of the text as it stands behind the top -/
structure Fun (K : PySem.W.Frag) (x qual : Str) (st : Stmt) (f : Addr) (fd : FuncData) : Prop where
  ex : ∃ (oc : Value) (od : Option Addr) (kV doc pm : Value) (an : Option Addr) (cdv ct : Value) (osl : Array (Option Value)),
    fd = PySem.W.fnOf x qual (defArgs st) (defBody st) (defScope st) .none kV doc pm an cdv ct ∧ K.lookup f = some ⟨oc, od, .func fd, osl⟩ ∧ PySem.W.codeIn K cdv qual = true
  kp : PySem.W.keepIn K (.ref f) = true
section
variable {P : Program} {w : World} {K : PySem.W.Frag} {mg : Str → Option Value} {base : Heap}
/-- THE RULE for a def: its body as a term of rules, and the reading of that term -/
theorem Fun.ok {x qual : Str} {st : Stmt} {f : Addr} {fd : FuncData} {N ps : List Str} {k : Nat} {sp : Sp} (F : Fun K x qual st f fd) (S : FnScope N ps (defScope st)) (len : ∀ vs H Q E, sp vs H Q E → vs.length = ps.length)
    (hbody : ∀ (cdv : Value) (A : Around) (outer : List Env) (s : Shared) (H : Hp) (vs : List V) (Q : VK) (E : XK), Room k (A.deeper (envOfC qual (defScope st) s.heap.objs.size f cdv)) → sp vs H Q E →
      ∃ t, PSs (cxOf CX0 P w K mg base N qual (defScope st) f cdv A outer s H E).nox (defBody st) t ∧ t { nx := fun _ H' => Q .non H', rt := Q } (start N vs) H) : FnOk P w K mg base CX0 (k + 1) f fd ps sp := by
  obtain ⟨oc, od, kV, doc, pm, an, cdv, ct, osl, rfl, lk, hcd⟩ := F.ex
  refine fn_of lk hcd S len fun A outer s H vs Q E hr hsp => ?_
  obtain ⟨t, h, q⟩ := hbody cdv A outer s H vs Q E hr hsp
  exact ⟨t, h.nox, q⟩
/-- how its arguments bind (no defaults): h is «fun _ _ _ _ _ _ us hl => match us, hl with | [_, _], _ => rfl», one _ a parameter -/
theorem Fun.binds {x qual : Str} {st : Stmt} {f : Addr} {fd : FuncData} {ps : List Str} (F : Fun K x qual st f fd)
    (h : ∀ (kV doc pm : Value) (an : Option Addr) (cdv ct : Value) (us : List Value), us.length = ps.length → bindArgs (PySem.W.fnOf x qual (defArgs st) (defBody st) (defScope st) .none kV doc pm an cdv ct) ⟨us, []⟩ = pure (ps.zip us)) : Binds K fd ps [] := by
  obtain ⟨oc, od, kV, doc, pm, an, cdv, ct, osl, rfl, lk, hcd⟩ := F.ex
  exact .all (h kV doc pm an cdv ct)
theorem fun_mk {x qual : Str} {st : Stmt} {f : Addr} {oc : Value} {od an : Option Addr} {osl : Array (Option Value)} {kV doc pm cdv ct : Value} (l : K.lookup f = some ⟨oc, od, .func (PySem.W.fnOf x qual (defArgs st) (defBody st) (defScope st) .none kV doc pm an cdv ct), osl⟩)
    (c : PySem.W.codeIn K cdv qual = true) (k : PySem.W.keepIn K (.ref f) = true) : Fun K x qual st f (PySem.W.fnOf x qual (defArgs st) (defBody st) (defScope st) .none kV doc pm an cdv ct) := ⟨⟨oc, od, kV, doc, pm, an, cdv, ct, osl, rfl, l, c⟩, k⟩
end
theorem hu_of {A : Around} {k : Nat} (hr : Room k A) : A.units + 1 < cLine := Nat.lt_of_le_of_lt (Nat.add_le_add_left (by decide : 1 ≤ 64) _) hr.units
theorem small1000 {n : Nat} (h : n ≤ 1000) : n < sizeLine := Nat.lt_of_le_of_lt h (by decide)

/-! ### expressions in short: the name that stands in the i-th slot -/
section
variable {X : Cx}
theorem pv (i : Nat) {x : Str} {pos : Pos} (hN : X.N[i]? = some x := by rfl) (hv : Vis X.env.scope x := by first | exact Or.inl rfl | exact Or.inr (Or.inl rfl) | exact Or.inr (Or.inr rfl)) (hd : (x == ("__debug__" : Str)) = false := by decide)
    (hcd : (x == ("__classdict__" : Str)) = false := by decide) : PE X (.Name x pos) (tVar i) := pe_var hN hv hd hcd
end

/-! ### tests -/
theorem iteF {A B : Prop} (h : B) : if false = true then A else B := by
  rw [if_neg Bool.false_ne_true]
  exact h
theorem iteT {A B : Prop} (h : A) : if true = true then A else B := by
  rw [if_pos rfl]
  exact h
theorem ite2 {c A B : Prop} [Decidable c] (h1 : c → A) (h2 : ¬ c → B) : if c then A else B := by
  by_cases h : c
  · rw [if_pos h]
    exact h1 h
  · rw [if_neg h]
    exact h2 h
theorem iteNS {c A B : Prop} [Decidable c] (hc : c) (h : B) : if (!decide c) = true then A else B := by
  rw [decide_eq_true hc]
  exact iteF h

/-! ### heaps -/
/-- all that was tracked is as it was -/
def Same (H H' : Hp) : Prop := ∀ b o, H b = some o → H' b = some o
theorem Same.refl (H : Hp) : Same H H := fun _ _ h => h
theorem Same.trans {H H1 H2 : Hp} (a : Same H H1) (b : Same H1 H2) : Same H H2 := fun c o h => b c o (a c o h)
theorem Same.free {H H' : Hp} (e : Same H H') {l : Addr} (h : H' l = Option.none) : H l = Option.none := by
  cases q : H l with
  | none => rfl
  | some o =>
    rw [e l o q] at h
    cases h
theorem Same.seq {K : PySem.W.Frag} {H H' : Hp} {a : Addr} {xs : List V} (e : Same H H') (h : SqL K H a xs) : SqL K H' a xs := by
  rcases h with (h | ⟨o, h⟩) | h
  · exact .inl (.inl (e _ _ h))
  · exact .inl (.inr ⟨o, e _ _ h⟩)
  · exact .inr h

end L2
end
section
set_option Elab.async false
set_option linter.all false
set_option maxRecDepth 100000
set_option maxHeartbeats 4000000
namespace R
open PySem PySem.Spec PyProof.Rows L2

abbrev St := L2.St
/-! ### data, answers -/
inductive D where
  | non | bl (b : Bool) | int (i : Int) | str (x : Str) | tup (xs : List D) | lst (xs : List D)
inductive Res (α : Type) where
  | ok (a : α) | ex (c : Nat) | bad
def Res.bind {α β : Type} (r : Res α) (f : α → Res β) : Res β := match r with
  | .ok a => f a
  | .ex c => .ex c
  | .bad => .bad
theorem ok_bind {α β : Type} (a : α) (f : α → Res β) : (Res.ok a).bind f = f a := rfl
theorem ex_bind {α β : Type} (c : Nat) (f : α → Res β) : (Res.ex c : Res α).bind f = .ex c := rfl
theorem bad_bind {α β : Type} (f : α → Res β) : (Res.bad : Res α).bind f = .bad := rfl

/-! ### data in an abstract heap -/
mutual
def Dat (K : PySem.W.Frag) (F : Hp) : D → V → Prop
  | .non, v => v = .non
  | .bl b, v => v = .bl b
  | .int i, v => v = .int i
  | .str x, v => v = .str x ∧ x.length ≤ sizeLine
  | .tup ds, v => ∃ a xs, v = .ref a ∧ SqT K F a xs ∧ DatL K F ds xs
  | .lst ds, v => ∃ a xs, v = .ref a ∧ SqL K F a xs ∧ DatL K F ds xs
def DatL (K : PySem.W.Frag) (F : Hp) : List D → List V → Prop
  | [], xs => xs = []
  | d :: ds, xs => ∃ x r, xs = x :: r ∧ Dat K F d x ∧ DatL K F ds r
end
theorem Same.seqT {K : PySem.W.Frag} {H H' : Hp} {a : Addr} {xs : List V} (e : Same H H') (h : SqT K H a xs) : SqT K H' a xs := by
  rcases h with (h | ⟨o, h⟩) | h
  · exact .inl (.inl (e _ _ h))
  · exact .inl (.inr ⟨o, e _ _ h⟩)
  · exact .inr h
mutual
theorem Dat.mono {K : PySem.W.Frag} {F F' : Hp} (e : Same F F') : ∀ {d : D} {v : V}, Dat K F d v → Dat K F' d v
  | .non, _, h => by simp only [Dat] at h ⊢; exact h
  | .bl _, _, h => by simp only [Dat] at h ⊢; exact h
  | .int _, _, h => by simp only [Dat] at h ⊢; exact h
  | .str _, _, h => by simp only [Dat] at h ⊢; exact h
  | .tup ds, _, h => by
    simp only [Dat] at h ⊢
    obtain ⟨a, xs, h1, h2, h3⟩ := h
    exact ⟨a, xs, h1, Same.seqT e h2, DatL.mono e h3⟩
  | .lst ds, _, h => by
    simp only [Dat] at h ⊢
    obtain ⟨a, xs, h1, h2, h3⟩ := h
    exact ⟨a, xs, h1, Same.seq e h2, DatL.mono e h3⟩
theorem DatL.mono {K : PySem.W.Frag} {F F' : Hp} (e : Same F F') : ∀ {ds : List D} {xs : List V}, DatL K F ds xs → DatL K F' ds xs
  | [], _, h => by simp only [DatL] at h ⊢; exact h
  | d :: ds, _, h => by
    simp only [DatL] at h ⊢
    obtain ⟨x, r, h1, h2, h3⟩ := h
    exact ⟨x, r, h1, Dat.mono e h2, DatL.mono e h3⟩
end
section
variable {K : PySem.W.Frag} {F : Hp}
theorem DatL.nil : DatL K F [] [] := by simp only [DatL]
theorem DatL.cons {d : D} {ds : List D} {x : V} {xs : List V} (h : Dat K F d x) (t : DatL K F ds xs) : DatL K F (d :: ds) (x :: xs) := by
  simp only [DatL]; exact ⟨x, xs, rfl, h, t⟩
theorem DatL.paired : ∀ {ds : List D} {xs : List V}, DatL K F ds xs → Paired (Dat K F) ds xs
  | [], _, h => by simp only [DatL] at h; subst h; exact .nil
  | d :: ds, _, h => by
    simp only [DatL] at h
    obtain ⟨x, r, rfl, h2, h3⟩ := h
    exact .cons h2 (DatL.paired h3)
theorem DatL.of : ∀ {ds : List D} {xs : List V}, Paired (Dat K F) ds xs → DatL K F ds xs
  | _, _, .nil => DatL.nil
  | _, _, .cons h t => DatL.cons h (DatL.of t)
theorem DatL.length {ds : List D} {xs : List V} (h : DatL K F ds xs) : ds.length = xs.length := Paired.length h.paired
end
section
variable {α β : Type} {G : α → β → Prop}
theorem pr_append : ∀ {a c : List α} {b d : List β}, Paired G a b → Paired G c d → Paired G (a ++ c) (b ++ d)
  | _, _, _, _, .nil, s => s
  | _, _, _, _, .cons r t, s => .cons r (pr_append t s)
theorem pr_take : ∀ {a : List α} {b : List β} (n : Nat), Paired G a b → Paired G (a.take n) (b.take n)
  | _, _, 0, _ => .nil
  | _, _, _ + 1, .nil => .nil
  | _, _, n + 1, .cons r t => .cons r (pr_take n t)
theorem pr_drop : ∀ {a : List α} {b : List β} (n : Nat), Paired G a b → Paired G (a.drop n) (b.drop n)
  | _, _, 0, r => r
  | _, _, _ + 1, .nil => .nil
  | _, _, n + 1, .cons _ t => pr_drop n t
theorem pr_get : ∀ {a : List α} {b : List β} {i : Nat} {x : α}, Paired G a b → a[i]? = some x → ∃ y, b[i]? = some y ∧ G x y
  | _, _, _, _, .nil, e => by simp at e
  | _, _, 0, _, .cons r _, e => by simp at e; subst e; exact ⟨_, rfl, r⟩
  | _, _, i + 1, x, .cons _ t, e => by
    obtain ⟨u, h1, h2⟩ := pr_get (i := i) (x := x) t (by simpa using e)
    exact ⟨u, by simpa using h1, h2⟩
theorem pr_get' : ∀ {a : List α} {b : List β} {i : Nat} {y : β}, Paired G a b → b[i]? = some y → ∃ x, a[i]? = some x ∧ G x y
  | _, _, _, _, .nil, e => by simp at e
  | _, _, 0, _, .cons r _, e => by simp at e; subst e; exact ⟨_, rfl, r⟩
  | _, _, i + 1, y, .cons _ t, e => by
    obtain ⟨u, h1, h2⟩ := pr_get' (i := i) (y := y) t (by simpa using e)
    exact ⟨u, by simpa using h1, h2⟩
theorem pr_reverse {a : List α} {b : List β} (h : Paired G a b) : Paired G a.reverse b.reverse := by
  induction h with
  | nil => exact .nil
  | cons r t ih => rw [List.reverse_cons, List.reverse_cons]; exact pr_append ih (.cons r .nil)
theorem pr_rep {a : List α} {b : List β} (h : Paired G a b) : ∀ k : Nat, Paired G (List.replicate k a).flatten (List.replicate k b).flatten
  | 0 => .nil
  | k + 1 => by
    rw [List.replicate_succ, List.replicate_succ, List.flatten_cons, List.flatten_cons]
    exact pr_append h (pr_rep h k)
end

/-! ### growing: F, what is known not to change; H, all that is tracked -/
/-- the code tables that may grow: the table, the place of the one lambda of its def, the lambda's name -/
class Tbl where
  L : List (Addr × Pos × Str)
  ap : ∀ t ∈ L, ∀ u ∈ L, t.1 = u.1 → t = u
variable [Tbl]
def notTbl : HO → Bool
  | .tbl _ => false
  | _ => true
def TOk (H : Hp) (t : Addr × Pos × Str) : Prop := ∃ ps, H t.1 = some (.tbl ps) ∧ PySem.TriplesOk ps.toList ∧
  (codeAmong t.2.1 ps.toList = none ∨ ∃ c', codeAmong t.2.1 ps.toList = some (.ref c') ∧ H c' = some (.ext fun h => h.CodeRec (.ref c') t.2.2))
def TbI (H : Hp) : Prop := ∀ t ∈ Tbl.L, TOk H t
def noTb (F : Hp) : Prop := ∀ b ps, F b ≠ some (.tbl ps)
def TbF (F H : Hp) : Prop := TbI H ∧ noTb F
theorem noTb.upd {F : Hp} (h : noTb F) (p : Addr) {o : HO} (ho : notTbl o = true) : noTb (upd F p o) := fun b ps e => by
  by_cases z : b = p
  · subst z; rw [upd_same] at e; cases e; cases ho
  · rw [upd_ne z] at e; exact h b ps e
/-- all but the tables stays -/
def SameX (H H' : Hp) : Prop := ∀ b u, notTbl u = true → H b = some u → H' b = some u
structure Grow (F H F' H' : Hp) : Prop where
  same : SameX H H'
  more : ∀ b, H b ≠ none → H' b ≠ none
  tk : TbF F H → TbF F' H'
  fs : Same F F'
  sub : Same F' H'
  new : ∀ b, F b = none → H b ≠ none → F' b = none
theorem Grow.refl {F H : Hp} (s : Same F H) : Grow F H F H := ⟨fun _ _ _ q => q, fun _ h => h, fun h => h, Same.refl _, s, fun _ h _ => h⟩
theorem TbI.same {H H' : Hp} (h : TbI H) (s : Same H H') : TbI H' := fun t ht => by
  obtain ⟨ps, e, o, q⟩ := h t ht
  refine ⟨ps, s _ _ e, o, ?_⟩
  rcases q with q | ⟨c', q1, q2⟩
  · exact .inl q
  · exact .inr ⟨c', q1, s _ _ q2⟩
theorem moreX {H H' : Hp} (s : Same H H') : ∀ b, H b ≠ none → H' b ≠ none := fun b h => by
  cases q : H b with
  | none => exact absurd q h
  | some o => rw [s b o q]; simp
theorem Grow.trans {F H F1 H1 F2 H2 : Hp} (a : Grow F H F1 H1) (b : Grow F1 H1 F2 H2) : Grow F H F2 H2 where
  same := fun c u n q => b.same c u n (a.same c u n q)
  more := fun c h => b.more c (a.more c h)
  tk := fun h => b.tk (a.tk h)
  fs := a.fs.trans b.fs
  sub := b.sub
  new := fun c h n => b.new c (a.new c h n) (a.more c n)
theorem same_new {H : Hp} {p : Addr} (h : H p = none) (o : HO) : Same H (upd H p o) := fun b u q => by rw [upd_ne (ne_of_none q h)]; exact q
theorem same_upd2 {F H : Hp} (s : Same F H) (p : Addr) (o : HO) : Same (upd F p o) (upd H p o) := fun b u q => by
  by_cases e : b = p
  · subst e; rw [upd_same] at q ⊢; exact q
  · rw [upd_ne e] at q ⊢; exact s b u q
theorem same_updR {F H : Hp} (s : Same F H) {p : Addr} (h : F p = none) (o : HO) : Same F (upd H p o) := fun b u q => by
  rw [upd_ne (ne_of_none q h)]; exact s b u q
theorem Grow.laid {F H : Hp} (s : Same F H) {p : Addr} (h : H p = none) (o : HO) (ho : notTbl o = true := by rfl) : Grow F H (upd F p o) (upd H p o) where
  same := fun b u _ q => same_new h o b u q
  more := moreX (same_new h o)
  tk := fun t => ⟨t.1.same (same_new h o), t.2.upd p ho⟩
  fs := same_new (Same.free s h) o
  sub := same_upd2 s p o
  new := fun b hb n => by
    have e : b ≠ p := fun e => n (e ▸ h)
    rw [upd_ne e]; exact hb
theorem Grow.laidN {F H : Hp} (s : Same F H) {p : Addr} (h : H p = none) (o : HO) : Grow F H F (upd H p o) where
  same := fun b u _ q => same_new h o b u q
  more := moreX (same_new h o)
  tk := fun t => ⟨t.1.same (same_new h o), t.2⟩
  fs := Same.refl _
  sub := same_updR s (Same.free s h) o
  new := fun b hb n => hb

theorem Grow.free {F H F' H' : Hp} (g : Grow F H F' H') {b : Addr} (h : H' b = none) : H b = none := by
  cases q : H b with
  | none => rfl
  | some o => exact absurd h (g.more b (by rw [q]; simp))
theorem TbI.updL {H : Hp} {p : Addr} {xs : List V} (h : TbI H) (e : H p = some (.lst xs)) (ys : List V) : TbI (upd H p (.lst ys)) := fun t ht => by
  obtain ⟨ps, e1, o, q⟩ := h t ht
  have n1 : t.1 ≠ p := fun z => by rw [z, e] at e1; cases e1
  refine ⟨ps, by rw [upd_ne n1]; exact e1, o, ?_⟩
  rcases q with q | ⟨c', q1, q2⟩
  · exact .inl q
  · have n2 : c' ≠ p := fun z => by rw [z, e] at q2; cases q2
    exact .inr ⟨c', q1, by rw [upd_ne n2]; exact q2⟩
theorem more_upd {H H' : Hp} (m : ∀ b, H b ≠ none → H' b ≠ none) (p : Addr) (o : HO) : ∀ b, H b ≠ none → upd H' p o b ≠ none := fun b h => by
  by_cases z : b = p
  · subst z; rw [upd_same]; simp
  · rw [upd_ne z]; exact m b h
/-! ### a frame's names -/
inductive Slot where
  | no | val (d : D) | own (ds : List D) | is (v : V) (c : List (Addr × HO))
abbrev Rho := List Slot
def SlotR (K : PySem.W.Frag) (F H : Hp) : Slot → Option V → Prop
  | .no, _ => True
  | .val d, o => ∃ v, o = some v ∧ Dat K F d v
  | .own ds, o => ∃ a xs, o = some (.ref a) ∧ H a = some (.lst xs) ∧ F a = none ∧ DatL K F ds xs
  | .is v c, o => o = some v ∧ ∀ p ∈ c, F p.1 = some p.2
structure EnvR (K : PySem.W.Frag) (F H : Hp) (ρ : Rho) (σ : St) : Prop where
  tb : TbF F H
  sub : Same F H
  len : ρ.length = σ.length
  at_ : ∀ (i : Nat) s, ρ[i]? = some s → ∃ o, σ[i]? = some o ∧ SlotR K F H s o
  apart : ∀ (i j : Nat) ds es a, i ≠ j → ρ[i]? = some (.own ds) → ρ[j]? = some (.own es) → σ[i]? = some (some (.ref a)) → σ[j]? ≠ some (some (.ref a))
theorem SlotR.grow {K : PySem.W.Frag} {F H F' H' : Hp} (g : Grow F H F' H') {s : Slot} {o : Option V} (h : SlotR K F H s o) : SlotR K F' H' s o := by
  cases s with
  | no => trivial
  | val d => obtain ⟨v, e, h⟩ := h; exact ⟨v, e, h.mono g.fs⟩
  | own ds =>
    obtain ⟨a, xs, e, h1, h2, h3⟩ := h
    exact ⟨a, xs, e, g.same _ _ rfl h1, g.new _ h2 (by rw [h1]; simp), h3.mono g.fs⟩
  | is v c => exact ⟨h.1, fun p hp => g.fs _ _ (h.2 p hp)⟩
theorem EnvR.grow {K : PySem.W.Frag} {F H F' H' : Hp} {ρ : Rho} {σ : St} (h : EnvR K F H ρ σ) (g : Grow F H F' H') : EnvR K F' H' ρ σ :=
  ⟨g.tk h.tb, g.sub, h.len, fun i s e => let ⟨o, e1, r⟩ := h.at_ i s e; ⟨o, e1, r.grow g⟩, h.apart⟩
theorem EnvR.set {K : PySem.W.Frag} {F H : Hp} {ρ : Rho} {σ : St} (h : EnvR K F H ρ σ) {d : D} {v : V} (i : Nat) (hd : Dat K F d v) : EnvR K F H (ρ.set i (.val d)) (σ.set i (some v)) := by
  refine ⟨h.tb, h.sub, by rw [List.length_set, List.length_set]; exact h.len, fun j s e => ?_, fun j k ds es a n e1 e2 e3 => ?_⟩
  · by_cases q : i = j
    · subst q
      by_cases hl : i < ρ.length
      · rw [List.getElem?_set_self hl] at e
        cases e
        exact ⟨some v, List.getElem?_set_self (by rw [← h.len]; exact hl), v, rfl, hd⟩
      · rw [List.getElem?_eq_none (by rw [List.length_set]; omega)] at e; cases e
    · rw [List.getElem?_set_ne q] at e ⊢; exact h.at_ j s e
  · have q1 : i ≠ j := by
      rintro rfl
      by_cases hl : i < ρ.length
      · rw [List.getElem?_set_self hl] at e1; cases e1
      · rw [List.getElem?_eq_none (by rw [List.length_set]; omega)] at e1; cases e1
    have q2 : i ≠ k := by
      rintro rfl
      by_cases hl : i < ρ.length
      · rw [List.getElem?_set_self hl] at e2; cases e2
      · rw [List.getElem?_eq_none (by rw [List.length_set]; omega)] at e2; cases e2
    rw [List.getElem?_set_ne q1] at e1 e3
    rw [List.getElem?_set_ne q2] at e2 ⊢
    exact h.apart j k ds es a n e1 e2 e3

/-! ### what is wanted of an answer -/
def Post {α β : Type} (Rel : Hp → α → β → Prop) (F H : Hp) (r : Res α) (Q : β → Hp → Prop) : Prop := match r with
  | .ok a => ∀ b F' H', Grow F H F' H' → Rel F' a b → Q b H'
  | .ex _ => False
  | .bad => False
theorem Post.grow {α β : Type} {Rel : Hp → α → β → Prop} {F H F1 H1 : Hp} {r : Res α} {Q : β → Hp → Prop} (h : Post Rel F H r Q) (g : Grow F H F1 H1) : Post Rel F1 H1 r Q := by
  cases r with
  | ok a => exact fun b F' H' g' r' => h b F' H' (g.trans g') r'
  | ex _ => exact h
  | bad => exact h
theorem post_bind {α β γ δ : Type} {R1 : Hp → α → β → Prop} {R2 : Hp → γ → δ → Prop} {F H : Hp} {r : Res α} {g : α → Res γ} {Q : δ → Hp → Prop} (h : Post R2 F H (r.bind g) Q) :
    Post R1 F H r fun b H1 => ∃ F1 a, Grow F H F1 H1 ∧ R1 F1 a b ∧ Post R2 F1 H1 (g a) Q := by
  cases r with
  | ok a => exact fun b F' H' g' r' => ⟨F', a, g', r', Post.grow (show Post R2 F H (g a) Q from h) g'⟩
  | ex _ => exact h
  | bad => exact h
/-- an answer without a new object -/
theorem post_ok {α β : Type} {Rel : Hp → α → β → Prop} {F H : Hp} {a : α} {Q : β → Hp → Prop} (h : Post Rel F H (.ok a) Q) (s : Same F H) {b : β} (r : Rel F a b) : Q b H := h b F H (.refl s) r
/-- an answer that is a new tuple, a new list -/
theorem post_tup {K : PySem.W.Frag} {F H : Hp} {ds : List D} {xs : List V} {Q : V → Hp → Prop} (h : Post (Dat K) F H (.ok (.tup ds)) Q) (s : Same F H) (r : DatL K F ds xs) {p : Addr} (hp : H p = none) : Q (.ref p) (upd H p (.tup xs)) := by
  refine h _ _ _ (Grow.laid s hp _) ?_
  simp only [Dat]
  exact ⟨p, xs, rfl, SqT.of upd_same, r.mono (same_new (Same.free s hp) _)⟩
theorem post_lst {K : PySem.W.Frag} {F H : Hp} {ds : List D} {xs : List V} {Q : V → Hp → Prop} (h : Post (Dat K) F H (.ok (.lst ds)) Q) (s : Same F H) (r : DatL K F ds xs) {p : Addr} (hp : H p = none) : Q (.ref p) (upd H p (.lst xs)) := by
  refine h _ _ _ (Grow.laid s hp _) ?_
  simp only [Dat]
  exact ⟨p, xs, rfl, SqL.of upd_same, r.mono (same_new (Same.free s hp) _)⟩

/-! ### the judgements -/
abbrev ME := Rho → Res D
abbrev MT := Rho → Res Bool
abbrev MA := Rho → Res (List D)
def RelB : Hp → Bool → Bool → Prop := fun _ a b => a = b
def RelO : Hp → Option Int → Option Int → Prop := fun _ a b => a = b
def tD (X : Cx) (f : ME) : TE := fun σ H Q => ∃ ρ F, EnvR X.K F H ρ σ ∧ Post (Dat X.K) F H (f ρ) Q
def tDT (X : Cx) (f : MT) : TT := fun σ H Q => ∃ ρ F, EnvR X.K F H ρ σ ∧ Post RelB F H (f ρ) Q
def tDA (X : Cx) (f : MA) : TA := fun σ H Q => ∃ ρ F, EnvR X.K F H ρ σ ∧ Post (DatL X.K) F H (f ρ) Q
def IE (X : Cx) (e : Expr) (f : ME) : Prop := PE X e (tD X f)
def IT (X : Cx) (e : Expr) (f : MT) : Prop := PT X e (tDT X f)
def IW (X : Cx) (e : Expr) (f : MT) : Prop := PW X e (tDT X f)
def IA (X : Cx) (es : List Expr) (f : MA) : Prop := PA X es (tDA X f)
theorem pe_imp {X : Cx} {e : Expr} {t t' : TE} (h : PE X e t) (i : ∀ σ H Q, t' σ H Q → t σ H Q) : PE X e t' := fun pins s σ H Q I hq => h pins s σ H Q I (i σ H Q hq)
theorem pt_imp {X : Cx} {e : Expr} {t t' : TT} (h : PT X e t) (i : ∀ σ H Q, t' σ H Q → t σ H Q) : PT X e t' := fun pins s σ H Q I hq => h pins s σ H Q I (i σ H Q hq)
theorem pw_imp {X : Cx} {e : Expr} {t t' : TT} (h : PW X e t) (i : ∀ σ H Q, t' σ H Q → t σ H Q) : PW X e t' := fun wh pins s σ H Q I hq => h wh pins s σ H Q I (i σ H Q hq)
theorem pa_imp {X : Cx} {e : List Expr} {t t' : TA} (h : PA X e t) (i : ∀ σ H Q, t' σ H Q → t σ H Q) : PA X e t' := fun p pins s σ H Q I hq => h p pins s σ H Q I (i σ H Q hq)
theorem ps_imp {X : Cx} {e : Stmt} {t t' : TS} (h : PS X e t) (i : ∀ E σ H, t' E σ H → t E σ H) : PS X e t' := fun pins s σ H E I hq => h pins s σ H E I (i E σ H hq)
theorem pss_imp {X : Cx} {e : List Stmt} {t t' : TS} (h : PSs X e t) (i : ∀ E σ H, t' E σ H → t E σ H) : PSs X e t' := fun pins s σ H E I hq => h pins s σ H E I (i E σ H hq)

/-! ### names, constants -/
def gv (i : Nat) : ME := fun ρ => match ρ[i]? with
  | some (.val d) => .ok d
  | _ => .bad
def kc (d : D) : ME := fun _ => .ok d
section
variable {X : Cx} {a b c e : Expr} {es : List Expr} {f g h : ME} {pos : Pos}
theorem ie_v (i : Nat) {x : Str} (hp : PE X (.Name x pos) (tVar i)) : IE X (.Name x pos) (gv i) := pe_imp hp fun σ H Q ⟨ρ, F, E, q⟩ => by
  unfold gv at q
  split at q
  · rename_i d e
    obtain ⟨o, e1, v, rfl, hd⟩ := E.at_ i _ e
    exact ⟨v, e1, post_ok q E.sub hd⟩
  · exact q.elim
theorem ie_k {t : TE} {v : V} {d : D} (hp : PE X e (tC v)) (hd : ∀ F, Dat X.K F d v) : IE X e (kc d) := pe_imp hp fun σ H Q ⟨ρ, F, E, q⟩ => post_ok q E.sub (hd F)
theorem ie_int {i j} : IE X (.Constant (.int i) j pos) (kc (.int i)) := ie_k (t := tC (.int i)) pe_int fun F => by simp only [Dat]
theorem ie_bl {i j} : IE X (.Constant (.bool i) j pos) (kc (.bl i)) := ie_k (t := tC (.bl i)) pe_bl fun F => by simp only [Dat]
theorem ie_non {j} : IE X (.Constant .none j pos) (kc .non) := ie_k (t := tC .non) pe_non fun F => by simp only [Dat]
theorem ie_str {x j} (hx : x.length ≤ sizeLine := by decide) : IE X (.Constant (.str x) j pos) (kc (.str x)) := ie_k (t := tC (.str x)) pe_str fun F => by simp only [Dat]; exact ⟨trivial, hx⟩

/-! ### operations by values -/
def m1 (m : D → Res D) (f : ME) : ME := fun ρ => (f ρ).bind m
def m2 (m : D → D → Res D) (f g : ME) : ME := fun ρ => (f ρ).bind fun x => (g ρ).bind fun y => m x y
def Op2 (X : Cx) (r : R2) (m : D → D → Res D) : Prop := ∀ F H d1 d2 v1 v2 Q, Same F H → Dat X.K F d1 v1 → Dat X.K F d2 v2 → Post (Dat X.K) F H (m d1 d2) Q → r v1 v2 H Q
def Op1 (X : Cx) (r : V → Hp → VK → Prop) (m : D → Res D) : Prop := ∀ F H d v Q, Same F H → Dat X.K F d v → Post (Dat X.K) F H (m d) Q → r v H Q
def OpL (X : Cx) (r : List V → Hp → VK → Prop) (m : List D → Res D) : Prop := ∀ F H ds vs Q, Same F H → DatL X.K F ds vs → Post (Dat X.K) F H (m ds) Q → r vs H Q
theorem t2_of {r : R2} {m : D → D → Res D} (hd : Op2 X r m) {σ : St} {H : Hp} {Q : VK} (q : tD X (m2 m f g) σ H Q) : tOp r (tD X f) (tD X g) σ H Q := by
  obtain ⟨ρ, F, E, q⟩ := q
  refine ⟨ρ, F, E, ?_⟩
  have q1 := post_bind (R1 := Dat X.K) q
  refine (by
    revert q1
    cases f ρ with
    | ok d =>
      intro q1 v F1 H1 g1 d1
      obtain ⟨F2, d', g2, d2, q2⟩ := q1 v F1 H1 g1 d1
      refine ⟨ρ, F2, E.grow g2, ?_⟩
      have q3 := post_bind (R1 := Dat X.K) q2
      revert q3
      cases g ρ with
      | ok y =>
        intro q3 v' F3 H3 g3 d3
        obtain ⟨F4, y', g4, d4, q4⟩ := q3 v' F3 H3 g3 d3
        exact hd F4 H3 d' y' v v' Q g4.sub (d2.mono g4.fs) d4 q4
      | ex _ => intro q3; exact q3
      | bad => intro q3; exact q3
    | ex _ => intro q1; exact q1
    | bad => intro q1; exact q1)
theorem ie_op {op : Operator} {r : R2} {m : D → D → Res D} (ho : OpR X (binaryOp op) r) (hd : Op2 X r m) (ha : IE X a f) (hb : IE X b g) : IE X (.BinOp a op b pos) (m2 m f g) :=
  pe_imp (pe_op ho ha hb) fun _ _ _ q => t2_of hd q
theorem ie_cmp {op : CmpOp} {r : R2} {m : D → D → Res D} (ho : OpR X (compareOp op) r) (hd : Op2 X r m) (ha : IE X a f) (hb : IE X b g) (hm : behindInMarks op b = false) : IE X (.Compare a [op] [b] pos) (m2 m f g) :=
  pe_imp (pe_cmpR ho ha hb hm) fun _ _ _ q => t2_of hd q
theorem ie_ix {r : R2} {m : D → D → Res D} (ho : IxR X r) (hd : Op2 X r m) (ha : IE X a f) (hb : IE X b g) (hs : PlainIx b) : IE X (.Subscript a b pos) (m2 m f g) :=
  pe_imp (pe_ix ho ha hb hs) fun _ _ _ q => t2_of hd q
theorem ie_un {op : UnaryOp} {r : V → Hp → VK → Prop} {m : D → Res D} (ho : UnR X (unaryOp op) r) (hd : Op1 X r m) (ha : IE X a f) : IE X (.UnaryOp op a pos) (m1 m f) :=
  pe_imp (pe_un ho ha) fun σ H Q ⟨ρ, F, E, q⟩ => ⟨ρ, F, E, by
    have q1 := post_bind (R1 := Dat X.K) q
    revert q1
    cases f ρ with
    | ok d => exact fun q1 v F1 H1 g1 d1 => let ⟨F2, d', g2, d2, q2⟩ := q1 v F1 H1 g1 d1; hd F2 H1 d' v Q g2.sub d2 q2
    | ex _ => exact fun q1 => q1
    | bad => exact fun q1 => q1⟩

/-! ### arguments -/
def aNil : MA := fun _ => .ok []
def aCons (f : ME) (r : MA) : MA := fun ρ => (f ρ).bind fun x => (r ρ).bind fun xs => .ok (x :: xs)
theorem ia_nil : IA X [] aNil := pa_imp pa_nil fun σ H Q ⟨ρ, F, E, q⟩ => post_ok q E.sub DatL.nil
theorem ia_cons {r : MA} (ha : IE X e f) (hr : IA X es r) (hs : starEach (e :: es) X.env = (false, eval e X.env) :: starEach es X.env := by rfl) : IA X (e :: es) (aCons f r) :=
  pa_imp (pa_cons ha hr hs) fun σ H Q ⟨ρ, F, E, q⟩ => ⟨ρ, F, E, by
    have q1 := post_bind (R1 := Dat X.K) q
    revert q1
    cases f ρ with
    | ok d =>
      intro q1 v F1 H1 g1 d1
      obtain ⟨F2, d', g2, d2, q2⟩ := q1 v F1 H1 g1 d1
      refine ⟨ρ, F2, E.grow g2, ?_⟩
      have q3 := post_bind (R1 := DatL X.K) q2
      revert q3
      cases r ρ with
      | ok y =>
        intro q3 v' F3 H3 g3 d3
        obtain ⟨F4, y', g4, d4, q4⟩ := q3 v' F3 H3 g3 d3
        exact post_ok q4 g4.sub (DatL.cons (d2.mono g4.fs) d4)
      | ex _ => intro q3; exact q3
      | bad => intro q3; exact q3
    | ex _ => exact fun q1 => q1
    | bad => exact fun q1 => q1⟩
/-- a step behind an argument list -/
theorem tA_of {r : List V → Hp → VK → Prop} {m : List D → Res D} {fa : MA} (hd : OpL X r m) {σ : St} {H : Hp} {Q : VK} (q : tD X (fun ρ => (fa ρ).bind m) σ H Q) : tDA X fa σ H fun vs H1 => r vs H1 Q := by
  obtain ⟨ρ, F, E, q⟩ := q
  refine ⟨ρ, F, E, ?_⟩
  have q1 := post_bind (R1 := DatL X.K) q
  revert q1
  cases fa ρ with
  | ok d => exact fun q1 v F1 H1 g1 d1 => let ⟨F2, d', g2, d2, q2⟩ := q1 v F1 H1 g1 d1; hd F2 H1 d' v Q g2.sub d2 q2
  | ex _ => exact fun q1 => q1
  | bad => exact fun q1 => q1
theorem tA_ofT {r : List V → Hp → VK → Prop} {m : List D → Res D} {fa : MA} (hd : ∀ F H ds vs Q, TbF F H → Same F H → DatL X.K F ds vs → Post (Dat X.K) F H (m ds) Q → r vs H Q) {σ : St} {H : Hp} {Q : VK} (q : tD X (fun ρ => (fa ρ).bind m) σ H Q) : tDA X fa σ H fun vs H1 => r vs H1 Q := by
  obtain ⟨ρ, F, E, q⟩ := q
  refine ⟨ρ, F, E, ?_⟩
  have q1 := post_bind (R1 := DatL X.K) q
  revert q1
  cases fa ρ with
  | ok d => exact fun q1 v F1 H1 g1 d1 => let ⟨F2, d', g2, d2, q2⟩ := q1 v F1 H1 g1 d1; hd F2 H1 d' v Q (g2.tk E.tb) g2.sub d2 q2
  | ex _ => exact fun q1 => q1
  | bad => exact fun q1 => q1
def mA (m : List D → Res D) (fa : MA) : ME := fun ρ => (fa ρ).bind m
def dTup (ds : List D) : Res D := if ds.length ≤ sizeLine then .ok (.tup ds) else .bad
def dLst (ds : List D) : Res D := if ds.length ≤ sizeLine then .ok (.lst ds) else .bad
theorem ie_tup {fa : MA} {k} (h : IA X es fa) : IE X (.Tuple es k pos) (mA dTup fa) := pe_imp (pe_tup h) fun σ H Q q => tA_of (r := fun vs H1 Q => vs.length ≤ sizeLine ∧ ∀ p, H1 p = none → Q (.ref p) (upd H1 p (.tup vs))) (fun F H ds vs Q s d q => by
  unfold dTup at q
  split at q
  · rename_i z; exact ⟨by rw [← d.length]; exact z, fun p hp => post_tup q s d hp⟩
  · exact q.elim) q
theorem ie_lst {fa : MA} (h : IA X es fa) : IE X (.List es pos) (mA dLst fa) := pe_imp (pe_lst h) fun σ H Q q => tA_of (r := fun vs H1 Q => vs.length ≤ sizeLine ∧ ∀ p, H1 p = none → Q (.ref p) (upd H1 p (.lst vs))) (fun F H ds vs Q s d q => by
  unfold dLst at q
  split at q
  · rename_i z; exact ⟨by rw [← d.length]; exact z, fun p hp => post_lst q s d hp⟩
  · exact q.elim) q
/-- a built-in function, a built-in type, by values -/
theorem ie_callB {x : Str} {p : Pos} {id : String} {r : List V → Hp → VK → Prop} {m : List D → Res D} {fa : MA} (hc : CallR X (.builtin id) r) (hd : OpL X r m) (hg : Gl X x) (hm : X.mg x = none) (hv : bootBuiltins x = some (.builtin id)) (ha : IA X (e :: es) fa)
    (hn : x ≠ "__name__" := by decide) (hdb : (x == ("__debug__" : Str)) = false := by decide) (he : starEach (e :: es) X.env = (false, eval e X.env) :: starEach es X.env := by rfl) (hpl : (backTo pos (starEach es X.env)).any (·.1) = false := by rfl) :
    IE X (.Call (.Name x p) (e :: es) [] pos) (mA m fa) := pe_imp (pe_callB hc hg hm hv ha hn hdb he hpl) fun σ H Q q => tA_of hd q
theorem ie_callTy {x : Str} {p : Pos} {id : String} {r : List V → Hp → VK → Prop} {m : List D → Res D} {fa : MA} (hc : CallR X (.type id) r) (hd : OpL X r m) (hg : Gl X x) (hm : X.mg x = none) (hv : bootBuiltins x = some (.type id)) (ha : IA X (e :: es) fa)
    (hn : x ≠ "__name__" := by decide) (hdb : (x == ("__debug__" : Str)) = false := by decide) (he : starEach (e :: es) X.env = (false, eval e X.env) :: starEach es X.env := by rfl) (hpl : (backTo pos (starEach es X.env)).any (·.1) = false := by rfl) :
    IE X (.Call (.Name x p) (e :: es) [] pos) (mA m fa) := pe_imp (pe_callTy hc hg hm hv ha hn hdb he hpl) fun σ H Q q => tA_of hd q

/-! ### a def's promise -/
def spD (K : PySem.W.Frag) (m : List D → Res D) : Sp := fun vs H Q _ => ∃ F ds, TbF F H ∧ Same F H ∧ DatL K F ds vs ∧ Post (Dat K) F H (m ds) Q
/-- all that a call of the def named x asks -/
structure Callee (X : Cx) (k : Nat) (x : Str) (m : List D → Res D) : Prop where
  ex : ∃ (f : Addr) (fd : FuncData) (ps : List Str), FnOk X.prog X.w X.K X.mg X.base CX0 k f fd ps (spD X.K m) ∧ X.mg x = some (.ref f) ∧ PySem.W.keepIn X.K (.ref f) = true ∧ Binds X.K fd ps []
theorem ie_call {k : Nat} {x : Str} {p : Pos} {m : List D → Res D} {fa : MA} (C : Callee X k x m) (hr : Room k X.A) (hg : Gl X x) (ha : IA X (e :: es) fa)
    (hdb : (x == ("__debug__" : Str)) = false := by decide) (he : starEach (e :: es) X.env = (false, eval e X.env) :: starEach es X.env := by rfl) (hpl : (backTo pos (starEach es X.env)).any (·.1) = false := by rfl) :
    IE X (.Call (.Name x p) (e :: es) [] pos) (mA m fa) := by
  obtain ⟨f, fd, ps, F, hm, hk, hb⟩ := C.ex
  refine pe_imp (pe_call (E := E0) F hr hg hm hk hb .nil pass0 ha hdb he hpl) fun σ H Q q => ?_
  refine tA_ofT (r := fun vs H1 Q => spD X.K m (vs ++ []) H1 Q E0) (fun F H ds vs Q ti s d q => ?_) q
  show spD X.K m (vs ++ []) H Q E0
  rw [List.append_nil]
  exact ⟨F, ds, ti, s, d, q⟩

/-! ### tests -/
def dBool : D → Res Bool
  | .bl b => .ok b
  | _ => .bad
/-- the truth of a value -/
def dTru : D → Res Bool
  | .non => .ok false
  | .bl b => .ok b
  | .int i => .ok (i != 0)
  | .str x => .ok ((x.length : Int) != 0)
  | .tup ds => .ok (!ds.isEmpty)
  | .lst ds => .ok (!ds.isEmpty)
def mT (f : ME) : MT := fun ρ => (f ρ).bind dTru
def mB (f : ME) : MT := fun ρ => (f ρ).bind dBool
theorem tB_of {σ : St} {H : Hp} {Q : Bool → Hp → Prop} {t : TE} (ht : ∀ σ H Q, tD X f σ H Q → t σ H Q) (q : tDT X (mB f) σ H Q) : t σ H fun x H' => ∃ k, x = .bl k ∧ Q k H' := by
  obtain ⟨ρ, F, E, q⟩ := q
  refine ht _ _ _ ⟨ρ, F, E, ?_⟩
  have q1 := post_bind (R1 := Dat X.K) q
  revert q1
  cases f ρ with
  | ok d =>
    intro q1 v F1 H1 g1 d1
    obtain ⟨F2, d', g2, d2, q2⟩ := q1 v F1 H1 g1 d1
    cases d' with
    | bl b => simp only [Dat] at d2; exact ⟨b, d2, post_ok q2 g2.sub rfl⟩
    | _ => exact q2.elim
  | ex _ => exact fun q1 => q1
  | bad => exact fun q1 => q1
theorem it_cmp {op : CmpOp} {r : R2} {m : D → D → Res D} (ho : OpR X (compareOp op) r) (hd : Op2 X r m) (ha : IE X a f) (hb : IE X b g) (hm : behindInMarks op b = false) : IT X (.Compare a [op] [b] pos) (mB (m2 m f g)) :=
  pt_imp (pt_cmpR ho ha hb hm) fun σ H Q q => tB_of (f := m2 m f g) (fun _ _ _ q => t2_of hd q) q
theorem tru_of {F H : Hp} {d : D} {v : V} {Q : Bool → Hp → Prop} (s : Same F H) (h : Dat X.K F d v) (q : Post RelB F H (dTru d) Q) : ∃ k, TruV X.K v H k ∧ Q k H := by
  cases d with
  | non => simp only [Dat] at h; subst h; exact ⟨false, rfl, post_ok q s rfl⟩
  | bl b => simp only [Dat] at h; subst h; exact ⟨b, rfl, post_ok q s rfl⟩
  | int i => simp only [Dat] at h; subst h; exact ⟨_, rfl, post_ok q s rfl⟩
  | str x => simp only [Dat] at h; obtain ⟨rfl, h⟩ := h; exact ⟨_, ⟨h, rfl⟩, post_ok q s rfl⟩
  | tup ds =>
    simp only [Dat] at h; obtain ⟨a, xs, rfl, h1, h2⟩ := h
    refine ⟨!xs.isEmpty, .inr (.inl ⟨xs, Same.seqT s h1, rfl⟩), post_ok q s ?_⟩
    have := h2.length
    cases ds <;> cases xs <;> first | rfl | cases this
  | lst ds =>
    simp only [Dat] at h; obtain ⟨a, xs, rfl, h1, h2⟩ := h
    refine ⟨!xs.isEmpty, .inl ⟨xs, Same.seq s h1, rfl⟩, post_ok q s ?_⟩
    have := h2.length
    cases ds <;> cases xs <;> first | rfl | cases this
theorem it_truth (ha : IE X a f) (he : ∀ whole, isTrue a X.env whole = (do let v ← whole; standAt a.pos; holding [v] (truthy v)) := by intro _; rfl) : IT X a (mT f) :=
  pt_imp (pt_truth ha he) fun σ H Q ⟨ρ, F, E, q⟩ => ⟨ρ, F, E, by
    have q1 := post_bind (R1 := Dat X.K) q
    revert q1
    cases f ρ with
    | ok d => exact fun q1 v F1 H1 g1 d1 => let ⟨F2, d', g2, d2, q2⟩ := q1 v F1 H1 g1 d1; tru_of g2.sub d2 q2
    | ex _ => exact fun q1 => q1
    | bad => exact fun q1 => q1⟩
/-! and, or, not as tests -/
variable {p q' : MT} {rest : List Expr}
def bAnd (p q : MT) : MT := fun ρ => (p ρ).bind fun b => if b = true then q ρ else .ok false
def bOr (p q : MT) : MT := fun ρ => (p ρ).bind fun b => if b = true then .ok true else q ρ
def bNot (p : MT) : MT := fun ρ => (p ρ).bind fun b => .ok (!b)
theorem iw_and1 (ha : IT X a p) : IW X (.BoolOp .And [a] pos) p := pw_and1 ha
theorem iw_or1 (ha : IT X a p) : IW X (.BoolOp .Or [a] pos) p := pw_or1 ha
theorem bt_of {σ : St} {H : Hp} {Q : Bool → Hp → Prop} {k : Bool → Rho → Res Bool} {T : Bool → St → Hp → Prop} (hT : ∀ b σ H, tDT X (k b) σ H Q → T b σ H) (q : tDT X (fun ρ => (p ρ).bind fun b => k b ρ) σ H Q) : tDT X p σ H fun b H1 => T b σ H1 := by
  obtain ⟨ρ, F, E, q⟩ := q
  refine ⟨ρ, F, E, ?_⟩
  have q1 := post_bind (R1 := RelB) q
  revert q1
  cases p ρ with
  | ok d =>
    intro q1 v F1 H1 g1 d1
    obtain ⟨F2, d', g2, d2, q2⟩ := q1 v F1 H1 g1 d1
    cases (show d' = v from d2)
    exact hT _ _ _ ⟨ρ, F2, E.grow g2, q2⟩
  | ex _ => exact fun q1 => q1
  | bad => exact fun q1 => q1
theorem tok_of {b : Bool} {σ : St} {H : Hp} {Q : Bool → Hp → Prop} (q : tDT X (fun _ => .ok b) σ H Q) : Q b H := by
  obtain ⟨ρ, F, E, q⟩ := q
  exact post_ok q E.sub rfl
theorem iw_and (ha : IT X a p) (hb : IW X (.BoolOp .And (b :: rest) pos) q') : IW X (.BoolOp .And (a :: b :: rest) pos) (bAnd p q') := pw_imp (pw_and ha hb) fun σ H Q q =>
  bt_of (k := fun b ρ => if b = true then q' ρ else .ok false) (T := fun c σ H1 => if c = true then tDT X q' σ H1 Q else Q false H1) (fun b σ H h => by
    cases b with
    | true => exact iteT h
    | false => exact iteF (tok_of h)) q
theorem iw_or (ha : IT X a p) (hb : IW X (.BoolOp .Or (b :: rest) pos) q') : IW X (.BoolOp .Or (a :: b :: rest) pos) (bOr p q') := pw_imp (pw_or ha hb) fun σ H Q q =>
  bt_of (k := fun b ρ => if b = true then .ok true else q' ρ) (T := fun c σ H1 => if c = true then Q true H1 else tDT X q' σ H1 Q) (fun b σ H h => by
    cases b with
    | true => exact iteT (tok_of h)
    | false => exact iteF h) q
theorem it_not (ha : IT X a p) : IT X (.UnaryOp .Not a pos) (bNot p) := pt_imp (pt_not ha) fun σ H Q q =>
  bt_of (k := fun b _ => .ok (!b)) (T := fun c σ H1 => Q (!c) H1) (fun b σ H h => tok_of h) q
theorem IW.it (h : IW X e p) : IT X e p := PW.pt h
/-! .. as values (bools) -/
def vAnd (f g : ME) : ME := fun ρ => (f ρ).bind fun x => (dBool x).bind fun c => if c = true then g ρ else .ok (.bl false)
def vOr (f g : ME) : ME := fun ρ => (f ρ).bind fun x => (dBool x).bind fun c => if c = true then .ok (.bl true) else g ρ
def vNot (f : ME) : ME := fun ρ => (f ρ).bind fun x => (dBool x).bind fun c => .ok (.bl (!c))
theorem v_of {σ : St} {H : Hp} {Q : VK} {k : Bool → ME} {T : Bool → St → Hp → Prop} (hT : ∀ b σ H, tD X (k b) σ H Q → T b σ H) (q : tD X (fun ρ => (f ρ).bind fun x => (dBool x).bind fun c => k c ρ) σ H Q) : tD X f σ H fun x H1 => ∃ c, x = .bl c ∧ T c σ H1 := by
  obtain ⟨ρ, F, E, q⟩ := q
  refine ⟨ρ, F, E, ?_⟩
  have q1 := post_bind (R1 := Dat X.K) q
  revert q1
  cases f ρ with
  | ok d =>
    intro q1 v F1 H1 g1 d1
    obtain ⟨F2, d', g2, d2, q2⟩ := q1 v F1 H1 g1 d1
    cases d' with
    | bl c => simp only [Dat] at d2; exact ⟨c, d2, hT _ _ _ ⟨ρ, F2, E.grow g2, q2⟩⟩
    | _ => exact q2.elim
  | ex _ => exact fun q1 => q1
  | bad => exact fun q1 => q1
theorem tokV_of {d : D} {v : V} {σ : St} {H : Hp} {Q : VK} (hd : ∀ F, Dat X.K F d v) (q : tD X (fun _ => .ok d) σ H Q) : Q v H := by
  obtain ⟨ρ, F, E, q⟩ := q
  exact post_ok q E.sub (hd F)
theorem ie_one {op} (h : IE X a f) : IE X (.BoolOp op [a] pos) f := pe_one h
theorem ie_and (ha : IE X a f) (hb : IE X (.BoolOp .And (b :: rest) pos) g) : IE X (.BoolOp .And (a :: b :: rest) pos) (vAnd f g) := pe_imp (pe_and ha hb) fun σ H Q q =>
  v_of (k := fun c ρ => if c = true then g ρ else .ok (.bl false)) (T := fun c σ H1 => if c = true then tD X g σ H1 Q else Q (.bl false) H1) (fun b σ H h => by
    cases b with
    | true => exact iteT h
    | false => exact iteF (tokV_of (fun F => by simp only [Dat]) h)) q
theorem ie_or (ha : IE X a f) (hb : IE X (.BoolOp .Or (b :: rest) pos) g) : IE X (.BoolOp .Or (a :: b :: rest) pos) (vOr f g) := pe_imp (pe_or ha hb) fun σ H Q q =>
  v_of (k := fun c ρ => if c = true then .ok (.bl true) else g ρ) (T := fun c σ H1 => if c = true then Q (.bl true) H1 else tD X g σ H1 Q) (fun b σ H h => by
    cases b with
    | true => exact iteT (tokV_of (fun F => by simp only [Dat]) h)
    | false => exact iteF h) q
theorem ie_not (ha : IE X a f) : IE X (.UnaryOp .Not a pos) (vNot f) := pe_imp (pe_not ha) fun σ H Q q =>
  v_of (k := fun c _ => .ok (.bl (!c))) (T := fun c σ H1 => Q (.bl (!c)) H1) (fun b σ H h => tokV_of (fun F => by simp only [Dat]) h) q
def vIf (p : MT) (f g : ME) : ME := fun ρ => (p ρ).bind fun c => if c = true then f ρ else g ρ
theorem ie_if (hc : IT X c p) (ha : IE X a f) (hb : IE X b g) : IE X (.IfExp c a b pos) (vIf p f g) := pe_imp (pe_ifExp hc ha hb) fun σ H Q ⟨ρ, F, E, q⟩ => ⟨ρ, F, E, by
  have q1 := post_bind (R1 := RelB) q
  revert q1
  cases p ρ with
  | ok d =>
    intro q1 v F1 H1 g1 d1
    obtain ⟨F2, d', g2, d2, q2⟩ := q1 v F1 H1 g1 d1
    cases (show d' = v from d2)
    cases v with
    | true => exact iteT ⟨ρ, F2, E.grow g2, q2⟩
    | false => exact iteF ⟨ρ, F2, E.grow g2, q2⟩
  | ex _ => exact fun q1 => q1
  | bad => exact fun q1 => q1⟩
end
end R
end
section
set_option Elab.async false
set_option linter.all false
set_option maxRecDepth 100000
set_option maxHeartbeats 4000000
namespace R
open PySem PySem.Spec PyProof.Rows L2
variable [Tbl]

/-! ### statements -/
inductive Fl where
  | nx (ρ : Rho) | rt (d : D) | bk (ρ : Rho) | ct (ρ : Rho)
abbrev MS := Rho → Res Fl
/-- the frame's state since the entry (F₀, H₀) -/
structure SR (K : PySem.W.Frag) (F₀ H₀ F H : Hp) (ρ : Rho) (σ : St) : Prop where
  gr : Grow F₀ H₀ F H
  env : EnvR K F H ρ σ
  frh : ∀ (i : Nat) ds a, ρ[i]? = some (.own ds) → σ[i]? = some (some (.ref a)) → H₀ a = none
theorem SR.grow {K : PySem.W.Frag} {F₀ H₀ F H F' H' : Hp} {ρ : Rho} {σ : St} (h : SR K F₀ H₀ F H ρ σ) (g : Grow F H F' H') : SR K F₀ H₀ F' H' ρ σ := ⟨h.gr.trans g, h.env.grow g, h.frh⟩
theorem set_own {ρ : Rho} {i j : Nat} {d : D} {ds : List D} (e : (ρ.set i (.val d))[j]? = some (.own ds)) : i ≠ j ∧ ρ[j]? = some (.own ds) := by
  have q : i ≠ j := by
    rintro rfl
    by_cases hl : i < ρ.length
    · rw [List.getElem?_set_self hl] at e; cases e
    · rw [List.getElem?_eq_none (by rw [List.length_set]; omega)] at e; cases e
  rw [List.getElem?_set_ne q] at e
  exact ⟨q, e⟩
theorem SR.set {K : PySem.W.Frag} {F₀ H₀ F H : Hp} {ρ : Rho} {σ : St} (h : SR K F₀ H₀ F H ρ σ) {d : D} {v : V} (i : Nat) (hd : Dat K F d v) : SR K F₀ H₀ F H (ρ.set i (.val d)) (σ.set i (some v)) :=
  ⟨h.gr, h.env.set i hd, fun j ds a e1 e2 => by
    obtain ⟨q, e⟩ := set_own e1
    rw [List.getElem?_set_ne q] at e2
    exact h.frh j ds a e e2⟩
def PostS (X : Cx) (F₀ H₀ : Hp) (r : Res Fl) (E : Ends) : Prop := match r with
  | .ok (.nx ρ) => ∀ σ F H, SR X.K F₀ H₀ F H ρ σ → E.nx σ H
  | .ok (.rt d) => ∀ v F H, Grow F₀ H₀ F H → Dat X.K F d v → E.rt v H
  | .ok (.bk ρ) => ∀ σ F H, SR X.K F₀ H₀ F H ρ σ → E.bk σ H
  | .ok (.ct ρ) => ∀ σ F H, SR X.K F₀ H₀ F H ρ σ → E.ct σ H
  | .ex _ => False
  | .bad => False
def tS (X : Cx) (F₀ H₀ : Hp) (g : MS) : TS := fun E σ H => ∃ ρ F, SR X.K F₀ H₀ F H ρ σ ∧ PostS X F₀ H₀ (g ρ) E
def IS (X : Cx) (st : Stmt) (g : MS) : Prop := ∀ F₀ H₀, PS X st (tS X F₀ H₀ g)
def ISs (X : Cx) (st : List Stmt) (g : MS) : Prop := ∀ F₀ H₀, PSs X st (tS X F₀ H₀ g)

section
variable {X : Cx} {st : Stmt} {rest : List Stmt} {u v w : MS} {f : ME} {e : Expr} {pos : Pos}
def sNext : MS := fun ρ => .ok (.nx ρ)
def andThen (g : MS) : Fl → Res Fl
  | .nx ρ => g ρ
  | .rt d => .ok (.rt d)
  | .bk ρ => .ok (.bk ρ)
  | .ct ρ => .ok (.ct ρ)
def sSeq (u v : MS) : MS := fun ρ => (u ρ).bind (andThen v)
theorem iss_nil : ISs X [] sNext := fun F₀ H₀ => pss_imp pss_nil fun E σ H ⟨ρ, F, S, q⟩ => q σ F H S
theorem iss_one (h : IS X st u) : ISs X [st] u := fun F₀ H₀ => pss_one (h F₀ H₀)
theorem iss_cons (h1 : IS X st u) (h2 : ISs X rest v) : ISs X (st :: rest) (sSeq u v) := fun F₀ H₀ => pss_imp (pss_cons (h1 F₀ H₀) (h2 F₀ H₀)) fun E σ H ⟨ρ, F, S, q⟩ => by
  refine ⟨ρ, F, S, ?_⟩
  unfold sSeq at q
  revert q
  cases u ρ with
  | ok fl =>
    intro q
    cases fl with
    | nx ρ' => exact fun σ' F' H' S' => ⟨ρ', F', S', q⟩
    | rt d => exact q
    | bk ρ' => exact q
    | ct ρ' => exact q
  | ex _ => exact fun q => q
  | bad => exact fun q => q
theorem is_pass : IS X (.Pass pos) sNext := fun F₀ H₀ => ps_imp ps_pass fun E σ H ⟨ρ, F, S, q⟩ => q σ F H S
def sBreak : MS := fun ρ => .ok (.bk ρ)
def sCont : MS := fun ρ => .ok (.ct ρ)
theorem is_break : IS X (.Break pos) sBreak := fun F₀ H₀ => ps_imp ps_break fun E σ H ⟨ρ, F, S, q⟩ => q σ F H S
theorem is_cont : IS X (.Continue pos) sCont := fun F₀ H₀ => ps_imp ps_continue fun E σ H ⟨ρ, F, S, q⟩ => q σ F H S
/-- an expression, then the rest -/
theorem tS_of {F₀ H₀ : Hp} {E : Ends} {σ : St} {H : Hp} {k : D → MS} {T : V → Hp → Prop} (hT : ∀ ρ F H d v, SR X.K F₀ H₀ F H ρ σ → Dat X.K F d v → PostS X F₀ H₀ (k d ρ) E → T v H)
    (q : tS X F₀ H₀ (fun ρ => (f ρ).bind fun d => k d ρ) E σ H) : tD X f σ H T := by
  obtain ⟨ρ, F, S, q⟩ := q
  refine ⟨ρ, F, S.env, ?_⟩
  revert q
  show PostS X F₀ H₀ ((f ρ).bind fun d => k d ρ) E → _
  cases f ρ with
  | ok d => exact fun q v F1 H1 g1 d1 => hT ρ F1 H1 d v (S.grow g1) d1 q
  | ex _ => exact fun q => q
  | bad => exact fun q => q
def sExpr (f : ME) : MS := fun ρ => (f ρ).bind fun _ => .ok (.nx ρ)
theorem is_expr (he : IE X e f) (hs : swapsWith e none pos.line X.env = pure false := by rfl) : IS X (.Expr e pos) (sExpr f) := fun F₀ H₀ => ps_imp (ps_expr he hs) fun E σ H q =>
  tS_of (k := fun _ ρ => .ok (.nx ρ)) (fun ρ F H d v S _ q => q σ F H S) q
def sRet (f : ME) : MS := fun ρ => (f ρ).bind fun d => .ok (.rt d)
theorem is_ret (he : IE X e f) : IS X (.Return (some e) pos) (sRet f) := fun F₀ H₀ => ps_imp (ps_ret he) fun E σ H q =>
  tS_of (k := fun d _ => .ok (.rt d)) (fun ρ F H d v S r q => q v F H S.gr r) q
def sRetN : MS := fun _ => .ok (.rt .non)
theorem is_retN : IS X (.Return none pos) sRetN := fun F₀ H₀ => ps_imp ps_retN fun E σ H ⟨ρ, F, S, q⟩ => q .non F H S.gr (by simp only [Dat])
def sSet (i : Nat) (f : ME) : MS := fun ρ => (f ρ).bind fun d => .ok (.nx (ρ.set i (.val d)))
theorem is_set' {x : Str} {p : Pos} {i : Nat} (h : ∀ t, PE X e t → PS X (.Assign [.Name x p] e pos) (tAsg t (gName i))) (he : IE X e f) : IS X (.Assign [.Name x p] e pos) (sSet i f) := fun F₀ H₀ => ps_imp (h _ he) fun E σ H q =>
  tS_of (k := fun d ρ => .ok (.nx (ρ.set i (.val d)))) (fun ρ F H d v S r q => q _ F H (S.set i r)) q
def sIf (p : MT) (u v : MS) : MS := fun ρ => (p ρ).bind fun c => if c = true then u ρ else v ρ
theorem is_if {c : Expr} {a b : List Stmt} {p : MT} (hc : IT X c p) (ha : ISs X a u) (hb : ISs X b v) : IS X (.If c a b pos) (sIf p u v) := fun F₀ H₀ => ps_imp (ps_if hc (ha F₀ H₀) (hb F₀ H₀)) fun E σ H ⟨ρ, F, S, q⟩ => by
  refine ⟨ρ, F, S.env, ?_⟩
  unfold sIf at q
  revert q
  cases p ρ with
  | ok c =>
    intro q v F1 H1 g1 e1
    cases (show c = v from e1)
    cases c with
    | true => exact iteT ⟨ρ, F1, S.grow g1, q⟩
    | false => exact iteF ⟨ρ, F1, S.grow g1, q⟩
  | ex _ => exact fun q => q
  | bad => exact fun q => q
/-! ### for -/
/-- the turns over some data -/
def turns (i : Nat) (body : MS) : List D → MS
  | [], ρ => .ok (.nx ρ)
  | d :: ds, ρ => (body (ρ.set i (.val d))).bind fun fl => match fl with
    | .nx ρ' => turns i body ds ρ'
    | .ct ρ' => turns i body ds ρ'
    | .bk ρ' => .ok (.nx ρ')
    | .rt d => .ok (.rt d)
theorem turns_post {F₀ H₀ : Hp} {E : Ends} {i : Nat} {body : MS} {d : D} {ds : List D} {ρ : Rho} (q : PostS X F₀ H₀ (turns i body (d :: ds) ρ) E) {N : St → Hp → Prop} (hN : ∀ ρ' σ F H, SR X.K F₀ H₀ F H ρ' σ → PostS X F₀ H₀ (turns i body ds ρ') E → N σ H) :
    PostS X F₀ H₀ (body (ρ.set i (.val d))) { E with nx := N, ct := N, bk := E.nx } := by
  unfold turns at q
  revert q
  cases body (ρ.set i (.val d)) with
  | ok fl =>
    intro q
    cases fl with
    | nx ρ' => exact fun σ F H S => hN ρ' σ F H S q
    | ct ρ' => exact fun σ F H S => hN ρ' σ F H S q
    | bk ρ' => exact q
    | rt d => exact q
  | ex _ => exact fun q => q
  | bad => exact fun q => q
theorem Grow.mix {F₀ H₀ F H F' H' : Hp} (a : Grow F₀ H₀ F H) (b : Grow F H₀ F' H') : Grow F₀ H₀ F' H' := ⟨b.same, b.more, fun t => b.tk ⟨t.1, (a.tk t).2⟩, a.fs.trans b.fs, b.sub, fun c h n => b.new c (a.new c h n) n⟩
theorem Grow.here {F₀ H₀ F H : Hp} (a : Grow F₀ H₀ F H) : Grow F H₀ F H := ⟨a.same, a.more, fun t => a.tk ⟨t.1, fun b ps e => t.2 b ps (a.fs _ _ e)⟩, Same.refl _, a.sub, fun _ h _ => h⟩
theorem SR.here {K : PySem.W.Frag} {F₀ H₀ F H : Hp} {ρ : Rho} {σ : St} (h : SR K F₀ H₀ F H ρ σ) : SR K F H₀ F H ρ σ := ⟨h.gr.here, h.env, h.frh⟩
theorem SR.mix {K : PySem.W.Frag} {F₀ H₀ F H F' H' : Hp} {ρ' : Rho} {σ' : St} (a : Grow F₀ H₀ F H) (h : SR K F H₀ F' H' ρ' σ') : SR K F₀ H₀ F' H' ρ' σ' := ⟨a.mix h.gr, h.env, h.frh⟩
theorem PostS.here {F₀ H₀ F H : Hp} {r : Res Fl} {E : Ends} (a : Grow F₀ H₀ F H) (q : PostS X F₀ H₀ r E) : PostS X F H₀ r E := by
  cases r with
  | ok fl =>
    cases fl with
    | nx ρ => exact fun σ F H S => q σ F H (SR.mix a S)
    | bk ρ => exact fun σ F H S => q σ F H (SR.mix a S)
    | ct ρ => exact fun σ F H S => q σ F H (SR.mix a S)
    | rt d => exact fun v F H g r => q v F H (a.mix g) r
  | ex _ => exact q
  | bad => exact q
section
variable {tg iter : Expr} {body : List Stmt} {i : Nat}
theorem some_base {H₀ : Hp} (hb : ISs X body u) : PSs X body (fun E σ H => ∃ F₁, tS X F₁ H₀ u E σ H) := fun pins s σ H E I ⟨F₁, h⟩ => hb F₁ H₀ pins s σ H E I h
/-- over range(n) -/
def upTo (lo : Int) (n : Nat) : List D := (List.range n).map fun (k : Nat) => D.int (lo + (k : Int))
end

/-! ### a def -/
def rho0 (n : Nat) (ds : List D) : Rho := ds.map .val ++ List.replicate (n - ds.length) .no
def out : Fl → Res D
  | .nx _ => .ok .non
  | .rt d => .ok d
  | _ => .bad
/-- a def of k parameters, n names in all -/
def runD (k n : Nat) (g : MS) (ds : List D) : Res D := if ds.length = k then (g (rho0 n ds)).bind out else .bad
end
theorem env0 {K : PySem.W.Frag} {F H : Hp} {ds : List D} {vs : List V} {N : List Str} (ti : TbF F H) (s : Same F H) (r : DatL K F ds vs) : EnvR K F H (rho0 N.length ds) (start N vs) := by
  have hl := r.length
  have noown : ∀ (i : Nat) es, (rho0 N.length ds)[i]? ≠ some (.own es) := fun i es e => by
    unfold rho0 at e
    have hm := List.mem_of_getElem? e
    rcases List.mem_append.mp hm with h | h
    · obtain ⟨d, _, h⟩ := List.mem_map.mp h; cases h
    · have := List.eq_of_mem_replicate h; cases this
  refine ⟨ti, s, ?_, fun i sl e => ?_, fun i j es fs a _ e => absurd e (noown i es)⟩
  · unfold rho0 L2.start
    simp only [List.length_append, List.length_map, List.length_replicate]
    omega
  · unfold rho0 at e
    unfold L2.start
    by_cases hi : i < ds.length
    · rw [List.getElem?_append_left (by simpa using hi), List.getElem?_map] at e
      rw [List.getElem?_append_left (by simp; omega), List.getElem?_map]
      cases q : ds[i]? with
      | none => rw [q] at e; cases e
      | some d =>
        rw [q] at e; cases e
        obtain ⟨x, h1, h2⟩ := pr_get r.paired q
        exact ⟨some x, by rw [h1]; rfl, x, rfl, h2⟩
    · have hi' : i < (ds.map Slot.val ++ List.replicate (N.length - ds.length) Slot.no).length := (List.getElem?_eq_some_iff.mp e).1
      rw [List.getElem?_append_right (by simpa using hi)] at e
      rw [List.getElem?_replicate] at e
      split at e
      · cases e
        rename_i hz
        simp only [List.length_map] at hz
        refine ⟨none, ?_, trivial⟩
        rw [List.getElem?_append_right (by simp; omega), List.getElem?_replicate]
        simp only [List.length_map]
        rw [if_pos (by omega)]
      · cases e
/-- THE RULE for a def -/
theorem def_ok {P : Program} {w : World} {K : PySem.W.Frag} {mg : Str → Option Value} {base : Heap} {x qual : Str} {st : Stmt} {f : Addr} {fd : FuncData} {N ps : List Str} {k : Nat} {g : MS} (F : Fun K x qual st f fd) (S : FnScope N ps (defScope st))
    (hbody : ∀ (cdv : Value) (A : Around) (outer : List Env) (s : Shared) (H : Hp) (E : XK), Room k (A.deeper (envOfC qual (defScope st) s.heap.objs.size f cdv)) →
      ISs (cxOf CX0 P w K mg base N qual (defScope st) f cdv A outer s H E).nox (defBody st) g) : FnOk P w K mg base CX0 (k + 1) f fd ps (spD K (runD ps.length N.length g)) := by
  refine F.ok S (fun vs H Q E h => ?_) (fun cdv A outer s H vs Q E hr h => ?_)
  · obtain ⟨F, ds, _, _, r, q⟩ := h
    unfold runD at q
    split at q
    · rename_i e; rw [← r.length]; exact e
    · exact q.elim
  · obtain ⟨F, ds, ti, s', r, q⟩ := h
    refine ⟨_, hbody cdv A outer s H E hr F H, rho0 N.length ds, F, ⟨.refl s', env0 ti s' r, fun i es a e => ?_⟩, ?_⟩
    · exfalso
      unfold rho0 at e
      have hm := List.mem_of_getElem? e
      rcases List.mem_append.mp hm with h | h
      · obtain ⟨d, _, h⟩ := List.mem_map.mp h; cases h
      · have := List.eq_of_mem_replicate h; cases this
    · unfold runD at q
      split at q
      · revert q
        cases g (rho0 N.length ds) with
        | ok fl =>
          intro q
          cases fl with
          | nx ρ => exact fun σ F' H' S' => q .non F' H' S'.gr (by simp only [Dat])
          | rt d => exact fun v F' H' g' r' => q v F' H' g' r'
          | bk ρ => exact q.elim
          | ct ρ => exact q.elim
        | ex _ => exact fun q => q
        | bad => exact fun q => q
      · exact q.elim
end R
end
section
set_option Elab.async false
set_option linter.all false
set_option maxRecDepth 100000
set_option maxHeartbeats 4000000
namespace R
open PySem PySem.Spec PyProof.Rows L2
section
variable {prog : Program} {w : World} {A : Around} {E : Value → Shared → Prop} {s : Shared}
theorem getItem_tuple_whole {t sl : Addr} {items : Array Value} {vl vu : Value} {lo hi : Option Int} {Q : Value → Shared → Prop} (ht : IsTup s.heap t items) (hs : s.heap.IsSliceOf sl vl vu .none) (pl : IsPart vl lo) (pu : IsPart vu hi)
    (hw : HT.sIx items.size 0 lo = 0 ∧ HT.sIx items.size items.size hi = items.size) (h : Q (.ref t) s) : wpAny (model prog w) A (getItem (.ref t) (.ref sl)) Q E s := by
  obtain ⟨os, hos, hcs, hds⟩ := id hs
  have hTs : s.TypeIs (.ref sl) "slice" := ⟨os, hos, hcs⟩
  unfold getItem
  try with_reducible refine wpAny_holding ?_
  first | refine wpAny_bind (wpAny_pure ?_) | skip
  refine wpAny_bind (wpAny_sequenceKey ht.typeIs (by decide) ?_)
  refine wpAny_bind (wpAny_callSpecial?_slot (name := Str.ofString "__getitem__") ht.typeIs PyProof.Rows.slot_tuple_getitem
    (wpAny_call_entry PyProof.Rows.slot_tuple_getitem ht.typeIs entry_tuple_getitem ?_ (args_tuple_getitem _ _)))
  show wpAny _ _ (Builtin.Tuple.tupleItemsOf (.ref t) >>= _) _ _ s
  refine wpAny_bind (tupleItemsOf_ ht ?_)
  refine wpAny_bind (wpAny_typeOf hTs ?_)
  rw [if_pos (by decide)]
  refine wpAny_bind (HT.sliceApplied_gen hs pl pu ?_)
  have hno : ((((HT.sIx items.size 0 lo : Nat) : Int) == 0 && (1 : Int) == 1 && (HT.sIx items.size items.size hi - HT.sIx items.size 0 lo) == items.size) = true) := by
    rw [hw.1, hw.2]; simp
  show wpAny _ _ (if (((HT.sIx items.size 0 lo : Nat) : Int) == 0 && (1 : Int) == 1 && (HT.sIx items.size items.size hi - HT.sIx items.size 0 lo) == items.size) = true then _ else _) _ _ s
  rw [if_pos hno]
  unfold Builtin.Tuple.tupleIsExact
  refine wpAny_bind (wpAny_bind (wpAny_typeOf ht.typeIs ?_))
  refine wpAny_pure ?_
  rw [if_pos (by decide)]
  exact wpAny_bind (wpAny_rule (wpAny_pure ⟨_, rfl, wpAny_pure h⟩))
theorem rev_adjust (n : Nat) : Builtin.Slice.sliceAdjust none none (-1) (n : Int) = ((n : Int) - 1, -1) := by
  unfold Builtin.Slice.sliceAdjust
  simp
theorem rev_places (n : Nat) : Builtin.Slice.slicePlaces ((n : Int) - 1) (-1) (-1) = n := by
  unfold Builtin.Slice.slicePlaces
  have h1 : ¬ ((-1 : Int) > 0) := by omega
  simp only [h1, if_false]
  split
  · have : (-(-1) : Int) = 1 := rfl
    rw [this, Int.ediv_one]; omega
  · omega
theorem rev_items (xs : Array Value) : ((List.range xs.size).filterMap fun (k : Nat) => xs[((xs.size : Int) - 1 + (k : Int) * (-1)).toNat]?) = xs.toList.reverse := by
  apply List.ext_getElem?
  intro i
  have e : ∀ k ∈ List.range xs.size, (fun (k : Nat) => xs[((xs.size : Int) - 1 + (k : Int) * (-1)).toNat]?) k = some (xs.getD (xs.size - 1 - k) .none) := by
    intro k hk
    have hk' : k < xs.size := List.mem_range.mp hk
    have e1 : ((xs.size : Int) - 1 + (k : Int) * (-1)).toNat = xs.size - 1 - k := by omega
    have hlt : xs.size - 1 - k < xs.size := by omega
    show xs[((xs.size : Int) - 1 + (k : Int) * (-1)).toNat]? = _
    rw [e1]
    simp [Array.getD, hlt]
  have gen : ∀ (l : List Nat) (f : Nat → Option Value) (g : Nat → Value), (∀ k ∈ l, f k = some (g k)) → l.filterMap f = l.map g := by
    intro l f g
    induction l with
    | nil => intro _; rfl
    | cons k r ih =>
      intro hl
      rw [List.filterMap_cons, hl k List.mem_cons_self, List.map_cons, ih fun j hj => hl j (List.mem_cons_of_mem _ hj)]
  rw [gen _ _ _ e, List.getElem?_map]
  by_cases hi : i < xs.size
  · rw [List.getElem?_range hi, List.getElem?_reverse (by simpa using hi)]
    have hlt : xs.size - 1 - i < xs.size := by omega
    simp [Array.getD, hlt]
  · rw [List.getElem?_eq_none (by simpa using hi), List.getElem?_eq_none (by simp; omega)]; rfl
theorem sliceApplied_rev {sl : Addr} {t' : Tok} {n : Nat} {Q : Int × Int × Nat → Shared → Prop} (hs : s.heap.IsSliceOf sl .none .none (.int (-1) t'))
    (h : Q ((n : Int) - 1, -1, n) s) : wpAny (model prog w) A (Builtin.Slice.sliceApplied (.ref sl) (pure (n : Int))) Q E s := by
  obtain ⟨os, hos, hcs, hds⟩ := id hs
  unfold Builtin.Slice.sliceApplied Builtin.Slice.sliceFields
  refine wpAny_bind (wpAny_bind (wpAny_field hos hds (x := .none) rfl (wpAny_bind (wpAny_field hos hds (x := .none) rfl (wpAny_bind (wpAny_field hos hds (x := .int (-1) t') rfl (wpAny_pure ?_)))))))
  refine wpAny_bind (PyProof.Rows.slicePart_int ?_)
  show wpAny _ _ (if ((-1 : Int) == 0) = true then _ else _) _ _ s
  rw [if_neg (by decide)]
  refine wpAny_bind (PyProof.Rows.slicePart_none (wpAny_bind (PyProof.Rows.slicePart_none (wpAny_bind (wpAny_pure ?_)))))
  show wpAny _ _ (match Builtin.Slice.sliceAdjust none none (-1) (n : Int) with | (lo, hi) => pure (lo, (-1 : Int), Builtin.Slice.slicePlaces lo hi (-1))) _ _ s
  rw [rev_adjust n]
  show wpAny _ _ (pure ((n : Int) - 1, (-1 : Int), Builtin.Slice.slicePlaces ((n : Int) - 1) (-1) (-1))) _ _ s
  rw [rev_places]
  exact wpAny_pure h
theorem getItem_tuple_rev {t sl : Addr} {items : Array Value} {t' : Tok} {Q : Value → Shared → Prop} (ht : IsTup s.heap t items) (hs : s.heap.IsSliceOf sl .none .none (.int (-1) t'))
    (h : Q (.ref s.heap.objs.size) { s with heap := s.heap.push { cls := .type "tuple", data := .seq items.toList.reverse.toArray } }) (hsz : items.size ≤ sizeLine) : wpAny (model prog w) A (getItem (.ref t) (.ref sl)) Q E s := by
  have htake : sizeOk (.seq items.toList.reverse.toArray) := by
    show items.toList.reverse.toArray.size ≤ sizeLine
    simpa using hsz
  obtain ⟨os, hos, hcs, hds⟩ := id hs
  have hTs : s.TypeIs (.ref sl) "slice" := ⟨os, hos, hcs⟩
  unfold getItem
  try with_reducible refine wpAny_holding ?_
  first | refine wpAny_bind (wpAny_pure ?_) | skip
  refine wpAny_bind (wpAny_sequenceKey ht.typeIs (by decide) ?_)
  refine wpAny_bind (wpAny_callSpecial?_slot (name := Str.ofString "__getitem__") ht.typeIs PyProof.Rows.slot_tuple_getitem
    (wpAny_call_entry PyProof.Rows.slot_tuple_getitem ht.typeIs entry_tuple_getitem ?_ (args_tuple_getitem _ _)))
  show wpAny _ _ (Builtin.Tuple.tupleItemsOf (.ref t) >>= _) _ _ s
  refine wpAny_bind (tupleItemsOf_ ht ?_)
  refine wpAny_bind (wpAny_typeOf hTs ?_)
  rw [if_pos (by decide)]
  refine wpAny_bind (sliceApplied_rev hs ?_)
  have hno : ¬ ((((items.size : Int) - 1 == 0 && (-1 : Int) == 1 && items.size == items.size)) = true) := by simp
  show wpAny _ _ (if ((items.size : Int) - 1 == 0 && (-1 : Int) == 1 && items.size == items.size) = true then _ else _) _ _ s
  rw [if_neg hno, rev_items]
  first
    | exact wpAny_bind (m := Builtin.Tuple.tupleExact _) (wpAny_newObj_type (wpAny_pure ⟨_, rfl, wpAny_pure h⟩) htake)
    | exact wpAny_bind (m := Builtin.Tuple.tupleExact _) (wpAny_newObj_type (wpAny_bind (wpAny_pure (wpAny_pure ⟨_, rfl, wpAny_pure h⟩))) htake)
    | exact wpAny_bind (wpAny_bind (m := Builtin.Tuple.tupleExact _) (wpAny_newObj_type (wpAny_pure (wpAny_pure ⟨_, rfl, wpAny_pure h⟩)) htake))
    | exact wpAny_bind (wpAny_bind (m := Builtin.Tuple.tupleExact _) (wpAny_newObj_type (wpAny_pure ⟨_, rfl, wpAny_pure h⟩) htake))
/-! ### t * n -/
theorem noFill_tuple_mul : fillsNumberSlot (.type "tuple") "mul" = pure false :=
  PySem.fillsNumberSlot_seq (id := "tuple.__mul__") (r := some (.builtin "tuple.__rmul__")) F.slot_tuple_mul.lookup (by decide +kernel) F.slot_tuple_rmul.lookup (by decide +kernel)
theorem repeat_tuple : seqRepeat? (.type "tuple") = pure (some (.builtin "tuple.__mul__")) := by
  unfold seqRepeat?
  rw [PySem.seqSlot_of (T := "tuple") (name := "__mul__") (id := "tuple.__mul__") F.slot_tuple_mul.lookup (by decide +kernel), PySem.seqSlot_of (T := "tuple") (name := "__rmul__") (id := "tuple.__rmul__") F.slot_tuple_rmul.lookup (by decide +kernel)]
  rfl
theorem int_rmul_tuple (a : Int) (t : Tok) (l : Addr) (items : Array Value) (n : Nat) (d : Option Addr) (sl : Array (Option Value)) :
    Meets (Builtin.«int.__rmul__» ⟨[.int a t, .ref l], []⟩) (fun _ R s => s.heap.get? l = some { cls := .type "tuple", dict := d, data := .seq items n, slots := sl } ∧ R (.ok (.ret Value.notImplemented)) s) :=
  .of_wp fun prog w A R s h => by obtain ⟨hp, g, d, tk, os⟩ := s; obtain ⟨hl, h⟩ := h; wp_walk; exact ⟨_, rfl, h⟩
theorem tuple_mul (l : Addr) (items : Array Value) (n : Nat) (x : Int) (u : Tok) (d : Option Addr) (sl : Array (Option Value)) (h1 : ¬ (x < -(2 ^ 63) || x ≥ 2 ^ 63) = true) (h2 : ¬ (items.isEmpty || x == 1) = true) (h3 : ¬ (x ≤ 0 || items.isEmpty) = true)
    (h4 : ¬ ((items.size : Int) * x > (2 ^ 63 - 1) / 8)) (h5 : ¬ Builtin.Tuple.tupleTooMany ((items.size : Int) * x) = true) (h6 : (List.foldl (fun x1 x2 => x1 ++ x2) #[] (List.replicate x.toNat items)).size ≤ sizeLine) :
    Meets (Builtin.«tuple.__mul__» ⟨[.ref l, .int x u], []⟩) (fun _ R s => s.heap.get? l = some { cls := .type "tuple", dict := d, data := .seq items n, slots := sl } ∧ R (.ok (.ret (Value.ref s.heap.objs.size))) { s with heap := s.heap.push { cls := Value.type "tuple", data := Data.seq (List.foldl (fun x1 x2 => x1 ++ x2) #[] (List.replicate x.toNat items)) }, toks := s.toks }) :=
  .of_wp fun prog w A R s h => by
    obtain ⟨hp, g, d, tk, os⟩ := s; obtain ⟨hl, h⟩ := h
    wp_walk
    rw [if_neg h1]
    refine wpAny_bind (tupleItemsOf_ ⟨_, hl, rfl, _, rfl⟩ ?_)
    rw [if_neg h2, if_neg h3, if_neg h4, if_neg h5]
    first
      | exact wpAny_bind (m := Builtin.Tuple.tupleExact _) (wpAny_newObj_type (wpAny_pure ⟨_, rfl, h⟩) h6)
      | exact wpAny_bind (m := Builtin.Tuple.tupleExact _) (wpAny_newObj_type (wpAny_pure ⟨_, rfl, wpAny_pure h⟩) h6)
theorem fold_rep (xs : List Value) (k : Nat) : List.foldl (fun x1 x2 => x1 ++ x2) #[] (List.replicate k xs.toArray) = ((List.replicate k xs).flatten).toArray := by
  have gen : ∀ (k : Nat) (acc : List Value), List.foldl (fun x1 x2 => x1 ++ x2) acc.toArray (List.replicate k xs.toArray) = (acc ++ (List.replicate k xs).flatten).toArray := by
    intro k
    induction k with
    | zero => intro acc; simp
    | succ k ih =>
      intro acc
      rw [List.replicate_succ, List.foldl_cons, List.replicate_succ, List.flatten_cons]
      have e : acc.toArray ++ xs.toArray = (acc ++ xs).toArray := by simp
      rw [e, ih, List.append_assoc]
  exact gen k []
theorem rep_len {α : Type} (xs : List α) (k : Nat) : ((List.replicate k xs).flatten).length = k * xs.length := by
  induction k with
  | zero => simp
  | succ k ih => rw [List.replicate_succ, List.flatten_cons, List.length_append, ih, Nat.succ_mul]; omega
theorem mul_tup {t : Addr} {vs : List Value} {x : Int} {u : Tok} {Q : Value → Shared → Prop} (ht : IsTup s.heap t vs.toArray) (hv : vs ≠ []) (h2 : 2 ≤ x) (hx : x ≤ 1000) (hl : vs.length ≤ 1000)
    (h : Q (.ref s.heap.objs.size) { s with heap := s.heap.push { cls := .type "tuple", data := .seq ((List.replicate x.toNat vs).flatten).toArray } }) : wpAny (model prog w) A (binaryOp .Mult (.ref t) (.int x u)) Q E s := by
  obtain ⟨⟨cls, dd, data, sl⟩, ho, hc, n, hd⟩ := id ht
  simp only at hc hd
  subst hc hd
  have he : vs.toArray.isEmpty = false := by
    cases vs with
    | nil => exact absurd rfl hv
    | cons _ _ => rfl
  have hle : vs.length * x.toNat ≤ 1000 * 1000 := Nat.mul_le_mul hl (by omega)
  have e : ((vs.toArray.size : Int) * x) = ((vs.length * x.toNat : Nat) : Int) := by
    rw [List.size_toArray, Int.natCast_mul]
    congr 1
    omega
  have hs := sizeLine_eq'
  rw [← fold_rep] at h
  exact wpAny_binaryOp_repeat_ref (T := "tuple") (U := "int") (by decide) ⟨_, ho, rfl⟩ (fun s' => typeIs_int s' x u) noFill_tuple_mul F.fills_int_mul F.slot_int_rmul repeat_tuple F.slot_int_index.lookup
    (call_meets F.slot_int_rmul (typeIs_int s x u) F.entry_int_rmul (F.args_int_rmul_2 _ _) (int_rmul_tuple x u t vs.toArray n dd sl)
      ⟨ho, rfl, ⟨_, ho, rfl⟩, call_meets F.slot_tuple_mul ⟨_, ho, rfl⟩ F.entry_tuple_mul (F.args_tuple_mul_2 _ _)
        (tuple_mul t vs.toArray n x u dd sl (by simp; omega) (by rw [he]; simp; omega) (by rw [he]; simp; omega) (by rw [e]; omega) (by rw [e]; unfold Builtin.Tuple.tupleTooMany; exact fun z => absurd (of_decide_eq_true z) (by omega))
          (by rw [fold_rep, List.size_toArray, rep_len, Nat.mul_comm]; omega))
        ⟨ho, h⟩⟩)
  where sizeLine_eq' : 1000000 ≤ sizeLine := by decide
end
end R
end
section
set_option Elab.async false
set_option linter.all false
set_option maxRecDepth 100000
set_option maxHeartbeats 4000000
namespace R
open PySem PySem.Spec PyProof.Rows L2
variable [Tbl]

/-! ### operations on data -/
def rD (X : Cx) (m : D → D → Res D) : R2 := fun x y H Q => ∃ F d1 d2, Same F H ∧ Dat X.K F d1 x ∧ Dat X.K F d2 y ∧ Post (Dat X.K) F H (m d1 d2) Q
def rD1 (X : Cx) (m : D → Res D) : V → Hp → VK → Prop := fun x H Q => ∃ F d, Same F H ∧ Dat X.K F d x ∧ Post (Dat X.K) F H (m d) Q
def rDL (X : Cx) (m : List D → Res D) : List V → Hp → VK → Prop := fun xs H Q => ∃ F ds, Same F H ∧ DatL X.K F ds xs ∧ Post (Dat X.K) F H (m ds) Q
section
variable {X : Cx} {a b c e : Expr} {es : List Expr} {f g h : ME} {pos : Pos} {m m' : D → D → Res D}
theorem op2_rD : Op2 X (rD X m) m := fun F H d1 d2 v1 v2 Q s h1 h2 q => ⟨F, d1, d2, s, h1, h2, q⟩
theorem op1_rD {m : D → Res D} : Op1 X (rD1 X m) m := fun F H d v Q s h q => ⟨F, d, s, h, q⟩
theorem opL_rD {m : List D → Res D} : OpL X (rDL X m) m := fun F H ds vs Q s h q => ⟨F, ds, s, h, q⟩
theorem ie_bad : IE X e fun _ => .bad := fun pins s σ H Q I ⟨ρ, F, E, q⟩ => q.elim
theorem it_bad : IT X e fun _ => .bad := fun pins s σ H Q I ⟨ρ, F, E, q⟩ => q.elim
theorem ie_bin {op : Operator} (ho : OpR X (binaryOp op) (rD X m)) (ha : IE X a f) (hb : IE X b g) : IE X (.BinOp a op b pos) (m2 m f g) := ie_op ho op2_rD ha hb
theorem ie_cm {op : CmpOp} (ho : OpR X (compareOp op) (rD X m)) (ha : IE X a f) (hb : IE X b g) (hm : behindInMarks op b = false) : IE X (.Compare a [op] [b] pos) (m2 m f g) := ie_cmp ho op2_rD ha hb hm
theorem it_cm {op : CmpOp} (ho : OpR X (compareOp op) (rD X m)) (ha : IE X a f) (hb : IE X b g) (hm : behindInMarks op b = false) : IT X (.Compare a [op] [b] pos) (mB (m2 m f g)) := it_cmp ho op2_rD ha hb hm

/-! ints -/
def dAdd : D → D → Res D
  | .int a, .int b => .ok (.int (a + b))
  | .str x, .str y => if x.length + y.length ≤ sizeLine then .ok (.str (x ++ y)) else .bad
  | .tup xs, .tup ys => if xs.length + ys.length ≤ sizeLine then .ok (.tup (xs ++ ys)) else .bad
  | .lst xs, .lst ys => if xs.length + ys.length ≤ sizeLine then .ok (.lst (xs ++ ys)) else .bad
  | _, _ => .bad
theorem len_app (x y : Str) : (x ++ y).length = x.length + y.length := by
  show (x.cps ++ y.cps).size = _
  rw [Array.size_append]; rfl
theorem om_add : OpR X (binaryOp .Add) (rD X dAdd) := by
  intro pins s σ H x y v u Q I rx ry h
  obtain ⟨F, d1, d2, sb, h1, h2, q⟩ := h
  cases d1 <;> cases d2 <;> try exact q.elim
  · simp only [Dat] at h1 h2; subst h1 h2
    exact op_add pins s σ H _ _ v u Q I rx ry ⟨_, _, rfl, rfl, post_ok q sb (by simp only [Dat])⟩
  · simp only [Dat] at h1 h2; obtain ⟨rfl, z1⟩ := h1; obtain ⟨rfl, z2⟩ := h2
    simp only [dAdd] at q
    split at q
    · rename_i z
      exact op_add_str pins s σ H _ _ v u Q I rx ry ⟨_, _, rfl, rfl, z, post_ok q sb (by simp only [Dat]; exact ⟨trivial, by rw [len_app]; exact z⟩)⟩
    · exact q.elim
  · rename_i xs ys
    simp only [Dat] at h1 h2
    obtain ⟨p1, vs, rfl, hq1, hl1⟩ := h1
    obtain ⟨p2, ws, rfl, hq2, hl2⟩ := h2
    simp only [dAdd] at q
    split at q
    · rename_i z
      have hq1' := Same.seqT sb hq1
      have hq2' := Same.seqT sb hq2
      have l1 := hl1.length
      have l2 := hl2.length
      by_cases hx : vs = []
      · subst hx
        have hxs : xs = [] := List.length_eq_zero_iff.mp l1
        subst hxs
        cases rx
        cases ry
        obtain ⟨its, r1, p1', _⟩ := I.tuple hq1'
        obtain ⟨its2, r2, p2', _⟩ := I.tuple hq2'
        have e0 : its = [] := r1.nil_iff.mpr rfl
        subst e0
        obtain ⟨⟨cls, dd, data, sl⟩, ho, hc, n, hd⟩ := id p1'
        obtain ⟨⟨cls2, dd2, data2, sl2⟩, ho2, hc2, n2, hd2⟩ := id p2'
        simp only at hc hd hc2 hd2
        subst hc hd hc2 hd2
        exact concat_meets ⟨_, ho, rfl⟩ ⟨_, ho2, rfl⟩ noFill_tuple_add seq_tuple_add PySem.F.slot_tuple_add PySem.F.entry_tuple_add (PySem.F.args_tuple_add_2 _ _)
          (tuple_addW0 p1 p2 _ _ n n2 dd dd2 sl sl2 (by simp)) ⟨ho, ho2, ⟨.ref p2, H, I, rfl, post_ok q sb (by simp only [Dat, List.nil_append]; exact ⟨p2, ws, rfl, hq2, hl2⟩)⟩⟩
      · refine op_catT pins s σ H _ _ v u Q I rx ry ⟨p1, p2, vs, ws, rfl, rfl, hq1', hq2', hx, by omega, fun hy => ?_, fun hy p hp => ?_⟩
        · subst hy
          have hys : ys = [] := List.length_eq_zero_iff.mp l2
          subst hys
          exact post_ok q sb (by simp only [Dat, List.append_nil]; exact ⟨p1, vs, rfl, hq1, hl1⟩)
        · exact post_tup q sb (DatL.of (pr_append hl1.paired hl2.paired)) hp
    · exact q.elim
  · rename_i xs ys
    simp only [Dat] at h1 h2
    obtain ⟨p1, vs, rfl, hq1, hl1⟩ := h1
    obtain ⟨p2, ws, rfl, hq2, hl2⟩ := h2
    simp only [dAdd] at q
    split at q
    · rename_i z
      have l1 := hl1.length
      have l2 := hl2.length
      cases rx
      cases ry
      obtain ⟨its, r1, ⟨⟨cls, dd, data, sl⟩, n, ho, hc, hd, hs⟩, z1⟩ := I.list (Same.seq sb hq1)
      obtain ⟨its2, r2, ⟨⟨cls2, dd2, data2, sl2⟩, n2, ho2, hc2, hd2, hs2⟩, z2⟩ := I.list (Same.seq sb hq2)
      simp only at hc hd hc2 hd2 hs hs2
      subst hc hd hc2 hd2 hs hs2
      have k1 := r1.length
      have k2 := r2.length
      refine concat_meets ⟨_, ho, rfl⟩ ⟨_, ho2, rfl⟩ PySem.noFill_list_add PySem.seq_list_add PySem.F.slot_list_add PySem.F.entry_list_add (PySem.F.args_list_add_2 _ _)
        (list_addW p1 p2 _ _ n n2 none none sl sl2 (by simp only [List.size_toArray]; omega)) ⟨ho, ho2, ?_⟩
      have ea : its.toArray ++ its2.toArray = (its ++ its2).toArray := by simp
      rw [ea]
      exact ⟨.ref _, _, I.lnew (t' := s.toks) (r1.append r2) (by rw [List.length_append]; omega), rfl, post_lst q sb (DatL.of (pr_append hl1.paired hl2.paired)) I.fresh⟩
    · exact q.elim
/-- ints in, a value out -/
theorem om_int {fn : Value → Value → Sem Value} {C : Int → Int → Prop} {gv : Int → Int → V} {gd : Int → Int → D} (rule : OpR X fn (rI C gv)) (hm : ∀ d1 d2 F H Q, Post (Dat X.K) F H (m d1 d2) Q → ∃ i j, d1 = .int i ∧ d2 = .int j ∧ C i j ∧ Post (Dat X.K) F H (.ok (gd i j)) Q)
    (hg : ∀ i j F, Dat X.K F (gd i j) (gv i j)) : OpR X fn (rD X m) := by
  intro pins s σ H x y v u Q I rx ry h
  obtain ⟨F, d1, d2, sb, h1, h2, q⟩ := h
  obtain ⟨i, j, rfl, rfl, hc, q⟩ := hm d1 d2 F H Q q
  simp only [Dat] at h1 h2; subst h1 h2
  exact rule pins s σ H _ _ v u Q I rx ry ⟨i, j, rfl, rfl, hc, post_ok q sb (hg i j F)⟩
theorem rI0_rI {fn : Value → Value → Sem Value} {gv : Int → Int → V} (h : OpR X fn (rI0 gv)) : OpR X fn (rI (fun _ _ => True) gv) := by
  intro pins s σ H x y v u Q I rx ry q
  obtain ⟨i, j, e1, e2, _, q⟩ := q
  exact h pins s σ H x y v u Q I rx ry ⟨i, j, e1, e2, q⟩
def dI (C : Int → Int → Bool) (g : Int → Int → D) : D → D → Res D
  | .int a, .int b => if C a b = true then .ok (g a b) else .bad
  | _, _ => .bad
theorem dI_post {C : Int → Int → Bool} {g : Int → Int → D} {F H : Hp} {Q : V → Hp → Prop} (d1 d2 : D) (q : Post (Dat X.K) F H (dI C g d1 d2) Q) : ∃ i j, d1 = .int i ∧ d2 = .int j ∧ C i j = true ∧ Post (Dat X.K) F H (.ok (g i j)) Q := by
  cases d1 <;> cases d2 <;> try exact q.elim
  rename_i i j
  simp only [dI] at q
  split at q
  · rename_i h; exact ⟨i, j, rfl, rfl, h, q⟩
  · exact q.elim
def dSub : D → D → Res D := dI (fun _ _ => true) fun a b => .int (a - b)
theorem om_sub : OpR X (binaryOp .Sub) (rD X dSub) := om_int (gd := fun a b => .int (a - b)) (rI0_rI op_sub) (fun d1 d2 F H Q q => let ⟨i, j, e1, e2, _, q⟩ := dI_post d1 d2 q; ⟨i, j, e1, e2, trivial, q⟩) fun i j F => by simp only [Dat]
def dFdiv : D → D → Res D := dI (fun _ j => decide (0 < j ∧ j < 1073741824)) fun a b => .int (a / b)
theorem om_fdiv : OpR X (binaryOp .FloorDiv) (rD X dFdiv) := om_int (gd := fun a b => .int (a / b)) op_fdiv (fun d1 d2 F H Q q => let ⟨i, j, e1, e2, c, q⟩ := dI_post d1 d2 q; ⟨i, j, e1, e2, (show 0 < j ∧ j < 1073741824 from of_decide_eq_true c), q⟩) fun i j F => by simp only [Dat]
def dMod : D → D → Res D := dI (fun _ j => decide (0 < j)) fun a b => .int (a % b)
theorem om_mod : OpR X (binaryOp .Mod) (rD X dMod) := om_int (gd := fun a b => .int (a % b)) op_mod (fun d1 d2 F H Q q => let ⟨i, j, e1, e2, c, q⟩ := dI_post d1 d2 q; ⟨i, j, e1, e2, of_decide_eq_true c, q⟩) fun i j F => by simp only [Dat]
def dPow : D → D → Res D := dI (fun i j => decide (0 ≤ j ∧ j ≤ 1000 ∧ i.natAbs < 2 ^ 64)) fun a b => .int (a ^ b.toNat)
theorem om_pow : OpR X (binaryOp .Pow) (rD X dPow) := om_int (gd := fun a b => .int (a ^ b.toNat)) op_pow (fun d1 d2 F H Q q => let ⟨i, j, e1, e2, c, q⟩ := dI_post d1 d2 q; ⟨i, j, e1, e2, (by have := of_decide_eq_true c; exact ⟨this.1, by omega, this.2.2⟩), q⟩) fun i j F => by simp only [Dat]
def smallI (i : Int) : Bool := decide (-(2 ^ 64) < i ∧ i < 2 ^ 64)
def dMul : D → D → Res D
  | .int a, .int b => if smallI a || smallI b then .ok (.int (a * b)) else .bad
  | .str x, .int n => if 0 ≤ n ∧ n ≤ 100000 ∧ x.length ≤ 100 then .ok (.str (PySem.Txt.mul x n)) else .bad
  | .tup ds, .int n => if 2 ≤ n ∧ n ≤ 1000 ∧ 0 < ds.length ∧ ds.length ≤ 1000 then .ok (.tup ((List.replicate n.toNat ds).flatten)) else .bad
  | _, _ => .bad
theorem txt_mul_len (x : Str) (n : Int) : (PySem.Txt.mul x n).length ≤ x.length * n.toNat := by
  unfold PySem.Txt.mul
  split
  · show 0 ≤ _; omega
  · rename_i h1
    split
    · rename_i h2
      rw [Bool.or_eq_true] at h2
      rcases h2 with h2 | h2
      · have : n = 1 := eq_of_beq h2
        subst this; simp
      · have : x.length = 0 := eq_of_beq h2
        omega
    · have e : ∀ (k : Nat) (acc : Array Nat), (List.foldl (fun x1 x2 => x1 ++ x2) acc (List.replicate k x.cps)).size = acc.size + x.length * k := by
        intro k
        induction k with
        | zero => intro acc; simp
        | succ k ih =>
          intro acc
          rw [List.replicate_succ, List.foldl_cons, ih, Array.size_append, Nat.mul_succ]
          show acc.size + x.cps.size + x.length * k = acc.size + (x.length * k + x.length)
          have : x.cps.size = x.length := rfl
          omega
      show (List.foldl (fun x1 x2 => x1 ++ x2) #[] (List.replicate n.toNat x.cps)).size ≤ _
      rw [e]; simp
theorem rep_vals {xs : List V} {us : List Value} (r : Vals xs us) : ∀ k : Nat, Vals ((List.replicate k xs).flatten) ((List.replicate k us).flatten)
  | 0 => .nil
  | k + 1 => by
    rw [List.replicate_succ, List.flatten_cons, List.replicate_succ, List.flatten_cons]
    exact r.append (rep_vals r k)
theorem rep_paired {α β : Type} {G : α → β → Prop} {xs : List α} {us : List β} (r : Paired G xs us) : ∀ k : Nat, Paired G ((List.replicate k xs).flatten) ((List.replicate k us).flatten)
  | 0 => .nil
  | k + 1 => by
    rw [List.replicate_succ, List.flatten_cons, List.replicate_succ, List.flatten_cons]
    exact pr_append r (rep_paired r k)
theorem om_mul : OpR X (binaryOp .Mult) (rD X dMul) := by
  intro pins s σ H x y v u Q I rx ry h
  obtain ⟨F, d1, d2, sb, h1, h2, q⟩ := h
  cases d1 <;> cases d2 <;> try exact q.elim
  · rename_i i j
    simp only [Dat] at h1 h2; subst h1 h2
    simp only [dMul] at q
    split at q
    · rename_i hc
      refine op_mul pins s σ H _ _ v u Q I rx ry ⟨_, _, rfl, rfl, ?_, post_ok q sb (by simp only [Dat])⟩
      rw [Bool.or_eq_true] at hc
      rcases hc with hc | hc
      · exact .inl (of_decide_eq_true hc)
      · exact .inr (of_decide_eq_true hc)
    · exact q.elim
  · rename_i z n
    simp only [Dat] at h1 h2; obtain ⟨rfl, hz⟩ := h1; subst h2
    simp only [dMul] at q
    split at q
    · rename_i hn
      obtain ⟨t, rfl⟩ := rx
      obtain ⟨t', rfl⟩ := ry
      have hle : z.length * n.toNat ≤ 100 * 100000 := Nat.mul_le_mul hn.2.2 (by omega)
      have hok : PySem.MulOk z n := by
        refine ⟨?_, fun h1 _ => ?_, fun h1 _ => ?_⟩
        · have e1 : decide (n < -(2 ^ 63 : Int)) = false := decide_eq_false (by omega)
          have e2 : decide (n ≥ 2 ^ 63) = false := decide_eq_false (by omega)
          rw [e1, e2]; rfl
        · have hn1 : 1 ≤ n := by omega
          have hdiv : (100 : Int) ≤ (2 ^ 63 - 1) / n := by
            apply Int.le_ediv_of_mul_le (by omega)
            omega
          omega
        · show Builtin.Str.tooLong (z.length * n.toNat) = false
          unfold Builtin.Str.tooLong
          have hsl := sizeLine_eq
          exact decide_eq_false (by omega)
      exact PySem.SB.mul hok fun t2 k => ⟨.str _, H, I.tok _, ⟨_, rfl⟩, post_ok q sb (by
        simp only [Dat]
        refine ⟨trivial, Nat.le_trans (txt_mul_len z n) ?_⟩
        have := sizeLine_eq
        omega)⟩
    · exact q.elim
  · rename_i ds n
    simp only [Dat] at h1 h2; subst h2
    obtain ⟨p1, vs, rfl, hq1, hl1⟩ := h1
    simp only [dMul] at q
    split at q
    · rename_i hn
      have l1 := hl1.length
      cases rx
      obtain ⟨t', rfl⟩ := ry
      obtain ⟨its, r1, p1', _⟩ := I.tuple (Same.seqT sb hq1)
      have l2 := r1.length
      have hz := sizeLine_eq
      refine mul_tup p1' (fun z => by rw [z, List.length_nil] at l2; omega) hn.1 hn.2.1 (by omega) ?_
      have rv : Vals ((List.replicate n.toNat vs).flatten) ((List.replicate n.toNat its).flatten) := rep_vals r1 _
      refine ⟨.ref s.heap.objs.size, _, I.laid (t' := s.toks) (o := .tup ((List.replicate n.toNat vs).flatten)) (fun b ob q => Heap.get?_push_of_some _ q) (Nat.le_refl _) ?_, rfl, post_tup q sb (DatL.of (rep_paired hl1.paired _)) (I.hok.fresh (Nat.le_refl _))⟩
      refine ⟨?_, _, rv, IsTup.new _ _⟩
      rw [rep_len]
      have : n.toNat * vs.length ≤ 1000 * 1000 := Nat.mul_le_mul (by omega) (by omega)
      omega
    · exact q.elim
def dNeg : D → Res D
  | .int a => .ok (.int (-a))
  | _ => .bad
theorem om_neg : UnR X (unaryOp .USub) (rD1 X dNeg) := by
  intro pins s σ H x v Q I rx h
  obtain ⟨F, d, sb, h1, q⟩ := h
  cases d <;> try exact q.elim
  simp only [Dat] at h1; subst h1
  exact un_neg pins s σ H _ v Q I rx ⟨_, rfl, post_ok q sb (by simp only [Dat])⟩
theorem ie_neg (ha : IE X a f) : IE X (.UnaryOp .USub a pos) (m1 dNeg f) := ie_un om_neg op1_rD ha

/-! ### comparisons -/
def dLt : D → D → Res D
  | .int a, .int b => .ok (.bl (decide (a < b)))
  | .str a, .str b => .ok (.bl (decide (a.cps.toList < b.cps.toList)))
  | _, _ => .bad
def dLe : D → D → Res D
  | .int a, .int b => .ok (.bl (decide (a ≤ b)))
  | .str a, .str b => .ok (.bl (!decide (b.cps.toList < a.cps.toList)))
  | _, _ => .bad
def dGt : D → D → Res D
  | .int a, .int b => .ok (.bl (decide (b < a)))
  | _, _ => .bad
def dGe : D → D → Res D
  | .int a, .int b => .ok (.bl (decide (b ≤ a)))
  | _, _ => .bad
theorem om_lt : OpR X (compareOp .Lt) (rD X dLt) := by
  intro pins s σ H x y v u Q I rx ry h
  obtain ⟨F, d1, d2, sb, h1, h2, q⟩ := h
  cases d1 <;> cases d2 <;> try exact q.elim
  · simp only [Dat] at h1 h2; subst h1 h2
    exact op_lt pins s σ H _ _ v u Q I rx ry ⟨_, _, rfl, rfl, post_ok q sb (by simp only [Dat])⟩
  · simp only [Dat] at h1 h2; obtain ⟨rfl, z1⟩ := h1; obtain ⟨rfl, z2⟩ := h2
    exact op_lt_str pins s σ H _ _ v u Q I rx ry ⟨_, _, rfl, rfl, post_ok q sb (by simp only [Dat])⟩
theorem om_le : OpR X (compareOp .LtE) (rD X dLe) := by
  intro pins s σ H x y v u Q I rx ry h
  obtain ⟨F, d1, d2, sb, h1, h2, q⟩ := h
  cases d1 <;> cases d2 <;> try exact q.elim
  · simp only [Dat] at h1 h2; subst h1 h2
    exact op_le pins s σ H _ _ v u Q I rx ry ⟨_, _, rfl, rfl, post_ok q sb (by simp only [Dat])⟩
  · simp only [Dat] at h1 h2; obtain ⟨rfl, z1⟩ := h1; obtain ⟨rfl, z2⟩ := h2
    obtain ⟨t, rfl⟩ := rx
    obtain ⟨t', rfl⟩ := ry
    exact PySem.P.le_str (fin_bl I (post_ok (b := V.bl _) q sb (by simp only [Dat])) rfl)
theorem om_gt : OpR X (compareOp .Gt) (rD X dGt) := by
  intro pins s σ H x y v u Q I rx ry h
  obtain ⟨F, d1, d2, sb, h1, h2, q⟩ := h
  cases d1 <;> cases d2 <;> try exact q.elim
  simp only [Dat] at h1 h2; subst h1 h2
  exact op_gt pins s σ H _ _ v u Q I rx ry ⟨_, _, rfl, rfl, post_ok q sb (by simp only [Dat])⟩
theorem om_ge : OpR X (compareOp .GtE) (rD X dGe) := by
  intro pins s σ H x y v u Q I rx ry h
  obtain ⟨F, d1, d2, sb, h1, h2, q⟩ := h
  cases d1 <;> cases d2 <;> try exact q.elim
  simp only [Dat] at h1 h2; subst h1 h2
  exact op_ge pins s σ H _ _ v u Q I rx ry ⟨_, _, rfl, rfl, post_ok q sb (by simp only [Dat])⟩
/-- a chain -/
def mCh (m m' : D → D → Res D) (f g h : ME) : ME := fun ρ => (f ρ).bind fun x => (g ρ).bind fun y => (m x y).bind fun z => (dBool z).bind fun k => if k = true then (h ρ).bind fun w => m' y w else .ok (.bl false)
theorem tCh_of {σ : St} {H : Hp} {Q : VK} (q : tD X (mCh m m' f g h) σ H Q) : tChain (rD X m) (rD X m') (tD X f) (tD X g) (tD X h) σ H Q := by
  obtain ⟨ρ, F, E, q⟩ := q
  refine ⟨ρ, F, E, ?_⟩
  have q1 := post_bind (R1 := Dat X.K) q
  revert q1
  cases f ρ with
  | ok d =>
    intro q1 v F1 H1 g1 d1
    obtain ⟨F2, d', g2, d2, q2⟩ := q1 v F1 H1 g1 d1
    refine ⟨ρ, F2, E.grow g2, ?_⟩
    have q3 := post_bind (R1 := Dat X.K) q2
    revert q3
    cases g ρ with
    | ok y =>
      intro q3 v' F3 H3 g3 d3
      obtain ⟨F4, y', g4, d4, q4⟩ := q3 v' F3 H3 g3 d3
      refine ⟨F4, d', y', g4.sub, d2.mono g4.fs, d4, ?_⟩
      have q5 := post_bind (R1 := Dat X.K) q4
      revert q5
      cases m d' y' with
      | ok z =>
        intro q5 vz F5 H5 g5 d5
        obtain ⟨F6, z', g6, d6, q6⟩ := q5 vz F5 H5 g5 d5
        cases z' with
        | bl k =>
          simp only [Dat] at d6
          refine ⟨k, d6, ?_⟩
          cases k with
          | false =>
            refine iteF ?_
            exact post_ok (show Post (Dat X.K) F6 H5 (.ok (.bl false)) Q from q6) g6.sub (by simp only [Dat])
          | true =>
            refine iteT ⟨ρ, F6, ((E.grow g2).grow g4).grow g6, ?_⟩
            have q7 := post_bind (R1 := Dat X.K) (show Post (Dat X.K) F6 H5 ((h ρ).bind fun w => m' y' w) Q from q6)
            revert q7
            cases h ρ with
            | ok w =>
              intro q7 vw F7 H7 g7 d7
              obtain ⟨F8, w', g8, d8, q8⟩ := q7 vw F7 H7 g7 d7
              exact ⟨F8, y', w', g8.sub, (d4.mono g6.fs).mono g8.fs, d8, q8⟩
            | ex _ => exact fun q => q
            | bad => exact fun q => q
        | _ => exact q6.elim
      | ex _ => exact fun q => q
      | bad => exact fun q => q
    | ex _ => exact fun q => q
    | bad => exact fun q => q
  | ex _ => exact fun q => q
  | bad => exact fun q => q
theorem ie_ch {op op' : CmpOp} (ho : OpR X (compareOp op) (rD X m)) (ho' : OpR X (compareOp op') (rD X m')) (ha : IE X a f) (hb : IE X b g) (hc : IE X c h) (hm : lastMarks [op, op'] [b, c] = false := by with_unfolding_all rfl) :
    IE X (.Compare a [op, op'] [b, c] pos) (mCh m m' f g h) := pe_imp (pe_chain ho ho' ha hb hc hm) fun _ _ _ q => tCh_of q
theorem it_ch {op op' : CmpOp} (ho : OpR X (compareOp op) (rD X m)) (ho' : OpR X (compareOp op') (rD X m')) (ha : IE X a f) (hb : IE X b g) (hc : IE X c h) (hm : lastMarks [op, op'] [b, c] = false := by with_unfolding_all rfl) :
    IT X (.Compare a [op, op'] [b, c] pos) (mB (mCh m m' f g h)) := pt_imp (pt_chain ho ho' ha hb hc hm) fun σ H Q q => tB_of (f := mCh m m' f g h) (fun _ _ _ q => tCh_of q) q
end
end R
end
section
set_option Elab.async false
set_option linter.all false
set_option maxRecDepth 100000
set_option maxHeartbeats 4000000
namespace R
open PySem PySem.Spec PyProof.Rows L2
variable [Tbl]

/-! ### equality -/
mutual
def eqD : D → D → Bool
  | .non, .non => true
  | .bl a, .bl b => a == b
  | .bl a, .int b => (if a then 1 else 0) == b
  | .int a, .bl b => a == (if b then 1 else 0)
  | .int a, .int b => a == b
  | .str a, .str b => a == b
  | .tup xs, .tup ys => eqL xs ys
  | .lst xs, .lst ys => eqL xs ys
  | _, _ => false
def eqL : List D → List D → Bool
  | [], [] => true
  | x :: xs, y :: ys => eqD x y && eqL xs ys
  | _, _ => false
end
mutual
def dep : D → Nat
  | .tup xs => depL xs + 1
  | .lst xs => depL xs + 1
  | _ => 0
def depL : List D → Nat
  | [] => 0
  | x :: xs => max (dep x) (depL xs)
end
mutual
theorem eqD_refl : ∀ d : D, eqD d d = true
  | .non => rfl
  | .bl b => by simp [eqD]
  | .int i => by simp [eqD]
  | .str x => by simp [eqD]
  | .tup xs => by rw [eqD]; exact eqL_refl xs
  | .lst xs => by rw [eqD]; exact eqL_refl xs
theorem eqL_refl : ∀ ds : List D, eqL ds ds = true
  | [] => rfl
  | d :: ds => by rw [eqL, eqD_refl d, eqL_refl ds]; rfl
end
section
variable {X : Cx} {pins : List (Addr × Obj)} {σ : St} {H F : Hp} {s : Shared}
theorem tup_lst_no (I : Inv X pins σ H s) {a : Addr} {xs ys : List V} (h : SqT X.K H a xs) (h' : SqL X.K H a ys) : False := by
  obtain ⟨its, r, ⟨o, e, c, n, d⟩, _⟩ := I.tuple h
  obtain ⟨its', r', ⟨o', n', e', c', _, d'⟩, _⟩ := I.list h'
  rw [e] at e'; cases e'
  rw [c] at c'
  exact absurd c' (by decide)
mutual
theorem Dat.inj (I : Inv X pins σ H s) (sb : Same F H) : ∀ {d d' : D} {v : V}, Dat X.K F d v → Dat X.K F d' v → d = d'
  | .non, d', v, h, h' => by
    simp only [Dat] at h; subst h
    cases d' <;> simp only [Dat] at h' <;> first | (obtain ⟨_, _, q, _⟩ := h'; cases q; done) | (obtain ⟨q, _⟩ := h'; cases q; done) | (obtain ⟨q, _⟩ := h'; cases q; rfl) | (cases h'; done) | (cases h'; rfl) | rfl
  | .bl b, d', v, h, h' => by
    simp only [Dat] at h; subst h
    cases d' <;> simp only [Dat] at h' <;> first | (obtain ⟨_, _, q, _⟩ := h'; cases q; done) | (obtain ⟨q, _⟩ := h'; cases q; done) | (obtain ⟨q, _⟩ := h'; cases q; rfl) | (cases h'; done) | (cases h'; rfl) | rfl
  | .int i, d', v, h, h' => by
    simp only [Dat] at h; subst h
    cases d' <;> simp only [Dat] at h' <;> first | (obtain ⟨_, _, q, _⟩ := h'; cases q; done) | (obtain ⟨q, _⟩ := h'; cases q; done) | (obtain ⟨q, _⟩ := h'; cases q; rfl) | (cases h'; done) | (cases h'; rfl) | rfl
  | .str x, d', v, h, h' => by
    simp only [Dat] at h; obtain ⟨rfl, _⟩ := h
    cases d' <;> simp only [Dat] at h' <;> first | (obtain ⟨_, _, q, _⟩ := h'; cases q; done) | (obtain ⟨q, _⟩ := h'; cases q; done) | (obtain ⟨q, _⟩ := h'; cases q; rfl) | (cases h'; done) | (cases h'; rfl) | rfl
  | .tup ds, d', v, h, h' => by
    simp only [Dat] at h; obtain ⟨a, xs, rfl, h1, h2⟩ := h
    cases d' with
    | tup es =>
      simp only [Dat] at h'; obtain ⟨a', ys, e, h1', h2'⟩ := h'
      cases e
      have := I.tuple_inj (Same.seqT sb h1) (Same.seqT sb h1')
      subst this
      rw [DatL.inj I sb h2 h2']
    | lst es =>
      simp only [Dat] at h'; obtain ⟨a', ys, e, h1', h2'⟩ := h'
      cases e
      exact (tup_lst_no I (Same.seqT sb h1) (Same.seq sb h1')).elim
    | str _ => simp only [Dat] at h'; obtain ⟨q, _⟩ := h'; cases q
    | _ => simp only [Dat] at h'; cases h'
  | .lst ds, d', v, h, h' => by
    simp only [Dat] at h; obtain ⟨a, xs, rfl, h1, h2⟩ := h
    cases d' with
    | lst es =>
      simp only [Dat] at h'; obtain ⟨a', ys, e, h1', h2'⟩ := h'
      cases e
      have := I.list_inj (Same.seq sb h1) (Same.seq sb h1')
      subst this
      rw [DatL.inj I sb h2 h2']
    | tup es =>
      simp only [Dat] at h'; obtain ⟨a', ys, e, h1', h2'⟩ := h'
      cases e
      exact (tup_lst_no I (Same.seqT sb h1') (Same.seq sb h1)).elim
    | str _ => simp only [Dat] at h'; obtain ⟨q, _⟩ := h'; cases q
    | _ => simp only [Dat] at h'; cases h'
theorem DatL.inj (I : Inv X pins σ H s) (sb : Same F H) : ∀ {ds es : List D} {xs : List V}, DatL X.K F ds xs → DatL X.K F es xs → ds = es
  | [], es, xs, h, h' => by
    simp only [DatL] at h; subst h
    cases es with
    | nil => rfl
    | cons e es => simp only [DatL] at h'; obtain ⟨_, _, q, _⟩ := h'; cases q
  | d :: ds, es, xs, h, h' => by
    simp only [DatL] at h; obtain ⟨x, r, rfl, h1, h2⟩ := h
    cases es with
    | nil => simp only [DatL] at h'; cases h'
    | cons e es =>
      simp only [DatL] at h'; obtain ⟨x', r', q, h1', h2'⟩ := h'
      cases q
      rw [Dat.inj I sb h1 h1', DatL.inj I sb h2 h2']
end

/-- the items' answers by place -/
def eqAtN (ds es : List D) (j : Nat) : Bool := match ds[j]?, es[j]? with
  | some d, some e => eqD d e
  | _, _ => true
theorem eqL_all : ∀ ds es : List D, eqL ds es = ((List.range (min ds.length es.length)).all (eqAtN ds es) && (ds.length == es.length))
  | [], [] => rfl
  | [], e :: es => by simp [eqL]
  | d :: ds, [] => by simp [eqL]
  | d :: ds, e :: es => by
    have ih := eqL_all ds es
    have e1 : min (d :: ds).length (e :: es).length = min ds.length es.length + 1 := by simp only [List.length_cons]; omega
    rw [eqL, e1, List.range_succ_eq_map, List.all_cons, List.all_map, ih]
    have e2 : (eqAtN (d :: ds) (e :: es) ∘ Nat.succ) = eqAtN ds es := by funext j; simp [eqAtN]
    have e3 : eqAtN (d :: ds) (e :: es) 0 = eqD d e := by simp [eqAtN]
    have e4 : ((d :: ds).length == (e :: es).length) = (ds.length == es.length) := by simp
    rw [e2, e3, e4, Bool.and_assoc]
theorem dep_mem : ∀ {ds : List D} {j : Nat} {d : D}, ds[j]? = some d → dep d ≤ depL ds
  | [], _, _, h => by simp at h
  | d :: ds, 0, _, h => by simp at h; subst h; rw [depL]; exact Nat.le_max_left _ _
  | d :: ds, j + 1, _, h => by
    rw [depL]
    exact Nat.le_trans (dep_mem (ds := ds) (j := j) (by simpa using h)) (Nat.le_max_right _ _)

/-- == of two data, at the items' level -/
theorem rc_eq (I : Inv X pins σ H s) (sb : Same F H) : ∀ (n : Nat) (A : Around) (d e : D) (x y : V) (u v : Value), dep d ≤ n → A.units + n < cLine → Dat X.K F d x → Dat X.K F e y → RelV x u → RelV y v → SeqAt.RcAt A s u v (eqD d e) ∧ SeqAt.EqAt A s u v (eqD d e)
  | n, A, d, e, x, y, u, v, hd, hu, h1, h2, r1, r2 => by
    have hu0 : A.units < cLine := by omega
    cases d with
    | non =>
      simp only [Dat] at h1; subst h1; cases r1
      cases e with
      | non => simp only [Dat] at h2; subst h2; cases r2; exact ⟨SeqAt.RcAt.none_none, SeqAt.EqAt.same _⟩
      | bl b => simp only [Dat] at h2; subst h2; cases r2; exact ⟨SeqAt.RcAt.none_bool b, SeqAt.EqAt.none_bool b⟩
      | int b => simp only [Dat] at h2; subst h2; obtain ⟨t, rfl⟩ := r2; exact ⟨SeqAt.RcAt.none_int b t, SeqAt.EqAt.none_int b t⟩
      | str b => simp only [Dat] at h2; obtain ⟨rfl, _⟩ := h2; obtain ⟨t, rfl⟩ := r2; exact ⟨SeqAt.RcAt.none_str b t, SeqAt.EqAt.none_str b t⟩
      | tup es =>
        simp only [Dat] at h2; obtain ⟨p, ys, rfl, g1, _⟩ := h2; cases r2
        obtain ⟨its, _, ht, _⟩ := I.tuple (Same.seqT sb g1)
        exact ⟨SeqAt.RcAt.none_tuple ht hu0, SeqAt.EqAt.none_tuple ht hu0⟩
      | lst es =>
        simp only [Dat] at h2; obtain ⟨p, ys, rfl, g1, _⟩ := h2; cases r2
        obtain ⟨its, _, ht, _⟩ := I.list (Same.seq sb g1)
        exact ⟨SeqAt.RcAt.none_list ht.isList hu0, SeqAt.EqAt.none_list ht.isList hu0⟩
    | bl a =>
      simp only [Dat] at h1; subst h1; cases r1
      cases e with
      | non => simp only [Dat] at h2; subst h2; cases r2; exact ⟨SeqAt.RcAt.bool_none a, SeqAt.EqAt.bool_none a⟩
      | bl b => simp only [Dat] at h2; subst h2; cases r2; exact ⟨SeqAt.RcAt.bool_bool a b, SeqAt.EqAt.bool_bool a b⟩
      | int b => simp only [Dat] at h2; subst h2; obtain ⟨t, rfl⟩ := r2; exact ⟨SeqAt.RcAt.bool_int a b t, SeqAt.EqAt.bool_int a b t⟩
      | str b => simp only [Dat] at h2; obtain ⟨rfl, _⟩ := h2; obtain ⟨t, rfl⟩ := r2; exact ⟨SeqAt.RcAt.bool_str a b t, SeqAt.EqAt.bool_str a b t⟩
      | tup es =>
        simp only [Dat] at h2; obtain ⟨p, ys, rfl, g1, _⟩ := h2; cases r2
        obtain ⟨its, _, ht, _⟩ := I.tuple (Same.seqT sb g1)
        exact ⟨SeqAt.RcAt.bool_tuple a ht hu0, SeqAt.EqAt.bool_tuple a ht hu0⟩
      | lst es =>
        simp only [Dat] at h2; obtain ⟨p, ys, rfl, g1, _⟩ := h2; cases r2
        obtain ⟨its, _, ht, _⟩ := I.list (Same.seq sb g1)
        exact ⟨SeqAt.RcAt.bool_list a ht.isList hu0, SeqAt.EqAt.bool_list a ht.isList hu0⟩
    | int a =>
      simp only [Dat] at h1; subst h1; obtain ⟨t', rfl⟩ := r1
      cases e with
      | non => simp only [Dat] at h2; subst h2; cases r2; exact ⟨SeqAt.RcAt.int_none a t', SeqAt.EqAt.int_none a t'⟩
      | bl b => simp only [Dat] at h2; subst h2; cases r2; exact ⟨SeqAt.RcAt.int_bool a t' b, SeqAt.EqAt.int_bool a t' b⟩
      | int b => simp only [Dat] at h2; subst h2; obtain ⟨t, rfl⟩ := r2; exact ⟨SeqAt.RcAt.int_int a t' b t, SeqAt.EqAt.int_int a t' b t⟩
      | str b => simp only [Dat] at h2; obtain ⟨rfl, _⟩ := h2; obtain ⟨t, rfl⟩ := r2; exact ⟨SeqAt.RcAt.int_str a t' b t, SeqAt.EqAt.int_str a t' b t⟩
      | tup es =>
        simp only [Dat] at h2; obtain ⟨p, ys, rfl, g1, _⟩ := h2; cases r2
        obtain ⟨its, _, ht, _⟩ := I.tuple (Same.seqT sb g1)
        exact ⟨SeqAt.RcAt.int_tuple a t' ht hu0, SeqAt.EqAt.int_tuple a t' ht hu0⟩
      | lst es =>
        simp only [Dat] at h2; obtain ⟨p, ys, rfl, g1, _⟩ := h2; cases r2
        obtain ⟨its, _, ht, _⟩ := I.list (Same.seq sb g1)
        exact ⟨SeqAt.RcAt.int_list a t' ht.isList hu0, SeqAt.EqAt.int_list a t' ht.isList hu0⟩
    | str a =>
      simp only [Dat] at h1; obtain ⟨rfl, _⟩ := h1; obtain ⟨t', rfl⟩ := r1
      cases e with
      | non => simp only [Dat] at h2; subst h2; cases r2; exact ⟨SeqAt.RcAt.str_none a t', SeqAt.EqAt.str_none a t'⟩
      | bl b => simp only [Dat] at h2; subst h2; cases r2; exact ⟨SeqAt.RcAt.str_bool a t' b, SeqAt.EqAt.str_bool a t' b⟩
      | int b => simp only [Dat] at h2; subst h2; obtain ⟨t, rfl⟩ := r2; exact ⟨SeqAt.RcAt.str_int a t' b t, SeqAt.EqAt.str_int a t' b t⟩
      | str b => simp only [Dat] at h2; obtain ⟨rfl, _⟩ := h2; obtain ⟨t, rfl⟩ := r2; exact ⟨SeqAt.RcAt.str_str a t' b t, SeqAt.EqAt.str_str a t' b t⟩
      | tup es =>
        simp only [Dat] at h2; obtain ⟨p, ys, rfl, g1, _⟩ := h2; cases r2
        obtain ⟨its, _, ht, _⟩ := I.tuple (Same.seqT sb g1)
        exact ⟨SeqAt.RcAt.str_tuple a t' ht hu0, SeqAt.EqAt.str_tuple a t' ht hu0⟩
      | lst es =>
        simp only [Dat] at h2; obtain ⟨p, ys, rfl, g1, _⟩ := h2; cases r2
        obtain ⟨its, _, ht, _⟩ := I.list (Same.seq sb g1)
        exact ⟨SeqAt.RcAt.str_list a t' ht.isList hu0, SeqAt.EqAt.str_list a t' ht.isList hu0⟩
    | tup ds =>
      have h1' := h1
      simp only [Dat] at h1; obtain ⟨p, xs, rfl, g1, l1⟩ := h1; cases r1
      obtain ⟨its, k1, ht, _⟩ := I.tuple (Same.seqT sb g1)
      cases e with
      | non => simp only [Dat] at h2; subst h2; cases r2; exact ⟨SeqAt.RcAt.tuple_none ht hu0, SeqAt.EqAt.tuple_none ht hu0⟩
      | bl b => simp only [Dat] at h2; subst h2; cases r2; exact ⟨SeqAt.RcAt.tuple_bool b ht hu0, SeqAt.EqAt.tuple_bool b ht hu0⟩
      | int b => simp only [Dat] at h2; subst h2; obtain ⟨t, rfl⟩ := r2; exact ⟨SeqAt.RcAt.tuple_int b t ht hu0, SeqAt.EqAt.tuple_int b t ht hu0⟩
      | str b => simp only [Dat] at h2; obtain ⟨rfl, _⟩ := h2; obtain ⟨t, rfl⟩ := r2; exact ⟨SeqAt.RcAt.tuple_str b t ht hu0, SeqAt.EqAt.tuple_str b t ht hu0⟩
      | lst es =>
        simp only [Dat] at h2; obtain ⟨p2, ys, rfl, g2, _⟩ := h2; cases r2
        obtain ⟨its2, _, ht2, _⟩ := I.list (Same.seq sb g2)
        exact ⟨SeqAt.RcAt.tuple_list ht ht2.isList hu0, SeqAt.EqAt.tuple_list ht ht2.isList hu0⟩
      | tup es =>
        have h2' := h2
        simp only [Dat] at h2; obtain ⟨p2, ys, rfl, g2, l2⟩ := h2; cases r2
        obtain ⟨its2, k2, ht2, _⟩ := I.tuple (Same.seqT sb g2)
        cases n with
        | zero => rw [dep] at hd; omega
        | succ n =>
          rw [dep] at hd
          have n1 := l1.length
          have n2 := l2.length
          have m1 := k1.length
          have m2 := k2.length
          have key : ∀ j (w1 : j < its.toArray.size) (w2 : j < its2.toArray.size), SeqAt.EqAt A.in1 s its.toArray[j] its2.toArray[j] (eqAtN ds es j) := fun j w1 w2 => by
            rw [List.size_toArray] at w1 w2
            obtain ⟨d, hd'⟩ : ∃ d, ds[j]? = some d := ⟨ds[j], List.getElem?_eq_getElem (by omega)⟩
            obtain ⟨e, he'⟩ : ∃ e, es[j]? = some e := ⟨es[j], List.getElem?_eq_getElem (by omega)⟩
            obtain ⟨x, hx, dx⟩ := pr_get l1.paired hd'
            obtain ⟨y, hy, dy⟩ := pr_get l2.paired he'
            obtain ⟨u, hu1, ru⟩ := k1.get hx
            obtain ⟨v, hv1, rv⟩ := k2.get hy
            have eu : its.toArray[j] = u := by
              have : its[j]? = some its[j] := List.getElem?_eq_getElem w1
              rw [this] at hu1; simpa using Option.some.inj hu1
            have ev : its2.toArray[j] = v := by
              have : its2[j]? = some its2[j] := List.getElem?_eq_getElem w2
              rw [this] at hv1; simpa using Option.some.inj hv1
            rw [eu, ev]
            have ee : eqAtN ds es j = eqD d e := by unfold eqAtN; rw [hd', he']
            rw [ee]
            exact (rc_eq I sb n A.in1 d e x y u v (by have := dep_mem hd'; omega) (by show A.units + 1 + n < cLine; omega) dx dy ru rv).2
          have R1 : SeqAt.RcAt A s (.ref p) (.ref p2) (eqD (.tup ds) (.tup es)) := by
            have z := SeqAt.RcAt.tuples ht ht2 hu0 key
            rw [List.size_toArray, List.size_toArray, ← m1, ← m2, ← n1, ← n2, ← eqL_all] at z
            rw [eqD]; exact z
          refine ⟨R1, ?_⟩
          by_cases hp : p = p2
          · subst hp
            have : D.tup ds = D.tup es := Dat.inj I sb h1' h2'
            rw [this, eqD_refl]
            exact SeqAt.EqAt.same _
          · exact SeqAt.EqAt.of_refs hp R1
    | lst ds =>
      have h1' := h1
      simp only [Dat] at h1; obtain ⟨p, xs, rfl, g1, l1⟩ := h1; cases r1
      obtain ⟨its, k1, htp, _⟩ := I.list (Same.seq sb g1)
      have ht := htp.isList
      cases e with
      | non => simp only [Dat] at h2; subst h2; cases r2; exact ⟨SeqAt.RcAt.list_none ht hu0, SeqAt.EqAt.list_none ht hu0⟩
      | bl b => simp only [Dat] at h2; subst h2; cases r2; exact ⟨SeqAt.RcAt.list_bool b ht hu0, SeqAt.EqAt.list_bool b ht hu0⟩
      | int b => simp only [Dat] at h2; subst h2; obtain ⟨t, rfl⟩ := r2; exact ⟨SeqAt.RcAt.list_int b t ht hu0, SeqAt.EqAt.list_int b t ht hu0⟩
      | str b => simp only [Dat] at h2; obtain ⟨rfl, _⟩ := h2; obtain ⟨t, rfl⟩ := r2; exact ⟨SeqAt.RcAt.list_str b t ht hu0, SeqAt.EqAt.list_str b t ht hu0⟩
      | tup es =>
        simp only [Dat] at h2; obtain ⟨p2, ys, rfl, g2, _⟩ := h2; cases r2
        obtain ⟨its2, _, ht2, _⟩ := I.tuple (Same.seqT sb g2)
        exact ⟨SeqAt.RcAt.list_tuple ht ht2 hu0, SeqAt.EqAt.list_tuple ht ht2 hu0⟩
      | lst es =>
        have h2' := h2
        simp only [Dat] at h2; obtain ⟨p2, ys, rfl, g2, l2⟩ := h2; cases r2
        obtain ⟨its2, k2, htp2, _⟩ := I.list (Same.seq sb g2)
        have ht2 := htp2.isList
        cases n with
        | zero => rw [dep] at hd; omega
        | succ n =>
          rw [dep] at hd
          have n1 := l1.length
          have n2 := l2.length
          have m1 := k1.length
          have m2 := k2.length
          have key : ∀ j (w1 : j < its.toArray.size) (w2 : j < its2.toArray.size), SeqAt.EqAt A.in1 s its.toArray[j] its2.toArray[j] (eqAtN ds es j) := fun j w1 w2 => by
            rw [List.size_toArray] at w1 w2
            obtain ⟨d, hd'⟩ : ∃ d, ds[j]? = some d := ⟨ds[j], List.getElem?_eq_getElem (by omega)⟩
            obtain ⟨e, he'⟩ : ∃ e, es[j]? = some e := ⟨es[j], List.getElem?_eq_getElem (by omega)⟩
            obtain ⟨x, hx, dx⟩ := pr_get l1.paired hd'
            obtain ⟨y, hy, dy⟩ := pr_get l2.paired he'
            obtain ⟨u, hu1, ru⟩ := k1.get hx
            obtain ⟨v, hv1, rv⟩ := k2.get hy
            have eu : its.toArray[j] = u := by
              have : its[j]? = some its[j] := List.getElem?_eq_getElem w1
              rw [this] at hu1; simpa using Option.some.inj hu1
            have ev : its2.toArray[j] = v := by
              have : its2[j]? = some its2[j] := List.getElem?_eq_getElem w2
              rw [this] at hv1; simpa using Option.some.inj hv1
            rw [eu, ev]
            have ee : eqAtN ds es j = eqD d e := by unfold eqAtN; rw [hd', he']
            rw [ee]
            exact (rc_eq I sb n A.in1 d e x y u v (by have := dep_mem hd'; omega) (by show A.units + 1 + n < cLine; omega) dx dy ru rv).2
          have R1 : SeqAt.RcAt A s (.ref p) (.ref p2) (eqD (.lst ds) (.lst es)) := by
            by_cases hz : its.toArray.size = its2.toArray.size
            · have z := SeqAt.RcAt.lists ht ht2 hz hu0 key
              have e5 : its.toArray.size = min ds.length es.length := by rw [List.size_toArray] at hz ⊢; rw [List.size_toArray] at hz; omega
              rw [e5] at z
              rw [eqD, eqL_all]
              have e6 : (ds.length == es.length) = true := by
                rw [List.size_toArray, List.size_toArray] at hz
                exact beq_iff_eq.mpr (by omega)
              rw [e6, Bool.and_true]; exact z
            · have z := SeqAt.RcAt.lists_lengths (A := A) (s := s) ht ht2 (by simpa using hz) hu0
              rw [eqD, eqL_all]
              have e6 : (ds.length == es.length) = false := by
                rw [List.size_toArray, List.size_toArray] at hz
                exact beq_eq_false_iff_ne.mpr (by omega)
              rw [e6, Bool.and_false]; exact z
          refine ⟨R1, ?_⟩
          by_cases hp : p = p2
          · subst hp
            have : D.lst ds = D.lst es := Dat.inj I sb h1' h2'
            rw [this, eqD_refl]
            exact SeqAt.EqAt.same _
          · exact SeqAt.EqAt.of_refs hp R1
end
section
variable {X : Cx} {a b c e : Expr} {es : List Expr} {f g h : ME} {pos : Pos} {m m' : D → D → Res D}
def dEq (d e : D) : Res D := if dep d ≤ 100 then .ok (.bl (eqD d e)) else .bad
theorem om_eq (hu : X.A.units + 100 < cLine) : OpR X (compareOp .Eq) (rD X dEq) := by
  intro pins s σ H x y v u Q I rx ry h
  obtain ⟨F, d1, d2, sb, h1, h2, q⟩ := h
  unfold dEq at q
  split at q
  · rename_i hd
    have R1 := (rc_eq I sb 100 X.A d1 d2 x y v u hd hu h1 h2 rx ry).1
    exact R1 X.prog X.w X.xe _ ⟨.bl _, H, I, rfl, post_ok q sb (by simp only [Dat])⟩
  · exact q.elim

/-! ### in, not in -/
def anyD (d : D) (ds : List D) : Bool := ds.any fun e => eqD e d
def dIn (neg : Bool) (d : D) : D → Res D
  | .tup ds => if depL ds ≤ 100 then .ok (.bl (if neg then !anyD d ds else anyD d ds)) else .bad
  | .lst ds => if depL ds ≤ 100 then .ok (.bl (if neg then !anyD d ds else anyD d ds)) else .bad
  | _ => .bad
/-- the answer for a value that stands for some data -/
noncomputable def ansU (K : PySem.W.Frag) (F : Hp) (d : D) (u : Value) : Bool := by
  classical
  exact if h : ∃ e x, RelV x u ∧ Dat K F e x then eqD h.choose d else false
theorem ansU_eq {pins : List (Addr × Obj)} {σ : St} {H F : Hp} {s : Shared} (I : Inv X pins σ H s) (sb : Same F H) {d e : D} {x : V} {u : Value} (r : RelV x u) (h : Dat X.K F e x) : ansU X.K F d u = eqD e d := by
  classical
  have hx : ∃ e x, RelV x u ∧ Dat X.K F e x := ⟨e, x, r, h⟩
  unfold ansU
  rw [dif_pos hx]
  obtain ⟨x', r', h'⟩ := hx.choose_spec
  have : x' = x := r'.inj r
  subst this
  rw [Dat.inj I sb h' h]
theorem any_ans {pins : List (Addr × Obj)} {σ : St} {H F : Hp} {s : Shared} (I : Inv X pins σ H s) (sb : Same F H) {d : D} : ∀ {ds : List D} {xs : List V} {us : List Value}, DatL X.K F ds xs → Vals xs us → us.any (ansU X.K F d) = anyD d ds
  | [], _, _, h, r => by simp only [DatL] at h; subst h; cases r; rfl
  | e :: ds, _, _, h, r => by
    simp only [DatL] at h; obtain ⟨x, xs, rfl, h1, h2⟩ := h
    cases r with
    | cons r1 r2 => rw [List.any_cons, ansU_eq I sb r1 h1, any_ans I sb h2 r2]; rfl
theorem om_in (hu : X.A.units + 200 < cLine) {neg : Bool} : OpR X (compareOp (if neg then .NotIn else .In)) (rD X (dIn neg)) := by
  intro pins s σ H x y v u Q I rx ry h
  obtain ⟨F, d1, d2, sb, h1, h2, q⟩ := h
  have key : ∀ (ds : List D) (xs : List V) (its : List Value), DatL X.K F ds xs → Vals xs its → depL ds ≤ 100 → ∀ w ∈ its.toArray, SeqAt.EqAt X.A.in1 s w v (ansU X.K F d1 w) := fun ds xs its hl r hz w hw => by
    have hw' : w ∈ its := by simpa using hw
    obtain ⟨j, hj⟩ := List.getElem?_of_mem hw'
    obtain ⟨x', hx', rx'⟩ := pr_get' r hj
    obtain ⟨e, he, hd⟩ := pr_get' hl.paired hx'
    rw [ansU_eq I sb rx' hd]
    exact (rc_eq I sb 100 X.A.in1 e d1 x' x w v (by have := dep_mem he; omega) (by show X.A.units + 1 + 100 < cLine; omega) hd h1 rx' rx).2
  cases d2 with
  | tup ds =>
    simp only [Dat] at h2; obtain ⟨p, xs, rfl, g1, l1⟩ := h2; cases ry
    simp only [dIn] at q
    split at q
    · rename_i hz
      obtain ⟨its, r, pl, _⟩ := I.tuple (Same.seqT sb g1)
      cases neg with
      | false =>
        refine SeqAt.in_tupleAt (ansU X.K F d1) pl (key ds xs its l1 r hz) ⟨.bl _, H, I, rfl, ?_⟩
        rw [show its.toArray.any (ansU X.K F d1) = its.any (ansU X.K F d1) by simp, any_ans I sb l1 r]
        exact post_ok q sb (by simp only [Dat]; rfl)
      | true =>
        refine SeqAt.notIn_tupleAt (ansU X.K F d1) pl (key ds xs its l1 r hz) ⟨.bl _, H, I, rfl, ?_⟩
        rw [show its.toArray.any (ansU X.K F d1) = its.any (ansU X.K F d1) by simp, any_ans I sb l1 r]
        exact post_ok q sb (by simp only [Dat]; rfl)
    · exact q.elim
  | lst ds =>
    simp only [Dat] at h2; obtain ⟨p, xs, rfl, g1, l1⟩ := h2; cases ry
    simp only [dIn] at q
    split at q
    · rename_i hz
      obtain ⟨its, r, pl, _⟩ := I.list (Same.seq sb g1)
      cases neg with
      | false =>
        refine SeqAt.in_listAt (ansU X.K F d1) pl.isList (key ds xs its l1 r hz) ⟨.bl _, H, I, rfl, ?_⟩
        rw [show its.toArray.any (ansU X.K F d1) = its.any (ansU X.K F d1) by simp, any_ans I sb l1 r]
        exact post_ok q sb (by simp only [Dat]; rfl)
      | true =>
        refine SeqAt.notIn_listAt (ansU X.K F d1) pl.isList (key ds xs its l1 r hz) ⟨.bl _, H, I, rfl, ?_⟩
        rw [show its.toArray.any (ansU X.K F d1) = its.any (ansU X.K F d1) by simp, any_ans I sb l1 r]
        exact post_ok q sb (by simp only [Dat]; rfl)
    · exact q.elim
  | _ => exact q.elim

/-! ### index -/
def dIx : D → D → Res D
  | .tup ds, .int i => match atI ds i with
    | some d => .ok d
    | none => .bad
  | .lst ds, .int i => match atI ds i with
    | some d => .ok d
    | none => .bad
  | .str z, .int i => match atI z.cps.toList i with
    | some c => .ok (.str ⟨#[c]⟩)
    | none => .bad
  | _, _ => .bad
theorem atI_len {α β : Type} {xs : List α} {ys : List β} (h : xs.length = ys.length) {i : Int} {x : α} (e : atI xs i = some x) : ∃ j : Nat, xs[j]? = some x ∧ atI ys i = ys[j]? := by
  unfold atI at e ⊢
  rw [← h]
  cases q : ixN xs.length i with
  | none => rw [q] at e; cases e
  | some j => rw [q] at e; exact ⟨j, e, rfl⟩
theorem om_ix : IxR X (rD X dIx) := by
  intro value slice pins s σ H x y v u Q I rx ry h hs
  obtain ⟨F, d1, d2, sb, h1, h2, q⟩ := h
  cases d1 <;> cases d2 <;> try exact q.elim
  · rename_i z i
    simp only [Dat] at h1 h2; obtain ⟨rfl, hz⟩ := h1; subst h2
    simp only [dIx] at q
    split at q
    · rename_i c hc
      exact ix_str value slice pins s σ H _ _ v u Q I rx ry ⟨z, i, c, rfl, rfl, hz, hc, post_ok q sb (by simp only [Dat]; exact ⟨trivial, by show 1 ≤ sizeLine; decide⟩)⟩ hs
    · exact q.elim
  · rename_i ds i
    simp only [Dat] at h1 h2; obtain ⟨p, xs, rfl, g1, l1⟩ := h1; subst h2
    simp only [dIx] at q
    split at q
    · rename_i d hd
      obtain ⟨j, e1, e2⟩ := atI_len l1.length hd
      obtain ⟨x, hx, dx⟩ := pr_get l1.paired e1
      exact ix_tup value slice pins s σ H _ _ v u Q I rx ry ⟨p, xs, i, x, rfl, rfl, Same.seqT sb g1, e2.trans hx, post_ok q sb dx⟩ hs
    · exact q.elim
  · rename_i ds i
    simp only [Dat] at h1 h2; obtain ⟨p, xs, rfl, g1, l1⟩ := h1; subst h2
    simp only [dIx] at q
    split at q
    · rename_i d hd
      obtain ⟨j, e1, e2⟩ := atI_len l1.length hd
      obtain ⟨x, hx, dx⟩ := pr_get l1.paired e1
      exact ix_list value slice pins s σ H _ _ v u Q I rx ry ⟨p, xs, i, x, rfl, rfl, Same.seq sb g1, e2.trans hx, post_ok q sb dx⟩ hs
    · exact q.elim
theorem ie_at (ha : IE X a f) (hb : IE X b g) (hs : PlainIx b := by intro _ _; rfl) : IE X (.Subscript a b pos) (m2 dIx f g) := ie_ix om_ix op2_rD ha hb hs

/-! ### calls of built-ins -/
def dLen : List D → Res D
  | [.str z] => .ok (.int z.length)
  | [.tup ds] => .ok (.int ds.length)
  | [.lst ds] => .ok (.int ds.length)
  | _ => .bad
theorem one_arg {K : PySem.W.Frag} {F : Hp} {d : D} {xs : List V} (h : DatL K F [d] xs) : ∃ x, xs = [x] ∧ Dat K F d x := by
  simp only [DatL] at h
  obtain ⟨x, r, rfl, h1, rfl⟩ := h
  exact ⟨x, rfl, h1⟩
theorem cm_len : CallR X (.builtin "len") (rDL X dLen) := by
  intro pins s σ H xs us Q I r h
  obtain ⟨F, ds, sb, hl, q⟩ := h
  unfold dLen at q
  split at q
  · rename_i z
    obtain ⟨x, rfl, hx⟩ := one_arg hl
    simp only [Dat] at hx; obtain ⟨rfl, hz⟩ := hx
    exact call_len_str pins s σ H _ us Q I r ⟨z, rfl, hz, post_ok q sb (by simp only [Dat])⟩
  · rename_i es
    obtain ⟨x, rfl, hx⟩ := one_arg hl
    simp only [Dat] at hx; obtain ⟨p, ys, rfl, g1, l1⟩ := hx
    refine call_len_seq pins s σ H _ us Q I r ⟨p, ys, rfl, .inr (Same.seqT sb g1), ?_⟩
    rw [← l1.length]
    exact post_ok q sb (by simp only [Dat])
  · rename_i es
    obtain ⟨x, rfl, hx⟩ := one_arg hl
    simp only [Dat] at hx; obtain ⟨p, ys, rfl, g1, l1⟩ := hx
    refine call_len_seq pins s σ H _ us Q I r ⟨p, ys, rfl, .inl (Same.seq sb g1), ?_⟩
    rw [← l1.length]
    exact post_ok q sb (by simp only [Dat])
  · exact q.elim
def dInt : List D → Res D
  | [.int i] => .ok (.int i)
  | [.bl b] => .ok (.int (if b then 1 else 0))
  | _ => .bad
theorem cm_int : CallR X (.type "int") (rDL X dInt) := by
  intro pins s σ H xs us Q I r h
  obtain ⟨F, ds, sb, hl, q⟩ := h
  unfold dInt at q
  split at q
  · obtain ⟨x, rfl, hx⟩ := one_arg hl
    simp only [Dat] at hx; subst hx
    exact call_int1 pins s σ H _ us Q I r (.inl ⟨_, rfl, post_ok q sb (by simp only [Dat])⟩)
  · obtain ⟨x, rfl, hx⟩ := one_arg hl
    simp only [Dat] at hx; subst hx
    exact call_int1 pins s σ H _ us Q I r (.inr ⟨_, rfl, post_ok q sb (by simp only [Dat])⟩)
  · exact q.elim
def dList : List D → Res D
  | [.tup ds] => .ok (.lst ds)
  | [.lst ds] => .ok (.lst ds)
  | _ => .bad
theorem cm_list : CallR X (.type "list") (rDL X dList) := by
  intro pins s σ H xs us Q I r h
  obtain ⟨F, ds, sb, hl, q⟩ := h
  unfold dList at q
  split at q
  · obtain ⟨x, rfl, hx⟩ := one_arg hl
    simp only [Dat] at hx; obtain ⟨p, ys, rfl, g1, l1⟩ := hx
    exact call_list_of pins s σ H _ us Q I r ⟨p, ys, rfl, .inr (Same.seqT sb g1), fun l hl => post_lst q sb l1 hl⟩
  · obtain ⟨x, rfl, hx⟩ := one_arg hl
    simp only [Dat] at hx; obtain ⟨p, ys, rfl, g1, l1⟩ := hx
    exact call_list_of pins s σ H _ us Q I r ⟨p, ys, rfl, .inl (Same.seq sb g1), fun l hl => post_lst q sb l1 hl⟩
  · exact q.elim
def dTuple : List D → Res D
  | [.tup ds] => .ok (.tup ds)
  | [.lst ds] => .ok (.tup ds)
  | _ => .bad
theorem cm_tuple : CallR X (.type "tuple") (rDL X dTuple) := by
  intro pins s σ H xs us Q I r h
  obtain ⟨F, ds, sb, hl, q⟩ := h
  unfold dTuple at q
  split at q
  · obtain ⟨x, rfl, hx⟩ := one_arg hl
    have hx' := hx
    simp only [Dat] at hx; obtain ⟨p, ys, rfl, g1, l1⟩ := hx
    exact call_tuple_of pins s σ H _ us Q I r ⟨p, ys, rfl, .inr ⟨Same.seqT sb g1, post_ok q sb hx'⟩⟩
  · obtain ⟨x, rfl, hx⟩ := one_arg hl
    simp only [Dat] at hx; obtain ⟨p, ys, rfl, g1, l1⟩ := hx
    exact call_tuple_of pins s σ H _ us Q I r ⟨p, ys, rfl, .inl ⟨Same.seq sb g1, fun l hl => post_tup q sb l1 hl⟩⟩
  · exact q.elim
def dStr : List D → Res D
  | [.int i] => if i.natAbs < 2 ^ 64 then .ok (.str (toString i)) else .bad
  | _ => .bad
end
end R
end
section
set_option Elab.async false
set_option linter.all false
set_option maxRecDepth 100000
set_option maxHeartbeats 4000000
namespace R
open PySem PySem.Spec PyProof.Rows L2
variable [Tbl]

/-! ### the signs of a text, walked -/
def Its (z : Str) : It := ⟨fun i _ => i < z.length, fun i H x H' => H' = H ∧ ∃ c, z.cps[i]? = some c ∧ x = .str ⟨#[c]⟩, fun i _ => z.length ≤ i⟩
theorem turn_strA {P : Program} {w : World} {K : PySem.W.Frag} {tg : Expr} (z : Str) (t : Tok) (it : Addr) : Turn P w K tg (Its z) [it] it (fun i h => h.IsStrIter it "str_ascii_iterator" z t i) where
  mem := by simp
  obj := fun i h st b hb => by
    have e : b = it := by simpa using hb
    subst e
    obtain ⟨o, e, c, d⟩ := st
    exact ⟨o, e, fun v z => by rw [d] at z; cases z⟩
  keep := fun i h h' st k => let ⟨o, ho, r⟩ := st; ⟨o, k it (by simp) o ho, r⟩
  item := by
    intro X hP hw hK hc i pins s σ H E I hf st hg
    subst hP hw hK
    obtain ⟨f0, f1, f2, f3, f4, f5⟩ := hf it (by simp)
    have hi : i < z.length := hg
    have hx : z.cps[i]? = some z.cps[i] := Array.getElem?_eq_getElem hi
    refine wpAny_pyNext_ascii_item st hx fun h' st' sb => ?_
    have I1 : Inv X pins σ H { s with heap := h', toks := s.toks + 1 } := I.turned (fun b o hb e => (sb.2 b hb).trans e) f0 f1 f3 f4 f5
    obtain ⟨o, e, c, d⟩ := id st'
    exact ⟨_, rfl, go_of (s := { s with heap := h', toks := s.toks + 1 }) e c d (by decide) ⟨.str ⟨#[z.cps[i]]⟩, H, I1, ⟨_, rfl⟩, ⟨rfl, _, hx, rfl⟩, st', fun b hb => (hf b hb).1⟩⟩
  done := by
    intro X hP hw hK hc i pins s σ H E I hf st hg
    subst hP hw hK
    obtain ⟨f0, f1, f2, f3, f4, f5⟩ := hf it (by simp)
    have hi : z.length ≤ i := hg
    exact wpAny_pyNext_ascii_end (I.ok.hd hc) st (Array.getElem?_eq_none hi) fun h' eb => ⟨rfl, I.turned (t' := s.toks) (fun b o hb e => eb b o hb e) f0 f1 f3 f4 f5⟩
  self := fun _ _ _ _ _ st h => wpAny_pyIter_striter_ascii st h
theorem turn_strW {P : Program} {w : World} {K : PySem.W.Frag} {tg : Expr} (z : Str) (t : Tok) (it : Addr) : Turn P w K tg (Its z) [it] it (fun i h => h.IsStrIter it "str_iterator" z t i) where
  mem := by simp
  obj := fun i h st b hb => by
    have e : b = it := by simpa using hb
    subst e
    obtain ⟨o, e, c, d⟩ := st
    exact ⟨o, e, fun v z => by rw [d] at z; cases z⟩
  keep := fun i h h' st k => let ⟨o, ho, r⟩ := st; ⟨o, k it (by simp) o ho, r⟩
  item := by
    intro X hP hw hK hc i pins s σ H E I hf st hg
    subst hP hw hK
    obtain ⟨f0, f1, f2, f3, f4, f5⟩ := hf it (by simp)
    have hi : i < z.length := hg
    have hx : z.cps[i]? = some z.cps[i] := Array.getElem?_eq_getElem hi
    refine wpAny_pyNext_wide_item st hx fun h' st' sb => ?_
    have I1 : Inv X pins σ H { s with heap := h', toks := s.toks + 1 } := I.turned (fun b o hb e => (sb.2 b hb).trans e) f0 f1 f3 f4 f5
    obtain ⟨o, e, c, d⟩ := id st'
    exact ⟨_, rfl, go_of (s := { s with heap := h', toks := s.toks + 1 }) e c d (by decide) ⟨.str ⟨#[z.cps[i]]⟩, H, I1, ⟨_, rfl⟩, ⟨rfl, _, hx, rfl⟩, st', fun b hb => (hf b hb).1⟩⟩
  done := by
    intro X hP hw hK hc i pins s σ H E I hf st hg
    subst hP hw hK
    obtain ⟨f0, f1, f2, f3, f4, f5⟩ := hf it (by simp)
    have hi : z.length ≤ i := hg
    exact wpAny_pyNext_wide_end (I.ok.hd hc) st (Array.getElem?_eq_none hi) fun h' eb => ⟨rfl, I.turned (t' := s.toks) (fun b o hb e => eb b o hb e) f0 f1 f3 f4 f5⟩
  self := fun _ _ _ _ _ st h => wpAny_pyIter_striter_wide st h

/-! ### what is walked, as data -/
/-- J yields the data ds, one by one, whatever is laid beside -/
def ItOk (K : PySem.W.Frag) (F : Hp) (J : It) (ds : List D) : Prop := ∀ n F2 H2, Same F F2 → Same F2 H2 →
  (∀ d, ds[n]? = some d → J.go n H2 ∧ ∀ x H', J.yld n H2 x H' → ∃ F', Grow F2 H2 F' H' ∧ Dat K F' d x) ∧ (n = ds.length → J.stop n H2)
abbrev ML := Rho → Res (List D)
def tI (X : Cx) (f : ML) : TI := fun σ H R => ∃ ρ F, EnvR X.K F H ρ σ ∧ match f ρ with
  | .ok ds => ∀ J F' H', Grow F H F' H' → ItOk X.K F' J ds → R J H'
  | .ex _ => False
  | .bad => False
def II (X : Cx) (tg iter : Expr) (f : ML) : Prop := PI X tg iter (tI X f)
def signsD (z : Str) : List D := z.cps.toList.map fun c => .str ⟨#[c]⟩
def dItems : D → Res (List D)
  | .tup ds => .ok ds
  | .lst ds => .ok ds
  | .str z => .ok (signsD z)
  | _ => .bad
section
variable {X : Cx} {tg iter e : Expr} {f : ME} {pos : Pos}
theorem pi_imp {t t' : TI} (h : PI X tg iter t) (i : ∀ σ H R, t' σ H R → t σ H R) : PI X tg iter t' := fun pins s σ H R I hq => h pins s σ H R I (i σ H R hq)
theorem it_tup {K : PySem.W.Frag} {F : Hp} {a : Addr} {xs : List V} {ds : List D} (h : SqT K F a xs) (l : DatL K F ds xs) : ItOk K F (Itt K a) ds := fun n F2 H2 s1 s2 => by
  have hq : SqT K H2 a xs := Same.seqT s2 (Same.seqT s1 h)
  refine ⟨fun d hd => ?_, fun hn => ⟨xs, hq, by rw [← l.length, hn]; exact Nat.le_refl _⟩⟩
  obtain ⟨x, hx, dx⟩ := pr_get l.paired hd
  refine ⟨⟨xs, x, hq, hx⟩, fun x' H' y => ?_⟩
  obtain ⟨rfl, y⟩ := y
  have e := y xs hq
  rw [hx] at e
  cases e
  exact ⟨F2, .refl s2, dx.mono s1⟩
theorem it_lst {K : PySem.W.Frag} {F : Hp} {a : Addr} {xs : List V} {ds : List D} (h : SqL K F a xs) (l : DatL K F ds xs) : ItOk K F (Itl K a) ds := fun n F2 H2 s1 s2 => by
  have hq : SqL K H2 a xs := Same.seq s2 (Same.seq s1 h)
  refine ⟨fun d hd => ?_, fun hn => ⟨xs, hq, by rw [← l.length, hn]; exact Nat.le_refl _⟩⟩
  obtain ⟨x, hx, dx⟩ := pr_get l.paired hd
  refine ⟨⟨xs, x, hq, hx⟩, fun x' H' y => ?_⟩
  obtain ⟨rfl, y⟩ := y
  have e := y xs hq
  rw [hx] at e
  cases e
  exact ⟨F2, .refl s2, dx.mono s1⟩
theorem it_str {K : PySem.W.Frag} {F : Hp} {z : Str} : ItOk K F (Its z) (signsD z) := fun n F2 H2 s1 s2 => by
  have hl : (signsD z).length = z.length := by unfold signsD; rw [List.length_map]; rfl
  refine ⟨fun d hd => ?_, fun hn => by show z.length ≤ n; omega⟩
  have hn : n < z.length := by rw [← hl]; exact (List.getElem?_eq_some_iff.mp hd).1
  refine ⟨hn, fun x' H' y => ?_⟩
  obtain ⟨rfl, c, hc, rfl⟩ := y
  unfold signsD at hd
  rw [List.getElem?_map, Array.getElem?_toList, hc] at hd
  cases hd
  exact ⟨F2, .refl s2, by simp only [Dat]; exact ⟨trivial, by show 1 ≤ sizeLine; decide⟩⟩
theorem it_rng {K : PySem.W.Frag} {F : Hp} {lo : Int} {k : Nat} : ItOk K F (Itr lo k) (upTo lo k) := fun n F2 H2 s1 s2 => by
  have hl : (upTo lo k).length = k := by unfold upTo; rw [List.length_map, List.length_range]
  refine ⟨fun d hd => ?_, fun hn => by show k ≤ n; omega⟩
  have hn : n < k := by rw [← hl]; exact (List.getElem?_eq_some_iff.mp hd).1
  refine ⟨hn, fun x' H' y => ?_⟩
  obtain ⟨rfl, rfl⟩ := y
  unfold upTo at hd
  rw [List.getElem?_map, List.getElem?_range hn] at hd
  cases hd
  exact ⟨F2, .refl s2, by simp only [Dat]⟩
def mItems (f : ME) : ML := fun ρ => (f ρ).bind dItems
/-- a tuple, a list, a text -/
theorem ii_data (he : IE X iter f) : II X tg iter (mItems f) := by
  intro pins s σ H R I ⟨ρ, F, E, q⟩
  have hp := he pins s σ H (fun x H1 => ∃ F1 d ds, Grow F H F1 H1 ∧ Dat X.K F1 d x ∧ dItems d = .ok ds ∧ ∀ J F' H', Grow F H F' H' → ItOk X.K F' J ds → R J H') I ⟨ρ, F, E, by
    unfold mItems at q
    revert q
    cases f ρ with
    | ok d =>
      intro q v F1 H1 g1 d1
      revert q
      show (match dItems d with
        | .ok ds => ∀ J F' H', Grow F H F' H' → ItOk X.K F' J ds → R J H'
        | .ex _ => False
        | .bad => False) → _
      cases hd : dItems d with
      | ok ds => exact fun q => ⟨F1, d, ds, g1, d1, hd, q⟩
      | ex _ => exact fun q => q.elim
      | bad => exact fun q => q.elim
    | ex _ => exact fun q => q
    | bad => exact fun q => q⟩
  refine thn hp fun v s1 ⟨x, H1, I1, r1, F1, d, ds, g1, d1, hd, q⟩ => ?_
  cases d <;> try cases hd
  · rename_i z
    simp only [Dat] at d1
    obtain ⟨rfl, hz⟩ := d1
    obtain ⟨t, rfl⟩ := r1
    cases ha : z.cps.all (· < 128)
    · refine wpAny_pyIter_wide ha ?_
      refine ⟨s1.heap.objs.size, [s1.heap.objs.size], _, _, H1, rfl, I1.kept (t' := s1.toks) fun b o e => Heap.get?_push_of_some _ e, turn_strW z t _, ⟨_, Heap.get?_push_size _ rfl, rfl, rfl⟩, fun b hb => ?_, q _ F1 H1 g1 it_str⟩
      have e : b = s1.heap.objs.size := by simpa using hb
      subst e
      exact I1.fpOk (Nat.le_refl _) (I1.hok.fresh (Nat.le_refl _))
    · refine wpAny_pyIter_ascii ha ?_
      refine ⟨s1.heap.objs.size, [s1.heap.objs.size], _, _, H1, rfl, I1.kept (t' := s1.toks) fun b o e => Heap.get?_push_of_some _ e, turn_strA z t _, ⟨_, Heap.get?_push_size _ rfl, rfl, rfl⟩, fun b hb => ?_, q _ F1 H1 g1 it_str⟩
      have e : b = s1.heap.objs.size := by simpa using hb
      subst e
      exact I1.fpOk (Nat.le_refl _) (I1.hok.fresh (Nat.le_refl _))
  · simp only [Dat] at d1
    obtain ⟨a, xs, rfl, hq, hl⟩ := d1
    cases r1
    obtain ⟨its, rv, p, hz⟩ := I1.tuple (Same.seqT g1.sub hq)
    refine wpAny_pyIter_tuple (show s1.heap.IsTuple a its.toArray from p) ?_
    refine ⟨s1.heap.objs.size, [s1.heap.objs.size], _, _, H1, rfl, I1.kept (t' := s1.toks) fun b o e => Heap.get?_push_of_some _ e, turn_tuple a _, ⟨_, Heap.get?_push_size _ rfl, rfl, rfl⟩, fun b hb => ?_, q _ F1 H1 g1 (it_tup hq hl)⟩
    have e : b = s1.heap.objs.size := by simpa using hb
    subst e
    exact I1.fpOk (Nat.le_refl _) (I1.hok.fresh (Nat.le_refl _))
  · simp only [Dat] at d1
    obtain ⟨a, xs, rfl, hq, hl⟩ := d1
    cases r1
    obtain ⟨its, rv, p, hz⟩ := I1.list (Same.seq g1.sub hq)
    refine wpAny_pyIter_list p.isList ?_
    refine ⟨s1.heap.objs.size, [s1.heap.objs.size], _, _, H1, rfl, I1.kept (t' := s1.toks) fun b o e => Heap.get?_push_of_some _ e, turn_list a _, ⟨_, Heap.get?_push_size _ rfl, rfl, rfl⟩, fun b hb => ?_, q _ F1 H1 g1 (it_lst hq hl)⟩
    have e : b = s1.heap.objs.size := by simpa using hb
    subst e
    exact I1.fpOk (Nat.le_refl _) (I1.hok.fresh (Nat.le_refl _))
def dRange : D → Res (List D)
  | .int j => if -(2 ^ 62) ≤ j ∧ j < 2 ^ 62 then .ok (upTo 0 j.toNat) else .bad
  | _ => .bad
def mRange (f : ME) : ML := fun ρ => (f ρ).bind dRange
theorem ii_range {a : Expr} {p cpos : Pos} (hgl : Gl X "range") (hm : X.mg "range" = none) (hi : IE X a f) (hst : starEach [a] X.env = [(false, eval a X.env)] := by rfl) : II X tg (.Call (.Name "range" p) [a] [] cpos) (mRange f) :=
  pi_imp (pi_range1 hgl hm (pa_cons hi pa_nil hst) hst) fun σ H R ⟨ρ, F, E, q⟩ => by
    refine ⟨ρ, F, E, ?_⟩
    unfold mRange at q
    revert q
    cases f ρ with
    | ok d =>
      intro q v F1 H1 g1 d1
      cases d with
      | int j =>
        simp only [Dat] at d1
        subst d1
        by_cases hj : -(2 ^ 62) ≤ j ∧ j < 2 ^ 62
        · have e : (Res.ok (D.int j)).bind dRange = .ok (upTo 0 j.toNat) := by show dRange (.int j) = _; simp only [dRange]; rw [if_pos hj]
          rw [e] at q
          exact ⟨j, rfl, hj.1, hj.2, q _ F1 H1 g1 it_rng⟩
        · have e : (Res.ok (D.int j)).bind dRange = .bad := by show dRange (.int j) = _; simp only [dRange]; rw [if_neg hj]
          rw [e] at q
          exact q.elim
      | _ => exact q.elim
    | ex _ => exact fun q => q
    | bad => exact fun q => q

/-! ### for, over anything that is walked -/
variable {body : List Stmt} {i : Nat} {u : MS}
def sForI (i : Nat) (fl : ML) (body : MS) : MS := fun ρ => (fl ρ).bind fun ds => turns i body ds ρ
theorem is_for {fl : ML} (hc : X.calm = true) (hp : PassesOwn (model X.prog X.w) X.A X.env X.xe) (hi : II X tg iter fl) (hg : PG X tg (gName i)) (hb : ISs X body u) (hs : ∀ x, foldedSetIterable iter X.env x = pure x := by intro _; rfl) :
    IS X (.For tg iter body [] pos) (sForI i fl u) := fun F₀ H₀ => ps_imp (ps_for hp hc hi hg (some_base (H₀ := H₀) hb) hs) fun E σ H ⟨ρ, F, S, q⟩ => by
  refine ⟨ρ, F, S.env, ?_⟩
  unfold sForI at q
  revert q
  cases fl ρ with
  | ok ds =>
    intro q J F1 H1 g1 it
    have S1 := S.grow g1
    refine ⟨fun n m σ' H' => m = ds.length - n ∧ n ≤ ds.length ∧ ∃ ρ' F', SR X.K F1 H₀ F' H' ρ' σ' ∧ PostS X F1 H₀ (turns i u (ds.drop n) ρ') E, ⟨_, rfl, Nat.zero_le _, ρ, F1, S1.here, PostS.here S1.gr q⟩, ?_⟩
    rintro n m σ' H' ⟨rfl, hn, ρ', F', S', q'⟩
    obtain ⟨h1, h2⟩ := it n F' H' S'.gr.fs S'.env.sub
    by_cases hlt : n < ds.length
    · have hd : ds[n]? = some ds[n] := List.getElem?_eq_getElem hlt
      obtain ⟨go, yl⟩ := h1 _ hd
      refine .inr ⟨go, fun σ H => ∃ ρ F', SR X.K F1 H₀ F' H ρ σ ∧ PostS X F1 H₀ (turns i u (ds.drop (n + 1)) ρ) E, fun σ2 H2 h => ⟨ds.length - (n + 1), by omega, rfl, hlt, h⟩, fun x H2 y => ?_⟩
      obtain ⟨F2, g2, dx⟩ := yl x H2 y
      rw [List.drop_eq_getElem_cons hlt] at q'
      exact ⟨F1, ρ'.set i (.val ds[n]), F2, (S'.grow g2).set i dx, turns_post q' fun ρ3 σ3 F3 H3 S3 q3 => ⟨ρ3, F3, S3, q3⟩⟩
    · have e : n = ds.length := by omega
      subst e
      rw [List.drop_eq_nil_of_le (Nat.le_refl _)] at q'
      exact .inl ⟨h2 rfl, q' σ' F' H' S'⟩
  | ex _ => exact fun q => q
  | bad => exact fun q => q
end
end R
end
section
set_option Elab.async false
set_option linter.all false
set_option maxRecDepth 100000
set_option maxHeartbeats 4000000
namespace R
open PySem PySem.Spec PyProof.Rows L2
variable [Tbl]

/-! ### what a block takes from around -/
def clOf (names : List (Str × NameKind)) (cells : List (Str × Addr)) (acc : List (Str × Addr)) : List (Str × Addr) := match names with
  | [] => acc
  | (n, k) :: r => clOf r cells (if k = .free then (n, (cells.lookup n).getD 0) :: acc else acc)
theorem clos_go {env : Env} : ∀ (names : List (Str × NameKind)) (acc : List (Str × Addr)), (∀ y ∈ names, y.2 = .free → ∃ c, env.cells.lookup y.1 = some c) →
    (forIn names acc fun y cs => if (y.2 == NameKind.free) = true then (do let c ← cellOf env y.1; pure (ForInStep.yield ((y.1, c) :: cs))) else pure (ForInStep.yield cs) : Sem (List (Str × Addr))) = pure (clOf names env.cells acc)
  | [], acc, _ => rfl
  | (n, k) :: r, acc, h => by
    have ih := clos_go (env := env) r
    rw [List.forIn_cons]
    by_cases hk : k = .free
    · subst hk
      obtain ⟨c, hc⟩ := h (n, .free) List.mem_cons_self rfl
      have e1 : ((NameKind.free == NameKind.free) = true) = True := by simp
      simp only [e1, if_true]
      have e2 : cellOf env n = pure c := by unfold cellOf; rw [hc]
      rw [e2]
      simp only [pure_bind]
      rw [ih _ fun y hy => h y (List.mem_cons_of_mem _ hy)]
      rw [clOf, if_pos rfl, hc]; rfl
    · have e1 : (k == NameKind.free) = false := by cases k <;> first | rfl | exact absurd rfl hk
      simp only [e1, Bool.false_eq_true, if_false]
      simp only [pure_bind]
      rw [ih _ fun y hy => h y (List.mem_cons_of_mem _ hy)]
      rw [clOf, if_neg hk]
theorem clos_eq {scope : Scope} {env : Env} (h : ∀ y ∈ scope.names, y.2 = .free → ∃ c, env.cells.lookup y.1 = some c) : closureFor scope env = pure (clOf scope.names env.cells []) := by
  have := clos_go (env := env) scope.names [] h
  unfold closureFor
  first
    | exact this
    | (simp only [bind_pure]; exact this)
theorem clOf_look {cells : List (Str × Addr)} {y : Str} {c : Addr} : ∀ (names : List (Str × NameKind)) (acc : List (Str × Addr)), (clOf names cells acc).lookup y = some c → acc.lookup y = some c ∨ ((y, .free) ∈ names ∧ (cells.lookup y).getD 0 = c)
  | [], acc, h => .inl h
  | (n, k) :: r, acc, h => by
    rw [clOf] at h
    rcases clOf_look r _ h with q | ⟨q1, q2⟩
    · by_cases hk : k = .free
      · rw [if_pos hk, List.lookup_cons] at q
        cases e : y == n with
        | true =>
          rw [e] at q
          have : y = n := eq_of_beq e
          subst this; subst hk
          exact .inr ⟨List.mem_cons_self, Option.some.inj q⟩
        | false => rw [e] at q; exact .inl q
      · rw [if_neg hk] at q; exact .inl q
    · exact .inr ⟨List.mem_cons_of_mem _ q1, q2⟩
theorem clOf_has {cells : List (Str × Addr)} {y : Str} : ∀ (names : List (Str × NameKind)) (acc : List (Str × Addr)), (y, .free) ∈ names ∨ (acc.lookup y).isSome = true → ((clOf names cells acc).lookup y).isSome = true
  | [], acc, h => by
    rcases h with h | h
    · cases h
    · exact h
  | (n, k) :: r, acc, h => by
    rw [clOf]
    refine clOf_has r _ ?_
    rcases h with h | h
    · rcases List.mem_cons.mp h with e | h
      · cases e
        refine .inr ?_
        rw [if_pos rfl, List.lookup_cons]
        simp
      · exact .inl h
    · refine .inr ?_
      by_cases hk : k = .free
      · rw [if_pos hk, List.lookup_cons]
        cases e : y == n with
        | true => rfl
        | false => exact h
      · rw [if_neg hk]; exact h

/-- the context of a comprehension's block -/
abbrev compCx (X : Cx) (N' : List Str) (scope : Scope) (C : Addr) (fp : List Addr) (s : Shared) (H : Hp) (E : Value → Shared → Prop) : Cx :=
  { X with N := N', s₀ := s, H₀ := H, env := compEnvC scope (clOf scope.names X.env.cells []) C X.env, outer := X.stack, ex := fp, fn := fun _ => false, xe := E }
structure CScope (X : Cx) (scope : Scope) (x : Str) (caps : List Str) (js : List Nat) : Prop where
  kind : scope.kind = .function
  nocell : ∀ y ∈ scope.names, y.2 ≠ .cell
  names : ∀ y ∈ scope.names, y.2 = .local → scope.names.lookup y.1 = some .local
  loc : scope.names.lookup x = some .local
  fr : ∀ y ∈ scope.names, y.2 = .free → X.env.kindOf y.1 = some .cell ∨ X.env.kindOf y.1 = some .free
  nd : (x :: caps).Nodup
  len : caps.length = js.length
  cap : ∀ (k : Nat) y j, caps[k]? = some y → js[k]? = some j → X.N[j]? = some y ∧ scope.names.lookup y = some .free
def capS : Slot → Slot
  | .val d => .val d
  | _ => .no
def capR (js : List Nat) (ρ : Rho) : Rho := js.map fun j => capS (ρ.getD j .no)
def capV (js : List Nat) (σ : St) : St := js.map fun j => σ.getD j none
def compM (p : MT) (g : ME) (rest : Rho) : List D → Res (List D)
  | [] => .ok []
  | d :: ds => (p (.val d :: rest)).bind fun b => if b = true then (g (.val d :: rest)).bind fun y => (compM p g rest ds).bind fun ys => .ok (y :: ys) else compM p g rest ds

theorem relabel_free {scope : Scope} {env : Env} {y : Str} : ∀ {names : List (Str × NameKind)}, names.lookup y = some .free →
    (names.map fun (n, k) => if (k == NameKind.free && env.scope.kind == .function && env.kindOf n == some .cell) then (n, NameKind.cell) else (n, k)).lookup y = some .cell ∨
    (names.map fun (n, k) => if (k == NameKind.free && env.scope.kind == .function && env.kindOf n == some .cell) then (n, NameKind.cell) else (n, k)).lookup y = some .free
  | [], h => by cases h
  | (n, k) :: r, h => by
    rw [List.map_cons, List.lookup_cons]
    rw [List.lookup_cons] at h
    cases e : y == n with
    | true =>
      rw [e] at h
      cases h
      by_cases hc : (NameKind.free == NameKind.free && env.scope.kind == .function && env.kindOf n == some .cell) = true
      · simp only [hc, if_true]; rw [e]; exact .inl rfl
      · simp only [hc, Bool.false_eq_true, if_false]; rw [e]; exact .inr rfl
    | false =>
      rw [e] at h
      have ih := @relabel_free scope env y r h
      by_cases hc : (k == NameKind.free && env.scope.kind == .function && env.kindOf n == some .cell) = true
      · simp only [hc, if_true]; rw [e]; exact ih
      · simp only [hc, Bool.false_eq_true, if_false]; rw [e]; exact ih
/-- a name of the block that is a cell or free there is a free one of its table -/
theorem relabel_src {env : Env} {y : Str} {K : NameKind} (hK : K = .cell ∨ K = .free) : ∀ {names : List (Str × NameKind)}, (∀ z ∈ names, z.2 ≠ .cell) →
    (names.map fun (n, k) => if (k == NameKind.free && env.scope.kind == .function && env.kindOf n == some .cell) then (n, NameKind.cell) else (n, k)).lookup y = some K → (y, .free) ∈ names
  | [], _, h => by cases h
  | (n, k) :: r, hn, h => by
    rw [List.map_cons, List.lookup_cons] at h
    have ih := @relabel_src env y K hK r fun z hz => hn z (List.mem_cons_of_mem _ hz)
    cases e : y == n with
    | true =>
      have e' : y = n := eq_of_beq e
      subst e'
      by_cases hc : (k == NameKind.free && env.scope.kind == .function && env.kindOf y == some .cell) = true
      · rw [Bool.and_eq_true, Bool.and_eq_true] at hc
        have : k = .free := eq_of_beq hc.1.1
        subst this
        exact List.mem_cons_self
      · simp only [hc, Bool.false_eq_true, if_false] at h
        rw [e] at h
        have hk : k = K := Option.some.inj h
        rcases hK with q | q
        · exact absurd (hk.trans q) (hn (y, k) List.mem_cons_self)
        · rw [hk.trans q]; exact List.mem_cons_self
    | false =>
      by_cases hc : (k == NameKind.free && env.scope.kind == .function && env.kindOf n == some .cell) = true
      · simp only [hc, if_true] at h; rw [e] at h; exact List.mem_cons_of_mem _ (ih h)
      · simp only [hc, Bool.false_eq_true, if_false] at h; rw [e] at h; exact List.mem_cons_of_mem _ (ih h)

/-- one turn of a comprehension, the step ahead of the store kept -/
theorem comp_loop {prog : Program} {w : World} {A : Around} {R : Result → Shared → Prop} {s : Shared} {elt target iter : Expr} {ifs : List Expr} {scope : Scope} {pos : Pos} {it acc : Value} {env : Env} (I : Nat → Shared → Prop)
    (turn : ∀ n s, I n s → wpAny (model prog w) A (pyNext it) (fun r s₁ => match r with
      | none => R (.ok .next) s₁
      | some v => wpAny (model prog w) A (letOwnedTupleGo target it v) (fun _ s₁' => wpAny (model prog w) A (assign target env v) (fun _ s₂ =>
          wpAny (model prog w) A (forIn ifs true fun c r => if r = true then do let ok ← isTrue c env (eval c env); pure (ForInStep.yield ok) else pure (ForInStep.yield r)) (fun ok s₃ =>
            if ok = true then wpAny (model prog w) A (eval elt env) (fun x s₄ =>
              wpAny (model prog w) A (call (.builtin "list.append") [acc, x]) (fun _ s₅ => ∃ m, m < n ∧ I m s₅) (notedBy (model prog w) A env fun e s' => R (.error e) s') s₄) (notedBy (model prog w) A env fun e s' => R (.error e) s') s₃
            else ∃ m, m < n ∧ I m s₃) (notedBy (model prog w) A env fun e s' => R (.error e) s') s₂) (notedBy (model prog w) A env fun e s' => R (.error e) s') s₁')
              (notedBy (model prog w) A env fun e s' => R (.error e) s') s₁) (notedBy (model prog w) A env fun e s' => R (.error e) s') s)
    (n : Nat) (h : I n s) : codeAny (model prog w) A (.compLoop (.ListComp elt [⟨target, iter, ifs, 0⟩] scope pos) 0 it acc env) R s := by
  apply codeAny_loop rfl I ?_ n h
  intro n s hI
  show wpAny _ A ((compTurn (.ListComp elt [⟨target, iter, ifs, 0⟩] scope pos) 0 it acc env).onRaise fun x => do noteFrame x env; theTreesLotGoes x) _ _ s
  apply wpAny_noted
  rw [compTurn_list]
  apply wpAny_bind; apply wpAny_standAt; apply wpAny_bind
  apply wpAny_mono (turn n s hI) ?_ (fun _ _ h' => h')
  intro r s₁ h₁
  cases r with
  | none => exact wpAny_pure h₁
  | some v =>
    apply wpAny_bind
    apply wpAny_mono h₁ ?_ (fun _ _ h' => h')
    intro _ s₁' h₁'
    apply wpAny_bind
    apply wpAny_mono h₁' ?_ (fun _ _ h' => h')
    intro _ s₂ h₂
    apply wpAny_bind
    apply wpAny_mono h₂ ?_ (fun _ _ h' => h')
    intro ok s₃ h₃
    cases ok with
    | false => exact wpAny_pure ⟨rfl, h₃⟩
    | true =>
      apply wpAny_bind; apply wpAny_bind
      apply wpAny_mono h₃ ?_ (fun _ _ h' => h')
      intro x s₄ h₄
      apply wpAny_bind
      apply wpAny_mono h₄ ?_ (fun _ _ h' => h')
      intro _ s₅ h₅
      exact wpAny_pure (wpAny_pure ⟨rfl, h₅⟩)

section
variable {X : Cx} {x : Str} {caps : List Str} {js : List Nat} {scope : Scope} {px pos : Pos} {elt iter : Expr} {ifs : List Expr} {p : MT} {g : ME}
/-- the tests of a comprehension: none, or one -/
def IfsOk (X : Cx) (ifs : List Expr) (p : MT) : Prop := (ifs = [] ∧ p = fun _ => .ok true) ∨ ∃ c, ifs = [c] ∧ IT X c p
theorem ifs_run {X : Cx} {ifs : List Expr} {p : MT} (h : IfsOk X ifs p) {pins : List (Addr × Obj)} {s : Shared} {σ : St} {H : Hp} {Q : Bool → Hp → Prop} (I : Inv X pins σ H s) (q : tDT X p σ H Q) :
    wpAny (model X.prog X.w) X.A (forIn ifs true fun c r => if r = true then do let ok ← isTrue c X.env (eval c X.env); pure (ForInStep.yield ok) else pure (ForInStep.yield r)) (TP X pins σ Q) X.xe s := by
  rcases h with ⟨rfl, rfl⟩ | ⟨c, rfl, hc⟩
  · exact wpAny_tests_nil ⟨H, I, tok_of q⟩
  · exact wpAny_tests_one (hc pins s σ H Q I q)
/-- all of a context's laws hold in the block's -/
theorem comp_inv {pins : List (Addr × Obj)} {σ : St} {H : Hp} {s : Shared} {h₁ : Heap} {fp : List Addr} {m : Str → Option Value} {E : Value → Shared → Prop} {tk : Nat} (S : CScope X scope x caps js) (I : Inv X pins σ H s)
    (hfp : ∀ b ∈ fp, FpOk X pins H b) (hlt : ∀ b ∈ fp, b < s.heap.objs.size) (hn : h₁.Ns s.heap.objs.size m) (hk : ∀ b o, s.heap.get? b = some o → h₁.get? b = some o) :
    Inv (compCx X (x :: caps) scope s.heap.objs.size fp s H E) pins (none :: capV js σ) H { s with heap := h₁, toks := tk } := by
  have cl_src : ∀ y c, (clOf scope.names X.env.cells []).lookup y = some c → X.env.cells.lookup y = some c ∧ (y, NameKind.free) ∈ scope.names := fun y c e => by
    rcases clOf_look scope.names [] e with q | ⟨q1, q2⟩
    · cases q
    · obtain ⟨c', hc'⟩ := I.ok.has y (S.fr (y, .free) q1 rfl)
      rw [hc'] at q2
      have : c' = c := q2
      subst this
      exact ⟨hc', q1⟩
  have stk_no : ∀ b, b ≠ X.env.locals → b ∉ X.fs → b ∉ frs X.stack := fun b h1 h2 hb => by
    rcases List.mem_cons.mp (I.stkSub b hb) with z | z
    · exact h1 z
    · exact h2 z
  have C_new : ∀ b o, s.heap.get? b = some o → b ≠ s.heap.objs.size := fun b o e => Nat.ne_of_lt (Heap.lt_size e)
  have lookL : (relabel scope X.env).names.lookup x = some .local := lookup_relabel_local S.loc
  refine ⟨⟨I.ok.mod, S.kind, I.ok.glob, I.ok.blt, Nat.le_refl _, fun y z c h1 h2 => ?_, fun y hy => ?_, fun y c hf _ => (by cases hf), I.ok.hd, I.ok.frames, .inl rfl, fun b hb => ?_, I.bs, Nat.le_trans I.ok.bsz I.sz, fun b o e hb => ?_, fun b hb => ?_, I.stack, I.stkFree⟩,
    rfl, I.bare, Un.kept hk, ⟨m, hn, fun i y v h1 h2 h3 => ?_⟩, fun y c e => ?_, I.hok.fresh (Nat.le_refl _), fun y c e => I.freeC y c (cl_src y c e).1, fun q hq => ?_, I.hok.kept hk, ?_⟩
  · exact I.ok.inj y z c (cl_src y c h1).1 (cl_src z c h2).1
  · have hy' : (relabel scope X.env).names.lookup y = some .cell ∨ (relabel scope X.env).names.lookup y = some .free := hy
    have hmem : (y, NameKind.free) ∈ scope.names := by
      rcases hy' with q | q
      · exact relabel_src (.inl rfl) S.nocell q
      · exact relabel_src (.inr rfl) S.nocell q
    exact Option.isSome_iff_exists.mp (clOf_has scope.names [] (.inl hmem))
  · refine ⟨Nat.ne_of_lt (hlt b hb), fun y c e => ?_⟩
    exact (hfp b hb).2.2.2.2.1 y c (cl_src y c e).1
  · have z := (hfp b hb).2.2.2.1
    rcases z with z | z
    · exact I.ok.noex b o e z
    · exact absurd (Nat.lt_of_lt_of_le (Heap.lt_size (I.ok.bs b o e).1) z) (Nat.lt_irrefl _)
  · exact stk_no b (hfp b hb).2.1 (hfp b hb).2.2.1
  · cases i with
    | zero => cases h2
    | succ k =>
      have h1' : caps[k]? = some y := h1
      have h2' : (capV js σ)[k]? = some (some v) := h2
      unfold capV at h2'
      rw [List.getElem?_map] at h2'
      cases hj : js[k]? with
      | none => rw [hj] at h2'; cases h2'
      | some j =>
        rw [hj] at h2'
        have h3' : σ.getD j none = some v := Option.some.inj h2'
        obtain ⟨c1, c2⟩ := S.cap k y j h1' hj
        have hσ : σ[j]? = some (some v) := by
          rw [List.getD_eq_getElem?_getD] at h3'
          cases e : σ[j]? with
          | none => rw [e] at h3'; cases h3'
          | some o => rw [e] at h3'; exact congrArg some h3'
        have hm : (y, NameKind.free) ∈ scope.names := PySem.mem_of_lookup c2
        have hkd := S.fr (y, .free) hm rfl
        obtain ⟨m0, hn0, hl0⟩ := I.loc
        obtain ⟨u, ru, lk⟩ := hl0 j y v c1 hσ (by
          rcases hkd with z | z
          · exact .inr (.inl z)
          · exact .inr (.inr z))
        refine ⟨u, ru, ?_⟩
        rcases lk with ⟨kd, _⟩ | ⟨_, c, hc, hcell⟩
        · rcases hkd with z | z
          · exact absurd (kd.symm.trans z) (by decide)
          · exact absurd (kd.symm.trans z) (by decide)
        · obtain ⟨c', hc'⟩ := Option.isSome_iff_exists.mp (clOf_has (cells := X.env.cells) scope.names [] (.inl hm))
          have : c' = c := by
            have := (cl_src y c' hc').1
            rw [hc] at this
            exact (Option.some.inj this).symm
          subst this
          refine .inr ⟨relabel_free (scope := scope) c2, c', hc', ?_⟩
          obtain ⟨o, ho, hd⟩ := hcell
          exact ⟨o, hk _ o ho, hd⟩
  · obtain ⟨v, o, ho, hd⟩ := I.cell y c (cl_src y c e).1
    exact ⟨v, o, hk _ o ho, hd⟩
  · obtain ⟨e, n, ne, nf, d⟩ := I.pin q hq
    exact ⟨hk _ _ e, n, C_new _ _ e, stk_no q.1 ne nf, d⟩
  · show (none :: capV js σ).length = (x :: caps).length
    unfold capV
    rw [List.length_cons, List.length_cons, List.length_map, S.len]
end
end R
end
section
set_option Elab.async false
set_option linter.all false
set_option maxRecDepth 100000
set_option maxHeartbeats 4000000
namespace R
open PySem PySem.Spec PyProof.Rows L2
variable [Tbl]

section
variable {X : Cx} {x : Str} {caps : List Str} {js : List Nat} {scope : Scope} {px pos : Pos} {elt iter : Expr} {ifs : List Expr} {p : MT} {g : ME}
/-- behind the block: the law of the frame around it -/
theorem comp_back {pins : List (Addr × Obj)} {σ σ' : St} {H H' : Hp} {s s' : Shared} {N' : List Str} {C : Addr} {fp : List Addr} {E : Value → Shared → Prop} {h' : Heap} (I : Inv X pins σ H s) (J : Inv (compCx X N' scope C fp s H E) pins σ' H' s')
    (hC : s.heap.objs.size ≤ C) (hs : Heap.SameBut C s'.heap h') (hfp : ∀ b ∈ fp, FpOk X pins H b) : Inv X pins σ H' { s' with heap := h' } := by
  have ne : ∀ b o, s.heap.get? b = some o → b ≠ C := fun b o e => Nat.ne_of_lt (Nat.lt_of_lt_of_le (Heap.lt_size e) hC)
  have hfree : H' C = none := J.free
  refine I.call' (s' := { s' with heap := h' }) (ch := fp) J.os ⟨fun b o q n hb hx => ?_, fun b o q n hb hx => ?_, J.base.free, fun b o q hx => ?_, J.base.tups, J.base.frzs, J.base.tbls⟩ (fun a o e => ?_) J.bare fun b hb => ?_
  · exact (hs.2 b (ne b o q)).trans (J.base.keep b o q n hb hx)
  · obtain ⟨sl, e⟩ := J.base.slot b o q n hb hx
    exact ⟨sl, (hs.2 b (ne b o q)).trans e⟩
  · obtain ⟨o', e⟩ := J.base.there b o q hx
    exact ⟨o', (hs.2 b (ne b o q)).trans e⟩
  · refine (J.hok a o e).stay (fun b u hb q => (hs.2 b fun z => ?_).trans q) (fun _ q => q) fun _ _ q => q
    subst z
    rcases hb with z | z
    · subst z; rw [e] at hfree; cases hfree
    · rw [z] at hfree; cases hfree
  · obtain ⟨_, f1, _, f3, f4, f5⟩ := hfp b hb
    exact ⟨f3, f1, f4, f5⟩
theorem cap_env {K : PySem.W.Frag} {F H F' H' : Hp} {ρ : Rho} {σ : St} {js : List Nat} {o : Option V} (E : EnvR K F H ρ σ) (gr : Grow F H F' H') : EnvR K F' H' (.no :: capR js ρ) (o :: capV js σ) := by
  have noown : ∀ (i : Nat) es, (Slot.no :: capR js ρ)[i]? ≠ some (.own es) := fun i es e => by
    have hm := List.mem_of_getElem? e
    rcases List.mem_cons.mp hm with h | h
    · cases h
    · unfold capR at h
      obtain ⟨j, _, h⟩ := List.mem_map.mp h
      cases q : ρ.getD j .no with
      | no => rw [q] at h; cases h
      | val d => rw [q] at h; cases h
      | own ds => rw [q] at h; cases h
      | is v c => rw [q] at h; cases h
  refine ⟨gr.tk E.tb, gr.sub, ?_, fun i sl e => ?_, fun i j ds es a _ e => absurd e (noown i ds)⟩
  · unfold capR capV; simp only [List.length_cons, List.length_map]
  · cases i with
    | zero => cases e; exact ⟨o, rfl, trivial⟩
    | succ k =>
      have e' : (capR js ρ)[k]? = some sl := e
      unfold capR at e'
      rw [List.getElem?_map] at e'
      cases hj : js[k]? with
      | none => rw [hj] at e'; cases e'
      | some j =>
        rw [hj] at e'
        have e2 : capS (ρ.getD j .no) = sl := Option.some.inj e'
        refine ⟨σ.getD j none, ?_, ?_⟩
        · show (capV js σ)[k]? = _
          unfold capV
          rw [List.getElem?_map, hj]; rfl
        · subst e2
          cases q : ρ[j]? with
          | none => rw [List.getD_eq_getElem?_getD, q]; trivial
          | some s0 =>
            rw [List.getD_eq_getElem?_getD, q]
            cases s0 with
            | no => trivial
            | own ds => trivial
            | is v c => trivial
            | val d =>
              obtain ⟨o', e1, v, rfl, hd⟩ := E.at_ j _ q
              refine ⟨v, ?_, hd.mono gr.fs⟩
              rw [List.getD_eq_getElem?_getD, e1]; rfl

theorem comp_block {pins : List (Addr × Obj)} {σ : St} {ρ : Rho} {H2 F2 : Hp} {s2 : Shared} {ds ys : List D} {J : It} {it : Addr} {fp : List Addr} {tn : Nat → Heap → Prop} {RR : Value → Addr → Result → Shared → Prop} {Ex : Value → Shared → Prop}
    (S : CScope X scope x caps js) (hc : X.calm = true) (I2 : Inv X pins σ H2 s2) (T : Turn X.prog X.w X.K (.Name x px) J fp it tn) (t0 : tn 0 s2.heap) (f2 : ∀ b ∈ fp, FpOk X pins H2 b) (Ev : EnvR X.K F2 H2 ρ σ) (io : ItOk X.K F2 J ds)
    (hp : ∀ C fp s H E, IfsOk (compCx X (x :: caps) scope C fp s H E) ifs p) (hg : ∀ C fp s H E, IE (compCx X (x :: caps) scope C fp s H E) elt g) (hys : compM p g (capR js ρ) ds = .ok ys) (hlen : ds.length ≤ sizeLine)
    (hend : ∀ Dd C s' H' F' vs m', H2 Dd = none → Grow F2 H2 F' H' → F' Dd = none → H' Dd = some (.lst vs) → DatL X.K F' ys vs → s'.heap.Ns C m' → (∀ h', Heap.SameBut C s'.heap h' → Inv X pins σ H' { s' with heap := h' }) → FpOk X pins H' C → RR (.ref Dd) C (.ok .next) s') :
    wpAny (model X.prog X.w) X.A (newList []) (fun acc s₃ => wpAny (model X.prog X.w) X.A (newFunctionEnv scope X.env.globals (clOf scope.names X.env.cells []) [] X.env.qual none .none (some X.env)) (fun cenv s₄ =>
      codeAny (model X.prog X.w) X.A (.compStart (.ListComp elt [⟨.Name x px, iter, ifs, 0⟩] scope pos) 0 (.ref it) acc { cenv with scope := relabel scope X.env }) (RR acc cenv.locals) s₄) Ex s₃) Ex s2 := by
  refine wpAny_newObj_type (wpAny_newFunctionEnv S.nocell (by intro y hy; simp at hy) (fun h₁ hns₁ hsb₁ => ?_) S.kind)
  dsimp only at hns₁ hsb₁ ⊢
  have I3 : Inv X pins σ (upd H2 s2.heap.objs.size (.lst [])) { s2 with heap := s2.heap.push { cls := .type "list", data := .seq ([] : List Value).toArray }, toks := s2.toks } := I2.lnew (its := []) (t' := s2.toks) .nil (Nat.zero_le _)
  generalize hs3 : ({ s2 with heap := s2.heap.push { cls := .type "list", data := .seq ([] : List Value).toArray }, toks := s2.toks } : Shared) = s3 at I3
  have e3 : s2.heap.push { cls := .type "list", dict := none, data := .seq ([] : List Value).toArray } = s3.heap := by rw [← hs3]
  have hsz3 : s3.heap.objs.size = s2.heap.objs.size + 1 := by rw [← e3, Heap.size_push]
  rw [e3] at hns₁ hsb₁ ⊢
  have hfresh : H2 s2.heap.objs.size = none := I2.hok.fresh (Nat.le_refl _)
  have hltf : ∀ b ∈ fp, b < s2.heap.objs.size := fun b hb => by
    obtain ⟨o, e, _⟩ := T.obj 0 _ t0 b hb
    exact Heap.lt_size e
  have f3 : ∀ b ∈ fp, FpOk X pins (upd H2 s2.heap.objs.size (.lst [])) b := fun b hb => ⟨by rw [upd_ne (Nat.ne_of_lt (hltf b hb))]; exact (f2 b hb).1, (f2 b hb).2⟩
  have hkeep1 : ∀ b o, s3.heap.get? b = some o → h₁.get? b = some o := fun b o e => (hsb₁.2 b (Nat.ne_of_lt (Heap.lt_size e))).trans (Heap.get?_push_of_some _ e)
  have J0 := comp_inv (E := notedBy (model X.prog X.w) X.A (compEnvC scope (clOf scope.names X.env.cells []) s3.heap.objs.size X.env) fun e s' => RR (.ref s2.heap.objs.size) s3.heap.objs.size (.error e) s')
    (tk := s3.toks + ([] : List (Str × Value)).length) S I3 f3 (fun b hb => by rw [hsz3]; exact Nat.lt_succ_of_lt (hltf b hb)) hns₁ hkeep1
  have t1 : tn 0 h₁ := T.keep 0 _ _ t0 fun b hb o e => hkeep1 b o (by rw [← e3]; exact Heap.get?_push_of_some _ e)
  generalize hX' : compCx X (x :: caps) scope s3.heap.objs.size fp s3 (upd H2 s2.heap.objs.size (.lst [])) (notedBy (model X.prog X.w) X.A (compEnvC scope (clOf scope.names X.env.cells []) s3.heap.objs.size X.env) fun e s' => RR (.ref s2.heap.objs.size) s3.heap.objs.size (.error e) s') = X' at J0
  have lookL : (relabel scope X.env).names.lookup x = some .local := lookup_relabel_local S.loc
  have hfp : ∀ {H' : Hp}, (∀ b ∈ fp, H' b = none) → ∀ b ∈ fp, FpOk X' pins H' b := fun {H'} hn b hb => by
    rw [← hX']
    refine ⟨hn b hb, ?_, ?_, .inl hb, fun y c e => ?_, fun q hq => (f2 b hb).2.2.2.2.2 q hq⟩
    · show b ≠ s3.heap.objs.size
      rw [hsz3]; exact Nat.ne_of_lt (Nat.lt_succ_of_lt (hltf b hb))
    · show b ∉ frs X.stack
      intro z
      rcases List.mem_cons.mp (I2.stkSub b z) with z | z
      · exact (f2 b hb).2.1 z
      · exact (f2 b hb).2.2.1 z
    · rcases clOf_look scope.names [] e with q | ⟨q1, q2⟩
      · cases q
      · obtain ⟨c', hc'⟩ := I2.ok.has y (S.fr (y, .free) q1 rfl)
        rw [hc'] at q2
        have : c' = c := q2
        subst this
        exact (f2 b hb).2.2.2.2.1 y c' hc'
  have loop : ∀ s4 : Shared, s4 = { s3 with heap := h₁, toks := s3.toks + ([] : List (Str × Value)).length } →
      codeAny (model X.prog X.w) X.A (.compLoop (.ListComp elt [⟨.Name x px, iter, ifs, 0⟩] scope pos) 0 (.ref it) (.ref s2.heap.objs.size) (compEnvC scope (clOf scope.names X.env.cells []) s3.heap.objs.size X.env)) (RR (.ref s2.heap.objs.size) s3.heap.objs.size) s4 := by
    rintro s4 rfl
    refine comp_loop (fun n s' => ∃ i σ' H' F' zs vs, n = ds.length - i ∧ i ≤ ds.length ∧ Inv X' pins σ' H' s' ∧ tn i s'.heap ∧ (∀ b ∈ fp, H' b = none) ∧ (∃ o, σ' = o :: capV js σ) ∧ Grow F2 H2 F' H' ∧ F' s2.heap.objs.size = none ∧
      H' s2.heap.objs.size = some (.lst vs) ∧ DatL X.K F' zs vs ∧ zs.length ≤ i ∧ ((compM p g (capR js ρ) (ds.drop i)).bind fun r => .ok (zs ++ r)) = .ok ys) ?_ ds.length ?_
    · rintro n s' ⟨i, σ', H', F', zs, vs, rfl, hi, I', st, fr, ⟨o, rfl⟩, gr, fD, hD, dl, zl, hm⟩
      have hunit : ∀ {E : Value → Shared → Prop}, True := fun {_} => trivial
      obtain ⟨io1, io2⟩ := io i F' H' gr.fs gr.sub
      by_cases hlt : i < ds.length
      · have hd : ds[i]? = some ds[i] := List.getElem?_eq_getElem hlt
        obtain ⟨go, yl⟩ := io1 _ hd
        have hit := T.item X' (by rw [← hX']) (by rw [← hX']) (by rw [← hX']) (by rw [← hX']; exact hc) i pins s' (o :: capV js σ) H' X'.xe I' (hfp fr) st go
        have hA : X'.A = X.A := by rw [← hX']
        have hXe : X'.xe = notedBy (model X.prog X.w) X.A (compEnvC scope (clOf scope.names X.env.cells []) s3.heap.objs.size X.env) fun e s' => RR (.ref s2.heap.objs.size) s3.heap.objs.size (.error e) s' := by rw [← hX']
        have hEnv : X'.env = compEnvC scope (clOf scope.names X.env.cells []) s3.heap.objs.size X.env := by rw [← hX']
        have hP : X'.prog = X.prog := by rw [← hX']
        have hW : X'.w = X.w := by rw [← hX']
        have hK : X'.K = X.K := by rw [← hX']
        rw [hA, hXe] at hit
        refine wpAny_mono hit (fun r s5 ⟨u, hr, h5⟩ => ?_) fun _ _ z => z
        subst hr
        refine wpAny_mono h5 (fun _ s6 ⟨v, H6, I6, r6, y6, st6, fr6⟩ => ?_) fun _ _ z => z
        obtain ⟨F6, g6, d6⟩ := yl v H6 y6
        have I6' := I6.pinned (hfp fr6) (T.obj _ _ st6)
        have gr6 := gr.trans g6
        have hD6 : H6 s2.heap.objs.size = some (.lst vs) := g6.same _ _ rfl hD
        have fD6 : F6 s2.heap.objs.size = none := g6.new _ fD (by rw [hD]; simp)
        have pg : PG X' (.Name x px) (gName 0) := by
          rw [← hX']
          exact pg_name (i := 0) S.nd rfl (.inl lookL) (.inr lookL)
        have has := pg _ s6 _ H6 v u (fun σ7 H7 => σ7 = some v :: capV js σ ∧ H7 = H6) I6' r6 ⟨rfl, rfl⟩
        rw [hA, hXe, hEnv, hP, hW] at has
        refine wpAny_mono has (fun _ s7 ⟨σ7, H7, I7, e7, e7'⟩ => ?_) fun _ _ z => z
        subst e7 e7'
        have E7 : EnvR X'.K F6 H7 (.val ds[i] :: capR js ρ) (some v :: capV js σ) := by
          rw [hK]
          exact (cap_env (js := js) (o := none) Ev gr6).set (d := ds[i]) (v := v) 0 d6
        -- what the turn is
        rw [List.drop_eq_getElem_cons hlt, compM] at hm
        have hpp := hp s3.heap.objs.size fp s3 (upd H2 s2.heap.objs.size (.lst [])) (notedBy (model X.prog X.w) X.A (compEnvC scope (clOf scope.names X.env.cells []) s3.heap.objs.size X.env) fun e s' => RR (.ref s2.heap.objs.size) s3.heap.objs.size (.error e) s')
        have hgg := hg s3.heap.objs.size fp s3 (upd H2 s2.heap.objs.size (.lst [])) (notedBy (model X.prog X.w) X.A (compEnvC scope (clOf scope.names X.env.cells []) s3.heap.objs.size X.env) fun e s' => RR (.ref s2.heap.objs.size) s3.heap.objs.size (.error e) s')
        rw [hX'] at hpp hgg
        cases hb : p (.val ds[i] :: capR js ρ) with
        | ok b =>
          rw [hb] at hm
          have hte := ifs_run (Q := fun b' H8 => b' = b ∧ ∃ F8, Grow F6 H7 F8 H8) hpp I7 ⟨_, F6, E7, by rw [hb]; exact fun b' F8 H8 g8 e8 => ⟨(show b = b' from e8).symm, F8, g8⟩⟩
          rw [hA, hXe, hEnv, hP, hW] at hte
          refine wpAny_mono hte (fun b' s8 ⟨H8, I8, e8, F8, g8⟩ => ?_) fun _ _ z => z
          subst e8
          have gr8 := gr6.trans g8
          have hD8 : H8 s2.heap.objs.size = some (.lst vs) := g8.same _ _ rfl hD6
          have fD8 : F8 s2.heap.objs.size = none := g8.new _ fD6 (by rw [hD6]; simp)
          -- the records of the iterator stay
          have stay : ∀ {σ9 : St} {H9 : Hp} {s9 : Shared}, Inv X' (pins ++ pinsAt fp s6.heap) σ9 H9 s9 → tn (i + 1) s9.heap ∧ ∀ b ∈ fp, H9 b = none := fun {σ9 H9 s9} I9 =>
            ⟨T.keep _ _ _ st6 fun b hb o e => (I9.pin (b, o) (List.mem_append_right _ (List.mem_append_right _ (mem_pinsAt hb e)))).1, fun b hb => by
              obtain ⟨o, e, d⟩ := T.obj _ _ st6 b hb
              exact (I9.pin (b, o) (List.mem_append_right _ (List.mem_append_right _ (mem_pinsAt hb e)))).2.1⟩
          cases b' with
          | false =>
            refine iteF ⟨ds.length - (i + 1), by omega, i + 1, some v :: capV js σ, H8, F8, zs, vs, rfl, hlt, I8.unpinned, (stay I8).1, (stay I8).2, ⟨_, rfl⟩, gr8, fD8, hD8, (dl.mono g6.fs).mono g8.fs, by omega, ?_⟩
            exact hm
          | true =>
            refine iteT ?_
            have hm' : (((g (.val ds[i] :: capR js ρ)).bind fun y => (compM p g (capR js ρ) (ds.drop (i + 1))).bind fun ys => .ok (y :: ys)).bind fun r => .ok (zs ++ r)) = .ok ys := hm
            cases hgv : g (.val ds[i] :: capR js ρ) with
            | ok y =>
              rw [hgv] at hm'
              have hel := hgg _ s8 _ H8 (fun v9 H9 => ∃ F9, Grow F8 H8 F9 H9 ∧ Dat X.K F9 y v9) I8 ⟨_, F8, E7.grow g8, by rw [hgv]; exact fun v9 F9 H9 g9 d9 => ⟨F9, g9, by rw [← hK]; exact d9⟩⟩
              rw [hA, hXe, hEnv, hP, hW] at hel
              refine wpAny_mono hel (fun u9 s9 ⟨v9, H9, I9, r9, F9, g9, d9⟩ => ?_) fun _ _ z => z
              have gr9 := gr8.trans g9
              have hD9 : H9 s2.heap.objs.size = some (.lst vs) := g9.same _ _ rfl hD8
              have fD9 : F9 s2.heap.objs.size = none := g9.new _ fD8 (by rw [hD8]; simp)
              have hvl : vs.length = zs.length := dl.length.symm
              have hap := mt_append (X := X') _ s9 _ H9 (.ref s2.heap.objs.size) [v9] (.ref s2.heap.objs.size) [u9] (fun w H10 => H10 = upd H9 s2.heap.objs.size (.lst (vs ++ [v9]))) I9 rfl (.cons r9 .nil)
                ⟨_, vs, v9, rfl, rfl, hD9, by omega, rfl⟩
              rw [hA, hXe, hP, hW] at hap
              refine wpAny_mono hap (fun _ s10 ⟨w, H10, I10, _, e10⟩ => ?_) fun _ _ z => z
              subst e10
              refine ⟨ds.length - (i + 1), by omega, i + 1, some v :: capV js σ, _, F9, zs ++ [y], vs ++ [v9], rfl, hlt, I10.unpinned, (stay I10).1, (stay I10).2, ⟨_, rfl⟩, ?_, fD9, upd_same, ?_, ?_, ?_⟩
              · exact ⟨fun b o nt q => by rw [upd_ne (ne_of_none q hfresh)]; exact gr9.same b o nt q, more_upd gr9.more _ _, fun ti => ⟨(gr9.tk ti).1.updL hD9 _, (gr9.tk ti).2⟩, gr9.fs, same_updR gr9.sub fD9 _, gr9.new⟩
              · exact DatL.of (pr_append (((dl.mono g6.fs).mono g8.fs).mono g9.fs).paired (.cons d9 .nil))
              · rw [List.length_append]; show zs.length + 1 ≤ i + 1; omega
              · revert hm'
                show (((compM p g (capR js ρ) (ds.drop (i + 1))).bind fun ys => .ok (y :: ys)).bind fun r => .ok (zs ++ r)) = .ok ys → _
                cases compM p g (capR js ρ) (ds.drop (i + 1)) with
                | ok r =>
                  intro z
                  have z' : (Res.ok (zs ++ (y :: r)) : Res (List D)) = .ok ys := z
                  show (Res.ok ((zs ++ [y]) ++ r) : Res (List D)) = .ok ys
                  rw [← z']; simp
                | ex _ => intro z; cases z
                | bad => intro z; cases z
            | ex _ => rw [hgv] at hm'; cases hm'
            | bad => rw [hgv] at hm'; cases hm'
        | ex _ => rw [hb] at hm; cases hm
        | bad => rw [hb] at hm; cases hm
      · have e : i = ds.length := by omega
        subst e
        have hdn := T.done X' (by rw [← hX']) (by rw [← hX']) (by rw [← hX']) (by rw [← hX']; exact hc) ds.length pins s' (o :: capV js σ) H' X'.xe I' (hfp fr) st (io2 rfl)
        have hA : X'.A = X.A := by rw [← hX']
        have hXe : X'.xe = notedBy (model X.prog X.w) X.A (compEnvC scope (clOf scope.names X.env.cells []) s3.heap.objs.size X.env) fun e s' => RR (.ref s2.heap.objs.size) s3.heap.objs.size (.error e) s' := by rw [← hX']
        rw [hA, hXe] at hdn
        refine wpAny_mono hdn (fun r s5 ⟨hr, I5⟩ => ?_) fun _ _ z => z
        subst hr
        rw [List.drop_eq_nil_of_le (Nat.le_refl _)] at hm
        have hzs : zs = ys := by
          have hm' : (Res.ok (zs ++ []) : Res (List D)) = .ok ys := hm
          rw [List.append_nil] at hm'
          cases hm'; rfl
        subst hzs
        have I5' := I5
        rw [← hX'] at I5'
        obtain ⟨m', hn', _⟩ := I5'.loc
        refine hend s2.heap.objs.size s3.heap.objs.size s5 H' F' vs m' hfresh gr fD hD dl hn' (fun h' hs' => comp_back I3 I5' (Nat.le_refl _) hs' f3) ?_
        exact I3.fpOk (Nat.le_refl _) I5'.free
    · refine ⟨0, none :: capV js σ, _, F2, [], [], by omega, Nat.zero_le _, J0, t1, fun b hb => (f3 b hb).1, ⟨none, rfl⟩, Grow.laidN Ev.sub hfresh _, Same.free Ev.sub hfresh, upd_same, DatL.nil, Nat.le_refl _, ?_⟩
      rw [List.drop_zero, hys]; rfl
  subst hs3
  exact codeAny_compStart_list (loop _ rfl) (T.self _ 0 _ _ _ t1 (loop _ rfl))
end
end R
end
section
set_option Elab.async false
set_option linter.all false
set_option maxRecDepth 100000
set_option maxHeartbeats 4000000
namespace R
open PySem PySem.Spec PyProof.Rows L2
variable [Tbl]

section
variable {X : Cx} {x : Str} {caps : List Str} {js : List Nat} {scope : Scope} {px pos spos py : Pos} {elt iter : Expr} {ifs : List Expr} {p : MT} {g : ME} {fl : ML}
def mComp (js : List Nat) (fl : ML) (p : MT) (g : ME) : ME := fun ρ => (fl ρ).bind fun ds => if ds.length ≤ sizeLine then (compM p g (capR js ρ) ds).bind fun ys => .ok (.lst ys) else .bad
theorem clos_of (S : CScope X scope x caps js) {pins : List (Addr × Obj)} {σ : St} {H : Hp} {s : Shared} (I : Inv X pins σ H s) : closureFor scope X.env = pure (clOf scope.names X.env.cells []) :=
  clos_eq fun y hy hf => I.ok.has y.1 (S.fr y hy hf)
theorem ie_comp (S : CScope X scope x caps js) (hc : X.calm = true) (hi : II X (.Name x px) iter fl) (hp : ∀ C fp s H E, IfsOk (compCx X (x :: caps) scope C fp s H E) ifs p) (hg : ∀ C fp s H E, IE (compCx X (x :: caps) scope C fp s H E) elt g)
    (hs : ∀ x, foldedSetIterable iter X.env x = pure x := by intro _; rfl) : IE X (.ListComp elt [⟨.Name x px, iter, ifs, 0⟩] scope pos) (mComp js fl p g) := by
  intro pins s σ H Q I ⟨ρ, F, Ev, q⟩
  rw [eval_ListComp]
  refine wpAny_comprehension_free (use := none) rfl hs (clos_of S I) S.kind S.names ?_
  unfold mComp at q
  cases hf : fl ρ with
  | ok ds =>
    rw [hf] at q
    have q' : Post (Dat X.K) F H (if ds.length ≤ sizeLine then (compM p g (capR js ρ) ds).bind fun ys => .ok (.lst ys) else .bad) Q := q
    split at q'
    · rename_i hlen
      cases hcm : compM p g (capR js ρ) ds with
      | ok ys =>
        rw [hcm] at q'
        have q2 : Post (Dat X.K) F H (.ok (.lst ys)) Q := q'
        have hiter := hi pins s σ H (fun J H2 => ∃ F2, Grow F H F2 H2 ∧ ItOk X.K F2 J ds) I ⟨ρ, F, Ev, by rw [hf]; exact fun J F' H' g' io => ⟨F', g', io⟩⟩
        refine wpAny_mono hiter (fun v s1 h1 => wpAny_mono h1 (fun itv s2 h2 => ?_) fun _ _ e => e) fun _ _ e => e
        obtain ⟨it, fp, tn, J, H2, rfl, I2, T, t0, f2, F2, g2, io⟩ := h2
        refine comp_block (RR := fun acc C => compPost (model X.prog X.w) X.A X.xe none (EP X pins σ Q) acc C) S hc I2 T t0 f2 (Ev.grow g2) io hp hg hcm hlen ?_
        intro Dd C s' H' F' vs m' hD2 gr fD hD dl hn hback hfp
        refine ⟨m', hn, fun h' hs' => ⟨.ref Dd, H', hback h' hs', rfl, ?_⟩⟩
        have hH : H Dd = none := g2.free hD2
        have grA := g2.trans gr
        refine q2 (.ref Dd) (upd F' Dd (.lst vs)) H' ⟨grA.same, grA.more, fun ti => ⟨(grA.tk ti).1, (grA.tk ti).2.upd _ rfl⟩, grA.fs.trans (same_new fD _), fun b o e => ?_, fun b hb hn' => ?_⟩ ?_
        · by_cases z : b = Dd
          · subst z; rw [upd_same] at e; cases e; exact hD
          · rw [upd_ne z] at e; exact grA.sub b o e
        · have z : b ≠ Dd := fun z => hn' (z ▸ hH)
          rw [upd_ne z]; exact grA.new b hb hn'
        · simp only [Dat]
          exact ⟨Dd, vs, rfl, SqL.of upd_same, dl.mono (same_new fD _)⟩
      | ex _ => rw [hcm] at q'; exact q'.elim
      | bad => rw [hcm] at q'; exact q'.elim
    · exact q'.elim
  | ex _ => rw [hf] at q; exact q.elim
  | bad => rw [hf] at q; exact q.elim

/-! ### name = [..]: the list is stored ahead of the block's end -/
theorem store_comp {i : Nat} {y : Str} {pins : List (Addr × Obj)} {σ : St} {H : Hp} {s : Shared} {v : V} {u : Value} {C : Addr} {m : Str → Option Value} {Q : Shared → Prop} (I : Inv X pins σ H s) (hN : X.N.Nodup) (hi : X.N[i]? = some y) (hx : Loc X.env.scope y) (r : RelV v u) (hn : s.heap.Ns C m) (hC : FpOk X pins H C)
    (h : ∀ s'', Inv X pins (σ.set i (some v)) H s'' → Q s'') (hf : X.fn y = true ∨ X.env.scope.names.lookup y = some .local := by first | exact .inl rfl | exact .inr rfl | assumption) :
    wpAny (model X.prog X.w) X.A (assign (.Name y py) X.env u) (fun _ s'' => ∃ m, s''.heap.Ns C m ∧ ∀ h', Heap.SameBut C s''.heap h' → Q { s'' with heap := h' }) X.xe s := by
  refine wpAny_assign_Name (store_ok2 I hN hi hx r (fun s' I' hch => ?_) hf)
  obtain ⟨f0, f1, f2, f3, f4, f5⟩ := hC
  have hC2 : ∀ c, (c = X.env.locals ∨ X.env.cells.lookup y = some c) → C ≠ c := fun c hc z => by
    rcases hc with hc | hc
    · exact f1 (z.trans hc)
    · exact f4 y c hc z.symm
  obtain ⟨c, hsb, hcc⟩ := hch
  refine ⟨m, hn.sameBut hsb (hC2 c (by rcases hcc with z | z <;> first | exact .inl z | exact .inr z)), fun h' hs' => h _ ?_⟩
  exact I'.turned (t' := s'.toks) (fun b o hb e => (hs'.2 b hb).trans e) f0 f1 f3 f4 f5
def sSetComp (i : Nat) (js : List Nat) (fl : ML) (p : MT) (g : ME) : MS := sSet i (mComp js fl p g)
theorem is_setComp {y : Str} {i : Nat} (S : CScope X scope x caps js) (hc : X.calm = true) (hi : II X (.Name x px) iter fl) (hp : ∀ C fp s H E, IfsOk (compCx X (x :: caps) scope C fp s H E) ifs p) (hg : ∀ C fp s H E, IE (compCx X (x :: caps) scope C fp s H E) elt g)
    (hN : X.N.Nodup) (hy : X.N[i]? = some y) (hl : Loc X.env.scope y) (hsw : swapsWith (.ListComp elt [⟨.Name x px, iter, ifs, 0⟩] scope pos) (some (.Name y py)) spos.line X.env = pure true := by rfl)
    (hs : ∀ x, foldedSetIterable iter X.env x = pure x := by intro _; rfl) (hf : X.fn y = true ∨ X.env.scope.names.lookup y = some .local := by first | exact .inl rfl | exact .inr rfl | assumption) :
    IS X (.Assign [.Name y py] (.ListComp elt [⟨.Name x px, iter, ifs, 0⟩] scope pos) spos) (sSetComp i js fl p g) := by
  intro F₀ H₀ pins s σ H E I ⟨ρ, F, SS, q⟩
  rw [exec_Assign_Name_used _ _ _ _ hsw]
  refine wpAny_bind (wpAny_standAt (wpAny_bind ?_))
  show wpAny _ X.A (do let _ ← comprehension (.ListComp elt [⟨.Name x px, iter, ifs, 0⟩] scope pos) scope X.env _ (newList []) false (eval iter X.env) (some (assign (.Name y py) X.env))) _ _ s
  refine wpAny_bind (wpAny_mono (wpAny_comprehension_free (use := some (assign (.Name y py) X.env)) (Q := fun _ s' => SP X pins E .next s') rfl hs (clos_of S I) S.kind S.names ?_) (fun _ s' hq => wpAny_pure (wpAny_pure hq)) fun _ _ e => e)
  unfold sSetComp sSet mComp at q
  cases hf' : fl ρ with
  | ok ds =>
    rw [hf'] at q
    have q' : PostS X F₀ H₀ ((if ds.length ≤ sizeLine then (compM p g (capR js ρ) ds).bind fun ys => .ok (.lst ys) else .bad).bind fun d => .ok (.nx (ρ.set i (.val d)))) E := q
    split at q'
    · rename_i hlen
      cases hcm : compM p g (capR js ρ) ds with
      | ok ys =>
        rw [hcm] at q'
        have q2 : ∀ σ F H, SR X.K F₀ H₀ F H (ρ.set i (.val (.lst ys))) σ → E.nx σ H := q'
        have hiter := hi pins s σ H (fun J H2 => ∃ F2, Grow F H F2 H2 ∧ ItOk X.K F2 J ds) I ⟨ρ, F, SS.env, by rw [hf']; exact fun J F' H' g' io => ⟨F', g', io⟩⟩
        refine wpAny_mono hiter (fun v s1 h1 => wpAny_mono h1 (fun itv s2 h2 => ?_) fun _ _ e => e) fun _ _ e => e
        obtain ⟨it, fp, tn, J, H2, rfl, I2, T, t0, f2, F2, g2, io⟩ := h2
        refine comp_block (RR := fun acc C => compPost (model X.prog X.w) X.A X.xe (some (assign (.Name y py) X.env)) (fun _ s' => SP X pins E .next s') acc C) S hc I2 T t0 f2 (SS.env.grow g2) io hp hg hcm hlen ?_
        intro Dd C s' H' F' vs m' hD2 gr fD hD dl hn hback hfp
        have Ib : Inv X pins σ H' s' := hback s'.heap (Heap.SameBut.refl _ _)
        refine store_comp (i := i) (v := .ref Dd) Ib hN hy hl rfl hn hfp (fun s'' I'' => ⟨_, H', I'', ?_⟩) hf
        have hH : H Dd = none := g2.free hD2
        have grA := g2.trans gr
        have grB : Grow F H (upd F' Dd (.lst vs)) H' := by
          refine ⟨grA.same, grA.more, fun ti => ⟨(grA.tk ti).1, (grA.tk ti).2.upd _ rfl⟩, grA.fs.trans (same_new fD _), fun b o e => ?_, fun b hb hn' => ?_⟩
          · by_cases z : b = Dd
            · subst z; rw [upd_same] at e; cases e; exact hD
            · rw [upd_ne z] at e; exact grA.sub b o e
          · have z : b ≠ Dd := fun z => hn' (z ▸ hH)
            rw [upd_ne z]; exact grA.new b hb hn'
        exact q2 _ _ _ ((SS.grow grB).set i (by simp only [Dat]; exact ⟨Dd, vs, rfl, SqL.of upd_same, dl.mono (same_new fD _)⟩))
      | ex _ => rw [hcm] at q'; exact q'.elim
      | bad => rw [hcm] at q'; exact q'.elim
    · exact q'.elim
  | ex _ => rw [hf'] at q; exact q.elim
  | bad => rw [hf'] at q; exact q.elim
end
end R
end
section
set_option Elab.async false
set_option linter.all false
set_option maxRecDepth 100000
set_option maxHeartbeats 4000000
namespace R
open PySem PySem.Spec PyProof.Rows L2
variable [Tbl]

/-! ### slices -/
def cutL {α : Type} (xs : List α) (lo hi : Option Int) : List α := (xs.drop (HT.sIx xs.length 0 lo)).take (HT.sIx xs.length xs.length hi - HT.sIx xs.length 0 lo)
def cutS (z : Str) (lo hi : Option Int) : Str := ⟨(cutL z.cps.toList lo hi).toArray⟩
theorem cutL_le {α : Type} (xs : List α) (lo hi : Option Int) : (cutL xs lo hi).length ≤ xs.length := by
  unfold cutL
  rw [List.length_take, List.length_drop]; omega
theorem cutS_le (z : Str) (lo hi : Option Int) : (cutS z lo hi).length ≤ z.length := by
  show (cutL z.cps.toList lo hi).toArray.size ≤ z.cps.size
  rw [List.size_toArray]
  exact Nat.le_trans (cutL_le _ _ _) (by simp)
theorem clipS (n : Nat) (lo hi : Option Int) : Builtin.Str.strSliceIndices lo hi 1 n = (List.range (HT.sIx n n hi - HT.sIx n 0 lo)).map (HT.sIx n 0 lo + ·) := by
  have h0 : ∀ (o : Option Int) (d : Nat), d ≤ n → (match o with
      | none => (d : Int)
      | some i => max 0 (min (if i < 0 then i + (n : Int) else i) (n : Int))) = ((HT.sIx n d o : Nat) : Int) := by
    intro o d hd
    cases o with
    | none => rfl
    | some i =>
      show max 0 (min (if i < 0 then i + (n : Int) else i) (n : Int)) = ((if i < 0 then (i + (n : Int)).toNat else min i.toNat n : Nat) : Int)
      by_cases hi : i < 0
      · rw [if_pos hi, if_pos hi]; omega
      · rw [if_neg hi, if_neg hi]; omega
  rw [← sliceRange_one]
  unfold Builtin.Str.strSliceIndices
  simp only [show (1 : Int) > 0 by decide, if_true]
  have e1 := h0 lo 0 (Nat.zero_le _)
  have e2 := h0 hi n (Nat.le_refl _)
  rw [← e1, ← e2]
  cases lo <;> cases hi <;> rfl
theorem picked_cut (z : Str) (lo hi : Option Int) : (⟨((Builtin.Str.strSliceIndices lo hi 1 z.length).filterMap (z.cps[·]?)).toArray⟩ : Str) = cutS z lo hi := by
  rw [clipS, pick_run]
  unfold cutS cutL
  have : z.cps.toList.length = z.length := by simp [Str.length]
  rw [this]
theorem picked_whole {z : Str} {lo hi : Option Int} (h : ((Builtin.Str.strSliceIndices lo hi 1 z.length).length == z.length) = true) : cutS z lo hi = z := by
  have h' : (Builtin.Str.strSliceIndices lo hi 1 z.length).length = z.length := eq_of_beq h
  rw [clipS, List.length_map, List.length_range] at h'
  have hb : HT.sIx z.length z.length hi ≤ z.length := HT.sIx_le _ _ (Nat.le_refl _) hi
  unfold cutS cutL
  have e : z.cps.toList.length = z.length := by simp [Str.length]
  rw [e]
  by_cases hz : z.length = 0
  · have : z.cps.toList = [] := List.length_eq_zero_iff.mp (by rw [e]; exact hz)
    rw [this]
    cases z with
    | mk c =>
      have : c = #[] := by
        apply Array.toList_inj.mp; simpa using this
      subst this; simp
  · have h0 : HT.sIx z.length 0 lo = 0 := by omega
    rw [h0, List.drop_zero, List.take_of_length_le (by rw [e]; omega)]
theorem made_post {z : Str} {t : Tok} {l u : Option (Int × Tok)} {Q : Value → Shared → Prop} {s : Shared} (hz : z.length ≤ sizeLine) (h : ∀ t' k, Q (.str (cutS z (l.map (·.1)) (u.map (·.1))) t') { s with toks := k }) : (sliceMade z t l u none).post Q s := by
  unfold sliceMade slicePicked
  simp only [Option.map_none, Option.getD_none]
  by_cases hc : ((1 : Int) == 1 && (Builtin.Str.strSliceIndices (l.map (·.1)) (u.map (·.1)) 1 z.length).length == z.length) = true
  · rw [if_pos hc]
    rw [Bool.and_eq_true] at hc
    have e := picked_whole hc.2
    have := h t s.toks
    rw [e] at this
    exact this
  · rw [if_neg hc, picked_cut]
    refine ⟨?_, h _ _⟩
    exact Nat.le_trans (cutS_le z _ _) hz
section
variable {X : Cx} {a b c e : Expr} {es : List Expr} {f g h : ME} {pos p2 : Pos} {m m' : D → D → Res D}
def dSl : D → Option Int → Option Int → Res D
  | .str z, lo, hi => .ok (.str (cutS z lo hi))
  | .tup ds, lo, hi => .ok (.tup (cutL ds lo hi))
  | .lst ds, lo, hi => .ok (.lst (cutL ds lo hi))
  | _, _, _ => .bad
def rSD (X : Cx) : V → Option Int → Option Int → Hp → VK → Prop := fun x lo hi H Q => ∃ F d, Same F H ∧ Dat X.K F d x ∧ Post (Dat X.K) F H (dSl d lo hi) Q
theorem part_of {v : Value} {o : Option Int} (h : IsPart v o) : ∃ q : Option (Int × Tok), v = partValue q ∧ q.map (·.1) = o := by
  cases h with
  | none => exact ⟨none, rfl, rfl⟩
  | int i t => exact ⟨some (i, t), rfl, rfl⟩
theorem om_sl : SlR X (rSD X) := by
  intro pins s σ H x v vl vu lo hi sl Q I rx hs pl pu h
  obtain ⟨F, d, sb, hd, q⟩ := h
  cases d with
  | str z =>
    simp only [Dat] at hd; obtain ⟨rfl, hz⟩ := hd
    obtain ⟨t, rfl⟩ := rx
    obtain ⟨ql, rfl, el⟩ := part_of pl
    obtain ⟨qu, rfl, eu⟩ := part_of pu
    refine ⟨"str", _, PySem.F.slot_str_getitem.lookup, typeIs_str _ _ _, ?_⟩
    refine wpAny_getItem_str_slice (l := ql) (u := qu) (st := none) hs rfl (made_post hz fun t' k => ?_)
    rw [el, eu]
    exact ⟨.str _, H, I.tok _, ⟨_, rfl⟩, post_ok q sb (by simp only [Dat]; exact ⟨trivial, Nat.le_trans (cutS_le _ _ _) hz⟩)⟩
  | tup ds =>
    simp only [Dat] at hd; obtain ⟨p, xs, rfl, g1, l1⟩ := hd
    have hl := l1.length
    by_cases hw : HT.sIx ds.length 0 lo = 0 ∧ HT.sIx ds.length ds.length hi = ds.length
    · have e : cutL ds lo hi = ds := by
        unfold cutL
        rw [hw.1, hw.2]; simp
      simp only [dSl, e] at q
      cases rx
      obtain ⟨its, r, ht, hz⟩ := I.tuple (Same.seqT sb g1)
      have hlen : its.toArray.size = ds.length := by rw [List.size_toArray, ← r.length, ← hl]
      refine ⟨"tuple", _, PyProof.Rows.slot_tuple_getitem.lookup, ht.typeIs, ?_⟩
      exact getItem_tuple_whole ht hs pl pu (by rw [hlen]; exact hw) ⟨.ref p, H, I, rfl, post_ok q sb (by simp only [Dat]; exact ⟨p, xs, rfl, g1, l1⟩)⟩
    · simp only [dSl] at q
      refine sl_tup pins s σ H _ v vl vu lo hi sl Q I rx hs pl pu ⟨p, xs, rfl, Same.seqT sb g1, by rw [← hl]; exact hw, fun p' hp' => ?_⟩
      refine post_tup q sb ?_ hp'
      unfold cutL cutV
      rw [hl]
      exact DatL.of (pr_take _ (pr_drop _ l1.paired))
  | lst ds =>
    simp only [Dat] at hd; obtain ⟨p, xs, rfl, g1, l1⟩ := hd
    have hl := l1.length
    refine sl_list pins s σ H _ v vl vu lo hi sl Q I rx hs pl pu ⟨p, xs, rfl, Same.seq sb g1, fun p' hp' => ?_⟩
    refine post_lst q sb ?_ hp'
    unfold cutL cutV
    rw [hl]
    exact DatL.of (pr_take _ (pr_drop _ l1.paired))
  | _ => exact q.elim
abbrev MO := Rho → Res (Option Int)
def tDO (X : Cx) (f : MO) : TO := fun σ H Q => ∃ ρ F, EnvR X.K F H ρ σ ∧ Post R.RelO F H (f ρ) Q
def IO' (X : Cx) (e : Option Expr) (f : MO) : Prop := PO X e (tDO X f)
def oNone : MO := fun _ => .ok none
def dSome : D → Res (Option Int)
  | .int i => .ok (some i)
  | _ => .bad
def oSome (f : ME) : MO := fun ρ => (f ρ).bind dSome
theorem po_imp {o : Option Expr} {t t' : TO} (h : PO X o t) (i : ∀ σ H Q, t' σ H Q → t σ H Q) : PO X o t' := fun pins s σ H Q I hq => h pins s σ H Q I (i σ H Q hq)
theorem io_none : IO' X none oNone := po_imp po_none fun σ H Q ⟨ρ, F, E, q⟩ => post_ok q E.sub rfl
theorem io_some (he : IE X e f) : IO' X (some e) (oSome f) := po_imp (po_some he) fun σ H Q ⟨ρ, F, E, q⟩ => ⟨ρ, F, E, by
  have q1 := post_bind (R1 := Dat X.K) q
  revert q1
  cases f ρ with
  | ok d =>
    intro q1 v F1 H1 g1 d1
    obtain ⟨F2, d', g2, d2, q2⟩ := q1 v F1 H1 g1 d1
    cases d' with
    | int i => simp only [Dat] at d2; exact ⟨i, d2, post_ok q2 g2.sub rfl⟩
    | _ => exact q2.elim
  | ex _ => exact fun q1 => q1
  | bad => exact fun q1 => q1⟩
def mSl (f : ME) (l u : MO) : ME := fun ρ => (f ρ).bind fun d => (l ρ).bind fun lo => (u ρ).bind fun hi => dSl d lo hi
theorem ie_slice {lo hi : Option Expr} {l u : MO} (he : IE X e f) (hl : IO' X lo l) (hu : IO' X hi u) : IE X (.Subscript e (.Slice lo hi none p2) pos) (mSl f l u) := pe_imp (pe_slice om_sl he hl hu) fun σ H Q ⟨ρ, F, E, q⟩ => ⟨ρ, F, E, by
  have q1 := post_bind (R1 := Dat X.K) q
  revert q1
  cases f ρ with
  | ok d =>
    intro q1 v F1 H1 g1 d1
    obtain ⟨F2, d', g2, d2, q2⟩ := q1 v F1 H1 g1 d1
    refine ⟨ρ, F2, E.grow g2, ?_⟩
    have q3 := post_bind (R1 := R.RelO) q2
    revert q3
    cases l ρ with
    | ok y =>
      intro q3 v' F3 H3 g3 d3
      obtain ⟨F4, y', g4, d4, q4⟩ := q3 v' F3 H3 g3 d3
      cases (show y' = v' from d4)
      refine ⟨ρ, F4, (E.grow g2).grow g4, ?_⟩
      have q5 := post_bind (R1 := R.RelO) q4
      revert q5
      cases u ρ with
      | ok z =>
        intro q5 vz F5 H5 g5 d5
        obtain ⟨F6, z', g6, d6, q6⟩ := q5 vz F5 H5 g5 d5
        cases (show z' = vz from d6)
        exact ⟨F6, d', g6.sub, (d2.mono g4.fs).mono g6.fs, q6⟩
      | ex _ => exact fun q => q
      | bad => exact fun q => q
    | ex _ => exact fun q => q
    | bad => exact fun q => q
  | ex _ => exact fun q => q
  | bad => exact fun q => q⟩

/-! ### isinstance -/
def isiT (T : String) : D → Bool
  | .bl _ => T == "int" || T == "bool"
  | .int _ => T == "int"
  | .str _ => T == "str"
  | .tup _ => T == "tuple"
  | .lst _ => T == "list"
  | .non => false
def dIsi (T : String) (d : D) : Res D := .ok (.bl (isiT T d))
def Known (K : PySem.W.Frag) (T : String) : Prop := PySem.W.kitOne K (.type "NoneType") (.type T) = some false ∧ PySem.W.kitOne K (.type "bool") (.type T) = some (T == "int" || T == "bool") ∧ PySem.W.kitOne K (.type "int") (.type T) = some (T == "int") ∧
  PySem.W.kitOne K (.type "str") (.type T) = some (T == "str") ∧ PySem.W.kitOne K (.type "tuple") (.type T) = some (T == "tuple") ∧ PySem.W.kitOne K (.type "list") (.type T) = some (T == "list")
theorem known_int (K : PySem.W.Frag) : Known K "int" := by unfold Known PySem.W.kitOne PySem.W.kitCls PySem.W.subIn; dsimp only; decide +kernel
theorem known_bool (K : PySem.W.Frag) : Known K "bool" := by unfold Known PySem.W.kitOne PySem.W.kitCls PySem.W.subIn; dsimp only; decide +kernel
theorem known_str (K : PySem.W.Frag) : Known K "str" := by unfold Known PySem.W.kitOne PySem.W.kitCls PySem.W.subIn; dsimp only; decide +kernel
theorem known_tuple (K : PySem.W.Frag) : Known K "tuple" := by unfold Known PySem.W.kitOne PySem.W.kitCls PySem.W.subIn; dsimp only; decide +kernel
theorem known_list (K : PySem.W.Frag) : Known K "list" := by unfold Known PySem.W.kitOne PySem.W.kitCls PySem.W.subIn; dsimp only; decide +kernel
theorem cm_isi {T : String} (hk : Known X.K T) : CallR X (.builtin "isinstance") (fun xs H Q => ∃ F d v, xs = [v, .ty T] ∧ Same F H ∧ Dat X.K F d v ∧ Post (Dat X.K) F H (dIsi T d) Q) := by
  intro pins s σ H xs us Q I r h
  obtain ⟨F, d, v, rfl, sb, hd, q⟩ := h
  obtain ⟨k1, k2, k3, k4, k5, k6⟩ := hk
  obtain ⟨u, w', rfl, r1, r2⟩ := vals2 r
  cases (show w' = Value.type T from r2)
  have fin : ∀ b, b = isiT T d → ∀ tk, EP X pins σ Q (.bool b) { s with toks := tk } := fun b e tk => ⟨.bl b, H, I.tok tk, rfl, by subst e; exact post_ok q sb (by simp only [Dat])⟩
  cases d with
  | non => simp only [Dat] at hd; subst hd; cases r1; exact PySem.W.kia_one PySem.W.kitx_none I.kIn True.intro k1 (fun z => nomatch z) (fin _ rfl)
  | bl b => simp only [Dat] at hd; subst hd; cases r1; exact PySem.W.kia_one PySem.W.kitx_bool I.kIn True.intro k2 (fun z => nomatch z) (fin _ rfl)
  | int i => simp only [Dat] at hd; subst hd; obtain ⟨t, rfl⟩ := r1; exact PySem.W.kia_one PySem.W.kitx_int I.kIn True.intro k3 (fun z => nomatch z) (fin _ rfl)
  | str z => simp only [Dat] at hd; obtain ⟨rfl, _⟩ := hd; obtain ⟨t, rfl⟩ := r1; exact PySem.W.kia_one PySem.W.kitx_str I.kIn True.intro k4 (fun z => nomatch z) (fin _ rfl)
  | tup ds =>
    simp only [Dat] at hd; obtain ⟨p, xs, rfl, g1, l1⟩ := hd; cases r1
    obtain ⟨its, _, ⟨o, e1, e2, _⟩, _⟩ := I.tuple (Same.seqT sb g1)
    exact PySem.W.kia_one PySem.W.kitx_tuple I.kIn ⟨o, e1, e2⟩ k5 (fun z => nomatch z) (fin _ rfl)
  | lst ds =>
    simp only [Dat] at hd; obtain ⟨p, xs, rfl, g1, l1⟩ := hd; cases r1
    obtain ⟨its, _, ⟨o, n, e1, e2, _⟩, _⟩ := I.list (Same.seq sb g1)
    exact PySem.W.kia_one PySem.W.kitx_list I.kIn ⟨o, e1, e2⟩ k6 (fun z => nomatch z) (fin _ rfl)
theorem ie_isi {T : String} {tn : Str} {p p1 : Pos} (hk : Known X.K T) (ha : IE X a f) (hg : Gl X "isinstance") (hm : X.mg "isinstance" = none) (hg2 : Gl X tn) (hm2 : X.mg tn = none) (hv : bootBuiltins tn = some (.type T)) (hn : tn ≠ "__name__" := by decide) (hdb : (tn == ("__debug__" : Str)) = false := by decide)
    (he : starEach (a :: [.Name tn p1]) X.env = (false, eval a X.env) :: starEach [.Name tn p1] X.env := by rfl) : IE X (.Call (.Name "isinstance" p) [a, .Name tn p1] [] pos) (m1 (dIsi T) f) := by
  refine pe_imp (pe_callB (cm_isi hk) hg hm PyProof.Rows.boot_isinstance (pa_cons ha (pa_cons (pe_bltn (v := .ty T) hg2 hm2 hv rfl hn hdb) pa_nil) he) (he := he)) fun σ H Q ⟨ρ, F, E, q⟩ => ⟨ρ, F, E, ?_⟩
  have q1 := post_bind (R1 := Dat X.K) q
  revert q1
  cases f ρ with
  | ok d => exact fun q1 v F1 H1 g1 d1 => let ⟨F2, d', g2, d2, q2⟩ := q1 v F1 H1 g1 d1; ⟨F2, d', v, rfl, g2.sub, d2, q2⟩
  | ex _ => exact fun q1 => q1
  | bad => exact fun q1 => q1

/-! ### a name of the module's that holds some data -/
structure GConst (K : PySem.W.Frag) (mg : Str → Option Value) (x : Str) (d : D) : Prop where
  ex : ∃ (v : V) (u : Value), mg x = some u ∧ RelV v u ∧ ∀ F, Dat K F d v
theorem ie_glob {x : Str} {d : D} (hg : Gl X x) (C : GConst X.K X.mg x d) (hd : (x == ("__debug__" : Str)) = false := by decide) : IE X (.Name x pos) (kc d) := by
  obtain ⟨v, u, h1, h2, h3⟩ := C.ex
  exact ie_k (t := tC v) (pe_glob hg h1 h2 hd) h3
end
end R
end
section
set_option Elab.async false
set_option linter.all false
set_option maxRecDepth 100000
set_option maxHeartbeats 4000000
namespace R
open PySem PySem.Spec PyProof.Rows L2
variable [Tbl]

/-! ### all -/
def boolsOf : List D → Res (List Bool)
  | [] => .ok []
  | .bl b :: r => (boolsOf r).bind fun bs => .ok (b :: bs)
  | _ :: _ => .bad
theorem boolsOf_eq : ∀ {ds : List D} {bs : List Bool}, boolsOf ds = .ok bs → ds = bs.map .bl
  | [], bs, h => by cases h; rfl
  | d :: r, bs, h => by
    cases d with
    | bl b =>
      simp only [boolsOf] at h
      cases q : boolsOf r with
      | ok cs => rw [q] at h; cases h; rw [boolsOf_eq q]; rfl
      | ex _ => rw [q] at h; cases h
      | bad => rw [q] at h; cases h
    | _ => cases h
def dAll : List D → Res D
  | [.lst ds] => (boolsOf ds).bind fun bs => .ok (.bl (bs.all id))
  | _ => .bad
theorem range_all (bs : List Bool) : (List.range bs.length).all (fun i => bs.getD i true) = bs.all id := by
  induction bs with
  | nil => rfl
  | cons b r ih =>
    rw [List.length_cons, List.range_succ_eq_map, List.all_cons, List.all_map, List.all_cons, ← ih]
    rfl
section
variable {X : Cx} {a b c e o : Expr} {es : List Expr} {f g h : ME} {pos p2 apos : Pos} {m m' : D → D → Res D}
theorem cm_all (hc : X.calm = true) : CallR X (.builtin "all") (rDL X dAll) := by
  intro pins s σ H xs us Q I r h
  obtain ⟨F, ds, sb, hl, q⟩ := h
  unfold dAll at q
  split at q
  · rename_i es
    obtain ⟨x, rfl, hx⟩ := one_arg hl
    simp only [Dat] at hx; obtain ⟨p, ys, rfl, g1, l1⟩ := hx
    obtain ⟨u, rfl, ru⟩ := vals1 r
    cases ru
    cases hb : boolsOf es with
    | ok bs =>
      rw [hb] at q
      have e := boolsOf_eq hb
      subst e
      obtain ⟨its, rv, pl, hz⟩ := I.list (Same.seq sb g1)
      have hh : X.A.in1.handled = none := I.ok.hd hc
      have hne : p ≠ s.heap.objs.size := by
        obtain ⟨ob, n, e, _⟩ := pl
        exact Nat.ne_of_lt (Heap.lt_size e)
      refine call_all_walk (wpAny_pyIter_list pl.isList ?_)
      have hil : (s.heap.push { cls := .type "list_iterator", data := .fields #[.ref p, .int 0 0] }).IsList p its.toArray := by
        obtain ⟨ob, e, c, d⟩ := pl.isList
        exact ⟨ob, Heap.get?_push_of_some _ e, c, d⟩
      refine ⟨s.heap.objs.size, _, _, _, _, _, fun i => bs.getD i true, rfl, Walks.list hh s.heap.objs.size p hne its.toArray, ⟨⟨_, Heap.get?_push_size _ rfl, rfl, rfl⟩, hil⟩, ?_, fun h' tk hk => ?_⟩
      · intro i v s' Q' E' hi hq
        have hi' : its[i]? = some v := by simpa using hi
        obtain ⟨x', hx', rx'⟩ := pr_get' rv hi'
        obtain ⟨d, hd, dx⟩ := pr_get' l1.paired hx'
        rw [List.getElem?_map] at hd
        cases hbi : bs[i]? with
        | none => rw [hbi] at hd; cases hd
        | some b =>
          rw [hbi] at hd
          cases hd
          simp only [Dat] at dx; subst dx
          cases rx'
          refine wpAny_truthy_bool ?_
          have e0 : bs.getD i true = b := by rw [List.getD_eq_getElem?_getD, hbi]; rfl
          have hq' : Q' (bs.getD i true) s' := hq
          rw [e0] at hq'
          exact hq'
      · have hn : its.toArray.size = bs.length := by
          rw [List.size_toArray, ← rv.length, ← l1.length, List.length_map]
        rw [hn, range_all]
        have I1 : Inv X pins σ H { s with heap := h', toks := tk } := I.kept fun b ob e => hk b ob (fun z => by
          have z' : b = s.heap.objs.size := by simpa using z
          exact absurd (Heap.lt_size e) (by rw [z']; exact Nat.lt_irrefl _)) (Heap.get?_push_of_some _ e)
        exact ⟨.bl _, H, I1, rfl, post_ok q sb (by simp only [Dat])⟩
    | ex _ => rw [hb] at q; exact q.elim
    | bad => rw [hb] at q; exact q.elim
  · exact q.elim

/-! ### methods of texts -/
def dStrO : D → Res Str
  | .str z => .ok z
  | _ => .bad
def mMe (m : Str → List D → Res D) (f : ME) (fa : MA) : ME := fun ρ => (f ρ).bind fun d => (dStrO d).bind fun z => (fa ρ).bind fun ds => m z ds
def rMe (X : Cx) (m : Str → List D → Res D) : V → List V → Hp → VK → Prop := fun x xs H Q => ∃ F z ds, Same F H ∧ x = .str z ∧ z.length ≤ sizeLine ∧ DatL X.K F ds xs ∧ Post (Dat X.K) F H (m z ds) Q
theorem ie_meth {m : Str → List D → Res D} {name : Str} {id : String} {fa : MA} (slot : PySem.Slot "str" name id) (hty : typeOf (.builtin id) = pure (.type "method_descriptor")) (hm : MtR X id (rMe X m)) (ho : IE X o f) (ha : IA X (e :: es) fa)
    (hbase : attributeBase o name X.env (eval o X.env) = eval o X.env := by rfl)
    (hfew : ((backTo pos (starEach (e :: es) X.env)).all (fun x => !x.1) && (backToKw pos (keywordEach [] X.env)).all (fun x => x.1.isSome)
      && decide ((e :: es).length + ([] : List Keyword).length + (if ([] : List Keyword).isEmpty then 0 else 1) < 30)) = true := by rfl)
    (hline : (apos.endLine == pos.line) = true := by rfl) (hs : starEach (e :: es) X.env = (false, eval e X.env) :: starEach es X.env := by rfl) (hplain : (backTo pos (starEach es X.env)).any (·.1) = false := by rfl) :
    IE X (.Call (.Attribute o name apos) (e :: es) [] pos) (mMe m f fa) := pe_imp (pe_bm PySem.F.plainAttrs_str slot hty hm ho ha hbase hfew hline hs hplain) fun σ H Q ⟨ρ, F, E, q⟩ => ⟨ρ, F, E, by
  have q1 := post_bind (R1 := Dat X.K) q
  revert q1
  cases f ρ with
  | ok d =>
    intro q1 v F1 H1 g1 d1
    obtain ⟨F2, d', g2, d2, q2⟩ := q1 v F1 H1 g1 d1
    cases d' with
    | str z =>
      simp only [Dat] at d2; obtain ⟨rfl, hz⟩ := d2
      refine ⟨rfl, ρ, F2, E.grow g2, ?_⟩
      have q2' : Post (Dat X.K) F2 H1 ((fa ρ).bind fun ds => m z ds) Q := q2
      have q3 := post_bind (R1 := DatL X.K) q2'
      revert q3
      cases fa ρ with
      | ok y =>
        intro q3 v' F3 H3 g3 d3
        obtain ⟨F4, y', g4, d4, q4⟩ := q3 v' F3 H3 g3 d3
        exact ⟨F4, z, y', g4.sub, rfl, hz, d4, q4⟩
      | ex _ => exact fun q => q
      | bad => exact fun q => q
    | _ => exact q2.elim
  | ex _ => exact fun q => q
  | bad => exact fun q => q⟩
def mMe0 (m : Str → List D → Res D) (f : ME) : ME := fun ρ => (f ρ).bind fun d => (dStrO d).bind fun z => m z []
theorem ie_meth0 {m : Str → List D → Res D} {name : Str} {id : String} (slot : PySem.Slot "str" name id) (hty : typeOf (.builtin id) = pure (.type "method_descriptor")) (hm : MtR X id (rMe X m)) (ho : IE X o f)
    (hbase : attributeBase o name X.env (eval o X.env) = eval o X.env := by rfl) (hline : (apos.endLine == pos.line) = true := by rfl) :
    IE X (.Call (.Attribute o name apos) [] [] pos) (mMe0 m f) := pe_imp (pe_bm0 PySem.F.plainAttrs_str slot hty hm ho hbase hline) fun σ H Q ⟨ρ, F, E, q⟩ => ⟨ρ, F, E, by
  have q1 := post_bind (R1 := Dat X.K) q
  revert q1
  cases f ρ with
  | ok d =>
    intro q1 v F1 H1 g1 d1
    obtain ⟨F2, d', g2, d2, q2⟩ := q1 v F1 H1 g1 d1
    cases d' with
    | str z =>
      simp only [Dat] at d2; obtain ⟨rfl, hz⟩ := d2
      exact ⟨rfl, F2, z, [], g2.sub, rfl, hz, DatL.nil, q2⟩
    | _ => exact q2.elim
  | ex _ => exact fun q => q
  | bad => exact fun q => q⟩
def dUpper (z : Str) : List D → Res D
  | [] => if z.length ≤ 100000 then .ok (.str (Txt.upper z)) else .bad
  | _ => .bad
theorem mt_upper : MtR X "str.upper" (rMe X dUpper) := by
  intro pins s σ H x xs v us Q I rx rs h
  obtain ⟨F, z, ds, sb, rfl, hz, hl, q⟩ := h
  obtain ⟨t, rfl⟩ := rx
  unfold dUpper at q
  split at q
  · have : xs = [] := by simp only [DatL] at hl; exact hl
    subst this
    cases rs
    split at q
    · rename_i hb
      refine SCL.upper (by omega) fun hle => ⟨.str _, H, I.tok _, ⟨_, rfl⟩, post_ok q sb (by simp only [Dat]; have := sizeLine_eq; exact ⟨trivial, by omega⟩)⟩
    · exact q.elim
  · exact q.elim
theorem ie_upper (ho : IE X o f) (hbase : attributeBase o "upper" X.env (eval o X.env) = eval o X.env := by rfl) (hline : (apos.endLine == pos.line) = true := by rfl) : IE X (.Call (.Attribute o "upper" apos) [] [] pos) (mMe0 dUpper f) :=
  ie_meth0 PySem.F.slot_str_upper PySem.F.type_str_upper mt_upper ho hbase hline
def dFind (z : Str) : List D → Res D
  | [.str y] => .ok (.int (Txt.find z y))
  | _ => .bad
theorem mt_find : MtR X "str.find" (rMe X dFind) := by
  intro pins s σ H x xs v us Q I rx rs h
  obtain ⟨F, z, ds, sb, rfl, hz, hl, q⟩ := h
  obtain ⟨t, rfl⟩ := rx
  unfold dFind at q
  split at q
  · obtain ⟨x, rfl, hx⟩ := one_arg hl
    simp only [Dat] at hx; obtain ⟨rfl, _⟩ := hx
    obtain ⟨u, rfl, t', rfl⟩ := vals1 rs
    exact PySem.SC.find ⟨.int _, H, I.tok _, ⟨_, rfl⟩, post_ok q sb (by simp only [Dat])⟩
  · exact q.elim
def dStartsw (z : Str) : List D → Res D
  | [.str y] => .ok (.bl (Txt.startswith z y))
  | _ => .bad
theorem mt_startswith : MtR X "str.startswith" (rMe X dStartsw) := by
  intro pins s σ H x xs v us Q I rx rs h
  obtain ⟨F, z, ds, sb, rfl, hz, hl, q⟩ := h
  obtain ⟨t, rfl⟩ := rx
  unfold dStartsw at q
  split at q
  · obtain ⟨x, rfl, hx⟩ := one_arg hl
    simp only [Dat] at hx; obtain ⟨rfl, _⟩ := hx
    obtain ⟨u, rfl, t', rfl⟩ := vals1 rs
    exact PySem.SC.startswith ⟨.bl _, H, I, rfl, post_ok q sb (by simp only [Dat])⟩
  · exact q.elim
/-- the split's own list stands at the next address -/
theorem split_at {prog : Program} {w : World} {A : Around} {E : Value → Shared → Prop} {s : Shared} {x y : Str} {t u : Tok} {Q : Value → Shared → Prop} (hy : (y.length == 0) = false) (hsz : x.length + 2 ≤ sizeLine)
    (hq : ∀ l k, l.map (·.1) = Txt.split x y → Q (.ref s.heap.objs.size) { s with heap := s.heap.push { cls := .type "list", data := .seq (strValues l).toArray }, toks := k }) :
    wpAny (model prog w) A (call (.builtin "str.split") [.str x t, .str y u]) Q E s := by
  have hle := split_le x y
  cases h1 : (decide (x.length < y.length) || decide (Builtin.Str.strKind x < Builtin.Str.strKind y)) with
  | true =>
    have e : Txt.split x y = [x] := by unfold Txt.split; rw [if_pos h1]
    exact call_meets PySem.F.slot_str_split (typeIs_str _ _ _) PySem.F.entry_str_split (PySem.F.args_str_split_2 _ _) (meets_str_split_cannot_occur x y t u h1) (hq [(x, t)] s.toks (by rw [e]; rfl))
  | false =>
    cases hf : (Builtin.Str.occurrences x y 0 x.length (x.length + 1)).isEmpty with
    | true =>
      have e : Txt.split x y = [x] := by unfold Txt.split; rw [if_neg (by rw [h1]; decide), if_pos hf]
      exact call_meets PySem.F.slot_str_split (typeIs_str _ _ _) PySem.F.entry_str_split (PySem.F.args_str_split_2 _ _) (meets_str_split_not_found x y t u h1 hy hf) (hq [(x, t)] s.toks (by rw [e]; rfl))
    | false =>
      have e : Txt.split x y = Builtin.Str.partsBetween x (Builtin.Str.occurrences x y 0 x.length (x.length + 1)) y.length := by unfold Txt.split; rw [if_neg (by rw [h1]; decide), if_neg (by rw [hf]; decide)]
      have hn : (Builtin.Str.partsBetween x (Builtin.Str.occurrences x y 0 x.length (x.length + 1)) y.length).length ≤ sizeLine := by rw [← e]; omega
      refine call_meets PySem.F.slot_str_split (typeIs_str _ _ _) PySem.F.entry_str_split (PySem.F.args_str_split_2 _ _) (meets_str_split_sep x y t u h1 hy hf (by omega) hn) ?_
      rw [strsFrom_eq]
      exact hq (numbered s.toks _) _ (by rw [numbered_texts, e])
theorem vals_texts : ∀ (l : List (Str × Tok)), Vals (l.map fun p => V.str p.1) (strValues l)
  | [] => .nil
  | p :: r => .cons ⟨p.2, rfl⟩ (vals_texts r)
theorem dat_texts {K : PySem.W.Frag} {F : Hp} : ∀ (ts : List Str), (∀ x ∈ ts, x.length ≤ sizeLine) → DatL K F (ts.map .str) (ts.map V.str)
  | [], _ => DatL.nil
  | x :: r, h => DatL.cons (by simp only [Dat]; exact ⟨trivial, h x List.mem_cons_self⟩) (dat_texts r fun y hy => h y (List.mem_cons_of_mem _ hy))
theorem le_sum : ∀ {l : List Str} {x : Str}, x ∈ l → x.length ≤ (l.map (·.length)).sum
  | y :: r, x, h => by
    rw [List.map_cons, List.sum_cons]
    rcases List.mem_cons.mp h with rfl | h
    · omega
    · have := le_sum h; omega
def dSplit (z : Str) : List D → Res D
  | [.str y] => if y.length ≠ 0 ∧ z.length + 2 ≤ sizeLine then .ok (.lst ((Txt.split z y).map .str)) else .bad
  | _ => .bad
theorem mt_split : MtR X "str.split" (rMe X dSplit) := by
  intro pins s σ H x xs v us Q I rx rs h
  obtain ⟨F, z, ds, sb, rfl, hz, hl, q⟩ := h
  obtain ⟨t, rfl⟩ := rx
  unfold dSplit at q
  split at q
  · rename_i y
    obtain ⟨x, rfl, hx⟩ := one_arg hl
    simp only [Dat] at hx; obtain ⟨rfl, _⟩ := hx
    obtain ⟨u, rfl, t', rfl⟩ := vals1 rs
    split at q
    · rename_i hc
      refine split_at (by simpa using hc.1) hc.2 fun l k hl' => ?_
      have hw := split_weight z y (by omega)
      have hsz : ∀ x ∈ Txt.split z y, x.length ≤ sizeLine := fun x hx => by
        have := le_sum hx
        omega
      have ev : (l.map fun p => V.str p.1) = (Txt.split z y).map V.str := by rw [← hl', List.map_map]; rfl
      have r := vals_texts l
      rw [ev] at r
      refine ⟨.ref _, _, I.lnew (t' := k) r (by rw [List.length_map]; have := split_le z y; omega), rfl, post_lst q sb (dat_texts _ hsz) I.fresh⟩
    · exact q.elim
  · exact q.elim

/-! ### z[::-1] -/
def revS (z : Str) : Str := ⟨z.cps.toList.reverse.toArray⟩
theorem rev_pick (xs : Array Nat) : ((List.range xs.size).map fun k => xs.size - 1 - k).filterMap (xs[·]?) = xs.toList.reverse := by
  apply List.ext_getElem?
  intro i
  have e : ∀ k ∈ (List.range xs.size).map (fun k => xs.size - 1 - k), xs[k]? = some (xs.getD k 0) := fun k hk => by
    obtain ⟨j, hj, rfl⟩ := List.mem_map.mp hk
    have hj' := List.mem_range.mp hj
    have hlt : xs.size - 1 - j < xs.size := by omega
    simp [Array.getD, hlt]
  have e2 : ((List.range xs.size).map fun k => xs.size - 1 - k).filterMap (xs[·]?) = ((List.range xs.size).map fun k => xs.size - 1 - k).map (fun k => xs.getD k 0) := by
    have gen : ∀ l : List Nat, (∀ k ∈ l, xs[k]? = some (xs.getD k 0)) → l.filterMap (xs[·]?) = l.map fun k => xs.getD k 0 := by
      intro l
      induction l with
      | nil => intro _; rfl
      | cons k r ih =>
        intro hl
        rw [List.filterMap_cons, hl k List.mem_cons_self, List.map_cons, ih fun j hj => hl j (List.mem_cons_of_mem _ hj)]
    exact gen _ e
  rw [e2, List.map_map, List.getElem?_map]
  by_cases hi : i < xs.size
  · rw [List.getElem?_range hi, List.getElem?_reverse (by simpa using hi)]
    have hlt : xs.size - 1 - i < xs.size := by omega
    simp [Array.getD, hlt]
  · rw [List.getElem?_eq_none (by simpa using hi), List.getElem?_eq_none (by simp; omega)]; rfl
def dRev : D → D → Res D
  | .str z, .int i => if i = -1 then .ok (.str (revS z)) else .bad
  | .tup ds, .int i => if i = -1 then .ok (.tup ds.reverse) else .bad
  | _, _ => .bad
theorem revS_len (z : Str) : (revS z).length = z.length := by
  show z.cps.toList.reverse.toArray.size = z.cps.size
  simp
theorem ie_rev {st : Expr} (he : IE X e f) (hs : IE X st g) : IE X (.Subscript e (.Slice none none (some st) p2) pos) (m2 dRev f g) := by
  intro pins s σ H Q I q
  have q' := t2_of (r := rD X dRev) op2_rD q
  refine Subscript_ (thn (he pins s σ H _ I q') fun v s1 ⟨x, H1, I1, r1, q1⟩ => ?_)
  refine wpAny_Slice ?_
  rw [evalPart_none]
  refine wpAny_pure ?_
  refine wpAny_pure ?_
  rw [evalPart_some]
  refine thn (hs pins s1 σ H1 _ I1 q1) fun u s2 ⟨y, H2, I2, r2, F, d1, d2, sb, h1, h2, q2⟩ => ?_
  cases d1 <;> cases d2 <;> try exact q2.elim
  rotate_left
  · rename_i ds i
    simp only [dRev] at q2
    split at q2
    · rename_i hi
      subst hi
      simp only [Dat] at h1 h2; subst h2
      obtain ⟨p, xs, rfl, g1, l1⟩ := h1
      cases r1
      obtain ⟨t', rfl⟩ := r2
      have I3 : Inv X pins σ H2 { s2 with heap := s2.heap.push { cls := .type "slice", data := .fields #[.none, .none, .int (-1) t'] } } := I2.kept (t' := s2.toks) fun b ob q => Heap.get?_push_of_some _ q
      obtain ⟨its, r, ht, hz⟩ := I3.tuple (Same.seqT sb g1)
      have hl := l1.length
      refine tail_any (ops := [.ref p, .ref s2.heap.objs.size]) ht.typeIs PyProof.Rows.slot_tuple_getitem.lookup (getItem_tuple_rev ht ⟨_, Heap.get?_push_size _ rfl, rfl, rfl⟩ ?_ (by rw [List.size_toArray, ← r.length]; exact hz)) (by with_unfolding_all rfl)
      refine ⟨.ref _, _, I3.laid (t' := s2.toks) (o := .tup xs.reverse) (fun b ob q => Heap.get?_push_of_some _ q) (Nat.le_refl _) ?_, rfl, post_tup q2 sb (DatL.of (pr_reverse l1.paired)) (I3.hok.fresh (Nat.le_refl _))⟩
      exact ⟨by rw [List.length_reverse]; exact hz, its.reverse, pr_reverse r, IsTup.new _ _⟩
    · exact q2.elim
  rename_i z i
  simp only [dRev] at q2
  split at q2
  · rename_i hi
    subst hi
    simp only [Dat] at h1 h2; obtain ⟨rfl, hz⟩ := h1; subst h2
    obtain ⟨t, rfl⟩ := r1
    obtain ⟨t', rfl⟩ := r2
    have I3 : Inv X pins σ H2 { s2 with heap := s2.heap.push { cls := .type "slice", data := .fields #[.none, .none, .int (-1) t'] } } := I2.kept (t' := s2.toks) fun b ob q => Heap.get?_push_of_some _ q
    refine tail_any (ops := [.ref s2.heap.objs.size, .str z t]) (typeIs_str _ _ _) PySem.F.slot_str_getitem.lookup (wpAny_getItem_str_slice (l := none) (u := none) (st := some (-1, t')) ⟨_, Heap.get?_push_size _ rfl, rfl, rfl⟩ rfl ?_) (by with_unfolding_all rfl)
    unfold sliceMade slicePicked
    have hc : ¬ ((((some ((-1 : Int), t')).map (·.1)).getD 1 == 1 && (Builtin.Str.strSliceIndices ((none : Option (Int × Tok)).map (·.1)) ((none : Option (Int × Tok)).map (·.1)) (((some ((-1 : Int), t')).map (·.1)).getD 1) z.length).length == z.length) = true) := by
      simp
    rw [if_neg hc]
    have er : (⟨((Builtin.Str.strSliceIndices ((none : Option (Int × Tok)).map (·.1)) ((none : Option (Int × Tok)).map (·.1)) (((some ((-1 : Int), t')).map (·.1)).getD 1) z.length).filterMap (z.cps[·]?)).toArray⟩ : Str) = revS z := by
      show (⟨((Builtin.Str.strSliceIndices none none (-1) z.length).filterMap (z.cps[·]?)).toArray⟩ : Str) = revS z
      rw [picked_rev]
      exact congrArg (fun l => (⟨List.toArray l⟩ : Str)) (rev_pick z.cps)
    rw [er]
    refine ⟨by rw [revS_len]; exact hz, .str _, H2, I3.tok _, ⟨_, rfl⟩, post_ok q2 sb (by simp only [Dat]; exact ⟨trivial, by rw [revS_len]; exact hz⟩)⟩
  · exact q2.elim
end
end R
end
section
set_option Elab.async false
set_option linter.all false
set_option maxRecDepth 100000
set_option maxHeartbeats 4000000
namespace R
open PySem PySem.Spec PyProof.Rows L2
variable [Tbl]

section
variable {X : Cx} {f : ME} {e : Expr} {es : List Expr} {pos : Pos}
theorem om_isin (hu : X.A.units + 200 < cLine) : OpR X (compareOp .In) (rD X (dIn false)) := om_in (neg := false) hu
theorem om_notin (hu : X.A.units + 200 < cLine) : OpR X (compareOp .NotIn) (rD X (dIn true)) := om_in (neg := true) hu
def dNe (d e : D) : Res D := if dep d ≤ 100 then .ok (.bl (!eqD d e)) else .bad
theorem room100 {k : Nat} {A : Around} (hr : Room k A) : A.units + 100 < cLine := by have := hr.un; omega
theorem room200 {k : Nat} {A : Around} (hr : Room k A) : A.units + 200 < cLine := by have := hr.un; omega
/-- a comprehension's table, by computation -/
theorem cscope {scope sc : Scope} {x : Str} {caps : List Str} {js : List Nat} {N : List Str} (hN : X.N = N) (hS : X.env.scope = sc) (h1 : scope.kind = .function) (h2 : (scope.names.all fun y => decide (y.2 ≠ .cell)) = true)
    (h3 : (scope.names.all fun y => decide (y.2 = .local → scope.names.lookup y.1 = some .local)) = true) (h4 : scope.names.lookup x = some .local)
    (h5 : (scope.names.all fun y => decide (y.2 = .free → sc.names.lookup y.1 = some .cell ∨ sc.names.lookup y.1 = some .free)) = true) (h6 : (x :: caps).Nodup) (h7 : caps.length = js.length)
    (h8 : ((caps.zip js).all fun q => decide (N[q.2]? = some q.1) && decide (scope.names.lookup q.1 = some .free)) = true) : CScope X scope x caps js where
  kind := h1
  nocell := fun y hy => of_decide_eq_true (List.all_eq_true.mp h2 y hy)
  names := fun y hy => of_decide_eq_true (List.all_eq_true.mp h3 y hy)
  loc := h4
  fr := fun y hy hf => by
    have := of_decide_eq_true (List.all_eq_true.mp h5 y hy) hf
    show X.env.scope.names.lookup y.1 = _ ∨ X.env.scope.names.lookup y.1 = _
    rw [hS]; exact this
  nd := h6
  len := h7
  cap := fun k y j hy hj => by
    have hm : (y, j) ∈ caps.zip js := by
      have : (caps.zip js)[k]? = some (y, j) := by rw [List.getElem?_zip_eq_some]; exact ⟨hy, hj⟩
      exact List.mem_of_getElem? this
    have := List.all_eq_true.mp h8 _ hm
    rw [Bool.and_eq_true] at this
    rw [hN]
    exact ⟨of_decide_eq_true this.1, of_decide_eq_true this.2⟩
theorem ifs_none : IfsOk X [] fun _ => .ok true := .inl ⟨rfl, rfl⟩
theorem ifs_one {p : MT} (h : IT X e p) : IfsOk X [e] p := .inr ⟨e, rfl, h⟩
end
/-- nothing is asked of what answers bad -/
theorem fn_bad {P : Program} {w : World} {K : PySem.W.Frag} {mg : Str → Option Value} {base : Heap} {k : Nat} {f : Addr} {fd : FuncData} {ps : List Str} {m : List D → Res D} (hm : ∀ ds, m ds = .bad) : FnOk P w K mg base CX0 k f fd ps (spD K m) := by
  have no : ∀ vs H Q E, ¬ spD K m vs H Q E := fun vs H Q E h => by
    obtain ⟨F, ds, _, _, _, q⟩ := h
    rw [hm ds] at q
    exact q
  exact ⟨fun vs H Q E h => absurd h (no vs H Q E), fun A outer s H args us vs Q E _ _ _ _ h => absurd h (no vs H Q E)⟩
/-- all that a call of the def named x asks, by the module alone -/
structure Cal (P : Program) (w : World) (K : PySem.W.Frag) (mg : Str → Option Value) (base : Heap) (k : Nat) (x : Str) (m : List D → Res D) : Prop where
  ex : ∃ (f : Addr) (fd : FuncData) (ps : List Str), FnOk P w K mg base CX0 k f fd ps (spD K m) ∧ mg x = some (.ref f) ∧ PySem.W.keepIn K (.ref f) = true ∧ Binds K fd ps []
theorem Cal.of {X : Cx} {k : Nat} {x : Str} {m : List D → Res D} (h : Cal X.prog X.w X.K X.mg X.base k x m) : Callee X k x m := ⟨h.ex⟩
/-- a table's tuple of texts -/
theorem gc_texts {K : PySem.W.Frag} {mg : Str → Option Value} {x : Str} {p : Addr} {o : Obj} {its : List Value} {n : Nat} {ts : List Str} (hm : mg x = some (.ref p)) (hk : K.lookup p = some o) (hc : o.cls = .type "tuple") (hd : o.data = .seq its.toArray n)
    (hz : ts.length ≤ 1000) (hl : ∀ t ∈ ts, t.length ≤ sizeLine) (hv : Vals (ts.map V.str) its) : GConst K mg x (.tup (ts.map .str)) := by
  refine ⟨.ref p, .ref p, hm, rfl, fun F => ?_⟩
  simp only [Dat]
  refine ⟨p, ts.map V.str, rfl, .inr ⟨o, its.toArray, n, hk, hc, hd, ?_, by simpa using hv⟩, dat_texts ts hl⟩
  rw [List.size_toArray, ← hv.length, List.length_map]
  have := sizeLine_eq
  omega
theorem gc_int {K : PySem.W.Frag} {mg : Str → Option Value} {x : Str} {i : Int} {t : Tok} (hm : mg x = some (.int i t)) : GConst K mg x (.int i) := ⟨.int i, .int i t, hm, ⟨t, rfl⟩, fun F => by simp only [Dat]⟩
def spLaw (K : PySem.W.Frag) : Sp := fun vs H Q _ => ∃ (a : Addr) (ns : List Int) (F : Hp), vs = [.ref a] ∧ TbF F H ∧ Same F H ∧ SqL K F a (ns.map V.int) ∧ ns.length ≤ 63 ∧ ∀ H', Q (.bl true) H'
theorem dat_ints {K : PySem.W.Frag} {F : Hp} : ∀ ns : List Int, DatL K F (ns.map .int) (ns.map V.int)
  | [] => DatL.nil
  | n :: r => DatL.cons (by simp only [Dat]) (dat_ints r)
/-- the law's promise from what it means -/
theorem law_of {P : Program} {w : World} {K : PySem.W.Frag} {mg : Str → Option Value} {base : Heap} {k : Nat} {f : Addr} {fd : FuncData} {ps : List Str} {m : List D → Res D} (F : FnOk P w K mg base CX0 k f fd ps (spD K m))
    (hm : ∀ ns : List Int, ns.length ≤ 63 → m [.lst (ns.map .int)] = .ok (.bl true)) : FnOk P w K mg base CX0 k f fd ps (spLaw K) := F.imp fun vs H Q E ⟨a, ns, F₀, e, ti, sb, hS, hl, q⟩ => by
  subst e
  refine ⟨F₀, [.lst (ns.map .int)], ti, sb, DatL.cons (by simp only [Dat]; exact ⟨a, _, rfl, hS, dat_ints ns⟩) DatL.nil, ?_⟩
  rw [hm ns hl]
  intro v F' H' g d
  simp only [Dat] at d
  subst d
  exact q H'
end R
end
section
set_option Elab.async false
set_option linter.all false
set_option maxRecDepth 100000
set_option maxHeartbeats 4000000
namespace R
open PySem PySem.Spec PyProof.Rows L2
variable [Tbl]

/-! ### the same rules with cheap premises -/
def isStar : Expr → Bool
  | .Starred _ _ => true
  | _ => false
theorem star_cons {e : Expr} {es : List Expr} {env : Env} (h : isStar e = false) : starEach (e :: es) env = (false, eval e env) :: starEach es env := by
  cases e <;> first | rfl | (exact Bool.noConfusion h)
def noStar (es : List Expr) : Bool := es.all fun e => !isStar e
theorem star_any {env : Env} {pos : Pos} : ∀ {es : List Expr}, noStar es = true → (backTo pos (starEach es env)).any (·.1) = false
  | [], _ => rfl
  | e :: es, h => by
    unfold noStar at h
    rw [List.all_cons, Bool.and_eq_true] at h
    rw [star_cons (by simpa using h.1)]
    show (false || (backTo pos (starEach es env)).any (·.1)) = false
    rw [Bool.false_or]
    exact star_any h.2
theorem star_all {env : Env} {pos : Pos} : ∀ {es : List Expr}, noStar es = true → (backTo pos (starEach es env)).all (fun x => !x.1) = true
  | [], _ => rfl
  | e :: es, h => by
    unfold noStar at h
    rw [List.all_cons, Bool.and_eq_true] at h
    rw [star_cons (by simpa using h.1)]
    show (true && (backTo pos (starEach es env)).all fun x => !x.1) = true
    rw [Bool.true_and]
    exact star_all h.2
structure VarOk (N : List Str) (sc : Scope) (i : Nat) (x : Str) : Prop where
  n : N[i]? = some x
  v : sc.names.lookup x = some .local ∨ sc.names.lookup x = some .cell ∨ sc.names.lookup x = some .free
  d : (x == ("__debug__" : Str)) = false
  c : (x == ("__classdict__" : Str)) = false
section
variable {X : Cx} {a b c e o : Expr} {es : List Expr} {f g h : ME} {pos p p1 p2 apos : Pos} {x : Str}
theorem fe_v {i : Nat} (h : VarOk X.N X.env.scope i x) : IE X (.Name x pos) (gv i) := ie_v i (pe_var h.n h.v h.d h.c)
theorem fe_str {x j} (hx : Nat.ble x.length sizeLine = true) : IE X (.Constant (.str x) j pos) (kc (.str x)) := ie_str (Nat.le_of_ble_eq_true hx)
theorem fa_cons {r : MA} (hs : isStar e = false) (ha : IE X e f) (hr : IA X es r) : IA X (e :: es) (aCons f r) := ia_cons ha hr (star_cons hs)
theorem fe_call {k : Nat} {m : List D → Res D} {fa : MA} (C : Cal X.prog X.w X.K X.mg X.base k x m) (hr : Room k X.A) (hg : X.env.scope.names.lookup x = some .globalImplicit) (hn : noStar (e :: es) = true) (hd : (x == ("__debug__" : Str)) = false) (ha : IA X (e :: es) fa) :
    IE X (.Call (.Name x p) (e :: es) [] pos) (mA m fa) := by
  have h1 : isStar e = false ∧ noStar es = true := by
    unfold noStar at hn
    rw [List.all_cons, Bool.and_eq_true] at hn
    exact ⟨by simpa using hn.1, hn.2⟩
  exact ie_call (Cal.of C) hr hg ha hd (star_cons h1.1) (star_any h1.2)
theorem fe_callB {id : String} {r : List V → Hp → VK → Prop} {m : List D → Res D} {fa : MA} (hc : CallR X (.builtin id) r) (ho : OpL X r m) (hg : X.env.scope.names.lookup x = some .globalImplicit) (hm : X.mg x = none) (hv : bootBuiltins x = some (.builtin id)) (hn : noStar (e :: es) = true)
    (hd : (x == ("__debug__" : Str)) = false) (hnm : (x == ("__name__" : Str)) = false) (ha : IA X (e :: es) fa) : IE X (.Call (.Name x p) (e :: es) [] pos) (mA m fa) := by
  have h1 : isStar e = false ∧ noStar es = true := by
    unfold noStar at hn
    rw [List.all_cons, Bool.and_eq_true] at hn
    exact ⟨by simpa using hn.1, hn.2⟩
  exact ie_callB hc ho hg hm hv ha (by intro z; rw [z] at hnm; simp at hnm) hd (star_cons h1.1) (star_any h1.2)
theorem fe_callTy {id : String} {r : List V → Hp → VK → Prop} {m : List D → Res D} {fa : MA} (hc : CallR X (.type id) r) (ho : OpL X r m) (hg : X.env.scope.names.lookup x = some .globalImplicit) (hm : X.mg x = none) (hv : bootBuiltins x = some (.type id)) (hn : noStar (e :: es) = true)
    (hd : (x == ("__debug__" : Str)) = false) (hnm : (x == ("__name__" : Str)) = false) (ha : IA X (e :: es) fa) : IE X (.Call (.Name x p) (e :: es) [] pos) (mA m fa) := by
  have h1 : isStar e = false ∧ noStar es = true := by
    unfold noStar at hn
    rw [List.all_cons, Bool.and_eq_true] at hn
    exact ⟨by simpa using hn.1, hn.2⟩
  exact ie_callTy hc ho hg hm hv ha (by intro z; rw [z] at hnm; simp at hnm) hd (star_cons h1.1) (star_any h1.2)
theorem fe_isi {T : String} {tn : Str} (hk : Known X.K T) (hs : isStar a = false) (hg : X.env.scope.names.lookup ("isinstance" : Str) = some .globalImplicit) (hm : X.mg "isinstance" = none) (hg2 : X.env.scope.names.lookup tn = some .globalImplicit) (hm2 : X.mg tn = none) (hv : bootBuiltins tn = some (.type T))
    (hd : (tn == ("__debug__" : Str)) = false) (hnm : (tn == ("__name__" : Str)) = false) (ha : IE X a f) : IE X (.Call (.Name "isinstance" p) [a, .Name tn p1] [] pos) (m1 (dIsi T) f) :=
  ie_isi hk ha hg hm hg2 hm2 hv (by intro z; rw [z] at hnm; simp at hnm) hd (star_cons hs)
theorem fe_glob {d : D} (hg : X.env.scope.names.lookup x = some .globalImplicit) (C : GConst X.K X.mg x d) (hd : (x == ("__debug__" : Str)) = false) : IE X (.Name x pos) (kc d) := ie_glob hg C hd
theorem fe_meth {m : Str → List D → Res D} {name : Str} {id : String} {fa : MA} (slot : PySem.Slot "str" name id) (hty : typeOf (.builtin id) = pure (.type "method_descriptor")) (hm : MtR X id (rMe X m)) (hn : noStar (e :: es) = true) (hl : Nat.blt ((e :: es).length) 30 = true) (hline : (apos.endLine == pos.line) = true)
    (hbase : attributeBase o name X.env (eval o X.env) = eval o X.env) (ho : IE X o f) (ha : IA X (e :: es) fa) : IE X (.Call (.Attribute o name apos) (e :: es) [] pos) (mMe m f fa) := by
  have h1 : isStar e = false ∧ noStar es = true := by
    unfold noStar at hn
    rw [List.all_cons, Bool.and_eq_true] at hn
    exact ⟨by simpa using hn.1, hn.2⟩
  refine ie_meth slot hty hm ho ha hbase ?_ hline (star_cons h1.1) (star_any h1.2)
  rw [star_all hn]
  have hl' : (e :: es).length < 30 := Nat.le_of_ble_eq_true hl
  show (true && true && decide ((e :: es).length + 0 + (if ([] : List Keyword).isEmpty then 0 else 1) < 30)) = true
  simp only [List.isEmpty_nil, if_true, Bool.true_and]
  exact decide_eq_true (by omega)
theorem fi_range (hg : X.env.scope.names.lookup ("range" : Str) = some .globalImplicit) (hm : X.mg "range" = none) (hs : isStar a = false) {tg : Expr} (hi : IE X a f) : II X tg (.Call (.Name "range" p) [a] [] pos) (mRange f) :=
  ii_range hg hm hi (by rw [star_cons hs]; rfl)
def isCompr : Expr → Bool
  | .ListComp _ _ _ _ => true
  | .SetComp _ _ _ _ => true
  | .DictComp _ _ _ _ _ => true
  | _ => false
theorem no_swap {t : Option Expr} {l : Nat} {env : Env} (h : isCompr e = false) : swapsWith e t l env = pure false := by
  cases e <;> first | rfl | (exact Bool.noConfusion h)
theorem fs_set {i : Nat} (hN : X.N.Nodup) (hi : X.N[i]? = some x) (hx : Loc X.env.scope x) (hs : isCompr e = false) (hf : X.fn x = true ∨ X.env.scope.names.lookup x = some .local) (he : IE X e f) : IS X (.Assign [.Name x p] e pos) (sSet i f) :=
  is_set' (fun t h => ps_set (i := i) hN hi hx h (no_swap hs) hf) he
theorem fs_expr (hs : isCompr e = false) (he : IE X e f) : IS X (.Expr e pos) (sExpr f) := is_expr he (no_swap hs)
theorem is_bad {st : Stmt} : IS X st fun _ => .bad := fun F₀ H₀ pins s σ H E I ⟨ρ, F, S, q⟩ => q.elim
end
end R
namespace R
open PySem PySem.Spec PyProof.Rows L2
variable [Tbl]
section
variable {X : Cx} {a b c e o : Expr} {es : List Expr} {f g h : ME} {pos p p1 p2 apos : Pos} {x : Str}
def okIx : Expr → Bool
  | .Name _ _ => true
  | .Constant (.int _) _ _ => true
  | .BinOp _ _ _ _ => true
  | .UnaryOp _ _ _ => true
  | .Call _ _ _ _ => true
  | .Subscript _ _ _ => true
  | _ => false
theorem plain_of (h : okIx b = true) : PlainIx b := by
  cases b <;> first
    | (exact Bool.noConfusion h)
    | (intro _ _; rfl)
    | (rename_i k _ _; cases k <;> first | (exact Bool.noConfusion h) | (intro _ _; rfl))
theorem fe_at (hs : okIx b = true) (ha : IE X a f) (hb : IE X b g) : IE X (.Subscript a b pos) (m2 dIx f g) := ie_at ha hb (plain_of hs)
def okTr : Expr → Bool
  | .Name _ _ => true
  | .Call _ _ _ _ => true
  | .Subscript _ _ _ => true
  | .Attribute _ _ _ => true
  | .BinOp _ _ _ _ => true
  | _ => false
theorem truth_of {env : Env} (h : okTr a = true) : ∀ whole, isTrue a env whole = (do let v ← whole; standAt a.pos; holding [v] (truthy v)) := by
  cases a <;> first
    | (exact Bool.noConfusion h)
    | (intro _; rfl)
theorem ft_truth (hs : okTr a = true) (ha : IE X a f) : IT X a (mT f) := it_truth ha (truth_of hs)
def okIt : Expr → Bool
  | .Name _ _ => true
  | .Call _ _ _ _ => true
  | .Subscript _ _ _ => true
  | .BinOp _ _ _ _ => true
  | .ListComp _ _ _ _ => true
  | .Tuple _ _ _ => true
  | .List _ _ => true
  | _ => false
theorem fold_of {env : Env} (h : okIt a = true) : ∀ x, foldedSetIterable a env x = pure x := by
  cases a <;> first
    | (exact Bool.noConfusion h)
    | (intro _; rfl)
end
end R
end
section
set_option Elab.async false
set_option linter.all false
set_option maxRecDepth 100000
set_option maxHeartbeats 4000000
namespace R
open PySem PySem.Spec PyProof.Rows L2
variable [Tbl]
section
variable {X : Cx} {a b c e : Expr} {es : List Expr} {f g h : ME} {pos p2 : Pos}
def dAbs : List D → Res D
  | [.int i] => .ok (.int (if i < 0 then -i else i))
  | _ => .bad
theorem cm_abs : CallR X (.builtin "abs") (rDL X dAbs) := by
  intro pins s σ H xs us Q I r h
  obtain ⟨F, ds, sb, hl, q⟩ := h
  unfold dAbs at q
  split at q
  · obtain ⟨x, rfl, hx⟩ := one_arg hl
    simp only [Dat] at hx; subst hx
    exact call_abs pins s σ H _ us Q I r ⟨_, rfl, post_ok q sb (by simp only [Dat])⟩
  · exact q.elim
theorem log_small {n : Nat} (h : n < 2 ^ 64) : n.log2 < 1920 := by
  by_cases h0 : n = 0
  · subst h0; decide
  · have := (Nat.log2_lt h0).mpr h
    omega
theorem cm_str : CallR X (.type "str") (rDL X dStr) := by
  intro pins s σ H xs us Q I r h
  obtain ⟨F, ds, sb, hl, q⟩ := h
  unfold dStr at q
  split at q
  · obtain ⟨x, rfl, hx⟩ := one_arg hl
    simp only [Dat] at hx; subst hx
    split at q
    · rename_i hi
      exact call_str_int pins s σ H _ us Q I r ⟨_, rfl, log_small hi, post_ok q sb (by simp only [Dat]; exact ⟨trivial, int_text_fits (log_small hi)⟩)⟩
    · exact q.elim
  · exact q.elim
def dNeq : D → D → Res D
  | .int i, .int j => .ok (.bl (!(i == j)))
  | .str x, .str y => .ok (.bl (!(x == y)))
  | _, _ => .bad
theorem om_neq : OpR X (compareOp .NotEq) (rD X dNeq) := by
  intro pins s σ H x y v u Q I rx ry h
  obtain ⟨F, d1, d2, sb, h1, h2, q⟩ := h
  cases d1 <;> cases d2 <;> try exact q.elim
  · rename_i i j
    simp only [Dat] at h1 h2; subst h1 h2
    refine op_ne pins s σ H _ _ v u Q I rx ry ⟨rfl, ?_⟩
    have e : (!decide ((V.int i) = V.int j)) = !(i == j) := by
      by_cases q : i = j
      · subst q; simp
      · simp [q]
    first | (rw [e]; exact post_ok q sb (by simp only [Dat])) | skip
  · rename_i i j
    simp only [Dat] at h1 h2; obtain ⟨rfl, _⟩ := h1; obtain ⟨rfl, _⟩ := h2
    refine op_ne pins s σ H _ _ v u Q I rx ry ⟨rfl, ?_⟩
    have e : (!decide ((V.str i) = V.str j)) = !(i == j) := by
      by_cases q : i = j
      · subst q; simp
      · simp [q]
    first | (rw [e]; exact post_ok q sb (by simp only [Dat])) | skip
/-! ### x, y = a tuple of two -/
def sSet2 (i j : Nat) (f : ME) : MS := fun ρ => (f ρ).bind fun d => match d with
  | .tup [x, y] => .ok (.nx ((ρ.set i (.val x)).set j (.val y)))
  | _ => .bad
theorem is_set2 {x y : Str} {px py pt : Pos} {i j k : Nat} (hp : ∀ t, PE X e t → PS X (.Assign [.Tuple [.Name x px, .Name y py] k pt] e pos) (tAsg t (gTup X.K 2 (gCons (gName i) (gCons (gName j) gNil))))) (he : IE X e f) :
    IS X (.Assign [.Tuple [.Name x px, .Name y py] k pt] e pos) (sSet2 i j f) := fun F₀ H₀ => ps_imp (hp _ he) fun E σ H q =>
  tS_of (k := fun d ρ => match d with | .tup [x, y] => .ok (.nx ((ρ.set i (.val x)).set j (.val y))) | _ => .bad) (fun ρ F H d v S r q => by
    cases d with
    | tup ds =>
      cases ds with
      | nil => exact q.elim
      | cons d1 ds =>
        cases ds with
        | nil => exact q.elim
        | cons d2 ds =>
          cases ds with
          | cons _ _ => exact q.elim
          | nil =>
            simp only [Dat] at r
            obtain ⟨p, xs, rfl, g1, l1⟩ := r
            simp only [DatL] at l1
            obtain ⟨x1, r1, rfl, h1, x2, r2, rfl, h2, rfl⟩ := l1
            exact ⟨p, _, rfl, Same.seqT S.env.sub g1, rfl, x1, _, rfl, x2, _, rfl, rfl, q _ F H ((S.set i h1).set j h2)⟩
    | _ => exact q.elim) q
theorem ps_two {x y : Str} {px py pt : Pos} {i j k : Nat} (hc : X.calm = true) (hN : X.N.Nodup) (hi : X.N[i]? = some x) (hx : Loc X.env.scope x) (hj : X.N[j]? = some y) (hy : Loc X.env.scope y)
    (hf : X.fn x = true ∨ X.env.scope.names.lookup x = some .local) (hf' : X.fn y = true ∨ X.env.scope.names.lookup y = some .local)
    (h1 : (assignEach [.Name x px, .Name y py] X.env).length = 2) (h2 : (assignEach [.Name x px, .Name y py] X.env).findIdx? (·.1) = none)
    (h3 : (assignEach [.Name x px, .Name y py] X.env).map (·.2) = assign (.Name x px) X.env :: (assignEach [.Name y py] X.env).map (·.2))
    (h4 : (assignEach [.Name y py] X.env).map (·.2) = assign (.Name y py) X.env :: (assignEach [] X.env).map (·.2))
    (hs : swapsWithSole [.Tuple [.Name x px, .Name y py] k pt] e pos.line X.env = pure false) (hw : swappedStores [.Tuple [.Name x px, .Name y py] k pt] e X.env = pure none)
    (h5 : (assignEach [.Tuple [.Name x px, .Name y py] k pt] X.env).map (·.2) = [assign (.Tuple [.Name x px, .Name y py] k pt) X.env]) {t : TE} (he : PE X e t) :
    PS X (.Assign [.Tuple [.Name x px, .Name y py] k pt] e pos) (tAsg t (gTup X.K 2 (gCons (gName i) (gCons (gName j) gNil)))) :=
  ps_asg he (pg_tup hc (pgs_cons (pg_name hN hi hx hf) (pgs_cons (pg_name hN hj hy hf') pgs_nil h4) h3) h1 h2) hs hw h5
theorem fs_set2 {x y : Str} {px py pt : Pos} {i j k : Nat} (hc : X.calm = true) (hN : X.N.Nodup) (hi : X.N[i]? = some x) (hx : Loc X.env.scope x) (hj : X.N[j]? = some y) (hy : Loc X.env.scope y)
    (hf : X.fn x = true ∨ X.env.scope.names.lookup x = some .local) (hf' : X.fn y = true ∨ X.env.scope.names.lookup y = some .local)
    (hs : swapsWithSole [.Tuple [.Name x px, .Name y py] k pt] e pos.line X.env = pure false) (hw : swappedStores [.Tuple [.Name x px, .Name y py] k pt] e X.env = pure none) (he : IE X e f) :
    IS X (.Assign [.Tuple [.Name x px, .Name y py] k pt] e pos) (sSet2 i j f) :=
  is_set2 (fun t ht => ps_two hc hN hi hx hj hy hf hf' rfl rfl rfl rfl hs hw rfl ht) he
end
end R
end
section
set_option Elab.async false
set_option linter.all false
set_option maxRecDepth 100000
set_option maxHeartbeats 4000000
namespace R
open PySem PySem.Spec PyProof.Rows L2
variable [Tbl]
/-! ### function values: what is asked of one, the call of one -/
def spG (K : PySem.W.Frag) (c : List (Addr × HO)) (m : List D → Res D) : Sp := fun vs H Q _ => ∃ F ds, TbF F H ∧ Same F H ∧ (∀ p ∈ c, F p.1 = some p.2) ∧ DatL K F ds vs ∧ Post (Dat K) F H (m ds) Q
structure Clb (P : Program) (w : World) (K : PySem.W.Frag) (mg : Str → Option Value) (base : Heap) (n : Nat) (v : V) (c : List (Addr × HO)) (m : List D → Res D) : Prop where
  ex : ∃ (a : Addr) (fd : FuncData) (ps : List Str) (o : Obj), v = .ref a ∧ base.get? a = some o ∧ o.data = .func fd ∧ FnOk P w K mg base CX0 n a fd ps (spG K c m) ∧ Binds K fd ps []
theorem spG_nil {K : PySem.W.Frag} {m : List D → Res D} {vs : List V} {H : Hp} {Q : VK} {E : XK} (h : spG K [] m vs H Q E) : spD K m vs H Q E := by
  obtain ⟨F, ds, h1, h2, _, h3⟩ := h
  exact ⟨F, ds, h1, h2, h3⟩
section
variable {X : Cx} {e : Expr} {es : List Expr} {pos p : Pos} {x : Str}
open Classical in
noncomputable def mIs (i : Nat) (v : V) (c : List (Addr × HO)) (m : List D → Res D) (fa : MA) : ME := fun ρ => if ρ[i]? = some (.is v c) then (fa ρ).bind m else .bad
theorem tA_ofG {r : List V → Hp → VK → Prop} {m : List D → Res D} {fa : MA} {g : Hp → Prop} (hg : ∀ F F', Same F F' → g F → g F') (hd : ∀ F H ds vs Q, TbF F H → Same F H → g F → DatL X.K F ds vs → Post (Dat X.K) F H (m ds) Q → r vs H Q) {σ : St} {H F : Hp} {ρ : Rho} {Q : VK} (E : EnvR X.K F H ρ σ) (gF : g F)
    (q : Post (Dat X.K) F H ((fa ρ).bind m) Q) : tDA X fa σ H fun vs H1 => r vs H1 Q := by
  refine ⟨ρ, F, E, ?_⟩
  have q1 := post_bind (R1 := DatL X.K) q
  revert q1
  cases fa ρ with
  | ok d => exact fun q1 v F1 H1 g1 d1 => let ⟨F2, d', g2, d2, q2⟩ := q1 v F1 H1 g1 d1; hd F2 H1 d' v Q (g2.tk E.tb) g2.sub (hg _ _ g2.fs gF) d2 q2
  | ex _ => exact fun q1 => q1
  | bad => exact fun q1 => q1
theorem ie_callIs {i n : Nat} {v : V} {c : List (Addr × HO)} {m : List D → Res D} {fa : MA} (C : Clb X.prog X.w X.K X.mg X.base n v c m) (hr : Room n X.A) (hv : VarOk X.N X.env.scope i x) (hn : noStar (e :: es) = true) (ha : IA X (e :: es) fa) :
    IE X (.Call (.Name x p) (e :: es) [] pos) (mIs i v c m fa) := by
  obtain ⟨a, fd, ps, o, rfl, hb, hd, F, hbi⟩ := C.ex
  intro pins s σ H Q I q
  obtain ⟨ρ, F0, E, q⟩ := q
  unfold mIs at q
  split at q
  · rename_i hi
    obtain ⟨o', e1, rfl, hc⟩ := E.at_ i _ hi
    have hq := tA_ofG (X := X) (r := fun vs H1 Q => spG X.K c m (vs ++ []) H1 Q E0) (g := fun F => ∀ p ∈ c, F p.1 = some p.2) (fun F F' sm h p hp => sm _ _ (h p hp))
      (fun F H ds vs Q ti sb g d q => by rw [List.append_nil]; exact ⟨F, ds, ti, sb, g, d, q⟩) E hc q
    have hs : isStar e = false ∧ noStar es = true := by
      unfold noStar at hn
      rw [List.all_cons, Bool.and_eq_true] at hn
      exact ⟨by simpa using hn.1, hn.2⟩
    have fnat : ∀ {s' : Shared} {σ' : St} {H' : Hp}, Inv X pins σ' H' s' → PySem.W.FnAt a s'.heap := fun {s' σ' H'} I' => by
      have h := I'.bk a o hb
      obtain ⟨oc, od, dt, sl⟩ := o
      simp only at hd; subst hd
      exact ⟨oc, od, fd, sl, h⟩
    refine wpAny_Call_Name_kw ?_
    refine thn (pe_var hv.n hv.v hv.d hv.c pins s σ H (fun v' H' => v' = .ref a ∧ H' = H) I ⟨.ref a, e1, rfl, rfl⟩) fun u s1 ⟨v', H1, I1, r1, ev, eH⟩ => ?_
    subst ev eH
    obtain rfl : u = Value.ref a := r1
    refine PySem.W.callWith_F (fnat I1) (thn (ha pos pins s1 σ H1 _ I1 hq) fun us s2 ⟨vs, H2, I2, r, q2⟩ => ⟨fnat I2, ?_⟩) (star_cons hs.1) (star_any hs.2)
    exact run_fn F hr hbi .nil pass0 I2 r q2
  · exact q.elim
end
/-! ### a def whose last parameter is a function -/
def rho0H (n : Nat) (ds : List D) (v : V) (c : List (Addr × HO)) : Rho := ds.map .val ++ (.is v c :: List.replicate (n - ds.length - 1) .no)
def runH (k n : Nat) (v : V) (c : List (Addr × HO)) (g : MS) (ds : List D) : Res D := if ds.length + 1 = k then (g (rho0H n ds v c)).bind out else .bad
def spH (K : PySem.W.Frag) (v : V) (c : List (Addr × HO)) (m : List D → Res D) : Sp := fun vs H Q _ => ∃ F ds vs0, vs = vs0 ++ [v] ∧ TbF F H ∧ Same F H ∧ (∀ p ∈ c, F p.1 = some p.2) ∧ DatL K F ds vs0 ∧ Post (Dat K) F H (m ds) Q
theorem noown_H {n : Nat} {ds : List D} {v : V} {c : List (Addr × HO)} (i : Nat) (es : List D) : (rho0H n ds v c)[i]? ≠ some (.own es) := fun e => by
  unfold rho0H at e
  have hm := List.mem_of_getElem? e
  rcases List.mem_append.mp hm with h | h
  · obtain ⟨d, _, h⟩ := List.mem_map.mp h; cases h
  · rcases List.mem_cons.mp h with h | h
    · cases h
    · have := List.eq_of_mem_replicate h; cases this
theorem env0H {K : PySem.W.Frag} {F H : Hp} {ds : List D} {vs : List V} {N : List Str} {v : V} {c : List (Addr × HO)} (ti : TbF F H) (s : Same F H) (hc : ∀ p ∈ c, F p.1 = some p.2) (r : DatL K F ds vs) (hN : ds.length + 1 ≤ N.length) : EnvR K F H (rho0H N.length ds v c) (start N (vs ++ [v])) := by
  have hl := r.length
  refine ⟨ti, s, ?_, fun i sl e => ?_, fun i j es fs a _ e => absurd e (noown_H i es)⟩
  · unfold rho0H L2.start
    simp only [List.length_append, List.length_map, List.length_replicate, List.length_cons, List.length_nil]
    omega
  · unfold rho0H at e
    unfold L2.start
    by_cases hi : i < ds.length
    · rw [List.getElem?_append_left (by simpa using hi), List.getElem?_map] at e
      rw [List.getElem?_append_left (by simp; omega), List.getElem?_map, List.getElem?_append_left (by omega)]
      cases q : ds[i]? with
      | none => rw [q] at e; cases e
      | some d =>
        rw [q] at e; cases e
        obtain ⟨x, h1, h2⟩ := pr_get r.paired q
        exact ⟨some x, by rw [h1]; rfl, x, rfl, h2⟩
    · rw [List.getElem?_append_right (by simpa using hi)] at e
      simp only [List.length_map] at e
      by_cases h0 : i = ds.length
      · subst h0
        rw [Nat.sub_self] at e
        have e' : Slot.is v c = sl := by simpa using e
        subst e'
        refine ⟨some v, ?_, rfl, hc⟩
        rw [List.getElem?_append_left (by simp; omega), List.getElem?_map, List.getElem?_append_right (by omega), hl]
        simp
      · obtain ⟨j, hj⟩ : ∃ j, i - ds.length = j + 1 := ⟨i - ds.length - 1, by omega⟩
        rw [hj, List.getElem?_cons_succ, List.getElem?_replicate] at e
        split at e
        · cases e
          rename_i hz
          refine ⟨none, ?_, trivial⟩
          rw [List.getElem?_append_right (by simp; omega), List.getElem?_replicate]
          simp only [List.length_map, List.length_append, List.length_cons, List.length_nil]
          rw [if_pos (by omega)]
        · cases e
theorem def_okH {P : Program} {w : World} {K : PySem.W.Frag} {mg : Str → Option Value} {base : Heap} {x qual : Str} {st : Stmt} {f : Addr} {fd : FuncData} {N ps : List Str} {k : Nat} {g : MS} {v : V} {c : List (Addr × HO)} (F : Fun K x qual st f fd) (S : FnScope N ps (defScope st)) (hN : ps.length ≤ N.length)
    (hbody : ∀ (cdv : Value) (A : Around) (outer : List Env) (s : Shared) (H : Hp) (E : XK), Room k (A.deeper (envOfC qual (defScope st) s.heap.objs.size f cdv)) →
      ISs (cxOf CX0 P w K mg base N qual (defScope st) f cdv A outer s H E).nox (defBody st) g) : FnOk P w K mg base CX0 (k + 1) f fd ps (spH K v c (runH ps.length N.length v c g)) := by
  refine F.ok S (fun vs H Q E h => ?_) (fun cdv A outer s H vs Q E hr h => ?_)
  · obtain ⟨F, ds, vs0, rfl, _, _, _, r, q⟩ := h
    unfold runH at q
    split at q
    · rename_i e; rw [List.length_append, ← r.length]; exact e
    · exact q.elim
  · obtain ⟨F, ds, vs0, rfl, ti, s', hc, r, q⟩ := h
    unfold runH at q
    split at q
    · rename_i e
      refine ⟨_, hbody cdv A outer s H E hr F H, rho0H N.length ds v c, F, ⟨.refl s', env0H ti s' hc r (by omega), fun i es a e => absurd e (noown_H i es)⟩, ?_⟩
      revert q
      cases g (rho0H N.length ds v c) with
      | ok fl =>
        intro q
        cases fl with
        | nx ρ => exact fun σ F' H' S' => q .non F' H' S'.gr (by simp only [Dat])
        | rt d => exact fun v F' H' g' r' => q v F' H' g' r'
        | bk ρ => exact q.elim
        | ct ρ => exact q.elim
      | ex _ => exact fun q => q
      | bad => exact fun q => q
    · exact q.elim
end R
end
section
set_option Elab.async false
set_option linter.all false
set_option maxRecDepth 100000
set_option maxHeartbeats 4000000
namespace R
open PySem PySem.Spec PyProof.Rows L2
variable [Tbl]
/-! ### the call of a lambda of one parameter x that keeps one name y of the def around it, an int -/
def lamCx (P : Program) (w : World) (K : PySem.W.Frag) (mg : Str → Option Value) (base : Heap) (N : List Str) (qual : Str) (scope : Scope) (a : Addr) (cd : Value) (cl : List (Str × Addr)) (A : Around) (outer : List Env) (s : Shared) (H : Hp) : Cx where
  prog := P
  w := w
  K := K
  mg := mg
  base := base
  A := A.deeper (PySem.W.envX qual scope s.heap.objs.size a cd cl)
  N := N
  s₀ := s
  H₀ := H
  env := PySem.W.envX qual scope s.heap.objs.size a cd cl
  outer := outer
  stack := PySem.W.envX qual scope s.heap.objs.size a cd cl :: outer
  ex := []
  fn := fun _ => false
  calm := true
  pn := []
  xe := fun _ _ => False
abbrev crOf (c' : Addr) (qual : Str) : List (Addr × HO) := [(c', .ext fun h => h.CodeRec (.ref c') qual)]
def runL (i : Int) (g : ME) : List D → Res D
  | [d] => g [.val d, .val (.int i)]
  | _ => .bad
structure LScope (x y : Str) (scope : Scope) : Prop where
  kind : scope.kind = .function
  co : scope.isCoroutine = false
  gen : scope.isGenerator = false
  nocell : ∀ z ∈ scope.names, z.2 ≠ .cell
  loc : scope.names.lookup x = some .local
  fr : scope.names.lookup y = some .free
  one : ∀ z, scope.names.lookup z = some .free → z = y
theorem lam_ok {P : Program} {w : World} {K : PySem.W.Frag} {mg : Str → Option Value} {base : Heap} {n : Nat} {a cc c' : Addr} {name qual : Str} {params : Arguments} {body : Expr} {scope : Scope} {pm ctv : Value} {x y : Str} {i : Int} {t : Tok} {g : ME}
    (ho : base.get? a = some (PySem.W.kla_obj name qual params body scope [(y, cc)] pm c' ctv)) (hcell : base.IsCell cc (some (.int i t))) (S : LScope x y scope)
    (hbody : ∀ (A : Around) (outer : List Env) (s : Shared) (H : Hp), Room n (A.deeper (PySem.W.envX qual scope s.heap.objs.size a (.ref c') [(y, cc)])) → IE (lamCx P w K mg base [x, y] qual scope a (.ref c') [(y, cc)] A outer s H) body g) :
    FnOk P w K mg base CX0 (n + 1) a (PySem.W.kla_fn name qual params body scope [(y, cc)] pm (.ref c') ctv) [x] (spG K (crOf c' qual) (runL i g)) := by
  have one : ∀ {vs : List V} {H : Hp} {Q : VK} {E : XK}, spG K (crOf c' qual) (runL i g) vs H Q E → ∃ F d v, vs = [v] ∧ TbF F H ∧ Same F H ∧ F c' = some (.ext fun h => h.CodeRec (.ref c') qual) ∧ Dat K F d v ∧ Post (Dat K) F H (g [.val d, .val (.int i)]) Q := fun {vs H Q E} h => by
    obtain ⟨F, ds, ti, sb, hc, dl, q⟩ := h
    unfold runL at q
    split at q
    · obtain ⟨v, rfl, hv⟩ := one_arg dl
      exact ⟨F, _, v, rfl, ti, sb, hc _ List.mem_cons_self, hv, q⟩
    · exact q.elim
  refine ⟨fun vs H Q E h => ?_, fun A outer s H args us vs Q E hr e0 hb r hsp => ?_⟩
  · obtain ⟨F, d, v, rfl, _⟩ := one h
    rfl
  obtain ⟨F, d, v, rfl, ti, sb, hc, hv, q⟩ := one hsp
  obtain ⟨u, rfl, ru⟩ : ∃ u, us = [u] ∧ RelV v u := by
    cases r with
    | cons r1 r2 => cases r2; exact ⟨_, rfl, r1⟩
  have hcode : s.heap.CodeRec (.ref c') qual := (e0.hok c' _ (sb _ _ hc)).1
  have lim : s.heap.NoLimit := e0.mod.nolimit.keeps fun b o e => (e0.bs b o e).1
  refine PySem.W.kla_callFunE hr.depth (e0.bs a _ ho).1 rfl S.co S.gen rfl hcode (hb _ _ _ _ ?_)
  refine wpAny_newFunctionEnv S.nocell (fun z hz => ?_) (fun h₁ hns hsb => ⟨lim.fresh _ hsb, ?_⟩) S.kind
  · obtain rfl : z = (x, u) := by simpa using hz
    exact S.loc
  show codeAny _ _ (.expr body (PySem.W.envX qual scope s.heap.objs.size a (.ref c') [(y, cc)])) _ _
  have hk₁ : ∀ b o, s.heap.get? b = some o → h₁.get? b = some o := fun b o e => hsb.extBut b o (Nat.ne_of_lt (Heap.lt_size e)) (Heap.get?_push_of_some _ e)
  have hcl : ∀ z c, ([(y, cc)] : List (Str × Addr)).lookup z = some c → z = y ∧ c = cc := fun z c e => by
    rw [List.lookup_cons] at e
    split at e
    · rename_i hz
      exact ⟨eq_of_beq hz, (Option.some.inj e).symm⟩
    · cases e
  have hyl : ([(y, cc)] : List (Str × Addr)).lookup y = some cc := by rw [List.lookup_cons, beq_self_eq_true]
  obtain ⟨oc, hoc, hdc⟩ := hcell
  have hc₀ := e0.bs cc oc hoc
  have I : Inv (lamCx P w K mg base [x, y] qual scope a (.ref c') [(y, cc)] A outer s H) [] [some v, some (.int i)] H { s with heap := h₁, toks := s.toks + 1 } := by
    have noA : ∀ b : Addr, b ∉ (lamCx P w K mg base [x, y] qual scope a (.ref c') [(y, cc)] A outer s H).ex := fun b z => absurd (show b ∈ ([] : List Addr) from z) (by simp)
    refine ⟨⟨e0.mod, S.kind, rfl, rfl, Nat.le_refl _, fun y' z c h1 h2 => ?_, fun y' hy => ?_, fun y' c hf _ => ?_, fun _ => hr.hd, Around.frames_deeper e0.frames, .inr ⟨rfl, rfl⟩, fun b z => absurd z (noA b), e0.bs, e0.bsz, fun b _ _ => noA b, fun b z => absurd z (noA b), e0.funs, e0.frf⟩,
      rfl, e0.bare, Un.kept hk₁, ⟨_, hns, fun j z v' h1 h2 h3 => ?_⟩, fun y' c h => ?_, e0.hok.fresh (Nat.le_refl _), fun y' c h => ?_, fun p hp => absurd (show p ∈ ([] : List (Addr × Obj)) from hp) (by simp), e0.hok.kept hk₁, rfl⟩
    · exact (hcl y' c h1).1.trans (hcl z c h2).1.symm
    · have hy' : scope.names.lookup y' = some .cell ∨ scope.names.lookup y' = some .free := hy
      rcases hy' with q | q
      · exact absurd rfl (S.nocell _ (PySem.mem_of_lookup q))
      · rw [S.one y' q]; exact ⟨cc, hyl⟩
    · cases hf
    · match j, h1, h2 with
      | 0, h1, h2 =>
        have e1 : x = z := Option.some.inj h1
        have e2 : v = v' := by simpa using h2
        subst e1 e2
        refine ⟨u, ru, .inl ⟨S.loc, ?_⟩⟩
        simp
      | 1, h1, h2 =>
        have e1 : y = z := Option.some.inj h1
        have e2 : V.int i = v' := by simpa using h2
        subst e1 e2
        exact ⟨.int i t, ⟨t, rfl⟩, .inr ⟨.inr S.fr, cc, hyl, oc, hk₁ _ _ hc₀.1, hdc⟩⟩
      | j + 2, h1, h2 => cases h1
    · obtain ⟨_, rfl⟩ := hcl y' c h
      exact ⟨_, oc, hk₁ _ _ hc₀.1, hdc⟩
    · obtain ⟨_, rfl⟩ := hcl y' c h
      exact hc₀.2
  have En : EnvR K F H [.val d, .val (.int i)] [some v, some (.int i)] := by
    refine ⟨ti, sb, rfl, fun j s' e => ?_, fun j k es fs b _ e => ?_⟩
    · match j, e with
      | 0, e => cases e; exact ⟨_, rfl, v, rfl, hv⟩
      | 1, e => cases e; exact ⟨_, rfl, _, rfl, by simp only [Dat]⟩
    · match j, e with
      | 0, e => cases e
      | 1, e => cases e
  refine PySem.W.kla_codeExpr (wpAny_mono (hbody A outer s H (hr.deeper _) [] _ _ H Q I ⟨_, F, En, q⟩) (fun u' s' ⟨v', H', J, rv, q'⟩ => ?_) fun _ _ z => z.elim)
  exact ⟨v', H', J.os, J.bare, J.base, J.hok, rv, q'⟩
end R
end
section
set_option Elab.async false
set_option linter.all false
set_option maxRecDepth 100000
set_option maxHeartbeats 4000000
namespace R
open PySem PySem.Spec PyProof.Rows L2
variable [Tbl]
section
variable {X : Cx} {pins : List (Addr × Obj)} {σ : St} {H : Hp} {s : Shared}
theorem codeRec_at {h1 h2 : Heap} {c' : Addr} {q : Str} (x : h1.CodeRec (.ref c') q) (k : ∀ o, h1.get? c' = some o → h2.get? c' = some o) : h2.CodeRec (.ref c') q := by
  obtain ⟨c, o, vs, t, e, ho, r⟩ := x
  cases e
  exact ⟨c', o, vs, t, rfl, k o ho, r⟩
theorem codeRec_there {h1 : Heap} {c' : Addr} {q : Str} (x : h1.CodeRec (.ref c') q) : ∃ o, h1.get? c' = some o := by
  obtain ⟨c, o, vs, t, e, ho, r⟩ := x
  cases e
  exact ⟨o, ho⟩
/-- a lambda is made: its code lies in the table of the def around it, or is put there -/
theorem lam_made {c Pt : Addr} {lps : Arguments} {lbody : Expr} {lsc : Scope} {lpos : Pos} {lq : Str} {clos : List (Str × Addr)} {Q : Value → Shared → Prop} {E : Value → Shared → Prop} (I : Inv X pins σ H s) (ti : TbI H) (hL : (Pt, lpos, lq) ∈ Tbl.L)
    (hcode : X.env.code = .ref c) (hhd : PySem.W.CodeHd X.base c Pt) (hq : X.env.qual ++ "<lambda>" = lq) (hbl : X.base.BuiltinsAt X.mg Pt) (hdef : defaultsOf lps X.env = ([], [])) (hcl : closureFor lsc X.env = pure clos)
    (h : ∀ a c' ctv H1 s1, Inv X pins σ H1 s1 → s.heap.objs.size ≤ a → H1 a = none → s1.heap.get? a = some (PySem.W.kla_obj "<lambda>" lq lps lbody lsc clos ((X.mg "__name__").getD .none) c' ctv) → H1 c' = some (.ext fun h => h.CodeRec (.ref c') lq) →
      SameX H H1 → (∀ b, H b ≠ none → H1 b ≠ none) → TbI H1 → (∀ F : Hp, Same F H → (∀ b ps, F b ≠ some (.tbl ps)) → Same F H1) → Q (.ref a) s1) :
    wpAny (model X.prog X.w) X.A (eval (.Lambda lps lbody lsc lpos) X.env) Q E s := by
  obtain ⟨ps, hPt, htr, hcs⟩ := ti _ hL
  have hP : s.heap.get? Pt = some (PySem.W.tabObj ps) := I.hok Pt _ hPt
  have hg : s.heap.Ns mainGlobals X.mg := I.mod.glob.keeps I.bk
  have hb : s.heap.BuiltinsAt X.mg Pt := by
    obtain ⟨bm, o, h1, h2, h3, h4, h5, h6⟩ := hbl
    exact ⟨bm, o, h1, h2, h3, h4, I.bk _ _ h5, h6⟩
  have hgP : mainGlobals ≠ Pt := fun z => by
    obtain ⟨o, es, ep, e, _⟩ := I.mod.glob
    have := (I.bs _ _ e).2
    rw [z, hPt] at this; cases this
  refine PySem.W.kla_eval hdef ?_
  rw [hq]
  rcases hcs with hcs | ⟨c', hcs, hc'⟩
  · refine PySem.W.kla_makeFunction hcl I.ok.glob hg hcode (hhd.keeps I.bk) hP htr hcs hgP hb fun c' ctv h' tk hx hge hlt hrec htb => ?_
    have hPs : Pt < s.heap.objs.size := Heap.lt_size hP
    have hPc : Pt ≠ c' := Nat.ne_of_lt (Nat.lt_of_lt_of_le hPs hge)
    have hfr : H c' = none := I.hok.fresh hge
    have hsz : s.heap.objs.size ≤ h'.objs.size := by omega
    have hH1P : upd (upd H Pt (.tbl (ps ++ #[rawInt lpos.line, rawInt lpos.col, .ref c']))) c' (.ext fun h => h.CodeRec (.ref c') lq) Pt = some (.tbl (ps ++ #[rawInt lpos.line, rawInt lpos.col, .ref c'])) := by rw [upd_ne hPc, upd_same]
    have oth : ∀ b, b ≠ Pt → b ≠ c' → upd (upd H Pt (.tbl (ps ++ #[rawInt lpos.line, rawInt lpos.col, .ref c']))) c' (.ext fun h => h.CodeRec (.ref c') lq) b = H b := fun b h1 h2 => by rw [upd_ne h2, upd_ne h1]
    have nP : ∀ b u, notTbl u = true → H b = some u → b ≠ Pt := fun b u n e z => by rw [z, hPt] at e; cases e; cases n
    have nC : ∀ b u, H b = some u → b ≠ c' := fun b u e z => by rw [z, hfr] at e; cases e
    have sx : SameX H (upd (upd H Pt (.tbl (ps ++ #[rawInt lpos.line, rawInt lpos.col, .ref c']))) c' (.ext fun h => h.CodeRec (.ref c') lq)) := fun b u n e => by rw [oth b (nP b u n e) (nC b u e)]; exact e
    have mr : ∀ b, H b ≠ none → upd (upd H Pt (.tbl (ps ++ #[rawInt lpos.line, rawInt lpos.col, .ref c']))) c' (.ext fun h => h.CodeRec (.ref c') lq) b ≠ none := fun b n => by
      by_cases z : b = c'
      · subst z; rw [upd_same]; simp
      · by_cases z2 : b = Pt
        · subst z2; rw [hH1P]; simp
        · rw [oth b z2 z]; exact n
    have un : Un X.fs [] H (upd (upd H Pt (.tbl (ps ++ #[rawInt lpos.line, rawInt lpos.col, .ref c']))) c' (.ext fun h => h.CodeRec (.ref c') lq)) s.heap (h'.push (PySem.W.kla_obj "<lambda>" lq lps lbody lsc clos ((X.mg "__name__").getD .none) c' ctv)) := by
      refine ⟨fun b o e n _ _ => ?_, fun b o e n _ _ => ⟨o.slots, ?_⟩, fun b o e n _ => ?_, fun b o e _ => ?_, fun b xs e => sx _ _ rfl e, fun b o u e => sx _ _ rfl e, fun b ps0 e => ?_⟩
      · exact Heap.get?_push_of_some _ (hx b o (fun z => by rw [z, hPt] at n; cases n) e)
      · exact Heap.get?_push_of_some _ (hx b o (fun z => by rw [z, hPt] at n; cases n) e)
      · rw [oth b (fun z => by rw [z, hPt] at n; cases n) (Nat.ne_of_lt (Nat.lt_of_lt_of_le (Heap.lt_size e) hge))]; exact n
      · by_cases z : b = Pt
        · subst z; exact ⟨_, Heap.get?_push_of_some _ htb⟩
        · exact ⟨o, Heap.get?_push_of_some _ (hx b o z e)⟩
      · by_cases z : b = Pt
        · subst z; rw [hPt] at e; cases e; exact ⟨_, hH1P⟩
        · exact ⟨#[], by rw [oth b z (nC b _ e), e]; simp⟩
    have hok : HOk X.prog X.w (upd (upd H Pt (.tbl (ps ++ #[rawInt lpos.line, rawInt lpos.col, .ref c']))) c' (.ext fun h => h.CodeRec (.ref c') lq)) (h'.push (PySem.W.kla_obj "<lambda>" lq lps lbody lsc clos ((X.mg "__name__").getD .none) c' ctv)) := by
      intro b o e
      by_cases z : b = c'
      · subst z
        rw [upd_same] at e; cases e
        have hr2 := codeRec_at (h2 := h'.push (PySem.W.kla_obj "<lambda>" lq lps lbody lsc clos ((X.mg "__name__").getD .none) b ctv)) hrec fun o q => Heap.get?_push_of_some _ q
        exact ⟨hr2, codeRec_there hr2, fun h1 h2 x k => codeRec_at x k⟩
      · by_cases z2 : b = Pt
        · subst z2
          rw [hH1P] at e; cases e
          exact Heap.get?_push_of_some _ htb
        · rw [oth b z2 z] at e
          refine (I.hok b o e).stay (fun d u hd q => Heap.get?_push_of_some _ (hx d u ?_ q)) (fun d q => sx _ _ rfl q) fun d xs q => sx _ _ rfl q
          rcases hd with hd | hd
          · exact fun y => z2 (hd.symm.trans y)
          · exact fun y => by rw [y, hPt] at hd; cases hd
    refine h _ c' ctv _ _ (I.un un hok) hsz ?_ (Heap.get?_push_size _ rfl) upd_same sx mr (fun t ht => ?_) fun F sF nF b u e => ?_
    · rw [oth _ (Nat.ne_of_gt (Nat.lt_of_lt_of_le hPs hsz)) (Nat.ne_of_gt hlt)]
      exact I.hok.fresh hsz
    · by_cases z : t = (Pt, lpos, lq)
      · subst z
        refine ⟨_, hH1P, ?_, .inr ⟨c', ?_, upd_same⟩⟩
        · rw [Array.toList_append]
          exact TriplesOk_snoc _ _ _ _ htr
        · rw [Array.toList_append]
          exact codeAmong_snoc _ htr hcs
      · have z1 : t.1 ≠ Pt := fun y => z (Tbl.ap t ht _ hL y)
        obtain ⟨ps2, e2, o2, q2⟩ := ti t ht
        refine ⟨ps2, by rw [oth _ z1 (nC _ _ e2)]; exact e2, o2, ?_⟩
        rcases q2 with q2 | ⟨d, q3, q4⟩
        · exact .inl q2
        · exact .inr ⟨d, q3, sx _ _ rfl q4⟩
    · exact sx b u (by
        cases u with
        | tbl ps => exact absurd e (nF b ps)
        | _ => rfl) (sF b u e)
  · refine PySem.W.kla_makeFunctionHit hcl I.ok.glob hg hcode (hhd.keeps I.bk) hP htr hcs hb fun ctv h' tk hk hsz => ?_
    exact h _ c' ctv H _ (I.kept fun b u e => Heap.get?_push_of_some _ (hk b u e)) hsz (I.hok.fresh hsz) (Heap.get?_push_size _ rfl) hc' (fun _ _ _ e => e) (fun _ n => n) ti fun F sF _ => sF
end
end R
end
section
set_option Elab.async false
set_option linter.all false
set_option maxRecDepth 100000
set_option maxHeartbeats 4000000
namespace R
open PySem PySem.Spec PyProof.Rows L2
variable [Tbl]
/-! ### a call with a lambda as its last argument -/
def only2 (base : Heap) (a cc : Addr) : Hp := fun b => if (base.get? b).isSome = true ∨ b = a ∨ b = cc then none else some (.own 0)
def baseB (h base : Heap) (a cc : Addr) : Heap := hidT h (only2 base a cc)
theorem baseB_get {h base : Heap} {a cc b : Addr} {o : Obj} (e : h.get? b = some o) (k : (base.get? b).isSome = true ∨ b = a ∨ b = cc) : (baseB h base a cc).get? b = some o :=
  hidT_get e (by unfold only2; rw [if_pos k])
theorem of_baseB {h base : Heap} {a cc b : Addr} {o : Obj} (e : (baseB h base a cc).get? b = some o) : h.get? b = some o ∧ ((base.get? b).isSome = true ∨ b = a ∨ b = cc) := by
  obtain ⟨e1, e2⟩ := of_hidT e
  refine ⟨e1, ?_⟩
  unfold only2 at e2
  split at e2
  · rename_i k; exact k
  · cases e2
theorem baseB_none {h base : Heap} {a cc b : Addr} (h1 : base.get? b = none) (h2 : b ≠ a) (h3 : b ≠ cc) : (baseB h base a cc).get? b = none := by
  cases e : (baseB h base a cc).get? b with
  | none => rfl
  | some o =>
    rcases (of_baseB e).2 with k | k | k
    · rw [h1] at k; cases k
    · exact absurd k h2
    · exact absurd k h3
theorem funs_B {h base : Heap} {a cc : Addr} : ∀ {l : List Env}, h.FunFrames base l → (∀ b ∈ frs l, b ≠ a ∧ b ≠ cc) → h.FunFrames (baseB h base a cc) l
  | [], _, _ => trivial
  | env :: rest, ⟨h1, ⟨L, o, e1, e2, e3, e4⟩, h3⟩, k => by
    have hm : L ∈ frs (env :: rest) := List.mem_filterMap.mpr ⟨env, List.mem_cons_self, e1⟩
    refine ⟨h1, ⟨L, o, e1, baseB_none e2 (k L hm).1 (k L hm).2, e3, e4⟩, funs_B h3 fun b hb => k b ?_⟩
    obtain ⟨en, h1, h2⟩ := List.mem_filterMap.mp hb
    exact List.mem_filterMap.mpr ⟨en, List.mem_cons_of_mem _ h1, h2⟩
section
variable {X : Cx} {pins : List (Addr × Obj)} {σ : St} {H H0 : Hp} {s s0 : Shared}
theorem env0B {a cc : Addr} {y : Str} {oa : Obj} {u : Option Value} (I0 : Inv X pins σ H0 s0) (I : Inv X pins σ H s) (hge : s0.heap.objs.size ≤ a) (ha : s.heap.get? a = some oa) (hn : H a = none) (hy : X.env.cells.lookup y = some cc) (hf : X.fn y = true) (hc : s.heap.IsCell cc u) :
    Env0 X.prog X.w X.K X.mg (baseB s.heap X.base a cc) X.A X.stack s H := by
  have kb : ∀ b o, X.base.get? b = some o → (baseB s.heap X.base a cc).get? b = some o := fun b o e => baseB_get (I.bk b o e) (.inl (by rw [e]; rfl))
  have hM : Mod X.K X.mg (baseB s.heap X.base a cc) := ⟨I.mod.kin.keeps kb, I.mod.glob.keeps kb, let ⟨mb, h1, h2⟩ := I.mod.blt; ⟨mb, h1.keeps kb, h2⟩, I.mod.nolimit.keeps kb⟩
  refine ⟨I.ok.frames, hM, fun b o e => ?_, by unfold baseB; rw [hidT_size]; exact Nat.le_refl _, funs_B I.stack fun b hb => ⟨?_, ?_⟩, I.stkFree, I.hok, I.bare⟩
  · obtain ⟨e1, k⟩ := of_baseB e
    refine ⟨e1, ?_⟩
    rcases k with k | k | k
    · obtain ⟨o', e'⟩ := Option.isSome_iff_exists.mp k
      exact (I.bs b o' e').2
    · rw [k]; exact hn
    · rw [k]; exact I.freeC y cc hy
  · obtain ⟨_, o, ho, _⟩ := I0.stack.mem hb
    exact Nat.ne_of_lt (Nat.lt_of_lt_of_le (Heap.lt_size ho) hge)
  · rcases List.mem_cons.mp (I.stkSub b hb) with z | z
    · intro z2
      obtain ⟨m, ⟨o, es, ep, e, hd, _⟩, _⟩ := I.loc
      obtain ⟨oc, eo, hcd⟩ := hc
      rw [← z2, z, e] at eo
      cases eo
      rw [hd] at hcd; cases hcd
    · obtain ⟨_, o, ho, _⟩ := I.ok.funs.mem z
      exact Nat.ne_of_lt (Nat.lt_of_lt_of_le (Heap.lt_size ho) (I.ok.cab y cc hf hy))
end
def capI (j : Nat) (ρ : Rho) : Res Int := match ρ[j]? with
  | some (.val (.int i)) => .ok i
  | _ => .bad
def onlyB : D → Res D
  | .bl b => .ok (.bl b)
  | _ => .bad
/-- f(e1, e2, lambda ..): the captured name is the j-th, M i what f makes of two values when the lambda keeps i -/
def mLam (f1 f2 : ME) (j : Nat) (M : Int → List D → Res D) : ME := fun ρ => (f1 ρ).bind fun d1 => (f2 ρ).bind fun d2 => (capI j ρ).bind fun i => (M i [d1, d2]).bind onlyB
section
variable {X : Cx}
theorem ie_callLam {n kr j : Nat} {f c Pt : Addr} {fd : FuncData} {ps : List Str} {x px y lq : Str} {e1 e2 lbody : Expr} {lps : Arguments} {lsc : Scope} {p lpos pos : Pos} {f1 f2 : ME} {g : ME} {M : (List D → Res D) → List D → Res D}
    (hrow : ∀ (base' : Heap) (v : V) (cl : List (Addr × HO)) (m : List D → Res D), Clb X.prog X.w X.K X.mg base' (n + 1) v cl m → FnOk X.prog X.w X.K X.mg base' CX0 kr f fd ps (spH X.K v cl (M m)))
    (hr : Room kr X.A) (hg : Gl X x) (hm : X.mg x = some (.ref f)) (hk : PySem.W.keepIn X.K (.ref f) = true) (hb : Binds X.K fd ps []) (hdb : (x == ("__debug__" : Str)) = false)
    (hn : noStar [e1, e2, .Lambda lps lbody lsc lpos] = true) (he1 : IE X e1 f1) (he2 : IE X e2 f2)
    (hN : X.N[j]? = some y) (hyc : X.env.scope.names.lookup y = some .cell) (hfn : X.fn y = true)
    (hL : (Pt, lpos, lq) ∈ Tbl.L) (hcode : X.env.code = .ref c) (hhd : X.K.In X.base → PySem.W.CodeHd X.base c Pt) (hq : X.env.qual ++ "<lambda>" = lq) (hbl : X.K.In X.base → X.base.BuiltinsAt X.mg Pt) (hdef : defaultsOf lps X.env = ([], []))
    (hclos : ∀ cells : List (Str × Addr), clOf lsc.names cells [] = [(y, (cells.lookup y).getD 0)]) (hfr : ∀ z ∈ lsc.names, z.2 = .free → z.1 = y)
    (S : LScope px y lsc) (hbi : ∀ (clos : List (Str × Addr)) (pm cd ct : Value) (us : List Value), us.length = 1 → bindArgs (PySem.W.kla_fn "<lambda>" lq lps lbody lsc clos pm cd ct) ⟨us, []⟩ = pure ([px].zip us))
    (hbody : ∀ (base' : Heap) (a : Addr) (cd : Value) (clos : List (Str × Addr)) (A : Around) (outer : List Env) (s : Shared) (H : Hp), Room n (A.deeper (PySem.W.envX lq lsc s.heap.objs.size a cd clos)) → IE (lamCx X.prog X.w X.K X.mg base' [px, y] lq lsc a cd clos A outer s H) lbody g) :
    IE X (.Call (.Name x p) [e1, e2, .Lambda lps lbody lsc lpos] [] pos) (mLam f1 f2 j fun i => M (runL i g)) := by
  intro pins s σ H Q I ⟨ρ, F, E, q⟩
  unfold mLam at q
  cases h1 : f1 ρ with
  | ex _ => rw [h1] at q; exact q.elim
  | bad => rw [h1] at q; exact q.elim
  | ok d1 =>
  cases h2 : f2 ρ with
  | ex _ => rw [h1] at q; simp only [Res.bind, h2] at q; exact q.elim
  | bad => rw [h1] at q; simp only [Res.bind, h2] at q; exact q.elim
  | ok d2 =>
  cases h3 : capI j ρ with
  | ex _ => rw [h1] at q; simp only [Res.bind, h2, h3] at q; exact q.elim
  | bad => rw [h1] at q; simp only [Res.bind, h2, h3] at q; exact q.elim
  | ok i =>
  have q0 : Post (Dat X.K) F H ((M (runL i g) [d1, d2]).bind onlyB) Q := by
    rw [h1] at q; simp only [Res.bind, h2, h3] at q; exact q
  obtain ⟨bb, hbb⟩ : ∃ bb, M (runL i g) [d1, d2] = .ok (.bl bb) := by
    cases h4 : M (runL i g) [d1, d2] with
    | ex _ => rw [h4] at q0; exact q0.elim
    | bad => rw [h4] at q0; exact q0.elim
    | ok d =>
      cases d with
      | bl bb => exact ⟨bb, rfl⟩
      | _ => rw [h4] at q0; exact q0.elim
  have q1 : Post (Dat X.K) F H (.ok (.bl bb)) Q := by rw [hbb] at q0; exact q0
  have hs : isStar e1 = false ∧ isStar e2 = false := by
    simp only [noStar, List.all_cons, Bool.and_eq_true] at hn
    exact ⟨by simpa using hn.1, by simpa using hn.2.1⟩
  have hρj : ρ[j]? = some (.val (.int i)) := by
    unfold capI at h3
    split at h3
    · rename_i k hk'; cases h3; exact hk'
    · cases h3
  refine wpAny_Call_Name_kw (ld_glob I hg hm ?_ hdb)
  refine PySem.W.callWith_K (h₀ := X.base) I.ok.mod.kin hk ?_ (star_cons hs.1) (star_any (by simp only [noStar, List.all_cons, Bool.and_eq_true] at hn ⊢; exact hn.2))
  rw [star_cons hs.1, star_cons hs.2, star_cons (e := .Lambda lps lbody lsc lpos) rfl]
  refine Calls.spliced_cons (thn (he1 pins s σ H (fun v1 H1 => ∃ F1, Grow F H F1 H1 ∧ Dat X.K F1 d1 v1) I ⟨ρ, F, E, by rw [h1]; exact fun b F' H' g r => ⟨F', g, r⟩⟩) fun u1 s1 ⟨v1, H1, I1, r1, F1, g1, dd1⟩ => ?_)
  refine Calls.spliced_cons (thn (he2 pins s1 σ H1 (fun v2 H2 => ∃ F2, Grow F1 H1 F2 H2 ∧ Dat X.K F2 d2 v2) I1 ⟨ρ, F1, E.grow g1, by rw [h2]; exact fun b F' H' g r => ⟨F', g, r⟩⟩) fun u2 s2 ⟨v2, H2, I2, r2, F2, g2, dd2⟩ => ?_)
  have E2 := (E.grow g1).grow g2
  obtain ⟨o, eσ, vj, rfl, dj⟩ := E2.at_ j _ hρj
  simp only [Dat] at dj
  subst dj
  obtain ⟨m2, hns2, hl2⟩ := I2.loc
  obtain ⟨uj, ⟨tj, rfl⟩, lk⟩ := hl2 j y _ hN eσ (.inr (.inl hyc))
  have hkd : X.env.kindOf y = some .cell := hyc
  obtain ⟨cc, hcc, hcell⟩ : ∃ cc, X.env.cells.lookup y = some cc ∧ s2.heap.IsCell cc (some (.int i tj)) := by
    rcases lk with ⟨z, _⟩ | ⟨_, cc, h1, h2⟩
    · rw [hkd] at z; cases z
    · exact ⟨cc, h1, h2⟩
  have hcl : closureFor lsc X.env = pure [(y, cc)] := by
    rw [clos_eq fun z hz hzf => ⟨cc, by rw [hfr z hz hzf]; exact hcc⟩, hclos, hcc]; rfl
  refine Calls.spliced_cons (lam_made I2 E2.tb.1 hL hcode (hhd I.ok.mod.kin) hq (hbl I.ok.mod.kin) hdef hcl fun a c' ctv H3 s3 I3 hge ha hobj hc' sx mr ti3 sF => ?_)
  refine Calls.spliced_nil ⟨I3.kIn, ?_⟩
  obtain ⟨tk, hcell3⟩ : ∃ tk, s3.heap.IsCell cc (some (.int i tk)) := by
    obtain ⟨_, hns3, hl3⟩ := I3.loc
    obtain ⟨uk, ⟨tk, rfl⟩, lk3⟩ := hl3 j y _ hN eσ (.inr (.inl hyc))
    rcases lk3 with ⟨z, _⟩ | ⟨_, cc', z1, z2⟩
    · rw [hkd] at z; cases z
    · rw [hcc] at z1; cases z1; exact ⟨tk, z2⟩
  have e0 := env0B I2 I3 hge hobj ha hcc hfn hcell3
  have hao : (baseB s3.heap X.base a cc).get? a = some (PySem.W.kla_obj "<lambda>" lq lps lbody lsc [(y, cc)] ((X.mg "__name__").getD .none) c' ctv) := baseB_get hobj (.inr (.inl rfl))
  have hcB : (baseB s3.heap X.base a cc).IsCell cc (some (.int i tk)) := let ⟨oc, e, d⟩ := hcell3; ⟨oc, baseB_get e (.inr (.inr rfl)), d⟩
  have lam := lam_ok (n := n) (P := X.prog) (w := X.w) (K := X.K) (mg := X.mg) hao hcB S fun A outer s H hr => hbody _ a (.ref c') [(y, cc)] A outer s H hr
  have clb : Clb X.prog X.w X.K X.mg (baseB s3.heap X.base a cc) (n + 1) (.ref a) (crOf c' lq) (runL i g) := ⟨⟨a, _, [px], _, rfl, hao, rfl, lam, Binds.all fun us hl => hbi _ _ _ _ us hl⟩⟩
  have FN := hrow _ (.ref a) (crOf c' lq) (runL i g) clb
  have sF2 := sF F2 E2.sub E2.tb.2
  have sF23 : Same F2 (upd F2 c' (.ext fun h => h.CodeRec (.ref c') lq)) := fun b u e => by
    by_cases z : b = c'
    · subst z
      have := sF2 _ _ e
      rw [hc'] at this
      rw [upd_same]; exact this
    · rw [upd_ne z]; exact e
  have sF3 : Same (upd F2 c' (.ext fun h => h.CodeRec (.ref c') lq)) H3 := fun b u e => by
    by_cases z : b = c'
    · subst z; rw [upd_same] at e; cases e; exact hc'
    · rw [upd_ne z] at e; exact sF2 b u e
  have t3 : TbF (upd F2 c' (.ext fun h => h.CodeRec (.ref c') lq)) H3 := ⟨ti3, E2.tb.2.upd c' rfl⟩
  have dl : DatL X.K (upd F2 c' (.ext fun h => h.CodeRec (.ref c') lq)) [d1, d2] [v1, v2] := DatL.cons ((dd1.mono g2.fs).mono sF23) (DatL.cons (dd2.mono sF23) DatL.nil)
  have sp : spH X.K (.ref a) (crOf c' lq) (M (runL i g)) [v1, v2, .ref a] H3 (fun v H' => ∃ F4, Grow (upd F2 c' (.ext fun h => h.CodeRec (.ref c') lq)) H3 F4 H' ∧ Dat X.K F4 (.bl bb) v) E0 := by
    refine ⟨_, [d1, d2], [v1, v2], rfl, t3, sF3, fun p hp => ?_, dl, ?_⟩
    · obtain rfl : p = (c', .ext fun h => h.CodeRec (.ref c') lq) := by simpa using hp
      exact upd_same
    · rw [hbb]; exact fun v F' H' g r => ⟨F', g, r⟩
  have r3 : Vals [v1, v2, .ref a] [u1, u2, .ref a] := .cons r1 (.cons r2 (.cons rfl .nil))
  have hl : ([u1, u2, .ref a] ++ ([] : List Value)).length = ps.length := FN.len _ _ _ _ sp
  refine wpAny_call (codeAny_mono (FN.run X.A X.stack s3 H3 ⟨[u1, u2, .ref a], []⟩ [u1, u2, .ref a] [v1, v2, .ref a] _ E0 hr e0 (hb s3 [u1, u2, .ref a] I3.kIn hl) r3 sp) fun r s' hq => ?_)
  cases r with
  | error e => exact pass0 pins σ H3 s3 e s' I3 hq
  | ok fl =>
    cases fl with
    | next => exact False.elim hq
    | brk => exact False.elim hq
    | cont => exact False.elim hq
    | ret u =>
      obtain ⟨v, H', J, rv, F4, g4, dv⟩ := I3.after hq
      simp only [Dat] at dv
      subst dv
      refine ⟨_, H', J, rv, q1 _ F2 H' ((g1.trans g2).trans ⟨fun b u n e => g4.same b u n (sx b u n e), fun b n => g4.more b (mr b n), fun t => ⟨(g4.tk t3).1, t.2⟩, Same.refl _, sF23.trans (g4.fs.trans g4.sub), fun _ h _ => h⟩) (by simp only [Dat])⟩
end
/-- where a lambda's code lies -/
structure LamAt (K : PySem.W.Frag) (mg : Str → Option Value) (fd : FuncData) (lpos : Pos) (lq : Str) : Prop where
  ex : ∃ c Pt, fd.code = .ref c ∧ (Pt, lpos, lq) ∈ Tbl.L ∧ ∀ base : Heap, K.In base → PySem.W.CodeHd base c Pt ∧ base.BuiltinsAt mg Pt
theorem def_okC {P : Program} {w : World} {K : PySem.W.Frag} {mg : Str → Option Value} {base : Heap} {x qual : Str} {st : Stmt} {f : Addr} {fd : FuncData} {N ps : List Str} {k : Nat} {g : MS} (F : Fun K x qual st f fd) (S : FnScope N ps (defScope st))
    (hbody : ∀ (cdv : Value) (A : Around) (outer : List Env) (s : Shared) (H : Hp) (E : XK), fd.code = cdv → Room k (A.deeper (envOfC qual (defScope st) s.heap.objs.size f cdv)) →
      ISs (cxOf CX0 P w K mg base N qual (defScope st) f cdv A outer s H E).nox (defBody st) g) : FnOk P w K mg base CX0 (k + 1) f fd ps (spD K (runD ps.length N.length g)) := by
  obtain ⟨oc, od, kV, doc, pm, an, cd, ct, osl, rfl, lk, hcd⟩ := F.ex
  refine ⟨fun vs H Q E h => ?_, fun A outer s H args us vs Q E hr e0 hb r hsp => ?_⟩
  · obtain ⟨F, ds, _, _, r, q⟩ := h
    unfold runD at q
    split at q
    · rename_i e; rw [← r.length]; exact e
    · exact q.elim
  · have key : FnOk P w K mg base CX0 (k + 1) f (PySem.W.fnOf x qual (defArgs st) (defBody st) (defScope st) .none kV doc pm an cd ct) ps (spD K (runD ps.length N.length g)) := by
      refine fn_of lk hcd S (fun vs H Q E h => ?_) fun A outer s H vs Q E hr hsp => ?_
      · obtain ⟨F, ds, _, _, r, q⟩ := h
        unfold runD at q
        split at q
        · rename_i e; rw [← r.length]; exact e
        · exact q.elim
      · obtain ⟨F, ds, ti, s', r, q⟩ := hsp
        refine ⟨_, (hbody cd A outer s H E rfl hr F H).nox, rho0 N.length ds, F, ⟨.refl s', env0 ti s' r, fun i es a e => ?_⟩, ?_⟩
        · exfalso
          unfold rho0 at e
          have hm := List.mem_of_getElem? e
          rcases List.mem_append.mp hm with h | h
          · obtain ⟨d, _, h⟩ := List.mem_map.mp h; cases h
          · have := List.eq_of_mem_replicate h; cases this
        · unfold runD at q
          split at q
          · revert q
            cases g (rho0 N.length ds) with
            | ok fl =>
              intro q
              cases fl with
              | nx ρ => exact fun σ F' H' S' => q .non F' H' S'.gr (by simp only [Dat])
              | rt d => exact fun v F' H' g' r' => q v F' H' g' r'
              | bk ρ => exact q.elim
              | ct ρ => exact q.elim
            | ex _ => exact fun q => q
            | bad => exact fun q => q
          · exact q.elim
    exact key.run A outer s H args us vs Q E hr e0 hb r hsp
/-- what is_row_of makes of a function -/
def allM (m : List D → Res D) : List D → Res D
  | [] => .ok (.bl true)
  | x :: r => (m [x]).bind fun d => (dTru d).bind fun b => if b = true then allM m r else .ok (.bl false)
def rowP (m : List D → Res D) : List D → Res D
  | [.tup xs, .int most] => if most < (xs.length : Int) then .ok (.bl false) else allM m xs
  | [.tup _, _] => .bad
  | [_, .int _] => .ok (.bl false)
  | _ => .bad
end R
end
section
set_option Elab.async false
set_option linter.all false
set_option maxRecDepth 100000
set_option maxHeartbeats 4000000
namespace R
open PySem PySem.Spec PyProof.Rows L2
variable [Tbl]
/-! ### the law's start: the script, and the tables that may grow, are tracked -/
def isT (b : Addr) : Bool := Tbl.L.any fun t => t.1 == b
theorem isT_of {t : Addr × Pos × Str} (h : t ∈ Tbl.L) : isT t.1 = true := List.any_eq_true.mpr ⟨t, h, beq_self_eq_true _⟩
theorem of_isT {b : Addr} (h : isT b = true) : ∃ t ∈ Tbl.L, t.1 = b := by
  obtain ⟨t, h1, h2⟩ := List.any_eq_true.mp h
  exact ⟨t, h1, eq_of_beq h2⟩
theorem law_callT {P : Program} {w : World} {K : PySem.W.Frag} {mg mb : Str → Option Value} {k : Nat} {fa a : Addr} {fd : FuncData} {x : Str} {s₁ : Shared} {vs : List Value} {ns : List Int}
    (KX : K.In s₁.heap) (hns : s₁.heap.Ns mainGlobals mg) (hb : s₁.heap.Ns builtinsNs mb) (hbb : ∀ x : Str, x ≠ "__name__" → mb x = bootBuiltins x) (hlim : s₁.heap.NoLimit) (hg : s₁.gens = #[])
    (hT : ∀ t ∈ Tbl.L, (∃ c, s₁.heap.TableAt c t.1 #[]) ∧ K.lookup t.1 = none)
    (ha : s₁.heap.get? a = some { cls := .type "list", data := .seq vs.toArray }) (hi : IntsAre vs ns) (hl : ns.length ≤ 63) (hr : Room k callerA)
    (F : ∀ base : Heap, K.In base → base.Ns mainGlobals mg → FnOk P w K mg base CX0 k fa fd [x] (spLaw K)) (hbind : ∀ (s : Shared) (u : Value), BindsTo s fd ⟨[u], []⟩ [(x, u)]) :
    codeAny (model P w) callerA (.call (.ref fa) ⟨[.ref a], []⟩) (fun r s' => r = .ok (.ret (.bool true)) ∧ OldK s₁.heap s'.heap ∧ s'.os = s₁.os ∧ AllBare s'.gens) s₁ := by
  have rv := vals_ints hi
  have lenV := hi.length
  have hl' : ns.length ≤ sizeLine := Nat.le_of_lt (small1000 (by omega))
  have tab : ∀ b, isT b = true → s₁.heap.get? b = some (PySem.W.tabObj #[]) ∧ K.lookup b = none ∧ ∃ c, s₁.heap.TableAt c b #[] := fun b h => by
    obtain ⟨t, h1, rfl⟩ := of_isT h
    obtain ⟨⟨c, h2⟩, h3⟩ := hT t h1
    exact ⟨h2.2, h3, c, h2⟩
  have core : ∀ F₀ : Hp, (∀ b, F₀ b = none ∨ (b = a ∧ K.lookup a = none ∧ F₀ b = some (.frz { cls := .type "list", data := .seq vs.toArray } (.lst (ns.map V.int))))) → SqL K F₀ a (ns.map V.int) →
      codeAny (model P w) callerA (.call (.ref fa) ⟨[.ref a], []⟩) (fun r s' => r = .ok (.ret (.bool true)) ∧ OldK s₁.heap s'.heap ∧ s'.os = s₁.os ∧ AllBare s'.gens) s₁ := by
    intro F₀ hF hS
    have naT : isT a = false := by
      cases z : isT a with
      | false => rfl
      | true => have := (tab a z).1; rw [ha] at this; cases this
    let H : Hp := fun b => if isT b = true then some (.tbl #[]) else F₀ b
    have HT : ∀ b, isT b = true → H b = some (.tbl #[]) := fun b h => if_pos h
    have HF : ∀ b, isT b = false → H b = F₀ b := fun b h => if_neg (by rw [h]; exact Bool.false_ne_true)
    have hsub : Same F₀ H := fun b u e => by
      rcases hF b with z | ⟨z, _, z2⟩
      · rw [z] at e; cases e
      · subst z; rw [HF _ naT]; exact e
    have hcase : ∀ b u, H b = some u → (isT b = true ∧ u = .tbl #[]) ∨ (b = a ∧ K.lookup a = none ∧ isT b = false ∧ u = .frz { cls := .type "list", data := .seq vs.toArray } (.lst (ns.map V.int))) := fun b u e => by
      cases z : isT b with
      | true => rw [HT b z] at e; cases e; exact .inl ⟨rfl, rfl⟩
      | false =>
        rw [HF b z] at e
        rcases hF b with y | ⟨y1, y2, y3⟩
        · rw [y] at e; cases e
        · rw [y3] at e; cases e; exact .inr ⟨y1, y2, rfl, rfl⟩
    have hok : HOk P w H s₁.heap := fun b u e => by
      rcases hcase b u e with ⟨z, rfl⟩ | ⟨rfl, _, _, rfl⟩
      · exact (tab b z).1
      · exact ⟨ha, by rw [List.length_map]; exact hl', vs, _, rv, ha⟩
    have tbf : TbF F₀ H := by
      refine ⟨fun t ht => ⟨#[], HT _ (isT_of ht), trivial, .inl rfl⟩, fun b ps e => ?_⟩
      rcases hF b with z | ⟨_, _, z⟩
      · rw [z] at e; cases e
      · rw [z] at e; cases e
    have base_of : ∀ {b : Addr} {o : Obj}, s₁.heap.get? b = some o → H b = none → (hidT s₁.heap H).get? b = some o := fun e n => hidT_get e n
    have noA : ∀ {b : Addr} {o : Obj} {es : Array DictEntry} {ep : Nat}, s₁.heap.get? b = some o → o.data = .dict es ep → H b = none := fun {b o es ep} e d => by
      cases q : H b with
      | none => rfl
      | some u =>
        rcases hcase b u q with ⟨z, _⟩ | ⟨z, _, _, _⟩
        · rw [(tab b z).1] at e; cases e; cases d
        · subst z; rw [ha] at e; cases e; cases d
    have nsK : ∀ {b : Addr} {m : Str → Option Value}, s₁.heap.Ns b m → (hidT s₁.heap H).Ns b m := fun {b m} ⟨o, es, ep, e, d, r⟩ => ⟨o, es, ep, base_of e (noA e d), d, r⟩
    have hKb : K.In (hidT s₁.heap H) := fun b o e => base_of (KX b o e) (by
      cases q : H b with
      | none => rfl
      | some u =>
        rcases hcase b u q with ⟨z, _⟩ | ⟨z, z2, _, _⟩
        · rw [(tab b z).2.1] at e; cases e
        · subst z; rw [z2] at e; cases e)
    have hM : Mod K mg (hidT s₁.heap H) := ⟨hKb, nsK hns, ⟨mb, nsK hb, hbb⟩, let ⟨mc, h1, h2⟩ := hlim; ⟨mc, nsK h1, h2⟩⟩
    have e0 : Env0 P w K mg (hidT s₁.heap H) callerA [] s₁ H := ⟨rfl, hM, fun b o e => of_hidT e, Nat.le_of_eq (hidT_size _ _), trivial, fun b hb => absurd (show b ∈ ([] : List Addr) from hb) (by simp), hok, .of_eq hg⟩
    refine codeAny_mono ((F _ hKb (nsK hns)).run callerA [] s₁ H ⟨[.ref a], []⟩ [.ref a] [.ref a] (fun v _ => v = .bl true) (fun _ _ _ => False) hr e0 (hbind s₁ (.ref a)) (.cons rfl .nil) ⟨a, ns, F₀, rfl, tbf, hsub, hS, hl, fun _ => rfl⟩) fun r s' h => ?_
    cases r with
    | error e => exact (show False from h).elim
    | ok fl =>
      cases fl with
      | next => exact False.elim h
      | brk => exact False.elim h
      | cont => exact False.elim h
      | ret u =>
        obtain ⟨v, H', os, bare, un, hok', r', q⟩ := h
        have q' : v = .bl true := q
        subst q'
        obtain rfl : u = Value.bool true := r'
        have nofr : ∀ b : Addr, b ∉ frs [] := fun b z => absurd (show b ∈ ([] : List Addr) from z) (by simp)
        have tabN : ∀ b, isT b = true → ∃ more, s'.heap.get? b = some (PySem.W.tabObj (#[] ++ more)) := fun b z => by
          obtain ⟨more, e⟩ := un.tbls b _ (HT b z)
          exact ⟨more, hok' b _ e⟩
        have scr : ∀ b o, s₁.heap.get? b = some o → isT b = false → s'.heap.get? b = some o := fun b o e z => by
          cases q : H b with
          | none => exact un.keep b o e q (nofr b) (by simp)
          | some u =>
            rcases hcase b u q with ⟨z2, _⟩ | ⟨_, _, _, rfl⟩
            · rw [z] at z2; cases z2
            · obtain ⟨e1, _⟩ := hok b _ q
              obtain ⟨e2, _⟩ := hok' b _ (un.frzs b _ _ q)
              rw [e] at e1; cases e1
              exact e2
        refine ⟨rfl, ⟨fun b o e => ?_, fun b o e => ?_⟩, os, bare⟩
        · cases z : isT b with
          | false => exact .inl (scr b o e z)
          | true =>
            obtain ⟨more, e2⟩ := tabN b z
            have e1 := (tab b z).1
            rw [e] at e1
            cases e1
            obtain ⟨c, tc⟩ := (tab b z).2.2
            exact .inr (.inl ⟨tc.isCodeTable, rfl, #[], more, rfl, e2⟩)
        · cases z : isT b with
          | false => exact ⟨o, scr b o e z⟩
          | true => obtain ⟨more, e2⟩ := tabN b z; exact ⟨_, e2⟩
  cases hk : K.lookup a with
  | some o =>
    have e := KX a o hk
    rw [ha] at e
    cases e
    exact core (fun _ => none) (fun _ => .inl rfl) (.inr ⟨_, vs.toArray, _, hk, rfl, rfl, rfl, by rw [List.size_toArray, lenV]; exact hl', by simpa using rv⟩)
  | none =>
    refine core (fun b => if b = a then some (.frz { cls := .type "list", data := .seq vs.toArray } (.lst (ns.map V.int))) else none) (fun b => ?_) (.inl (.inr ⟨{ cls := .type "list", data := .seq vs.toArray }, if_pos rfl⟩))
    by_cases hb : b = a
    · exact .inr ⟨hb, hk, if_pos hb⟩
    · exact .inl (if_neg hb)
end R
namespace R
open PySem PySem.Spec PyProof.Rows L2
theorem walk_ofT {l : PySem.W.OpenLaw} {k : Nat} {q : Program} {loose : List Str} {XP : (Str → Option Value) → Heap → Prop} {YP : World → Heap → Prop} {d : DefRec} {K : Params → PySem.W.Frag} {x : Str}
    (hn : l.most = some 63) (hdf : d.params.defaults = []) (hr : Room k callerA) (hY : ∀ (w : World) (h : Heap), YP w h → (K w.params).In h)
    (F : ∀ (w : World) (mg : Str → Option Value) (fa : Addr) (h : Heap), (K w.params).In h → h.Ns mainGlobals mg → mg d.name = some (.ref fa) →
      (∃ bm ob, mg "__builtins__" = some (.ref bm) ∧ bm ≠ builtinsNs ∧ h.get? bm = some ob ∧ ob.cls = .type "module" ∧ ob.dict = some builtinsNs ∧ ob.data = .plain) →
      ∃ (T : Tbl) (K' : PySem.W.Frag) (fd : FuncData), K'.In h ∧ (∀ t ∈ T.L, (∃ c, h.TableAt c t.1 #[]) ∧ K'.lookup t.1 = none) ∧ (∀ (s : Shared) (u : Value), BindsTo s fd ⟨[u], []⟩ [(x, u)]) ∧
        ∀ base : Heap, K'.In base → base.Ns mainGlobals mg → FnOk l.prog w K' mg base CX0 k fa fd [x] (spLaw K')) :
    PySem.W.WalkO q loose XP YP l.row.toRowW d [] (fun f vs => PySem.call f vs) := by
  refine Att.attach_call hn hdf fun w s₀ s₁ mg mb fa o pm cd doc a vs ns G Y ho hd hcd hmg hobj hints hlen hg => ?_
  obtain ⟨T, K', fd, h1, h2, h3, h4⟩ := F w mg fa _ (hY w _ Y) G.T.g hmg G.T.bmain
  exact law_callT h1 G.T.g G.T.b G.T.builtins G.T.nolimit hg h2 hobj hints hlen hr h4 h3
end R
end
section
set_option Elab.async false
set_option linter.all false
set_option maxRecDepth 100000
set_option maxHeartbeats 4000000
namespace R
open PySem PySem.Spec PyProof.Rows L2
/-! ### what is known of the written part, without the tables that may grow, with one object more -/
def isTb (Ps : List Addr) (b : Addr) : Bool := Ps.any fun P => P == b
def Kup (K : PySem.W.Frag) (Ps : List Addr) (bm : Addr) (ob : Obj) : PySem.W.Frag := (bm, ob) :: K.filter fun p => !isTb Ps p.1
theorem lookup_filter {Ps : List Addr} {b : Addr} (hb : isTb Ps b = false) : ∀ K : PySem.W.Frag, (K.filter fun p => !isTb Ps p.1).lookup b = K.lookup b
  | [] => rfl
  | (a, o) :: r => by
    rw [List.filter_cons]
    by_cases z : b = a
    · subst z
      simp only [hb, Bool.not_false, if_true, List.lookup_cons, beq_self_eq_true]
    · have e : (b == a) = false := beq_eq_false_iff_ne.mpr z
      split
      · rw [List.lookup_cons, List.lookup_cons, e, lookup_filter hb r]
      · rw [List.lookup_cons, e, lookup_filter hb r]
theorem lookup_filter_none {Ps : List Addr} {b : Addr} (hb : isTb Ps b = true) : ∀ K : PySem.W.Frag, (K.filter fun p => !isTb Ps p.1).lookup b = none
  | [] => rfl
  | (a, o) :: r => by
    rw [List.filter_cons]
    split
    · rename_i h
      have z : (b == a) = false := by
        refine beq_eq_false_iff_ne.mpr fun e => ?_
        subst e
        rw [hb] at h; cases h
      rw [List.lookup_cons, z]
      exact lookup_filter_none hb r
    · exact lookup_filter_none hb r
section
variable {K : PySem.W.Frag} {Ps : List Addr} {bm : Addr} {ob : Obj} {h : Heap}
structure Ups (K : PySem.W.Frag) (Ps : List Addr) (bm : Addr) (ob : Obj) (h : Heap) : Prop where
  hk : K.In h
  hb : h.get? bm = some ob
  hp : ob.data = .plain
  ht : ∀ P ∈ Ps, h.get? P = some (PySem.W.tabObj #[])
theorem mem_isTb {b : Addr} (h : isTb Ps b = true) : b ∈ Ps := by
  obtain ⟨P, h1, h2⟩ := List.any_eq_true.mp h
  rw [← eq_of_beq h2]; exact h1
theorem isTb_mem {b : Addr} (h : b ∈ Ps) : isTb Ps b = true := List.any_eq_true.mpr ⟨b, h, beq_self_eq_true _⟩
theorem Ups.ne (U : Ups K Ps bm ob h) {P : Addr} (hP : P ∈ Ps) : bm ≠ P := fun z => by
  have e := U.ht P hP
  rw [← z, U.hb] at e
  have e2 : ob = PySem.W.tabObj #[] := Option.some.inj e
  have e3 := U.hp
  rw [e2] at e3; cases e3
theorem Ups.isIn (U : Ups K Ps bm ob h) : (Kup K Ps bm ob).In h := fun a o e => by
  unfold Kup at e
  rw [List.lookup_cons] at e
  split at e
  · rename_i z
    rw [eq_of_beq z, U.hb]; exact e
  · cases q : isTb Ps a with
    | true => rw [lookup_filter_none q] at e; cases e
    | false => rw [lookup_filter q] at e; exact U.hk _ _ e
theorem Ups.no (U : Ups K Ps bm ob h) {P : Addr} (hP : P ∈ Ps) : (Kup K Ps bm ob).lookup P = none := by
  unfold Kup
  rw [List.lookup_cons, beq_eq_false_iff_ne.mpr (U.ne hP).symm]
  exact lookup_filter_none (isTb_mem hP) K
theorem Ups.at' (U : Ups K Ps bm ob h) : (Kup K Ps bm ob).lookup bm = some ob := by
  unfold Kup
  rw [List.lookup_cons, beq_self_eq_true]
theorem Ups.up (U : Ups K Ps bm ob h) {b : Addr} {o : Obj} (e : K.lookup b = some o) (n : o.data ≠ .fields #[]) : (Kup K Ps bm ob).lookup b = some o := by
  have hn : isTb Ps b = false := by
    cases z : isTb Ps b with
    | false => rfl
    | true => have e2 := U.hk _ _ e; rw [U.ht b (mem_isTb z)] at e2; cases e2; exact absurd rfl n
  unfold Kup
  rw [List.lookup_cons]
  split
  · rename_i z
    have hbb : b = bm := eq_of_beq z
    subst hbb
    rw [← U.hb, U.hk _ _ e]
  · rw [lookup_filter hn]; exact e
theorem Ups.code (U : Ups K Ps bm ob h) {cd : Value} {q : Str} (e : PySem.W.codeIn K cd q = true) : PySem.W.codeIn (Kup K Ps bm ob) cd q = true := by
  unfold PySem.W.codeIn at e ⊢
  split at e
  · rename_i c
    split at e
    · rename_i vs _ ho
      have hne : vs ≠ #[] := fun z => by subst z; cases e
      have e2 := U.up ho (fun z => hne (by injection z))
      simp only [e2]
      exact e
    · cases e
  · cases e
theorem Ups.fn (U : Ups K Ps bm ob h) {x qual : Str} {st : Stmt} {f : Addr} {fd : FuncData} (F : Fun K x qual st f fd) : Fun (Kup K Ps bm ob) x qual st f fd := by
  obtain ⟨oc, od, kV, doc, pm, an, cdv, ct, osl, e1, e2, e3⟩ := F.ex
  have e4 := U.up e2 (fun z => by cases z)
  refine ⟨⟨oc, od, kV, doc, pm, an, cdv, ct, osl, e1, e4, U.code e3⟩, ?_⟩
  unfold PySem.W.keepIn
  simp only [e4]
theorem Ups.hd (U : Ups K Ps bm ob h) {c P : Addr} {oc : Value} {od : Option Addr} {vs : Array Value} {sl : Array (Option Value)} {file : Str} {tf : Tok} {flags : Int} {tg : Tok} {inF : Bool} {text : Int} {tt : Tok} (hP : P ∈ Ps) (lc : K.lookup c = some ⟨.type "code", od, .fields vs, sl⟩)
    (q11 : vs[11]? = some (.ref P)) (q18 : vs.getD 18 .none = .str file tf) (q7 : vs.getD 7 .none = .int flags tg) (q9 : vs.getD 9 .none = .bool inF) (q10 : vs.getD 10 .none = .int text tt) {base : Heap} (hb : (Kup K Ps bm ob).In base) : PySem.W.CodeHd base c P := by
  have hne : vs ≠ #[] := fun z => by subst z; cases q11
  refine ⟨_, vs, file, tf, flags, tg, inF, text, tt, hb _ _ (U.up lc fun z => hne (by injection z)), rfl, rfl, q11, ?_, q18, q7, q9, q10, fun z => ?_⟩
  · rw [Array.getD_eq_getD_getElem?, q11]; rfl
  · subst z; have e2 := U.hk _ _ lc; rw [U.ht _ hP] at e2; cases e2
end
theorem walk_ofU {l : PySem.W.OpenLaw} {k : Nat} {q : Program} {loose : List Str} {XP : (Str → Option Value) → Heap → Prop} {YP : World → Heap → Prop} {d : DefRec} {K : Params → PySem.W.Frag} {x : Str} {ts : List Addr}
    (hn : l.most = some 63) (hdf : d.params.defaults = []) (hr : Room k callerA) (hY : ∀ (w : World) (h : Heap), YP w h → (K w.params).In h) (hZ : ∀ (w : World) (h : Heap), YP w h → ∀ P ∈ ts, h.get? P = some (PySem.W.tabObj #[]))
    (F : ∀ (w : World) (mg : Str → Option Value) (fa : Addr) (h : Heap), (K w.params).In h → h.Ns mainGlobals mg → mg d.name = some (.ref fa) → (∀ P ∈ ts, h.get? P = some (PySem.W.tabObj #[])) →
      (∃ bm ob, mg "__builtins__" = some (.ref bm) ∧ bm ≠ builtinsNs ∧ h.get? bm = some ob ∧ ob.cls = .type "module" ∧ ob.dict = some builtinsNs ∧ ob.data = .plain) →
      ∃ (T : Tbl) (K' : PySem.W.Frag) (fd : FuncData), K'.In h ∧ (∀ t ∈ T.L, (∃ c, h.TableAt c t.1 #[]) ∧ K'.lookup t.1 = none) ∧ (∀ (s : Shared) (u : Value), BindsTo s fd ⟨[u], []⟩ [(x, u)]) ∧
        ∀ base : Heap, K'.In base → base.Ns mainGlobals mg → FnOk l.prog w K' mg base CX0 k fa fd [x] (spLaw K')) :
    PySem.W.WalkO q loose XP YP l.row.toRowW d [] (fun f vs => PySem.call f vs) := by
  refine Att.attach_call hn hdf fun w s₀ s₁ mg mb fa o pm cd doc a vs ns G Y ho hd hcd hmg hobj hints hlen hg => ?_
  obtain ⟨T, K', fd, h1, h2, h3, h4⟩ := F w mg fa _ (hY w _ Y) G.T.g hmg (hZ w _ Y) G.T.bmain
  exact law_callT h1 G.T.g G.T.b G.T.builtins G.T.nolimit hg h2 hobj hints hlen hr h4 h3
end R
end
section
set_option Elab.async false
set_option linter.all false
set_option maxRecDepth 100000
set_option maxHeartbeats 4000000
namespace Jm
open PySem PySem.Spec PyProof.Rows L2 R
variable [Tbl]
def top (i : Nat) : Stmt := PySem.Challenge.pw_joinmill_k02_expressions.main.body.getD i (.Pass ⟨0, 0, 0, 0⟩)
abbrev s0 : Stmt := top 7
abbrev N0 : List Str := ["thing"]
abbrev s1 : Stmt := top 8
abbrev N1 : List Str := ["thing"]
abbrev s2 : Stmt := top 9
abbrev N2 : List Str := ["thing"]
abbrev s3 : Stmt := top 10
abbrev N3 : List Str := ["thing", "length"]
abbrev s4 : Stmt := top 11
abbrev N4 : List Str := ["thing", "most", "holds", "item"]
abbrev s5 : Stmt := top 12
abbrev N5 : List Str := ["thing"]
abbrev s6 : Stmt := top 13
abbrev N6 : List Str := ["thing"]
abbrev s7 : Stmt := top 14
abbrev N7 : List Str := ["thing", "around", "word"]
abbrev s8 : Stmt := top 15
abbrev N8 : List Str := ["thing", "around"]
abbrev s9 : Stmt := top 17
abbrev N9 : List Str := ["_law_script", "_law_k"]
abbrev s10 : Stmt := top 18
abbrev N10 : List Str := ["_law_script", "_law_k", "_law_drawn_here"]
abbrev s11 : Stmt := top 19
abbrev N11 : List Str := ["_law_number", "_law_k", "_law_drawn_here"]
abbrev s12 : Stmt := top 20
abbrev N12 : List Str := ["_law_number", "_law_letters", "_law_found", "_law_k"]
abbrev s13 : Stmt := top 21
abbrev N13 : List Str := ["_law_number", "_law_k", "_law_letters"]
abbrev s14 : Stmt := top 22
abbrev N14 : List Str := ["_law_number"]
abbrev s15 : Stmt := top 23
abbrev N15 : List Str := ["_law_number", "_law_names", "_law_deeds", "_law_deep", "_law_kind", "_law_name_here", "_law_count", "_law_parts_here", "_law_left", "_law_right"]
abbrev s16 : Stmt := top 24
abbrev N16 : List Str := ["_law_thing", "_law_some"]
abbrev s17 : Stmt := top 25
abbrev N17 : List Str := ["_law_thing"]
abbrev s18 : Stmt := top 26
abbrev N18 : List Str := ["_law_thing", "_law_size"]
abbrev s19 : Stmt := top 27
abbrev N19 : List Str := ["_law_thing", "_law_deep"]
abbrev s20 : Stmt := top 28
abbrev N20 : List Str := ["_law_thing", "_law_deep"]
abbrev s21 : Stmt := top 29
abbrev N21 : List Str := ["_law_number", "_law_some"]
abbrev s22 : Stmt := top 30
abbrev N22 : List Str := ["_law_thing", "_law_number", "_law_deep", "_law_at", "_law_part"]
abbrev s23 : Stmt := top 31
abbrev N23 : List Str := ["_law_found", "_law_due"]
abbrev s24 : Stmt := top 32
abbrev N24 : List Str := ["_law_script", "_law_stem_here", "_law_names", "_law_deeds", "_law_thing", "_law_k"]
def gd_GREATEST_NUMBER : D := .int 999999
def gt_KEPT_WORDS : List Str := ["face", "unit", "take", "from", "word", "deed", "with", "own", "do", "done", "let", "be", "if", "then", "else", "while", "give", "tell", "get", "new", "hand", "to", "await", "call", "and", "end"]
def gd_KEPT_WORDS : D := .tup (gt_KEPT_WORDS.map .str)
def gd_MOST_AROUND : D := .int 12
def gd_MOST_LETTERS : D := .int 8
def gd_MOST_PARTS : D := .int 4
def gt_SIGNS : List Str := ["+", "-", "*", "<", "="]
def gd_SIGNS : D := .tup (gt_SIGNS.map .str)
abbrev CT := Nat → List D → Res D
/-- is_whole -/
def B0 (C C' : CT) : MS := sRet (vAnd (m1 (dIsi "int") (gv 0)) (vNot (m1 (dIsi "bool") (gv 0))))
/-- is_number -/
def B1 (C C' : CT) : MS := sRet (vAnd (mA (C 0) (aCons (gv 0) (aNil))) (mCh dLe dLe (m1 dNeg (kc gd_GREATEST_NUMBER)) (gv 0) (kc gd_GREATEST_NUMBER)))
/-- is_name -/
def B2 (C C' : CT) : MS := sSeq (sIf (bOr (bNot (mT (m1 (dIsi "str") (gv 0)))) (bNot (mB (mCh dLe dLe (kc (.int 1)) (mA dLen (aCons (gv 0) (aNil))) (kc gd_MOST_LETTERS))))) (sRet (kc (.bl false))) (sNext)) (sRet (vAnd (mA dAll (aCons (mComp [] (mItems (gv 0)) (fun _ => .ok true) (mCh dLe dLe (kc (.str "a")) (gv 0) (kc (.str "z")))) (aNil))) (m2 (dIn true) (gv 0) (kc gd_KEPT_WORDS))))
/-- is_row -/
def B3 (C C' : CT) : MS := sRet (vAnd (m1 (dIsi "tuple") (gv 0)) (m2 dEq (mA dLen (aCons (gv 0) (aNil))) (gv 1)))
/-- is_row_of -/
noncomputable def B4 (C : CT) (v : V) (cl : List (Addr × HO)) (m : List D → Res D) : MS := sSeq (sIf (bOr (bNot (mT (m1 (dIsi "tuple") (gv 0)))) (mB (m2 dGt (mA dLen (aCons (gv 0) (aNil))) (gv 1)))) (sRet (kc (.bl false))) (sNext)) (sSeq (sForI 3 (mItems (gv 0)) (sIf (bNot (mT (mIs 2 v cl m (aCons (gv 3) (aNil))))) (sRet (kc (.bl false))) (sNext))) (sRet (kc (.bl true))))
/-- first_word -/
def B5 (C C' : CT) : MS := sSeq (sIf (bAnd (mT (m1 (dIsi "tuple") (gv 0))) (bAnd (mB (m2 dGt (mA dLen (aCons (gv 0) (aNil))) (kc (.int 0)))) (mT (m1 (dIsi "str") (m2 dIx (gv 0) (kc (.int 0))))))) (sRet (m2 dIx (gv 0) (kc (.int 0)))) (sNext)) (sRet (kc (.str "")))
/-- is_expression -/
def B6 (C C' : CT) : MS := sRet (mA (C 7) (aCons (gv 0) (aCons (kc (.int 0)) (aNil))))
/-- is_expression_within -/
def B7 (C C' : CT) : MS := sSeq (sSet 2 (mA (C 5) (aCons (gv 0) (aNil)))) (sSeq (sIf (mB (m2 dGt (gv 1) (kc gd_MOST_AROUND))) (sRet (kc (.bl false))) (sNext)) (sSeq (sIf (mB (m2 dEq (gv 2) (kc (.str "number")))) (sRet (vAnd (mA (C 3) (aCons (gv 0) (aCons (kc (.int 2)) (aNil)))) (mA (C 1) (aCons (m2 dIx (gv 0) (kc (.int 1))) (aNil))))) (sNext)) (sSeq (sIf (mB (m2 dEq (gv 2) (kc (.str "name")))) (sRet (vAnd (mA (C 3) (aCons (gv 0) (aCons (kc (.int 2)) (aNil)))) (mA (C 2) (aCons (m2 dIx (gv 0) (kc (.int 1))) (aNil))))) (sNext)) (sSeq (sIf (mB (m2 dEq (gv 2) (kc (.str "call")))) (sRet (vAnd (mA (C 3) (aCons (gv 0) (aCons (kc (.int 3)) (aNil)))) (vAnd (mA (C 2) (aCons (m2 dIx (gv 0) (kc (.int 1))) (aNil))) (mA (C 8) (aCons (m2 dIx (gv 0) (kc (.int 2))) (aCons (m2 dAdd (gv 1) (kc (.int 1))) (aNil))))))) (sNext)) (sSeq (sIf (bOr (mB (m2 (dIn true) (gv 2) (kc gd_SIGNS))) (bNot (mT (mA (C 3) (aCons (gv 0) (aCons (kc (.int 3)) (aNil))))))) (sRet (kc (.bl false))) (sNext)) (sRet (vAnd (mA (C 7) (aCons (m2 dIx (gv 0) (kc (.int 1))) (aCons (m2 dAdd (gv 1) (kc (.int 1))) (aNil)))) (mA (C 7) (aCons (m2 dIx (gv 0) (kc (.int 2))) (aCons (m2 dAdd (gv 1) (kc (.int 1))) (aNil)))))))))))
/-- are_parts_within -/
def B8 (C C' : CT) : MS := sRet (mLam (gv 0) (kc gd_MOST_PARTS) 1 fun i => rowP (runL i (mA (C' 7) (aCons (gv 0) (aCons (gv 1) (aNil))))))
/-- _law_cell_at -/
def B9 (C C' : CT) : MS := sSeq (sIf (mB (m2 dLt (gv 1) (mA dLen (aCons (gv 0) (aNil))))) (sRet (m2 dIx (gv 0) (gv 1))) (sNext)) (sRet (kc (.int 0)))
/-- _law_mixed -/
def B10 (C C' : CT) : MS := sSeq (sSet 2 (m2 dMod (m2 dMul (m2 dAdd (m2 dAdd (mA (C 9) (aCons (gv 0) (aCons (gv 1) (aNil)))) (m2 dMul (kc (.int 7919)) (gv 1))) (kc (.int 1))) (kc (.int 48271))) (kc (.int 2147483647)))) (sRet (m2 dMod (m2 dAdd (m2 dAdd (m2 dMul (gv 2) (gv 2)) (m2 dMul (kc (.int 7)) (gv 2))) (gv 1)) (kc (.int 2147483629))))
/-- _law_drawn -/
def B11 (C C' : CT) : MS := sSeq (sSet 2 (m2 dMod (m2 dMul (m2 dAdd (m2 dAdd (gv 0) (m2 dMul (kc (.int 104729)) (gv 1))) (kc (.int 17))) (kc (.int 69621))) (kc (.int 2147483647)))) (sRet (m2 dMod (m2 dAdd (m2 dAdd (m2 dMul (gv 2) (gv 2)) (m2 dMul (kc (.int 3)) (gv 2))) (gv 1)) (kc (.int 2147483629))))
/-- _law_stem -/
def B12 (C C' : CT) : MS := sSeq (sSet 1 (kc (.str "abcdefghijklmnopqrstuvwxyz"))) (sSeq (sSet 2 (kc (.str ""))) (sSeq (sForI 3 (mRange (m2 dMod (gv 0) (kc (.int 7)))) (sSet 2 (m2 dAdd (gv 2) (m2 dIx (gv 1) (m2 dMod (m2 dFdiv (gv 0) (m2 dAdd (kc (.int 7)) (m2 dMul (kc (.int 26)) (gv 3)))) (kc (.int 26))))))) (sRet (gv 2))))
/-- _law_name -/
def B13 (C C' : CT) : MS := sSeq (sSet 2 (kc (.str "abcdefghijklmnopqrstuvwxyz"))) (sRet (m2 dAdd (m2 dAdd (mA (C 12) (aCons (gv 0) (aNil))) (m2 dIx (gv 2) (m2 dMod (gv 1) (kc (.int 26))))) (m2 dMul (kc (.str "z")) (mA dInt (aCons (m2 dGt (m2 dMod (gv 0) (kc (.int 7))) (kc (.int 0))) (aNil))))))
/-- _law_value -/
def B14 (C C' : CT) : MS := sSeq (sIf (mB (m2 dEq (m2 dMod (gv 0) (kc (.int 9))) (kc (.int 4)))) (sRet (m2 dSub (m2 dMod (m2 dFdiv (gv 0) (kc (.int 9))) (kc (.int 1999999))) (kc (.int 999999)))) (sNext)) (sRet (m2 dSub (m2 dMod (m2 dFdiv (gv 0) (kc (.int 9))) (kc (.int 14))) (kc (.int 4))))
/-- _law_expression -/
def B15 (C C' : CT) : MS := sSeq (sSet 4 (m2 dMod (gv 0) (kc (.int 9)))) (sSeq (sIf (bOr (mB (m2 dEq (gv 3) (kc (.int 0)))) (mB (m2 dLt (gv 4) (kc (.int 2))))) (sRet (mA dTup (aCons (kc (.str "number")) (aCons (mA (C 14) (aCons (m2 dFdiv (gv 0) (kc (.int 9))) (aNil))) (aNil))))) (sNext)) (sSeq (sIf (mB (m2 dLt (gv 4) (kc (.int 5)))) (sRet (mA dTup (aCons (kc (.str "name")) (aCons (m2 dIx (gv 1) (m2 dMod (m2 dFdiv (gv 0) (kc (.int 9))) (mA dLen (aCons (gv 1) (aNil))))) (aNil))))) (sNext)) (sSeq (sIf (bAnd (mB (m2 dEq (gv 4) (kc (.int 5)))) (mB (m2 dGt (mA dLen (aCons (gv 2) (aNil))) (kc (.int 0))))) (sSeq (sSet2 5 6 (m2 dIx (gv 2) (m2 dMod (m2 dFdiv (gv 0) (kc (.int 9))) (mA dLen (aCons (gv 2) (aNil)))))) (sSeq (sSetComp 7 [1, 2, 0, 3] (mRange (gv 6)) (fun _ => .ok true) (mA (C 15) (aCons (mA (C 11) (aCons (gv 3) (aCons (gv 0) (aNil)))) (aCons (gv 1) (aCons (gv 2) (aCons (m2 dSub (gv 4) (kc (.int 1))) (aNil))))))) (sRet (mA dTup (aCons (kc (.str "call")) (aCons (gv 5) (aCons (mA dTuple (aCons (gv 7) (aNil))) (aNil)))))))) (sNext)) (sSeq (sSet 8 (mA (C 15) (aCons (mA (C 11) (aCons (gv 0) (aCons (kc (.int 5)) (aNil)))) (aCons (gv 1) (aCons (gv 2) (aCons (m2 dSub (gv 3) (kc (.int 1))) (aNil))))))) (sSeq (sSet 9 (mA (C 15) (aCons (mA (C 11) (aCons (gv 0) (aCons (kc (.int 6)) (aNil)))) (aCons (gv 1) (aCons (gv 2) (aCons (m2 dSub (gv 3) (kc (.int 1))) (aNil))))))) (sRet (mA dTup (aCons (m2 dIx (kc (.str "+-*<=")) (m2 dMod (m2 dFdiv (gv 0) (kc (.int 9))) (kc (.int 5)))) (aCons (gv 8) (aCons (gv 9) (aNil)))))))))))
/-- _law_is_name -/
def B16 (C C' : CT) : MS := sSeq (sIf (bOr (bNot (mT (m1 (dIsi "str") (gv 0)))) (bOr (mB (m2 dEq (gv 0) (kc (.str "")))) (mB (m2 dGt (mA dLen (aCons (gv 0) (aNil))) (kc (.int 8)))))) (sRet (kc (.bl false))) (sNext)) (sSeq (sSet 1 (kc (.str "face unit take from word deed with own do done let be if then else while give tell get new hand to"))) (sSeq (sIf (mB (m2 (dIn false) (gv 0) (mMe dSplit (m2 dAdd (gv 1) (kc (.str " await call and end"))) (aCons (kc (.str " ")) (aNil))))) (sRet (kc (.bl false))) (sNext)) (sRet (m2 dEq (mComp [] (mItems (gv 0)) (mB (m2 dLt (mMe dFind (kc (.str "abcdefghijklmnopqrstuvwxyz")) (aCons (gv 0) (aNil))) (kc (.int 0)))) (gv 0)) (mA dLst (aNil))))))
/-- _law_is_number -/
def B17 (C C' : CT) : MS := sRet (vAnd (m1 (dIsi "int") (gv 0)) (vAnd (vNot (m1 (dIsi "bool") (gv 0))) (m2 dLt (mA dAbs (aCons (gv 0) (aNil))) (m2 dPow (kc (.int 10)) (kc (.int 6))))))
/-- _law_sized -/
def B18 (C C' : CT) : MS := sRet (vAnd (m1 (dIsi "tuple") (gv 0)) (m2 dEq (mA dLen (aCons (gv 0) (aNil))) (gv 1)))
/-- _law_parts -/
def B19 (C C' : CT) : MS := sRet (vAnd (m1 (dIsi "tuple") (gv 0)) (vAnd (m2 dLt (mA dLen (aCons (gv 0) (aNil))) (kc (.int 5))) (m2 dEq (mComp [1] (mItems (gv 0)) (bNot (mT (mA (C 20) (aCons (gv 0) (aCons (gv 1) (aNil)))))) (gv 0)) (mA dLst (aNil)))))
/-- _law_is_expression -/
def B20 (C C' : CT) : MS := sSeq (sIf (bOr (mB (m2 dGt (gv 1) (kc (.int 12)))) (bOr (bNot (mT (m1 (dIsi "tuple") (gv 0)))) (bOr (mB (m2 dEq (mA dLen (aCons (gv 0) (aNil))) (kc (.int 0)))) (bNot (mT (m1 (dIsi "str") (m2 dIx (gv 0) (kc (.int 0))))))))) (sRet (kc (.bl false))) (sNext)) (sSeq (sIf (mB (m2 dEq (m2 dIx (gv 0) (kc (.int 0))) (kc (.str "number")))) (sRet (vAnd (m2 dEq (mA dLen (aCons (gv 0) (aNil))) (kc (.int 2))) (mA (C 17) (aCons (m2 dIx (gv 0) (kc (.int 1))) (aNil))))) (sNext)) (sSeq (sIf (mB (m2 dEq (m2 dIx (gv 0) (kc (.int 0))) (kc (.str "name")))) (sRet (vAnd (m2 dEq (mA dLen (aCons (gv 0) (aNil))) (kc (.int 2))) (mA (C 16) (aCons (m2 dIx (gv 0) (kc (.int 1))) (aNil))))) (sNext)) (sSeq (sIf (mB (m2 dEq (m2 dIx (gv 0) (kc (.int 0))) (kc (.str "call")))) (sRet (vAnd (m2 dEq (mA dLen (aCons (gv 0) (aNil))) (kc (.int 3))) (vAnd (mA (C 16) (aCons (m2 dIx (gv 0) (kc (.int 1))) (aNil))) (mA (C 19) (aCons (m2 dIx (gv 0) (kc (.int 2))) (aCons (m2 dAdd (gv 1) (kc (.int 1))) (aNil))))))) (sNext)) (sSeq (sIf (bOr (mB (m2 dNeq (mA dLen (aCons (gv 0) (aNil))) (kc (.int 3)))) (bOr (mB (m2 dNeq (mA dLen (aCons (m2 dIx (gv 0) (kc (.int 0))) (aNil))) (kc (.int 1)))) (mB (m2 dLt (mMe dFind (kc (.str "+-*<=")) (aCons (m2 dIx (gv 0) (kc (.int 0))) (aNil))) (kc (.int 0)))))) (sRet (kc (.bl false))) (sNext)) (sRet (vAnd (mA (C 20) (aCons (m2 dIx (gv 0) (kc (.int 1))) (aCons (m2 dAdd (gv 1) (kc (.int 1))) (aNil)))) (mA (C 20) (aCons (m2 dIx (gv 0) (kc (.int 2))) (aCons (m2 dAdd (gv 1) (kc (.int 1))) (aNil))))))))))
/-- _law_odd -/
def B21 (C C' : CT) : MS := sSeq (sSet 1 (mA dLst (aCons (m1 dNeg (kc (.int 1))) (aCons (kc (.int 0)) (aCons (kc (.int 1)) (aCons (kc (.int 4)) (aCons (kc (.int 5)) (aCons (m2 dPow (kc (.int 10)) (kc (.int 6))) (aCons (m1 dNeg (m2 dPow (kc (.int 10)) (kc (.int 6)))) (aCons (kc (.bl true)) (aCons (kc (.bl false)) (aCons (kc .non) (aCons (kc (.str "")) (aCons (kc (.str "a")) (aCons (kc (.str "A")) (aCons (kc (.str "end")) (aCons (kc (.str "abcdefghi")) (aCons (kc (.str "a b")) (aNil))))))))))))))))))) (sSeq (sSet 1 (m2 dAdd (gv 1) (mA dLst (aCons (mA dTup (aNil)) (aCons (mA dLst (aNil)) (aCons (mA dTup (aCons (kc (.str "a")) (aNil))) (aCons (mA dTup (aCons (kc (.str "number")) (aCons (kc (.int 1)) (aNil)))) (aCons (mA dTup (aCons (kc (.str "name")) (aCons (kc (.str "a")) (aNil)))) (aCons (mA dTup (aCons (kc (.str "get")) (aCons (kc (.str "a")) (aNil)))) (aCons (mA dTup (aCons (kc (.str "deed")) (aCons (kc (.str "a")) (aNil)))) (aCons (kc (.str "number")) (aCons (kc (.str "ab1")) (aNil))))))))))))) (sRet (m2 dIx (gv 1) (m2 dMod (gv 0) (kc (.int 25))))))
/-- _law_spoilt -/
def B22 (C C' : CT) : MS := sSeq (sIf (bAnd (mB (m2 dGt (gv 2) (kc (.int 0)))) (bAnd (mT (m1 (dIsi "tuple") (gv 0))) (bAnd (mB (m2 dGt (mA dLen (aCons (gv 0) (aNil))) (kc (.int 0)))) (mB (m2 dGt (m2 dMod (gv 1) (kc (.int 6))) (kc (.int 0))))))) (sSeq (sSet 3 (m2 dMod (m2 dFdiv (gv 1) (kc (.int 6))) (mA dLen (aCons (gv 0) (aNil))))) (sSeq (sSet 4 (mA (C 22) (aCons (m2 dIx (gv 0) (gv 3)) (aCons (m2 dFdiv (m2 dFdiv (gv 1) (kc (.int 6))) (mA dLen (aCons (gv 0) (aNil)))) (aCons (m2 dSub (gv 2) (kc (.int 1))) (aNil)))))) (sRet (m2 dAdd (m2 dAdd (mSl (gv 0) (oNone) (oSome (gv 3))) (mA dTup (aCons (gv 4) (aNil)))) (mSl (gv 0) (oSome (m2 dAdd (gv 3) (kc (.int 1)))) (oNone)))))) (sNext)) (sSeq (sIf (bAnd (mT (m1 (dIsi "tuple") (gv 0))) (bAnd (mB (m2 dGt (mA dLen (aCons (gv 0) (aNil))) (kc (.int 0)))) (mB (m2 dEq (m2 dMod (m2 dFdiv (gv 1) (kc (.int 6))) (kc (.int 2))) (kc (.int 0)))))) (sRet (m2 dIx (mA dLst (aCons (mA dList (aCons (gv 0) (aNil))) (aCons (mSl (gv 0) (oNone) (oSome (m1 dNeg (kc (.int 1))))) (aCons (m2 dAdd (gv 0) (mSl (gv 0) (oSome (m1 dNeg (kc (.int 1)))) (oNone))) (aCons (mSl (gv 0) (oSome (kc (.int 1))) (oNone)) (aCons (m2 dRev (gv 0) (m1 dNeg (kc (.int 1)))) (aCons (m2 dMul (gv 0) (kc (.int 3))) (aNil)))))))) (m2 dMod (m2 dFdiv (gv 1) (kc (.int 12))) (kc (.int 6))))) (sNext)) (sSeq (sIf (bAnd (mT (m1 (dIsi "int") (gv 0))) (mB (m2 dEq (m2 dMod (m2 dFdiv (gv 1) (kc (.int 6))) (kc (.int 2))) (kc (.int 0))))) (sRet (m2 dIx (mA dLst (aCons (mA dStr (aCons (gv 0) (aNil))) (aCons (m1 dNeg (gv 0)) (aCons (m2 dMul (gv 0) (kc (.int 1001))) (aCons (m2 dEq (gv 0) (kc (.int 1))) (aCons (m2 dAdd (gv 0) (kc (.int 1))) (aNil))))))) (m2 dMod (m2 dFdiv (gv 1) (kc (.int 12))) (kc (.int 5))))) (sNext)) (sSeq (sIf (bAnd (mT (m1 (dIsi "str") (gv 0))) (mB (m2 dEq (m2 dMod (m2 dFdiv (gv 1) (kc (.int 6))) (kc (.int 2))) (kc (.int 0))))) (sRet (m2 dIx (mA dLst (aCons (m2 dAdd (gv 0) (kc (.str "a"))) (aCons (mSl (gv 0) (oNone) (oSome (m1 dNeg (kc (.int 1))))) (aCons (mMe0 dUpper (gv 0)) (aCons (m2 dAdd (gv 0) (kc (.str " "))) (aCons (kc (.str "do")) (aCons (m2 dMul (gv 0) (kc (.int 2))) (aCons (m2 dRev (gv 0) (m1 dNeg (kc (.int 1)))) (aNil))))))))) (m2 dMod (m2 dFdiv (gv 1) (kc (.int 12))) (kc (.int 7))))) (sNext)) (sRet (mA (C 21) (aCons (m2 dFdiv (gv 1) (kc (.int 6))) (aNil)))))))
/-- _law_same -/
def B23 (C C' : CT) : MS := sRet (vAnd (m1 (dIsi "bool") (gv 0)) (m2 dEq (gv 0) (gv 1)))
/-- law -/
def B24 (C C' : CT) : MS := sSeq (sSet 1 (mA (C 10) (aCons (gv 0) (aCons (kc (.int 0)) (aNil))))) (sSeq (sSetComp 2 [1] (mRange (m2 dAdd (kc (.int 1)) (m2 dMod (m2 dFdiv (gv 1) (kc (.int 7))) (kc (.int 5))))) (fun _ => .ok true) (mA (C 13) (aCons (gv 1) (aCons (gv 0) (aNil))))) (sSeq (sSetComp 3 [1, 0] (mRange (kc (.int 4))) (fun _ => .ok true) (mA dTup (aCons (mA (C 13) (aCons (gv 1) (aCons (m2 dAdd (kc (.int 10)) (gv 0)) (aNil)))) (aCons (m2 dMod (mA (C 10) (aCons (gv 2) (aCons (m2 dAdd (kc (.int 1)) (gv 0)) (aNil)))) (kc (.int 5))) (aNil))))) (sSeq (sSet 4 (mA (C 15) (aCons (mA (C 10) (aCons (gv 0) (aCons (kc (.int 5)) (aNil)))) (aCons (gv 2) (aCons (gv 3) (aCons (m2 dMod (mA (C 10) (aCons (gv 0) (aCons (kc (.int 6)) (aNil)))) (kc (.int 7))) (aNil))))))) (sSeq (sIf (mB (m2 dEq (m2 dMod (m2 dFdiv (mA (C 10) (aCons (gv 0) (aCons (kc (.int 6)) (aNil)))) (kc (.int 7))) (kc (.int 8))) (kc (.int 1)))) (sForI 5 (mRange (m2 dAdd (kc (.int 5)) (m2 dMod (m2 dFdiv (mA (C 10) (aCons (gv 0) (aCons (kc (.int 6)) (aNil)))) (kc (.int 56))) (kc (.int 10))))) (sSet 4 (mA dTup (aCons (m2 dIx (kc (.str "+-*<=")) (m2 dMod (mA (C 11) (aCons (gv 1) (aCons (gv 5) (aNil)))) (kc (.int 5)))) (aCons (mA dTup (aCons (kc (.str "number")) (aCons (gv 5) (aNil)))) (aCons (gv 4) (aNil))))))) (sNext)) (sSeq (sIf (mB (m2 dEq (m2 dMod (mA (C 10) (aCons (gv 0) (aCons (kc (.int 7)) (aNil)))) (kc (.int 2))) (kc (.int 1)))) (sSet 4 (mA (C 22) (aCons (gv 4) (aCons (mA (C 10) (aCons (gv 0) (aCons (kc (.int 8)) (aNil)))) (aCons (m2 dMod (m2 dFdiv (mA (C 10) (aCons (gv 0) (aCons (kc (.int 7)) (aNil)))) (kc (.int 2))) (kc (.int 6))) (aNil)))))) (sNext)) (sRet (mA (C 23) (aCons (mA (C 6) (aCons (gv 4) (aNil))) (aCons (mA (C 20) (aCons (gv 4) (aCons (kc (.int 0)) (aNil)))) (aNil))))))))))
/-- the defs by fuel -/
def Ph : Nat → CT
  | n + 3, i, ds => match i with
    | 0 => runD 1 1 (B0 (Ph (n + 2)) (Ph n)) ds
    | 1 => runD 1 1 (B1 (Ph (n + 2)) (Ph n)) ds
    | 2 => runD 1 1 (B2 (Ph (n + 2)) (Ph n)) ds
    | 3 => runD 2 2 (B3 (Ph (n + 2)) (Ph n)) ds
    | 5 => runD 1 1 (B5 (Ph (n + 2)) (Ph n)) ds
    | 6 => runD 1 1 (B6 (Ph (n + 2)) (Ph n)) ds
    | 7 => runD 2 3 (B7 (Ph (n + 2)) (Ph n)) ds
    | 8 => runD 2 2 (B8 (Ph (n + 2)) (Ph n)) ds
    | 9 => runD 2 2 (B9 (Ph (n + 2)) (Ph n)) ds
    | 10 => runD 2 3 (B10 (Ph (n + 2)) (Ph n)) ds
    | 11 => runD 2 3 (B11 (Ph (n + 2)) (Ph n)) ds
    | 12 => runD 1 4 (B12 (Ph (n + 2)) (Ph n)) ds
    | 13 => runD 2 3 (B13 (Ph (n + 2)) (Ph n)) ds
    | 14 => runD 1 1 (B14 (Ph (n + 2)) (Ph n)) ds
    | 15 => runD 4 10 (B15 (Ph (n + 2)) (Ph n)) ds
    | 16 => runD 1 2 (B16 (Ph (n + 2)) (Ph n)) ds
    | 17 => runD 1 1 (B17 (Ph (n + 2)) (Ph n)) ds
    | 18 => runD 2 2 (B18 (Ph (n + 2)) (Ph n)) ds
    | 19 => runD 2 2 (B19 (Ph (n + 2)) (Ph n)) ds
    | 20 => runD 2 2 (B20 (Ph (n + 2)) (Ph n)) ds
    | 21 => runD 1 2 (B21 (Ph (n + 2)) (Ph n)) ds
    | 22 => runD 3 5 (B22 (Ph (n + 2)) (Ph n)) ds
    | 23 => runD 2 2 (B23 (Ph (n + 2)) (Ph n)) ds
    | 24 => runD 1 6 (B24 (Ph (n + 2)) (Ph n)) ds
    | _ => .bad
  | _, _, _ => .bad
structure Tab (P : Program) (w : World) (K : PySem.W.Frag) (mg : Str → Option Value) (base : Heap) (n : Nat) (C : CT) : Prop where
  c0 : Cal P w K mg base n "is_whole" (C 0)
  c1 : Cal P w K mg base n "is_number" (C 1)
  c2 : Cal P w K mg base n "is_name" (C 2)
  c3 : Cal P w K mg base n "is_row" (C 3)
  h4 : ∃ f fd, Fun K "is_row_of" "is_row_of" s4 f fd ∧ mg "is_row_of" = some (.ref f) ∧ Binds K fd ["thing", "most", "holds"] []
  c5 : Cal P w K mg base n "first_word" (C 5)
  c6 : Cal P w K mg base n "is_expression" (C 6)
  c7 : Cal P w K mg base n "is_expression_within" (C 7)
  c8 : Cal P w K mg base n "are_parts_within" (C 8)
  c9 : Cal P w K mg base n "_law_cell_at" (C 9)
  c10 : Cal P w K mg base n "_law_mixed" (C 10)
  c11 : Cal P w K mg base n "_law_drawn" (C 11)
  c12 : Cal P w K mg base n "_law_stem" (C 12)
  c13 : Cal P w K mg base n "_law_name" (C 13)
  c14 : Cal P w K mg base n "_law_value" (C 14)
  c15 : Cal P w K mg base n "_law_expression" (C 15)
  c16 : Cal P w K mg base n "_law_is_name" (C 16)
  c17 : Cal P w K mg base n "_law_is_number" (C 17)
  c19 : Cal P w K mg base n "_law_parts" (C 19)
  c20 : Cal P w K mg base n "_law_is_expression" (C 20)
  c21 : Cal P w K mg base n "_law_odd" (C 21)
  c22 : Cal P w K mg base n "_law_spoilt" (C 22)
  c23 : Cal P w K mg base n "_law_same" (C 23)
  c24 : Cal P w K mg base n "law" (C 24)
  b_abs : mg "abs" = none
  b_all : mg "all" = none
  b_bool : mg "bool" = none
  b_int : mg "int" = none
  b_isinstance : mg "isinstance" = none
  b_len : mg "len" = none
  b_list : mg "list" = none
  b_range : mg "range" = none
  b_str : mg "str" = none
  b_tuple : mg "tuple" = none
  gc_GREATEST_NUMBER : GConst K mg "GREATEST_NUMBER" gd_GREATEST_NUMBER
  gc_KEPT_WORDS : GConst K mg "KEPT_WORDS" gd_KEPT_WORDS
  gc_MOST_AROUND : GConst K mg "MOST_AROUND" gd_MOST_AROUND
  gc_MOST_LETTERS : GConst K mg "MOST_LETTERS" gd_MOST_LETTERS
  gc_MOST_PARTS : GConst K mg "MOST_PARTS" gd_MOST_PARTS
  gc_SIGNS : GConst K mg "SIGNS" gd_SIGNS
end Jm
end
section
set_option Elab.async false
set_option linter.all false
set_option maxRecDepth 100000
set_option maxHeartbeats 4000000
namespace Jm
open PySem PySem.Spec PyProof.Rows L2 R
variable [Tbl]
section
variable {P : Program} {w : World} {K : PySem.W.Frag} {mg : Str → Option Value} {base : Heap} {f : Addr} {fd : FuncData} {n : Nat} {C C' : CT}
theorem sc0 : FnScope N0 ["thing"] (defScope s0) := ⟨rfl, rfl, rfl, by decide +kernel, rfl, by decide +kernel, by decide +kernel⟩
theorem v0_0 : VarOk N0 (defScope s0) 0 "thing" := ⟨rfl, Or.inl (by kernel_rfl), (by kernel_rfl), (by kernel_rfl)⟩
theorem g0_bool : (defScope s0).names.lookup ("bool" : Str) = some .globalImplicit := by kernel_rfl
theorem g0_int : (defScope s0).names.lookup ("int" : Str) = some .globalImplicit := by kernel_rfl
theorem g0_isinstance : (defScope s0).names.lookup ("isinstance" : Str) = some .globalImplicit := by kernel_rfl
theorem ok0 (F : Fun K "is_whole" "is_whole" s0 f fd) (TT : Tab P w K mg base n C) : FnOk P w K mg base CX0 (n + 1) f fd ["thing"] (spD K (runD 1 1 (B0 C C'))) := by
  refine def_ok F sc0 ?_
  intro cdv A outer s H E hr
  refine iss_one ?_
  refine is_ret ?_
  refine ie_and ?_ ?_
  · refine fe_isi (known_int _) ?_ g0_isinstance TT.b_isinstance g0_int TT.b_int PyProof.Rows.boot_int ?_ ?_ ?_
    · rfl
    · kernel_rfl
    · kernel_rfl
    · exact fe_v v0_0
  · refine ie_one ?_
    refine ie_not ?_
    refine fe_isi (known_bool _) ?_ g0_isinstance TT.b_isinstance g0_bool TT.b_bool PyProof.Rows.boot_bool ?_ ?_ ?_
    · rfl
    · kernel_rfl
    · kernel_rfl
    · exact fe_v v0_0

end
end Jm
end
section
set_option Elab.async false
set_option linter.all false
set_option maxRecDepth 100000
set_option maxHeartbeats 4000000
namespace Jm
open PySem PySem.Spec PyProof.Rows L2 R
variable [Tbl]
section
variable {P : Program} {w : World} {K : PySem.W.Frag} {mg : Str → Option Value} {base : Heap} {f : Addr} {fd : FuncData} {n : Nat} {C C' : CT}
theorem sc1 : FnScope N1 ["thing"] (defScope s1) := ⟨rfl, rfl, rfl, by decide +kernel, rfl, by decide +kernel, by decide +kernel⟩
theorem v1_0 : VarOk N1 (defScope s1) 0 "thing" := ⟨rfl, Or.inl (by kernel_rfl), (by kernel_rfl), (by kernel_rfl)⟩
theorem g1_GREATEST_NUMBER : (defScope s1).names.lookup ("GREATEST_NUMBER" : Str) = some .globalImplicit := by kernel_rfl
theorem g1_is_whole : (defScope s1).names.lookup ("is_whole" : Str) = some .globalImplicit := by kernel_rfl
theorem ok1 (F : Fun K "is_number" "is_number" s1 f fd) (TT : Tab P w K mg base n C) : FnOk P w K mg base CX0 (n + 1) f fd ["thing"] (spD K (runD 1 1 (B1 C C'))) := by
  refine def_ok F sc1 ?_
  intro cdv A outer s H E hr
  refine iss_one ?_
  refine is_ret ?_
  refine ie_and ?_ ?_
  · refine fe_call TT.c0 hr g1_is_whole ?_ ?_ ?_
    · rfl
    · kernel_rfl
    · refine fa_cons ?_ ?_ ?_
      · rfl
      · exact fe_v v1_0
      · exact ia_nil
  · refine ie_one ?_
    refine ie_ch om_le om_le ?_ ?_ ?_
    · refine ie_neg ?_
      refine fe_glob g1_GREATEST_NUMBER TT.gc_GREATEST_NUMBER ?_
      kernel_rfl
    · exact fe_v v1_0
    · refine fe_glob g1_GREATEST_NUMBER TT.gc_GREATEST_NUMBER ?_
      kernel_rfl

end
end Jm
end
section
set_option Elab.async false
set_option linter.all false
set_option maxRecDepth 100000
set_option maxHeartbeats 4000000
namespace Jm
open PySem PySem.Spec PyProof.Rows L2 R
variable [Tbl]
section
variable {P : Program} {w : World} {K : PySem.W.Frag} {mg : Str → Option Value} {base : Heap} {f : Addr} {fd : FuncData} {n : Nat} {C C' : CT}
theorem sc2 : FnScope N2 ["thing"] (defScope s2) := ⟨rfl, rfl, rfl, by decide +kernel, rfl, by decide +kernel, by decide +kernel⟩
theorem v2_0 : VarOk N2 (defScope s2) 0 "thing" := ⟨rfl, Or.inl (by kernel_rfl), (by kernel_rfl), (by kernel_rfl)⟩
theorem g2_KEPT_WORDS : (defScope s2).names.lookup ("KEPT_WORDS" : Str) = some .globalImplicit := by kernel_rfl
theorem g2_MOST_LETTERS : (defScope s2).names.lookup ("MOST_LETTERS" : Str) = some .globalImplicit := by kernel_rfl
theorem g2_all : (defScope s2).names.lookup ("all" : Str) = some .globalImplicit := by kernel_rfl
theorem g2_isinstance : (defScope s2).names.lookup ("isinstance" : Str) = some .globalImplicit := by kernel_rfl
theorem g2_len : (defScope s2).names.lookup ("len" : Str) = some .globalImplicit := by kernel_rfl
theorem g2_str : (defScope s2).names.lookup ("str" : Str) = some .globalImplicit := by kernel_rfl
theorem ok2 (F : Fun K "is_name" "is_name" s2 f fd) (TT : Tab P w K mg base n C) : FnOk P w K mg base CX0 (n + 1) f fd ["thing"] (spD K (runD 1 1 (B2 C C'))) := by
  refine def_ok F sc2 ?_
  intro cdv A outer s H E hr
  refine iss_cons ?_ ?_
  · refine is_if ?_ ?_ ?_
    · refine IW.it ?_
      refine iw_or ?_ ?_
      · refine it_not ?_
        refine ft_truth ?_ ?_
        · rfl
        · refine fe_isi (known_str _) ?_ g2_isinstance TT.b_isinstance g2_str TT.b_str PyProof.Rows.boot_str ?_ ?_ ?_
          · rfl
          · kernel_rfl
          · kernel_rfl
          · exact fe_v v2_0
      · refine iw_or1 ?_
        refine it_not ?_
        refine it_ch om_le om_le ?_ ?_ ?_
        · exact ie_int
        · refine fe_callB cm_len opL_rD g2_len TT.b_len PySem.boot_len ?_ ?_ ?_ ?_
          · rfl
          · kernel_rfl
          · kernel_rfl
          · refine fa_cons ?_ ?_ ?_
            · rfl
            · exact fe_v v2_0
            · exact ia_nil
        · refine fe_glob g2_MOST_LETTERS TT.gc_MOST_LETTERS ?_
          kernel_rfl
    · refine iss_one ?_
      refine is_ret ?_
      exact ie_bl
    · exact iss_nil
  · refine iss_one ?_
    refine is_ret ?_
    refine ie_and ?_ ?_
    · refine fe_callB (cm_all rfl) opL_rD g2_all TT.b_all PyProof.Rows.boot_all ?_ ?_ ?_ ?_
      · rfl
      · kernel_rfl
      · kernel_rfl
      · refine fa_cons ?_ ?_ ?_
        · rfl
        · refine ie_comp (cscope (x := "letter") (caps := []) (js := []) (N := N2) (sc := defScope s2) rfl rfl rfl ?_ ?_ ?_ ?_ ?_ rfl ?_) rfl ?_ ?_ ?_ (fold_of ?_)
          · decide +kernel
          · decide +kernel
          · decide +kernel
          · decide +kernel
          · decide +kernel
          · decide +kernel
          · refine ii_data ?_
            exact fe_v v2_0
          · intro Cc fp ss HH EE
            exact ifs_none
          · intro Cc fp ss HH EE
            refine ie_ch om_le om_le ?_ ?_ ?_
            · refine fe_str ?_
              kernel_rfl
            · refine fe_v ⟨rfl, Or.inl ?_, ?_, ?_⟩
              · kernel_rfl
              · kernel_rfl
              · kernel_rfl
            · refine fe_str ?_
              kernel_rfl
          · rfl
        · exact ia_nil
    · refine ie_one ?_
      refine ie_cm (om_notin (room200 hr)) ?_ ?_ ?_
      · exact fe_v v2_0
      · refine fe_glob g2_KEPT_WORDS TT.gc_KEPT_WORDS ?_
        kernel_rfl
      · with_unfolding_all rfl

end
end Jm
end
section
set_option Elab.async false
set_option linter.all false
set_option maxRecDepth 100000
set_option maxHeartbeats 4000000
namespace Jm
open PySem PySem.Spec PyProof.Rows L2 R
variable [Tbl]
section
variable {P : Program} {w : World} {K : PySem.W.Frag} {mg : Str → Option Value} {base : Heap} {f : Addr} {fd : FuncData} {n : Nat} {C C' : CT}
theorem sc3 : FnScope N3 ["thing", "length"] (defScope s3) := ⟨rfl, rfl, rfl, by decide +kernel, rfl, by decide +kernel, by decide +kernel⟩
theorem v3_0 : VarOk N3 (defScope s3) 0 "thing" := ⟨rfl, Or.inl (by kernel_rfl), (by kernel_rfl), (by kernel_rfl)⟩
theorem v3_1 : VarOk N3 (defScope s3) 1 "length" := ⟨rfl, Or.inl (by kernel_rfl), (by kernel_rfl), (by kernel_rfl)⟩
theorem g3_isinstance : (defScope s3).names.lookup ("isinstance" : Str) = some .globalImplicit := by kernel_rfl
theorem g3_len : (defScope s3).names.lookup ("len" : Str) = some .globalImplicit := by kernel_rfl
theorem g3_tuple : (defScope s3).names.lookup ("tuple" : Str) = some .globalImplicit := by kernel_rfl
theorem ok3 (F : Fun K "is_row" "is_row" s3 f fd) (TT : Tab P w K mg base n C) : FnOk P w K mg base CX0 (n + 1) f fd ["thing", "length"] (spD K (runD 2 2 (B3 C C'))) := by
  refine def_ok F sc3 ?_
  intro cdv A outer s H E hr
  refine iss_one ?_
  refine is_ret ?_
  refine ie_and ?_ ?_
  · refine fe_isi (known_tuple _) ?_ g3_isinstance TT.b_isinstance g3_tuple TT.b_tuple PyProof.Rows.boot_tuple ?_ ?_ ?_
    · rfl
    · kernel_rfl
    · kernel_rfl
    · exact fe_v v3_0
  · refine ie_one ?_
    refine ie_cm (om_eq (room100 hr)) ?_ ?_ (nomark _)
    · refine fe_callB cm_len opL_rD g3_len TT.b_len PySem.boot_len ?_ ?_ ?_ ?_
      · rfl
      · kernel_rfl
      · kernel_rfl
      · refine fa_cons ?_ ?_ ?_
        · rfl
        · exact fe_v v3_0
        · exact ia_nil
    · exact fe_v v3_1

end
end Jm
end
section
set_option Elab.async false
set_option linter.all false
set_option maxRecDepth 100000
set_option maxHeartbeats 4000000
namespace Jm
open PySem PySem.Spec PyProof.Rows L2 R
variable [Tbl]
section
variable {P : Program} {w : World} {K : PySem.W.Frag} {mg : Str → Option Value} {base : Heap} {f : Addr} {fd : FuncData} {n : Nat} {C C' : CT}
theorem sc4 : FnScope N4 ["thing", "most", "holds"] (defScope s4) := ⟨rfl, rfl, rfl, by decide +kernel, rfl, by decide +kernel, by decide +kernel⟩
theorem v4_0 : VarOk N4 (defScope s4) 0 "thing" := ⟨rfl, Or.inl (by kernel_rfl), (by kernel_rfl), (by kernel_rfl)⟩
theorem v4_1 : VarOk N4 (defScope s4) 1 "most" := ⟨rfl, Or.inl (by kernel_rfl), (by kernel_rfl), (by kernel_rfl)⟩
theorem v4_2 : VarOk N4 (defScope s4) 2 "holds" := ⟨rfl, Or.inl (by kernel_rfl), (by kernel_rfl), (by kernel_rfl)⟩
theorem v4_3 : VarOk N4 (defScope s4) 3 "item" := ⟨rfl, Or.inl (by kernel_rfl), (by kernel_rfl), (by kernel_rfl)⟩
theorem g4_isinstance : (defScope s4).names.lookup ("isinstance" : Str) = some .globalImplicit := by kernel_rfl
theorem g4_len : (defScope s4).names.lookup ("len" : Str) = some .globalImplicit := by kernel_rfl
theorem g4_tuple : (defScope s4).names.lookup ("tuple" : Str) = some .globalImplicit := by kernel_rfl
theorem ok4 {n0 : Nat} {C0 : CT} {v : V} {cl : List (Addr × HO)} {m : List D → Res D} (F : Fun K "is_row_of" "is_row_of" s4 f fd) (TT : Tab P w K mg base n0 C0) (CB : Clb P w K mg base n v cl m) : FnOk P w K mg base CX0 (n + 1) f fd ["thing", "most", "holds"] (spH K v cl (runH 3 4 v cl (B4 C v cl m))) := by
  refine def_okH F sc4 (by decide) ?_
  intro cdv A outer s H E hr
  refine iss_cons ?_ ?_
  · refine is_if ?_ ?_ ?_
    · refine IW.it ?_
      refine iw_or ?_ ?_
      · refine it_not ?_
        refine ft_truth ?_ ?_
        · rfl
        · refine fe_isi (known_tuple _) ?_ g4_isinstance TT.b_isinstance g4_tuple TT.b_tuple PyProof.Rows.boot_tuple ?_ ?_ ?_
          · rfl
          · kernel_rfl
          · kernel_rfl
          · exact fe_v v4_0
      · refine iw_or1 ?_
        refine it_cm om_gt ?_ ?_ (nomark _)
        · refine fe_callB cm_len opL_rD g4_len TT.b_len PySem.boot_len ?_ ?_ ?_ ?_
          · rfl
          · kernel_rfl
          · kernel_rfl
          · refine fa_cons ?_ ?_ ?_
            · rfl
            · exact fe_v v4_0
            · exact ia_nil
        · exact fe_v v4_1
    · refine iss_one ?_
      refine is_ret ?_
      exact ie_bl
    · exact iss_nil
  · refine iss_cons ?_ ?_
    · refine is_for rfl PassesOwn.never ?_ (pg_name (i := 3) sc4.nd ?_ (Or.inl ?_) (.inl rfl)) ?_ (fold_of ?_)
      · refine ii_data ?_
        exact fe_v v4_0
      · rfl
      · kernel_rfl
      · refine iss_one ?_
        refine is_if ?_ ?_ ?_
        · refine it_not ?_
          refine ft_truth ?_ ?_
          · rfl
          · refine ie_callIs CB hr v4_2 ?_ ?_
            · rfl
            · refine fa_cons ?_ ?_ ?_
              · rfl
              · exact fe_v v4_3
              · exact ia_nil
        · refine iss_one ?_
          refine is_ret ?_
          exact ie_bl
        · exact iss_nil
      · rfl
    · refine iss_one ?_
      refine is_ret ?_
      exact ie_bl

end
end Jm
end
section
set_option Elab.async false
set_option linter.all false
set_option maxRecDepth 100000
set_option maxHeartbeats 4000000
namespace Jm
open PySem PySem.Spec PyProof.Rows L2 R
variable [Tbl]
section
variable {P : Program} {w : World} {K : PySem.W.Frag} {mg : Str → Option Value} {base : Heap} {f : Addr} {fd : FuncData} {n : Nat} {C C' : CT}
theorem sc5 : FnScope N5 ["thing"] (defScope s5) := ⟨rfl, rfl, rfl, by decide +kernel, rfl, by decide +kernel, by decide +kernel⟩
theorem v5_0 : VarOk N5 (defScope s5) 0 "thing" := ⟨rfl, Or.inl (by kernel_rfl), (by kernel_rfl), (by kernel_rfl)⟩
theorem g5_isinstance : (defScope s5).names.lookup ("isinstance" : Str) = some .globalImplicit := by kernel_rfl
theorem g5_len : (defScope s5).names.lookup ("len" : Str) = some .globalImplicit := by kernel_rfl
theorem g5_str : (defScope s5).names.lookup ("str" : Str) = some .globalImplicit := by kernel_rfl
theorem g5_tuple : (defScope s5).names.lookup ("tuple" : Str) = some .globalImplicit := by kernel_rfl
theorem ok5 (F : Fun K "first_word" "first_word" s5 f fd) (TT : Tab P w K mg base n C) : FnOk P w K mg base CX0 (n + 1) f fd ["thing"] (spD K (runD 1 1 (B5 C C'))) := by
  refine def_ok F sc5 ?_
  intro cdv A outer s H E hr
  refine iss_cons ?_ ?_
  · refine is_if ?_ ?_ ?_
    · refine IW.it ?_
      refine iw_and ?_ ?_
      · refine ft_truth ?_ ?_
        · rfl
        · refine fe_isi (known_tuple _) ?_ g5_isinstance TT.b_isinstance g5_tuple TT.b_tuple PyProof.Rows.boot_tuple ?_ ?_ ?_
          · rfl
          · kernel_rfl
          · kernel_rfl
          · exact fe_v v5_0
      · refine iw_and ?_ ?_
        · refine it_cm om_gt ?_ ?_ (nomark _)
          · refine fe_callB cm_len opL_rD g5_len TT.b_len PySem.boot_len ?_ ?_ ?_ ?_
            · rfl
            · kernel_rfl
            · kernel_rfl
            · refine fa_cons ?_ ?_ ?_
              · rfl
              · exact fe_v v5_0
              · exact ia_nil
          · exact ie_int
        · refine iw_and1 ?_
          refine ft_truth ?_ ?_
          · rfl
          · refine fe_isi (known_str _) ?_ g5_isinstance TT.b_isinstance g5_str TT.b_str PyProof.Rows.boot_str ?_ ?_ ?_
            · rfl
            · kernel_rfl
            · kernel_rfl
            · refine fe_at ?_ ?_ ?_
              · rfl
              · exact fe_v v5_0
              · exact ie_int
    · refine iss_one ?_
      refine is_ret ?_
      refine fe_at ?_ ?_ ?_
      · rfl
      · exact fe_v v5_0
      · exact ie_int
    · exact iss_nil
  · refine iss_one ?_
    refine is_ret ?_
    refine fe_str ?_
    kernel_rfl

end
end Jm
end
section
set_option Elab.async false
set_option linter.all false
set_option maxRecDepth 100000
set_option maxHeartbeats 4000000
namespace Jm
open PySem PySem.Spec PyProof.Rows L2 R
variable [Tbl]
section
variable {P : Program} {w : World} {K : PySem.W.Frag} {mg : Str → Option Value} {base : Heap} {f : Addr} {fd : FuncData} {n : Nat} {C C' : CT}
theorem sc6 : FnScope N6 ["thing"] (defScope s6) := ⟨rfl, rfl, rfl, by decide +kernel, rfl, by decide +kernel, by decide +kernel⟩
theorem v6_0 : VarOk N6 (defScope s6) 0 "thing" := ⟨rfl, Or.inl (by kernel_rfl), (by kernel_rfl), (by kernel_rfl)⟩
theorem g6_is_expression_within : (defScope s6).names.lookup ("is_expression_within" : Str) = some .globalImplicit := by kernel_rfl
theorem ok6 (F : Fun K "is_expression" "is_expression" s6 f fd) (TT : Tab P w K mg base n C) : FnOk P w K mg base CX0 (n + 1) f fd ["thing"] (spD K (runD 1 1 (B6 C C'))) := by
  refine def_ok F sc6 ?_
  intro cdv A outer s H E hr
  refine iss_one ?_
  refine is_ret ?_
  refine fe_call TT.c7 hr g6_is_expression_within ?_ ?_ ?_
  · rfl
  · kernel_rfl
  · refine fa_cons ?_ ?_ ?_
    · rfl
    · exact fe_v v6_0
    · refine fa_cons ?_ ?_ ?_
      · rfl
      · exact ie_int
      · exact ia_nil

end
end Jm
end
section
set_option Elab.async false
set_option linter.all false
set_option maxRecDepth 100000
set_option maxHeartbeats 4000000
namespace Jm
open PySem PySem.Spec PyProof.Rows L2 R
variable [Tbl]
section
variable {P : Program} {w : World} {K : PySem.W.Frag} {mg : Str → Option Value} {base : Heap} {f : Addr} {fd : FuncData} {n : Nat} {C C' : CT}
theorem sc7 : FnScope N7 ["thing", "around"] (defScope s7) := ⟨rfl, rfl, rfl, by decide +kernel, rfl, by decide +kernel, by decide +kernel⟩
theorem v7_0 : VarOk N7 (defScope s7) 0 "thing" := ⟨rfl, Or.inl (by kernel_rfl), (by kernel_rfl), (by kernel_rfl)⟩
theorem v7_1 : VarOk N7 (defScope s7) 1 "around" := ⟨rfl, Or.inl (by kernel_rfl), (by kernel_rfl), (by kernel_rfl)⟩
theorem v7_2 : VarOk N7 (defScope s7) 2 "word" := ⟨rfl, Or.inl (by kernel_rfl), (by kernel_rfl), (by kernel_rfl)⟩
theorem g7_MOST_AROUND : (defScope s7).names.lookup ("MOST_AROUND" : Str) = some .globalImplicit := by kernel_rfl
theorem g7_SIGNS : (defScope s7).names.lookup ("SIGNS" : Str) = some .globalImplicit := by kernel_rfl
theorem g7_are_parts_within : (defScope s7).names.lookup ("are_parts_within" : Str) = some .globalImplicit := by kernel_rfl
theorem g7_first_word : (defScope s7).names.lookup ("first_word" : Str) = some .globalImplicit := by kernel_rfl
theorem g7_is_expression_within : (defScope s7).names.lookup ("is_expression_within" : Str) = some .globalImplicit := by kernel_rfl
theorem g7_is_name : (defScope s7).names.lookup ("is_name" : Str) = some .globalImplicit := by kernel_rfl
theorem g7_is_number : (defScope s7).names.lookup ("is_number" : Str) = some .globalImplicit := by kernel_rfl
theorem g7_is_row : (defScope s7).names.lookup ("is_row" : Str) = some .globalImplicit := by kernel_rfl
theorem ok7 (F : Fun K "is_expression_within" "is_expression_within" s7 f fd) (TT : Tab P w K mg base n C) : FnOk P w K mg base CX0 (n + 1) f fd ["thing", "around"] (spD K (runD 2 3 (B7 C C'))) := by
  refine def_ok F sc7 ?_
  intro cdv A outer s H E hr
  refine iss_cons ?_ ?_
  · refine fs_set (i := 2) sc7.nd ?_ (Or.inl ?_) ?_ (.inl rfl) ?_
    · rfl
    · kernel_rfl
    · rfl
    · refine fe_call TT.c5 hr g7_first_word ?_ ?_ ?_
      · rfl
      · kernel_rfl
      · refine fa_cons ?_ ?_ ?_
        · rfl
        · exact fe_v v7_0
        · exact ia_nil
  · refine iss_cons ?_ ?_
    · refine is_if ?_ ?_ ?_
      · refine it_cm om_gt ?_ ?_ (nomark _)
        · exact fe_v v7_1
        · refine fe_glob g7_MOST_AROUND TT.gc_MOST_AROUND ?_
          kernel_rfl
      · refine iss_one ?_
        refine is_ret ?_
        exact ie_bl
      · exact iss_nil
    · refine iss_cons ?_ ?_
      · refine is_if ?_ ?_ ?_
        · refine it_cm (om_eq (room100 hr)) ?_ ?_ (nomark _)
          · exact fe_v v7_2
          · refine fe_str ?_
            kernel_rfl
        · refine iss_one ?_
          refine is_ret ?_
          refine ie_and ?_ ?_
          · refine fe_call TT.c3 hr g7_is_row ?_ ?_ ?_
            · rfl
            · kernel_rfl
            · refine fa_cons ?_ ?_ ?_
              · rfl
              · exact fe_v v7_0
              · refine fa_cons ?_ ?_ ?_
                · rfl
                · exact ie_int
                · exact ia_nil
          · refine ie_one ?_
            refine fe_call TT.c1 hr g7_is_number ?_ ?_ ?_
            · rfl
            · kernel_rfl
            · refine fa_cons ?_ ?_ ?_
              · rfl
              · refine fe_at ?_ ?_ ?_
                · rfl
                · exact fe_v v7_0
                · exact ie_int
              · exact ia_nil
        · exact iss_nil
      · refine iss_cons ?_ ?_
        · refine is_if ?_ ?_ ?_
          · refine it_cm (om_eq (room100 hr)) ?_ ?_ (nomark _)
            · exact fe_v v7_2
            · refine fe_str ?_
              kernel_rfl
          · refine iss_one ?_
            refine is_ret ?_
            refine ie_and ?_ ?_
            · refine fe_call TT.c3 hr g7_is_row ?_ ?_ ?_
              · rfl
              · kernel_rfl
              · refine fa_cons ?_ ?_ ?_
                · rfl
                · exact fe_v v7_0
                · refine fa_cons ?_ ?_ ?_
                  · rfl
                  · exact ie_int
                  · exact ia_nil
            · refine ie_one ?_
              refine fe_call TT.c2 hr g7_is_name ?_ ?_ ?_
              · rfl
              · kernel_rfl
              · refine fa_cons ?_ ?_ ?_
                · rfl
                · refine fe_at ?_ ?_ ?_
                  · rfl
                  · exact fe_v v7_0
                  · exact ie_int
                · exact ia_nil
          · exact iss_nil
        · refine iss_cons ?_ ?_
          · refine is_if ?_ ?_ ?_
            · refine it_cm (om_eq (room100 hr)) ?_ ?_ (nomark _)
              · exact fe_v v7_2
              · refine fe_str ?_
                kernel_rfl
            · refine iss_one ?_
              refine is_ret ?_
              refine ie_and ?_ ?_
              · refine fe_call TT.c3 hr g7_is_row ?_ ?_ ?_
                · rfl
                · kernel_rfl
                · refine fa_cons ?_ ?_ ?_
                  · rfl
                  · exact fe_v v7_0
                  · refine fa_cons ?_ ?_ ?_
                    · rfl
                    · exact ie_int
                    · exact ia_nil
              · refine ie_and ?_ ?_
                · refine fe_call TT.c2 hr g7_is_name ?_ ?_ ?_
                  · rfl
                  · kernel_rfl
                  · refine fa_cons ?_ ?_ ?_
                    · rfl
                    · refine fe_at ?_ ?_ ?_
                      · rfl
                      · exact fe_v v7_0
                      · exact ie_int
                    · exact ia_nil
                · refine ie_one ?_
                  refine fe_call TT.c8 hr g7_are_parts_within ?_ ?_ ?_
                  · rfl
                  · kernel_rfl
                  · refine fa_cons ?_ ?_ ?_
                    · rfl
                    · refine fe_at ?_ ?_ ?_
                      · rfl
                      · exact fe_v v7_0
                      · exact ie_int
                    · refine fa_cons ?_ ?_ ?_
                      · rfl
                      · refine ie_bin om_add ?_ ?_
                        · exact fe_v v7_1
                        · exact ie_int
                      · exact ia_nil
            · exact iss_nil
          · refine iss_cons ?_ ?_
            · refine is_if ?_ ?_ ?_
              · refine IW.it ?_
                refine iw_or ?_ ?_
                · refine it_cm (om_notin (room200 hr)) ?_ ?_ ?_
                  · exact fe_v v7_2
                  · refine fe_glob g7_SIGNS TT.gc_SIGNS ?_
                    kernel_rfl
                  · with_unfolding_all rfl
                · refine iw_or1 ?_
                  refine it_not ?_
                  refine ft_truth ?_ ?_
                  · rfl
                  · refine fe_call TT.c3 hr g7_is_row ?_ ?_ ?_
                    · rfl
                    · kernel_rfl
                    · refine fa_cons ?_ ?_ ?_
                      · rfl
                      · exact fe_v v7_0
                      · refine fa_cons ?_ ?_ ?_
                        · rfl
                        · exact ie_int
                        · exact ia_nil
              · refine iss_one ?_
                refine is_ret ?_
                exact ie_bl
              · exact iss_nil
            · refine iss_one ?_
              refine is_ret ?_
              refine ie_and ?_ ?_
              · refine fe_call TT.c7 hr g7_is_expression_within ?_ ?_ ?_
                · rfl
                · kernel_rfl
                · refine fa_cons ?_ ?_ ?_
                  · rfl
                  · refine fe_at ?_ ?_ ?_
                    · rfl
                    · exact fe_v v7_0
                    · exact ie_int
                  · refine fa_cons ?_ ?_ ?_
                    · rfl
                    · refine ie_bin om_add ?_ ?_
                      · exact fe_v v7_1
                      · exact ie_int
                    · exact ia_nil
              · refine ie_one ?_
                refine fe_call TT.c7 hr g7_is_expression_within ?_ ?_ ?_
                · rfl
                · kernel_rfl
                · refine fa_cons ?_ ?_ ?_
                  · rfl
                  · refine fe_at ?_ ?_ ?_
                    · rfl
                    · exact fe_v v7_0
                    · exact ie_int
                  · refine fa_cons ?_ ?_ ?_
                    · rfl
                    · refine ie_bin om_add ?_ ?_
                      · exact fe_v v7_1
                      · exact ie_int
                    · exact ia_nil

end
end Jm
end
section
set_option Elab.async false
set_option linter.all false
set_option maxRecDepth 100000
set_option maxHeartbeats 4000000
namespace Jm
open PySem PySem.Spec PyProof.Rows L2 R
variable [Tbl]
section
variable {P : Program} {w : World} {K : PySem.W.Frag} {mg : Str → Option Value} {base : Heap} {f : Addr} {fd : FuncData} {n : Nat} {C C' : CT}
theorem sc9 : FnScope N9 ["_law_script", "_law_k"] (defScope s9) := ⟨rfl, rfl, rfl, by decide +kernel, rfl, by decide +kernel, by decide +kernel⟩
theorem v9_0 : VarOk N9 (defScope s9) 0 "_law_script" := ⟨rfl, Or.inl (by kernel_rfl), (by kernel_rfl), (by kernel_rfl)⟩
theorem v9_1 : VarOk N9 (defScope s9) 1 "_law_k" := ⟨rfl, Or.inl (by kernel_rfl), (by kernel_rfl), (by kernel_rfl)⟩
theorem g9_len : (defScope s9).names.lookup ("len" : Str) = some .globalImplicit := by kernel_rfl
theorem ok9 (F : Fun K "_law_cell_at" "_law_cell_at" s9 f fd) (TT : Tab P w K mg base n C) : FnOk P w K mg base CX0 (n + 1) f fd ["_law_script", "_law_k"] (spD K (runD 2 2 (B9 C C'))) := by
  refine def_ok F sc9 ?_
  intro cdv A outer s H E hr
  refine iss_cons ?_ ?_
  · refine is_if ?_ ?_ ?_
    · refine it_cm om_lt ?_ ?_ (nomark _)
      · exact fe_v v9_1
      · refine fe_callB cm_len opL_rD g9_len TT.b_len PySem.boot_len ?_ ?_ ?_ ?_
        · rfl
        · kernel_rfl
        · kernel_rfl
        · refine fa_cons ?_ ?_ ?_
          · rfl
          · exact fe_v v9_0
          · exact ia_nil
    · refine iss_one ?_
      refine is_ret ?_
      refine fe_at ?_ ?_ ?_
      · rfl
      · exact fe_v v9_0
      · exact fe_v v9_1
    · exact iss_nil
  · refine iss_one ?_
    refine is_ret ?_
    exact ie_int

end
end Jm
end
section
set_option Elab.async false
set_option linter.all false
set_option maxRecDepth 100000
set_option maxHeartbeats 4000000
namespace Jm
open PySem PySem.Spec PyProof.Rows L2 R
variable [Tbl]
section
variable {P : Program} {w : World} {K : PySem.W.Frag} {mg : Str → Option Value} {base : Heap} {f : Addr} {fd : FuncData} {n : Nat} {C C' : CT}
theorem sc10 : FnScope N10 ["_law_script", "_law_k"] (defScope s10) := ⟨rfl, rfl, rfl, by decide +kernel, rfl, by decide +kernel, by decide +kernel⟩
theorem v10_0 : VarOk N10 (defScope s10) 0 "_law_script" := ⟨rfl, Or.inl (by kernel_rfl), (by kernel_rfl), (by kernel_rfl)⟩
theorem v10_1 : VarOk N10 (defScope s10) 1 "_law_k" := ⟨rfl, Or.inl (by kernel_rfl), (by kernel_rfl), (by kernel_rfl)⟩
theorem v10_2 : VarOk N10 (defScope s10) 2 "_law_drawn_here" := ⟨rfl, Or.inl (by kernel_rfl), (by kernel_rfl), (by kernel_rfl)⟩
theorem g10__law_cell_at : (defScope s10).names.lookup ("_law_cell_at" : Str) = some .globalImplicit := by kernel_rfl
theorem ok10 (F : Fun K "_law_mixed" "_law_mixed" s10 f fd) (TT : Tab P w K mg base n C) : FnOk P w K mg base CX0 (n + 1) f fd ["_law_script", "_law_k"] (spD K (runD 2 3 (B10 C C'))) := by
  refine def_ok F sc10 ?_
  intro cdv A outer s H E hr
  refine iss_cons ?_ ?_
  · refine fs_set (i := 2) sc10.nd ?_ (Or.inl ?_) ?_ (.inl rfl) ?_
    · rfl
    · kernel_rfl
    · rfl
    · refine ie_bin om_mod ?_ ?_
      · refine ie_bin om_mul ?_ ?_
        · refine ie_bin om_add ?_ ?_
          · refine ie_bin om_add ?_ ?_
            · refine fe_call TT.c9 hr g10__law_cell_at ?_ ?_ ?_
              · rfl
              · kernel_rfl
              · refine fa_cons ?_ ?_ ?_
                · rfl
                · exact fe_v v10_0
                · refine fa_cons ?_ ?_ ?_
                  · rfl
                  · exact fe_v v10_1
                  · exact ia_nil
            · refine ie_bin om_mul ?_ ?_
              · exact ie_int
              · exact fe_v v10_1
          · exact ie_int
        · exact ie_int
      · exact ie_int
  · refine iss_one ?_
    refine is_ret ?_
    refine ie_bin om_mod ?_ ?_
    · refine ie_bin om_add ?_ ?_
      · refine ie_bin om_add ?_ ?_
        · refine ie_bin om_mul ?_ ?_
          · exact fe_v v10_2
          · exact fe_v v10_2
        · refine ie_bin om_mul ?_ ?_
          · exact ie_int
          · exact fe_v v10_2
      · exact fe_v v10_1
    · exact ie_int

end
end Jm
end
section
set_option Elab.async false
set_option linter.all false
set_option maxRecDepth 100000
set_option maxHeartbeats 4000000
namespace Jm
open PySem PySem.Spec PyProof.Rows L2 R
variable [Tbl]
section
variable {P : Program} {w : World} {K : PySem.W.Frag} {mg : Str → Option Value} {base : Heap} {f : Addr} {fd : FuncData} {n : Nat} {C C' : CT}
theorem sc11 : FnScope N11 ["_law_number", "_law_k"] (defScope s11) := ⟨rfl, rfl, rfl, by decide +kernel, rfl, by decide +kernel, by decide +kernel⟩
theorem v11_0 : VarOk N11 (defScope s11) 0 "_law_number" := ⟨rfl, Or.inl (by kernel_rfl), (by kernel_rfl), (by kernel_rfl)⟩
theorem v11_1 : VarOk N11 (defScope s11) 1 "_law_k" := ⟨rfl, Or.inl (by kernel_rfl), (by kernel_rfl), (by kernel_rfl)⟩
theorem v11_2 : VarOk N11 (defScope s11) 2 "_law_drawn_here" := ⟨rfl, Or.inl (by kernel_rfl), (by kernel_rfl), (by kernel_rfl)⟩
theorem ok11 (F : Fun K "_law_drawn" "_law_drawn" s11 f fd) (TT : Tab P w K mg base n C) : FnOk P w K mg base CX0 (n + 1) f fd ["_law_number", "_law_k"] (spD K (runD 2 3 (B11 C C'))) := by
  refine def_ok F sc11 ?_
  intro cdv A outer s H E hr
  refine iss_cons ?_ ?_
  · refine fs_set (i := 2) sc11.nd ?_ (Or.inl ?_) ?_ (.inl rfl) ?_
    · rfl
    · kernel_rfl
    · rfl
    · refine ie_bin om_mod ?_ ?_
      · refine ie_bin om_mul ?_ ?_
        · refine ie_bin om_add ?_ ?_
          · refine ie_bin om_add ?_ ?_
            · exact fe_v v11_0
            · refine ie_bin om_mul ?_ ?_
              · exact ie_int
              · exact fe_v v11_1
          · exact ie_int
        · exact ie_int
      · exact ie_int
  · refine iss_one ?_
    refine is_ret ?_
    refine ie_bin om_mod ?_ ?_
    · refine ie_bin om_add ?_ ?_
      · refine ie_bin om_add ?_ ?_
        · refine ie_bin om_mul ?_ ?_
          · exact fe_v v11_2
          · exact fe_v v11_2
        · refine ie_bin om_mul ?_ ?_
          · exact ie_int
          · exact fe_v v11_2
      · exact fe_v v11_1
    · exact ie_int

end
end Jm
end
section
set_option Elab.async false
set_option linter.all false
set_option maxRecDepth 100000
set_option maxHeartbeats 4000000
namespace Jm
open PySem PySem.Spec PyProof.Rows L2 R
variable [Tbl]
section
variable {P : Program} {w : World} {K : PySem.W.Frag} {mg : Str → Option Value} {base : Heap} {f : Addr} {fd : FuncData} {n : Nat} {C C' : CT}
theorem sc12 : FnScope N12 ["_law_number"] (defScope s12) := ⟨rfl, rfl, rfl, by decide +kernel, rfl, by decide +kernel, by decide +kernel⟩
theorem v12_0 : VarOk N12 (defScope s12) 0 "_law_number" := ⟨rfl, Or.inl (by kernel_rfl), (by kernel_rfl), (by kernel_rfl)⟩
theorem v12_1 : VarOk N12 (defScope s12) 1 "_law_letters" := ⟨rfl, Or.inl (by kernel_rfl), (by kernel_rfl), (by kernel_rfl)⟩
theorem v12_2 : VarOk N12 (defScope s12) 2 "_law_found" := ⟨rfl, Or.inl (by kernel_rfl), (by kernel_rfl), (by kernel_rfl)⟩
theorem v12_3 : VarOk N12 (defScope s12) 3 "_law_k" := ⟨rfl, Or.inl (by kernel_rfl), (by kernel_rfl), (by kernel_rfl)⟩
theorem g12_range : (defScope s12).names.lookup ("range" : Str) = some .globalImplicit := by kernel_rfl
theorem ok12 (F : Fun K "_law_stem" "_law_stem" s12 f fd) (TT : Tab P w K mg base n C) : FnOk P w K mg base CX0 (n + 1) f fd ["_law_number"] (spD K (runD 1 4 (B12 C C'))) := by
  refine def_ok F sc12 ?_
  intro cdv A outer s H E hr
  refine iss_cons ?_ ?_
  · refine fs_set (i := 1) sc12.nd ?_ (Or.inl ?_) ?_ (.inl rfl) ?_
    · rfl
    · kernel_rfl
    · rfl
    · refine fe_str ?_
      kernel_rfl
  · refine iss_cons ?_ ?_
    · refine fs_set (i := 2) sc12.nd ?_ (Or.inl ?_) ?_ (.inl rfl) ?_
      · rfl
      · kernel_rfl
      · rfl
      · refine fe_str ?_
        kernel_rfl
    · refine iss_cons ?_ ?_
      · refine is_for rfl PassesOwn.never ?_ (pg_name (i := 3) sc12.nd ?_ (Or.inl ?_) (.inl rfl)) ?_ (fold_of ?_)
        · refine fi_range g12_range TT.b_range ?_ ?_
          · rfl
          · refine ie_bin om_mod ?_ ?_
            · exact fe_v v12_0
            · exact ie_int
        · rfl
        · kernel_rfl
        · refine iss_one ?_
          refine fs_set (i := 2) sc12.nd ?_ (Or.inl ?_) ?_ (.inl rfl) ?_
          · rfl
          · kernel_rfl
          · rfl
          · refine ie_bin om_add ?_ ?_
            · exact fe_v v12_2
            · refine fe_at ?_ ?_ ?_
              · rfl
              · exact fe_v v12_1
              · refine ie_bin om_mod ?_ ?_
                · refine ie_bin om_fdiv ?_ ?_
                  · exact fe_v v12_0
                  · refine ie_bin om_add ?_ ?_
                    · exact ie_int
                    · refine ie_bin om_mul ?_ ?_
                      · exact ie_int
                      · exact fe_v v12_3
                · exact ie_int
        · rfl
      · refine iss_one ?_
        refine is_ret ?_
        exact fe_v v12_2

end
end Jm
end
section
set_option Elab.async false
set_option linter.all false
set_option maxRecDepth 100000
set_option maxHeartbeats 4000000
namespace Jm
open PySem PySem.Spec PyProof.Rows L2 R
variable [Tbl]
section
variable {P : Program} {w : World} {K : PySem.W.Frag} {mg : Str → Option Value} {base : Heap} {f : Addr} {fd : FuncData} {n : Nat} {C C' : CT}
theorem sc13 : FnScope N13 ["_law_number", "_law_k"] (defScope s13) := ⟨rfl, rfl, rfl, by decide +kernel, rfl, by decide +kernel, by decide +kernel⟩
theorem v13_0 : VarOk N13 (defScope s13) 0 "_law_number" := ⟨rfl, Or.inl (by kernel_rfl), (by kernel_rfl), (by kernel_rfl)⟩
theorem v13_1 : VarOk N13 (defScope s13) 1 "_law_k" := ⟨rfl, Or.inl (by kernel_rfl), (by kernel_rfl), (by kernel_rfl)⟩
theorem v13_2 : VarOk N13 (defScope s13) 2 "_law_letters" := ⟨rfl, Or.inl (by kernel_rfl), (by kernel_rfl), (by kernel_rfl)⟩
theorem g13__law_stem : (defScope s13).names.lookup ("_law_stem" : Str) = some .globalImplicit := by kernel_rfl
theorem g13_int : (defScope s13).names.lookup ("int" : Str) = some .globalImplicit := by kernel_rfl
theorem ok13 (F : Fun K "_law_name" "_law_name" s13 f fd) (TT : Tab P w K mg base n C) : FnOk P w K mg base CX0 (n + 1) f fd ["_law_number", "_law_k"] (spD K (runD 2 3 (B13 C C'))) := by
  refine def_ok F sc13 ?_
  intro cdv A outer s H E hr
  refine iss_cons ?_ ?_
  · refine fs_set (i := 2) sc13.nd ?_ (Or.inl ?_) ?_ (.inl rfl) ?_
    · rfl
    · kernel_rfl
    · rfl
    · refine fe_str ?_
      kernel_rfl
  · refine iss_one ?_
    refine is_ret ?_
    refine ie_bin om_add ?_ ?_
    · refine ie_bin om_add ?_ ?_
      · refine fe_call TT.c12 hr g13__law_stem ?_ ?_ ?_
        · rfl
        · kernel_rfl
        · refine fa_cons ?_ ?_ ?_
          · rfl
          · exact fe_v v13_0
          · exact ia_nil
      · refine fe_at ?_ ?_ ?_
        · rfl
        · exact fe_v v13_2
        · refine ie_bin om_mod ?_ ?_
          · exact fe_v v13_1
          · exact ie_int
    · refine ie_bin om_mul ?_ ?_
      · refine fe_str ?_
        kernel_rfl
      · refine fe_callTy cm_int opL_rD g13_int TT.b_int PyProof.Rows.boot_int ?_ ?_ ?_ ?_
        · rfl
        · kernel_rfl
        · kernel_rfl
        · refine fa_cons ?_ ?_ ?_
          · rfl
          · refine ie_cm om_gt ?_ ?_ (nomark _)
            · refine ie_bin om_mod ?_ ?_
              · exact fe_v v13_0
              · exact ie_int
            · exact ie_int
          · exact ia_nil

end
end Jm
end
section
set_option Elab.async false
set_option linter.all false
set_option maxRecDepth 100000
set_option maxHeartbeats 4000000
namespace Jm
open PySem PySem.Spec PyProof.Rows L2 R
variable [Tbl]
section
variable {P : Program} {w : World} {K : PySem.W.Frag} {mg : Str → Option Value} {base : Heap} {f : Addr} {fd : FuncData} {n : Nat} {C C' : CT}
theorem sc14 : FnScope N14 ["_law_number"] (defScope s14) := ⟨rfl, rfl, rfl, by decide +kernel, rfl, by decide +kernel, by decide +kernel⟩
theorem v14_0 : VarOk N14 (defScope s14) 0 "_law_number" := ⟨rfl, Or.inl (by kernel_rfl), (by kernel_rfl), (by kernel_rfl)⟩
theorem ok14 (F : Fun K "_law_value" "_law_value" s14 f fd) (TT : Tab P w K mg base n C) : FnOk P w K mg base CX0 (n + 1) f fd ["_law_number"] (spD K (runD 1 1 (B14 C C'))) := by
  refine def_ok F sc14 ?_
  intro cdv A outer s H E hr
  refine iss_cons ?_ ?_
  · refine is_if ?_ ?_ ?_
    · refine it_cm (om_eq (room100 hr)) ?_ ?_ (nomark _)
      · refine ie_bin om_mod ?_ ?_
        · exact fe_v v14_0
        · exact ie_int
      · exact ie_int
    · refine iss_one ?_
      refine is_ret ?_
      refine ie_bin om_sub ?_ ?_
      · refine ie_bin om_mod ?_ ?_
        · refine ie_bin om_fdiv ?_ ?_
          · exact fe_v v14_0
          · exact ie_int
        · exact ie_int
      · exact ie_int
    · exact iss_nil
  · refine iss_one ?_
    refine is_ret ?_
    refine ie_bin om_sub ?_ ?_
    · refine ie_bin om_mod ?_ ?_
      · refine ie_bin om_fdiv ?_ ?_
        · exact fe_v v14_0
        · exact ie_int
      · exact ie_int
    · exact ie_int

end
end Jm
end
section
set_option Elab.async false
set_option linter.all false
set_option maxRecDepth 100000
set_option maxHeartbeats 4000000
namespace Jm
open PySem PySem.Spec PyProof.Rows L2 R
variable [Tbl]
section
variable {P : Program} {w : World} {K : PySem.W.Frag} {mg : Str → Option Value} {base : Heap} {f : Addr} {fd : FuncData} {n : Nat} {C C' : CT}
theorem sc15 : FnScope N15 ["_law_number", "_law_names", "_law_deeds", "_law_deep"] (defScope s15) := ⟨rfl, rfl, rfl, by decide +kernel, rfl, by decide +kernel, by decide +kernel⟩
theorem v15_0 : VarOk N15 (defScope s15) 0 "_law_number" := ⟨rfl, Or.inr (Or.inl (by kernel_rfl)), (by kernel_rfl), (by kernel_rfl)⟩
theorem v15_1 : VarOk N15 (defScope s15) 1 "_law_names" := ⟨rfl, Or.inr (Or.inl (by kernel_rfl)), (by kernel_rfl), (by kernel_rfl)⟩
theorem v15_2 : VarOk N15 (defScope s15) 2 "_law_deeds" := ⟨rfl, Or.inr (Or.inl (by kernel_rfl)), (by kernel_rfl), (by kernel_rfl)⟩
theorem v15_3 : VarOk N15 (defScope s15) 3 "_law_deep" := ⟨rfl, Or.inr (Or.inl (by kernel_rfl)), (by kernel_rfl), (by kernel_rfl)⟩
theorem v15_4 : VarOk N15 (defScope s15) 4 "_law_kind" := ⟨rfl, Or.inl (by kernel_rfl), (by kernel_rfl), (by kernel_rfl)⟩
theorem v15_5 : VarOk N15 (defScope s15) 5 "_law_name_here" := ⟨rfl, Or.inl (by kernel_rfl), (by kernel_rfl), (by kernel_rfl)⟩
theorem v15_6 : VarOk N15 (defScope s15) 6 "_law_count" := ⟨rfl, Or.inl (by kernel_rfl), (by kernel_rfl), (by kernel_rfl)⟩
theorem v15_7 : VarOk N15 (defScope s15) 7 "_law_parts_here" := ⟨rfl, Or.inl (by kernel_rfl), (by kernel_rfl), (by kernel_rfl)⟩
theorem v15_8 : VarOk N15 (defScope s15) 8 "_law_left" := ⟨rfl, Or.inl (by kernel_rfl), (by kernel_rfl), (by kernel_rfl)⟩
theorem v15_9 : VarOk N15 (defScope s15) 9 "_law_right" := ⟨rfl, Or.inl (by kernel_rfl), (by kernel_rfl), (by kernel_rfl)⟩
theorem g15__law_drawn : (defScope s15).names.lookup ("_law_drawn" : Str) = some .globalImplicit := by kernel_rfl
theorem g15__law_expression : (defScope s15).names.lookup ("_law_expression" : Str) = some .globalImplicit := by kernel_rfl
theorem g15__law_value : (defScope s15).names.lookup ("_law_value" : Str) = some .globalImplicit := by kernel_rfl
theorem g15_len : (defScope s15).names.lookup ("len" : Str) = some .globalImplicit := by kernel_rfl
theorem g15_range : (defScope s15).names.lookup ("range" : Str) = some .globalImplicit := by kernel_rfl
theorem g15_tuple : (defScope s15).names.lookup ("tuple" : Str) = some .globalImplicit := by kernel_rfl
theorem ok15 (F : Fun K "_law_expression" "_law_expression" s15 f fd) (TT : Tab P w K mg base n C) : FnOk P w K mg base CX0 (n + 1) f fd ["_law_number", "_law_names", "_law_deeds", "_law_deep"] (spD K (runD 4 10 (B15 C C'))) := by
  refine def_ok F sc15 ?_
  intro cdv A outer s H E hr
  refine iss_cons ?_ ?_
  · refine fs_set (i := 4) sc15.nd ?_ (Or.inl ?_) ?_ (.inl rfl) ?_
    · rfl
    · kernel_rfl
    · rfl
    · refine ie_bin om_mod ?_ ?_
      · exact fe_v v15_0
      · exact ie_int
  · refine iss_cons ?_ ?_
    · refine is_if ?_ ?_ ?_
      · refine IW.it ?_
        refine iw_or ?_ ?_
        · refine it_cm (om_eq (room100 hr)) ?_ ?_ (nomark _)
          · exact fe_v v15_3
          · exact ie_int
        · refine iw_or1 ?_
          refine it_cm om_lt ?_ ?_ (nomark _)
          · exact fe_v v15_4
          · exact ie_int
      · refine iss_one ?_
        refine is_ret ?_
        refine ie_tup ?_
        refine fa_cons ?_ ?_ ?_
        · rfl
        · refine fe_str ?_
          kernel_rfl
        · refine fa_cons ?_ ?_ ?_
          · rfl
          · refine fe_call TT.c14 hr g15__law_value ?_ ?_ ?_
            · rfl
            · kernel_rfl
            · refine fa_cons ?_ ?_ ?_
              · rfl
              · refine ie_bin om_fdiv ?_ ?_
                · exact fe_v v15_0
                · exact ie_int
              · exact ia_nil
          · exact ia_nil
      · exact iss_nil
    · refine iss_cons ?_ ?_
      · refine is_if ?_ ?_ ?_
        · refine it_cm om_lt ?_ ?_ (nomark _)
          · exact fe_v v15_4
          · exact ie_int
        · refine iss_one ?_
          refine is_ret ?_
          refine ie_tup ?_
          refine fa_cons ?_ ?_ ?_
          · rfl
          · refine fe_str ?_
            kernel_rfl
          · refine fa_cons ?_ ?_ ?_
            · rfl
            · refine fe_at ?_ ?_ ?_
              · rfl
              · exact fe_v v15_1
              · refine ie_bin om_mod ?_ ?_
                · refine ie_bin om_fdiv ?_ ?_
                  · exact fe_v v15_0
                  · exact ie_int
                · refine fe_callB cm_len opL_rD g15_len TT.b_len PySem.boot_len ?_ ?_ ?_ ?_
                  · rfl
                  · kernel_rfl
                  · kernel_rfl
                  · refine fa_cons ?_ ?_ ?_
                    · rfl
                    · exact fe_v v15_1
                    · exact ia_nil
            · exact ia_nil
        · exact iss_nil
      · refine iss_cons ?_ ?_
        · refine is_if ?_ ?_ ?_
          · refine IW.it ?_
            refine iw_and ?_ ?_
            · refine it_cm (om_eq (room100 hr)) ?_ ?_ (nomark _)
              · exact fe_v v15_4
              · exact ie_int
            · refine iw_and1 ?_
              refine it_cm om_gt ?_ ?_ (nomark _)
              · refine fe_callB cm_len opL_rD g15_len TT.b_len PySem.boot_len ?_ ?_ ?_ ?_
                · rfl
                · kernel_rfl
                · kernel_rfl
                · refine fa_cons ?_ ?_ ?_
                  · rfl
                  · exact fe_v v15_2
                  · exact ia_nil
              · exact ie_int
          · refine iss_cons ?_ ?_
            · refine fs_set2 (i := 5) (j := 6) rfl sc15.nd ?_ (Or.inl ?_) ?_ (Or.inl ?_) (.inl rfl) (.inl rfl) ?_ ?_ ?_
              · rfl
              · kernel_rfl
              · rfl
              · kernel_rfl
              · rfl
              · rfl
              · refine fe_at ?_ ?_ ?_
                · rfl
                · exact fe_v v15_2
                · refine ie_bin om_mod ?_ ?_
                  · refine ie_bin om_fdiv ?_ ?_
                    · exact fe_v v15_0
                    · exact ie_int
                  · refine fe_callB cm_len opL_rD g15_len TT.b_len PySem.boot_len ?_ ?_ ?_ ?_
                    · rfl
                    · kernel_rfl
                    · kernel_rfl
                    · refine fa_cons ?_ ?_ ?_
                      · rfl
                      · exact fe_v v15_2
                      · exact ia_nil
            · refine iss_cons ?_ ?_
              · refine is_setComp (i := 7) (cscope (x := "_law_k") (caps := ["_law_names", "_law_deeds", "_law_number", "_law_deep"]) (js := [1, 2, 0, 3]) (N := N15) (sc := defScope s15) rfl rfl rfl ?_ ?_ ?_ ?_ ?_ rfl ?_) rfl ?_ ?_ ?_ sc15.nd rfl (Or.inl ?_) ?_ (fold_of ?_) (.inl rfl)
                · decide +kernel
                · decide +kernel
                · decide +kernel
                · decide +kernel
                · decide +kernel
                · decide +kernel
                · refine fi_range g15_range TT.b_range ?_ ?_
                  · rfl
                  · exact fe_v v15_6
                · intro Cc fp ss HH EE
                  exact ifs_none
                · intro Cc fp ss HH EE
                  refine fe_call TT.c15 hr ?_ ?_ ?_ ?_
                  · kernel_rfl
                  · rfl
                  · kernel_rfl
                  · refine fa_cons ?_ ?_ ?_
                    · rfl
                    · refine fe_call TT.c11 hr ?_ ?_ ?_ ?_
                      · kernel_rfl
                      · rfl
                      · kernel_rfl
                      · refine fa_cons ?_ ?_ ?_
                        · rfl
                        · refine fe_v ⟨rfl, Or.inr (Or.inl ?_), ?_, ?_⟩
                          · kernel_rfl
                          · kernel_rfl
                          · kernel_rfl
                        · refine fa_cons ?_ ?_ ?_
                          · rfl
                          · refine fe_v ⟨rfl, Or.inl ?_, ?_, ?_⟩
                            · kernel_rfl
                            · kernel_rfl
                            · kernel_rfl
                          · exact ia_nil
                    · refine fa_cons ?_ ?_ ?_
                      · rfl
                      · refine fe_v ⟨rfl, Or.inr (Or.inl ?_), ?_, ?_⟩
                        · kernel_rfl
                        · kernel_rfl
                        · kernel_rfl
                      · refine fa_cons ?_ ?_ ?_
                        · rfl
                        · refine fe_v ⟨rfl, Or.inr (Or.inl ?_), ?_, ?_⟩
                          · kernel_rfl
                          · kernel_rfl
                          · kernel_rfl
                        · refine fa_cons ?_ ?_ ?_
                          · rfl
                          · refine ie_bin om_sub ?_ ?_
                            · refine fe_v ⟨rfl, Or.inr (Or.inl ?_), ?_, ?_⟩
                              · kernel_rfl
                              · kernel_rfl
                              · kernel_rfl
                            · exact ie_int
                          · exact ia_nil
                · kernel_rfl
                · kernel_rfl
                · rfl
              · refine iss_one ?_
                refine is_ret ?_
                refine ie_tup ?_
                refine fa_cons ?_ ?_ ?_
                · rfl
                · refine fe_str ?_
                  kernel_rfl
                · refine fa_cons ?_ ?_ ?_
                  · rfl
                  · exact fe_v v15_5
                  · refine fa_cons ?_ ?_ ?_
                    · rfl
                    · refine fe_callTy cm_tuple opL_rD g15_tuple TT.b_tuple PyProof.Rows.boot_tuple ?_ ?_ ?_ ?_
                      · rfl
                      · kernel_rfl
                      · kernel_rfl
                      · refine fa_cons ?_ ?_ ?_
                        · rfl
                        · exact fe_v v15_7
                        · exact ia_nil
                    · exact ia_nil
          · exact iss_nil
        · refine iss_cons ?_ ?_
          · refine fs_set (i := 8) sc15.nd ?_ (Or.inl ?_) ?_ (.inl rfl) ?_
            · rfl
            · kernel_rfl
            · rfl
            · refine fe_call TT.c15 hr g15__law_expression ?_ ?_ ?_
              · rfl
              · kernel_rfl
              · refine fa_cons ?_ ?_ ?_
                · rfl
                · refine fe_call TT.c11 hr g15__law_drawn ?_ ?_ ?_
                  · rfl
                  · kernel_rfl
                  · refine fa_cons ?_ ?_ ?_
                    · rfl
                    · exact fe_v v15_0
                    · refine fa_cons ?_ ?_ ?_
                      · rfl
                      · exact ie_int
                      · exact ia_nil
                · refine fa_cons ?_ ?_ ?_
                  · rfl
                  · exact fe_v v15_1
                  · refine fa_cons ?_ ?_ ?_
                    · rfl
                    · exact fe_v v15_2
                    · refine fa_cons ?_ ?_ ?_
                      · rfl
                      · refine ie_bin om_sub ?_ ?_
                        · exact fe_v v15_3
                        · exact ie_int
                      · exact ia_nil
          · refine iss_cons ?_ ?_
            · refine fs_set (i := 9) sc15.nd ?_ (Or.inl ?_) ?_ (.inl rfl) ?_
              · rfl
              · kernel_rfl
              · rfl
              · refine fe_call TT.c15 hr g15__law_expression ?_ ?_ ?_
                · rfl
                · kernel_rfl
                · refine fa_cons ?_ ?_ ?_
                  · rfl
                  · refine fe_call TT.c11 hr g15__law_drawn ?_ ?_ ?_
                    · rfl
                    · kernel_rfl
                    · refine fa_cons ?_ ?_ ?_
                      · rfl
                      · exact fe_v v15_0
                      · refine fa_cons ?_ ?_ ?_
                        · rfl
                        · exact ie_int
                        · exact ia_nil
                  · refine fa_cons ?_ ?_ ?_
                    · rfl
                    · exact fe_v v15_1
                    · refine fa_cons ?_ ?_ ?_
                      · rfl
                      · exact fe_v v15_2
                      · refine fa_cons ?_ ?_ ?_
                        · rfl
                        · refine ie_bin om_sub ?_ ?_
                          · exact fe_v v15_3
                          · exact ie_int
                        · exact ia_nil
            · refine iss_one ?_
              refine is_ret ?_
              refine ie_tup ?_
              refine fa_cons ?_ ?_ ?_
              · rfl
              · refine fe_at ?_ ?_ ?_
                · rfl
                · refine fe_str ?_
                  kernel_rfl
                · refine ie_bin om_mod ?_ ?_
                  · refine ie_bin om_fdiv ?_ ?_
                    · exact fe_v v15_0
                    · exact ie_int
                  · exact ie_int
              · refine fa_cons ?_ ?_ ?_
                · rfl
                · exact fe_v v15_8
                · refine fa_cons ?_ ?_ ?_
                  · rfl
                  · exact fe_v v15_9
                  · exact ia_nil

end
end Jm
end
section
set_option Elab.async false
set_option linter.all false
set_option maxRecDepth 100000
set_option maxHeartbeats 4000000
namespace Jm
open PySem PySem.Spec PyProof.Rows L2 R
variable [Tbl]
section
variable {P : Program} {w : World} {K : PySem.W.Frag} {mg : Str → Option Value} {base : Heap} {f : Addr} {fd : FuncData} {n : Nat} {C C' : CT}
theorem sc16 : FnScope N16 ["_law_thing"] (defScope s16) := ⟨rfl, rfl, rfl, by decide +kernel, rfl, by decide +kernel, by decide +kernel⟩
theorem v16_0 : VarOk N16 (defScope s16) 0 "_law_thing" := ⟨rfl, Or.inl (by kernel_rfl), (by kernel_rfl), (by kernel_rfl)⟩
theorem v16_1 : VarOk N16 (defScope s16) 1 "_law_some" := ⟨rfl, Or.inl (by kernel_rfl), (by kernel_rfl), (by kernel_rfl)⟩
theorem g16_isinstance : (defScope s16).names.lookup ("isinstance" : Str) = some .globalImplicit := by kernel_rfl
theorem g16_len : (defScope s16).names.lookup ("len" : Str) = some .globalImplicit := by kernel_rfl
theorem g16_str : (defScope s16).names.lookup ("str" : Str) = some .globalImplicit := by kernel_rfl
theorem ok16 (F : Fun K "_law_is_name" "_law_is_name" s16 f fd) (TT : Tab P w K mg base n C) : FnOk P w K mg base CX0 (n + 1) f fd ["_law_thing"] (spD K (runD 1 2 (B16 C C'))) := by
  refine def_ok F sc16 ?_
  intro cdv A outer s H E hr
  refine iss_cons ?_ ?_
  · refine is_if ?_ ?_ ?_
    · refine IW.it ?_
      refine iw_or ?_ ?_
      · refine it_not ?_
        refine ft_truth ?_ ?_
        · rfl
        · refine fe_isi (known_str _) ?_ g16_isinstance TT.b_isinstance g16_str TT.b_str PyProof.Rows.boot_str ?_ ?_ ?_
          · rfl
          · kernel_rfl
          · kernel_rfl
          · exact fe_v v16_0
      · refine iw_or ?_ ?_
        · refine it_cm (om_eq (room100 hr)) ?_ ?_ (nomark _)
          · exact fe_v v16_0
          · refine fe_str ?_
            kernel_rfl
        · refine iw_or1 ?_
          refine it_cm om_gt ?_ ?_ (nomark _)
          · refine fe_callB cm_len opL_rD g16_len TT.b_len PySem.boot_len ?_ ?_ ?_ ?_
            · rfl
            · kernel_rfl
            · kernel_rfl
            · refine fa_cons ?_ ?_ ?_
              · rfl
              · exact fe_v v16_0
              · exact ia_nil
          · exact ie_int
    · refine iss_one ?_
      refine is_ret ?_
      exact ie_bl
    · exact iss_nil
  · refine iss_cons ?_ ?_
    · refine fs_set (i := 1) sc16.nd ?_ (Or.inl ?_) ?_ (.inl rfl) ?_
      · rfl
      · kernel_rfl
      · rfl
      · refine fe_str ?_
        kernel_rfl
    · refine iss_cons ?_ ?_
      · refine is_if ?_ ?_ ?_
        · refine it_cm (om_isin (room200 hr)) ?_ ?_ ?_
          · exact fe_v v16_0
          · refine fe_meth PySem.F.slot_str_split PySem.F.type_str_split mt_split ?_ ?_ ?_ ?_ ?_ ?_
            · rfl
            · rfl
            · rfl
            · kernel_rfl
            · refine ie_bin om_add ?_ ?_
              · exact fe_v v16_1
              · refine fe_str ?_
                kernel_rfl
            · refine fa_cons ?_ ?_ ?_
              · rfl
              · refine fe_str ?_
                kernel_rfl
              · exact ia_nil
          · with_unfolding_all rfl
        · refine iss_one ?_
          refine is_ret ?_
          exact ie_bl
        · exact iss_nil
      · refine iss_one ?_
        refine is_ret ?_
        refine ie_cm (om_eq (room100 hr)) ?_ ?_ (nomark _)
        · refine ie_comp (cscope (x := "_law_sign") (caps := []) (js := []) (N := N16) (sc := defScope s16) rfl rfl rfl ?_ ?_ ?_ ?_ ?_ rfl ?_) rfl ?_ ?_ ?_ (fold_of ?_)
          · decide +kernel
          · decide +kernel
          · decide +kernel
          · decide +kernel
          · decide +kernel
          · decide +kernel
          · refine ii_data ?_
            exact fe_v v16_0
          · intro Cc fp ss HH EE
            refine ifs_one ?_
            refine it_cm om_lt ?_ ?_ (nomark _)
            · refine fe_meth PySem.F.slot_str_find PySem.F.type_str_find mt_find ?_ ?_ ?_ ?_ ?_ ?_
              · rfl
              · rfl
              · rfl
              · kernel_rfl
              · refine fe_str ?_
                kernel_rfl
              · refine fa_cons ?_ ?_ ?_
                · rfl
                · refine fe_v ⟨rfl, Or.inl ?_, ?_, ?_⟩
                  · kernel_rfl
                  · kernel_rfl
                  · kernel_rfl
                · exact ia_nil
            · exact ie_int
          · intro Cc fp ss HH EE
            refine fe_v ⟨rfl, Or.inl ?_, ?_, ?_⟩
            · kernel_rfl
            · kernel_rfl
            · kernel_rfl
          · rfl
        · refine ie_lst ?_
          exact ia_nil

end
end Jm
end
section
set_option Elab.async false
set_option linter.all false
set_option maxRecDepth 100000
set_option maxHeartbeats 4000000
namespace Jm
open PySem PySem.Spec PyProof.Rows L2 R
variable [Tbl]
section
variable {P : Program} {w : World} {K : PySem.W.Frag} {mg : Str → Option Value} {base : Heap} {f : Addr} {fd : FuncData} {n : Nat} {C C' : CT}
theorem sc17 : FnScope N17 ["_law_thing"] (defScope s17) := ⟨rfl, rfl, rfl, by decide +kernel, rfl, by decide +kernel, by decide +kernel⟩
theorem v17_0 : VarOk N17 (defScope s17) 0 "_law_thing" := ⟨rfl, Or.inl (by kernel_rfl), (by kernel_rfl), (by kernel_rfl)⟩
theorem g17_abs : (defScope s17).names.lookup ("abs" : Str) = some .globalImplicit := by kernel_rfl
theorem g17_bool : (defScope s17).names.lookup ("bool" : Str) = some .globalImplicit := by kernel_rfl
theorem g17_int : (defScope s17).names.lookup ("int" : Str) = some .globalImplicit := by kernel_rfl
theorem g17_isinstance : (defScope s17).names.lookup ("isinstance" : Str) = some .globalImplicit := by kernel_rfl
theorem ok17 (F : Fun K "_law_is_number" "_law_is_number" s17 f fd) (TT : Tab P w K mg base n C) : FnOk P w K mg base CX0 (n + 1) f fd ["_law_thing"] (spD K (runD 1 1 (B17 C C'))) := by
  refine def_ok F sc17 ?_
  intro cdv A outer s H E hr
  refine iss_one ?_
  refine is_ret ?_
  refine ie_and ?_ ?_
  · refine fe_isi (known_int _) ?_ g17_isinstance TT.b_isinstance g17_int TT.b_int PyProof.Rows.boot_int ?_ ?_ ?_
    · rfl
    · kernel_rfl
    · kernel_rfl
    · exact fe_v v17_0
  · refine ie_and ?_ ?_
    · refine ie_not ?_
      refine fe_isi (known_bool _) ?_ g17_isinstance TT.b_isinstance g17_bool TT.b_bool PyProof.Rows.boot_bool ?_ ?_ ?_
      · rfl
      · kernel_rfl
      · kernel_rfl
      · exact fe_v v17_0
    · refine ie_one ?_
      refine ie_cm om_lt ?_ ?_ (nomark _)
      · refine fe_callB cm_abs opL_rD g17_abs TT.b_abs PyProof.Rows.boot_abs ?_ ?_ ?_ ?_
        · rfl
        · kernel_rfl
        · kernel_rfl
        · refine fa_cons ?_ ?_ ?_
          · rfl
          · exact fe_v v17_0
          · exact ia_nil
      · refine ie_bin om_pow ?_ ?_
        · exact ie_int
        · exact ie_int

end
end Jm
end
section
set_option Elab.async false
set_option linter.all false
set_option maxRecDepth 100000
set_option maxHeartbeats 4000000
namespace Jm
open PySem PySem.Spec PyProof.Rows L2 R
variable [Tbl]
section
variable {P : Program} {w : World} {K : PySem.W.Frag} {mg : Str → Option Value} {base : Heap} {f : Addr} {fd : FuncData} {n : Nat} {C C' : CT}
theorem sc19 : FnScope N19 ["_law_thing", "_law_deep"] (defScope s19) := ⟨rfl, rfl, rfl, by decide +kernel, rfl, by decide +kernel, by decide +kernel⟩
theorem v19_0 : VarOk N19 (defScope s19) 0 "_law_thing" := ⟨rfl, Or.inl (by kernel_rfl), (by kernel_rfl), (by kernel_rfl)⟩
theorem g19_isinstance : (defScope s19).names.lookup ("isinstance" : Str) = some .globalImplicit := by kernel_rfl
theorem g19_len : (defScope s19).names.lookup ("len" : Str) = some .globalImplicit := by kernel_rfl
theorem g19_tuple : (defScope s19).names.lookup ("tuple" : Str) = some .globalImplicit := by kernel_rfl
theorem ok19 (F : Fun K "_law_parts" "_law_parts" s19 f fd) (TT : Tab P w K mg base n C) : FnOk P w K mg base CX0 (n + 1) f fd ["_law_thing", "_law_deep"] (spD K (runD 2 2 (B19 C C'))) := by
  refine def_ok F sc19 ?_
  intro cdv A outer s H E hr
  refine iss_one ?_
  refine is_ret ?_
  refine ie_and ?_ ?_
  · refine fe_isi (known_tuple _) ?_ g19_isinstance TT.b_isinstance g19_tuple TT.b_tuple PyProof.Rows.boot_tuple ?_ ?_ ?_
    · rfl
    · kernel_rfl
    · kernel_rfl
    · exact fe_v v19_0
  · refine ie_and ?_ ?_
    · refine ie_cm om_lt ?_ ?_ (nomark _)
      · refine fe_callB cm_len opL_rD g19_len TT.b_len PySem.boot_len ?_ ?_ ?_ ?_
        · rfl
        · kernel_rfl
        · kernel_rfl
        · refine fa_cons ?_ ?_ ?_
          · rfl
          · exact fe_v v19_0
          · exact ia_nil
      · exact ie_int
    · refine ie_one ?_
      refine ie_cm (om_eq (room100 hr)) ?_ ?_ (nomark _)
      · refine ie_comp (cscope (x := "_law_part") (caps := ["_law_deep"]) (js := [1]) (N := N19) (sc := defScope s19) rfl rfl rfl ?_ ?_ ?_ ?_ ?_ rfl ?_) rfl ?_ ?_ ?_ (fold_of ?_)
        · decide +kernel
        · decide +kernel
        · decide +kernel
        · decide +kernel
        · decide +kernel
        · decide +kernel
        · refine ii_data ?_
          exact fe_v v19_0
        · intro Cc fp ss HH EE
          refine ifs_one ?_
          refine it_not ?_
          refine ft_truth ?_ ?_
          · rfl
          · refine fe_call TT.c20 hr ?_ ?_ ?_ ?_
            · kernel_rfl
            · rfl
            · kernel_rfl
            · refine fa_cons ?_ ?_ ?_
              · rfl
              · refine fe_v ⟨rfl, Or.inl ?_, ?_, ?_⟩
                · kernel_rfl
                · kernel_rfl
                · kernel_rfl
              · refine fa_cons ?_ ?_ ?_
                · rfl
                · refine fe_v ⟨rfl, Or.inr (Or.inl ?_), ?_, ?_⟩
                  · kernel_rfl
                  · kernel_rfl
                  · kernel_rfl
                · exact ia_nil
        · intro Cc fp ss HH EE
          refine fe_v ⟨rfl, Or.inl ?_, ?_, ?_⟩
          · kernel_rfl
          · kernel_rfl
          · kernel_rfl
        · rfl
      · refine ie_lst ?_
        exact ia_nil

end
end Jm
end
section
set_option Elab.async false
set_option linter.all false
set_option maxRecDepth 100000
set_option maxHeartbeats 4000000
namespace Jm
open PySem PySem.Spec PyProof.Rows L2 R
variable [Tbl]
section
variable {P : Program} {w : World} {K : PySem.W.Frag} {mg : Str → Option Value} {base : Heap} {f : Addr} {fd : FuncData} {n : Nat} {C C' : CT}
theorem sc20 : FnScope N20 ["_law_thing", "_law_deep"] (defScope s20) := ⟨rfl, rfl, rfl, by decide +kernel, rfl, by decide +kernel, by decide +kernel⟩
theorem v20_0 : VarOk N20 (defScope s20) 0 "_law_thing" := ⟨rfl, Or.inl (by kernel_rfl), (by kernel_rfl), (by kernel_rfl)⟩
theorem v20_1 : VarOk N20 (defScope s20) 1 "_law_deep" := ⟨rfl, Or.inl (by kernel_rfl), (by kernel_rfl), (by kernel_rfl)⟩
theorem g20__law_is_expression : (defScope s20).names.lookup ("_law_is_expression" : Str) = some .globalImplicit := by kernel_rfl
theorem g20__law_is_name : (defScope s20).names.lookup ("_law_is_name" : Str) = some .globalImplicit := by kernel_rfl
theorem g20__law_is_number : (defScope s20).names.lookup ("_law_is_number" : Str) = some .globalImplicit := by kernel_rfl
theorem g20__law_parts : (defScope s20).names.lookup ("_law_parts" : Str) = some .globalImplicit := by kernel_rfl
theorem g20_isinstance : (defScope s20).names.lookup ("isinstance" : Str) = some .globalImplicit := by kernel_rfl
theorem g20_len : (defScope s20).names.lookup ("len" : Str) = some .globalImplicit := by kernel_rfl
theorem g20_str : (defScope s20).names.lookup ("str" : Str) = some .globalImplicit := by kernel_rfl
theorem g20_tuple : (defScope s20).names.lookup ("tuple" : Str) = some .globalImplicit := by kernel_rfl
theorem ok20 (F : Fun K "_law_is_expression" "_law_is_expression" s20 f fd) (TT : Tab P w K mg base n C) : FnOk P w K mg base CX0 (n + 1) f fd ["_law_thing", "_law_deep"] (spD K (runD 2 2 (B20 C C'))) := by
  refine def_ok F sc20 ?_
  intro cdv A outer s H E hr
  refine iss_cons ?_ ?_
  · refine is_if ?_ ?_ ?_
    · refine IW.it ?_
      refine iw_or ?_ ?_
      · refine it_cm om_gt ?_ ?_ (nomark _)
        · exact fe_v v20_1
        · exact ie_int
      · refine iw_or ?_ ?_
        · refine it_not ?_
          refine ft_truth ?_ ?_
          · rfl
          · refine fe_isi (known_tuple _) ?_ g20_isinstance TT.b_isinstance g20_tuple TT.b_tuple PyProof.Rows.boot_tuple ?_ ?_ ?_
            · rfl
            · kernel_rfl
            · kernel_rfl
            · exact fe_v v20_0
        · refine iw_or ?_ ?_
          · refine it_cm (om_eq (room100 hr)) ?_ ?_ (nomark _)
            · refine fe_callB cm_len opL_rD g20_len TT.b_len PySem.boot_len ?_ ?_ ?_ ?_
              · rfl
              · kernel_rfl
              · kernel_rfl
              · refine fa_cons ?_ ?_ ?_
                · rfl
                · exact fe_v v20_0
                · exact ia_nil
            · exact ie_int
          · refine iw_or1 ?_
            refine it_not ?_
            refine ft_truth ?_ ?_
            · rfl
            · refine fe_isi (known_str _) ?_ g20_isinstance TT.b_isinstance g20_str TT.b_str PyProof.Rows.boot_str ?_ ?_ ?_
              · rfl
              · kernel_rfl
              · kernel_rfl
              · refine fe_at ?_ ?_ ?_
                · rfl
                · exact fe_v v20_0
                · exact ie_int
    · refine iss_one ?_
      refine is_ret ?_
      exact ie_bl
    · exact iss_nil
  · refine iss_cons ?_ ?_
    · refine is_if ?_ ?_ ?_
      · refine it_cm (om_eq (room100 hr)) ?_ ?_ (nomark _)
        · refine fe_at ?_ ?_ ?_
          · rfl
          · exact fe_v v20_0
          · exact ie_int
        · refine fe_str ?_
          kernel_rfl
      · refine iss_one ?_
        refine is_ret ?_
        refine ie_and ?_ ?_
        · refine ie_cm (om_eq (room100 hr)) ?_ ?_ (nomark _)
          · refine fe_callB cm_len opL_rD g20_len TT.b_len PySem.boot_len ?_ ?_ ?_ ?_
            · rfl
            · kernel_rfl
            · kernel_rfl
            · refine fa_cons ?_ ?_ ?_
              · rfl
              · exact fe_v v20_0
              · exact ia_nil
          · exact ie_int
        · refine ie_one ?_
          refine fe_call TT.c17 hr g20__law_is_number ?_ ?_ ?_
          · rfl
          · kernel_rfl
          · refine fa_cons ?_ ?_ ?_
            · rfl
            · refine fe_at ?_ ?_ ?_
              · rfl
              · exact fe_v v20_0
              · exact ie_int
            · exact ia_nil
      · exact iss_nil
    · refine iss_cons ?_ ?_
      · refine is_if ?_ ?_ ?_
        · refine it_cm (om_eq (room100 hr)) ?_ ?_ (nomark _)
          · refine fe_at ?_ ?_ ?_
            · rfl
            · exact fe_v v20_0
            · exact ie_int
          · refine fe_str ?_
            kernel_rfl
        · refine iss_one ?_
          refine is_ret ?_
          refine ie_and ?_ ?_
          · refine ie_cm (om_eq (room100 hr)) ?_ ?_ (nomark _)
            · refine fe_callB cm_len opL_rD g20_len TT.b_len PySem.boot_len ?_ ?_ ?_ ?_
              · rfl
              · kernel_rfl
              · kernel_rfl
              · refine fa_cons ?_ ?_ ?_
                · rfl
                · exact fe_v v20_0
                · exact ia_nil
            · exact ie_int
          · refine ie_one ?_
            refine fe_call TT.c16 hr g20__law_is_name ?_ ?_ ?_
            · rfl
            · kernel_rfl
            · refine fa_cons ?_ ?_ ?_
              · rfl
              · refine fe_at ?_ ?_ ?_
                · rfl
                · exact fe_v v20_0
                · exact ie_int
              · exact ia_nil
        · exact iss_nil
      · refine iss_cons ?_ ?_
        · refine is_if ?_ ?_ ?_
          · refine it_cm (om_eq (room100 hr)) ?_ ?_ (nomark _)
            · refine fe_at ?_ ?_ ?_
              · rfl
              · exact fe_v v20_0
              · exact ie_int
            · refine fe_str ?_
              kernel_rfl
          · refine iss_one ?_
            refine is_ret ?_
            refine ie_and ?_ ?_
            · refine ie_cm (om_eq (room100 hr)) ?_ ?_ (nomark _)
              · refine fe_callB cm_len opL_rD g20_len TT.b_len PySem.boot_len ?_ ?_ ?_ ?_
                · rfl
                · kernel_rfl
                · kernel_rfl
                · refine fa_cons ?_ ?_ ?_
                  · rfl
                  · exact fe_v v20_0
                  · exact ia_nil
              · exact ie_int
            · refine ie_and ?_ ?_
              · refine fe_call TT.c16 hr g20__law_is_name ?_ ?_ ?_
                · rfl
                · kernel_rfl
                · refine fa_cons ?_ ?_ ?_
                  · rfl
                  · refine fe_at ?_ ?_ ?_
                    · rfl
                    · exact fe_v v20_0
                    · exact ie_int
                  · exact ia_nil
              · refine ie_one ?_
                refine fe_call TT.c19 hr g20__law_parts ?_ ?_ ?_
                · rfl
                · kernel_rfl
                · refine fa_cons ?_ ?_ ?_
                  · rfl
                  · refine fe_at ?_ ?_ ?_
                    · rfl
                    · exact fe_v v20_0
                    · exact ie_int
                  · refine fa_cons ?_ ?_ ?_
                    · rfl
                    · refine ie_bin om_add ?_ ?_
                      · exact fe_v v20_1
                      · exact ie_int
                    · exact ia_nil
          · exact iss_nil
        · refine iss_cons ?_ ?_
          · refine is_if ?_ ?_ ?_
            · refine IW.it ?_
              refine iw_or ?_ ?_
              · refine it_cm om_neq ?_ ?_ (nomark _)
                · refine fe_callB cm_len opL_rD g20_len TT.b_len PySem.boot_len ?_ ?_ ?_ ?_
                  · rfl
                  · kernel_rfl
                  · kernel_rfl
                  · refine fa_cons ?_ ?_ ?_
                    · rfl
                    · exact fe_v v20_0
                    · exact ia_nil
                · exact ie_int
              · refine iw_or ?_ ?_
                · refine it_cm om_neq ?_ ?_ (nomark _)
                  · refine fe_callB cm_len opL_rD g20_len TT.b_len PySem.boot_len ?_ ?_ ?_ ?_
                    · rfl
                    · kernel_rfl
                    · kernel_rfl
                    · refine fa_cons ?_ ?_ ?_
                      · rfl
                      · refine fe_at ?_ ?_ ?_
                        · rfl
                        · exact fe_v v20_0
                        · exact ie_int
                      · exact ia_nil
                  · exact ie_int
                · refine iw_or1 ?_
                  refine it_cm om_lt ?_ ?_ (nomark _)
                  · refine fe_meth PySem.F.slot_str_find PySem.F.type_str_find mt_find ?_ ?_ ?_ ?_ ?_ ?_
                    · rfl
                    · rfl
                    · rfl
                    · kernel_rfl
                    · refine fe_str ?_
                      kernel_rfl
                    · refine fa_cons ?_ ?_ ?_
                      · rfl
                      · refine fe_at ?_ ?_ ?_
                        · rfl
                        · exact fe_v v20_0
                        · exact ie_int
                      · exact ia_nil
                  · exact ie_int
            · refine iss_one ?_
              refine is_ret ?_
              exact ie_bl
            · exact iss_nil
          · refine iss_one ?_
            refine is_ret ?_
            refine ie_and ?_ ?_
            · refine fe_call TT.c20 hr g20__law_is_expression ?_ ?_ ?_
              · rfl
              · kernel_rfl
              · refine fa_cons ?_ ?_ ?_
                · rfl
                · refine fe_at ?_ ?_ ?_
                  · rfl
                  · exact fe_v v20_0
                  · exact ie_int
                · refine fa_cons ?_ ?_ ?_
                  · rfl
                  · refine ie_bin om_add ?_ ?_
                    · exact fe_v v20_1
                    · exact ie_int
                  · exact ia_nil
            · refine ie_one ?_
              refine fe_call TT.c20 hr g20__law_is_expression ?_ ?_ ?_
              · rfl
              · kernel_rfl
              · refine fa_cons ?_ ?_ ?_
                · rfl
                · refine fe_at ?_ ?_ ?_
                  · rfl
                  · exact fe_v v20_0
                  · exact ie_int
                · refine fa_cons ?_ ?_ ?_
                  · rfl
                  · refine ie_bin om_add ?_ ?_
                    · exact fe_v v20_1
                    · exact ie_int
                  · exact ia_nil

end
end Jm
end
section
set_option Elab.async false
set_option linter.all false
set_option maxRecDepth 100000
set_option maxHeartbeats 4000000
namespace Jm
open PySem PySem.Spec PyProof.Rows L2 R
variable [Tbl]
section
variable {P : Program} {w : World} {K : PySem.W.Frag} {mg : Str → Option Value} {base : Heap} {f : Addr} {fd : FuncData} {n : Nat} {C C' : CT}
theorem sc21 : FnScope N21 ["_law_number"] (defScope s21) := ⟨rfl, rfl, rfl, by decide +kernel, rfl, by decide +kernel, by decide +kernel⟩
theorem v21_0 : VarOk N21 (defScope s21) 0 "_law_number" := ⟨rfl, Or.inl (by kernel_rfl), (by kernel_rfl), (by kernel_rfl)⟩
theorem v21_1 : VarOk N21 (defScope s21) 1 "_law_some" := ⟨rfl, Or.inl (by kernel_rfl), (by kernel_rfl), (by kernel_rfl)⟩
theorem ok21 (F : Fun K "_law_odd" "_law_odd" s21 f fd) (TT : Tab P w K mg base n C) : FnOk P w K mg base CX0 (n + 1) f fd ["_law_number"] (spD K (runD 1 2 (B21 C C'))) := by
  refine def_ok F sc21 ?_
  intro cdv A outer s H E hr
  refine iss_cons ?_ ?_
  · refine fs_set (i := 1) sc21.nd ?_ (Or.inl ?_) ?_ (.inl rfl) ?_
    · rfl
    · kernel_rfl
    · rfl
    · refine ie_lst ?_
      refine fa_cons ?_ ?_ ?_
      · rfl
      · refine ie_neg ?_
        exact ie_int
      · refine fa_cons ?_ ?_ ?_
        · rfl
        · exact ie_int
        · refine fa_cons ?_ ?_ ?_
          · rfl
          · exact ie_int
          · refine fa_cons ?_ ?_ ?_
            · rfl
            · exact ie_int
            · refine fa_cons ?_ ?_ ?_
              · rfl
              · exact ie_int
              · refine fa_cons ?_ ?_ ?_
                · rfl
                · refine ie_bin om_pow ?_ ?_
                  · exact ie_int
                  · exact ie_int
                · refine fa_cons ?_ ?_ ?_
                  · rfl
                  · refine ie_neg ?_
                    refine ie_bin om_pow ?_ ?_
                    · exact ie_int
                    · exact ie_int
                  · refine fa_cons ?_ ?_ ?_
                    · rfl
                    · exact ie_bl
                    · refine fa_cons ?_ ?_ ?_
                      · rfl
                      · exact ie_bl
                      · refine fa_cons ?_ ?_ ?_
                        · rfl
                        · exact ie_non
                        · refine fa_cons ?_ ?_ ?_
                          · rfl
                          · refine fe_str ?_
                            kernel_rfl
                          · refine fa_cons ?_ ?_ ?_
                            · rfl
                            · refine fe_str ?_
                              kernel_rfl
                            · refine fa_cons ?_ ?_ ?_
                              · rfl
                              · refine fe_str ?_
                                kernel_rfl
                              · refine fa_cons ?_ ?_ ?_
                                · rfl
                                · refine fe_str ?_
                                  kernel_rfl
                                · refine fa_cons ?_ ?_ ?_
                                  · rfl
                                  · refine fe_str ?_
                                    kernel_rfl
                                  · refine fa_cons ?_ ?_ ?_
                                    · rfl
                                    · refine fe_str ?_
                                      kernel_rfl
                                    · exact ia_nil
  · refine iss_cons ?_ ?_
    · refine fs_set (i := 1) sc21.nd ?_ (Or.inl ?_) ?_ (.inl rfl) ?_
      · rfl
      · kernel_rfl
      · rfl
      · refine ie_bin om_add ?_ ?_
        · exact fe_v v21_1
        · refine ie_lst ?_
          refine fa_cons ?_ ?_ ?_
          · rfl
          · refine ie_tup ?_
            exact ia_nil
          · refine fa_cons ?_ ?_ ?_
            · rfl
            · refine ie_lst ?_
              exact ia_nil
            · refine fa_cons ?_ ?_ ?_
              · rfl
              · refine ie_tup ?_
                refine fa_cons ?_ ?_ ?_
                · rfl
                · refine fe_str ?_
                  kernel_rfl
                · exact ia_nil
              · refine fa_cons ?_ ?_ ?_
                · rfl
                · refine ie_tup ?_
                  refine fa_cons ?_ ?_ ?_
                  · rfl
                  · refine fe_str ?_
                    kernel_rfl
                  · refine fa_cons ?_ ?_ ?_
                    · rfl
                    · exact ie_int
                    · exact ia_nil
                · refine fa_cons ?_ ?_ ?_
                  · rfl
                  · refine ie_tup ?_
                    refine fa_cons ?_ ?_ ?_
                    · rfl
                    · refine fe_str ?_
                      kernel_rfl
                    · refine fa_cons ?_ ?_ ?_
                      · rfl
                      · refine fe_str ?_
                        kernel_rfl
                      · exact ia_nil
                  · refine fa_cons ?_ ?_ ?_
                    · rfl
                    · refine ie_tup ?_
                      refine fa_cons ?_ ?_ ?_
                      · rfl
                      · refine fe_str ?_
                        kernel_rfl
                      · refine fa_cons ?_ ?_ ?_
                        · rfl
                        · refine fe_str ?_
                          kernel_rfl
                        · exact ia_nil
                    · refine fa_cons ?_ ?_ ?_
                      · rfl
                      · refine ie_tup ?_
                        refine fa_cons ?_ ?_ ?_
                        · rfl
                        · refine fe_str ?_
                          kernel_rfl
                        · refine fa_cons ?_ ?_ ?_
                          · rfl
                          · refine fe_str ?_
                            kernel_rfl
                          · exact ia_nil
                      · refine fa_cons ?_ ?_ ?_
                        · rfl
                        · refine fe_str ?_
                          kernel_rfl
                        · refine fa_cons ?_ ?_ ?_
                          · rfl
                          · refine fe_str ?_
                            kernel_rfl
                          · exact ia_nil
    · refine iss_one ?_
      refine is_ret ?_
      refine fe_at ?_ ?_ ?_
      · rfl
      · exact fe_v v21_1
      · refine ie_bin om_mod ?_ ?_
        · exact fe_v v21_0
        · exact ie_int

end
end Jm
end
section
set_option Elab.async false
set_option linter.all false
set_option maxRecDepth 100000
set_option maxHeartbeats 4000000
namespace Jm
open PySem PySem.Spec PyProof.Rows L2 R
variable [Tbl]
section
variable {P : Program} {w : World} {K : PySem.W.Frag} {mg : Str → Option Value} {base : Heap} {f : Addr} {fd : FuncData} {n : Nat} {C C' : CT}
theorem sc22 : FnScope N22 ["_law_thing", "_law_number", "_law_deep"] (defScope s22) := ⟨rfl, rfl, rfl, by decide +kernel, rfl, by decide +kernel, by decide +kernel⟩
theorem v22_0 : VarOk N22 (defScope s22) 0 "_law_thing" := ⟨rfl, Or.inl (by kernel_rfl), (by kernel_rfl), (by kernel_rfl)⟩
theorem v22_1 : VarOk N22 (defScope s22) 1 "_law_number" := ⟨rfl, Or.inl (by kernel_rfl), (by kernel_rfl), (by kernel_rfl)⟩
theorem v22_2 : VarOk N22 (defScope s22) 2 "_law_deep" := ⟨rfl, Or.inl (by kernel_rfl), (by kernel_rfl), (by kernel_rfl)⟩
theorem v22_3 : VarOk N22 (defScope s22) 3 "_law_at" := ⟨rfl, Or.inl (by kernel_rfl), (by kernel_rfl), (by kernel_rfl)⟩
theorem v22_4 : VarOk N22 (defScope s22) 4 "_law_part" := ⟨rfl, Or.inl (by kernel_rfl), (by kernel_rfl), (by kernel_rfl)⟩
theorem g22__law_odd : (defScope s22).names.lookup ("_law_odd" : Str) = some .globalImplicit := by kernel_rfl
theorem g22__law_spoilt : (defScope s22).names.lookup ("_law_spoilt" : Str) = some .globalImplicit := by kernel_rfl
theorem g22_int : (defScope s22).names.lookup ("int" : Str) = some .globalImplicit := by kernel_rfl
theorem g22_isinstance : (defScope s22).names.lookup ("isinstance" : Str) = some .globalImplicit := by kernel_rfl
theorem g22_len : (defScope s22).names.lookup ("len" : Str) = some .globalImplicit := by kernel_rfl
theorem g22_list : (defScope s22).names.lookup ("list" : Str) = some .globalImplicit := by kernel_rfl
theorem g22_str : (defScope s22).names.lookup ("str" : Str) = some .globalImplicit := by kernel_rfl
theorem g22_tuple : (defScope s22).names.lookup ("tuple" : Str) = some .globalImplicit := by kernel_rfl
theorem ok22 (F : Fun K "_law_spoilt" "_law_spoilt" s22 f fd) (TT : Tab P w K mg base n C) : FnOk P w K mg base CX0 (n + 1) f fd ["_law_thing", "_law_number", "_law_deep"] (spD K (runD 3 5 (B22 C C'))) := by
  refine def_ok F sc22 ?_
  intro cdv A outer s H E hr
  refine iss_cons ?_ ?_
  · refine is_if ?_ ?_ ?_
    · refine IW.it ?_
      refine iw_and ?_ ?_
      · refine it_cm om_gt ?_ ?_ (nomark _)
        · exact fe_v v22_2
        · exact ie_int
      · refine iw_and ?_ ?_
        · refine ft_truth ?_ ?_
          · rfl
          · refine fe_isi (known_tuple _) ?_ g22_isinstance TT.b_isinstance g22_tuple TT.b_tuple PyProof.Rows.boot_tuple ?_ ?_ ?_
            · rfl
            · kernel_rfl
            · kernel_rfl
            · exact fe_v v22_0
        · refine iw_and ?_ ?_
          · refine it_cm om_gt ?_ ?_ (nomark _)
            · refine fe_callB cm_len opL_rD g22_len TT.b_len PySem.boot_len ?_ ?_ ?_ ?_
              · rfl
              · kernel_rfl
              · kernel_rfl
              · refine fa_cons ?_ ?_ ?_
                · rfl
                · exact fe_v v22_0
                · exact ia_nil
            · exact ie_int
          · refine iw_and1 ?_
            refine it_cm om_gt ?_ ?_ (nomark _)
            · refine ie_bin om_mod ?_ ?_
              · exact fe_v v22_1
              · exact ie_int
            · exact ie_int
    · refine iss_cons ?_ ?_
      · refine fs_set (i := 3) sc22.nd ?_ (Or.inl ?_) ?_ (.inl rfl) ?_
        · rfl
        · kernel_rfl
        · rfl
        · refine ie_bin om_mod ?_ ?_
          · refine ie_bin om_fdiv ?_ ?_
            · exact fe_v v22_1
            · exact ie_int
          · refine fe_callB cm_len opL_rD g22_len TT.b_len PySem.boot_len ?_ ?_ ?_ ?_
            · rfl
            · kernel_rfl
            · kernel_rfl
            · refine fa_cons ?_ ?_ ?_
              · rfl
              · exact fe_v v22_0
              · exact ia_nil
      · refine iss_cons ?_ ?_
        · refine fs_set (i := 4) sc22.nd ?_ (Or.inl ?_) ?_ (.inl rfl) ?_
          · rfl
          · kernel_rfl
          · rfl
          · refine fe_call TT.c22 hr g22__law_spoilt ?_ ?_ ?_
            · rfl
            · kernel_rfl
            · refine fa_cons ?_ ?_ ?_
              · rfl
              · refine fe_at ?_ ?_ ?_
                · rfl
                · exact fe_v v22_0
                · exact fe_v v22_3
              · refine fa_cons ?_ ?_ ?_
                · rfl
                · refine ie_bin om_fdiv ?_ ?_
                  · refine ie_bin om_fdiv ?_ ?_
                    · exact fe_v v22_1
                    · exact ie_int
                  · refine fe_callB cm_len opL_rD g22_len TT.b_len PySem.boot_len ?_ ?_ ?_ ?_
                    · rfl
                    · kernel_rfl
                    · kernel_rfl
                    · refine fa_cons ?_ ?_ ?_
                      · rfl
                      · exact fe_v v22_0
                      · exact ia_nil
                · refine fa_cons ?_ ?_ ?_
                  · rfl
                  · refine ie_bin om_sub ?_ ?_
                    · exact fe_v v22_2
                    · exact ie_int
                  · exact ia_nil
        · refine iss_one ?_
          refine is_ret ?_
          refine ie_bin om_add ?_ ?_
          · refine ie_bin om_add ?_ ?_
            · refine ie_slice ?_ ?_ ?_
              · exact fe_v v22_0
              · exact io_none
              · refine io_some ?_
                exact fe_v v22_3
            · refine ie_tup ?_
              refine fa_cons ?_ ?_ ?_
              · rfl
              · exact fe_v v22_4
              · exact ia_nil
          · refine ie_slice ?_ ?_ ?_
            · exact fe_v v22_0
            · refine io_some ?_
              refine ie_bin om_add ?_ ?_
              · exact fe_v v22_3
              · exact ie_int
            · exact io_none
    · exact iss_nil
  · refine iss_cons ?_ ?_
    · refine is_if ?_ ?_ ?_
      · refine IW.it ?_
        refine iw_and ?_ ?_
        · refine ft_truth ?_ ?_
          · rfl
          · refine fe_isi (known_tuple _) ?_ g22_isinstance TT.b_isinstance g22_tuple TT.b_tuple PyProof.Rows.boot_tuple ?_ ?_ ?_
            · rfl
            · kernel_rfl
            · kernel_rfl
            · exact fe_v v22_0
        · refine iw_and ?_ ?_
          · refine it_cm om_gt ?_ ?_ (nomark _)
            · refine fe_callB cm_len opL_rD g22_len TT.b_len PySem.boot_len ?_ ?_ ?_ ?_
              · rfl
              · kernel_rfl
              · kernel_rfl
              · refine fa_cons ?_ ?_ ?_
                · rfl
                · exact fe_v v22_0
                · exact ia_nil
            · exact ie_int
          · refine iw_and1 ?_
            refine it_cm (om_eq (room100 hr)) ?_ ?_ (nomark _)
            · refine ie_bin om_mod ?_ ?_
              · refine ie_bin om_fdiv ?_ ?_
                · exact fe_v v22_1
                · exact ie_int
              · exact ie_int
            · exact ie_int
      · refine iss_one ?_
        refine is_ret ?_
        refine fe_at ?_ ?_ ?_
        · rfl
        · refine ie_lst ?_
          refine fa_cons ?_ ?_ ?_
          · rfl
          · refine fe_callTy cm_list opL_rD g22_list TT.b_list PyProof.Rows.boot_list ?_ ?_ ?_ ?_
            · rfl
            · kernel_rfl
            · kernel_rfl
            · refine fa_cons ?_ ?_ ?_
              · rfl
              · exact fe_v v22_0
              · exact ia_nil
          · refine fa_cons ?_ ?_ ?_
            · rfl
            · refine ie_slice ?_ ?_ ?_
              · exact fe_v v22_0
              · exact io_none
              · refine io_some ?_
                refine ie_neg ?_
                exact ie_int
            · refine fa_cons ?_ ?_ ?_
              · rfl
              · refine ie_bin om_add ?_ ?_
                · exact fe_v v22_0
                · refine ie_slice ?_ ?_ ?_
                  · exact fe_v v22_0
                  · refine io_some ?_
                    refine ie_neg ?_
                    exact ie_int
                  · exact io_none
              · refine fa_cons ?_ ?_ ?_
                · rfl
                · refine ie_slice ?_ ?_ ?_
                  · exact fe_v v22_0
                  · refine io_some ?_
                    exact ie_int
                  · exact io_none
                · refine fa_cons ?_ ?_ ?_
                  · rfl
                  · refine ie_rev ?_ ?_
                    · exact fe_v v22_0
                    · refine ie_neg ?_
                      exact ie_int
                  · refine fa_cons ?_ ?_ ?_
                    · rfl
                    · refine ie_bin om_mul ?_ ?_
                      · exact fe_v v22_0
                      · exact ie_int
                    · exact ia_nil
        · refine ie_bin om_mod ?_ ?_
          · refine ie_bin om_fdiv ?_ ?_
            · exact fe_v v22_1
            · exact ie_int
          · exact ie_int
      · exact iss_nil
    · refine iss_cons ?_ ?_
      · refine is_if ?_ ?_ ?_
        · refine IW.it ?_
          refine iw_and ?_ ?_
          · refine ft_truth ?_ ?_
            · rfl
            · refine fe_isi (known_int _) ?_ g22_isinstance TT.b_isinstance g22_int TT.b_int PyProof.Rows.boot_int ?_ ?_ ?_
              · rfl
              · kernel_rfl
              · kernel_rfl
              · exact fe_v v22_0
          · refine iw_and1 ?_
            refine it_cm (om_eq (room100 hr)) ?_ ?_ (nomark _)
            · refine ie_bin om_mod ?_ ?_
              · refine ie_bin om_fdiv ?_ ?_
                · exact fe_v v22_1
                · exact ie_int
              · exact ie_int
            · exact ie_int
        · refine iss_one ?_
          refine is_ret ?_
          refine fe_at ?_ ?_ ?_
          · rfl
          · refine ie_lst ?_
            refine fa_cons ?_ ?_ ?_
            · rfl
            · refine fe_callTy cm_str opL_rD g22_str TT.b_str PyProof.Rows.boot_str ?_ ?_ ?_ ?_
              · rfl
              · kernel_rfl
              · kernel_rfl
              · refine fa_cons ?_ ?_ ?_
                · rfl
                · exact fe_v v22_0
                · exact ia_nil
            · refine fa_cons ?_ ?_ ?_
              · rfl
              · refine ie_neg ?_
                exact fe_v v22_0
              · refine fa_cons ?_ ?_ ?_
                · rfl
                · refine ie_bin om_mul ?_ ?_
                  · exact fe_v v22_0
                  · exact ie_int
                · refine fa_cons ?_ ?_ ?_
                  · rfl
                  · refine ie_cm (om_eq (room100 hr)) ?_ ?_ (nomark _)
                    · exact fe_v v22_0
                    · exact ie_int
                  · refine fa_cons ?_ ?_ ?_
                    · rfl
                    · refine ie_bin om_add ?_ ?_
                      · exact fe_v v22_0
                      · exact ie_int
                    · exact ia_nil
          · refine ie_bin om_mod ?_ ?_
            · refine ie_bin om_fdiv ?_ ?_
              · exact fe_v v22_1
              · exact ie_int
            · exact ie_int
        · exact iss_nil
      · refine iss_cons ?_ ?_
        · refine is_if ?_ ?_ ?_
          · refine IW.it ?_
            refine iw_and ?_ ?_
            · refine ft_truth ?_ ?_
              · rfl
              · refine fe_isi (known_str _) ?_ g22_isinstance TT.b_isinstance g22_str TT.b_str PyProof.Rows.boot_str ?_ ?_ ?_
                · rfl
                · kernel_rfl
                · kernel_rfl
                · exact fe_v v22_0
            · refine iw_and1 ?_
              refine it_cm (om_eq (room100 hr)) ?_ ?_ (nomark _)
              · refine ie_bin om_mod ?_ ?_
                · refine ie_bin om_fdiv ?_ ?_
                  · exact fe_v v22_1
                  · exact ie_int
                · exact ie_int
              · exact ie_int
          · refine iss_one ?_
            refine is_ret ?_
            refine fe_at ?_ ?_ ?_
            · rfl
            · refine ie_lst ?_
              refine fa_cons ?_ ?_ ?_
              · rfl
              · refine ie_bin om_add ?_ ?_
                · exact fe_v v22_0
                · refine fe_str ?_
                  kernel_rfl
              · refine fa_cons ?_ ?_ ?_
                · rfl
                · refine ie_slice ?_ ?_ ?_
                  · exact fe_v v22_0
                  · exact io_none
                  · refine io_some ?_
                    refine ie_neg ?_
                    exact ie_int
                · refine fa_cons ?_ ?_ ?_
                  · rfl
                  · refine ie_upper ?_ ?_ ?_
                    · exact fe_v v22_0
                    · kernel_rfl
                    · rfl
                  · refine fa_cons ?_ ?_ ?_
                    · rfl
                    · refine ie_bin om_add ?_ ?_
                      · exact fe_v v22_0
                      · refine fe_str ?_
                        kernel_rfl
                    · refine fa_cons ?_ ?_ ?_
                      · rfl
                      · refine fe_str ?_
                        kernel_rfl
                      · refine fa_cons ?_ ?_ ?_
                        · rfl
                        · refine ie_bin om_mul ?_ ?_
                          · exact fe_v v22_0
                          · exact ie_int
                        · refine fa_cons ?_ ?_ ?_
                          · rfl
                          · refine ie_rev ?_ ?_
                            · exact fe_v v22_0
                            · refine ie_neg ?_
                              exact ie_int
                          · exact ia_nil
            · refine ie_bin om_mod ?_ ?_
              · refine ie_bin om_fdiv ?_ ?_
                · exact fe_v v22_1
                · exact ie_int
              · exact ie_int
          · exact iss_nil
        · refine iss_one ?_
          refine is_ret ?_
          refine fe_call TT.c21 hr g22__law_odd ?_ ?_ ?_
          · rfl
          · kernel_rfl
          · refine fa_cons ?_ ?_ ?_
            · rfl
            · refine ie_bin om_fdiv ?_ ?_
              · exact fe_v v22_1
              · exact ie_int
            · exact ia_nil

end
end Jm
end
section
set_option Elab.async false
set_option linter.all false
set_option maxRecDepth 100000
set_option maxHeartbeats 4000000
namespace Jm
open PySem PySem.Spec PyProof.Rows L2 R
variable [Tbl]
section
variable {P : Program} {w : World} {K : PySem.W.Frag} {mg : Str → Option Value} {base : Heap} {f : Addr} {fd : FuncData} {n : Nat} {C C' : CT}
theorem sc23 : FnScope N23 ["_law_found", "_law_due"] (defScope s23) := ⟨rfl, rfl, rfl, by decide +kernel, rfl, by decide +kernel, by decide +kernel⟩
theorem v23_0 : VarOk N23 (defScope s23) 0 "_law_found" := ⟨rfl, Or.inl (by kernel_rfl), (by kernel_rfl), (by kernel_rfl)⟩
theorem v23_1 : VarOk N23 (defScope s23) 1 "_law_due" := ⟨rfl, Or.inl (by kernel_rfl), (by kernel_rfl), (by kernel_rfl)⟩
theorem g23_bool : (defScope s23).names.lookup ("bool" : Str) = some .globalImplicit := by kernel_rfl
theorem g23_isinstance : (defScope s23).names.lookup ("isinstance" : Str) = some .globalImplicit := by kernel_rfl
theorem ok23 (F : Fun K "_law_same" "_law_same" s23 f fd) (TT : Tab P w K mg base n C) : FnOk P w K mg base CX0 (n + 1) f fd ["_law_found", "_law_due"] (spD K (runD 2 2 (B23 C C'))) := by
  refine def_ok F sc23 ?_
  intro cdv A outer s H E hr
  refine iss_one ?_
  refine is_ret ?_
  refine ie_and ?_ ?_
  · refine fe_isi (known_bool _) ?_ g23_isinstance TT.b_isinstance g23_bool TT.b_bool PyProof.Rows.boot_bool ?_ ?_ ?_
    · rfl
    · kernel_rfl
    · kernel_rfl
    · exact fe_v v23_0
  · refine ie_one ?_
    refine ie_cm (om_eq (room100 hr)) ?_ ?_ (nomark _)
    · exact fe_v v23_0
    · exact fe_v v23_1

end
end Jm
end
section
set_option Elab.async false
set_option linter.all false
set_option maxRecDepth 100000
set_option maxHeartbeats 4000000
namespace Jm
open PySem PySem.Spec PyProof.Rows L2 R
variable [Tbl]
section
variable {P : Program} {w : World} {K : PySem.W.Frag} {mg : Str → Option Value} {base : Heap} {f : Addr} {fd : FuncData} {n : Nat} {C C' : CT}
theorem sc24 : FnScope N24 ["_law_script"] (defScope s24) := ⟨rfl, rfl, rfl, by decide +kernel, rfl, by decide +kernel, by decide +kernel⟩
theorem v24_0 : VarOk N24 (defScope s24) 0 "_law_script" := ⟨rfl, Or.inr (Or.inl (by kernel_rfl)), (by kernel_rfl), (by kernel_rfl)⟩
theorem v24_1 : VarOk N24 (defScope s24) 1 "_law_stem_here" := ⟨rfl, Or.inr (Or.inl (by kernel_rfl)), (by kernel_rfl), (by kernel_rfl)⟩
theorem v24_2 : VarOk N24 (defScope s24) 2 "_law_names" := ⟨rfl, Or.inl (by kernel_rfl), (by kernel_rfl), (by kernel_rfl)⟩
theorem v24_3 : VarOk N24 (defScope s24) 3 "_law_deeds" := ⟨rfl, Or.inl (by kernel_rfl), (by kernel_rfl), (by kernel_rfl)⟩
theorem v24_4 : VarOk N24 (defScope s24) 4 "_law_thing" := ⟨rfl, Or.inl (by kernel_rfl), (by kernel_rfl), (by kernel_rfl)⟩
theorem v24_5 : VarOk N24 (defScope s24) 5 "_law_k" := ⟨rfl, Or.inl (by kernel_rfl), (by kernel_rfl), (by kernel_rfl)⟩
theorem g24__law_drawn : (defScope s24).names.lookup ("_law_drawn" : Str) = some .globalImplicit := by kernel_rfl
theorem g24__law_expression : (defScope s24).names.lookup ("_law_expression" : Str) = some .globalImplicit := by kernel_rfl
theorem g24__law_is_expression : (defScope s24).names.lookup ("_law_is_expression" : Str) = some .globalImplicit := by kernel_rfl
theorem g24__law_mixed : (defScope s24).names.lookup ("_law_mixed" : Str) = some .globalImplicit := by kernel_rfl
theorem g24__law_same : (defScope s24).names.lookup ("_law_same" : Str) = some .globalImplicit := by kernel_rfl
theorem g24__law_spoilt : (defScope s24).names.lookup ("_law_spoilt" : Str) = some .globalImplicit := by kernel_rfl
theorem g24_is_expression : (defScope s24).names.lookup ("is_expression" : Str) = some .globalImplicit := by kernel_rfl
theorem g24_range : (defScope s24).names.lookup ("range" : Str) = some .globalImplicit := by kernel_rfl
theorem ok24 (F : Fun K "law" "law" s24 f fd) (TT : Tab P w K mg base n C) : FnOk P w K mg base CX0 (n + 1) f fd ["_law_script"] (spD K (runD 1 6 (B24 C C'))) := by
  refine def_ok F sc24 ?_
  intro cdv A outer s H E hr
  refine iss_cons ?_ ?_
  · refine fs_set (i := 1) sc24.nd ?_ (Or.inr ?_) ?_ (.inl rfl) ?_
    · rfl
    · kernel_rfl
    · rfl
    · refine fe_call TT.c10 hr g24__law_mixed ?_ ?_ ?_
      · rfl
      · kernel_rfl
      · refine fa_cons ?_ ?_ ?_
        · rfl
        · exact fe_v v24_0
        · refine fa_cons ?_ ?_ ?_
          · rfl
          · exact ie_int
          · exact ia_nil
  · refine iss_cons ?_ ?_
    · refine is_setComp (i := 2) (cscope (x := "_law_k") (caps := ["_law_stem_here"]) (js := [1]) (N := N24) (sc := defScope s24) rfl rfl rfl ?_ ?_ ?_ ?_ ?_ rfl ?_) rfl ?_ ?_ ?_ sc24.nd rfl (Or.inl ?_) ?_ (fold_of ?_) (.inl rfl)
      · decide +kernel
      · decide +kernel
      · decide +kernel
      · decide +kernel
      · decide +kernel
      · decide +kernel
      · refine fi_range g24_range TT.b_range ?_ ?_
        · rfl
        · refine ie_bin om_add ?_ ?_
          · exact ie_int
          · refine ie_bin om_mod ?_ ?_
            · refine ie_bin om_fdiv ?_ ?_
              · exact fe_v v24_1
              · exact ie_int
            · exact ie_int
      · intro Cc fp ss HH EE
        exact ifs_none
      · intro Cc fp ss HH EE
        refine fe_call TT.c13 hr ?_ ?_ ?_ ?_
        · kernel_rfl
        · rfl
        · kernel_rfl
        · refine fa_cons ?_ ?_ ?_
          · rfl
          · refine fe_v ⟨rfl, Or.inr (Or.inl ?_), ?_, ?_⟩
            · kernel_rfl
            · kernel_rfl
            · kernel_rfl
          · refine fa_cons ?_ ?_ ?_
            · rfl
            · refine fe_v ⟨rfl, Or.inl ?_, ?_, ?_⟩
              · kernel_rfl
              · kernel_rfl
              · kernel_rfl
            · exact ia_nil
      · kernel_rfl
      · kernel_rfl
      · rfl
    · refine iss_cons ?_ ?_
      · refine is_setComp (i := 3) (cscope (x := "_law_k") (caps := ["_law_stem_here", "_law_script"]) (js := [1, 0]) (N := N24) (sc := defScope s24) rfl rfl rfl ?_ ?_ ?_ ?_ ?_ rfl ?_) rfl ?_ ?_ ?_ sc24.nd rfl (Or.inl ?_) ?_ (fold_of ?_) (.inl rfl)
        · decide +kernel
        · decide +kernel
        · decide +kernel
        · decide +kernel
        · decide +kernel
        · decide +kernel
        · refine fi_range g24_range TT.b_range ?_ ?_
          · rfl
          · exact ie_int
        · intro Cc fp ss HH EE
          exact ifs_none
        · intro Cc fp ss HH EE
          refine ie_tup ?_
          refine fa_cons ?_ ?_ ?_
          · rfl
          · refine fe_call TT.c13 hr ?_ ?_ ?_ ?_
            · kernel_rfl
            · rfl
            · kernel_rfl
            · refine fa_cons ?_ ?_ ?_
              · rfl
              · refine fe_v ⟨rfl, Or.inr (Or.inl ?_), ?_, ?_⟩
                · kernel_rfl
                · kernel_rfl
                · kernel_rfl
              · refine fa_cons ?_ ?_ ?_
                · rfl
                · refine ie_bin om_add ?_ ?_
                  · exact ie_int
                  · refine fe_v ⟨rfl, Or.inl ?_, ?_, ?_⟩
                    · kernel_rfl
                    · kernel_rfl
                    · kernel_rfl
                · exact ia_nil
          · refine fa_cons ?_ ?_ ?_
            · rfl
            · refine ie_bin om_mod ?_ ?_
              · refine fe_call TT.c10 hr ?_ ?_ ?_ ?_
                · kernel_rfl
                · rfl
                · kernel_rfl
                · refine fa_cons ?_ ?_ ?_
                  · rfl
                  · refine fe_v ⟨rfl, Or.inr (Or.inl ?_), ?_, ?_⟩
                    · kernel_rfl
                    · kernel_rfl
                    · kernel_rfl
                  · refine fa_cons ?_ ?_ ?_
                    · rfl
                    · refine ie_bin om_add ?_ ?_
                      · exact ie_int
                      · refine fe_v ⟨rfl, Or.inl ?_, ?_, ?_⟩
                        · kernel_rfl
                        · kernel_rfl
                        · kernel_rfl
                    · exact ia_nil
              · exact ie_int
            · exact ia_nil
        · kernel_rfl
        · kernel_rfl
        · rfl
      · refine iss_cons ?_ ?_
        · refine fs_set (i := 4) sc24.nd ?_ (Or.inl ?_) ?_ (.inl rfl) ?_
          · rfl
          · kernel_rfl
          · rfl
          · refine fe_call TT.c15 hr g24__law_expression ?_ ?_ ?_
            · rfl
            · kernel_rfl
            · refine fa_cons ?_ ?_ ?_
              · rfl
              · refine fe_call TT.c10 hr g24__law_mixed ?_ ?_ ?_
                · rfl
                · kernel_rfl
                · refine fa_cons ?_ ?_ ?_
                  · rfl
                  · exact fe_v v24_0
                  · refine fa_cons ?_ ?_ ?_
                    · rfl
                    · exact ie_int
                    · exact ia_nil
              · refine fa_cons ?_ ?_ ?_
                · rfl
                · exact fe_v v24_2
                · refine fa_cons ?_ ?_ ?_
                  · rfl
                  · exact fe_v v24_3
                  · refine fa_cons ?_ ?_ ?_
                    · rfl
                    · refine ie_bin om_mod ?_ ?_
                      · refine fe_call TT.c10 hr g24__law_mixed ?_ ?_ ?_
                        · rfl
                        · kernel_rfl
                        · refine fa_cons ?_ ?_ ?_
                          · rfl
                          · exact fe_v v24_0
                          · refine fa_cons ?_ ?_ ?_
                            · rfl
                            · exact ie_int
                            · exact ia_nil
                      · exact ie_int
                    · exact ia_nil
        · refine iss_cons ?_ ?_
          · refine is_if ?_ ?_ ?_
            · refine it_cm (om_eq (room100 hr)) ?_ ?_ (nomark _)
              · refine ie_bin om_mod ?_ ?_
                · refine ie_bin om_fdiv ?_ ?_
                  · refine fe_call TT.c10 hr g24__law_mixed ?_ ?_ ?_
                    · rfl
                    · kernel_rfl
                    · refine fa_cons ?_ ?_ ?_
                      · rfl
                      · exact fe_v v24_0
                      · refine fa_cons ?_ ?_ ?_
                        · rfl
                        · exact ie_int
                        · exact ia_nil
                  · exact ie_int
                · exact ie_int
              · exact ie_int
            · refine iss_one ?_
              refine is_for rfl PassesOwn.never ?_ (pg_name (i := 5) sc24.nd ?_ (Or.inl ?_) (.inl rfl)) ?_ (fold_of ?_)
              · refine fi_range g24_range TT.b_range ?_ ?_
                · rfl
                · refine ie_bin om_add ?_ ?_
                  · exact ie_int
                  · refine ie_bin om_mod ?_ ?_
                    · refine ie_bin om_fdiv ?_ ?_
                      · refine fe_call TT.c10 hr g24__law_mixed ?_ ?_ ?_
                        · rfl
                        · kernel_rfl
                        · refine fa_cons ?_ ?_ ?_
                          · rfl
                          · exact fe_v v24_0
                          · refine fa_cons ?_ ?_ ?_
                            · rfl
                            · exact ie_int
                            · exact ia_nil
                      · exact ie_int
                    · exact ie_int
              · rfl
              · kernel_rfl
              · refine iss_one ?_
                refine fs_set (i := 4) sc24.nd ?_ (Or.inl ?_) ?_ (.inl rfl) ?_
                · rfl
                · kernel_rfl
                · rfl
                · refine ie_tup ?_
                  refine fa_cons ?_ ?_ ?_
                  · rfl
                  · refine fe_at ?_ ?_ ?_
                    · rfl
                    · refine fe_str ?_
                      kernel_rfl
                    · refine ie_bin om_mod ?_ ?_
                      · refine fe_call TT.c11 hr g24__law_drawn ?_ ?_ ?_
                        · rfl
                        · kernel_rfl
                        · refine fa_cons ?_ ?_ ?_
                          · rfl
                          · exact fe_v v24_1
                          · refine fa_cons ?_ ?_ ?_
                            · rfl
                            · exact fe_v v24_5
                            · exact ia_nil
                      · exact ie_int
                  · refine fa_cons ?_ ?_ ?_
                    · rfl
                    · refine ie_tup ?_
                      refine fa_cons ?_ ?_ ?_
                      · rfl
                      · refine fe_str ?_
                        kernel_rfl
                      · refine fa_cons ?_ ?_ ?_
                        · rfl
                        · exact fe_v v24_5
                        · exact ia_nil
                    · refine fa_cons ?_ ?_ ?_
                      · rfl
                      · exact fe_v v24_4
                      · exact ia_nil
              · rfl
            · exact iss_nil
          · refine iss_cons ?_ ?_
            · refine is_if ?_ ?_ ?_
              · refine it_cm (om_eq (room100 hr)) ?_ ?_ (nomark _)
                · refine ie_bin om_mod ?_ ?_
                  · refine fe_call TT.c10 hr g24__law_mixed ?_ ?_ ?_
                    · rfl
                    · kernel_rfl
                    · refine fa_cons ?_ ?_ ?_
                      · rfl
                      · exact fe_v v24_0
                      · refine fa_cons ?_ ?_ ?_
                        · rfl
                        · exact ie_int
                        · exact ia_nil
                  · exact ie_int
                · exact ie_int
              · refine iss_one ?_
                refine fs_set (i := 4) sc24.nd ?_ (Or.inl ?_) ?_ (.inl rfl) ?_
                · rfl
                · kernel_rfl
                · rfl
                · refine fe_call TT.c22 hr g24__law_spoilt ?_ ?_ ?_
                  · rfl
                  · kernel_rfl
                  · refine fa_cons ?_ ?_ ?_
                    · rfl
                    · exact fe_v v24_4
                    · refine fa_cons ?_ ?_ ?_
                      · rfl
                      · refine fe_call TT.c10 hr g24__law_mixed ?_ ?_ ?_
                        · rfl
                        · kernel_rfl
                        · refine fa_cons ?_ ?_ ?_
                          · rfl
                          · exact fe_v v24_0
                          · refine fa_cons ?_ ?_ ?_
                            · rfl
                            · exact ie_int
                            · exact ia_nil
                      · refine fa_cons ?_ ?_ ?_
                        · rfl
                        · refine ie_bin om_mod ?_ ?_
                          · refine ie_bin om_fdiv ?_ ?_
                            · refine fe_call TT.c10 hr g24__law_mixed ?_ ?_ ?_
                              · rfl
                              · kernel_rfl
                              · refine fa_cons ?_ ?_ ?_
                                · rfl
                                · exact fe_v v24_0
                                · refine fa_cons ?_ ?_ ?_
                                  · rfl
                                  · exact ie_int
                                  · exact ia_nil
                            · exact ie_int
                          · exact ie_int
                        · exact ia_nil
              · exact iss_nil
            · refine iss_one ?_
              refine is_ret ?_
              refine fe_call TT.c23 hr g24__law_same ?_ ?_ ?_
              · rfl
              · kernel_rfl
              · refine fa_cons ?_ ?_ ?_
                · rfl
                · refine fe_call TT.c6 hr g24_is_expression ?_ ?_ ?_
                  · rfl
                  · kernel_rfl
                  · refine fa_cons ?_ ?_ ?_
                    · rfl
                    · exact fe_v v24_4
                    · exact ia_nil
                · refine fa_cons ?_ ?_ ?_
                  · rfl
                  · refine fe_call TT.c20 hr g24__law_is_expression ?_ ?_ ?_
                    · rfl
                    · kernel_rfl
                    · refine fa_cons ?_ ?_ ?_
                      · rfl
                      · exact fe_v v24_4
                      · refine fa_cons ?_ ?_ ?_
                        · rfl
                        · exact ie_int
                        · exact ia_nil
                  · exact ia_nil
end
end Jm
end
section
set_option Elab.async false
set_option linter.all false
set_option maxRecDepth 100000
set_option maxHeartbeats 4000000
namespace Jm
open PySem PySem.Spec PyProof.Rows L2 R
variable [Tbl]
theorem row_body (v : V) (cl : List (Addr × HO)) (m : List D → Res D) (t o x : D) : sIf (bNot (mT (mIs 2 v cl m (aCons (gv 3) (aNil))))) (sRet (kc (.bl false))) (sNext) [.val t, .val o, .is v cl, .val x] =
    ((m [x]).bind dTru).bind fun b => if b = true then .ok (.nx [.val t, .val o, .is v cl, .val x]) else .ok (.rt (.bl false)) := by
  have e : mIs 2 v cl m (aCons (gv 3) (aNil)) [.val t, .val o, .is v cl, .val x] = m [x] := by
    have hc : ([.val t, .val o, .is v cl, .val x] : Rho)[2]? = some (.is v cl) := rfl
    unfold mIs
    rw [if_pos hc]; rfl
  have et : mT (mIs 2 v cl m (aCons (gv 3) (aNil))) [.val t, .val o, .is v cl, .val x] = (m [x]).bind dTru := by unfold mT; rw [e]
  unfold sIf bNot
  rw [et]
  cases (m [x]).bind dTru with
  | ok b => cases b <;> rfl
  | ex _ => rfl
  | bad => rfl
theorem row_loop (v : V) (cl : List (Addr × HO)) (m : List D → Res D) (t o : D) : ∀ (xs : List D) (sl : Slot),
    ((turns 3 (sIf (bNot (mT (mIs 2 v cl m (aCons (gv 3) (aNil))))) (sRet (kc (.bl false))) (sNext)) xs [.val t, .val o, .is v cl, sl]).bind (andThen (sRet (kc (.bl true))))).bind out = allM m xs
  | [], sl => rfl
  | x :: r, sl => by
    rw [turns]
    show (Res.bind (Res.bind (Res.bind (sIf _ _ _ [.val t, .val o, .is v cl, .val x]) _) _) _) = _
    rw [row_body, allM]
    cases m [x] with
    | ex _ => rfl
    | bad => rfl
    | ok d =>
      show (Res.bind (Res.bind (Res.bind (Res.bind (dTru d) _) _) _) _) = Res.bind (dTru d) _
      cases dTru d with
      | ex _ => rfl
      | bad => rfl
      | ok b =>
        cases b with
        | false => rfl
        | true => exact row_loop v cl m t o r (.val x)
theorem row_eq (C : CT) (v : V) (cl : List (Addr × HO)) (m : List D → Res D) (ds : List D) : rowP m ds = .bad ∨ runH 3 4 v cl (B4 C v cl m) ds = rowP m ds := by
  unfold rowP
  split
  · rename_i xs most
    right
    show ((B4 C v cl m) [.val (.tup xs), .val (.int most), .is v cl, .no]).bind out = _
    unfold B4
    by_cases h : most < (xs.length : Int)
    · rw [if_pos h]
      simp [sSeq, sIf, bOr, bNot, mT, mB, m1, m2, gv, kc, dIsi, isiT, Res.bind, dTru, mA, aCons, aNil, dLen, dGt, dBool, h, sRet, andThen, out]
    · rw [if_neg h]
      have s1 : sIf (bOr (bNot (mT (m1 (dIsi "tuple") (gv 0)))) (mB (m2 dGt (mA dLen (aCons (gv 0) (aNil))) (gv 1)))) (sRet (kc (.bl false))) (sNext) [.val (.tup xs), .val (.int most), .is v cl, .no] = .ok (.nx [.val (.tup xs), .val (.int most), .is v cl, .no]) := by
        simp [sIf, bOr, bNot, mT, mB, m1, m2, gv, kc, dIsi, isiT, Res.bind, dTru, mA, aCons, aNil, dLen, dGt, dBool, h, sNext]
      show Res.bind (Res.bind (sIf _ _ _ [.val (.tup xs), .val (.int most), .is v cl, .no]) _) _ = _
      rw [s1]
      exact row_loop v cl m (.tup xs) (.int most) xs .no
  · exact .inl rfl
  · rename_i d i hd
    right
    show ((B4 C v cl m) [.val d, .val (.int i), .is v cl, .no]).bind out = _
    unfold B4
    cases d with
    | tup xs => exact absurd rfl (hd xs)
    | _ => simp [sSeq, sIf, bOr, bNot, mT, mB, m1, m2, gv, kc, dIsi, isiT, Res.bind, dTru, sRet, andThen, out]
  · exact .inl rfl
end Jm
end
section
set_option Elab.async false
set_option linter.all false
set_option maxRecDepth 100000
set_option maxHeartbeats 4000000
namespace Jm
open PySem PySem.Spec PyProof.Rows L2 R
variable [Tbl]
section
variable {P : Program} {w : World} {K : PySem.W.Frag} {mg : Str → Option Value} {base : Heap} {f : Addr} {fd : FuncData} {n : Nat} {C C' : CT}
theorem sc8 : FnScope N8 ["thing", "around"] (defScope s8) := ⟨rfl, rfl, rfl, by decide +kernel, rfl, by decide +kernel, by decide +kernel⟩
theorem v8_0 : VarOk N8 (defScope s8) 0 "thing" := ⟨rfl, Or.inl (by kernel_rfl), (by kernel_rfl), (by kernel_rfl)⟩
theorem g8_MOST_PARTS : (defScope s8).names.lookup ("MOST_PARTS" : Str) = some .globalImplicit := by kernel_rfl
theorem g8_is_row_of : (defScope s8).names.lookup ("is_row_of" : Str) = some .globalImplicit := by kernel_rfl
def lamPosB : List Stmt → Pos
  | [.Return (some (.Call _ [_, _, .Lambda _ _ _ p] _ _)) _] => p
  | _ => ⟨0, 0, 0, 0⟩
def lamScB : List Stmt → Scope
  | [.Return (some (.Call _ [_, _, .Lambda _ _ sc _] _ _)) _] => sc
  | _ => defScope s8
abbrev lpos_8 : Pos := lamPosB (defBody s8)
abbrev lscope_8 : Scope := lamScB (defBody s8)
theorem lsc_mk {x y : Str} {scope : Scope} (h1 : scope.kind = .function) (h2 : scope.isCoroutine = false) (h3 : scope.isGenerator = false) (h4 : (scope.names.all fun z => decide (z.2 ≠ .cell)) = true) (h5 : scope.names.lookup x = some .local) (h6 : scope.names.lookup y = some .free)
    (h7 : (scope.names.all fun z => decide (z.2 = .free → z.1 = y)) = true) : LScope x y scope :=
  ⟨h1, h2, h3, fun z hz => of_decide_eq_true (List.all_eq_true.mp h4 z hz), h5, h6, fun z hz => of_decide_eq_true (List.all_eq_true.mp h7 (z, .free) (PySem.mem_of_lookup hz)) rfl⟩
theorem lsc_8 : LScope "part" "around" lscope_8 := lsc_mk rfl rfl rfl (by decide +kernel) (by kernel_rfl) (by kernel_rfl) (by decide +kernel)
theorem ok8 (F : Fun K "are_parts_within" "are_parts_within" s8 f fd) (TB : ∀ b : Heap, Tab P w K mg b (n + 2) C) (T0 : ∀ b : Heap, Tab P w K mg b n C') (LM : LamAt K mg fd lpos_8 "are_parts_within.<locals>.<lambda>") : FnOk P w K mg base CX0 (n + 3) f fd ["thing", "around"] (spD K (runD 2 2 (B8 C C'))) := by
  have TT := TB base
  obtain ⟨c, Pt, hcd0, hLt, hbs⟩ := LM.ex
  obtain ⟨fR, fdR, FR, hmR, hbR⟩ := TT.h4
  have hrow : ∀ (base' : Heap) (v : V) (cl : List (Addr × HO)) (m : List D → Res D), Clb P w K mg base' (n + 1) v cl m → FnOk P w K mg base' CX0 (n + 2) fR fdR ["thing", "most", "holds"] (spH K v cl (rowP m)) := fun base' v cl m CB => by
    refine (ok4 (C := C) FR (TB base') CB).imp fun vs H Q E h => ?_
    obtain ⟨F, ds, vs0, h1, h2, h3, h4, h5, h6⟩ := h
    refine ⟨F, ds, vs0, h1, h2, h3, h4, h5, ?_⟩
    rcases row_eq C v cl m ds with z | z
    · rw [z] at h6; exact h6.elim
    · rw [z]; exact h6
  refine def_okC F sc8 ?_
  intro cdv A outer s H E hcdv hr
  refine iss_one ?_
  refine is_ret ?_
  refine ie_callLam (n := n) (kr := n + 2) (M := rowP) (px := "part") (y := "around") (j := 1) (lq := "are_parts_within.<locals>.<lambda>") (c := c) (Pt := Pt) (f := fR) (fd := fdR) (ps := ["thing", "most", "holds"]) hrow hr g8_is_row_of hmR FR.kp hbR ?_ ?_ ?_ ?_ ?_ ?_ ?_ hLt ?_ (fun hk => (hbs _ hk).1) ?_ (fun hk => (hbs _ hk).2) ?_ ?_ ?_ lsc_8 ?_ ?_
  · kernel_rfl
  · rfl
  · exact fe_v v8_0
  · refine fe_glob g8_MOST_PARTS TT.gc_MOST_PARTS ?_
    kernel_rfl
  · rfl
  · kernel_rfl
  · rfl
  · exact hcdv.symm.trans hcd0
  · kernel_rfl
  · rfl
  · intro cells; rfl
  · decide +kernel
  · intro clos pm cd ct us hl; match us, hl with | [_], _ => rfl
  · intro bs2 aa cd2 clos A2 outer2 s2 H2 hr2
    refine fe_call (T0 bs2).c7 hr2 ?_ ?_ ?_ ?_
    · kernel_rfl
    · rfl
    · kernel_rfl
    · refine fa_cons ?_ ?_ ?_
      · rfl
      · refine fe_v ⟨rfl, Or.inl ?_, ?_, ?_⟩
        · kernel_rfl
        · kernel_rfl
        · kernel_rfl
      · refine fa_cons ?_ ?_ ?_
        · rfl
        · refine fe_v ⟨rfl, Or.inr (Or.inr ?_), ?_, ?_⟩
          · kernel_rfl
          · kernel_rfl
          · kernel_rfl
        · exact ia_nil

end
end Jm
end
section
set_option Elab.async false
set_option linter.all false
set_option maxRecDepth 100000
set_option maxHeartbeats 4000000
namespace Jm
open PySem PySem.Spec PyProof.Rows L2 R
variable [Tbl]
theorem small_of {d : Int} (h0 : 0 ≤ d) (h1 : d < 4611686018427387904) : smallI d = true := by
  unfold smallI
  exact decide_eq_true ⟨by omega, by omega⟩
theorem mulc {a b : Int} (h : smallI a = true ∨ smallI b = true) : dMul (.int a) (.int b) = .ok (.int (a * b)) := by
  simp only [dMul]
  rcases h with h | h <;> simp [h]
def mixP (ns : List Int) (k : Int) : Int :=
  let d := ((if k < (ns.length : Int) then ns.getD k.toNat 0 else 0) + 7919 * k + 1) * 48271 % 2147483647
  (d * d + 7 * d + k) % 2147483629
theorem atI_of {α : Type} {xs : List α} {k : Int} {v : α} (h0 : 0 ≤ k) (h : xs[k.toNat]? = some v) : atI xs k = some v := by
  have := atI_nat h
  rwa [Int.toNat_of_nonneg h0] at this
theorem cell_ok (n : Nat) (ns : List Int) (k : Int) (hk : 0 ≤ k) : Ph (n + 3) 9 [.lst (ns.map .int), .int k] = .ok (.int (if k < (ns.length : Int) then ns.getD k.toNat 0 else 0)) := by
  show ((B9 (Ph (n + 2)) (Ph n)) [.val (.lst (ns.map .int)), .val (.int k)]).bind out = _
  unfold B9
  by_cases h : k < (ns.length : Int)
  · have hlt : k.toNat < ns.length := by omega
    have e : atI (ns.map D.int) k = some (.int ns[k.toNat]) := atI_of hk (by rw [List.getElem?_map, List.getElem?_eq_getElem hlt]; rfl)
    simp [sSeq, sIf, mB, m2, gv, mA, aCons, aNil, dLen, dLt, dBool, Res.bind, h, sRet, dIx, e, andThen, out, hlt]
  · simp [sSeq, sIf, mB, m2, gv, mA, aCons, aNil, dLen, dLt, dBool, Res.bind, h, sRet, andThen, out, kc, sNext]
theorem mix_ok (n : Nat) (ns : List Int) (k : Int) (hk : 0 ≤ k) : Ph (n + 4) 10 [.lst (ns.map .int), .int k] = .ok (.int (mixP ns k)) := by
  show ((B10 (Ph (n + 3)) (Ph (n + 1))) [.val (.lst (ns.map .int)), .val (.int k), .no]).bind out = _
  unfold B10
  have h1 : smallI 7919 = true := by decide
  have h2 : smallI 48271 = true := by decide
  have h3 : smallI 7 = true := by decide
  generalize hc : (if k < (ns.length : Int) then ns.getD k.toNat 0 else 0) = c
  have hce := cell_ok n ns k hk
  rw [hc] at hce
  have hd0 : 0 ≤ (c + 7919 * k + 1) * 48271 % 2147483647 := Int.emod_nonneg _ (by decide)
  have hd1 : (c + 7919 * k + 1) * 48271 % 2147483647 < 2147483647 := Int.emod_lt_of_pos _ (by decide)
  generalize hd : (c + 7919 * k + 1) * 48271 % 2147483647 = d at hd0 hd1
  have hs : smallI d = true := small_of hd0 (by omega)
  simp [sSeq, sSet, m2, gv, kc, mA, aCons, aNil, hce, dAdd, Res.bind, mulc (.inl h1), mulc (.inr h2), mulc (.inl h3), mulc (.inl hs), dMod, dI, andThen, sRet, out, hd]
  simp only [mixP, hc, hd]
theorem mix_bd (ns : List Int) (k : Int) : 0 ≤ mixP ns k ∧ mixP ns k < 2147483629 := ⟨Int.emod_nonneg _ (by decide), Int.emod_lt_of_pos _ (by decide)⟩

abbrev LET : Str := "abcdefghijklmnopqrstuvwxyz"
theorem let_len : LET.cps.toList.length = 26 := by decide +kernel
theorem let_at {i : Int} (h0 : 0 ≤ i) (h1 : i < 26) : ∃ c, atI LET.cps.toList i = some c := by
  have hl := let_len
  have hlt : i.toNat < LET.cps.toList.length := by omega
  exact ⟨LET.cps.toList[i.toNat], atI_of h0 (List.getElem?_eq_getElem hlt)⟩
theorem one_len (c : Nat) : (⟨#[c]⟩ : Str).length = 1 := rfl
theorem add_str {x y : Str} (h : x.length + y.length ≤ 1000000) : dAdd (.str x) (.str y) = .ok (.str (x ++ y)) := by
  have hs := sizeLine_eq
  simp only [dAdd]
  rw [if_pos (by omega)]
abbrev stemBody : MS := sSet 2 (m2 dAdd (gv 2) (m2 dIx (gv 1) (m2 dMod (m2 dFdiv (gv 0) (m2 dAdd (kc (.int 7)) (m2 dMul (kc (.int 26)) (gv 3)))) (kc (.int 26)))))
theorem stem_turns (nb : Int) : ∀ (ds : List D) (z : Str) (s : Slot), (∀ d ∈ ds, ∃ k : Int, d = .int k ∧ 0 ≤ k ∧ k ≤ 1000) → z.length + ds.length ≤ 1000 →
    ∃ z' s', turns 3 stemBody ds [.val (.int nb), .val (.str LET), .val (.str z), s] = .ok (.nx [.val (.int nb), .val (.str LET), .val (.str z'), s']) ∧ z'.length = z.length + ds.length
  | [], z, s, _, _ => ⟨z, s, rfl, rfl⟩
  | d :: ds, z, s, hd, hz => by
    obtain ⟨k, rfl, k0, k1⟩ := hd d List.mem_cons_self
    have h26 : smallI 26 = true := by decide
    have hj0 : (0 : Int) < 7 + 26 * k := by omega
    have hj1 : 7 + 26 * k < 1073741824 := by omega
    have hm0 : 0 ≤ nb / (7 + 26 * k) % 26 := Int.emod_nonneg _ (by decide)
    have hm1 : nb / (7 + 26 * k) % 26 < 26 := Int.emod_lt_of_pos _ (by decide)
    obtain ⟨c, hc⟩ := let_at hm0 hm1
    rw [List.length_cons] at hz
    have hzl : z.length + (⟨#[c]⟩ : Str).length ≤ 1000000 := by rw [one_len]; omega
    obtain ⟨z', s', e1, e2⟩ := stem_turns nb ds (z ++ ⟨#[c]⟩) (.val (.int k)) (fun d hd' => hd d (List.mem_cons_of_mem _ hd')) (by rw [len_app, one_len]; omega)
    refine ⟨z', s', ?_, by rw [e2, len_app, one_len, List.length_cons]; omega⟩
    rw [turns]
    simp [sSet, m2, gv, kc, Res.bind, mulc (.inl h26), dAdd.eq_1, dFdiv, dI, hj0, hj1, dMod, dIx, hc, add_str hzl]
    exact e1
theorem upTo_mem {m : Nat} {d : D} (h : d ∈ upTo 0 m) : ∃ k : Int, d = .int k ∧ 0 ≤ k ∧ k < m := by
  unfold R.upTo at h
  obtain ⟨k, hk, rfl⟩ := List.mem_map.mp h
  have := List.mem_range.mp hk
  exact ⟨_, rfl, by omega, by omega⟩
theorem upTo_len (lo : Int) (m : Nat) : (upTo lo m).length = m := by unfold R.upTo; rw [List.length_map, List.length_range]
theorem stem_ok (n : Nat) (nb : Int) : ∃ z, Ph (n + 3) 12 [.int nb] = .ok (.str z) ∧ z.length ≤ 6 := by
  have h0 : 0 ≤ nb % 7 := Int.emod_nonneg _ (by decide)
  have h1 : nb % 7 < 7 := Int.emod_lt_of_pos _ (by decide)
  have hl := upTo_len 0 (nb % 7).toNat
  obtain ⟨z, s, e1, e2⟩ := stem_turns nb (upTo 0 (nb % 7).toNat) "" .no (fun d hd => by
    obtain ⟨k, e, k0, k1⟩ := upTo_mem hd
    exact ⟨k, e, k0, by omega⟩) (by rw [hl]; show 0 + _ ≤ 1000; omega)
  refine ⟨z, ?_, by rw [e2, hl]; show 0 + _ ≤ 6; omega⟩
  show ((B12 (Ph (n + 2)) (Ph n)) [.val (.int nb), .no, .no, .no]).bind out = _
  unfold B12
  have hr : -(2 ^ 62) ≤ nb % 7 ∧ nb % 7 < 2 ^ 62 := ⟨by omega, by omega⟩
  have e1' : turns 3 (sSet 2 (m2 dAdd (gv 2) (m2 dIx (gv 1) (m2 dMod (m2 dFdiv (gv 0) (m2 dAdd (kc (.int 7)) (m2 dMul (kc (.int 26)) (gv 3)))) (kc (.int 26)))))) (upTo 0 (nb % 7).toNat) [.val (.int nb), .val (.str "abcdefghijklmnopqrstuvwxyz"), .val (.str ""), .no] = _ := e1
  have eR : dRange (.int (nb % 7)) = .ok (upTo 0 (nb % 7).toNat) := by simp only [dRange]; rw [if_pos hr]
  have eM : dMod (.int nb) (.int 7) = .ok (.int (nb % 7)) := by simp [dMod, dI]
  have eS : sForI 3 (mRange (m2 dMod (gv 0) (kc (.int 7)))) (sSet 2 (m2 dAdd (gv 2) (m2 dIx (gv 1) (m2 dMod (m2 dFdiv (gv 0) (m2 dAdd (kc (.int 7)) (m2 dMul (kc (.int 26)) (gv 3)))) (kc (.int 26)))))) [.val (.int nb), .val (.str "abcdefghijklmnopqrstuvwxyz"), .val (.str ""), .no] =
      .ok (.nx [.val (.int nb), .val (.str LET), .val (.str z), s]) := by
    show ((dMod (.int nb) (.int 7)).bind dRange).bind _ = _
    rw [eM]
    show (dRange (.int (nb % 7))).bind _ = _
    rw [eR]
    exact e1'
  show ((sForI 3 _ _ [.val (.int nb), .val (.str "abcdefghijklmnopqrstuvwxyz"), .val (.str ""), .no]).bind (andThen (sRet (gv 2)))).bind out = _
  rw [eS]
  rfl
theorem name_ok (n : Nat) (nb k : Int) : ∃ z, Ph (n + 4) 13 [.int nb, .int k] = .ok (.str z) ∧ z.length ≤ 8 := by
  obtain ⟨z, e, hz⟩ := stem_ok n nb
  have hm0 : 0 ≤ k % 26 := Int.emod_nonneg _ (by decide)
  have hm1 : k % 26 < 26 := Int.emod_lt_of_pos _ (by decide)
  obtain ⟨c, hc⟩ := let_at hm0 hm1
  have hc' : atI (("abcdefghijklmnopqrstuvwxyz" : Str).cps.toList) (k % 26) = some c := hc
  have hl1 : z.length + (⟨#[c]⟩ : Str).length ≤ 1000000 := by rw [one_len]; omega
  have hb : ∀ b : Bool, ∃ y : Str, dMul (.str "z") (.int (if b then 1 else 0)) = .ok (.str y) ∧ y.length ≤ 1 := by
    intro b
    cases b
    · exact ⟨Txt.mul "z" 0, by kernel_rfl, by decide +kernel⟩
    · exact ⟨Txt.mul "z" 1, by kernel_rfl, by decide +kernel⟩
  obtain ⟨y, ey, hy⟩ := hb (decide (0 < nb % 7))
  have hl2 : (z ++ (⟨#[c]⟩ : Str)).length + y.length ≤ 1000000 := by rw [len_app, one_len]; omega
  refine ⟨(z ++ ⟨#[c]⟩) ++ y, ?_, by rw [len_app, len_app, one_len]; omega⟩
  show ((B13 (Ph (n + 3)) (Ph (n + 1))) [.val (.int nb), .val (.int k), .no]).bind out = _
  unfold B13
  simp [sSeq, sSet, m2, gv, kc, mA, aCons, aNil, e, Res.bind, dMod, dI, dIx, hc', add_str hl1, add_str hl2, dGt, dInt, andThen, sRet, out]
  simp at ey
  simp [ey, add_str hl2]

/-! odd things -/
def odds : List D := [.int (-1), .int 0, .int 1, .int 4, .int 5, .int 1000000, .int (-1000000), .bl true, .bl false, .non, .str "", .str "a", .str "A", .str "end", .str "abcdefghi", .str "a b",
  .tup [], .lst [], .tup [.str "a"], .tup [.str "number", .int 1], .tup [.str "name", .str "a"], .tup [.str "get", .str "a"], .tup [.str "deed", .str "a"], .str "number", .str "ab1"]
theorem odd_ok (n : Nat) (nb : Int) : ∃ d, Ph (n + 3) 21 [.int nb] = .ok d ∧ d ∈ odds := by
  have hm0 : 0 ≤ nb % 25 := Int.emod_nonneg _ (by decide)
  have hm1 : nb % 25 < 25 := Int.emod_lt_of_pos _ (by decide)
  have hlt : (nb % 25).toNat < odds.length := by show _ < 25; omega
  have e : atI odds (nb % 25) = some odds[(nb % 25).toNat] := atI_of hm0 (List.getElem?_eq_getElem hlt)
  refine ⟨odds[(nb % 25).toNat], ?_, List.getElem_mem hlt⟩
  have key : ∀ ρ : Rho, (B21 (Ph (n + 2)) (Ph n)) [.val (.int nb), .no] = sRet (m2 dIx (gv 1) (m2 dMod (gv 0) (kc (.int 25)))) [.val (.int nb), .val (.lst odds)] := by
    intro _
    kernel_rfl
  show ((B21 (Ph (n + 2)) (Ph n)) [.val (.int nb), .no]).bind out = _
  rw [key []]
  simp [sRet, m2, gv, kc, Res.bind, dMod, dI, dIx, e, out]
end Jm
end
section
set_option Elab.async false
set_option linter.all false
set_option maxRecDepth 100000
set_option maxHeartbeats 4000000
namespace Jm
open PySem PySem.Spec PyProof.Rows L2 R
variable [Tbl]
theorem atI_ex {α : Type} {xs : List α} {k : Int} (h0 : 0 ≤ k) (h1 : k < (xs.length : Int)) : ∃ v, atI xs k = some v := by
  have hlt : k.toNat < xs.length := by omega
  exact ⟨xs[k.toNat], atI_of h0 (List.getElem?_eq_getElem hlt)⟩
theorem str1 (s : String) (n : Nat) (h : (Str.ofString s).length = n) (hn : n ≤ 1000) {z : Str} (hz : z.length ≤ 1000) : z.length + (Str.ofString s).length ≤ 1000000 := by omega
abbrev KT : Str := "face unit take from word deed with own do done let be if then else while give tell get new hand to"
abbrev KT2 : Str := " await call and end"
theorem kt_split : Txt.split (KT ++ KT2) " " = gt_KEPT_WORDS := by decide +kernel
theorem kt_len : (KT ++ KT2).length ≤ 1000 := by decide +kernel
theorem kt_add : dAdd (.str KT) (.str KT2) = .ok (.str (KT ++ KT2)) := add_str (by decide +kernel)
theorem kt_words : dSplit (KT ++ KT2) [.str " "] = .ok (.lst (gt_KEPT_WORDS.map .str)) := by
  have h1 : (Str.ofString " ").length ≠ 0 := by decide +kernel
  have h2 := kt_len
  have h3 := sizeLine_eq
  simp only [dSplit]
  rw [if_pos ⟨h1, by omega⟩, kt_split]
theorem gt_len : gt_KEPT_WORDS.length = 26 := by decide +kernel
theorem eq_int (a b : Int) : dEq (.int a) (.int b) = .ok (.bl (a == b)) := by simp [dEq, dep, eqD]
end Jm
end
section
set_option Elab.async false
set_option linter.all false
set_option maxRecDepth 100000
set_option maxHeartbeats 4000000
namespace Jm
open PySem PySem.Spec PyProof.Rows L2 R
variable [Tbl]
theorem a_code : ("a" : Str).cps.toList = [97] := by decide +kernel
theorem z_code : ("z" : Str).cps.toList = [122] := by decide +kernel
theorem lt_one (a b : Nat) : ([a] < [b]) ↔ a < b := by
  rw [List.cons_lt_cons_iff]; simp
def low (c : Nat) : Bool := decide (97 ≤ c ∧ c ≤ 122)
theorem sign_low (c : Nat) : mCh dLe dLe (kc (.str "a")) (gv 0) (kc (.str "z")) [.val (.str ⟨#[c]⟩)] = .ok (.bl (low c)) := by
  have e1 : dLe (.str "a") (.str ⟨#[c]⟩) = .ok (.bl (!decide (c < 97))) := by
    simp only [dLe, a_code]
    have : decide (([c] : List Nat) < [97]) = decide (c < 97) := decide_eq_decide.mpr (lt_one c 97)
    show Res.ok (D.bl (!decide ([c] < [97]))) = _
    rw [this]
  have e2 : dLe (.str ⟨#[c]⟩) (.str "z") = .ok (.bl (!decide (122 < c))) := by
    simp only [dLe, z_code]
    have : decide (([122] : List Nat) < [c]) = decide (122 < c) := decide_eq_decide.mpr (lt_one 122 c)
    show Res.ok (D.bl (!decide ([122] < [c]))) = _
    rw [this]
  by_cases h : c < 97
  · have hl : low c = false := by unfold low; exact decide_eq_false (by omega)
    simp [mCh, kc, gv, Res.bind, e1, dBool, h, hl]
  · have hl : low c = !decide (122 < c) := by
      unfold low
      by_cases h2 : 122 < c
      · rw [decide_eq_true h2, decide_eq_false (by omega)]; rfl
      · rw [decide_eq_false h2, decide_eq_true (by omega)]; rfl
    simp [mCh, kc, gv, Res.bind, e1, e2, dBool, h, hl]
theorem comp_low : ∀ cs : List Nat, compM (fun _ => .ok true) (mCh dLe dLe (kc (.str "a")) (gv 0) (kc (.str "z"))) [] (cs.map fun c => D.str ⟨#[c]⟩) = .ok (cs.map fun c => .bl (low c))
  | [] => rfl
  | c :: cs => by
    rw [List.map_cons, compM]
    show (Res.bind (mCh dLe dLe (kc (.str "a")) (gv 0) (kc (.str "z")) [.val (.str ⟨#[c]⟩)]) _) = _
    rw [sign_low]
    show (Res.bind (compM _ _ [] (cs.map fun c => D.str ⟨#[c]⟩)) _) = _
    rw [comp_low cs]; rfl
theorem bools_map (f : Nat → Bool) : ∀ cs : List Nat, boolsOf (cs.map fun c => .bl (f c)) = .ok (cs.map f)
  | [] => rfl
  | c :: cs => by rw [List.map_cons, boolsOf, bools_map f cs]; rfl
theorem dep_strs : ∀ ts : List Str, depL (ts.map .str) = 0
  | [] => rfl
  | t :: ts => by rw [List.map_cons, depL, dep_strs ts]; rfl
theorem any_strs (z : Str) : ∀ ts : List Str, anyD (.str z) (ts.map .str) = ts.any (· == z)
  | [] => rfl
  | t :: ts => by
    show (eqD (.str t) (.str z) || anyD (.str z) (ts.map .str)) = _
    rw [any_strs z ts, List.any_cons, eqD]
/-- what a name is -/
def nameP : D → Bool
  | .str z => decide (1 ≤ z.length ∧ z.length ≤ 8) && (z.cps.toList.all low && !gt_KEPT_WORDS.any (· == z))
  | _ => false
theorem name_prog (n : Nat) (d : D) : Ph (n + 3) 2 [d] = .ok (.bl (nameP d)) := by
  show ((B2 (Ph (n + 2)) (Ph n)) [.val d]).bind out = _
  unfold B2
  cases d with
  | str z =>
    have hlen : dLen [.str z] = .ok (.int z.length) := rfl
    by_cases h1 : 1 ≤ z.length ∧ z.length ≤ 8
    · have h2 : (1 : Int) ≤ (z.length : Int) := by omega
      have h3 : (z.length : Int) ≤ 8 := by omega
      have hsz : (signsD z).length ≤ sizeLine := by
        have e : (signsD z).length = z.length := by unfold signsD; rw [List.length_map]; rfl
        have := sizeLine_eq
        omega
      have hcm : compM (fun _ => .ok true) (mCh dLe dLe (kc (.str "a")) (gv 0) (kc (.str "z"))) (capR [] [.val (.str z)]) (signsD z) = .ok (z.cps.toList.map fun c => .bl (low c)) := comp_low z.cps.toList
      have hin : dIn true (.str z) gd_KEPT_WORDS = .ok (.bl (!gt_KEPT_WORDS.any (· == z))) := by
        unfold gd_KEPT_WORDS
        simp only [dIn]
        rw [if_pos (by rw [dep_strs]; decide)]; simp [any_strs]
      have hall : dAll [.lst (z.cps.toList.map fun c => .bl (low c))] = .ok (.bl (z.cps.toList.all low)) := by
        simp only [dAll]
        rw [bools_map]
        show Res.ok (D.bl ((z.cps.toList.map low).all id)) = _
        rw [List.all_map]; rfl
      have hno : nameP (.str z) = (z.cps.toList.all low && !gt_KEPT_WORDS.any (· == z)) := by
        show (decide (1 ≤ z.length ∧ z.length ≤ 8) && (z.cps.toList.all low && !gt_KEPT_WORDS.any (· == z))) = _
        rw [decide_eq_true h1, Bool.true_and]
      rw [hno]
      have hcomp : mComp [] (mItems (gv 0)) (fun _ => .ok true) (mCh dLe dLe (kc (.str "a")) (gv 0) (kc (.str "z"))) [.val (.str z)] = .ok (.lst (z.cps.toList.map fun c => .bl (low c))) := by
        show Res.bind (dItems (.str z)) _ = _
        show (if (signsD z).length ≤ sizeLine then (compM _ _ _ (signsD z)).bind _ else .bad) = _
        rw [if_pos hsz, hcm]; rfl
      cases hA : z.cps.toList.all low with
      | true => simp [sSeq, sIf, bOr, bNot, mT, mB, m1, m2, gv, kc, dIsi, isiT, Res.bind, dTru, mCh, dLe, mA, aCons, aNil, hlen, gd_MOST_LETTERS, dBool, h2, h3, sNext, andThen, sRet, vAnd, hcomp, hall, hA, hin, out]
      | false => simp [sSeq, sIf, bOr, bNot, mT, mB, m1, m2, gv, kc, dIsi, isiT, Res.bind, dTru, mCh, dLe, mA, aCons, aNil, hlen, gd_MOST_LETTERS, dBool, h2, h3, sNext, andThen, sRet, vAnd, hcomp, hall, hA, hin, out]
    · have hno : nameP (.str z) = false := by
        show (decide (1 ≤ z.length ∧ z.length ≤ 8) && (z.cps.toList.all low && !gt_KEPT_WORDS.any (· == z))) = _
        rw [decide_eq_false h1, Bool.false_and]
      rw [hno]
      by_cases h2 : (1 : Int) ≤ (z.length : Int)
      · have h3 : ¬ (z.length : Int) ≤ 8 := by omega
        simp [sSeq, sIf, bOr, bNot, mT, mB, m1, m2, gv, kc, dIsi, isiT, Res.bind, dTru, mCh, dLe, mA, aCons, aNil, hlen, gd_MOST_LETTERS, dBool, h2, h3, sNext, andThen, sRet, out]
      · simp [sSeq, sIf, bOr, bNot, mT, mB, m1, m2, gv, kc, dIsi, isiT, Res.bind, dTru, mCh, dLe, mA, aCons, aNil, hlen, gd_MOST_LETTERS, dBool, h2, sNext, andThen, sRet, out]
  | _ => simp [sSeq, sIf, bOr, bNot, mT, mB, m1, m2, gv, kc, dIsi, isiT, Res.bind, dTru, andThen, sRet, out, nameP]
/-! the law's own -/
theorem let_codes (c : Nat) : decide (c ∈ LET.cps.toList) = low c := by
  have e : LET.cps.toList = [97, 98, 99, 100, 101, 102, 103, 104, 105, 106, 107, 108, 109, 110, 111, 112, 113, 114, 115, 116, 117, 118, 119, 120, 121, 122] := by decide +kernel
  rw [e]
  unfold low
  rw [decide_eq_decide]
  simp only [List.mem_cons, List.not_mem_nil, or_false]
  omega
theorem find_low (c : Nat) : decide (Txt.find LET ⟨#[c]⟩ < 0) = !low c := by
  have h := StrLaws.found_one LET c
  rw [let_codes] at h
  unfold Txt.find
  cases ho : Builtin.Str.occurrences LET ⟨#[c]⟩ 0 LET.length 1 with
  | nil => rw [ho] at h; rw [← h]; rfl
  | cons i r =>
    rw [ho] at h
    rw [← h]
    show decide ((i : Int) < 0) = _
    rw [decide_eq_false (by omega)]; rfl
theorem test_low (c : Nat) : mB (m2 dLt (mMe dFind (kc (.str "abcdefghijklmnopqrstuvwxyz")) (aCons (gv 0) (aNil))) (kc (.int 0))) [.val (.str ⟨#[c]⟩)] = .ok (!low c) := by
  have e : decide (Txt.find (Str.ofString "abcdefghijklmnopqrstuvwxyz") ⟨#[c]⟩ < 0) = !low c := find_low c
  show Res.ok (decide (Txt.find (Str.ofString "abcdefghijklmnopqrstuvwxyz") ⟨#[c]⟩ < 0)) = _
  rw [e]
theorem comp_bad : ∀ cs : List Nat, compM (mB (m2 dLt (mMe dFind (kc (.str "abcdefghijklmnopqrstuvwxyz")) (aCons (gv 0) (aNil))) (kc (.int 0)))) (gv 0) [] (cs.map fun c => D.str ⟨#[c]⟩) = .ok ((cs.filter fun c => !low c).map fun c => D.str ⟨#[c]⟩)
  | [] => rfl
  | c :: cs => by
    rw [List.map_cons, compM, test_low, List.filter_cons]
    cases hl : low c with
    | true =>
      simp only [Res.bind, Bool.not_true, Bool.false_eq_true, if_false]
      exact comp_bad cs
    | false =>
      simp only [Res.bind, Bool.not_false, if_true]
      show (Res.bind (compM _ (gv 0) [] (cs.map fun c => D.str ⟨#[c]⟩)) _) = _
      rw [comp_bad cs]; rfl
theorem dep_signs : ∀ cs : List Nat, depL (cs.map fun c => D.str ⟨#[c]⟩) = 0
  | [] => rfl
  | c :: cs => by rw [List.map_cons, depL, dep_signs cs]; rfl
theorem str_empty (z : Str) : (z == ("" : Str)) = decide (z.length = 0) := by
  have e : ("" : Str) = ⟨#[]⟩ := by decide +kernel
  rw [e]
  cases z with
  | mk c =>
    rw [Bool.eq_iff_iff]
    simp only [beq_iff_eq, decide_eq_true_eq]
    constructor
    · intro h; cases h; rfl
    · intro h
      have : c = #[] := Array.eq_empty_of_size_eq_zero h
      rw [this]
theorem filt_nil (cs : List Nat) : (cs.filter fun c => !low c).isEmpty = cs.all low := by
  induction cs with
  | nil => rfl
  | cons c r ih =>
    rw [List.filter_cons, List.all_cons, ← ih]
    cases low c <;> rfl
theorem eqL_nil (xs : List D) : eqL xs [] = xs.isEmpty := by cases xs <;> rfl
theorem name_law (n : Nat) (d : D) : Ph (n + 3) 16 [d] = .ok (.bl (nameP d)) := by
  show ((B16 (Ph (n + 2)) (Ph n)) [.val d, .no]).bind out = _
  unfold B16
  cases d with
  | str z =>
    have hlen : dLen [.str z] = .ok (.int z.length) := rfl
    have heq : dEq (.str z) (.str "") = .ok (.bl (decide (z.length = 0))) := by
      have e : dEq (.str z) (.str "") = .ok (.bl (z == ("" : Str))) := by simp [dEq, dep, eqD]
      rw [e, str_empty]
    by_cases h0 : z.length = 0
    · have hno : nameP (.str z) = false := by
        show (decide (1 ≤ z.length ∧ z.length ≤ 8) && (z.cps.toList.all low && !gt_KEPT_WORDS.any (· == z))) = _
        rw [decide_eq_false (by omega), Bool.false_and]
      rw [hno]
      simp [sSeq, sIf, bOr, bNot, mT, mB, m1, m2, gv, kc, dIsi, isiT, Res.bind, dTru, heq, h0, dBool, andThen, sRet, out]
    · by_cases h8 : (8 : Int) < (z.length : Int)
      · have hno : nameP (.str z) = false := by
          show (decide (1 ≤ z.length ∧ z.length ≤ 8) && (z.cps.toList.all low && !gt_KEPT_WORDS.any (· == z))) = _
          rw [decide_eq_false (by omega), Bool.false_and]
        rw [hno]
        simp [sSeq, sIf, bOr, bNot, mT, mB, m1, m2, gv, kc, dIsi, isiT, Res.bind, dTru, heq, h0, dBool, mA, aCons, aNil, hlen, dGt, h8, andThen, sRet, out]
      · have h1 : 1 ≤ z.length ∧ z.length ≤ 8 := ⟨by omega, by omega⟩
        have hno : nameP (.str z) = (z.cps.toList.all low && !gt_KEPT_WORDS.any (· == z)) := by
          show (decide (1 ≤ z.length ∧ z.length ≤ 8) && (z.cps.toList.all low && !gt_KEPT_WORDS.any (· == z))) = _
          rw [decide_eq_true h1, Bool.true_and]
        rw [hno]
        have hsz : (signsD z).length ≤ sizeLine := by
          have e : (signsD z).length = z.length := by unfold signsD; rw [List.length_map]; rfl
          have := sizeLine_eq
          omega
        have hin : dIn false (.str z) (.lst (gt_KEPT_WORDS.map .str)) = .ok (.bl (gt_KEPT_WORDS.any (· == z))) := by
          simp only [dIn]
          rw [if_pos (by rw [dep_strs]; decide), if_neg (by decide), any_strs]
        have hcomp : mComp [] (mItems (gv 0)) (mB (m2 dLt (mMe dFind (kc (.str "abcdefghijklmnopqrstuvwxyz")) (aCons (gv 0) (aNil))) (kc (.int 0)))) (gv 0) [.val (.str z), .val (.str KT)] = .ok (.lst ((z.cps.toList.filter fun c => !low c).map fun c => D.str ⟨#[c]⟩)) := by
          show Res.bind (dItems (.str z)) _ = _
          show (if (signsD z).length ≤ sizeLine then (compM _ _ _ (signsD z)).bind _ else .bad) = _
          rw [if_pos hsz]
          have e := comp_bad z.cps.toList
          show Res.bind (compM _ (gv 0) [] (z.cps.toList.map fun c => D.str ⟨#[c]⟩)) _ = _
          rw [e]; rfl
        have hfin : dEq (.lst ((z.cps.toList.filter fun c => !low c).map fun c => D.str ⟨#[c]⟩)) (.lst []) = .ok (.bl (z.cps.toList.all low)) := by
          unfold dEq
          rw [if_pos (by rw [dep, dep_signs]; decide), eqD, eqL_nil, List.isEmpty_map, filt_nil]
        have hl0 : dLst [] = .ok (.lst []) := by kernel_rfl
        cases hK : gt_KEPT_WORDS.any (· == z) with
        | true =>
          simp [sSeq, sIf, bOr, bNot, mT, mB, m1, m2, gv, kc, dIsi, isiT, Res.bind, dTru, heq, h0, dBool, mA, aCons, aNil, hlen, dGt, h8, andThen, sRet, sNext, sSet, mMe, dStrO, kt_add, kt_words, hin, hK, out]
        | false =>
          have hK' : dIn false (.str z) (.lst (gt_KEPT_WORDS.map .str)) = .ok (.bl false) := by rw [hin, hK]
          have s1 : sIf (bOr (bNot (mT (m1 (dIsi "str") (gv 0)))) (bOr (mB (m2 dEq (gv 0) (kc (.str "")))) (mB (m2 dGt (mA dLen (aCons (gv 0) (aNil))) (kc (.int 8)))))) (sRet (kc (.bl false))) (sNext) [.val (.str z), .no] = .ok (.nx [.val (.str z), .no]) := by
            simp [sIf, bOr, bNot, mT, mB, m1, m2, gv, kc, dIsi, isiT, Res.bind, dTru, heq, h0, dBool, mA, aCons, aNil, hlen, dGt, h8, sNext]
          have s2 : sIf (mB (m2 (dIn false) (gv 0) (mMe dSplit (m2 dAdd (gv 1) (kc (.str KT2))) (aCons (kc (.str " ")) (aNil))))) (sRet (kc (.bl false))) (sNext) [.val (.str z), .val (.str KT)] = .ok (.nx [.val (.str z), .val (.str KT)]) := by
            simp [sIf, mB, m2, gv, kc, Res.bind, dBool, aCons, aNil, sNext, mMe, dStrO, kt_add, kt_words, hK']
          have s3 : sRet (m2 dEq (mComp [] (mItems (gv 0)) (mB (m2 dLt (mMe dFind (kc (.str "abcdefghijklmnopqrstuvwxyz")) (aCons (gv 0) (aNil))) (kc (.int 0)))) (gv 0)) (mA dLst (aNil))) [.val (.str z), .val (.str KT)] = .ok (.rt (.bl (z.cps.toList.all low))) := by
            show Res.bind (Res.bind (mComp [] (mItems (gv 0)) (mB (m2 dLt (mMe dFind (kc (.str "abcdefghijklmnopqrstuvwxyz")) (aCons (gv 0) (aNil))) (kc (.int 0)))) (gv 0) [.val (.str z), .val (.str KT)]) fun x => Res.bind (dLst []) fun y => dEq x y) _ = _
            rw [hcomp, hl0]
            show Res.bind (dEq _ _) _ = _
            rw [hfin]; rfl
          show Res.bind (Res.bind (sIf _ _ _ [.val (.str z), .no]) (andThen _)) out = _
          rw [s1]
          show Res.bind (Res.bind (sIf _ _ _ [.val (.str z), .val (.str KT)]) (andThen _)) out = _
          rw [s2]
          show Res.bind (sRet _ [.val (.str z), .val (.str KT)]) out = _
          rw [s3]
          simp [Res.bind, out]
  | _ => simp [sSeq, sIf, bOr, bNot, mT, mB, m1, m2, gv, kc, dIsi, isiT, Res.bind, dTru, andThen, sRet, out, nameP]
/-- numbers -/
def numP : D → Bool
  | .int i => decide (-999999 ≤ i ∧ i ≤ 999999)
  | _ => false
theorem whole_ok (n : Nat) (d : D) : Ph (n + 3) 0 [d] = .ok (.bl (match d with | .int _ => true | _ => false)) := by
  show ((B0 (Ph (n + 2)) (Ph n)) [.val d]).bind out = _
  unfold B0
  cases d <;> simp [sRet, vAnd, vNot, m1, gv, dIsi, isiT, Res.bind, dBool, out]
theorem num_ok (n : Nat) (d : D) : Ph (n + 4) 1 [d] = .ok (.bl (numP d)) := by
  have hw := whole_ok n d
  show ((B1 (Ph (n + 3)) (Ph (n + 1))) [.val d]).bind out = _
  unfold B1
  cases d with
  | int i =>
    by_cases h1 : (-999999 : Int) ≤ i
    · by_cases h2 : i ≤ 999999
      · simp [sRet, vAnd, mA, aCons, aNil, gv, kc, Res.bind, hw, dBool, mCh, m1, dNeg, gd_GREATEST_NUMBER, dLe, h1, h2, out, numP]
      · simp [sRet, vAnd, mA, aCons, aNil, gv, kc, Res.bind, hw, dBool, mCh, m1, dNeg, gd_GREATEST_NUMBER, dLe, h1, h2, out, numP]
    · simp [sRet, vAnd, mA, aCons, aNil, gv, kc, Res.bind, hw, dBool, mCh, m1, dNeg, gd_GREATEST_NUMBER, dLe, h1, out, numP]
  | _ => simp [sRet, vAnd, mA, aCons, aNil, gv, kc, Res.bind, hw, dBool, out, numP]
theorem same_ok (n : Nat) (a b : Bool) : Ph (n + 3) 23 [.bl a, .bl b] = .ok (.bl (a == b)) := by
  show ((B23 (Ph (n + 2)) (Ph n)) [.val (.bl a), .val (.bl b)]).bind out = _
  unfold B23
  simp [sRet, vAnd, m1, m2, gv, dIsi, isiT, Res.bind, dBool, dEq, dep, eqD, out]
end Jm
end
section
set_option Elab.async false
set_option linter.all false
set_option maxRecDepth 100000
set_option maxHeartbeats 4000000
namespace Jm
open PySem PySem.Spec PyProof.Rows L2 R
variable [Tbl]
/-- the first word of a thing -/
def fw : D → Str
  | .tup (.str w :: _) => w
  | _ => ""
theorem fw_ok (n : Nat) (d : D) : Ph (n + 3) 5 [d] = .ok (.str (fw d)) := by
  show ((B5 (Ph (n + 2)) (Ph n)) [.val d]).bind out = _
  unfold B5
  cases d with
  | tup ds =>
    cases ds with
    | nil => simp [sSeq, sIf, bAnd, mT, mB, m1, m2, gv, kc, dIsi, isiT, Res.bind, dTru, mA, aCons, aNil, dLen, dGt, dBool, sNext, andThen, sRet, out, fw]
    | cons d r =>
      have e : atI (d :: r) 0 = some d := atI_of (Int.le_refl 0) rfl
      cases d <;> simp [sSeq, sIf, bAnd, mT, mB, m1, m2, gv, kc, dIsi, isiT, Res.bind, dTru, mA, aCons, aNil, dLen, dGt, dBool, sNext, andThen, sRet, out, fw, dIx, e]
  | _ => simp [sSeq, sIf, bAnd, mT, mB, m1, m2, gv, kc, dIsi, isiT, Res.bind, dTru, sNext, andThen, sRet, out, fw]
def isRow (m : Int) : D → Bool
  | .tup ds => decide ((ds.length : Int) = m)
  | _ => false
theorem row_ok (n : Nat) (d : D) (m : Int) : Ph (n + 3) 3 [d, .int m] = .ok (.bl (isRow m d)) := by
  show ((B3 (Ph (n + 2)) (Ph n)) [.val d, .val (.int m)]).bind out = _
  unfold B3
  cases d with
  | tup ds =>
    have e : ((ds.length : Int) == m) = decide ((ds.length : Int) = m) := by
      by_cases h : (ds.length : Int) = m
      · simp [h]
      · simp [h]
    simp [sRet, vAnd, m1, m2, gv, dIsi, isiT, Res.bind, dBool, mA, aCons, aNil, dLen, eq_int, e, isRow, out]
  | _ => simp [sRet, vAnd, m1, gv, dIsi, isiT, Res.bind, dBool, isRow, out]
theorem lawnum_ok (n : Nat) (d : D) : Ph (n + 3) 17 [d] = .ok (.bl (numP d)) := by
  show ((B17 (Ph (n + 2)) (Ph n)) [.val d]).bind out = _
  unfold B17
  have hp : dPow (.int 10) (.int 6) = .ok (.int 1000000) := by kernel_rfl
  cases d with
  | int i =>
    have e : decide ((if i < 0 then -i else i) < 1000000) = numP (.int i) := by
      unfold numP
      by_cases h0 : i < 0
      · rw [if_pos h0]; exact decide_eq_decide.mpr ⟨fun _ => ⟨by omega, by omega⟩, fun _ => by omega⟩
      · rw [if_neg h0]; exact decide_eq_decide.mpr ⟨fun _ => ⟨by omega, by omega⟩, fun _ => by omega⟩
    simp only [sRet, vAnd, vNot, m1, m2, gv, kc, dIsi, isiT, Res.bind, dBool, mA, aCons, aNil, dAbs, hp, dLt, out]
    simp [e]
  | _ => simp [sRet, vAnd, vNot, m1, gv, dIsi, isiT, Res.bind, dBool, numP, out]
/-- what an expression is, k levels left -/
def signP (w : Str) : Bool := gt_SIGNS.any (· == w)
def exprP : Nat → D → Bool
  | 0, _ => false
  | k + 1, .tup (.str w :: r) =>
    if w == "number" then (match r with | [x] => numP x | _ => false)
    else if w == "name" then (match r with | [x] => nameP x | _ => false)
    else if w == "call" then (match r with | [x, .tup xs] => nameP x && (decide (xs.length ≤ 4) && xs.all (exprP k)) | _ => false)
    else if signP w then (match r with | [x, y] => exprP k x && exprP k y | _ => false) else false
  | _ + 1, _ => false
def partsP (k : Nat) : D → Bool
  | .tup xs => decide (xs.length ≤ 4) && xs.all (exprP k)
  | _ => false
theorem all_parts {m : List D → Res D} {p : D → Bool} (h : ∀ x, m [x] = .ok (.bl (p x))) : ∀ xs : List D, allM m xs = .ok (.bl (xs.all p))
  | [] => rfl
  | x :: r => by
    rw [allM, h x, List.all_cons]
    cases hp : p x with
    | true => simp [dTru, Res.bind, all_parts h r]
    | false => simp [dTru, Res.bind]
/-- are_parts_within, by what is_expression_within says one level down -/
theorem parts_ok (n : Nat) (k : Nat) (a : Int) (d : D) (h : ∀ x, Ph n 7 [x, .int a] = .ok (.bl (exprP k x))) : Ph (n + 3) 8 [d, .int a] = .ok (.bl (partsP k d)) := by
  show ((B8 (Ph (n + 2)) (Ph n)) [.val d, .val (.int a)]).bind out = _
  unfold B8
  have hm : ∀ x, runL a (mA (Ph n 7) (aCons (gv 0) (aCons (gv 1) (aNil)))) [x] = .ok (.bl (exprP k x)) := fun x => by
    show Ph n 7 [x, .int a] = _
    exact h x
  have e : mLam (gv 0) (kc gd_MOST_PARTS) 1 (fun i => rowP (runL i (mA (Ph n 7) (aCons (gv 0) (aCons (gv 1) (aNil)))))) [.val d, .val (.int a)] = .ok (.bl (partsP k d)) := by
    show Res.bind (rowP (runL a (mA (Ph n 7) (aCons (gv 0) (aCons (gv 1) (aNil))))) [d, .int 4]) onlyB = _
    cases d with
    | tup xs =>
      unfold rowP
      by_cases hl : (4 : Int) < (xs.length : Int)
      · have : ¬ xs.length ≤ 4 := by omega
        simp [hl, Res.bind, onlyB, partsP, this]
      · have : xs.length ≤ 4 := by omega
        show Res.bind (if (4 : Int) < (xs.length : Int) then _ else allM (runL a (mA (Ph n 7) (aCons (gv 0) (aCons (gv 1) (aNil))))) xs) onlyB = _
        rw [if_neg hl, all_parts hm]
        simp [Res.bind, onlyB, partsP, this]
    | _ => rfl
  show Res.bind (Res.bind (mLam _ _ _ _ [.val d, .val (.int a)]) _) _ = _
  rw [e]; rfl
end Jm
end
section
set_option Elab.async false
set_option linter.all false
set_option maxRecDepth 100000
set_option maxHeartbeats 4000000
namespace Jm
open PySem PySem.Spec PyProof.Rows L2 R
variable [Tbl]
theorem eqs (w t : Str) : dEq (.str w) (.str t) = .ok (.bl (w == t)) := by simp [dEq, dep, eqD]
theorem sign_in (w : Str) : dIn true (.str w) gd_SIGNS = .ok (.bl (!signP w)) := by
  unfold gd_SIGNS
  simp only [dIn]
  rw [if_pos (by rw [dep_strs]; decide)]; simp [any_strs, signP]
theorem sign_no : signP "number" = false ∧ signP "name" = false ∧ signP "call" = false ∧ signP "" = false := by decide +kernel
theorem str_ne : (("" : Str) == "number") = false ∧ (("" : Str) == "name") = false ∧ (("" : Str) == "call") = false := by decide +kernel
theorem body7 (C C' : CT) (k : Nat) (a : Int) (d : D) (ha : a ≤ 12) (h5 : C 5 [d] = .ok (.str (fw d))) (h3 : ∀ d m, C 3 [d, .int m] = .ok (.bl (isRow m d))) (h1 : ∀ x, C 1 [x] = .ok (.bl (numP x))) (h2 : ∀ x, C 2 [x] = .ok (.bl (nameP x)))
    (h8 : ∀ x, C 8 [x, .int (a + 1)] = .ok (.bl (partsP k x))) (h7 : ∀ x, C 7 [x, .int (a + 1)] = .ok (.bl (exprP k x))) : ((B7 C C') [.val d, .val (.int a), .no]).bind out = .ok (.bl (exprP (k + 1) d)) := by
  have hg : ¬ (12 : Int) < a := by omega
  -- a thing without a first word
  have none_ : fw d = "" → exprP (k + 1) d = false → ((B7 C C') [.val d, .val (.int a), .no]).bind out = .ok (.bl (exprP (k + 1) d)) := fun hf he => by
    rw [he]
    unfold B7
    simp [sSeq, sSet, sIf, bOr, bNot, mT, mB, m2, mA, aCons, aNil, gv, kc, Res.bind, h5, hf, dGt, gd_MOST_AROUND, hg, dBool, sNext, andThen, eqs, str_ne.1, str_ne.2.1, str_ne.2.2, sign_in, sign_no.2.2.2, sRet, out]
  cases d with
  | tup ds =>
    cases ds with
    | nil => exact none_ rfl rfl
    | cons x r =>
      cases x with
      | str w =>
        have hf : fw (.tup (.str w :: r)) = w := rfl
        have i1 : ∀ x r', atI (D.str w :: x :: r') 1 = some x := fun x r' => atI_of (by decide) rfl
        have i2 : ∀ x y r', atI (D.str w :: x :: y :: r') 2 = some y := fun x y r' => atI_of (by decide) rfl
        unfold B7
        cases w1 : (w == ("number" : Str)) with
        | true =>
          match r with
          | [] => simp [sSeq, sSet, sIf, bOr, bNot, mT, mB, m2, mA, aCons, aNil, gv, kc, Res.bind, h5, hf, dGt, gd_MOST_AROUND, hg, dBool, sNext, andThen, eqs, w1, sRet, out, exprP, vAnd, h3, isRow]
          | [x] => simp [sSeq, sSet, sIf, bOr, bNot, mT, mB, m2, mA, aCons, aNil, gv, kc, Res.bind, h5, hf, dGt, gd_MOST_AROUND, hg, dBool, sNext, andThen, eqs, w1, sRet, out, exprP, vAnd, h3, isRow, dIx, i1, h1]
          | x :: y :: r' =>
            have hn : ¬ ((r'.length : Int) + 1 + 1 + 1 = 2) := by omega
            simp [sSeq, sSet, sIf, bOr, bNot, mT, mB, m2, mA, aCons, aNil, gv, kc, Res.bind, h5, hf, dGt, gd_MOST_AROUND, hg, dBool, sNext, andThen, eqs, w1, sRet, out, exprP, vAnd, h3, isRow, hn]
        | false =>
        cases w2 : (w == ("name" : Str)) with
        | true =>
          match r with
          | [] => simp [sSeq, sSet, sIf, bOr, bNot, mT, mB, m2, mA, aCons, aNil, gv, kc, Res.bind, h5, hf, dGt, gd_MOST_AROUND, hg, dBool, sNext, andThen, eqs, sRet, out, exprP, vAnd, h3, isRow, dTru, sign_in, w1, w2]
          | [x] => simp [sSeq, sSet, sIf, bOr, bNot, mT, mB, m2, mA, aCons, aNil, gv, kc, Res.bind, h5, hf, dGt, gd_MOST_AROUND, hg, dBool, sNext, andThen, eqs, sRet, out, exprP, vAnd, h3, isRow, dTru, sign_in, w1, w2, dIx, i1, h2]
          | x :: y :: r' =>
            have hn : ¬ ((r'.length : Int) + 1 + 1 + 1 = 2) := by omega
            simp [sSeq, sSet, sIf, bOr, bNot, mT, mB, m2, mA, aCons, aNil, gv, kc, Res.bind, h5, hf, dGt, gd_MOST_AROUND, hg, dBool, sNext, andThen, eqs, sRet, out, exprP, vAnd, h3, isRow, dTru, sign_in, w1, w2, hn]
        | false =>
        cases w3 : (w == ("call" : Str)) with
        | true =>
          match r with
          | [] => simp [sSeq, sSet, sIf, bOr, bNot, mT, mB, m2, mA, aCons, aNil, gv, kc, Res.bind, h5, hf, dGt, gd_MOST_AROUND, hg, dBool, sNext, andThen, eqs, sRet, out, exprP, vAnd, h3, isRow, dTru, sign_in, w1, w2, w3]
          | [x] => simp [sSeq, sSet, sIf, bOr, bNot, mT, mB, m2, mA, aCons, aNil, gv, kc, Res.bind, h5, hf, dGt, gd_MOST_AROUND, hg, dBool, sNext, andThen, eqs, sRet, out, exprP, vAnd, h3, isRow, dTru, sign_in, w1, w2, w3]
          | [x, y] =>
            cases hx : nameP x with
            | true => cases y <;> simp [sSeq, sSet, sIf, bOr, bNot, mT, mB, m2, mA, aCons, aNil, gv, kc, Res.bind, h5, hf, dGt, gd_MOST_AROUND, hg, dBool, sNext, andThen, eqs, sRet, out, exprP, vAnd, h3, isRow, dTru, sign_in, w1, w2, w3, dIx, i1, i2, h2, h8, hx, dAdd, partsP]
            | false => cases y <;> simp [sSeq, sSet, sIf, bOr, bNot, mT, mB, m2, mA, aCons, aNil, gv, kc, Res.bind, h5, hf, dGt, gd_MOST_AROUND, hg, dBool, sNext, andThen, eqs, sRet, out, exprP, vAnd, h3, isRow, dTru, sign_in, w1, w2, w3, dIx, i1, i2, h2, hx, dAdd, partsP]
          | x :: y :: z :: r' =>
            have hn : ¬ ((r'.length : Int) + 1 + 1 + 1 + 1 = 3) := by omega
            simp [sSeq, sSet, sIf, bOr, bNot, mT, mB, m2, mA, aCons, aNil, gv, kc, Res.bind, h5, hf, dGt, gd_MOST_AROUND, hg, dBool, sNext, andThen, eqs, sRet, out, exprP, vAnd, h3, isRow, dTru, sign_in, w1, w2, w3, hn]
        | false =>
        cases w4 : signP w with
        | false =>
          simp [sSeq, sSet, sIf, bOr, bNot, mT, mB, m2, mA, aCons, aNil, gv, kc, Res.bind, h5, hf, dGt, gd_MOST_AROUND, hg, dBool, sNext, andThen, eqs, sRet, out, exprP, vAnd, h3, isRow, dTru, sign_in, w1, w2, w3, w4]
        | true =>
          match r with
          | [] => simp [sSeq, sSet, sIf, bOr, bNot, mT, mB, m2, mA, aCons, aNil, gv, kc, Res.bind, h5, hf, dGt, gd_MOST_AROUND, hg, dBool, sNext, andThen, eqs, sRet, out, exprP, vAnd, h3, isRow, dTru, sign_in, w1, w2, w3, w4]
          | [x] => simp [sSeq, sSet, sIf, bOr, bNot, mT, mB, m2, mA, aCons, aNil, gv, kc, Res.bind, h5, hf, dGt, gd_MOST_AROUND, hg, dBool, sNext, andThen, eqs, sRet, out, exprP, vAnd, h3, isRow, dTru, sign_in, w1, w2, w3, w4]
          | [x, y] =>
            cases hx : exprP k x with
            | true => simp [sSeq, sSet, sIf, bOr, bNot, mT, mB, m2, mA, aCons, aNil, gv, kc, Res.bind, h5, hf, dGt, gd_MOST_AROUND, hg, dBool, sNext, andThen, eqs, sRet, out, exprP, vAnd, h3, isRow, dTru, sign_in, w1, w2, w3, w4, dIx, i1, i2, h7, hx, dAdd]
            | false => simp [sSeq, sSet, sIf, bOr, bNot, mT, mB, m2, mA, aCons, aNil, gv, kc, Res.bind, h5, hf, dGt, gd_MOST_AROUND, hg, dBool, sNext, andThen, eqs, sRet, out, exprP, vAnd, h3, isRow, dTru, sign_in, w1, w2, w3, w4, dIx, i1, i2, h7, hx, dAdd]
          | x :: y :: z :: r' =>
            have hn : ¬ ((r'.length : Int) + 1 + 1 + 1 + 1 = 3) := by omega
            simp [sSeq, sSet, sIf, bOr, bNot, mT, mB, m2, mA, aCons, aNil, gv, kc, Res.bind, h5, hf, dGt, gd_MOST_AROUND, hg, dBool, sNext, andThen, eqs, sRet, out, exprP, vAnd, h3, isRow, dTru, sign_in, w1, w2, w3, w4, hn]
      | _ => exact none_ rfl rfl
  | _ => exact none_ rfl rfl
/-- the program's word, for all things -/
theorem prog_expr : ∀ (k n : Nat) (a : Int) (d : D), a + (k : Int) = 13 → Ph (n + 4 * k + 6) 7 [d, .int a] = .ok (.bl (exprP k d))
  | 0, n, a, d, h => by
    have ha : a = 13 := by omega
    subst ha
    show ((B7 (Ph (n + 5)) (Ph (n + 3))) [.val d, .val (.int 13), .no]).bind out = _
    unfold B7
    have hf := fw_ok (n + 2) d
    simp [sSeq, sSet, sIf, mB, m2, mA, aCons, aNil, gv, kc, Res.bind, hf, dGt, gd_MOST_AROUND, dBool, andThen, sRet, out, exprP]
  | k + 1, n, a, d, h => by
    have e : n + 4 * (k + 1) + 6 = (n + 4 * k + 7) + 3 := by omega
    rw [e]
    show ((B7 (Ph (n + 4 * k + 7 + 2)) (Ph (n + 4 * k + 7))) [.val d, .val (.int a), .no]).bind out = _
    refine body7 _ _ k a d (by omega) ?_ ?_ ?_ ?_ ?_ ?_
    · exact fw_ok (n + 4 * k + 6) d
    · exact fun d m => row_ok (n + 4 * k + 6) d m
    · exact fun x => num_ok (n + 4 * k + 5) x
    · exact fun x => name_prog (n + 4 * k + 6) x
    · exact fun x => parts_ok (n + 4 * k + 6) k (a + 1) x fun y => prog_expr k n (a + 1) y (by omega)
    · intro x
      have q := prog_expr k (n + 3) (a + 1) x (by omega)
      have e2 : n + 3 + 4 * k + 6 = n + 4 * k + 7 + 2 := by omega
      rw [e2] at q
      exact q
end Jm
end
section
set_option Elab.async false
set_option linter.all false
set_option maxRecDepth 100000
set_option maxHeartbeats 4000000
namespace Jm
open PySem PySem.Spec PyProof.Rows L2 R
variable [Tbl]
abbrev SG : Str := "+-*<="
theorem sg_codes (c : Nat) : decide (c ∈ SG.cps.toList) = signP ⟨#[c]⟩ := by
  have e : SG.cps.toList = [43, 45, 42, 60, 61] := by decide +kernel
  have e1 : ("+" : Str) = ⟨#[43]⟩ := by decide +kernel
  have e2 : ("-" : Str) = ⟨#[45]⟩ := by decide +kernel
  have e3 : ("*" : Str) = ⟨#[42]⟩ := by decide +kernel
  have e4 : ("<" : Str) = ⟨#[60]⟩ := by decide +kernel
  have e5 : ("=" : Str) = ⟨#[61]⟩ := by decide +kernel
  have one : ∀ a : Nat, ((⟨#[a]⟩ : Str) == ⟨#[c]⟩) = decide (c = a) := fun a => by
    rw [Bool.eq_iff_iff]
    simp only [beq_iff_eq, decide_eq_true_eq]
    constructor
    · intro h; injection h with h; simpa using h.symm
    · intro h; rw [h]
  rw [e]
  unfold signP gt_SIGNS
  rw [e1, e2, e3, e4, e5]
  simp only [List.any_cons, List.any_nil, one, Bool.or_false]
  simp [Bool.eq_iff_iff]
theorem sg_find (c : Nat) : decide (Txt.find SG ⟨#[c]⟩ < 0) = !signP ⟨#[c]⟩ := by
  have h := StrLaws.found_one SG c
  rw [sg_codes] at h
  unfold Txt.find
  cases ho : Builtin.Str.occurrences SG ⟨#[c]⟩ 0 SG.length 1 with
  | nil => rw [ho] at h; rw [← h]; rfl
  | cons i r =>
    rw [ho] at h
    rw [← h]
    show decide ((i : Int) < 0) = _
    rw [decide_eq_false (by omega)]; rfl
theorem sign_len {w : Str} (h : signP w = true) : w.length = 1 := by
  unfold signP gt_SIGNS at h
  simp only [List.any_cons, List.any_nil, Bool.or_false, Bool.or_eq_true, beq_iff_eq] at h
  rcases h with h | h | h | h | h <;> (subst h; decide +kernel)
theorem one_str {w : Str} (h : w.length = 1) : ∃ c, w = ⟨#[c]⟩ := by
  obtain ⟨a⟩ := w
  have h' : a.size = 1 := h
  obtain ⟨l⟩ := a
  match l, h' with
  | [c], _ => exact ⟨c, rfl⟩
/-- the law's parts -/
theorem filt_all (p : D → Bool) (xs : List D) : (xs.filter fun x => !p x).isEmpty = xs.all p := by
  induction xs with
  | nil => rfl
  | cons x r ih =>
    rw [List.filter_cons, List.all_cons, ← ih]
    cases p x <;> rfl
theorem depL_filter (p : D → Bool) : ∀ xs : List D, depL (xs.filter p) ≤ depL xs
  | [] => Nat.le_refl _
  | x :: r => by
    have ih := depL_filter p r
    rw [List.filter_cons]
    split
    · simp only [depL]; omega
    · simp only [depL]; omega
theorem comp_parts {C : CT} {p : D → Bool} {a : Int} : ∀ xs : List D, (∀ x ∈ xs, C 20 [x, .int a] = .ok (.bl (p x))) →
    compM (bNot (mT (mA (C 20) (aCons (gv 0) (aCons (gv 1) (aNil)))))) (gv 0) [.val (.int a)] xs = .ok (xs.filter fun x => !p x)
  | [], _ => rfl
  | x :: r, h => by
    have ih := comp_parts r fun y hy => h y (List.mem_cons_of_mem _ hy)
    have e : bNot (mT (mA (C 20) (aCons (gv 0) (aCons (gv 1) (aNil))))) [.val x, .val (.int a)] = .ok (!p x) := by
      simp [bNot, mT, mA, aCons, aNil, gv, Res.bind, h x List.mem_cons_self, dTru]
    rw [compM, e, List.filter_cons]
    cases hp : p x with
    | true => simp only [Res.bind, Bool.not_true, Bool.false_eq_true, if_false]; exact ih
    | false =>
      simp only [Res.bind, Bool.not_false, if_true]
      show (Res.bind (compM _ (gv 0) [.val (.int a)] r) _) = _
      rw [ih]; rfl
theorem body19 (C C' : CT) (k : Nat) (a : Int) (d : D) (hd : dep d ≤ 100) (h : ∀ x, dep x ≤ 100 → C 20 [x, .int a] = .ok (.bl (exprP k x))) : ((B19 C C') [.val d, .val (.int a)]).bind out = .ok (.bl (partsP k d)) := by
  unfold B19
  cases d with
  | tup xs =>
    by_cases hl : (xs.length : Int) < 5
    · have hle : xs.length ≤ 4 := by omega
      have hdx : depL xs ≤ 99 := by simp only [dep] at hd; omega
      have hm : ∀ x ∈ xs, dep x ≤ 100 := by
        have gen : ∀ (ys : List D) (x : D), x ∈ ys → dep x ≤ depL ys := by
          intro ys
          induction ys with
          | nil => intro x hx; cases hx
          | cons y r ih =>
            intro x hx
            simp only [depL]
            rcases List.mem_cons.mp hx with z | z
            · subst z; omega
            · have := ih x z; omega
        intro x hx
        have := gen xs x hx
        omega
      have hc : mComp [1] (mItems (gv 0)) (bNot (mT (mA (C 20) (aCons (gv 0) (aCons (gv 1) (aNil)))))) (gv 0) [.val (.tup xs), .val (.int a)] = .ok (.lst (xs.filter fun x => !exprP k x)) := by
        show (if xs.length ≤ sizeLine then (compM _ _ _ xs).bind _ else .bad) = _
        have hs := sizeLine_eq
        rw [if_pos (by omega)]
        show Res.bind (compM _ (gv 0) [.val (.int a)] xs) _ = _
        rw [comp_parts xs fun x hx => h x (hm x hx)]; rfl
      have hq : dEq (.lst (xs.filter fun x => !exprP k x)) (.lst []) = .ok (.bl (xs.all (exprP k))) := by
        unfold dEq
        have := depL_filter (fun x => !exprP k x) xs
        rw [if_pos (by simp only [dep]; omega), eqD, eqL_nil, filt_all]
      have hl0 : dLst [] = .ok (.lst []) := by kernel_rfl
      simp [sRet, vAnd, m1, m2, gv, kc, dIsi, isiT, Res.bind, dBool, mA, aCons, aNil, dLen, dLt, hl, hc, hl0, hq, out, partsP, hle]
    · have hle : ¬ xs.length ≤ 4 := by omega
      simp [sRet, vAnd, m1, m2, gv, kc, dIsi, isiT, Res.bind, dBool, mA, aCons, aNil, dLen, dLt, hl, out, partsP, hle]
  | _ => simp [sRet, vAnd, m1, gv, dIsi, isiT, Res.bind, dBool, out, partsP]
end Jm
end
section
set_option Elab.async false
set_option linter.all false
set_option maxRecDepth 100000
set_option maxHeartbeats 8000000
namespace Jm
open PySem PySem.Spec PyProof.Rows L2 R
variable [Tbl]
theorem sg_dfind (c : Nat) : dLt (.int (Txt.find SG ⟨#[c]⟩)) (.int 0) = .ok (.bl (!signP ⟨#[c]⟩)) := by
  simp only [dLt]; rw [sg_find]
theorem body20 (C C' : CT) (k : Nat) (a : Int) (d : D) (ha : a ≤ 12) (hd : dep d ≤ 100) (h17 : ∀ x, C 17 [x] = .ok (.bl (numP x))) (h16 : ∀ x, C 16 [x] = .ok (.bl (nameP x)))
    (h19 : ∀ x, dep x ≤ 100 → C 19 [x, .int (a + 1)] = .ok (.bl (partsP k x))) (h20 : ∀ x, dep x ≤ 100 → C 20 [x, .int (a + 1)] = .ok (.bl (exprP k x))) : ((B20 C C') [.val d, .val (.int a)]).bind out = .ok (.bl (exprP (k + 1) d)) := by
  have hg : ¬ (12 : Int) < a := by omega
  cases d with
  | tup ds =>
    cases ds with
    | nil => unfold B20; simp [sSeq, sIf, bOr, bNot, mT, mB, m1, m2, mA, aCons, aNil, gv, kc, Res.bind, dGt, hg, dBool, andThen, sRet, out, exprP, dTru, dIsi, isiT, dLen, eq_int]
    | cons x r =>
      have i0 : atI (x :: r) 0 = some x := atI_of (Int.le_refl 0) rfl
      have hz : ((((x :: r).length : Nat) : Int) == 0) = false := by rw [List.length_cons]; exact beq_false_of_ne (by omega)
      have hz' : (((r.length : Nat) : Int) + 1 == 0) = false := beq_false_of_ne (by omega)
      cases x with
      | str w =>
        have i1 : ∀ x r', atI (D.str w :: x :: r') 1 = some x := fun x r' => atI_of (by decide) rfl
        have i2 : ∀ x y r', atI (D.str w :: x :: y :: r') 2 = some y := fun x y r' => atI_of (by decide) rfl
        have s0 : sIf (bOr (mB (m2 dGt (gv 1) (kc (.int 12)))) (bOr (bNot (mT (m1 (dIsi "tuple") (gv 0)))) (bOr (mB (m2 dEq (mA dLen (aCons (gv 0) (aNil))) (kc (.int 0)))) (bNot (mT (m1 (dIsi "str") (m2 dIx (gv 0) (kc (.int 0))))))))) (sRet (kc (.bl false))) (sNext) [.val (.tup (.str w :: r)), .val (.int a)] = .ok (.nx [.val (.tup (.str w :: r)), .val (.int a)]) := by
          simp [sIf, bOr, bNot, mT, mB, m1, m2, mA, aCons, aNil, gv, kc, Res.bind, dGt, hg, dBool, sNext, dTru, dIsi, isiT, dLen, eq_int, hz', dIx, i0]
        have ix0 : m2 dIx (gv 0) (kc (.int 0)) [.val (.tup (.str w :: r)), .val (.int a)] = .ok (.str w) := by simp [m2, gv, kc, Res.bind, dIx, i0]
        unfold B20
        show Res.bind (Res.bind (sIf _ _ _ [.val (.tup (.str w :: r)), .val (.int a)]) (andThen _)) out = _
        rw [s0]
        cases w1 : (w == ("number" : Str)) with
        | true =>
          match r with
          | [] => simp [sSeq, sIf, mB, m2, mA, aCons, aNil, gv, kc, Res.bind, dBool, andThen, eqs, sRet, out, exprP, vAnd, dLen, i0, dIx, eq_int, w1]
          | [x] => simp [sSeq, sIf, mB, m2, mA, aCons, aNil, gv, kc, Res.bind, dBool, andThen, eqs, sRet, out, exprP, vAnd, dLen, i0, i1, dIx, eq_int, w1, h17]
          | x :: y :: r' =>
            have hn : (((r'.length : Nat) : Int) + 1 + 1 + 1 == 2) = false := beq_false_of_ne (by omega)
            simp [sSeq, sIf, mB, m2, mA, aCons, aNil, gv, kc, Res.bind, dBool, andThen, eqs, sRet, out, exprP, vAnd, dLen, i0, dIx, eq_int, w1, hn]
        | false =>
        cases w2 : (w == ("name" : Str)) with
        | true =>
          match r with
          | [] => simp [sSeq, sIf, sNext, mB, m2, mA, aCons, aNil, gv, kc, Res.bind, dBool, andThen, eqs, sRet, out, exprP, vAnd, dLen, i0, dIx, eq_int, w1, w2]
          | [x] => simp [sSeq, sIf, sNext, mB, m2, mA, aCons, aNil, gv, kc, Res.bind, dBool, andThen, eqs, sRet, out, exprP, vAnd, dLen, i0, i1, dIx, eq_int, w1, w2, h16]
          | x :: y :: r' =>
            have hn : (((r'.length : Nat) : Int) + 1 + 1 + 1 == 2) = false := beq_false_of_ne (by omega)
            simp [sSeq, sIf, sNext, mB, m2, mA, aCons, aNil, gv, kc, Res.bind, dBool, andThen, eqs, sRet, out, exprP, vAnd, dLen, i0, dIx, eq_int, w1, w2, hn]
        | false =>
        cases w3 : (w == ("call" : Str)) with
        | true =>
          match r with
          | [] => simp [sSeq, sIf, sNext, mB, m2, mA, aCons, aNil, gv, kc, Res.bind, dBool, andThen, eqs, sRet, out, exprP, vAnd, dLen, i0, dIx, eq_int, w1, w2, w3]
          | [x] => simp [sSeq, sIf, sNext, mB, m2, mA, aCons, aNil, gv, kc, Res.bind, dBool, andThen, eqs, sRet, out, exprP, vAnd, dLen, i0, dIx, eq_int, w1, w2, w3]
          | [x, y] =>
            have hy : dep y ≤ 100 := by simp only [dep, depL] at hd; omega
            have q := h19 y hy
            cases hx : nameP x with
            | true => cases y <;> simp [sSeq, sIf, sNext, mB, m2, mA, aCons, aNil, gv, kc, Res.bind, dBool, andThen, eqs, sRet, out, exprP, vAnd, dLen, i0, i1, i2, dIx, eq_int, w1, w2, w3, h16, hx, dAdd, q, partsP]
            | false => cases y <;> simp [sSeq, sIf, sNext, mB, m2, mA, aCons, aNil, gv, kc, Res.bind, dBool, andThen, eqs, sRet, out, exprP, vAnd, dLen, i0, i1, i2, dIx, eq_int, w1, w2, w3, h16, hx, dAdd, partsP]
          | x :: y :: z :: r' =>
            have hn : (((r'.length : Nat) : Int) + 1 + 1 + 1 + 1 == 3) = false := beq_false_of_ne (by omega)
            simp [sSeq, sIf, sNext, mB, m2, mA, aCons, aNil, gv, kc, Res.bind, dBool, andThen, eqs, sRet, out, exprP, vAnd, dLen, i0, dIx, eq_int, w1, w2, w3, hn]
        | false =>
          match r with
          | [] => simp [sSeq, sIf, sNext, bOr, mB, m2, mA, aCons, aNil, gv, kc, Res.bind, dBool, andThen, eqs, sRet, out, exprP, dLen, i0, dIx, w1, w2, w3, dNeq]
          | [x] => simp [sSeq, sIf, sNext, bOr, mB, m2, mA, aCons, aNil, gv, kc, Res.bind, dBool, andThen, eqs, sRet, out, exprP, dLen, i0, dIx, w1, w2, w3, dNeq]
          | [x, y] =>
            have hx0 : dep x ≤ 100 := by simp only [dep, depL] at hd; omega
            have hy0 : dep y ≤ 100 := by simp only [dep, depL] at hd; omega
            have qx := h20 x hx0
            have qy := h20 y hy0
            by_cases hl : w.length = 1
            · obtain ⟨c, rfl⟩ := one_str hl
              have hf : dLt (.int (Txt.find "+-*<=" ⟨#[c]⟩)) (.int 0) = .ok (.bl (!signP ⟨#[c]⟩)) := sg_dfind c
              have h1 : (⟨#[c]⟩ : Str).length = 1 := rfl
              cases w4 : signP ⟨#[c]⟩ with
              | true =>
                cases hx : exprP k x with
                | true => simp [sSeq, sIf, sNext, bOr, mB, m2, mA, aCons, aNil, gv, kc, Res.bind, dBool, andThen, eqs, sRet, out, exprP, vAnd, dLen, i0, i1, i2, dIx, w1, w2, w3, dNeq, h1, mMe, dStrO, dFind, hf, w4, dAdd, qx, qy, hx]
                | false => simp [sSeq, sIf, sNext, bOr, mB, m2, mA, aCons, aNil, gv, kc, Res.bind, dBool, andThen, eqs, sRet, out, exprP, vAnd, dLen, i0, i1, i2, dIx, w1, w2, w3, dNeq, h1, mMe, dStrO, dFind, hf, w4, dAdd, qx, hx]
              | false => simp [sSeq, sIf, sNext, bOr, mB, m2, mA, aCons, aNil, gv, kc, Res.bind, dBool, andThen, eqs, sRet, out, exprP, dLen, i0, i1, i2, dIx, w1, w2, w3, dNeq, h1, mMe, dStrO, dFind, hf, w4]
            · have w4 : signP w = false := by
                cases z : signP w with
                | false => rfl
                | true => exact absurd (sign_len z) hl
              have hl2 : (((w.length : Nat) : Int) == 1) = false := beq_false_of_ne (by omega)
              simp [sSeq, sIf, sNext, bOr, mB, m2, mA, aCons, aNil, gv, kc, Res.bind, dBool, andThen, eqs, sRet, out, exprP, dLen, i0, dIx, w1, w2, w3, w4, dNeq, hl2]
          | x :: y :: z :: r' =>
            have hn : (((r'.length : Nat) : Int) + 1 + 1 + 1 + 1 == 3) = false := beq_false_of_ne (by omega)
            simp [sSeq, sIf, sNext, bOr, mB, m2, mA, aCons, aNil, gv, kc, Res.bind, dBool, andThen, eqs, sRet, out, exprP, dLen, i0, dIx, w1, w2, w3, dNeq, hn]
      | _ => unfold B20; simp [sSeq, sIf, bOr, bNot, mT, mB, m1, m2, mA, aCons, aNil, gv, kc, Res.bind, dGt, hg, dBool, andThen, sRet, out, exprP, dTru, dIsi, isiT, dLen, eq_int, hz', dIx, i0]
  | _ => unfold B20; simp [sSeq, sIf, bOr, bNot, mT, mB, m1, m2, gv, kc, Res.bind, dGt, hg, dBool, andThen, sRet, out, exprP, dTru, dIsi, isiT]
theorem law_expr : ∀ (k n : Nat) (a : Int) (d : D), a + (k : Int) = 13 → dep d ≤ 100 → Ph (n + 4 * k + 6) 20 [d, .int a] = .ok (.bl (exprP k d))
  | 0, n, a, d, h, _ => by
    have ha : a = 13 := by omega
    subst ha
    show ((B20 (Ph (n + 5)) (Ph (n + 3))) [.val d, .val (.int 13)]).bind out = _
    unfold B20
    simp [sSeq, sIf, bOr, mB, m2, gv, kc, Res.bind, dGt, dBool, andThen, sRet, out, exprP]
  | k + 1, n, a, d, h, hd => by
    have e : n + 4 * (k + 1) + 6 = (n + 4 * k + 7) + 3 := by omega
    rw [e]
    show ((B20 (Ph (n + 4 * k + 7 + 2)) (Ph (n + 4 * k + 7))) [.val d, .val (.int a)]).bind out = _
    refine body20 _ _ k a d (by omega) hd ?_ ?_ ?_ ?_
    · exact fun x => lawnum_ok (n + 4 * k + 6) x
    · exact fun x => name_law (n + 4 * k + 6) x
    · intro x hx
      show ((B19 (Ph (n + 4 * k + 6 + 2)) (Ph (n + 4 * k + 6))) [.val x, .val (.int (a + 1))]).bind out = _
      refine body19 _ _ k (a + 1) x hx fun y hy => ?_
      have q := law_expr k (n + 2) (a + 1) y (by omega) hy
      have e2 : n + 2 + 4 * k + 6 = n + 4 * k + 6 + 2 := by omega
      rw [e2] at q
      exact q
    · intro x hx
      have q := law_expr k (n + 3) (a + 1) x (by omega) hx
      have e2 : n + 3 + 4 * k + 6 = n + 4 * k + 7 + 2 := by omega
      rw [e2] at q
      exact q
end Jm
end
section
set_option Elab.async false
set_option linter.all false
set_option maxRecDepth 100000
set_option maxHeartbeats 8000000
namespace Jm
open PySem PySem.Spec PyProof.Rows L2 R
variable [Tbl]
theorem value_ok (n : Nat) (nb : Int) : ∃ v : Int, Ph (n + 3) 14 [.int nb] = .ok (.int v) ∧ -1000000 ≤ v ∧ v ≤ 1000000 := by
  have a0 : 0 ≤ nb / 9 % 1999999 := Int.emod_nonneg _ (by decide)
  have a1 : nb / 9 % 1999999 < 1999999 := Int.emod_lt_of_pos _ (by decide)
  have b0 : 0 ≤ nb / 9 % 14 := Int.emod_nonneg _ (by decide)
  have b1 : nb / 9 % 14 < 14 := Int.emod_lt_of_pos _ (by decide)
  by_cases h : (nb % 9 == 4) = true
  · refine ⟨nb / 9 % 1999999 - 999999, ?_, by omega, by omega⟩
    show ((B14 (Ph (n + 2)) (Ph n)) [.val (.int nb)]).bind out = _
    unfold B14
    simp [sSeq, sIf, mB, m2, gv, kc, Res.bind, dMod, dFdiv, dSub, dI, eq_int, h, dBool, sRet, andThen, out]
  · have h' : (nb % 9 == 4) = false := by simpa using h
    refine ⟨nb / 9 % 14 - 4, ?_, by omega, by omega⟩
    show ((B14 (Ph (n + 2)) (Ph n)) [.val (.int nb)]).bind out = _
    unfold B14
    simp [sSeq, sIf, mB, m2, gv, kc, Res.bind, dMod, dFdiv, dSub, dI, eq_int, h', dBool, sNext, sRet, andThen, out]
theorem drawn_ok (n : Nat) (nb k : Int) (hk : smallI k = true) : ∃ v : Int, Ph (n + 3) 11 [.int nb, .int k] = .ok (.int v) := by
  have h1 : smallI 104729 = true := by decide
  have h2 : smallI 69621 = true := by decide
  have h3 : smallI 3 = true := by decide
  have c0 : 0 ≤ (nb + 104729 * k + 17) * 69621 % 2147483647 := Int.emod_nonneg _ (by decide)
  have c1 : (nb + 104729 * k + 17) * 69621 % 2147483647 < 2147483647 := Int.emod_lt_of_pos _ (by decide)
  have h4 : smallI ((nb + 104729 * k + 17) * 69621 % 2147483647) = true := small_of c0 (by omega)
  refine ⟨((nb + 104729 * k + 17) * 69621 % 2147483647 * ((nb + 104729 * k + 17) * 69621 % 2147483647) + 3 * ((nb + 104729 * k + 17) * 69621 % 2147483647) + k) % 2147483629, ?_⟩
  show ((B11 (Ph (n + 2)) (Ph n)) [.val (.int nb), .val (.int k), .no]).bind out = _
  unfold B11
  simp [sSeq, sSet, m2, gv, kc, Res.bind, mulc (.inl h1), mulc (.inr h2), mulc (.inl h3), mulc (.inl h4), dAdd, dMod, dI, andThen, sRet, out]
mutual
def gd : D → Bool
  | .tup xs => decide (xs.length ≤ 15) && gdL xs
  | .str z => decide (z.length ≤ 20)
  | .int i => decide (i.natAbs ≤ 1000000000000)
  | _ => false
def gdL : List D → Bool
  | [] => true
  | x :: r => gd x && gdL r
end
theorem gdL_mem : ∀ {xs : List D}, (∀ x ∈ xs, gd x = true) → gdL xs = true
  | [], _ => by simp only [gdL]
  | x :: r, h => by simp only [gdL, h x List.mem_cons_self, gdL_mem fun y hy => h y (List.mem_cons_of_mem _ hy), Bool.and_self]
theorem depL_mem {m : Nat} : ∀ {xs : List D}, (∀ x ∈ xs, dep x ≤ m) → depL xs ≤ m
  | [], _ => by simp only [depL]; omega
  | x :: r, h => by
    have h1 := h x List.mem_cons_self
    have h2 := depL_mem fun y hy => h y (List.mem_cons_of_mem _ hy)
    simp only [depL]; omega
/-- what a list of names, a list of deeds is -/
def NamesOk (xs : List D) : Prop := 0 < xs.length ∧ xs.length ≤ 1000 ∧ ∀ x ∈ xs, ∃ z : Str, x = .str z ∧ z.length ≤ 8
def DeedsOk (xs : List D) : Prop := xs.length ≤ 1000 ∧ ∀ x ∈ xs, ∃ (z : Str) (i : Int), x = .tup [.str z, .int i] ∧ z.length ≤ 8 ∧ 0 ≤ i ∧ i ≤ 4
theorem pick {xs : List D} {i : Int} (h : 0 < xs.length) : ∃ x, atI xs (i % (xs.length : Int)) = some x ∧ x ∈ xs := by
  have h0 : 0 ≤ i % (xs.length : Int) := Int.emod_nonneg _ (by omega)
  have h1 : i % (xs.length : Int) < (xs.length : Int) := Int.emod_lt_of_pos _ (by omega)
  obtain ⟨k, hk⟩ : ∃ k : Nat, i % (xs.length : Int) = (k : Int) := ⟨(i % (xs.length : Int)).toNat, by omega⟩
  have hlt : k < xs.length := by omega
  refine ⟨xs[k], ?_, List.getElem_mem hlt⟩
  rw [hk]
  exact atI_nat (by rw [List.getElem?_eq_getElem hlt])
theorem sg_pick (i : Int) : ∃ c, atI SG.cps.toList (i % 5) = some c := by
  have h0 : 0 ≤ i % 5 := Int.emod_nonneg _ (by decide)
  have h1 : i % 5 < 5 := Int.emod_lt_of_pos _ (by decide)
  have hl : SG.cps.toList.length = 5 := by decide +kernel
  obtain ⟨k, hk⟩ : ∃ k : Nat, i % 5 = (k : Int) := ⟨(i % 5).toNat, by omega⟩
  have hlt : k < SG.cps.toList.length := by omega
  exact ⟨SG.cps.toList[k], by rw [hk]; exact atI_nat (by rw [List.getElem?_eq_getElem hlt])⟩
theorem compM_all {g : ME} {rest : Rho} {Pd : D → Prop} : ∀ xs : List D, (∀ x ∈ xs, ∃ d, g (.val x :: rest) = .ok d ∧ Pd d) → ∃ ys, compM (fun _ => .ok true) g rest xs = .ok ys ∧ ys.length = xs.length ∧ ∀ y ∈ ys, Pd y
  | [], _ => ⟨[], rfl, rfl, fun y hy => by cases hy⟩
  | x :: r, h => by
    obtain ⟨d, e1, p1⟩ := h x List.mem_cons_self
    obtain ⟨ys, e2, l2, p2⟩ := compM_all r fun y hy => h y (List.mem_cons_of_mem _ hy)
    refine ⟨d :: ys, ?_, by rw [List.length_cons, l2, List.length_cons], fun y hy => ?_⟩
    · rw [compM]
      show Res.bind (g (.val x :: rest)) _ = _
      rw [e1]
      show Res.bind (compM _ g rest r) _ = _
      rw [e2]; rfl
    · rcases List.mem_cons.mp hy with z | z
      · subst z; exact p1
      · exact p2 y z
abbrev GoodE (m : Nat) (d : D) : Prop := gd d = true ∧ dep d ≤ 2 * m + 1
end Jm
end
section
set_option Elab.async false
set_option linter.all false
set_option maxRecDepth 100000
set_option maxHeartbeats 8000000
namespace Jm
open PySem PySem.Spec PyProof.Rows L2 R
variable [Tbl]
theorem body15 (C C' : CT) (m : Nat) (M nb : Int) (ns es : List D) (hM : M = (m : Int)) (hn : NamesOk ns) (he : DeedsOk es) (h14 : ∀ nb, ∃ v : Int, C 14 [.int nb] = .ok (.int v) ∧ -1000000 ≤ v ∧ v ≤ 1000000) (h11 : ∀ (nb k : Int), smallI k = true → ∃ v : Int, C 11 [.int nb, .int k] = .ok (.int v))
    (h15 : ∀ (m' : Nat), m = m' + 1 → ∀ nb : Int, ∃ d, C 15 [.int nb, .lst ns, .lst es, .int (m' : Int)] = .ok d ∧ GoodE m' d) : ∃ d, ((B15 C C') [.val (.int nb), .val (.lst ns), .val (.lst es), .val (.int M), .no, .no, .no, .no, .no, .no]).bind out = .ok d ∧ GoodE m d := by
  have hs := sizeLine_eq
  unfold B15
  cases hm : (M == 0) with
  | true =>
    obtain ⟨v, hv, v0, v1⟩ := h14 (nb / 9)
    refine ⟨.tup [.str "number", .int v], ?_, ?_, by simp [dep, depL]⟩
    · have ht : dTup [.str "number", .int v] = .ok (.tup [.str "number", .int v]) := by unfold dTup; rw [if_pos (by show 2 ≤ sizeLine; omega)]
      simp [sSeq, sSet, sIf, bOr, mB, m2, gv, kc, Res.bind, dMod, dFdiv, dI, eq_int, hm, dBool, dLt, sRet, andThen, out, mA, aCons, aNil, hv, ht]
    · have e : (Str.ofString "number").length ≤ 20 := by decide +kernel
      have e2 : v.natAbs ≤ 1000000000000 := by omega
      simp [gd, gdL, e, e2]
  | false =>
  by_cases h2 : nb % 9 < 2
  · obtain ⟨v, hv, v0, v1⟩ := h14 (nb / 9)
    refine ⟨.tup [.str "number", .int v], ?_, ?_, by simp [dep, depL]⟩
    · have ht : dTup [.str "number", .int v] = .ok (.tup [.str "number", .int v]) := by unfold dTup; rw [if_pos (by show 2 ≤ sizeLine; omega)]
      simp [sSeq, sSet, sIf, bOr, mB, m2, gv, kc, Res.bind, dMod, dFdiv, dI, eq_int, hm, h2, dBool, dLt, sRet, andThen, out, mA, aCons, aNil, hv, ht]
    · have e : (Str.ofString "number").length ≤ 20 := by decide +kernel
      have e2 : v.natAbs ≤ 1000000000000 := by omega
      simp [gd, gdL, e, e2]
  obtain ⟨m', rfl⟩ : ∃ m', m = m' + 1 := by
    cases m with
    | zero => rw [hM] at hm; cases hm
    | succ m' => exact ⟨m', rfl⟩
  have hsub : dSub (.int M) (.int 1) = .ok (.int (m' : Int)) := by
    have e : M - 1 = (m' : Int) := by omega
    show Res.ok (D.int (M - 1)) = _
    rw [e]
  have hn0 := hn.1
  have hn9 : (0 : Int) < (ns.length : Int) := by omega
  have rec_ := h15 m' rfl
  by_cases h5 : nb % 9 < 5
  · obtain ⟨x, ex, mx⟩ := pick (xs := ns) (i := nb / 9) hn0
    obtain ⟨z, rfl, hz⟩ := hn.2.2 x mx
    refine ⟨.tup [.str "name", .str z], ?_, ?_, by simp [dep, depL]⟩
    · have ht : dTup [.str "name", .str z] = .ok (.tup [.str "name", .str z]) := by unfold dTup; rw [if_pos (by show 2 ≤ sizeLine; omega)]
      simp [sSeq, sSet, sIf, bOr, mB, m2, gv, kc, Res.bind, dMod, dFdiv, dI, eq_int, hm, h2, h5, dBool, dLt, sRet, sNext, andThen, out, mA, aCons, aNil, dLen, hn0, dIx, ex, ht]
    · have e : (Str.ofString "name").length ≤ 20 := by decide +kernel
      have e2 : z.length ≤ 20 := by omega
      simp [gd, gdL, e, e2]
  have sgn : ((nb % 9 == 5) && decide (0 < es.length)) = false → ∃ d, ((B15 C C') [.val (.int nb), .val (.lst ns), .val (.lst es), .val (.int M), .no, .no, .no, .no, .no, .no]).bind out = .ok d ∧ GoodE (m' + 1) d := fun h6 => by
    unfold B15
    obtain ⟨v1, e1⟩ := h11 nb 5 (by decide)
    obtain ⟨v2, e2⟩ := h11 nb 6 (by decide)
    obtain ⟨d1, r1, g1, p1⟩ := rec_ v1
    obtain ⟨d2, r2, g2, p2⟩ := rec_ v2
    obtain ⟨c, hc⟩ := sg_pick (nb / 9)
    refine ⟨.tup [.str ⟨#[c]⟩, d1, d2], ?_, ?_, by simp only [dep, depL]; omega⟩
    · have ht : dTup [.str ⟨#[c]⟩, d1, d2] = .ok (.tup [.str ⟨#[c]⟩, d1, d2]) := by unfold dTup; rw [if_pos (by show 3 ≤ sizeLine; omega)]
      have hx : dIx (.str "+-*<=") (.int (nb / 9 % 5)) = .ok (.str ⟨#[c]⟩) := by
        simp only [dIx]
        rw [show atI (Str.ofString "+-*<=").cps.toList (nb / 9 % 5) = some c from hc]
      cases q1 : (nb % 9 == 5) with
      | false => simp [sSeq, sSet, sIf, bOr, bAnd, mB, m2, gv, kc, Res.bind, dMod, dFdiv, dI, eq_int, hm, h2, h5, q1, dBool, dLt, sRet, sNext, andThen, out, mA, aCons, aNil, e1, e2, r1, r2, hsub, hx, ht]
      | true =>
        have q2 : es = [] := by
          rw [q1, Bool.true_and] at h6
          have := of_decide_eq_false h6
          exact List.length_eq_zero_iff.mp (by omega)
        subst q2
        simp [sSeq, sSet, sIf, bOr, bAnd, mB, m2, gv, kc, Res.bind, dMod, dFdiv, dI, eq_int, hm, h2, h5, q1, dBool, dLt, dLen, dGt, sRet, sNext, andThen, out, mA, aCons, aNil, e1, e2, r1, r2, hsub, hx, ht]
    · have e : (⟨#[c]⟩ : Str).length ≤ 20 := by rw [one_len]; omega
      simp [gd, gdL, e, g1, g2]
  cases h6 : ((nb % 9 == 5) && decide (0 < es.length)) with
  | false => exact sgn h6
  | true =>
    rw [Bool.and_eq_true] at h6
    have hl0 : 0 < es.length := of_decide_eq_true h6.2
    obtain ⟨x, ex, mx⟩ := pick (xs := es) (i := nb / 9) hl0
    obtain ⟨z, i, rfl, hz, i0, i4⟩ := he.2 x mx
    have hr : dRange (.int i) = .ok (upTo 0 i.toNat) := by
      show (if _ then _ else _) = _
      rw [if_pos ⟨by omega, by omega⟩]
    obtain ⟨ys, hys, ly, py⟩ := compM_all (g := mA (C 15) (aCons (mA (C 11) (aCons (gv 3) (aCons (gv 0) (aNil)))) (aCons (gv 1) (aCons (gv 2) (aCons (m2 dSub (gv 4) (kc (.int 1))) (aNil)))))) (rest := [.val (.lst ns), .val (.lst es), .val (.int nb), .val (.int M)]) (Pd := GoodE m') (upTo 0 i.toNat) fun x hx => by
      obtain ⟨k, rfl, k0, k1⟩ := upTo_mem hx
      obtain ⟨v, ev⟩ := h11 nb k (small_of k0 (by omega))
      obtain ⟨d, ed, gdd⟩ := rec_ v
      exact ⟨d, by simp [mA, aCons, aNil, gv, kc, m2, Res.bind, ev, hsub, ed], gdd⟩
    rw [upTo_len] at ly
    have hcm : mComp [1, 2, 0, 3] (mRange (gv 6)) (fun _ => .ok true) (mA (C 15) (aCons (mA (C 11) (aCons (gv 3) (aCons (gv 0) (aNil)))) (aCons (gv 1) (aCons (gv 2) (aCons (m2 dSub (gv 4) (kc (.int 1))) (aNil)))))) [.val (.int nb), .val (.lst ns), .val (.lst es), .val (.int M), .val (.int (nb % 9)), .val (.str z), .val (.int i), .no, .no, .no] = .ok (.lst ys) := by
      show Res.bind (dRange (.int i)) _ = _
      rw [hr]
      show (if (upTo 0 i.toNat).length ≤ sizeLine then Res.bind (compM _ _ [.val (.lst ns), .val (.lst es), .val (.int nb), .val (.int M)] (upTo 0 i.toNat)) _ else .bad) = _
      rw [upTo_len, if_pos (by omega), hys]; rfl
    refine ⟨.tup [.str "call", .str z, .tup ys], ?_, ?_, ?_⟩
    · have ht : dTup [.str "call", .str z, .tup ys] = .ok (.tup [.str "call", .str z, .tup ys]) := by unfold dTup; rw [if_pos (by show 3 ≤ sizeLine; omega)]
      simp [sSeq, sSet, sSet2, sSetComp, sIf, bOr, bAnd, mB, m2, gv, kc, Res.bind, dMod, dFdiv, dI, eq_int, hm, h2, h5, h6.1, hl0, dBool, dLt, dLen, dGt, sRet, sNext, andThen, out, mA, aCons, aNil, dIx, ex, hcm, dTuple, ht]
    · have e : (Str.ofString "call").length ≤ 20 := by decide +kernel
      have e2 : z.length ≤ 20 := by omega
      have e3 : ys.length ≤ 15 := by omega
      simp [gd, gdL, e, e2, e3, gdL_mem fun y hy => (py y hy).1]
    · have := depL_mem (m := 2 * m' + 1) fun y hy => (py y hy).2
      simp only [dep, depL]; omega
theorem expr_made : ∀ (m n : Nat) (nb : Int) (ns es : List D), NamesOk ns → DeedsOk es → ∃ d, Ph (n + m + 5) 15 [.int nb, .lst ns, .lst es, .int (m : Int)] = .ok d ∧ GoodE m d
  | m, n, nb, ns, es, hn, he => by
    show ∃ d, ((B15 (Ph (n + m + 4)) (Ph (n + m + 2))) [.val (.int nb), .val (.lst ns), .val (.lst es), .val (.int (m : Int)), .no, .no, .no, .no, .no, .no]).bind out = .ok d ∧ GoodE m d
    refine body15 _ _ m _ nb ns es rfl hn he (fun nb => value_ok (n + m + 1) nb) (fun nb k hk => drawn_ok (n + m + 1) nb k hk) fun m' hm' nb' => ?_
    subst hm'
    exact expr_made m' n nb' ns es hn he
end Jm
end
section
set_option Elab.async false
set_option linter.all false
set_option maxRecDepth 100000
set_option maxHeartbeats 8000000
namespace Jm
open PySem PySem.Spec PyProof.Rows L2 R
variable [Tbl]
theorem mem_dep {x : D} : ∀ {xs : List D}, x ∈ xs → dep x ≤ depL xs
  | [], h => by cases h
  | y :: r, h => by
    simp only [depL]
    rcases List.mem_cons.mp h with rfl | h
    · omega
    · have := mem_dep h; omega
theorem sub_dep {xs ys : List D} (h : ∀ x ∈ ys, x ∈ xs) : depL ys ≤ depL xs := depL_mem fun x hx => mem_dep (h x hx)
theorem cut_mem {α : Type} {xs : List α} {lo hi : Option Int} {x : α} (h : x ∈ cutL xs lo hi) : x ∈ xs := List.mem_of_mem_drop (List.mem_of_mem_take h)
theorem odds_dep : depL odds ≤ 1 := by simp [odds, dep, depL]
theorem gdL_at {x : D} : ∀ {xs : List D}, gdL xs = true → x ∈ xs → gd x = true
  | [], _, h => by cases h
  | y :: r, g, h => by
    simp only [gdL, Bool.and_eq_true] at g
    rcases List.mem_cons.mp h with rfl | h
    · exact g.1
    · exact gdL_at g.2 h
theorem at_mem {α : Type} {xs : List α} {i : Int} {v : α} (h : atI xs i = some v) : v ∈ xs := by
  unfold atI at h
  cases hx : ixN xs.length i with
  | none => rw [hx] at h; cases h
  | some j => rw [hx] at h; exact List.mem_of_getElem? h
/-- what is left of spoilt behind its first step -/
def tail22 (C : CT) : MS := (sSeq (sIf (bAnd (mT (m1 (dIsi "tuple") (gv 0))) (bAnd (mB (m2 dGt (mA dLen (aCons (gv 0) (aNil))) (kc (.int 0)))) (mB (m2 dEq (m2 dMod (m2 dFdiv (gv 1) (kc (.int 6))) (kc (.int 2))) (kc (.int 0)))))) (sRet (m2 dIx (mA dLst (aCons (mA dList (aCons (gv 0) (aNil))) (aCons (mSl (gv 0) (oNone) (oSome (m1 dNeg (kc (.int 1))))) (aCons (m2 dAdd (gv 0) (mSl (gv 0) (oSome (m1 dNeg (kc (.int 1)))) (oNone))) (aCons (mSl (gv 0) (oSome (kc (.int 1))) (oNone)) (aCons (m2 dRev (gv 0) (m1 dNeg (kc (.int 1)))) (aCons (m2 dMul (gv 0) (kc (.int 3))) (aNil)))))))) (m2 dMod (m2 dFdiv (gv 1) (kc (.int 12))) (kc (.int 6))))) (sNext)) (sSeq (sIf (bAnd (mT (m1 (dIsi "int") (gv 0))) (mB (m2 dEq (m2 dMod (m2 dFdiv (gv 1) (kc (.int 6))) (kc (.int 2))) (kc (.int 0))))) (sRet (m2 dIx (mA dLst (aCons (mA dStr (aCons (gv 0) (aNil))) (aCons (m1 dNeg (gv 0)) (aCons (m2 dMul (gv 0) (kc (.int 1001))) (aCons (m2 dEq (gv 0) (kc (.int 1))) (aCons (m2 dAdd (gv 0) (kc (.int 1))) (aNil))))))) (m2 dMod (m2 dFdiv (gv 1) (kc (.int 12))) (kc (.int 5))))) (sNext)) (sSeq (sIf (bAnd (mT (m1 (dIsi "str") (gv 0))) (mB (m2 dEq (m2 dMod (m2 dFdiv (gv 1) (kc (.int 6))) (kc (.int 2))) (kc (.int 0))))) (sRet (m2 dIx (mA dLst (aCons (m2 dAdd (gv 0) (kc (.str "a"))) (aCons (mSl (gv 0) (oNone) (oSome (m1 dNeg (kc (.int 1))))) (aCons (mMe0 dUpper (gv 0)) (aCons (m2 dAdd (gv 0) (kc (.str " "))) (aCons (kc (.str "do")) (aCons (m2 dMul (gv 0) (kc (.int 2))) (aCons (m2 dRev (gv 0) (m1 dNeg (kc (.int 1)))) (aNil))))))))) (m2 dMod (m2 dFdiv (gv 1) (kc (.int 12))) (kc (.int 7))))) (sNext)) (sRet (mA (C 21) (aCons (m2 dFdiv (gv 1) (kc (.int 6))) (aNil)))))))
theorem tail22_ok (C : CT) (d : D) (nb : Int) (s2 s3 s4 : Slot) (hg : gd d = true) (h21 : ∀ i : Int, ∃ o, C 21 [.int i] = .ok o ∧ o ∈ odds) : ∃ d', (tail22 C [.val d, .val (.int nb), s2, s3, s4]).bind out = .ok d' ∧ dep d' ≤ dep d + 1 := by
  have hsl : ∀ k : Nat, k ≤ 1000 → k ≤ sizeLine := fun k hk => by have := sizeLine_eq; omega
  obtain ⟨o, ho, mo⟩ := h21 (nb / 6)
  have od : dep o ≤ dep d + 1 := by have := mem_dep mo; have := odds_dep; omega
  cases d with
  | int v =>
    by_cases h2 : nb / 6 % 2 = 0
    · simp only [gd, decide_eq_true_eq] at hg
      have hv : v.natAbs < 2 ^ 64 := by omega
      have hm : smallI 1001 = true := by decide
      obtain ⟨t, ht⟩ : ∃ t, dStr [.int v] = .ok (.str t) := ⟨_, by simp only [dStr]; rw [if_pos hv]⟩
      obtain ⟨d', hd⟩ := atI_ex (xs := [D.str t, .int (-v), .int (v * 1001), .bl (v == 1), .int (v + 1)]) (k := nb / 12 % 5) (Int.emod_nonneg _ (by decide)) (Int.emod_lt_of_pos _ (by decide))
      refine ⟨d', ?_, ?_⟩
      · simp [tail22, sSeq, sIf, bAnd, mB, mT, m1, m2, gv, kc, dGt, dBool, dTru, dIsi, isiT, Res.bind, sNext, andThen, dFdiv, dMod, dI, eq_int, h2, sRet, mA, aCons, aNil, dNeg, ht, mulc (.inr hm), dAdd, dLst, hsl, dIx, hd, out]
      · have := mem_dep (at_mem hd); simp [dep, depL] at this; omega
    · refine ⟨o, ?_, od⟩
      simp [tail22, sSeq, sIf, bAnd, mB, mT, m1, m2, gv, kc, dGt, dBool, dTru, dIsi, isiT, Res.bind, sNext, andThen, dFdiv, dMod, dI, eq_int, h2, sRet, mA, aCons, aNil, ho, out]
  | str z =>
    by_cases h2 : nb / 6 % 2 = 0
    · simp only [gd, decide_eq_true_eq] at hg
      have la : (Str.ofString "a").length = 1 := by decide +kernel
      have lb : (Str.ofString " ").length = 1 := by decide +kernel
      have ha : z.length + (Str.ofString "a").length ≤ 1000000 := by omega
      have hb : z.length + (Str.ofString " ").length ≤ 1000000 := by omega
      have hu : z.length ≤ 100000 := by omega
      have hm : z.length ≤ 100 := by omega
      obtain ⟨d', hd⟩ := atI_ex (xs := [D.str (z ++ Str.ofString "a"), .str (cutS z none (some (-1))), .str (Txt.upper z), .str (z ++ Str.ofString " "), .str "do", .str (Txt.mul z 2), .str (revS z)]) (k := nb / 12 % 7) (Int.emod_nonneg _ (by decide)) (Int.emod_lt_of_pos _ (by decide))
      refine ⟨d', ?_, ?_⟩
      · simp [tail22, sSeq, sIf, bAnd, mB, mT, m1, m2, gv, kc, dGt, dBool, dTru, dIsi, isiT, Res.bind, sNext, andThen, dFdiv, dMod, dI, eq_int, h2, sRet, mA, aCons, aNil, add_str ha, add_str hb, mSl, oNone, oSome, dSome, dNeg, dSl, mMe0, dStrO, dUpper, hu, dMul, hm, dRev, dLst, hsl, dIx, hd, out]
      · have := mem_dep (at_mem hd); simp [dep, depL] at this; omega
    · refine ⟨o, ?_, od⟩
      simp [tail22, sSeq, sIf, bAnd, mB, mT, m1, m2, gv, kc, dGt, dBool, dTru, dIsi, isiT, Res.bind, sNext, andThen, dFdiv, dMod, dI, eq_int, h2, sRet, mA, aCons, aNil, ho, out]
  | tup xs =>
    simp only [gd, Bool.and_eq_true, decide_eq_true_eq] at hg
    by_cases h0 : 0 < xs.length
    · have h0' : (0 : Int) < (xs.length : Int) := by omega
      by_cases h2 : nb / 6 % 2 = 0
      · have hc := cutL_le xs (some (-1)) none
        have hadd : dAdd (.tup xs) (.tup (cutL xs (some (-1)) none)) = .ok (.tup (xs ++ cutL xs (some (-1)) none)) := by
          simp only [dAdd]; rw [if_pos (hsl _ (by omega))]
        obtain ⟨zs, hmul, mz⟩ : ∃ zs, dMul (.tup xs) (.int 3) = .ok (.tup zs) ∧ ∀ y ∈ zs, y ∈ xs := ⟨(List.replicate 3 xs).flatten, by
          simp only [dMul]; rw [if_pos ⟨by omega, by omega, h0, by omega⟩]; rfl, fun y h => by
              obtain ⟨l, hl, hy⟩ := List.mem_flatten.mp h
              rw [List.eq_of_mem_replicate hl] at hy; exact hy⟩
        obtain ⟨d', hd⟩ := atI_ex (xs := [D.lst xs, .tup (cutL xs none (some (-1))), .tup (xs ++ cutL xs (some (-1)) none), .tup (cutL xs (some 1) none), .tup xs.reverse, .tup zs]) (k := nb / 12 % 6) (Int.emod_nonneg _ (by decide)) (Int.emod_lt_of_pos _ (by decide))
        refine ⟨d', ?_, ?_⟩
        · simp [tail22, sSeq, sIf, bAnd, mB, mT, m1, m2, gv, kc, dGt, dBool, dTru, dIsi, isiT, Res.bind, sNext, andThen, dFdiv, dMod, dI, eq_int, h2, sRet, mA, aCons, aNil, dLen, h0, h0', dList, mSl, oNone, oSome, dSome, dNeg, dSl, hadd, hmul, dRev, dLst, hsl, dIx, hd, out]
        · have m := at_mem hd
          have key : ∀ ys : List D, (∀ y ∈ ys, y ∈ xs) → depL ys + 1 ≤ depL xs + 1 + 1 := fun ys h => by have := sub_dep h; omega
          simp only [List.mem_cons, List.not_mem_nil, or_false] at m
          rcases m with rfl | rfl | rfl | rfl | rfl | rfl
          · exact key _ fun y h => h
          · exact key _ fun y h => cut_mem h
          · exact key _ fun y h => (List.mem_append.mp h).elim id cut_mem
          · exact key _ fun y h => cut_mem h
          · exact key _ fun y h => List.mem_reverse.mp h
          · exact key _ mz
      · refine ⟨o, ?_, od⟩
        simp [tail22, sSeq, sIf, bAnd, mB, mT, m1, m2, gv, kc, dGt, dBool, dTru, dIsi, isiT, Res.bind, sNext, andThen, dFdiv, dMod, dI, eq_int, h2, sRet, mA, aCons, aNil, dLen, h0, h0', ho, out]
    · have : xs = [] := List.length_eq_zero_iff.mp (by omega)
      subst this
      refine ⟨o, ?_, od⟩
      simp [tail22, sSeq, sIf, bAnd, mB, mT, m1, m2, gv, kc, dGt, dBool, dTru, dIsi, isiT, Res.bind, sNext, andThen, dFdiv, dMod, dI, eq_int, sRet, mA, aCons, aNil, dLen, ho, out]
  | _ => simp [gd] at hg
end Jm
end
section
set_option Elab.async false
set_option linter.all false
set_option maxRecDepth 100000
set_option maxHeartbeats 8000000
namespace Jm
open PySem PySem.Spec PyProof.Rows L2 R
variable [Tbl]
theorem skip_if {c : MT} {A R : MS} {ρ : Rho} (h : c ρ = .ok false) : sSeq (sIf c A sNext) R ρ = R ρ := by
  simp [sSeq, sIf, h, Res.bind, sNext, andThen]
theorem take_if {c : MT} {A B R : MS} {ρ : Rho} (h : c ρ = .ok true) : sSeq (sIf c A B) R ρ = sSeq A R ρ := by
  simp [sSeq, sIf, h, Res.bind, andThen]
theorem set_step {i : Nat} {f : ME} {R : MS} {ρ : Rho} {d : D} (h : f ρ = .ok d) : sSeq (sSet i f) R ρ = R (ρ.set i (.val d)) := by
  simp [sSeq, sSet, h, Res.bind, andThen]
theorem ret_step {f : ME} {ρ : Rho} {d : D} (h : f ρ = .ok d) : ((sRet f ρ).bind out) = .ok d := by
  simp [sRet, h, Res.bind, out]
theorem ret_seq {f : ME} {R : MS} {ρ : Rho} {d : D} (h : f ρ = .ok d) : (sSeq (sRet f) R ρ).bind out = .ok d := by
  simp [sSeq, sRet, h, Res.bind, andThen, out]
theorem seq_assoc {A B D : MS} {ρ : Rho} : sSeq (sSeq A B) D ρ = sSeq A (sSeq B D) ρ := by
  unfold sSeq
  cases A ρ with
  | ok fl => cases fl <;> rfl
  | _ => rfl
theorem seq_assoc3 {A B C D : MS} {ρ : Rho} : sSeq (sSeq A (sSeq B C)) D ρ = sSeq A (sSeq B (sSeq C D)) ρ := by
  rw [seq_assoc]
  unfold sSeq
  cases A ρ with
  | ok fl =>
    cases fl with
    | nx r => exact seq_assoc (A := B) (B := C) (D := D) (ρ := r)
    | _ => rfl
  | _ => rfl
def cond22 : MT := bAnd (mB (m2 dGt (gv 2) (kc (.int 0)))) (bAnd (mT (m1 (dIsi "tuple") (gv 0))) (bAnd (mB (m2 dGt (mA dLen (aCons (gv 0) (aNil))) (kc (.int 0)))) (mB (m2 dGt (m2 dMod (gv 1) (kc (.int 6))) (kc (.int 0))))))
def rec22 (C : CT) : MS := sSeq (sSet 3 (m2 dMod (m2 dFdiv (gv 1) (kc (.int 6))) (mA dLen (aCons (gv 0) (aNil))))) (sSeq (sSet 4 (mA (C 22) (aCons (m2 dIx (gv 0) (gv 3)) (aCons (m2 dFdiv (m2 dFdiv (gv 1) (kc (.int 6))) (mA dLen (aCons (gv 0) (aNil)))) (aCons (m2 dSub (gv 2) (kc (.int 1))) (aNil)))))) (sRet (m2 dAdd (m2 dAdd (mSl (gv 0) (oNone) (oSome (gv 3))) (mA dTup (aCons (gv 4) (aNil)))) (mSl (gv 0) (oSome (m2 dAdd (gv 3) (kc (.int 1)))) (oNone)))))
theorem B22_eq (C C' : CT) : B22 C C' = sSeq (sIf cond22 (rec22 C) sNext) (tail22 C) := rfl
theorem arg22 {C22 ln : List D → Res D} {fd ix sb : D → D → Res D} {d x p : D} {nb M at_ q6 L q m' : D} (hx : ix d at_ = .ok x) (e6 : fd nb (.int 6) = .ok q6) (hl : ln [d] = .ok L) (hf : fd q6 L = .ok q) (hs : sb M (.int 1) = .ok m') (hp : C22 [x, q, m'] = .ok p) :
    mA C22 (aCons (m2 ix (gv 0) (gv 3)) (aCons (m2 fd (m2 fd (gv 1) (kc (.int 6))) (mA ln (aCons (gv 0) (aNil)))) (aCons (m2 sb (gv 2) (kc (.int 1))) (aNil)))) [.val d, .val nb, .val M, .val at_, .no] = .ok p := by
  simp [m2, gv, kc, Res.bind, mA, aCons, aNil, hx, e6, hl, hf, hs, hp]
theorem body22 (C C' : CT) (m : Nat) (M nb : Int) (d : D) (hM : M = (m : Int)) (hg : gd d = true) (h21 : ∀ i : Int, ∃ o, C 21 [.int i] = .ok o ∧ o ∈ odds)
    (hr : ∀ m' : Nat, m = m' + 1 → ∀ (x : D) (nb : Int), gd x = true → ∃ d', C 22 [x, .int nb, .int (m' : Int)] = .ok d' ∧ dep d' ≤ dep x + 1) :
    ∃ d', ((B22 C C') [.val d, .val (.int nb), .val (.int M), .no, .no]).bind out = .ok d' ∧ dep d' ≤ dep d + 1 := by
  have hsl : ∀ k : Nat, k ≤ 1000 → k ≤ sizeLine := fun k hk => by have := sizeLine_eq; omega
  have ht := tail22_ok C d nb (.val (.int M)) .no .no hg h21
  have skip : ∀ c A, c [.val d, .val (.int nb), .val (.int M), .no, .no] = .ok false → sSeq (sIf c A sNext) (tail22 C) [.val d, .val (.int nb), .val (.int M), .no, .no] = tail22 C [.val d, .val (.int nb), .val (.int M), .no, .no] := fun c A h => skip_if h
  rw [B22_eq]
  by_cases hM0 : 0 < M
  · cases d with
    | tup xs =>
      simp only [gd, Bool.and_eq_true, decide_eq_true_eq] at hg
      by_cases h0 : 0 < xs.length
      · have h0' : (0 : Int) < (xs.length : Int) := by omega
        by_cases h6 : 0 < nb % 6
        · obtain ⟨m', rfl⟩ : ∃ m', m = m' + 1 := ⟨m - 1, by omega⟩
          have hsub : dSub (.int M) (.int 1) = .ok (.int (m' : Int)) := by
            have e : M - 1 = (m' : Int) := by omega
            show Res.ok (D.int (M - 1)) = _
            rw [e]
          obtain ⟨x, ex, mx⟩ := pick (xs := xs) (i := nb / 6) h0
          obtain ⟨L, hL⟩ : ∃ L : Int, (xs.length : Int) = L := ⟨_, rfl⟩
          have hdl : dLen [.tup xs] = .ok (.int L) := by rw [← hL]; rfl
          have hL0 : 0 < L := by omega
          have hL1 : L < 1073741824 := by omega
          rw [hL] at ex
          obtain ⟨p, ep, dp⟩ := hr m' rfl x (nb / 6 / L) (gdL_at hg.2 mx)
          have hf : dFdiv (.int (nb / 6)) (.int L) = .ok (.int (nb / 6 / L)) := by
            have h8 : 0 < L ∧ L < 1073741824 := ⟨hL0, hL1⟩
            simp [dFdiv, dI, h8]
          have hmo : dMod (.int (nb / 6)) (.int L) = .ok (.int (nb / 6 % L)) := by
            simp [dMod, dI, hL0]
          generalize hat : nb / 6 % L = at_ at ex hmo
          have l1 := cutL_le xs none (some at_)
          have l2 := cutL_le xs (some (at_ + 1)) none
          have a1 : dAdd (.tup (cutL xs none (some at_))) (.tup [p]) = .ok (.tup (cutL xs none (some at_) ++ [p])) := by
            simp only [dAdd]; rw [if_pos (hsl _ (by simp only [List.length_cons, List.length_nil]; omega))]
          have a2 : dAdd (.tup (cutL xs none (some at_) ++ [p])) (.tup (cutL xs (some (at_ + 1)) none)) = .ok (.tup (cutL xs none (some at_) ++ [p] ++ cutL xs (some (at_ + 1)) none)) := by
            simp only [dAdd]; rw [if_pos (hsl _ (by simp only [List.length_append, List.length_cons, List.length_nil]; omega))]
          have a3 : dAdd (.int at_) (.int 1) = .ok (.int (at_ + 1)) := rfl
          refine ⟨.tup (cutL xs none (some at_) ++ [p] ++ cutL xs (some (at_ + 1)) none), ?_, ?_⟩
          · have e6 : dFdiv (.int nb) (.int 6) = .ok (.int (nb / 6)) := by simp [dFdiv, dI]
            have e7 : dMod (.int nb) (.int 6) = .ok (.int (nb % 6)) := by simp [dMod, dI]
            rw [take_if (by simp [cond22, bAnd, mB, mT, m1, m2, gv, kc, dGt, dBool, dTru, dIsi, isiT, Res.bind, hM0, h0, h6, mA, aCons, aNil, dLen, e7])]
            unfold rec22
            rw [seq_assoc3, set_step (d := .int at_) (by simp [m2, gv, kc, Res.bind, e6, mA, aCons, aNil, hdl, hmo])]
            have hx : dIx (.tup xs) (.int at_) = .ok x := by simp only [dIx, ex]
            change (sSeq (sSet 4 (mA (C 22) (aCons (m2 dIx (gv 0) (gv 3)) (aCons (m2 dFdiv (m2 dFdiv (gv 1) (kc (.int 6))) (mA dLen (aCons (gv 0) (aNil)))) (aCons (m2 dSub (gv 2) (kc (.int 1))) (aNil)))))) _ [.val (.tup xs), .val (.int nb), .val (.int M), .val (.int at_), .no]).bind out = _
            rw [set_step (d := p) (arg22 hx e6 hdl hf hsub ep)]
            exact ret_seq (by simp [m2, gv, kc, Res.bind, mA, aCons, aNil, mSl, oNone, oSome, dSome, dSl, dTup, hsl, a1, a2, a3])
          · have key : depL (cutL xs none (some at_) ++ [p] ++ cutL xs (some (at_ + 1)) none) ≤ depL xs + 1 := depL_mem fun y hy => by
              rcases List.mem_append.mp hy with hy | hy
              · rcases List.mem_append.mp hy with hy | hy
                · have := mem_dep (cut_mem hy); omega
                · rcases List.mem_cons.mp hy with rfl | hy
                  · have := mem_dep mx; omega
                  · cases hy
              · have := mem_dep (cut_mem hy); omega
            simp only [dep]; omega
        · rw [skip _ _ (by simp [cond22, bAnd, mB, mT, m1, m2, gv, kc, dGt, dBool, dTru, dIsi, isiT, Res.bind, hM0, h0, h6, mA, aCons, aNil, dLen, dMod, dI])]
          exact ht
      · rw [skip _ _ (by simp [cond22, bAnd, mB, mT, m1, m2, gv, kc, dGt, dBool, dTru, dIsi, isiT, Res.bind, hM0, h0, mA, aCons, aNil, dLen])]
        exact ht
    | _ =>
      rw [skip _ _ (by simp [cond22, bAnd, mB, mT, m1, m2, gv, kc, dGt, dBool, dTru, dIsi, isiT, Res.bind, hM0])]
      exact ht
  · rw [skip _ _ (by simp [cond22, bAnd, mB, mT, m1, m2, gv, kc, dGt, dBool, dTru, dIsi, isiT, Res.bind, hM0])]
    exact ht
theorem spoilt_ok : ∀ (m n : Nat) (d : D) (nb : Int), gd d = true → ∃ d', Ph (n + m + 4) 22 [d, .int nb, .int (m : Int)] = .ok d' ∧ dep d' ≤ dep d + 1
  | m, n, d, nb, hg => by
    show ∃ d', ((B22 (Ph (n + m + 3)) (Ph (n + m + 1))) [.val d, .val (.int nb), .val (.int (m : Int)), .no, .no]).bind out = .ok d' ∧ _
    refine body22 _ _ m _ nb d rfl hg (fun i => odd_ok (n + m) i) fun m' hm' x nb' hx => ?_
    subst hm'
    exact spoilt_ok m' n x nb' hx
end Jm
end
section
set_option Elab.async false
set_option linter.all false
set_option maxRecDepth 100000
set_option maxHeartbeats 8000000
namespace Jm
open PySem PySem.Spec PyProof.Rows L2 R
variable [Tbl]
def st24_0 (C : CT) : MS := sSet 1 (mA (C 10) (aCons (gv 0) (aCons (kc (.int 0)) (aNil))))
def st24_1 (C : CT) : MS := sSetComp 2 [1] (mRange (m2 dAdd (kc (.int 1)) (m2 dMod (m2 dFdiv (gv 1) (kc (.int 7))) (kc (.int 5))))) (fun _ => .ok true) (mA (C 13) (aCons (gv 1) (aCons (gv 0) (aNil))))
def st24_2 (C : CT) : MS := sSetComp 3 [1, 0] (mRange (kc (.int 4))) (fun _ => .ok true) (mA dTup (aCons (mA (C 13) (aCons (gv 1) (aCons (m2 dAdd (kc (.int 10)) (gv 0)) (aNil)))) (aCons (m2 dMod (mA (C 10) (aCons (gv 2) (aCons (m2 dAdd (kc (.int 1)) (gv 0)) (aNil)))) (kc (.int 5))) (aNil))))
def st24_3 (C : CT) : MS := sSet 4 (mA (C 15) (aCons (mA (C 10) (aCons (gv 0) (aCons (kc (.int 5)) (aNil)))) (aCons (gv 2) (aCons (gv 3) (aCons (m2 dMod (mA (C 10) (aCons (gv 0) (aCons (kc (.int 6)) (aNil)))) (kc (.int 7))) (aNil))))))
def st24_4 (C : CT) : MS := sIf (mB (m2 dEq (m2 dMod (m2 dFdiv (mA (C 10) (aCons (gv 0) (aCons (kc (.int 6)) (aNil)))) (kc (.int 7))) (kc (.int 8))) (kc (.int 1)))) (sForI 5 (mRange (m2 dAdd (kc (.int 5)) (m2 dMod (m2 dFdiv (mA (C 10) (aCons (gv 0) (aCons (kc (.int 6)) (aNil)))) (kc (.int 56))) (kc (.int 10))))) (sSet 4 (mA dTup (aCons (m2 dIx (kc (.str "+-*<=")) (m2 dMod (mA (C 11) (aCons (gv 1) (aCons (gv 5) (aNil)))) (kc (.int 5)))) (aCons (mA dTup (aCons (kc (.str "number")) (aCons (gv 5) (aNil)))) (aCons (gv 4) (aNil))))))) (sNext)
def st24_5 (C : CT) : MS := sIf (mB (m2 dEq (m2 dMod (mA (C 10) (aCons (gv 0) (aCons (kc (.int 7)) (aNil)))) (kc (.int 2))) (kc (.int 1)))) (sSet 4 (mA (C 22) (aCons (gv 4) (aCons (mA (C 10) (aCons (gv 0) (aCons (kc (.int 8)) (aNil)))) (aCons (m2 dMod (m2 dFdiv (mA (C 10) (aCons (gv 0) (aCons (kc (.int 7)) (aNil)))) (kc (.int 2))) (kc (.int 6))) (aNil)))))) (sNext)
def st24_6 (C : CT) : MS := sRet (mA (C 23) (aCons (mA (C 6) (aCons (gv 4) (aNil))) (aCons (mA (C 20) (aCons (gv 4) (aCons (kc (.int 0)) (aNil)))) (aNil))))
theorem B24_eq (C C' : CT) : B24 C C' = sSeq (st24_0 C) (sSeq (st24_1 C) (sSeq (st24_2 C) (sSeq (st24_3 C) (sSeq (st24_4 C) (sSeq (st24_5 C) (st24_6 C)))))) := rfl
/-- one sign more around a thing -/
theorem wrap_turns {C : CT} (h11 : ∀ (nb k : Int), smallI k = true → ∃ v : Int, C 11 [.int nb, .int k] = .ok (.int v)) (S A B : Slot) (s : Int) : ∀ (ds : List D) (t : D) (q : Slot) (b : Nat), (∀ d ∈ ds, ∃ k : Int, d = .int k ∧ 0 ≤ k ∧ k ≤ 1000) → gd t = true → dep t ≤ b → 1 ≤ b →
    ∃ t' q', turns 5 (sSet 4 (mA dTup (aCons (m2 dIx (kc (.str "+-*<=")) (m2 dMod (mA (C 11) (aCons (gv 1) (aCons (gv 5) (aNil)))) (kc (.int 5)))) (aCons (mA dTup (aCons (kc (.str "number")) (aCons (gv 5) (aNil)))) (aCons (gv 4) (aNil)))))) ds [S, .val (.int s), A, B, .val t, q] = .ok (.nx [S, .val (.int s), A, B, .val t', q']) ∧ gd t' = true ∧ dep t' ≤ b + ds.length
  | [], t, q, b, _, g, l, _ => ⟨t, q, rfl, g, by simpa using l⟩
  | d :: ds, t, q, b, h, g, l, l1 => by
    obtain ⟨k, rfl, k0, k1⟩ := h d List.mem_cons_self
    have hs := sizeLine_eq
    obtain ⟨v, ev⟩ := h11 s k (small_of k0 (by omega))
    obtain ⟨c, hc⟩ := sg_pick v
    have hx : dIx (.str "+-*<=") (.int (v % 5)) = .ok (.str ⟨#[c]⟩) := by
      simp only [dIx]
      rw [show atI (Str.ofString "+-*<=").cps.toList (v % 5) = some c from hc]
    have ht2 : dTup [.str "number", .int k] = .ok (.tup [.str "number", .int k]) := by unfold dTup; rw [if_pos (by show 2 ≤ sizeLine; omega)]
    have ht3 : dTup [.str ⟨#[c]⟩, .tup [.str "number", .int k], t] = .ok (.tup [.str ⟨#[c]⟩, .tup [.str "number", .int k], t]) := by unfold dTup; rw [if_pos (by show 3 ≤ sizeLine; omega)]
    have e5 : dMod (.int v) (.int 5) = .ok (.int (v % 5)) := by simp [dMod, dI]
    have e : (Str.ofString "number").length ≤ 20 := by decide +kernel
    have e2 : k.natAbs ≤ 1000000000000 := by omega
    have ec : (⟨#[c]⟩ : Str).length ≤ 20 := by rw [one_len]; omega
    obtain ⟨t', q', et, gt, lt⟩ := wrap_turns h11 S A B s ds (.tup [.str ⟨#[c]⟩, .tup [.str "number", .int k], t]) (.val (.int k)) (b + 1) (fun d hd => h d (List.mem_cons_of_mem _ hd)) (by simp [gd, gdL, e, e2, ec, g]) (by simp only [dep, depL]; omega) (by omega)
    refine ⟨t', q', ?_, gt, by rw [List.length_cons]; omega⟩
    rw [turns]
    have step : sSet 4 (mA dTup (aCons (m2 dIx (kc (.str "+-*<=")) (m2 dMod (mA (C 11) (aCons (gv 1) (aCons (gv 5) (aNil)))) (kc (.int 5)))) (aCons (mA dTup (aCons (kc (.str "number")) (aCons (gv 5) (aNil)))) (aCons (gv 4) (aNil))))) ([S, .val (.int s), A, B, .val t, q].set 5 (.val (.int k))) = .ok (.nx [S, .val (.int s), A, B, .val (.tup [.str ⟨#[c]⟩, .tup [.str "number", .int k], t]), .val (.int k)]) := by
      simp [sSet, mA, aCons, aNil, m2, gv, kc, Res.bind, ev, e5, hx, ht2, ht3]
    rw [step]
    exact et
theorem rng {i : Int} (h0 : 0 ≤ i) (h1 : i ≤ 1000) : dRange (.int i) = .ok (upTo 0 i.toNat) := by
  show (if _ then _ else _) = _
  rw [if_pos ⟨by omega, by omega⟩]
theorem body24 (C C' : CT) (ns : List Int) (h10 : ∀ k : Int, 0 ≤ k → C 10 [.lst (ns.map .int), .int k] = .ok (.int (mixP ns k))) (h13 : ∀ nb k : Int, ∃ z, C 13 [.int nb, .int k] = .ok (.str z) ∧ z.length ≤ 8)
    (h11 : ∀ (nb k : Int), smallI k = true → ∃ v : Int, C 11 [.int nb, .int k] = .ok (.int v))
    (h15 : ∀ (m : Nat) (nb : Int) (xs es : List D), m ≤ 6 → NamesOk xs → DeedsOk es → ∃ d, C 15 [.int nb, .lst xs, .lst es, .int (m : Int)] = .ok d ∧ GoodE m d)
    (h22 : ∀ (m : Nat) (d : D) (nb : Int), m ≤ 5 → gd d = true → ∃ d', C 22 [d, .int nb, .int (m : Int)] = .ok d' ∧ dep d' ≤ dep d + 1)
    (h6 : ∀ d, C 6 [d] = .ok (.bl (exprP 13 d))) (h20 : ∀ d, dep d ≤ 100 → C 20 [d, .int 0] = .ok (.bl (exprP 13 d))) (h23 : ∀ a b : Bool, C 23 [.bl a, .bl b] = .ok (.bl (a == b))) :
    ((B24 C C') [.val (.lst (ns.map .int)), .no, .no, .no, .no, .no]).bind out = .ok (.bl true) := by
  have hsz := sizeLine_eq
  rw [B24_eq]
  generalize hS : D.lst (ns.map .int) = S at *
  have g0 := h10 0 (by decide)
  have g5 := h10 5 (by decide)
  have g6 := h10 6 (by decide)
  have g7 := h10 7 (by decide)
  have g8 := h10 8 (by decide)
  generalize mixP ns 0 = s at g0
  generalize mixP ns 5 = n5 at g5
  generalize mixP ns 6 = n6 at g6
  generalize mixP ns 7 = n7 at g7
  generalize mixP ns 8 = n8 at g8
  unfold st24_0
  rw [set_step (d := .int s) (by simp [mA, aCons, aNil, gv, kc, Res.bind, g0])]
  have a0 : 0 ≤ s / 7 % 5 := Int.emod_nonneg _ (by decide)
  have a1 : s / 7 % 5 < 5 := Int.emod_lt_of_pos _ (by decide)
  obtain ⟨xs, hxs, lx, px⟩ := compM_all (g := mA (C 13) (aCons (gv 1) (aCons (gv 0) (aNil)))) (rest := [.val (.int s)]) (Pd := fun x => ∃ z : Str, x = .str z ∧ z.length ≤ 8) (upTo 0 (1 + s / 7 % 5).toNat) fun x hx => by
    obtain ⟨k, rfl, k0, k1⟩ := upTo_mem hx
    obtain ⟨z, ez, lz⟩ := h13 s k
    exact ⟨.str z, by simp [mA, aCons, aNil, gv, Res.bind, ez], z, rfl, lz⟩
  rw [upTo_len] at lx
  have hn : NamesOk xs := ⟨by omega, by omega, px⟩
  unfold st24_1 sSetComp
  rw [set_step (d := .lst xs) (by
    have e1 : m2 dAdd (kc (.int 1)) (m2 dMod (m2 dFdiv (gv 1) (kc (.int 7))) (kc (.int 5))) [.val S, .val (.int s), .no, .no, .no, .no] = .ok (.int (1 + s / 7 % 5)) := by simp [m2, gv, kc, Res.bind, dFdiv, dMod, dI, dAdd]
    show Res.bind (Res.bind (m2 dAdd (kc (.int 1)) (m2 dMod (m2 dFdiv (gv 1) (kc (.int 7))) (kc (.int 5))) [.val S, .val (.int s), .no, .no, .no, .no]) dRange) _ = _
    rw [e1]
    show Res.bind (dRange (.int (1 + s / 7 % 5))) _ = _
    rw [rng (by omega) (by omega)]
    show (if (upTo 0 (1 + s / 7 % 5).toNat).length ≤ sizeLine then Res.bind (compM _ _ [.val (.int s)] (upTo 0 (1 + s / 7 % 5).toNat)) _ else .bad) = _
    rw [upTo_len, if_pos (by omega), hxs]; rfl)]
  obtain ⟨es, hes, le, pe⟩ := compM_all (g := mA dTup (aCons (mA (C 13) (aCons (gv 1) (aCons (m2 dAdd (kc (.int 10)) (gv 0)) (aNil)))) (aCons (m2 dMod (mA (C 10) (aCons (gv 2) (aCons (m2 dAdd (kc (.int 1)) (gv 0)) (aNil)))) (kc (.int 5))) (aNil)))) (rest := [.val (.int s), .val S]) (Pd := fun x => ∃ (z : Str) (i : Int), x = .tup [.str z, .int i] ∧ z.length ≤ 8 ∧ 0 ≤ i ∧ i ≤ 4) (upTo 0 4) fun x hx => by
    obtain ⟨k, rfl, k0, k1⟩ := upTo_mem hx
    obtain ⟨z, ez, lz⟩ := h13 s (10 + k)
    have e10 := h10 (1 + k) (by omega)
    generalize mixP ns (1 + k) = nk at e10
    have b0 : 0 ≤ nk % 5 := Int.emod_nonneg _ (by decide)
    have b1 : nk % 5 < 5 := Int.emod_lt_of_pos _ (by decide)
    have ht : dTup [.str z, .int (nk % 5)] = .ok (.tup [.str z, .int (nk % 5)]) := by unfold dTup; rw [if_pos (by show 2 ≤ sizeLine; omega)]
    have ea : dAdd (.int 10) (.int k) = .ok (.int (10 + k)) := rfl
    have eb : dAdd (.int 1) (.int k) = .ok (.int (1 + k)) := rfl
    have ec : dMod (.int nk) (.int 5) = .ok (.int (nk % 5)) := by simp [dMod, dI]
    exact ⟨.tup [.str z, .int (nk % 5)], by simp [mA, aCons, aNil, m2, gv, kc, Res.bind, ea, eb, ec, ez, e10, ht], z, _, rfl, lz, b0, by omega⟩
  rw [upTo_len] at le
  have he : DeedsOk es := ⟨by omega, pe⟩
  unfold st24_2 sSetComp
  rw [set_step (d := .lst es) (by
    show Res.bind (dRange (.int 4)) _ = _
    rw [rng (by omega) (by omega)]
    show (if (upTo 0 4).length ≤ sizeLine then Res.bind (compM _ _ [.val (.int s), .val S] (upTo 0 4)) _ else .bad) = _
    rw [upTo_len, if_pos (by omega), hes]; rfl)]
  have c0 : 0 ≤ n6 % 7 := Int.emod_nonneg _ (by decide)
  have c1 : n6 % 7 < 7 := Int.emod_lt_of_pos _ (by decide)
  obtain ⟨m6, hm6⟩ : ∃ m6 : Nat, n6 % 7 = (m6 : Int) := ⟨(n6 % 7).toNat, by omega⟩
  obtain ⟨t, et, gt, lt⟩ := h15 m6 n5 xs es (by omega) hn he
  have e67 : dMod (.int n6) (.int 7) = .ok (.int (m6 : Int)) := by rw [← hm6]; simp [dMod, dI]
  unfold st24_3
  rw [set_step (d := t) (by simp [mA, aCons, aNil, m2, gv, kc, Res.bind, g5, g6, e67, et])]
  show (sSeq (st24_4 C) (sSeq (st24_5 C) (st24_6 C)) [.val S, .val (.int s), .val (.lst xs), .val (.lst es), .val t, .no]).bind out = _
  have hw : ∃ t' q', (sSeq (st24_4 C) (sSeq (st24_5 C) (st24_6 C)) [.val S, .val (.int s), .val (.lst xs), .val (.lst es), .val t, .no]) = sSeq (st24_5 C) (st24_6 C) [.val S, .val (.int s), .val (.lst xs), .val (.lst es), .val t', q'] ∧ gd t' = true ∧ dep t' ≤ 60 := by
    unfold st24_4
    cases hb : (n6 / 7 % 8 == 1) with
    | false =>
      refine ⟨t, .no, ?_, gt, by omega⟩
      exact skip_if (by simp [mB, m2, mA, aCons, aNil, gv, kc, Res.bind, g6, dFdiv, dMod, dI, eq_int, hb, dBool])
    | true =>
      have d0 : 0 ≤ n6 / 56 % 10 := Int.emod_nonneg _ (by decide)
      have d1 : n6 / 56 % 10 < 10 := Int.emod_lt_of_pos _ (by decide)
      obtain ⟨t', q', ew, gw, lw⟩ := wrap_turns h11 (.val S) (.val (.lst xs)) (.val (.lst es)) s (upTo 0 (5 + n6 / 56 % 10).toNat) t .no 14 (fun d hd => by
        obtain ⟨k, rfl, k0, k1⟩ := upTo_mem hd
        exact ⟨k, rfl, k0, by omega⟩) gt (by omega) (by omega)
      rw [upTo_len] at lw
      refine ⟨t', q', ?_, gw, by omega⟩
      rw [take_if (by simp [mB, m2, mA, aCons, aNil, gv, kc, Res.bind, g6, dFdiv, dMod, dI, eq_int, hb, dBool])]
      have er : m2 dAdd (kc (.int 5)) (m2 dMod (m2 dFdiv (mA (C 10) (aCons (gv 0) (aCons (kc (.int 6)) (aNil)))) (kc (.int 56))) (kc (.int 10))) [.val S, .val (.int s), .val (.lst xs), .val (.lst es), .val t, .no] = .ok (.int (5 + n6 / 56 % 10)) := by simp [m2, mA, aCons, aNil, gv, kc, Res.bind, g6, dFdiv, dMod, dI, dAdd]
      have ef : mRange (m2 dAdd (kc (.int 5)) (m2 dMod (m2 dFdiv (mA (C 10) (aCons (gv 0) (aCons (kc (.int 6)) (aNil)))) (kc (.int 56))) (kc (.int 10)))) [.val S, .val (.int s), .val (.lst xs), .val (.lst es), .val t, .no] = .ok (upTo 0 (5 + n6 / 56 % 10).toNat) := by
        unfold mRange
        rw [er]
        exact rng (by omega) (by omega)
      unfold sSeq sForI
      rw [ef]
      show Res.bind (turns 5 _ (upTo 0 (5 + n6 / 56 % 10).toNat) _) _ = _
      rw [ew]; rfl
  obtain ⟨t1, q1, ew, g1, l1⟩ := hw
  rw [ew]
  have hv : ∃ t', sSeq (st24_5 C) (st24_6 C) [.val S, .val (.int s), .val (.lst xs), .val (.lst es), .val t1, q1] = st24_6 C [.val S, .val (.int s), .val (.lst xs), .val (.lst es), .val t', q1] ∧ dep t' ≤ 100 := by
    unfold st24_5
    cases hb : (n7 % 2 == 1) with
    | false =>
      refine ⟨t1, ?_, by omega⟩
      exact skip_if (by simp [mB, m2, mA, aCons, aNil, gv, kc, Res.bind, g7, dFdiv, dMod, dI, eq_int, hb, dBool])
    | true =>
      have d0 : 0 ≤ n7 / 2 % 6 := Int.emod_nonneg _ (by decide)
      have d1 : n7 / 2 % 6 < 6 := Int.emod_lt_of_pos _ (by decide)
      obtain ⟨m7, hm7⟩ : ∃ m7 : Nat, n7 / 2 % 6 = (m7 : Int) := ⟨(n7 / 2 % 6).toNat, by omega⟩
      obtain ⟨t', e', l'⟩ := h22 m7 t1 n8 (by omega) g1
      have ea : dFdiv (.int n7) (.int 2) = .ok (.int (n7 / 2)) := by simp [dFdiv, dI]
      have eb : dMod (.int (n7 / 2)) (.int 6) = .ok (.int (m7 : Int)) := by rw [← hm7]; simp [dMod, dI]
      refine ⟨t', ?_, by omega⟩
      rw [take_if (by simp [mB, m2, mA, aCons, aNil, gv, kc, Res.bind, g7, dFdiv, dMod, dI, eq_int, hb, dBool])]
      exact set_step (by simp [mA, aCons, aNil, m2, gv, kc, Res.bind, g7, g8, ea, eb, e'])
  obtain ⟨t2, e2, l2⟩ := hv
  rw [e2]
  unfold st24_6
  refine ret_step ?_
  simp [mA, aCons, aNil, gv, kc, Res.bind, h6, h20 t2 l2, h23]
theorem law_ok (n : Nat) (ns : List Int) : Ph (n + 64) 24 [.lst (ns.map .int)] = .ok (.bl true) := by
  show ((B24 (Ph (n + 63)) (Ph (n + 61))) [.val (.lst (ns.map .int)), .no, .no, .no, .no, .no]).bind out = _
  refine body24 _ _ ns (fun k hk => mix_ok (n + 59) ns k hk) (fun nb k => name_ok (n + 59) nb k) (fun nb k hk => drawn_ok (n + 60) nb k hk) (fun m nb xs es hm hx he => ?_) (fun m d nb hm hg => ?_) (fun d => ?_) (fun d hd => ?_) (fun a b => same_ok (n + 60) a b)
  · have e : n + 63 = (n + 58 - m) + m + 5 := by omega
    rw [e]; exact expr_made m _ nb xs es hx he
  · have e : n + 63 = (n + 59 - m) + m + 4 := by omega
    rw [e]; exact spoilt_ok m _ d nb hg
  · show ((B6 (Ph (n + 62)) (Ph (n + 60))) [.val d]).bind out = _
    have e := prog_expr 13 (n + 4) 0 d (by decide)
    have e' : Ph (n + 62) 7 [d, .int 0] = .ok (.bl (exprP 13 d)) := e
    unfold B6
    exact ret_step (by simp [mA, aCons, aNil, gv, kc, Res.bind, e'])
  · exact law_expr 13 (n + 5) 0 d (by decide) hd
end Jm
end
section
set_option Elab.async false
set_option linter.all false
set_option maxRecDepth 100000
set_option maxHeartbeats 4000000
namespace Jm
open PySem PySem.Spec PyProof.Rows L2 R
def txB : List Value → List Str → Bool
  | [], [] => true
  | .str x _ :: r, y :: s => x == y && txB r s
  | _, _ => false
theorem txB_vals : ∀ {its : List Value} {ts : List Str}, txB its ts = true → Vals (ts.map V.str) its
  | [], [], _ => .nil
  | .str x t :: r, y :: s, h => by
    rw [txB, Bool.and_eq_true] at h
    have e : x = y := eq_of_beq h.1
    subst e
    exact .cons ⟨t, rfl⟩ (txB_vals h.2)
section
variable [Tbl]
theorem gc_textsB {K : PySem.W.Frag} {mg : Str → Option Value} {x : Str} {p : Addr} {od : Option Addr} {sl : Array (Option Value)} {its : Array Value} {n : Nat} {ts : List Str} (hm : mg x = some (.ref p)) (hk : K.lookup p = some ⟨.type "tuple", od, .seq its n, sl⟩)
    (hz : ts.length ≤ 1000) (hl : (ts.all fun t => decide (t.length ≤ 1000)) = true) (hv : txB its.toList ts = true) : GConst K mg x (.tup (ts.map .str)) :=
  gc_texts (its := its.toList) (n := n) hm hk rfl (by simp) hz (fun t ht => small1000' (of_decide_eq_true (List.all_eq_true.mp hl t ht))) (txB_vals hv)
  where small1000' {n : Nat} (h : n ≤ 1000) : n ≤ sizeLine := Nat.le_of_lt (small1000 h)
variable {P : Program} {w : World} {K : PySem.W.Frag} {mg : Str → Option Value} {base : Heap}
/-- the defs stand as the text says -/
structure Adr where
  f0 : Addr
  d0 : FuncData
  f1 : Addr
  d1 : FuncData
  f2 : Addr
  d2 : FuncData
  f3 : Addr
  d3 : FuncData
  f4 : Addr
  d4 : FuncData
  f5 : Addr
  d5 : FuncData
  f6 : Addr
  d6 : FuncData
  f7 : Addr
  d7 : FuncData
  f8 : Addr
  d8 : FuncData
  f9 : Addr
  d9 : FuncData
  f10 : Addr
  d10 : FuncData
  f11 : Addr
  d11 : FuncData
  f12 : Addr
  d12 : FuncData
  f13 : Addr
  d13 : FuncData
  f14 : Addr
  d14 : FuncData
  f15 : Addr
  d15 : FuncData
  f16 : Addr
  d16 : FuncData
  f17 : Addr
  d17 : FuncData
  f19 : Addr
  d19 : FuncData
  f20 : Addr
  d20 : FuncData
  f21 : Addr
  d21 : FuncData
  f22 : Addr
  d22 : FuncData
  f23 : Addr
  d23 : FuncData
  f24 : Addr
  d24 : FuncData
structure Std (K : PySem.W.Frag) (mg : Str → Option Value) (t : Adr) : Prop where
  F0 : Fun K "is_whole" "is_whole" s0 t.f0 t.d0
  m0 : mg "is_whole" = some (.ref t.f0)
  u0 : Binds K t.d0 ["thing"] []
  F1 : Fun K "is_number" "is_number" s1 t.f1 t.d1
  m1 : mg "is_number" = some (.ref t.f1)
  u1 : Binds K t.d1 ["thing"] []
  F2 : Fun K "is_name" "is_name" s2 t.f2 t.d2
  m2 : mg "is_name" = some (.ref t.f2)
  u2 : Binds K t.d2 ["thing"] []
  F3 : Fun K "is_row" "is_row" s3 t.f3 t.d3
  m3 : mg "is_row" = some (.ref t.f3)
  u3 : Binds K t.d3 ["thing", "length"] []
  F4 : Fun K "is_row_of" "is_row_of" s4 t.f4 t.d4
  m4 : mg "is_row_of" = some (.ref t.f4)
  u4 : Binds K t.d4 ["thing", "most", "holds"] []
  F5 : Fun K "first_word" "first_word" s5 t.f5 t.d5
  m5 : mg "first_word" = some (.ref t.f5)
  u5 : Binds K t.d5 ["thing"] []
  F6 : Fun K "is_expression" "is_expression" s6 t.f6 t.d6
  m6 : mg "is_expression" = some (.ref t.f6)
  u6 : Binds K t.d6 ["thing"] []
  F7 : Fun K "is_expression_within" "is_expression_within" s7 t.f7 t.d7
  m7 : mg "is_expression_within" = some (.ref t.f7)
  u7 : Binds K t.d7 ["thing", "around"] []
  F8 : Fun K "are_parts_within" "are_parts_within" s8 t.f8 t.d8
  m8 : mg "are_parts_within" = some (.ref t.f8)
  u8 : Binds K t.d8 ["thing", "around"] []
  L8 : LamAt K mg t.d8 lpos_8 "are_parts_within.<locals>.<lambda>"
  F9 : Fun K "_law_cell_at" "_law_cell_at" s9 t.f9 t.d9
  m9 : mg "_law_cell_at" = some (.ref t.f9)
  u9 : Binds K t.d9 ["_law_script", "_law_k"] []
  F10 : Fun K "_law_mixed" "_law_mixed" s10 t.f10 t.d10
  m10 : mg "_law_mixed" = some (.ref t.f10)
  u10 : Binds K t.d10 ["_law_script", "_law_k"] []
  F11 : Fun K "_law_drawn" "_law_drawn" s11 t.f11 t.d11
  m11 : mg "_law_drawn" = some (.ref t.f11)
  u11 : Binds K t.d11 ["_law_number", "_law_k"] []
  F12 : Fun K "_law_stem" "_law_stem" s12 t.f12 t.d12
  m12 : mg "_law_stem" = some (.ref t.f12)
  u12 : Binds K t.d12 ["_law_number"] []
  F13 : Fun K "_law_name" "_law_name" s13 t.f13 t.d13
  m13 : mg "_law_name" = some (.ref t.f13)
  u13 : Binds K t.d13 ["_law_number", "_law_k"] []
  F14 : Fun K "_law_value" "_law_value" s14 t.f14 t.d14
  m14 : mg "_law_value" = some (.ref t.f14)
  u14 : Binds K t.d14 ["_law_number"] []
  F15 : Fun K "_law_expression" "_law_expression" s15 t.f15 t.d15
  m15 : mg "_law_expression" = some (.ref t.f15)
  u15 : Binds K t.d15 ["_law_number", "_law_names", "_law_deeds", "_law_deep"] []
  F16 : Fun K "_law_is_name" "_law_is_name" s16 t.f16 t.d16
  m16 : mg "_law_is_name" = some (.ref t.f16)
  u16 : Binds K t.d16 ["_law_thing"] []
  F17 : Fun K "_law_is_number" "_law_is_number" s17 t.f17 t.d17
  m17 : mg "_law_is_number" = some (.ref t.f17)
  u17 : Binds K t.d17 ["_law_thing"] []
  F19 : Fun K "_law_parts" "_law_parts" s19 t.f19 t.d19
  m19 : mg "_law_parts" = some (.ref t.f19)
  u19 : Binds K t.d19 ["_law_thing", "_law_deep"] []
  F20 : Fun K "_law_is_expression" "_law_is_expression" s20 t.f20 t.d20
  m20 : mg "_law_is_expression" = some (.ref t.f20)
  u20 : Binds K t.d20 ["_law_thing", "_law_deep"] []
  F21 : Fun K "_law_odd" "_law_odd" s21 t.f21 t.d21
  m21 : mg "_law_odd" = some (.ref t.f21)
  u21 : Binds K t.d21 ["_law_number"] []
  F22 : Fun K "_law_spoilt" "_law_spoilt" s22 t.f22 t.d22
  m22 : mg "_law_spoilt" = some (.ref t.f22)
  u22 : Binds K t.d22 ["_law_thing", "_law_number", "_law_deep"] []
  F23 : Fun K "_law_same" "_law_same" s23 t.f23 t.d23
  m23 : mg "_law_same" = some (.ref t.f23)
  u23 : Binds K t.d23 ["_law_found", "_law_due"] []
  F24 : Fun K "law" "law" s24 t.f24 t.d24
  m24 : mg "law" = some (.ref t.f24)
  u24 : Binds K t.d24 ["_law_script"] []
  b_abs : mg "abs" = none
  b_all : mg "all" = none
  b_bool : mg "bool" = none
  b_int : mg "int" = none
  b_isinstance : mg "isinstance" = none
  b_len : mg "len" = none
  b_list : mg "list" = none
  b_range : mg "range" = none
  b_str : mg "str" = none
  b_tuple : mg "tuple" = none
  gc_GREATEST_NUMBER : GConst K mg "GREATEST_NUMBER" gd_GREATEST_NUMBER
  gc_KEPT_WORDS : GConst K mg "KEPT_WORDS" gd_KEPT_WORDS
  gc_MOST_AROUND : GConst K mg "MOST_AROUND" gd_MOST_AROUND
  gc_MOST_LETTERS : GConst K mg "MOST_LETTERS" gd_MOST_LETTERS
  gc_MOST_PARTS : GConst K mg "MOST_PARTS" gd_MOST_PARTS
  gc_SIGNS : GConst K mg "SIGNS" gd_SIGNS
structure Oks (P : Program) (w : World) (K : PySem.W.Frag) (mg : Str → Option Value) (base : Heap) (t : Adr) (n : Nat) (C : CT) : Prop where
  o0 : FnOk P w K mg base CX0 n t.f0 t.d0 ["thing"] (spD K (C 0))
  o1 : FnOk P w K mg base CX0 n t.f1 t.d1 ["thing"] (spD K (C 1))
  o2 : FnOk P w K mg base CX0 n t.f2 t.d2 ["thing"] (spD K (C 2))
  o3 : FnOk P w K mg base CX0 n t.f3 t.d3 ["thing", "length"] (spD K (C 3))
  o5 : FnOk P w K mg base CX0 n t.f5 t.d5 ["thing"] (spD K (C 5))
  o6 : FnOk P w K mg base CX0 n t.f6 t.d6 ["thing"] (spD K (C 6))
  o7 : FnOk P w K mg base CX0 n t.f7 t.d7 ["thing", "around"] (spD K (C 7))
  o8 : FnOk P w K mg base CX0 n t.f8 t.d8 ["thing", "around"] (spD K (C 8))
  o9 : FnOk P w K mg base CX0 n t.f9 t.d9 ["_law_script", "_law_k"] (spD K (C 9))
  o10 : FnOk P w K mg base CX0 n t.f10 t.d10 ["_law_script", "_law_k"] (spD K (C 10))
  o11 : FnOk P w K mg base CX0 n t.f11 t.d11 ["_law_number", "_law_k"] (spD K (C 11))
  o12 : FnOk P w K mg base CX0 n t.f12 t.d12 ["_law_number"] (spD K (C 12))
  o13 : FnOk P w K mg base CX0 n t.f13 t.d13 ["_law_number", "_law_k"] (spD K (C 13))
  o14 : FnOk P w K mg base CX0 n t.f14 t.d14 ["_law_number"] (spD K (C 14))
  o15 : FnOk P w K mg base CX0 n t.f15 t.d15 ["_law_number", "_law_names", "_law_deeds", "_law_deep"] (spD K (C 15))
  o16 : FnOk P w K mg base CX0 n t.f16 t.d16 ["_law_thing"] (spD K (C 16))
  o17 : FnOk P w K mg base CX0 n t.f17 t.d17 ["_law_thing"] (spD K (C 17))
  o19 : FnOk P w K mg base CX0 n t.f19 t.d19 ["_law_thing", "_law_deep"] (spD K (C 19))
  o20 : FnOk P w K mg base CX0 n t.f20 t.d20 ["_law_thing", "_law_deep"] (spD K (C 20))
  o21 : FnOk P w K mg base CX0 n t.f21 t.d21 ["_law_number"] (spD K (C 21))
  o22 : FnOk P w K mg base CX0 n t.f22 t.d22 ["_law_thing", "_law_number", "_law_deep"] (spD K (C 22))
  o23 : FnOk P w K mg base CX0 n t.f23 t.d23 ["_law_found", "_law_due"] (spD K (C 23))
  o24 : FnOk P w K mg base CX0 n t.f24 t.d24 ["_law_script"] (spD K (C 24))
theorem tab_of {t : Adr} {n : Nat} {C : CT} (S : Std K mg t) (O : Oks P w K mg base t n C) : Tab P w K mg base n C where
  c0 := ⟨⟨t.f0, t.d0, _, O.o0, S.m0, S.F0.kp, S.u0⟩⟩
  c1 := ⟨⟨t.f1, t.d1, _, O.o1, S.m1, S.F1.kp, S.u1⟩⟩
  c2 := ⟨⟨t.f2, t.d2, _, O.o2, S.m2, S.F2.kp, S.u2⟩⟩
  c3 := ⟨⟨t.f3, t.d3, _, O.o3, S.m3, S.F3.kp, S.u3⟩⟩
  c5 := ⟨⟨t.f5, t.d5, _, O.o5, S.m5, S.F5.kp, S.u5⟩⟩
  c6 := ⟨⟨t.f6, t.d6, _, O.o6, S.m6, S.F6.kp, S.u6⟩⟩
  c7 := ⟨⟨t.f7, t.d7, _, O.o7, S.m7, S.F7.kp, S.u7⟩⟩
  c8 := ⟨⟨t.f8, t.d8, _, O.o8, S.m8, S.F8.kp, S.u8⟩⟩
  c9 := ⟨⟨t.f9, t.d9, _, O.o9, S.m9, S.F9.kp, S.u9⟩⟩
  c10 := ⟨⟨t.f10, t.d10, _, O.o10, S.m10, S.F10.kp, S.u10⟩⟩
  c11 := ⟨⟨t.f11, t.d11, _, O.o11, S.m11, S.F11.kp, S.u11⟩⟩
  c12 := ⟨⟨t.f12, t.d12, _, O.o12, S.m12, S.F12.kp, S.u12⟩⟩
  c13 := ⟨⟨t.f13, t.d13, _, O.o13, S.m13, S.F13.kp, S.u13⟩⟩
  c14 := ⟨⟨t.f14, t.d14, _, O.o14, S.m14, S.F14.kp, S.u14⟩⟩
  c15 := ⟨⟨t.f15, t.d15, _, O.o15, S.m15, S.F15.kp, S.u15⟩⟩
  c16 := ⟨⟨t.f16, t.d16, _, O.o16, S.m16, S.F16.kp, S.u16⟩⟩
  c17 := ⟨⟨t.f17, t.d17, _, O.o17, S.m17, S.F17.kp, S.u17⟩⟩
  c19 := ⟨⟨t.f19, t.d19, _, O.o19, S.m19, S.F19.kp, S.u19⟩⟩
  c20 := ⟨⟨t.f20, t.d20, _, O.o20, S.m20, S.F20.kp, S.u20⟩⟩
  c21 := ⟨⟨t.f21, t.d21, _, O.o21, S.m21, S.F21.kp, S.u21⟩⟩
  c22 := ⟨⟨t.f22, t.d22, _, O.o22, S.m22, S.F22.kp, S.u22⟩⟩
  c23 := ⟨⟨t.f23, t.d23, _, O.o23, S.m23, S.F23.kp, S.u23⟩⟩
  c24 := ⟨⟨t.f24, t.d24, _, O.o24, S.m24, S.F24.kp, S.u24⟩⟩
  h4 := ⟨t.f4, t.d4, S.F4, S.m4, S.u4⟩
  b_abs := S.b_abs
  b_all := S.b_all
  b_bool := S.b_bool
  b_int := S.b_int
  b_isinstance := S.b_isinstance
  b_len := S.b_len
  b_list := S.b_list
  b_range := S.b_range
  b_str := S.b_str
  b_tuple := S.b_tuple
  gc_GREATEST_NUMBER := S.gc_GREATEST_NUMBER
  gc_KEPT_WORDS := S.gc_KEPT_WORDS
  gc_MOST_AROUND := S.gc_MOST_AROUND
  gc_MOST_LETTERS := S.gc_MOST_LETTERS
  gc_MOST_PARTS := S.gc_MOST_PARTS
  gc_SIGNS := S.gc_SIGNS
theorem oks_of {t : Adr} (S : Std K mg t) : ∀ (n : Nat) (base : Heap), Oks P w K mg base t n (Ph n)
  | 0, _ => ⟨fn_bad fun _ => rfl, fn_bad fun _ => rfl, fn_bad fun _ => rfl, fn_bad fun _ => rfl, fn_bad fun _ => rfl, fn_bad fun _ => rfl, fn_bad fun _ => rfl, fn_bad fun _ => rfl, fn_bad fun _ => rfl, fn_bad fun _ => rfl, fn_bad fun _ => rfl, fn_bad fun _ => rfl, fn_bad fun _ => rfl, fn_bad fun _ => rfl, fn_bad fun _ => rfl, fn_bad fun _ => rfl, fn_bad fun _ => rfl, fn_bad fun _ => rfl, fn_bad fun _ => rfl, fn_bad fun _ => rfl, fn_bad fun _ => rfl, fn_bad fun _ => rfl, fn_bad fun _ => rfl⟩
  | 1, _ => ⟨fn_bad fun _ => rfl, fn_bad fun _ => rfl, fn_bad fun _ => rfl, fn_bad fun _ => rfl, fn_bad fun _ => rfl, fn_bad fun _ => rfl, fn_bad fun _ => rfl, fn_bad fun _ => rfl, fn_bad fun _ => rfl, fn_bad fun _ => rfl, fn_bad fun _ => rfl, fn_bad fun _ => rfl, fn_bad fun _ => rfl, fn_bad fun _ => rfl, fn_bad fun _ => rfl, fn_bad fun _ => rfl, fn_bad fun _ => rfl, fn_bad fun _ => rfl, fn_bad fun _ => rfl, fn_bad fun _ => rfl, fn_bad fun _ => rfl, fn_bad fun _ => rfl, fn_bad fun _ => rfl⟩
  | 2, _ => ⟨fn_bad fun _ => rfl, fn_bad fun _ => rfl, fn_bad fun _ => rfl, fn_bad fun _ => rfl, fn_bad fun _ => rfl, fn_bad fun _ => rfl, fn_bad fun _ => rfl, fn_bad fun _ => rfl, fn_bad fun _ => rfl, fn_bad fun _ => rfl, fn_bad fun _ => rfl, fn_bad fun _ => rfl, fn_bad fun _ => rfl, fn_bad fun _ => rfl, fn_bad fun _ => rfl, fn_bad fun _ => rfl, fn_bad fun _ => rfl, fn_bad fun _ => rfl, fn_bad fun _ => rfl, fn_bad fun _ => rfl, fn_bad fun _ => rfl, fn_bad fun _ => rfl, fn_bad fun _ => rfl⟩
  | n + 3, base => by
    have T : ∀ b : Heap, Tab P w K mg b (n + 2) (Ph (n + 2)) := fun b => tab_of S (oks_of S (n + 2) b)
    have T0 : ∀ b : Heap, Tab P w K mg b n (Ph n) := fun b => tab_of S (oks_of S n b)
    exact ⟨ok0 (C' := Ph n) S.F0 (T base), ok1 (C' := Ph n) S.F1 (T base), ok2 (C' := Ph n) S.F2 (T base), ok3 (C' := Ph n) S.F3 (T base), ok5 (C' := Ph n) S.F5 (T base), ok6 (C' := Ph n) S.F6 (T base), ok7 (C' := Ph n) S.F7 (T base), ok8 S.F8 T T0 S.L8, ok9 (C' := Ph n) S.F9 (T base), ok10 (C' := Ph n) S.F10 (T base), ok11 (C' := Ph n) S.F11 (T base), ok12 (C' := Ph n) S.F12 (T base), ok13 (C' := Ph n) S.F13 (T base), ok14 (C' := Ph n) S.F14 (T base), ok15 (C' := Ph n) S.F15 (T base), ok16 (C' := Ph n) S.F16 (T base), ok17 (C' := Ph n) S.F17 (T base), ok19 (C' := Ph n) S.F19 (T base), ok20 (C' := Ph n) S.F20 (T base), ok21 (C' := Ph n) S.F21 (T base), ok22 (C' := Ph n) S.F22 (T base), ok23 (C' := Ph n) S.F23 (T base), ok24 (C' := Ph n) S.F24 (T base)⟩
end
theorem all_mk {l : PySem.W.OpenLaw} {w : World} {K : PySem.W.Frag} {h : Heap} {mg : Str → Option Value} {fa f0 f1 f2 f3 f4 f5 f6 f7 f8 f9 f10 f11 f12 f13 f14 f15 f16 f17 f19 f20 f21 f22 f23 f24 p_KEPT_WORDS p_SIGNS : Addr} (X : K.In h) (G : h.Ns mainGlobals mg) (hfa : mg "law" = some (.ref fa))
    (hbm : ∃ bm ob, mg "__builtins__" = some (.ref bm) ∧ bm ≠ builtinsNs ∧ h.get? bm = some ob ∧ ob.cls = .type "module" ∧ ob.dict = some builtinsNs ∧ ob.data = .plain)
    {od0 an0 od1 an1 od2 an2 od3 an3 od4 an4 od5 an5 od6 an6 od7 an7 od8 an8 od9 an9 od10 an10 od11 an11 od12 an12 od13 an13 od14 an14 od15 an15 od16 an16 od17 an17 od19 an19 od20 an20 od21 an21 od22 an22 od23 an23 od24 an24 : Option Addr} {sl0 sl1 sl2 sl3 sl4 sl5 sl6 sl7 sl8 sl9 sl10 sl11 sl12 sl13 sl14 sl15 sl16 sl17 sl19 sl20 sl21 sl22 sl23 sl24 : Array (Option Value)} {oc0 kV0 dc0 pm0 cd0 ct0 oc1 kV1 dc1 pm1 cd1 ct1 oc2 kV2 dc2 pm2 cd2 ct2 oc3 kV3 dc3 pm3 cd3 ct3 oc4 kV4 dc4 pm4 cd4 ct4 oc5 kV5 dc5 pm5 cd5 ct5 oc6 kV6 dc6 pm6 cd6 ct6 oc7 kV7 dc7 pm7 cd7 ct7 oc8 kV8 dc8 pm8 cd8 ct8 oc9 kV9 dc9 pm9 cd9 ct9 oc10 kV10 dc10 pm10 cd10 ct10 oc11 kV11 dc11 pm11 cd11 ct11 oc12 kV12 dc12 pm12 cd12 ct12 oc13 kV13 dc13 pm13 cd13 ct13 oc14 kV14 dc14 pm14 cd14 ct14 oc15 kV15 dc15 pm15 cd15 ct15 oc16 kV16 dc16 pm16 cd16 ct16 oc17 kV17 dc17 pm17 cd17 ct17 oc19 kV19 dc19 pm19 cd19 ct19 oc20 kV20 dc20 pm20 cd20 ct20 oc21 kV21 dc21 pm21 cd21 ct21 oc22 kV22 dc22 pm22 cd22 ct22 oc23 kV23 dc23 pm23 cd23 ct23 oc24 kV24 dc24 pm24 cd24 ct24 : Value}
    {ca8 pt8 : Addr} {oda8 : Option Addr} {vs8 : Array Value} {sla8 : Array (Option Value)} {file8 : Str} {tf8 tg8 tt8 : Tok} {flags8 text8 : Int} {inF8 : Bool}
    {i_GREATEST_NUMBER : Tok}
    {od_KEPT_WORDS : Option Addr} {sl_KEPT_WORDS : Array (Option Value)} {its_KEPT_WORDS : Array Value} {n_KEPT_WORDS : Nat}
    {i_MOST_AROUND : Tok}
    {i_MOST_LETTERS : Tok}
    {i_MOST_PARTS : Tok}
    {od_SIGNS : Option Addr} {sl_SIGNS : Array (Option Value)} {its_SIGNS : Array Value} {n_SIGNS : Nat}
    (a0 : PySem.W.nsIn K mainGlobals "is_whole" = some (some (.ref f0))) (l0 : K.lookup f0 = some ⟨oc0, od0, .func (PySem.W.fnOf "is_whole" "is_whole" (defArgs s0) (defBody s0) (defScope s0) .none kV0 dc0 pm0 an0 cd0 ct0), sl0⟩) (c0 : PySem.W.codeIn K cd0 "is_whole" = true) (k0 : PySem.W.keepIn K (.ref f0) = true)
    (a1 : PySem.W.nsIn K mainGlobals "is_number" = some (some (.ref f1))) (l1 : K.lookup f1 = some ⟨oc1, od1, .func (PySem.W.fnOf "is_number" "is_number" (defArgs s1) (defBody s1) (defScope s1) .none kV1 dc1 pm1 an1 cd1 ct1), sl1⟩) (c1 : PySem.W.codeIn K cd1 "is_number" = true) (k1 : PySem.W.keepIn K (.ref f1) = true)
    (a2 : PySem.W.nsIn K mainGlobals "is_name" = some (some (.ref f2))) (l2 : K.lookup f2 = some ⟨oc2, od2, .func (PySem.W.fnOf "is_name" "is_name" (defArgs s2) (defBody s2) (defScope s2) .none kV2 dc2 pm2 an2 cd2 ct2), sl2⟩) (c2 : PySem.W.codeIn K cd2 "is_name" = true) (k2 : PySem.W.keepIn K (.ref f2) = true)
    (a3 : PySem.W.nsIn K mainGlobals "is_row" = some (some (.ref f3))) (l3 : K.lookup f3 = some ⟨oc3, od3, .func (PySem.W.fnOf "is_row" "is_row" (defArgs s3) (defBody s3) (defScope s3) .none kV3 dc3 pm3 an3 cd3 ct3), sl3⟩) (c3 : PySem.W.codeIn K cd3 "is_row" = true) (k3 : PySem.W.keepIn K (.ref f3) = true)
    (a4 : PySem.W.nsIn K mainGlobals "is_row_of" = some (some (.ref f4))) (l4 : K.lookup f4 = some ⟨oc4, od4, .func (PySem.W.fnOf "is_row_of" "is_row_of" (defArgs s4) (defBody s4) (defScope s4) .none kV4 dc4 pm4 an4 cd4 ct4), sl4⟩) (c4 : PySem.W.codeIn K cd4 "is_row_of" = true) (k4 : PySem.W.keepIn K (.ref f4) = true)
    (a5 : PySem.W.nsIn K mainGlobals "first_word" = some (some (.ref f5))) (l5 : K.lookup f5 = some ⟨oc5, od5, .func (PySem.W.fnOf "first_word" "first_word" (defArgs s5) (defBody s5) (defScope s5) .none kV5 dc5 pm5 an5 cd5 ct5), sl5⟩) (c5 : PySem.W.codeIn K cd5 "first_word" = true) (k5 : PySem.W.keepIn K (.ref f5) = true)
    (a6 : PySem.W.nsIn K mainGlobals "is_expression" = some (some (.ref f6))) (l6 : K.lookup f6 = some ⟨oc6, od6, .func (PySem.W.fnOf "is_expression" "is_expression" (defArgs s6) (defBody s6) (defScope s6) .none kV6 dc6 pm6 an6 cd6 ct6), sl6⟩) (c6 : PySem.W.codeIn K cd6 "is_expression" = true) (k6 : PySem.W.keepIn K (.ref f6) = true)
    (a7 : PySem.W.nsIn K mainGlobals "is_expression_within" = some (some (.ref f7))) (l7 : K.lookup f7 = some ⟨oc7, od7, .func (PySem.W.fnOf "is_expression_within" "is_expression_within" (defArgs s7) (defBody s7) (defScope s7) .none kV7 dc7 pm7 an7 cd7 ct7), sl7⟩) (c7 : PySem.W.codeIn K cd7 "is_expression_within" = true) (k7 : PySem.W.keepIn K (.ref f7) = true)
    (a8 : PySem.W.nsIn K mainGlobals "are_parts_within" = some (some (.ref f8))) (l8 : K.lookup f8 = some ⟨oc8, od8, .func (PySem.W.fnOf "are_parts_within" "are_parts_within" (defArgs s8) (defBody s8) (defScope s8) .none kV8 dc8 pm8 an8 cd8 ct8), sl8⟩) (c8 : PySem.W.codeIn K cd8 "are_parts_within" = true) (k8 : PySem.W.keepIn K (.ref f8) = true)
    (a9 : PySem.W.nsIn K mainGlobals "_law_cell_at" = some (some (.ref f9))) (l9 : K.lookup f9 = some ⟨oc9, od9, .func (PySem.W.fnOf "_law_cell_at" "_law_cell_at" (defArgs s9) (defBody s9) (defScope s9) .none kV9 dc9 pm9 an9 cd9 ct9), sl9⟩) (c9 : PySem.W.codeIn K cd9 "_law_cell_at" = true) (k9 : PySem.W.keepIn K (.ref f9) = true)
    (a10 : PySem.W.nsIn K mainGlobals "_law_mixed" = some (some (.ref f10))) (l10 : K.lookup f10 = some ⟨oc10, od10, .func (PySem.W.fnOf "_law_mixed" "_law_mixed" (defArgs s10) (defBody s10) (defScope s10) .none kV10 dc10 pm10 an10 cd10 ct10), sl10⟩) (c10 : PySem.W.codeIn K cd10 "_law_mixed" = true) (k10 : PySem.W.keepIn K (.ref f10) = true)
    (a11 : PySem.W.nsIn K mainGlobals "_law_drawn" = some (some (.ref f11))) (l11 : K.lookup f11 = some ⟨oc11, od11, .func (PySem.W.fnOf "_law_drawn" "_law_drawn" (defArgs s11) (defBody s11) (defScope s11) .none kV11 dc11 pm11 an11 cd11 ct11), sl11⟩) (c11 : PySem.W.codeIn K cd11 "_law_drawn" = true) (k11 : PySem.W.keepIn K (.ref f11) = true)
    (a12 : PySem.W.nsIn K mainGlobals "_law_stem" = some (some (.ref f12))) (l12 : K.lookup f12 = some ⟨oc12, od12, .func (PySem.W.fnOf "_law_stem" "_law_stem" (defArgs s12) (defBody s12) (defScope s12) .none kV12 dc12 pm12 an12 cd12 ct12), sl12⟩) (c12 : PySem.W.codeIn K cd12 "_law_stem" = true) (k12 : PySem.W.keepIn K (.ref f12) = true)
    (a13 : PySem.W.nsIn K mainGlobals "_law_name" = some (some (.ref f13))) (l13 : K.lookup f13 = some ⟨oc13, od13, .func (PySem.W.fnOf "_law_name" "_law_name" (defArgs s13) (defBody s13) (defScope s13) .none kV13 dc13 pm13 an13 cd13 ct13), sl13⟩) (c13 : PySem.W.codeIn K cd13 "_law_name" = true) (k13 : PySem.W.keepIn K (.ref f13) = true)
    (a14 : PySem.W.nsIn K mainGlobals "_law_value" = some (some (.ref f14))) (l14 : K.lookup f14 = some ⟨oc14, od14, .func (PySem.W.fnOf "_law_value" "_law_value" (defArgs s14) (defBody s14) (defScope s14) .none kV14 dc14 pm14 an14 cd14 ct14), sl14⟩) (c14 : PySem.W.codeIn K cd14 "_law_value" = true) (k14 : PySem.W.keepIn K (.ref f14) = true)
    (a15 : PySem.W.nsIn K mainGlobals "_law_expression" = some (some (.ref f15))) (l15 : K.lookup f15 = some ⟨oc15, od15, .func (PySem.W.fnOf "_law_expression" "_law_expression" (defArgs s15) (defBody s15) (defScope s15) .none kV15 dc15 pm15 an15 cd15 ct15), sl15⟩) (c15 : PySem.W.codeIn K cd15 "_law_expression" = true) (k15 : PySem.W.keepIn K (.ref f15) = true)
    (a16 : PySem.W.nsIn K mainGlobals "_law_is_name" = some (some (.ref f16))) (l16 : K.lookup f16 = some ⟨oc16, od16, .func (PySem.W.fnOf "_law_is_name" "_law_is_name" (defArgs s16) (defBody s16) (defScope s16) .none kV16 dc16 pm16 an16 cd16 ct16), sl16⟩) (c16 : PySem.W.codeIn K cd16 "_law_is_name" = true) (k16 : PySem.W.keepIn K (.ref f16) = true)
    (a17 : PySem.W.nsIn K mainGlobals "_law_is_number" = some (some (.ref f17))) (l17 : K.lookup f17 = some ⟨oc17, od17, .func (PySem.W.fnOf "_law_is_number" "_law_is_number" (defArgs s17) (defBody s17) (defScope s17) .none kV17 dc17 pm17 an17 cd17 ct17), sl17⟩) (c17 : PySem.W.codeIn K cd17 "_law_is_number" = true) (k17 : PySem.W.keepIn K (.ref f17) = true)
    (a19 : PySem.W.nsIn K mainGlobals "_law_parts" = some (some (.ref f19))) (l19 : K.lookup f19 = some ⟨oc19, od19, .func (PySem.W.fnOf "_law_parts" "_law_parts" (defArgs s19) (defBody s19) (defScope s19) .none kV19 dc19 pm19 an19 cd19 ct19), sl19⟩) (c19 : PySem.W.codeIn K cd19 "_law_parts" = true) (k19 : PySem.W.keepIn K (.ref f19) = true)
    (a20 : PySem.W.nsIn K mainGlobals "_law_is_expression" = some (some (.ref f20))) (l20 : K.lookup f20 = some ⟨oc20, od20, .func (PySem.W.fnOf "_law_is_expression" "_law_is_expression" (defArgs s20) (defBody s20) (defScope s20) .none kV20 dc20 pm20 an20 cd20 ct20), sl20⟩) (c20 : PySem.W.codeIn K cd20 "_law_is_expression" = true) (k20 : PySem.W.keepIn K (.ref f20) = true)
    (a21 : PySem.W.nsIn K mainGlobals "_law_odd" = some (some (.ref f21))) (l21 : K.lookup f21 = some ⟨oc21, od21, .func (PySem.W.fnOf "_law_odd" "_law_odd" (defArgs s21) (defBody s21) (defScope s21) .none kV21 dc21 pm21 an21 cd21 ct21), sl21⟩) (c21 : PySem.W.codeIn K cd21 "_law_odd" = true) (k21 : PySem.W.keepIn K (.ref f21) = true)
    (a22 : PySem.W.nsIn K mainGlobals "_law_spoilt" = some (some (.ref f22))) (l22 : K.lookup f22 = some ⟨oc22, od22, .func (PySem.W.fnOf "_law_spoilt" "_law_spoilt" (defArgs s22) (defBody s22) (defScope s22) .none kV22 dc22 pm22 an22 cd22 ct22), sl22⟩) (c22 : PySem.W.codeIn K cd22 "_law_spoilt" = true) (k22 : PySem.W.keepIn K (.ref f22) = true)
    (a23 : PySem.W.nsIn K mainGlobals "_law_same" = some (some (.ref f23))) (l23 : K.lookup f23 = some ⟨oc23, od23, .func (PySem.W.fnOf "_law_same" "_law_same" (defArgs s23) (defBody s23) (defScope s23) .none kV23 dc23 pm23 an23 cd23 ct23), sl23⟩) (c23 : PySem.W.codeIn K cd23 "_law_same" = true) (k23 : PySem.W.keepIn K (.ref f23) = true)
    (a24 : PySem.W.nsIn K mainGlobals "law" = some (some (.ref f24))) (l24 : K.lookup f24 = some ⟨oc24, od24, .func (PySem.W.fnOf "law" "law" (defArgs s24) (defBody s24) (defScope s24) .none kV24 dc24 pm24 an24 cd24 ct24), sl24⟩) (c24 : PySem.W.codeIn K cd24 "law" = true) (k24 : PySem.W.keepIn K (.ref f24) = true)
    (v8 : cd8 = .ref ca8) (w8 : K.lookup ca8 = some ⟨.type "code", oda8, .fields vs8, sla8⟩) (qa8 : vs8[11]? = some (.ref pt8)) (qb8 : vs8.getD 18 .none = .str file8 tf8) (qc8 : vs8.getD 7 .none = .int flags8 tg8) (qd8 : vs8.getD 9 .none = .bool inF8) (qe8 : vs8.getD 10 .none = .int text8 tt8) (x8 : h.get? pt8 = some (PySem.W.tabObj #[]))
    (z_abs : PySem.W.nsIn K mainGlobals "abs" = some none)
    (z_all : PySem.W.nsIn K mainGlobals "all" = some none)
    (z_bool : PySem.W.nsIn K mainGlobals "bool" = some none)
    (z_int : PySem.W.nsIn K mainGlobals "int" = some none)
    (z_isinstance : PySem.W.nsIn K mainGlobals "isinstance" = some none)
    (z_len : PySem.W.nsIn K mainGlobals "len" = some none)
    (z_list : PySem.W.nsIn K mainGlobals "list" = some none)
    (z_range : PySem.W.nsIn K mainGlobals "range" = some none)
    (z_str : PySem.W.nsIn K mainGlobals "str" = some none)
    (z_tuple : PySem.W.nsIn K mainGlobals "tuple" = some none)
    (e_GREATEST_NUMBER : PySem.W.nsIn K mainGlobals "GREATEST_NUMBER" = some (some (.int (999999) i_GREATEST_NUMBER)))
    (e_KEPT_WORDS : PySem.W.nsIn K mainGlobals "KEPT_WORDS" = some (some (.ref p_KEPT_WORDS))) (l_KEPT_WORDS : K.lookup p_KEPT_WORDS = some ⟨.type "tuple", od_KEPT_WORDS, .seq its_KEPT_WORDS n_KEPT_WORDS, sl_KEPT_WORDS⟩) (t_KEPT_WORDS : txB its_KEPT_WORDS.toList gt_KEPT_WORDS = true)
    (e_MOST_AROUND : PySem.W.nsIn K mainGlobals "MOST_AROUND" = some (some (.int (12) i_MOST_AROUND)))
    (e_MOST_LETTERS : PySem.W.nsIn K mainGlobals "MOST_LETTERS" = some (some (.int (8) i_MOST_LETTERS)))
    (e_MOST_PARTS : PySem.W.nsIn K mainGlobals "MOST_PARTS" = some (some (.int (4) i_MOST_PARTS)))
    (e_SIGNS : PySem.W.nsIn K mainGlobals "SIGNS" = some (some (.ref p_SIGNS))) (l_SIGNS : K.lookup p_SIGNS = some ⟨.type "tuple", od_SIGNS, .seq its_SIGNS n_SIGNS, sl_SIGNS⟩) (t_SIGNS : txB its_SIGNS.toList gt_SIGNS = true)
    : ∃ (T : Tbl) (K' : PySem.W.Frag) (fd : FuncData), K'.In h ∧ (∀ t ∈ T.L, (∃ c, h.TableAt c t.1 #[]) ∧ K'.lookup t.1 = none) ∧ (∀ (s : Shared) (u : Value), BindsTo s fd ⟨[u], []⟩ [("_law_script", u)]) ∧
      ∀ base : Heap, K'.In base → base.Ns mainGlobals mg → FnOk l.prog w K' mg base CX0 64 fa fd ["_law_script"] (spLaw K') := by
  have e := hfa.symm.trans (PySem.W.mg_of X G a24)
  cases e
  subst v8
  obtain ⟨bm, ob, hm1, hm2, hm3, hm4, hm5, hm6⟩ := hbm
  have U : Ups K [pt8] bm ob h := ⟨X, hm3, hm6, fun P hP => by
    obtain rfl : P = pt8 := by simpa using hP
    exact x8⟩
  have hbg : bm ≠ mainGlobals := fun z => by
    obtain ⟨o, es, ep, e1, e2, _⟩ := G
    rw [← z, hm3] at e1; cases e1; rw [hm6] at e2; cases e2
  letI T : Tbl := ⟨[(pt8, lpos_8, "are_parts_within.<locals>.<lambda>")], fun t ht u hu _ => by
    rw [List.mem_singleton.mp ht, List.mem_singleton.mp hu]⟩
  have hP : pt8 ∈ [pt8] := List.mem_singleton.mpr rfl
  have F0 := U.fn (fun_mk (st := s0) l0 c0 k0)
  have F1 := U.fn (fun_mk (st := s1) l1 c1 k1)
  have F2 := U.fn (fun_mk (st := s2) l2 c2 k2)
  have F3 := U.fn (fun_mk (st := s3) l3 c3 k3)
  have F4 := U.fn (fun_mk (st := s4) l4 c4 k4)
  have F5 := U.fn (fun_mk (st := s5) l5 c5 k5)
  have F6 := U.fn (fun_mk (st := s6) l6 c6 k6)
  have F7 := U.fn (fun_mk (st := s7) l7 c7 k7)
  have F8 := U.fn (fun_mk (st := s8) l8 c8 k8)
  have F9 := U.fn (fun_mk (st := s9) l9 c9 k9)
  have F10 := U.fn (fun_mk (st := s10) l10 c10 k10)
  have F11 := U.fn (fun_mk (st := s11) l11 c11 k11)
  have F12 := U.fn (fun_mk (st := s12) l12 c12 k12)
  have F13 := U.fn (fun_mk (st := s13) l13 c13 k13)
  have F14 := U.fn (fun_mk (st := s14) l14 c14 k14)
  have F15 := U.fn (fun_mk (st := s15) l15 c15 k15)
  have F16 := U.fn (fun_mk (st := s16) l16 c16 k16)
  have F17 := U.fn (fun_mk (st := s17) l17 c17 k17)
  have F19 := U.fn (fun_mk (st := s19) l19 c19 k19)
  have F20 := U.fn (fun_mk (st := s20) l20 c20 k20)
  have F21 := U.fn (fun_mk (st := s21) l21 c21 k21)
  have F22 := U.fn (fun_mk (st := s22) l22 c22 k22)
  have F23 := U.fn (fun_mk (st := s23) l23 c23 k23)
  have F24 := U.fn (fun_mk (st := s24) l24 c24 k24)
  have S : Std (Kup K [pt8] bm ob) mg ⟨f0, PySem.W.fnOf "is_whole" "is_whole" (defArgs s0) (defBody s0) (defScope s0) .none kV0 dc0 pm0 an0 cd0 ct0, f1, PySem.W.fnOf "is_number" "is_number" (defArgs s1) (defBody s1) (defScope s1) .none kV1 dc1 pm1 an1 cd1 ct1, f2, PySem.W.fnOf "is_name" "is_name" (defArgs s2) (defBody s2) (defScope s2) .none kV2 dc2 pm2 an2 cd2 ct2, f3, PySem.W.fnOf "is_row" "is_row" (defArgs s3) (defBody s3) (defScope s3) .none kV3 dc3 pm3 an3 cd3 ct3, f4, PySem.W.fnOf "is_row_of" "is_row_of" (defArgs s4) (defBody s4) (defScope s4) .none kV4 dc4 pm4 an4 cd4 ct4, f5, PySem.W.fnOf "first_word" "first_word" (defArgs s5) (defBody s5) (defScope s5) .none kV5 dc5 pm5 an5 cd5 ct5, f6, PySem.W.fnOf "is_expression" "is_expression" (defArgs s6) (defBody s6) (defScope s6) .none kV6 dc6 pm6 an6 cd6 ct6, f7, PySem.W.fnOf "is_expression_within" "is_expression_within" (defArgs s7) (defBody s7) (defScope s7) .none kV7 dc7 pm7 an7 cd7 ct7, f8, PySem.W.fnOf "are_parts_within" "are_parts_within" (defArgs s8) (defBody s8) (defScope s8) .none kV8 dc8 pm8 an8 (.ref ca8) ct8, f9, PySem.W.fnOf "_law_cell_at" "_law_cell_at" (defArgs s9) (defBody s9) (defScope s9) .none kV9 dc9 pm9 an9 cd9 ct9, f10, PySem.W.fnOf "_law_mixed" "_law_mixed" (defArgs s10) (defBody s10) (defScope s10) .none kV10 dc10 pm10 an10 cd10 ct10, f11, PySem.W.fnOf "_law_drawn" "_law_drawn" (defArgs s11) (defBody s11) (defScope s11) .none kV11 dc11 pm11 an11 cd11 ct11, f12, PySem.W.fnOf "_law_stem" "_law_stem" (defArgs s12) (defBody s12) (defScope s12) .none kV12 dc12 pm12 an12 cd12 ct12, f13, PySem.W.fnOf "_law_name" "_law_name" (defArgs s13) (defBody s13) (defScope s13) .none kV13 dc13 pm13 an13 cd13 ct13, f14, PySem.W.fnOf "_law_value" "_law_value" (defArgs s14) (defBody s14) (defScope s14) .none kV14 dc14 pm14 an14 cd14 ct14, f15, PySem.W.fnOf "_law_expression" "_law_expression" (defArgs s15) (defBody s15) (defScope s15) .none kV15 dc15 pm15 an15 cd15 ct15, f16, PySem.W.fnOf "_law_is_name" "_law_is_name" (defArgs s16) (defBody s16) (defScope s16) .none kV16 dc16 pm16 an16 cd16 ct16, f17, PySem.W.fnOf "_law_is_number" "_law_is_number" (defArgs s17) (defBody s17) (defScope s17) .none kV17 dc17 pm17 an17 cd17 ct17, f19, PySem.W.fnOf "_law_parts" "_law_parts" (defArgs s19) (defBody s19) (defScope s19) .none kV19 dc19 pm19 an19 cd19 ct19, f20, PySem.W.fnOf "_law_is_expression" "_law_is_expression" (defArgs s20) (defBody s20) (defScope s20) .none kV20 dc20 pm20 an20 cd20 ct20, f21, PySem.W.fnOf "_law_odd" "_law_odd" (defArgs s21) (defBody s21) (defScope s21) .none kV21 dc21 pm21 an21 cd21 ct21, f22, PySem.W.fnOf "_law_spoilt" "_law_spoilt" (defArgs s22) (defBody s22) (defScope s22) .none kV22 dc22 pm22 an22 cd22 ct22, f23, PySem.W.fnOf "_law_same" "_law_same" (defArgs s23) (defBody s23) (defScope s23) .none kV23 dc23 pm23 an23 cd23 ct23, fa, PySem.W.fnOf "law" "law" (defArgs s24) (defBody s24) (defScope s24) .none kV24 dc24 pm24 an24 cd24 ct24⟩ := by
    refine ⟨F0, PySem.W.mg_of X G a0, F0.binds fun _ _ _ _ _ _ us hl => match us, hl with | [_], _ => rfl, F1, PySem.W.mg_of X G a1, F1.binds fun _ _ _ _ _ _ us hl => match us, hl with | [_], _ => rfl, F2, PySem.W.mg_of X G a2, F2.binds fun _ _ _ _ _ _ us hl => match us, hl with | [_], _ => rfl, F3, PySem.W.mg_of X G a3, F3.binds fun _ _ _ _ _ _ us hl => match us, hl with | [_, _], _ => rfl, F4, PySem.W.mg_of X G a4, F4.binds fun _ _ _ _ _ _ us hl => match us, hl with | [_, _, _], _ => rfl, F5, PySem.W.mg_of X G a5, F5.binds fun _ _ _ _ _ _ us hl => match us, hl with | [_], _ => rfl, F6, PySem.W.mg_of X G a6, F6.binds fun _ _ _ _ _ _ us hl => match us, hl with | [_], _ => rfl, F7, PySem.W.mg_of X G a7, F7.binds fun _ _ _ _ _ _ us hl => match us, hl with | [_, _], _ => rfl, F8, PySem.W.mg_of X G a8, F8.binds fun _ _ _ _ _ _ us hl => match us, hl with | [_, _], _ => rfl, ⟨ca8, pt8, rfl, List.mem_singleton.mpr rfl, fun base hb => ⟨U.hd (oc := .none) hP w8 qa8 qb8 qc8 qd8 qe8 hb, bm, ob, hm1, hm2, hbg, U.ne hP, hb _ _ U.at', hm4, hm5, hm6⟩⟩, F9, PySem.W.mg_of X G a9, F9.binds fun _ _ _ _ _ _ us hl => match us, hl with | [_, _], _ => rfl, F10, PySem.W.mg_of X G a10, F10.binds fun _ _ _ _ _ _ us hl => match us, hl with | [_, _], _ => rfl, F11, PySem.W.mg_of X G a11, F11.binds fun _ _ _ _ _ _ us hl => match us, hl with | [_, _], _ => rfl, F12, PySem.W.mg_of X G a12, F12.binds fun _ _ _ _ _ _ us hl => match us, hl with | [_], _ => rfl, F13, PySem.W.mg_of X G a13, F13.binds fun _ _ _ _ _ _ us hl => match us, hl with | [_, _], _ => rfl, F14, PySem.W.mg_of X G a14, F14.binds fun _ _ _ _ _ _ us hl => match us, hl with | [_], _ => rfl, F15, PySem.W.mg_of X G a15, F15.binds fun _ _ _ _ _ _ us hl => match us, hl with | [_, _, _, _], _ => rfl, F16, PySem.W.mg_of X G a16, F16.binds fun _ _ _ _ _ _ us hl => match us, hl with | [_], _ => rfl, F17, PySem.W.mg_of X G a17, F17.binds fun _ _ _ _ _ _ us hl => match us, hl with | [_], _ => rfl, F19, PySem.W.mg_of X G a19, F19.binds fun _ _ _ _ _ _ us hl => match us, hl with | [_, _], _ => rfl, F20, PySem.W.mg_of X G a20, F20.binds fun _ _ _ _ _ _ us hl => match us, hl with | [_, _], _ => rfl, F21, PySem.W.mg_of X G a21, F21.binds fun _ _ _ _ _ _ us hl => match us, hl with | [_], _ => rfl, F22, PySem.W.mg_of X G a22, F22.binds fun _ _ _ _ _ _ us hl => match us, hl with | [_, _, _], _ => rfl, F23, PySem.W.mg_of X G a23, F23.binds fun _ _ _ _ _ _ us hl => match us, hl with | [_, _], _ => rfl, F24, PySem.W.mg_of X G a24, F24.binds fun _ _ _ _ _ _ us hl => match us, hl with | [_], _ => rfl, PySem.W.mg_none_of X G z_abs, PySem.W.mg_none_of X G z_all, PySem.W.mg_none_of X G z_bool, PySem.W.mg_none_of X G z_int, PySem.W.mg_none_of X G z_isinstance, PySem.W.mg_none_of X G z_len, PySem.W.mg_none_of X G z_list, PySem.W.mg_none_of X G z_range, PySem.W.mg_none_of X G z_str, PySem.W.mg_none_of X G z_tuple, gc_int (PySem.W.mg_of X G e_GREATEST_NUMBER), gc_textsB (PySem.W.mg_of X G e_KEPT_WORDS) (U.up l_KEPT_WORDS fun z => by cases z) (by decide +kernel) (by decide +kernel) t_KEPT_WORDS, gc_int (PySem.W.mg_of X G e_MOST_AROUND), gc_int (PySem.W.mg_of X G e_MOST_LETTERS), gc_int (PySem.W.mg_of X G e_MOST_PARTS), gc_textsB (PySem.W.mg_of X G e_SIGNS) (U.up l_SIGNS fun z => by cases z) (by decide +kernel) (by decide +kernel) t_SIGNS⟩
  refine ⟨T, Kup K [pt8] bm ob, _, U.isIn, fun t ht => ?_, fun s v => ?_, fun base _ _ => law_of (oks_of S 64 base).o24 ?_⟩
  · obtain rfl := List.mem_singleton.mp ht
    exact ⟨⟨ca8, ⟨⟨_, vs8, X _ _ w8, rfl, rfl, qa8⟩, x8⟩⟩, U.no hP⟩
  · exact .of_eq rfl
  · intro ns _
    exact law_ok 0 ns
end Jm
open PySem PySem.W PyProof.Rows
set_option maxRecDepth 100000 in
set_option maxHeartbeats 0 in
theorem PySem.Challenge.cw_joinmill_k02_expressions_holds : PySem.Challenge.rw_joinmill_k02_expressions.Holds := by
  w_on; o_law; k_head; (case hw => w_witness2)
  k_fill
  refine R.walk_ofU (l := PySem.Challenge.rw_joinmill_k02_expressions) (k := 64) (x := "_law_script") rfl rfl ⟨rfl, by decide, by decide⟩ (fun w h Y => PySem.W.km_in_of Y) (fun w h Y => PySem.W.km_tabs_of Y) ?F
  case F =>
    intro w mg fa h KX G hmg hT hbm
    refine' Jm.all_mk KX G hmg hbm ?a0 ?l0 ?c0 ?k0 ?a1 ?l1 ?c1 ?k1 ?a2 ?l2 ?c2 ?k2 ?a3 ?l3 ?c3 ?k3 ?a4 ?l4 ?c4 ?k4 ?a5 ?l5 ?c5 ?k5 ?a6 ?l6 ?c6 ?k6 ?a7 ?l7 ?c7 ?k7 ?a8 ?l8 ?c8 ?k8 ?a9 ?l9 ?c9 ?k9 ?a10 ?l10 ?c10 ?k10 ?a11 ?l11 ?c11 ?k11 ?a12 ?l12 ?c12 ?k12 ?a13 ?l13 ?c13 ?k13 ?a14 ?l14 ?c14 ?k14 ?a15 ?l15 ?c15 ?k15 ?a16 ?l16 ?c16 ?k16 ?a17 ?l17 ?c17 ?k17 ?a19 ?l19 ?c19 ?k19 ?a20 ?l20 ?c20 ?k20 ?a21 ?l21 ?c21 ?k21 ?a22 ?l22 ?c22 ?k22 ?a23 ?l23 ?c23 ?k23 ?a24 ?l24 ?c24 ?k24 ?v8 ?w8 ?qa8 ?qb8 ?qc8 ?qd8 ?qe8 ?x8 ?z_abs ?z_all ?z_bool ?z_int ?z_isinstance ?z_len ?z_list ?z_range ?z_str ?z_tuple ?e_GREATEST_NUMBER ?e_KEPT_WORDS ?l_KEPT_WORDS ?t_KEPT_WORDS ?e_MOST_AROUND ?e_MOST_LETTERS ?e_MOST_PARTS ?e_SIGNS ?l_SIGNS ?t_SIGNS
    (case a0 => k_is)
    (case l0 => k_is)
    (case c0 => k_is)
    (case k0 => k_is)
    (case a1 => k_is)
    (case l1 => k_is)
    (case c1 => k_is)
    (case k1 => k_is)
    (case a2 => k_is)
    (case l2 => k_is)
    (case c2 => k_is)
    (case k2 => k_is)
    (case a3 => k_is)
    (case l3 => k_is)
    (case c3 => k_is)
    (case k3 => k_is)
    (case a4 => k_is)
    (case l4 => k_is)
    (case c4 => k_is)
    (case k4 => k_is)
    (case a5 => k_is)
    (case l5 => k_is)
    (case c5 => k_is)
    (case k5 => k_is)
    (case a6 => k_is)
    (case l6 => k_is)
    (case c6 => k_is)
    (case k6 => k_is)
    (case a7 => k_is)
    (case l7 => k_is)
    (case c7 => k_is)
    (case k7 => k_is)
    (case a8 => k_is)
    (case l8 => k_is)
    (case c8 => k_is)
    (case k8 => k_is)
    (case a9 => k_is)
    (case l9 => k_is)
    (case c9 => k_is)
    (case k9 => k_is)
    (case a10 => k_is)
    (case l10 => k_is)
    (case c10 => k_is)
    (case k10 => k_is)
    (case a11 => k_is)
    (case l11 => k_is)
    (case c11 => k_is)
    (case k11 => k_is)
    (case a12 => k_is)
    (case l12 => k_is)
    (case c12 => k_is)
    (case k12 => k_is)
    (case a13 => k_is)
    (case l13 => k_is)
    (case c13 => k_is)
    (case k13 => k_is)
    (case a14 => k_is)
    (case l14 => k_is)
    (case c14 => k_is)
    (case k14 => k_is)
    (case a15 => k_is)
    (case l15 => k_is)
    (case c15 => k_is)
    (case k15 => k_is)
    (case a16 => k_is)
    (case l16 => k_is)
    (case c16 => k_is)
    (case k16 => k_is)
    (case a17 => k_is)
    (case l17 => k_is)
    (case c17 => k_is)
    (case k17 => k_is)
    (case a19 => k_is)
    (case l19 => k_is)
    (case c19 => k_is)
    (case k19 => k_is)
    (case a20 => k_is)
    (case l20 => k_is)
    (case c20 => k_is)
    (case k20 => k_is)
    (case a21 => k_is)
    (case l21 => k_is)
    (case c21 => k_is)
    (case k21 => k_is)
    (case a22 => k_is)
    (case l22 => k_is)
    (case c22 => k_is)
    (case k22 => k_is)
    (case a23 => k_is)
    (case l23 => k_is)
    (case c23 => k_is)
    (case k23 => k_is)
    (case a24 => k_is)
    (case l24 => k_is)
    (case c24 => k_is)
    (case k24 => k_is)
    (case v8 => rfl)
    (case w8 => k_is)
    (case qa8 => rfl)
    (case qb8 => rfl)
    (case qc8 => rfl)
    (case qd8 => rfl)
    (case qe8 => rfl)
    (case x8 => exact hT _ (by decide))
    (case z_abs => k_is)
    (case z_all => k_is)
    (case z_bool => k_is)
    (case z_int => k_is)
    (case z_isinstance => k_is)
    (case z_len => k_is)
    (case z_list => k_is)
    (case z_range => k_is)
    (case z_str => k_is)
    (case z_tuple => k_is)
    (case e_GREATEST_NUMBER => k_is)
    (case e_KEPT_WORDS => k_is)
    (case l_KEPT_WORDS => k_is)
    (case t_KEPT_WORDS => rfl)
    (case e_MOST_AROUND => k_is)
    (case e_MOST_LETTERS => k_is)
    (case e_MOST_PARTS => k_is)
    (case e_SIGNS => k_is)
    (case l_SIGNS => k_is)
    (case t_SIGNS => rfl)
#print axioms PySem.Challenge.cw_joinmill_k02_expressions_holds
end

import PyProof.Rows.All
import Wide.All
import Wide.FinOn
import Lean
import PyProof.EqAt
import PyProof.EqKinds
import PyProof.TupleCall
import PyProof.ListMulRoad
import PyProof.ListMulAny
import PyProof.Rows.ListMulArg
import KE.KLam
import PyProof.ZipIter
import PyProof.EnumMake
import PyProof.Rows.SetFrom
import PyProof.AttrMissSeq
import KE.KDictOf
import KE.KDictList
import KE.KEqDict
import PyProof.DictWalks
import PySem.Challenge.RW_joinmill_k10_heads_of_units
import OpenK.KLine
import KE.KIsAll
import KE.KNestM
set_option Elab.async false
set_option linter.all false
set_option maxRecDepth 100000
set_option maxHeartbeats 8000000
theorem bE {p : Prop} (h : p := by omega) : p := h
theorem pA {p : Prop} (h : p := by decide +kernel) : p := h
theorem bG {p : Prop} (h : p := by kernel_rfl) : p := h
section
namespace L2
open PySem PySem.Spec PyProof.Rows
noncomputable abbrev bR := Sum Int Str
noncomputable def qI : bR -> Value -> Bool
 | .inl k, v => Value.isInt k v
 | .inr x, v => Value.isStrOf x v
noncomputable def cG3 (w : World) : bR -> Int
 | .inl k => hashInt k
 | .inr x => hashStr w x
theorem mK : ∀ {k : bR} {v : Value}, qI k v = true -> (∃ i t, k = Sum.inl i /\ v = Value.int i t) \/ (∃ x t, k = Sum.inr x /\ v = Value.str x t)
 | .inl i, v, h => by
  obtain ⟨t, e⟩ := Value.isInt_shape (k := i) (v := v) h
  exact .inl ⟨i, t, rfl, e⟩
 | .inr x, v, h => by
  obtain ⟨t, e⟩ := Value.isStrOf_shape (x := x) (v := v) h
  exact .inr ⟨x, t, rfl, e⟩
theorem cG4 (i : Int) (t : Tok) : qI (.inl i) (.int i t) = true := by simp [qI, Value.isInt]
theorem cG5 (x : Str) (t : Tok) : qI (.inr x) (.str x t) = true := by simp [qI, Value.isStrOf]
theorem cG6 (a b : Int) : decide ((Sum.inl a : bR) = Sum.inl b) = (a == b) := by
 by_cases e : a = b
 ·subst e; simp
 ·have h : ¬ (Sum.inl a : bR) = Sum.inl b := fun q => e (Sum.inl.inj q)
  rw [decide_eq_false h]
  exact (beq_eq_false_iff_ne.mpr e).symm
theorem cG7 (a b : Str) : decide ((Sum.inr a : bR) = Sum.inr b) = decide (a = b) := by
 by_cases e : a = b
 ·subst e; simp
 ·have h : ¬ (Sum.inr a : bR) = Sum.inr b := fun q => e (Sum.inr.inj q)
  rw [decide_eq_false h, decide_eq_false e]
theorem cG8 (a : Int) (b : Str) : decide ((Sum.inl a : bR) = Sum.inr b) = false := decide_eq_false (fun q => nomatch q)
theorem cG9 (a : Str) (b : Int) : decide ((Sum.inr a : bR) = Sum.inl b) = false := decide_eq_false (fun q => nomatch q)
noncomputable def gF (prog : Program) (w : World) : PySem.KeyKind prog w bR where
 is := qI
 hash := cG3 w
 inj := fun v a b ha hb => by
  rcases mK ha with ⟨i, t, rfl, rfl⟩ | ⟨x, t, rfl, rfl⟩
  ·rcases mK hb with ⟨j, u, rfl, e⟩ | ⟨y, u, rfl, e⟩
   ·injection e with e1 _; rw [e1]
   ·exact nomatch e
  ·rcases mK hb with ⟨j, u, rfl, e⟩ | ⟨y, u, rfl, e⟩
   ·exact nomatch e
   ·injection e with e1 _; rw [e1]
 byValue := fun k v h => by
  rcases mK h with ⟨i, t, rfl, rfl⟩ | ⟨x, t, rfl, rfl⟩ <;> rfl
 pyHash := fun hv h => by
  rcases mK hv with ⟨i, t, rfl, rfl⟩ | ⟨x, t, rfl, rfl⟩
  ·exact wpAny_pyHash_int h
  ·exact wpAny_pyHash_str h
 eqBool := fun hu hv h => by
  rcases mK hu with ⟨i, t, rfl, rfl⟩ | ⟨x, t, rfl, rfl⟩
  ·rcases mK hv with ⟨j, u, rfl, rfl⟩ | ⟨y, u, rfl, rfl⟩
   ·rw [cG6] at h; exact wpAny_eqBool_int h
   ·rw [cG8] at h; exact SeqAt.EqAt.int_str i t y u _ _ _ _ h
  ·rcases mK hv with ⟨j, u, rfl, rfl⟩ | ⟨y, u, rfl, rfl⟩
   ·rw [cG9] at h; exact SeqAt.EqAt.str_int x t j u _ _ _ _ h
   ·rw [cG7] at h; exact wpAny_eqBool_str h
 «strs» := fun k x t v h => by
  rcases mK h with ⟨i, u, rfl, e⟩ | ⟨y, u, rfl, e⟩
  ·exact nomatch e
  ·injection e with e1 _
   subst e1
   cases v <;> rfl
theorem cH0 (prog : Program) (w : World) (i : Int) (t : Tok) : (gF prog w).is (.inl i) (.int i t) = true := cG4 i t
theorem cH1 (prog : Program) (w : World) (x : Str) (t : Tok) : (gF prog w).is (.inr x) (.str x t) = true := cG5 x t
end L2
namespace L2
open PySem PySem.Spec PyProof.Rows
inductive V where
 | non | bl (b : Bool) | int (i : Int) | str (x : Str) | byt (b : Array UInt8) | flt (b : UInt64) | ref (a : Addr) | ty (n : String)
 deriving DecidableEq
def bW : V -> Value -> Prop
 | .non, u => u = Value.none
 | .bl b, u => u = Value.bool b
 | .int i, u => ∃ t, u = Value.int i t
 | .str x, u => ∃ t, u = Value.str x t
 | .byt b, u => ∃ t, u = Value.bytes b t
 | .flt b, u => ∃ t, u = Value.float b t
 | .ref a, u => u = Value.ref a
 | .ty n, u => u = Value.type n
abbrev cG : List V -> List Value -> Prop := Paired bW
theorem cG.length {xs : List V} {us : List Value} (r : cG xs us) : xs.length = us.length := Paired.length r
theorem cG.get : ∀ {xs : List V} {us : List Value} {i : Nat} {x : V}, cG xs us -> xs[i]? = some x -> ∃ u, us[i]? = some u /\ bW x u
 | _, _, _, _, .nil, e => by simp at e
 | _, _, 0, _, .cons r _, e => by simp at e; subst e; exact ⟨_, rfl, r⟩
 | _, _, i + 1, x, .cons _ t, e => by
  obtain ⟨u, h1, h2⟩ := cG.get (i := i) (x := x) t (by simpa using e)
  exact ⟨u, by simpa using h1, h2⟩
theorem cG.append : ∀ {xs ys : List V} {us ws : List Value}, cG xs us -> cG ys ws -> cG (xs ++ ys) (us ++ ws)
 | _, _, _, _, .nil, s => s
 | _, _, _, _, .cons r t, s => .cons r (cG.append t s)
theorem cG.take : ∀ {xs : List V} {us : List Value} (n : Nat), cG xs us -> cG (xs.take n) (us.take n)
 | _, _, 0, _ => .nil
 | _, _, _ + 1, .nil => .nil
 | _, _, n + 1, .cons r t => .cons r (cG.take n t)
theorem cG.drop : ∀ {xs : List V} {us : List Value} (n : Nat), cG xs us -> cG (xs.drop n) (us.drop n)
 | _, _, 0, r => r
 | _, _, _ + 1, .nil => .nil
 | _, _, n + 1, .cons _ t => cG.drop n t
def RelO : Option V -> Option Value -> Prop
 | some v, some u => bW v u
 | none, none => True
 | _, _ => False
def KV {κ : Type} : List (κ × V) -> List (κ × Value) -> Prop := Paired fun (p : κ × V) (q : κ × Value) => p.1 = q.1 /\ bW p.2 q.2
noncomputable def kV : bR -> V
 | .inl i => .int i
 | .inr x => .str x
inductive HO where
 | lst (xs : List V)
 | tup (xs : List V)
 | dK (kvs : List (bR × V)) | dT (kvs : List (List bR × V))
 | set (S : Int -> Bool) (n : Nat)
 | ins (C dx : Addr) (fs : List (Str × V))
 | own (x : Addr)
 | xd (fs : List (Str × V))
 | met (f x : Addr)
 | rng (lo hi : Int)
 | frz (o : Obj) (u : HO)
 | tbl (ps : Array Value)
 | ext (φ : Heap -> Prop)
noncomputable abbrev Hp := Addr -> Option HO
noncomputable def upd (H : Hp) (a : Addr) (o : HO) : Hp := fun b => if b = a then some o else H b
theorem dY {H : Hp} {a : Addr} {o : HO} : upd H a o a = some o := by unfold upd; rw [if_pos rfl]
theorem bZ {H : Hp} {a b : Addr} {o : HO} (h : b ≠ a) : upd H a o b = H b := by unfold upd; rw [if_neg h]
theorem kE {H : Hp} {a b : Addr} {o u : HO} (h : H a = some o) (h' : H b = some u) (d : o ≠ u) : a ≠ b := by
 intro e; subst e; rw [h] at h'; exact d (Option.some.inj h')
theorem lA {H : Hp} {a b : Addr} {o : HO} (h : H a = some o) (h' : H b = none) : a ≠ b := by
 intro e; subst e; rw [h] at h'; cases h'
section
variable (P : Program) (w : World)
def lL (h : Heap) (a : Addr) (items : Array Value) : Prop := ∃ o, h.get? a = some o /\ (o.cls = .type "tuple" /\ o.dict = none) /\ ∃ n, o.data = .seq items n
theorem lL.tup {h : Heap} {a : Addr} {items : Array Value} (x : lL h a items) : IsTup h a items := let ⟨o, e, c, n⟩ := x; ⟨o, e, c.1, n⟩
theorem lL.lt {h : Heap} {a : Addr} {items : Array Value} (x : lL h a items) : a < h.objs.size := x.tup.lt
theorem lL.new (h : Heap) (items : Array Value) : lL (h.push { cls := .type "tuple", data := .seq items }) h.objs.size items := ⟨_, Heap.get?_push_size _ rfl, ⟨rfl, rfl⟩, _, rfl⟩
def fL (H : Hp) (h : Heap) (a : Addr) : HO -> Prop
 | .lst xs => xs.length <= sizeLine /\ ∃ (its : List Value) (n : Nat), cG xs its /\ h.get? a = some { cls := .type "list", data := .seq its.toArray n }
 | .tup xs => xs.length <= sizeLine /\ ∃ its : List Value, cG xs its /\ lL h a its.toArray
 | .dK kvs => kvs.length <= sizeLine /\ (a == sysModules) = false /\ ∃ vs, KV kvs vs /\ h.DictOf (gF P w) a vs
 | .dT kvs => kvs.length <= sizeLine /\ (a == sysModules) = false /\ ∃ xs : List (List bR × Addr × Value),
  Paired (fun (p : List bR × V) (q : List bR × Addr × Value) => p.1 = q.1 /\ H q.2.1 = some (.tup (p.1.map kV)) /\ bW p.2 q.2.2) kvs xs /\
  ∃ o es ep, h.get? a = some o /\ o.ExactDict /\ o.data = .dict es ep /\ es.toList = xs.map (entryOfKey (tupleKind (gF P w))) /\ (xs.map (·.1)).Nodup
 | .set S n => h.SetOf (intKind P w) a S n
 | .ins C dx fs => H dx = some (.own a) /\ fs.length <= 1000 /\ dx ≠ a /\ h.get? a = some (W.instObj C dx) /\
  ∃ mA, h.Ns1 dx mA /\ (∀ f, RelO (fs.lookup f) (mA f)) /\ PySem.Within mA (fs.map (·.1))
 | .own _ => ∃ o, h.get? a = some o
 | .xd fs => ∃ mA, h.Ns1 a mA /\ ∀ f, RelO (fs.lookup f) (mA f)
 | .rng lo hi => ∃ t u v, h.get? a = some { cls := .type "range", data := .fields #[.int lo t, .int hi u, .int 1 v] }
 | .frz o u => h.get? a = some o /\ fL H h a u
 | .tbl ps => h.get? a = some { cls := .none, data := .fields ps }
 | .met f x => h.get? a = some (W.methodObj (.ref f) (.ref x))
 | .ext φ => φ h /\ (∃ o, h.get? a = some o) /\ ∀ h1 h2 : Heap, φ h1 -> (∀ o, h1.get? a = some o -> h2.get? a = some o) -> φ h2
def fE (H : Hp) (h : Heap) : Prop := ∀ a o, H a = some o -> fL P w H h a o
end
section
variable {P : Program} {w : World} {H H' : Hp} {h h' : Heap} {a : Addr} {o : HO}
theorem fL.lt (x : fL P w H h a o) : a < h.objs.size := by
 cases o with
 | lst xs => obtain ⟨_, _, _, _, e⟩ := x; exact Heap.lt_size e
 | tup xs => obtain ⟨_, _, _, p⟩ := x; exact p.lt
 | dK kvs => obtain ⟨_, _, _, _, o, _, _, e, _⟩ := x; exact Heap.lt_size e
 | dT kvs => obtain ⟨_, _, _, _, o, _, _, e, _⟩ := x; exact Heap.lt_size e
 | set S n => obtain ⟨o, _, _, _, e, _⟩ := x; exact Heap.lt_size e
 | ins C dx fs => obtain ⟨_, _, _, e, _⟩ := x; exact Heap.lt_size e
 | own y => obtain ⟨_, e⟩ := x; exact Heap.lt_size e
 | xd fs => obtain ⟨_, ⟨_, _, _, e, _⟩, _⟩ := x; exact Heap.lt_size e
 | rng lo hi => obtain ⟨_, _, _, e⟩ := x; exact Heap.lt_size e
 | frz ob u => obtain ⟨e, _⟩ := x; exact Heap.lt_size e
 | tbl ps => exact Heap.lt_size (show h.get? a = some _ from x)
 | met f y => exact Heap.lt_size (show h.get? a = some _ from x)
 | ext φ => obtain ⟨_, ⟨_, e⟩, _⟩ := x; exact Heap.lt_size e
theorem Paired.mapP {α β : Type} {F G : α -> β -> Prop} : ∀ {l₁ : List α} {l₂ : List β}, Paired F l₁ l₂ -> (∀ a b, F a b -> G a b) -> Paired G l₁ l₂
 | _, _, .nil, _ => .nil
 | _, _, .cons r t, f => .cons (f _ _ r) (Paired.mapP t f)
theorem fL.stay (x : fL P w H h a o) (k : ∀ b u, (b = a \/ H b = some (.own a)) -> h.get? b = some u -> h'.get? b = some u)
 (ho : ∀ b, H b = some (.own a) -> H' b = some (.own a)) (ht : ∀ b xs, H b = some (.tup xs) -> H' b = some (.tup xs)) : fL P w H' h' a o := by
 induction o with
 | lst xs => obtain ⟨z, its, n, r, e⟩ := x; exact ⟨z, its, n, r, k _ _ (.inl rfl) e⟩
 | tup xs => obtain ⟨z, its, r, ob, e, c⟩ := x; exact ⟨z, its, r, ob, k _ _ (.inl rfl) e, c⟩
 | dK kvs => obtain ⟨z, y, vs, r, ob, es, ep, e, c⟩ := x; exact ⟨z, y, vs, r, ob, es, ep, k _ _ (.inl rfl) e, c⟩
 | dT kvs =>
  obtain ⟨z, y, xs, r, ob, es, ep, e, c⟩ := x
  exact ⟨z, y, xs, Paired.mapP r fun p q z => ⟨z.1, ht _ _ z.2.1, z.2.2⟩, ob, es, ep, k _ _ (.inl rfl) e, c⟩
 | set S n => obtain ⟨ob, es, ep, t, e, c⟩ := x; exact ⟨ob, es, ep, t, k _ _ (.inl rfl) e, c⟩
 | ins C dx fs =>
  obtain ⟨d, z, ne, e, mA, ⟨od, es, ep, e2, c⟩, r⟩ := x
  exact ⟨ho _ d, z, ne, k _ _ (.inl rfl) e, mA, ⟨od, es, ep, k _ _ (.inr d) e2, c⟩, r⟩
 | own y => obtain ⟨ob, e⟩ := x; exact ⟨ob, k _ _ (.inl rfl) e⟩
 | xd fs => obtain ⟨mA, ⟨od, es, ep, e, c⟩, r⟩ := x; exact ⟨mA, ⟨od, es, ep, k _ _ (.inl rfl) e, c⟩, r⟩
 | rng lo hi => obtain ⟨t, u, v, e⟩ := x; exact ⟨t, u, v, k _ _ (.inl rfl) e⟩
 | frz ob u ih => obtain ⟨e, q⟩ := x; exact ⟨k _ _ (.inl rfl) e, ih q⟩
 | tbl ps =>
  have e : h.get? a = some { cls := .none, data := .fields ps } := x
  show h'.get? a = some { cls := .none, data := .fields ps }
  exact k a _ (.inl rfl) e
 | met f y =>
  have e : h.get? a = some (W.methodObj (.ref f) (.ref y)) := x
  show h'.get? a = some (W.methodObj (.ref f) (.ref y))
  exact k a _ (.inl rfl) e
 | ext φ => obtain ⟨p, ⟨o, e⟩, st⟩ := x; exact ⟨st _ _ p fun o q => k _ _ (.inl rfl) q, ⟨o, k _ _ (.inl rfl) e⟩, st⟩
theorem fE.lt (x : fE P w H h) (e : H a = some o) : a < h.objs.size := (x a o e).lt
theorem fE.fresh (x : fE P w H h) (e : h.objs.size <= a) : H a = none := by
 cases q : H a with
 | none => rfl
 | some u => exact absurd (Nat.lt_of_lt_of_le (x.lt q) e) (Nat.lt_irrefl _)
theorem fE.kept (x : fE P w H h) (k : ∀ b u, h.get? b = some u -> h'.get? b = some u) : fE P w H h' := fun a o e =>
 (x a o e).stay (fun b u _ q => k b u q) (fun _ q => q) fun _ _ q => q
theorem fE.laid (x : fE P w H h) (k : ∀ b u, h.get? b = some u -> h'.get? b = some u) (hp : h.objs.size <= a) (new : fL P w (upd H a o) h' a o) : fE P w (upd H a o) h' := fun b u e => by
 have hn := x.fresh hp
 by_cases hb : b = a
 ·subst hb; rw [dY] at e; cases e; exact new
 ·rw [bZ hb] at e
  exact (x b u e).stay (fun c v _ q => k c v q) (fun c q => by rw [bZ (lA q hn)]; exact q) fun c xs q => by rw [bZ (lA q hn)]; exact q
end
def Rd (H : Hp) (a : Addr) (u : HO) : Prop := H a = some u \/ ∃ o, H a = some (.frz o u)
theorem Rd.ok {P : Program} {w : World} {H : Hp} {h : Heap} {a : Addr} {u : HO} (r : Rd H a u) (x : fE P w H h) : fL P w H h a u := by
 rcases r with r | ⟨o, r⟩
 ·exact x a u r
 ·obtain ⟨_, q⟩ := x a _ r
  exact q
def wB : Option HO -> Prop
 | some (.lst _) => True
 | some (.dK _) => True
 | some (.dT _) => True
 | some (.set _ _) => True
 | some (.ins _ _ _) => True
 | some (.ext _) => True
 | _ => False
section
variable {P : Program} {w : World} {H : Hp} {h h' : Heap} {x e : Addr} {o' : HO}
theorem fE.write (ok : fE P w H h) (mu : wB (H x)) (he : e = x \/ H e = some (.own x)) (k : ∀ b u, b ≠ e -> h.get? b = some u -> h'.get? b = some u) (heo : ∃ u, h'.get? e = some u)
 (new : fL P w (upd H x o') h' x o') : fE P w (upd H x o') h' := fun b u q => by
 have nown : ∀ c y, H c = some (.own y) -> c ≠ x := fun c y r z => by subst z; rw [r] at mu; exact mu
 have ntup : ∀ c xs, H c = some (.tup xs) -> c ≠ x := fun c xs r z => by subst z; rw [r] at mu; exact mu
 by_cases hb : b = x
 ·subst hb; rw [dY] at q; cases q; exact new
 ·rw [bZ hb] at q
  by_cases hbe : b = e
  ·have q' : H b = some (.own x) := by
    rcases he with z | z
    ·exact absurd (hbe.trans z) hb
    ·rw [hbe]; exact z
   rw [q] at q'; cases q'
   obtain ⟨v, hv⟩ := heo
   exact ⟨v, by rw [hbe]; exact hv⟩
  ·refine (ok b u q).stay (fun c v hc r => k c v ?_ r) (fun c r => by rw [bZ (nown c b r)]; exact r) fun c xs r => by rw [bZ (ntup c xs r)]; exact r
   rcases hc with rfl | hc
   ·exact hbe
   ·rintro rfl
    rcases he with z | z
    ·exact nown c b hc z
    ·rw [hc] at z; cases z; exact hb rfl
end
structure Un (fs ex : List Addr) (H H' : Hp) (h h' : Heap) : Prop where
 keep : ∀ b o, h.get? b = some o -> H b = none -> b ∉ fs -> b ∉ ex -> h'.get? b = some o
 slot : ∀ b o, h.get? b = some o -> H b = none -> b ∈ fs -> b ∉ ex -> ∃ sl, h'.get? b = some { o with slots := sl }
 free : ∀ b o, h.get? b = some o -> H b = none -> b ∉ ex -> H' b = none
 there : ∀ b o, h.get? b = some o -> b ∉ ex -> ∃ o', h'.get? b = some o'
 tups : ∀ b xs, H b = some (.tup xs) -> H' b = some (.tup xs)
 frzs : ∀ b o u, H b = some (.frz o u) -> H' b = some (.frz o u)
 tbls : ∀ b ps, H b = some (.tbl ps) -> ∃ more, H' b = some (.tbl (ps ++ more))
section
variable {fs fs' ex ex' : List Addr} {H H1 H2 : Hp} {h h1 h2 h' : Heap} {a x e : Addr} {o : HO}
theorem Un.any (u : Un fs ex H H1 h h1) {b : Addr} {ob : Obj} (q : h.get? b = some ob) (n : H b = none) (hx : b ∉ ex) : ∃ sl, h1.get? b = some { ob with slots := sl } := by
 by_cases hb : b ∈ fs
 ·exact u.slot b ob q n hb hx
 ·exact ⟨ob.slots, u.keep b ob q n hb hx⟩
theorem Un.trans (a : Un fs ex H H1 h h1) (b : Un fs ex H1 H2 h1 h2) : Un fs ex H H2 h h2 where
 keep := fun c ob q n hc hx => b.keep c ob (a.keep c ob q n hc hx) (a.free c ob q n hx) hc hx
 slot := fun c ob q n hc hx => by
  obtain ⟨sl, e1⟩ := a.slot c ob q n hc hx
  obtain ⟨sl', e2⟩ := b.slot c _ e1 (a.free c ob q n hx) hc hx
  exact ⟨sl', e2⟩
 free := fun c ob q n hx => by
  obtain ⟨o', e1⟩ := a.there c ob q hx
  exact b.free c o' e1 (a.free c ob q n hx) hx
 there := fun c ob q hx => by
  obtain ⟨o', e1⟩ := a.there c ob q hx
  exact b.there c o' e1 hx
 tups := fun c xs q => b.tups c xs (a.tups c xs q)
 frzs := fun c ob xs q => b.frzs c ob xs (a.frzs c ob xs q)
 tbls := fun c ps q => by
  obtain ⟨m1, e1⟩ := a.tbls c ps q
  obtain ⟨m2, e2⟩ := b.tbls c _ e1
  exact ⟨m1 ++ m2, by rw [e2, Array.append_assoc]⟩
theorem Un.kept (k : ∀ b u, h.get? b = some u -> h'.get? b = some u) : Un fs ex H H h h' :=
 ⟨fun b ob q _ _ _ => k b ob q, fun b ob q _ _ _ => ⟨ob.slots, k b ob q⟩, fun _ _ _ n _ => n, fun b ob q _ => ⟨ob, k b ob q⟩, fun _ _ q => q, fun _ _ _ q => q, fun _ ps q => ⟨#[], by rw [q]; simp⟩⟩
theorem Un.refl : Un fs ex H H h h := Un.kept fun _ _ q => q
theorem Un.laid (k : ∀ b u, h.get? b = some u -> h'.get? b = some u) (hp : h.objs.size <= a) (hn : H a = none) : Un fs ex H (upd H a o) h h' where
 keep := fun b u q _ _ _ => k b u q
 slot := fun b u q _ _ _ => ⟨u.slots, k b u q⟩
 free := fun b u q n _ => by rw [bZ (Nat.ne_of_lt (Nat.lt_of_lt_of_le (Heap.lt_size q) hp))]; exact n
 there := fun b u q _ => ⟨u, k b u q⟩
 tups := fun b xs q => by rw [bZ (lA q hn)]; exact q
 frzs := fun b u xs q => by rw [bZ (lA q hn)]; exact q
 tbls := fun b ps q => ⟨#[], by rw [bZ (lA q hn), q]; simp⟩
theorem Un.write (mu : wB (H x)) (he : e = x \/ H e = some (.own x)) (k : ∀ b u, b ≠ e -> h.get? b = some u -> h'.get? b = some u) (heo : ∃ u, h'.get? e = some u) : Un fs ex H (upd H x o) h h' := by
 have hx : ∀ b, H b = none -> b ≠ x := fun b n z => by subst z; rw [n] at mu; exact mu
 have hb : ∀ b, H b = none -> b ≠ e := fun b n z => by
  subst z
  rcases he with r | r
  ·exact hx b n r
  ·rw [n] at r; cases r
 have hm : ∀ b u, H b = some u -> ¬ wB (some u) -> b ≠ x := fun b u q nm z => by subst z; rw [q] at mu; exact nm mu
 refine ⟨fun b u q n _ _ => k b u (hb b n) q, fun b u q n _ _ => ⟨u.slots, k b u (hb b n) q⟩, fun b u q n _ => by rw [bZ (hx b n)]; exact n, fun b u q _ => ?_,
  fun b xs q => by rw [bZ (hm b _ q fun z => z)]; exact q, fun b u xs q => by rw [bZ (hm b _ q fun z => z)]; exact q, fun b ps q => ⟨#[], by rw [bZ (hm b _ q fun z => z), q]; simp⟩⟩
 by_cases hbe : b = e
 ·subst hbe; exact heo
 ·exact ⟨u, k b u hbe q⟩
end
noncomputable def yJ (h : Heap) (H : Hp) : List Addr := (List.range h.objs.size).filter fun a => (H a).isSome
noncomputable def nB (h : Heap) (H : Hp) : Heap := W.hideAll h (yJ h H)
theorem cH2 (h : Heap) (H : Hp) : (nB h H).objs.size = h.objs.size := W.hideAll_size _ _
theorem cH3 {h : Heap} {H : Hp} {b : Addr} {o : Obj} (e : h.get? b = some o) (n : H b = none) : (nB h H).get? b = some o :=
 W.hideAll_get _ e fun hm => by
  have q : (H b).isSome = true := (List.mem_filter.mp hm).2
  rw [n] at q; simp at q
theorem cH4 {h : Heap} {H : Hp} {b : Addr} {o : Obj} (e : (nB h H).get? b = some o) : h.get? b = some o /\ H b = none := by
 have e' : h.get? b = some o := W.of_hideAll (yJ h H) e
 refine ⟨e', ?_⟩
 cases q : H b with
 | none => rfl
 | some x =>
  have hm : b ∈ yJ h H := List.mem_filter.mpr ⟨List.mem_range.mpr (Heap.lt_size e'), by simp [q]⟩
  have z : (nB h H).get? b = none := W.hideAll_none (yJ h H) hm
  rw [z] at e; cases e
end L2
namespace L2
open PySem PySem.Spec PyProof.Rows
structure Mod (K : W.Frag) (mg : Str -> Option Value) (base : Heap) : Prop where
 kin : K.In base
 glob : base.Ns mainGlobals mg
 blt : ∃ mb, base.Ns builtinsNs mb /\ ∀ x : Str, x ≠ "__name__" -> mb x = bootBuiltins x
 nolimit : base.NoLimit
structure Cx where
 prog : Program
 w : World
 K : W.Frag
 mg : Str -> Option Value
 base : Heap
 A : Around
 N : List Str
 s₀ : Shared
 H₀ : Hp
 env : Env
 outer : List Env
 stack : List Env
 ex : List Addr
 fn : Str -> Bool
 calm : Bool
 pn : List (Addr × Obj)
 xe : Value -> Shared -> Prop
noncomputable def kQ (l : List Env) : List Addr := l.filterMap (·.frame)
noncomputable abbrev Cx.fs (X : Cx) : List Addr := kQ X.outer
def Vis (sc : Scope) (x : Str) : Prop := sc.names.lookup x = some .local \/ sc.names.lookup x = some .cell \/ sc.names.lookup x = some .free
def Loc (sc : Scope) (x : Str) : Prop := sc.names.lookup x = some .local \/ sc.names.lookup x = some .cell
def cH5 (env : Env) (h : Heap) (m : Str -> Option Value) (x : Str) (u : Value) : Prop :=
 (env.kindOf x = some .local /\ m x = some u) \/ ((env.kindOf x = some .cell \/ env.kindOf x = some .free) /\ ∃ c, env.cells.lookup x = some c /\ h.IsCell c (some u))
structure Cx.Ok (X : Cx) : Prop where
 mod : Mod X.K X.mg X.base
 kind : X.env.scope.kind = .function
 glob : X.env.globals = mainGlobals
 blt : X.env.builtins = builtinsNs
 above : X.s₀.heap.objs.size <= X.env.locals
 inj : ∀ x y c, X.env.cells.lookup x = some c -> X.env.cells.lookup y = some c -> x = y
 has : ∀ x, (X.env.kindOf x = some .cell \/ X.env.kindOf x = some .free) -> ∃ c, X.env.cells.lookup x = some c
 cab : ∀ x c, X.fn x = true -> X.env.cells.lookup x = some c -> X.s₀.heap.objs.size <= c
 hd : X.calm = true -> X.A.handled = none
 frames : X.A.frames = some X.stack
 stk : X.stack = X.outer \/ (X.stack = X.env :: X.outer /\ X.env.frame = some X.env.locals)
 exf : ∀ b ∈ X.ex, b ≠ X.env.locals /\ ∀ x c, X.env.cells.lookup x = some c -> c ≠ b
 bs : ∀ b o, X.base.get? b = some o -> X.s₀.heap.get? b = some o /\ X.H₀ b = none
 bsz : X.base.objs.size <= X.s₀.heap.objs.size
 noex : ∀ b o, X.base.get? b = some o -> b ∉ X.ex
 exfs : ∀ b ∈ X.ex, b ∉ X.fs
 funs : X.s₀.heap.FunFrames X.base X.outer
 frf : ∀ b ∈ X.fs, X.H₀ b = none
structure Inv (X : Cx) (pins : List (Addr × Obj)) (σ : List (Option V)) (H : Hp) (s : Shared) : Prop where
 ok : X.Ok
 os : s.os = X.s₀.os
 bare : AllBare s.gens
 base : Un X.fs X.ex X.H₀ H X.s₀.heap s.heap
 loc : ∃ m, s.heap.Ns X.env.locals m /\ ∀ (i : Nat) (x : Str) (v : V), X.N[i]? = some x -> σ[i]? = some (some v) -> Vis X.env.scope x -> ∃ u, bW v u /\ cH5 X.env s.heap m x u
 cell : ∀ x c, X.env.cells.lookup x = some c -> ∃ v, s.heap.IsCell c v
 free : H X.env.locals = none
 freeC : ∀ x c, X.env.cells.lookup x = some c -> H c = none
 pin : ∀ p ∈ X.pn ++ pins, s.heap.get? p.1 = some p.2 /\ H p.1 = none /\ p.1 ≠ X.env.locals /\ p.1 ∉ X.fs /\ ∀ v, p.2.data ≠ .cell v
 hok : fE X.prog X.w H s.heap
 len : σ.length = X.N.length
section
variable {X : Cx} {pins : List (Addr × Obj)} {σ : List (Option V)} {H H' : Hp} {s : Shared} {h' : Heap}
theorem Cx.Ok.nofr (ok : X.Ok) {b : Addr} {o : Obj} (e : X.base.get? b = some o) : b ∉ X.fs := fun hb => by
 have := (ok.funs.mem hb).1
 rw [e] at this; cases this
theorem Inv.bs (I : Inv X pins σ H s) : ∀ b o, X.base.get? b = some o -> s.heap.get? b = some o /\ H b = none := fun b o e =>
 ⟨I.base.keep b o (I.ok.bs b o e).1 (I.ok.bs b o e).2 (I.ok.nofr e) (I.ok.noex b o e), I.base.free b o (I.ok.bs b o e).1 (I.ok.bs b o e).2 (I.ok.noex b o e)⟩
theorem Inv.bk (I : Inv X pins σ H s) : ∀ b o, X.base.get? b = some o -> s.heap.get? b = some o := fun b o e => (I.bs b o e).1
theorem Inv.mod (I : Inv X pins σ H s) : Mod X.K X.mg X.base := I.ok.mod
theorem Inv.kIn (I : Inv X pins σ H s) : X.K.In s.heap := I.ok.mod.kin.keeps I.bk
theorem Inv.nolimit (I : Inv X pins σ H s) : s.heap.NoLimit := I.ok.mod.nolimit.keeps I.bk
theorem Inv.lt (I : Inv X pins σ H s) : X.env.locals < s.heap.objs.size := let ⟨_, hn, _⟩ := I.loc; hn.lt
theorem Inv.sz (I : Inv X pins σ H s) : X.s₀.heap.objs.size <= s.heap.objs.size := Nat.le_trans I.ok.above (Nat.le_of_lt I.lt)
theorem Inv.nofs (I : Inv X pins σ H s) {a : Addr} (h : s.heap.objs.size <= a) : a ∉ X.fs := fun hb => by
 obtain ⟨_, o, ho, _⟩ := I.ok.funs.mem hb
 exact absurd (Nat.lt_of_lt_of_le (Heap.lt_size ho) (Nat.le_trans I.sz h)) (Nat.lt_irrefl _)
theorem Inv.cne (I : Inv X pins σ H s) : ∀ x c, X.env.cells.lookup x = some c -> c ≠ X.env.locals := fun x c e z => by
 obtain ⟨v, o, ho, hd⟩ := I.cell x c e
 obtain ⟨m, ⟨o', es, ep, ho', hd', _⟩, _⟩ := I.loc
 rw [z, ho'] at ho; cases ho; rw [hd'] at hd; cases hd
theorem Inv.funs (I : Inv X pins σ H s) : s.heap.FunFrames X.base X.outer := by
 have all : ∀ (l : List Env), (∀ b ∈ kQ l, b ∈ X.fs) -> X.s₀.heap.FunFrames X.base l -> s.heap.FunFrames X.base l := by
  intro l
  induction l with
  | nil => intro _ _; trivial
  | cons env r ih =>
   intro hs hl
   obtain ⟨hk, ⟨L, o, hf, hn, ho, hd⟩, hr⟩ := hl
   have hL : L ∈ X.fs := hs L (by unfold kQ; rw [List.filterMap_cons, hf]; exact List.mem_cons_self)
   obtain ⟨sl, e⟩ := I.base.slot L o ho (I.ok.frf L hL) hL fun z => I.ok.exfs L z hL
   exact ⟨hk, ⟨L, _, hf, hn, e, hd⟩, ih (fun b hb => hs b (by unfold kQ; rw [List.filterMap_cons, hf]; exact List.mem_cons_of_mem _ hb)) hr⟩
 exact all X.outer (fun _ hb => hb) I.ok.funs
theorem Inv.stack (I : Inv X pins σ H s) : s.heap.FunFrames X.base X.stack := by
 rcases I.ok.stk with e | ⟨e, hf⟩
 ·rw [e]; exact I.funs
 ·rw [e]
  obtain ⟨m, hn, _⟩ := I.loc
  refine .cons (by rw [I.ok.kind]; decide) hf hn ?_ I.funs
  exact Heap.get?_none_of_le (Nat.le_trans I.ok.bsz I.ok.above)
theorem Inv.stkSub (I : Inv X pins σ H s) : ∀ b ∈ kQ X.stack, b ∈ X.env.locals :: X.fs := fun b hb => by
 rcases I.ok.stk with e | ⟨e, hf⟩
 ·rw [e] at hb; exact List.mem_cons_of_mem _ hb
 ·rw [e] at hb
  unfold kQ at hb
  rw [List.filterMap_cons, hf] at hb
  exact hb
theorem Inv.stkFree (I : Inv X pins σ H s) : ∀ b ∈ kQ X.stack, H b = none := fun b hb => by
 rcases List.mem_cons.mp (I.stkSub b hb) with e | hb
 ·rw [e]; exact I.free
 ·obtain ⟨_, o, ho, _⟩ := I.ok.funs.mem hb
  exact I.base.free b o ho (I.ok.frf b hb) fun z => I.ok.exfs b z hb
theorem Inv.step {g' : Array GenState} {t' : Nat} {d' : Drawn} {ch : List Addr} (I : Inv X pins σ H s)
 (hch : ∀ b ∈ ch, (b ∈ X.ex \/ X.s₀.heap.objs.size <= b) /\ b ≠ X.env.locals /\ (∀ x c, X.env.cells.lookup x = some c -> c ≠ b) /\ ∀ p ∈ X.pn ++ pins, p.1 ≠ b)
 (keep : ∀ b o, b ≠ X.env.locals -> b ∉ X.fs -> b ∉ ch -> s.heap.get? b = some o -> H b = none -> h'.get? b = some o)
 (slot : ∀ b o, b ≠ X.env.locals -> b ∈ X.fs -> b ∉ ch -> s.heap.get? b = some o -> H b = none -> ∃ sl, h'.get? b = some { o with slots := sl }) (free : ∀ b o, b ∉ ch -> s.heap.get? b = some o -> H b = none -> H' b = none)
 (there : ∀ b o, b ∉ ch -> s.heap.get? b = some o -> ∃ o', h'.get? b = some o')
 (tups : ∀ b xs, H b = some (.tup xs) -> H' b = some (.tup xs)) (frzs : ∀ b o u, H b = some (.frz o u) -> H' b = some (.frz o u)) (tbls : ∀ b ps, H b = some (.tbl ps) -> ∃ more, H' b = some (.tbl (ps ++ more)))
 (ns : ∀ m, s.heap.Ns X.env.locals m -> h'.Ns X.env.locals m) (hok : fE X.prog X.w H' h') (hg : AllBare g') :
 Inv X pins σ H' { s with heap := h', gens := g', drawn := d', toks := t' } := by
 have neL : ∀ b o, X.s₀.heap.get? b = some o -> b ≠ X.env.locals := fun b o e => Nat.ne_of_lt (Nat.lt_of_lt_of_le (Heap.lt_size e) I.ok.above)
 have neC : ∀ b o, X.s₀.heap.get? b = some o -> b ∉ X.ex -> b ∉ ch := fun b o e hx hb => by
  rcases (hch b hb).1 with z | z
  ·exact hx z
  ·exact absurd (Nat.lt_of_lt_of_le (Heap.lt_size e) z) (Nat.lt_irrefl _)
 have cellK : ∀ x c, X.env.cells.lookup x = some c -> ∀ v, s.heap.IsCell c v -> h'.IsCell c v := fun x c e v ⟨o, ho, hd⟩ => by
  have nch : c ∉ ch := fun z => (hch c z).2.2.1 x c e rfl
  by_cases hc : c ∈ X.fs
  ·obtain ⟨sl, q⟩ := slot c o (I.cne x c e) hc nch ho (I.freeC x c e)
   exact ⟨_, q, hd⟩
  ·exact ⟨o, keep c o (I.cne x c e) hc nch ho (I.freeC x c e), hd⟩
 refine ⟨I.ok, I.os, hg, ⟨fun b o e n hb hx => ?_, fun b o e n hb hx => ?_, fun b o e n hx => ?_, fun b o e hx => ?_, fun b xs e => tups b xs (I.base.tups b xs e), fun b o xs e => frzs b o xs (I.base.frzs b o xs e), fun b ps e => ?_⟩, ?_, fun x c e => ?_, ?_, fun x c e => ?_, fun p hp => ?_, hok, I.len⟩
 ·exact keep b o (neL b o e) hb (neC b o e hx) (I.base.keep b o e n hb hx) (I.base.free b o e n hx)
 ·obtain ⟨sl, e1⟩ := I.base.slot b o e n hb hx
  obtain ⟨sl', e2⟩ := slot b _ (neL b o e) hb (neC b o e hx) e1 (I.base.free b o e n hx)
  exact ⟨sl', e2⟩
 ·obtain ⟨o', e1⟩ := I.base.there b o e hx
  exact free b o' (neC b o e hx) e1 (I.base.free b o e n hx)
 ·obtain ⟨o', e1⟩ := I.base.there b o e hx
  exact there b o' (neC b o e hx) e1
 ·obtain ⟨m1, e1⟩ := I.base.tbls b ps e
  obtain ⟨m2, e2⟩ := tbls b _ e1
  exact ⟨m1 ++ m2, by rw [e2, Array.append_assoc]⟩
 ·obtain ⟨m, hn, hl⟩ := I.loc
  refine ⟨m, ns m hn, fun i x v e1 e2 e3 => ?_⟩
  obtain ⟨u, r, l⟩ := hl i x v e1 e2 e3
  refine ⟨u, r, ?_⟩
  rcases l with l | ⟨k, c, e, z⟩
  ·exact .inl l
  ·exact .inr ⟨k, c, e, cellK x c e _ z⟩
 ·obtain ⟨v, z⟩ := I.cell x c e
  exact ⟨v, cellK x c e v z⟩
 ·obtain ⟨m, ⟨o, _, _, ho, _⟩, _⟩ := I.loc
  exact free _ o (fun z => (hch _ z).2.1 rfl) ho I.free
 ·obtain ⟨v, o, ho, hd⟩ := I.cell x c e
  exact free c o (fun z => (hch c z).2.2.1 x c e rfl) ho (I.freeC x c e)
 ·obtain ⟨e, n, ne, nf, d⟩ := I.pin p hp
  have nch : p.1 ∉ ch := fun z => (hch p.1 z).2.2.2 p hp rfl
  exact ⟨keep p.1 p.2 ne nf nch e n, free p.1 p.2 nch e n, ne, nf, d⟩
theorem Inv.un {t' : Nat} (I : Inv X pins σ H s) (u : Un X.fs [] H H' s.heap h') (hok : fE X.prog X.w H' h') : Inv X pins σ H' { s with heap := h', toks := t' } := by
 obtain ⟨m, ⟨o, es, ep, ho, r⟩, _⟩ := id I.loc
 obtain ⟨sl, hL⟩ := u.any ho I.free (by simp)
 exact I.step (g' := s.gens) (d' := s.drawn) (ch := []) (fun _ z => nomatch z) (fun b o _ hb _ e n => u.keep b o e n hb (by simp)) (fun b o _ hb _ e n => u.slot b o e n hb (by simp)) (fun b o _ e n => u.free b o e n (by simp)) (fun b o _ e => u.there b o e (by simp)) u.tups u.frzs u.tbls (fun m' hm => by
  obtain ⟨o', es', ep', ho', r'⟩ := hm
  rw [ho] at ho'; cases ho'
  exact ⟨_, es', ep', hL, r'⟩) hok I.bare
theorem Inv.call {g' : Array GenState} {t' : Nat} {d' : Drawn} {ch : List Addr} (I : Inv X pins σ H s) (u : Un (kQ X.stack) ch H H' s.heap h') (hok : fE X.prog X.w H' h') (hg : AllBare g')
 (hch : ∀ b ∈ ch, (b ∈ X.ex \/ X.s₀.heap.objs.size <= b) /\ b ≠ X.env.locals /\ (∀ x c, X.env.cells.lookup x = some c -> c ≠ b) /\ ∀ p ∈ X.pn ++ pins, p.1 ≠ b) :
 Inv X pins σ H' { s with heap := h', gens := g', drawn := d', toks := t' } := by
 obtain ⟨m, ⟨o, es, ep, ho, r⟩, _⟩ := id I.loc
 obtain ⟨sl, hL⟩ := u.any ho I.free fun z => (hch _ z).2.1 rfl
 exact I.step (ch := ch) hch (fun b o hL hb hc e n => u.keep b o e n (fun z => (List.mem_cons.mp (I.stkSub b z)).elim hL hb) hc) (fun b o _ _ hc e n => u.any e n hc) (fun b o hc e n => u.free b o e n hc) (fun b o hc e => u.there b o e hc) u.tups u.frzs u.tbls (fun m' hm => by
  obtain ⟨o', es', ep', ho', r'⟩ := hm
  rw [ho] at ho'; cases ho'
  exact ⟨_, es', ep', hL, r'⟩) hok hg
theorem Inv.turned {t' : Nat} {it : Addr} (I : Inv X pins σ H s) (k : ∀ b o, b ≠ it -> s.heap.get? b = some o -> h'.get? b = some o) (hn : H it = none) (hL : it ≠ X.env.locals)
 (h1 : it ∈ X.ex \/ X.s₀.heap.objs.size <= it) (h2 : ∀ x c, X.env.cells.lookup x = some c -> c ≠ it) (h3 : ∀ p ∈ X.pn ++ pins, p.1 ≠ it) : Inv X pins σ H { s with heap := h', toks := t' } := by
 have nit : ∀ b u, H b = some u -> b ≠ it := fun b u e z => by rw [z, hn] at e; cases e
 refine I.step (g' := s.gens) (d' := s.drawn) (ch := [it]) (fun b hb => ?_) (fun b o _ _ hc e _ => k b o (fun z => hc (by simp [z])) e) (fun b o _ _ hc e _ => ⟨o.slots, k b o (fun z => hc (by simp [z])) e⟩) (fun _ _ _ _ n => n)
  (fun b o hc e => ⟨o, k b o (fun z => hc (by simp [z])) e⟩) (fun _ _ e => e) (fun _ _ _ e => e) (fun b ps e => ⟨#[], by rw [e]; simp⟩) (fun m hm => ?_) (fun b u e => ?_) I.bare
 ·have e : b = it := by simpa using hb
  subst e
  exact ⟨h1, hL, h2, h3⟩
 ·obtain ⟨o, es, ep, ho, r⟩ := hm
  exact ⟨o, es, ep, k _ o (Ne.symm hL) ho, r⟩
 ·refine (I.hok b u e).stay (fun c v hc q => k c v ?_ q) (fun _ q => q) fun _ _ q => q
  rcases hc with z | z
  ·rw [z]; exact nit b u e
  ·exact nit c _ z
theorem Inv.tok (I : Inv X pins σ H s) (t : Nat) : Inv X pins σ H { s with toks := t } := I.un (h' := s.heap) (t' := t) Un.refl I.hok
theorem Inv.kept {t' : Nat} (I : Inv X pins σ H s) (k : ∀ b u, s.heap.get? b = some u -> h'.get? b = some u) : Inv X pins σ H { s with heap := h', toks := t' } := I.un (Un.kept k) (I.hok.kept k)
theorem Inv.laid {a : Addr} {o : HO} {t' : Nat} (I : Inv X pins σ H s) (k : ∀ b u, s.heap.get? b = some u -> h'.get? b = some u) (hp : s.heap.objs.size <= a) (new : fL X.prog X.w (upd H a o) h' a o) :
 Inv X pins σ (upd H a o) { s with heap := h', toks := t' } := I.un (Un.laid k hp (I.hok.fresh hp)) (I.hok.laid k hp new)
theorem Inv.write {x e : Addr} {o : HO} {t' : Nat} (I : Inv X pins σ H s) (mu : wB (H x)) (he : e = x \/ H e = some (.own x)) (k : ∀ b u, b ≠ e -> s.heap.get? b = some u -> h'.get? b = some u) (heo : ∃ u, h'.get? e = some u)
 (new : fL X.prog X.w (upd H x o) h' x o) : Inv X pins σ (upd H x o) { s with heap := h', toks := t' } := I.un (Un.write mu he k heo) (I.hok.write mu he k heo new)
theorem Inv.pins_of {pins' : List (Addr × Obj)} (I : Inv X pins σ H s) (h : ∀ p ∈ pins', s.heap.get? p.1 = some p.2 /\ H p.1 = none /\ p.1 ≠ X.env.locals /\ p.1 ∉ X.fs /\ ∀ v, p.2.data ≠ .cell v) : Inv X pins' σ H s :=
 ⟨I.ok, I.os, I.bare, I.base, I.loc, I.cell, I.free, I.freeC, fun p hp => (List.mem_append.mp hp).elim (fun z => I.pin p (List.mem_append_left _ z)) (h p), I.hok, I.len⟩
theorem bO0 {N : List Str} (hN : N.Nodup) {i j : Nat} {x : Str} (a : N[i]? = some x) (b : N[j]? = some x) : i = j := by
 obtain ⟨h1, e1⟩ := List.getElem?_eq_some_iff.mp a
 obtain ⟨h2, e2⟩ := List.getElem?_eq_some_iff.mp b
 exact (List.getElem_inj hN).mp (e1.trans e2.symm)
theorem bO1 {M : Model} {A : Around} {E : Value -> Shared -> Prop} {i : Nat} {x : Str} {v : V} {u : Value} {Q : Unit -> Shared -> Prop} (I : Inv X pins σ H s) (hN : X.N.Nodup) (hi : X.N[i]? = some x) (hx : Loc X.env.scope x) (r : bW v u)
 (h : ∀ s', Inv X pins (σ.set i (some v)) H s' -> (∃ a, Heap.SameBut a s.heap s'.heap /\ (a = X.env.locals \/ X.env.cells.lookup x = some a)) -> Q () s') (hf : X.fn x = true \/ X.env.scope.names.lookup x = some .local := by first | exact .inl rfl | exact .inr rfl | assumption) : wpAny M A (storeName X.env x u) Q E s := by
 obtain ⟨m, hn, hl⟩ := id I.loc
 have hcls : (X.env.scope.kind == .class || (X.env.scope.kind == .module && X.env.locals != X.env.globals)) = false := by rw [I.ok.kind]; rfl
 have hiσ : i < σ.length := by rw [I.len]; exact (List.getElem?_eq_some_iff.mp hi).1
 have cne := I.cne
 have tracked : ∀ {a : Addr} {h' : Heap}, (∃ o, s.heap.get? a = some o /\ H a = none) -> Heap.SameBut a s.heap h' -> fE X.prog X.w H h' := fun {a h'} ha hs b ob e => by
  obtain ⟨_, _, hfree⟩ := ha
  refine (I.hok b ob e).stay (fun c w' hc q => (hs.2 c ?_).trans q) (fun _ q => q) fun _ _ q => q
  rintro rfl
  rcases hc with rfl | hc
  ·rw [hfree] at e; cases e
  ·rw [hfree] at hc; cases hc
 rcases hx with hk | hk
 ·refine wpAny_storeName_local hk hn (fun h' hn' hs => ?_) hcls
  obtain ⟨oL, _, _, hoL, _⟩ := id hn
  refine h _ ⟨I.ok, I.os, I.bare, ⟨fun b o e n hb hx => ?_, fun b o e n hb hx => ?_, I.base.free, fun b o e hx => ?_, I.base.tups, I.base.frzs, I.base.tbls⟩, ⟨_, hn', fun j y v' e1 e2 e3 => ?_⟩, fun y c e => ?_, I.free, I.freeC, fun p hp => ?_, tracked ⟨oL, hoL, I.free⟩ hs, by simpa using I.len⟩ ⟨_, hs, .inl rfl⟩
  ·exact (hs.2 b (Nat.ne_of_lt (Nat.lt_of_lt_of_le (Heap.lt_size e) I.ok.above))).trans (I.base.keep b o e n hb hx)
  ·obtain ⟨sl, e1⟩ := I.base.slot b o e n hb hx
   exact ⟨sl, (hs.2 b (Nat.ne_of_lt (Nat.lt_of_lt_of_le (Heap.lt_size e) I.ok.above))).trans e1⟩
  ·obtain ⟨o', e1⟩ := I.base.there b o e hx
   exact ⟨o', (hs.2 b (Nat.ne_of_lt (Nat.lt_of_lt_of_le (Heap.lt_size e) I.ok.above))).trans e1⟩
  ·by_cases hj : j = i
   ·subst hj
    rw [hi] at e1; cases e1
    rw [List.getElem?_set_self hiσ] at e2
    cases e2
    exact ⟨u, r, .inl ⟨hk, by simp⟩⟩
   ·rw [List.getElem?_set_ne (Ne.symm hj)] at e2
    obtain ⟨u', r', q⟩ := hl j y v' e1 e2 e3
    refine ⟨u', r', ?_⟩
    rcases q with ⟨k, e⟩ | ⟨k, c, e, z⟩
    ·refine .inl ⟨k, ?_⟩
     have : y ≠ x := fun e => hj (bO0 hN e1 (e ▸ hi))
     simp [this, e]
    ·exact .inr ⟨k, c, e, z.sameBut hs (cne y c e)⟩
  ·obtain ⟨w', z⟩ := I.cell y c e
   exact ⟨w', z.sameBut hs (cne y c e)⟩
  ·obtain ⟨e, n, ne, nf, d⟩ := I.pin p hp
   exact ⟨(hs.2 p.1 ne).trans e, n, ne, nf, d⟩
 ·have hfn : X.fn x = true := by
   rcases hf with z | z
   ·exact z
   ·rw [z] at hk; cases hk
  obtain ⟨c, hc⟩ := I.ok.has x (.inl hk)
  obtain ⟨w', z⟩ := I.cell x c hc
  refine wpAny_storeName_cell I.ok.kind hk hc z (fun h' hc' hs => ?_)
  obtain ⟨oc, hoc, hocd⟩ := id z
  refine h { s with heap := h' } ⟨I.ok, I.os, I.bare, ⟨fun b o e n hb hx => ?_, fun b o e n hb hx => ?_, I.base.free, fun b o e hx => ?_, I.base.tups, I.base.frzs, I.base.tbls⟩, ⟨m, hn.sameBut hs (Ne.symm (cne x c hc)), fun j y v' e1 e2 e3 => ?_⟩, fun y c' e => ?_, I.free, I.freeC, fun p hp => ?_, tracked ⟨oc, hoc, I.freeC x c hc⟩ hs, by simpa using I.len⟩ ⟨c, hs, .inr hc⟩
  ·exact (hs.2 b (Nat.ne_of_lt (Nat.lt_of_lt_of_le (Heap.lt_size e) (I.ok.cab x c hfn hc)))).trans (I.base.keep b o e n hb hx)
  ·obtain ⟨sl, e1⟩ := I.base.slot b o e n hb hx
   exact ⟨sl, (hs.2 b (Nat.ne_of_lt (Nat.lt_of_lt_of_le (Heap.lt_size e) (I.ok.cab x c hfn hc)))).trans e1⟩
  ·obtain ⟨o', e1⟩ := I.base.there b o e hx
   exact ⟨o', (hs.2 b (Nat.ne_of_lt (Nat.lt_of_lt_of_le (Heap.lt_size e) (I.ok.cab x c hfn hc)))).trans e1⟩
  ·by_cases hj : j = i
   ·subst hj
    rw [hi] at e1; cases e1
    rw [List.getElem?_set_self hiσ] at e2
    cases e2
    exact ⟨u, r, .inr ⟨.inl hk, c, hc, hc'⟩⟩
   ·rw [List.getElem?_set_ne (Ne.symm hj)] at e2
    obtain ⟨u', r', q⟩ := hl j y v' e1 e2 e3
    refine ⟨u', r', ?_⟩
    rcases q with q | ⟨k, c', e, z'⟩
    ·exact .inl q
    ·refine .inr ⟨k, c', e, z'.sameBut hs ?_⟩
     rintro rfl
     exact hj (bO0 hN e1 (I.ok.inj _ _ _ e hc ▸ hi))
  ·by_cases hcc : c' = c
   ·subst hcc; exact ⟨_, hc'⟩
   ·obtain ⟨w2, z2⟩ := I.cell y c' e
    exact ⟨w2, z2.sameBut hs hcc⟩
  ·obtain ⟨e, n, ne, nf, d⟩ := I.pin p hp
   refine ⟨(hs.2 p.1 ?_).trans e, n, ne, nf, d⟩
   intro q
   rw [q, hoc] at e
   have q' : oc = p.2 := Option.some.inj e
   exact d w' (by rw [<- q']; exact hocd)
theorem bO2 {M : Model} {A : Around} {E : Value -> Shared -> Prop} {i : Nat} {x : Str} {v : V} {u : Value} {Q : Unit -> Shared -> Prop} (I : Inv X pins σ H s) (hN : X.N.Nodup) (hi : X.N[i]? = some x) (hx : Loc X.env.scope x) (r : bW v u)
 (h : ∀ s', Inv X pins (σ.set i (some v)) H s' -> Q () s') (hf : X.fn x = true \/ X.env.scope.names.lookup x = some .local := by first | exact .inl rfl | exact .inr rfl | assumption) : wpAny M A (storeName X.env x u) Q E s :=
 bO1 I hN hi hx r (fun s' I' _ => h s' I') hf
theorem Inv.call' {s' : Shared} {ch : List Addr} (I : Inv X pins σ H s) (ho : s'.os = s.os) (u : Un (kQ X.stack) ch H H' s.heap s'.heap) (hok : fE X.prog X.w H' s'.heap) (hg : AllBare s'.gens)
 (hch : ∀ b ∈ ch, (b ∈ X.ex \/ X.s₀.heap.objs.size <= b) /\ b ≠ X.env.locals /\ (∀ x c, X.env.cells.lookup x = some c -> c ≠ b) /\ ∀ p ∈ X.pn ++ pins, p.1 ≠ b) : Inv X pins σ H' s' := by
 obtain ⟨h', g', d', t', o'⟩ := s'
 have e : o' = s.os := ho
 subst e
 exact I.call (g' := g') (t' := t') (d' := d') u hok hg hch
end
noncomputable abbrev XK := Value -> Option Addr -> Hp -> Prop
noncomputable abbrev St := List (Option V)
noncomputable abbrev VK := V -> Hp -> Prop
noncomputable abbrev TE := St -> Hp -> VK -> Prop
noncomputable abbrev TT := St -> Hp -> (Bool -> Hp -> Prop) -> Prop
noncomputable abbrev TA := St -> Hp -> (List V -> Hp -> Prop) -> Prop
structure lM where
 nx : St -> Hp -> Prop
 rt : VK
 bk : St -> Hp -> Prop := fun _ _ => False
 ct : St -> Hp -> Prop := fun _ _ => False
noncomputable abbrev TS := lM -> St -> Hp -> Prop
def EP (X : Cx) (pins : List (Addr × Obj)) (σ : St) (Q : VK) (u : Value) (s' : Shared) : Prop := ∃ v H', Inv X pins σ H' s' /\ bW v u /\ Q v H'
def TP (X : Cx) (pins : List (Addr × Obj)) (σ : St) (Q : Bool -> Hp -> Prop) (b : Bool) (s' : Shared) : Prop := ∃ H', Inv X pins σ H' s' /\ Q b H'
def AP (X : Cx) (pins : List (Addr × Obj)) (σ : St) (Q : List V -> Hp -> Prop) (us : List Value) (s' : Shared) : Prop := ∃ vs H', Inv X pins σ H' s' /\ cG vs us /\ Q vs H'
def SP (X : Cx) (pins : List (Addr × Obj)) (D : lM) (f : Flow) (s' : Shared) : Prop :=
 match f with
 | .next => ∃ σ' H', Inv X pins σ' H' s' /\ D.nx σ' H'
 | .brk => ∃ σ' H', Inv X pins σ' H' s' /\ D.bk σ' H'
 | .cont => ∃ σ' H', Inv X pins σ' H' s' /\ D.ct σ' H'
 | .ret u => ∃ v σ' H', Inv X pins σ' H' s' /\ bW v u /\ D.rt v H'
def PE (X : Cx) (e : Expr) (t : TE) : Prop :=
 ∀ (pins : List (Addr × Obj)) (s : Shared) (σ : St) (H : Hp) (Q : VK), Inv X pins σ H s -> t σ H Q -> wpAny (model X.prog X.w) X.A (eval e X.env) (EP X pins σ Q) X.xe s
def PT (X : Cx) (e : Expr) (t : TT) : Prop :=
 ∀ (pins : List (Addr × Obj)) (s : Shared) (σ : St) (H : Hp) (Q : Bool -> Hp -> Prop), Inv X pins σ H s -> t σ H Q -> wpAny (model X.prog X.w) X.A (isTrue e X.env (eval e X.env)) (TP X pins σ Q) X.xe s
def PW (X : Cx) (e : Expr) (t : TT) : Prop :=
 ∀ (whole : Sem Value) (pins : List (Addr × Obj)) (s : Shared) (σ : St) (H : Hp) (Q : Bool -> Hp -> Prop), Inv X pins σ H s -> t σ H Q -> wpAny (model X.prog X.w) X.A (isTrue e X.env whole) (TP X pins σ Q) X.xe s
theorem PW.pt {X : Cx} {e : Expr} {t : TT} (h : PW X e t) : PT X e t := h _
def PA (X : Cx) (es : List Expr) (t : TA) : Prop :=
 ∀ (pos : Pos) (pins : List (Addr × Obj)) (s : Shared) (σ : St) (H : Hp) (Q : List V -> Hp -> Prop), Inv X pins σ H s -> t σ H Q -> wpAny (model X.prog X.w) X.A (spliced (backTo pos (starEach es X.env))) (AP X pins σ Q) X.xe s
def PS (X : Cx) (st : Stmt) (t : TS) : Prop :=
 ∀ (pins : List (Addr × Obj)) (s : Shared) (σ : St) (H : Hp) (D : lM), Inv X pins σ H s -> t D σ H -> wpAny (model X.prog X.w) X.A (exec st X.env) (SP X pins D) X.xe s
def jR (X : Cx) (st : List Stmt) (t : TS) : Prop :=
 ∀ (pins : List (Addr × Obj)) (s : Shared) (σ : St) (H : Hp) (D : lM), Inv X pins σ H s -> t D σ H -> wpAny (model X.prog X.w) X.A (execs st X.env) (SP X pins D) X.xe s
theorem cH {α : Type} {t : Sem α} {Q Q' : α -> Shared -> Prop} {M : Model} {A : Around} {E : Value -> Shared -> Prop} {s : Shared} (h : wpAny M A t Q E s) (hQ : ∀ a s, Q a s -> Q' a s) : wpAny M A t Q' E s := wpAny_mono h hQ fun _ _ x => x
end L2
namespace L2
open PySem PySem.Spec PyProof.Rows
section
variable {X : Cx}
noncomputable def yK (i : Nat) : TE := fun σ H Q => ∃ v, σ[i]? = some (some v) /\ Q v H
noncomputable def tC (v : V) : TE := fun _ H Q => Q v H
theorem jC {i : Nat} {x : Str} {pos : Pos} (hN : X.N[i]? = some x) (hv : Vis X.env.scope x) (hd : (x == ("__debug__" : Str)) = false := by decide) (hcd : (x == ("__classdict__" : Str)) = false := by decide) : PE X (.Name x pos) (yK i) := by
 intro pins s σ H Q I h
 obtain ⟨v, e, h⟩ := h
 obtain ⟨m, hn, hl⟩ := I.loc
 obtain ⟨u, r, l⟩ := hl i x v hN e hv
 have fin : EP X pins σ Q u s := ⟨v, H, I, r, h⟩
 rcases l with ⟨hk, hm⟩ | ⟨hk, c, hc, hcell⟩
 ·exact wpAny_Name (wpAny_loadName_local I.ok.kind hk hn hm fin) hd
 ·rcases hk with hk | hk
  ·exact wpAny_Name (wpAny_loadName_cell I.ok.kind hk hc hcell fin) hd
  ·exact wpAny_Name (wpAny_loadName_free I.ok.kind hk hc hcell fin hcd) hd
theorem cH6 {i j pos} : PE X (.Constant (.int i) j pos) (tC (.int i)) := fun _ _ _ H _ I h => wpAny_Constant_int ⟨.int i, H, I.tok _, ⟨_, rfl⟩, h⟩
theorem cH7 {b j pos} : PE X (.Constant (.bool b) j pos) (tC (.bl b)) := fun _ _ _ H _ I h => Constant_bool ⟨.bl b, H, I, rfl, h⟩
theorem cH8 {j pos} : PE X (.Constant .none j pos) (tC .non) := fun _ _ _ H _ I h => Constant_none ⟨.non, H, I, rfl, h⟩
theorem cH9 {x j pos} : PE X (.Constant (.str x) j pos) (tC (.str x)) := fun _ _ _ H _ I h => Calls.Constant_str ⟨.str x, H, I.tok _, ⟨_, rfl⟩, h⟩
def Gl (X : Cx) (x : Str) : Prop := X.env.kindOf x = some .globalImplicit
theorem bO3 {E : Value -> Shared -> Prop} {pins : List (Addr × Obj)} {s : Shared} {σ : St} {H : Hp} {x : Str} {u : Value} {pos : Pos} {Q : Value -> Shared -> Prop} (I : Inv X pins σ H s) (hg : Gl X x) (hm : X.mg x = some u) (h : Q u s)
 (hd : (x == ("__debug__" : Str)) = false := by decide) : wpAny (model X.prog X.w) X.A (eval (.Name x pos) X.env) Q E s :=
 Calls.Name_function_global I.ok.kind hg (Calls.loadGlobal_global (by rw [I.ok.glob]; exact I.mod.glob.keeps I.bk) hm h) hd
theorem wC {E : Value -> Shared -> Prop} {pins : List (Addr × Obj)} {s : Shared} {σ : St} {H : Hp} {x : Str} {u : Value} {pos : Pos} {Q : Value -> Shared -> Prop} (I : Inv X pins σ H s) (hg : Gl X x) (hm : X.mg x = none) (hv : bootBuiltins x = some u) (h : Q u s)
 (hn : x ≠ "__name__" := by decide) (hd : (x == ("__debug__" : Str)) = false := by decide) : wpAny (model X.prog X.w) X.A (eval (.Name x pos) X.env) Q E s := by
 obtain ⟨mb, h1, h2⟩ := I.mod.blt
 exact Calls.Name_function_global I.ok.kind hg (Calls.loadGlobal_builtin (by rw [I.ok.glob]; exact I.mod.glob.keeps I.bk) hm (by rw [I.ok.blt]; exact h1.keeps I.bk) ((h2 x hn).trans hv) h) hd
theorem cI0 {x : Str} {v : V} {u : Value} {pos : Pos} (hg : Gl X x) (hm : X.mg x = some u) (r : bW v u) (hd : (x == ("__debug__" : Str)) = false := by decide) : PE X (.Name x pos) (tC v) :=
 fun _ _ _ H _ I h => bO3 I hg hm ⟨v, H, I, r, h⟩ hd
theorem cI1 {x : Str} {v : V} {u : Value} {pos : Pos} (hg : Gl X x) (hm : X.mg x = none) (hv : bootBuiltins x = some u) (r : bW v u) (hn : x ≠ "__name__" := by decide) (hd : (x == ("__debug__" : Str)) = false := by decide) : PE X (.Name x pos) (tC v) :=
 fun _ _ _ H _ I h => wC I hg hm hv ⟨v, H, I, r, h⟩ hn hd
variable {a b : Expr} {ta tb : TE} {pos : Pos}
def PC (X : Cx) (op : CmpOp) (a b : Expr) (t : TE) : Prop :=
 ∀ (pins : List (Addr × Obj)) (s : Shared) (σ : St) (H : Hp) (Q : VK), Inv X pins σ H s -> t σ H Q ->
   wpAny (model X.prog X.w) X.A (eval a X.env) (fun v s₁ => wpAny (model X.prog X.w) X.A (eval b X.env) (fun u s₂ => wpAny (model X.prog X.w) X.A (compareOp op v u) (EP X pins σ Q) X.xe s₂) X.xe s₁) X.xe s
theorem cI2 (b : Expr) {op : CmpOp} (h : op ≠ .In) (h2 : op ≠ .NotIn) : behindInMarks op b = false := by
 have e1 : (op == CmpOp.In) = false := by cases op <;> first | rfl | exact absurd rfl h
 have e2 : (op == CmpOp.NotIn) = false := by cases op <;> first | rfl | exact absurd rfl h2
 cases b <;> simp [behindInMarks, e1, e2]
noncomputable def tB (t : TE) : TT := fun σ H Q => t σ H fun x H1 => ∃ c, x = .bl c /\ Q c H1
theorem bO4 {op : CmpOp} {t : TE} (h : PC X op a b t) (h1 : behindInMarks op b = false := by first | exact cI2 _ (by decide) (by decide) | rfl) : PT X (.Compare a [op] [b] pos) (tB t) := by
 intro pins s σ H Q I hw
 refine wpAny_isTrue_Compare1 (cH (h pins s σ H _ I hw) fun v s1 h1 => cH h1 fun u s2 h2 => cH h2 fun c s3 ⟨x, H1, I1, r1, q1⟩ => ?_) h1
 obtain ⟨d, rfl, q⟩ := q1
 cases r1
 exact wpAny_truthy_bool ⟨H1, I1, q⟩
variable {tA tB' : TT} {rest : List Expr}
noncomputable def cI3 (t u : TT) : TT := fun σ H Q => t σ H fun c H1 => if c = true then u σ H1 Q else Q false H1
noncomputable def tOr (t u : TT) : TT := fun σ H Q => t σ H fun c H1 => if c = true then Q true H1 else u σ H1 Q
theorem cI5 (ha : PT X a tA) : PW X (.BoolOp .And [a] pos) tA := by
 intro wh pins s σ H Q I h
 refine isTrue_and (cH (ha pins s σ H Q I h) fun c s1 e => ?_)
 cases c with
 | true => exact isTrue_and_nil e
 | false => exact e
theorem cI6 (ha : PT X a tA) : PW X (.BoolOp .Or [a] pos) tA := by
 intro wh pins s σ H Q I h
 refine isTrue_or (cH (ha pins s σ H Q I h) fun c s1 e => ?_)
 cases c with
 | false => exact isTrue_or_nil e
 | true => exact e
theorem cI7 (ha : PT X a tA) (hb : PW X (.BoolOp .And (b :: rest) pos) tB') : PW X (.BoolOp .And (a :: b :: rest) pos) (cI3 tA tB') := by
 intro wh pins s σ H Q I h
 refine isTrue_and (cH (ha pins s σ H _ I h) fun c s1 ⟨H1, I1, q1⟩ => ?_)
 cases c with
 | true => exact hb wh pins s1 σ H1 Q I1 q1
 | false => exact ⟨H1, I1, q1⟩
theorem cI8 (ha : PT X a tA) (hb : PW X (.BoolOp .Or (b :: rest) pos) tB') : PW X (.BoolOp .Or (a :: b :: rest) pos) (tOr tA tB') := by
 intro wh pins s σ H Q I h
 refine isTrue_or (cH (ha pins s σ H _ I h) fun c s1 ⟨H1, I1, q1⟩ => ?_)
 cases c with
 | true => exact ⟨H1, I1, q1⟩
 | false => exact hb wh pins s1 σ H1 Q I1 q1
noncomputable def cI9 (ta tb : TE) : TE := fun σ H Q => ta σ H fun x H1 => ∃ c, x = .bl c /\ if c = true then tb σ H1 Q else Q (.bl false) H1
noncomputable def cJ0 (ta tb : TE) : TE := fun σ H Q => ta σ H fun x H1 => ∃ c, x = .bl c /\ if c = true then Q (.bl true) H1 else tb σ H1 Q
theorem cJ1 {op} {t : TE} (h : PE X a t) : PE X (.BoolOp op [a] pos) t := fun pins s σ H Q I hw => BoolOp_one (h pins s σ H Q I hw)
theorem cJ2 (ha : PE X a ta) (hb : PE X (.BoolOp .And (b :: rest) pos) tb) : PE X (.BoolOp .And (a :: b :: rest) pos) (cI9 ta tb) := by
 intro pins s σ H Q I h
 refine BoolOp_and (cH (ha pins s σ H _ I h) fun v s1 ⟨x, H1, I1, r1, q1⟩ => ?_)
 obtain ⟨c, rfl, q1⟩ := q1
 cases r1
 refine wpAny_truthy_bool ?_
 cases c with
 | true => exact hb pins s1 σ H1 Q I1 q1
 | false => exact ⟨.bl false, H1, I1, rfl, q1⟩
theorem cJ3 (ha : PE X a ta) (hb : PE X (.BoolOp .Or (b :: rest) pos) tb) : PE X (.BoolOp .Or (a :: b :: rest) pos) (cJ0 ta tb) := by
 intro pins s σ H Q I h
 refine BoolOp_or (cH (ha pins s σ H _ I h) fun v s1 ⟨x, H1, I1, r1, q1⟩ => ?_)
 obtain ⟨c, rfl, q1⟩ := q1
 cases r1
 refine wpAny_truthy_bool ?_
 cases c with
 | false => exact hb pins s1 σ H1 Q I1 q1
 | true => exact ⟨.bl true, H1, I1, rfl, q1⟩
noncomputable def tIf (t : TT) (ta tb : TE) : TE := fun σ H Q => t σ H fun c H1 => if c = true then ta σ H1 Q else tb σ H1 Q
theorem cJ5 {c : Expr} (hc : PT X c tA) (ha : PE X a ta) (hb : PE X b tb) : PE X (.IfExp c a b pos) (tIf tA ta tb) := by
 intro pins s σ H Q I h
 refine wpAny_IfExp (cH (hc pins s σ H _ I h) fun d s1 ⟨H1, I1, q1⟩ => ?_)
 cases d with
 | true => exact ha pins s1 σ H1 Q I1 q1
 | false => exact hb pins s1 σ H1 Q I1 q1
end
end L2
namespace L2
open PySem PySem.Spec PyProof.Rows
def dN (K : W.Frag) (H : Hp) (a : Addr) (xs : List V) : Prop :=
 Rd H a (.lst xs) \/
  ∃ (o : Obj) (its : Array Value) (n : Nat), K.lookup a = some o /\ o.cls = .type "list" /\ o.dict = none /\ o.data = .seq its n /\ its.size <= sizeLine /\ cG xs its.toList
def fB (K : W.Frag) (H : Hp) (a : Addr) (xs : List V) : Prop :=
 Rd H a (.tup xs) \/
  ∃ (o : Obj) (its : Array Value) (n : Nat), K.lookup a = some o /\ (o.cls = .type "tuple" /\ o.dict = none) /\ o.data = .seq its n /\ its.size <= sizeLine /\ cG xs its.toList
noncomputable def cJ6 : Value -> Option V
 | .none => some .non
 | .bool b => some (.bl b)
 | .int i _ => some (.int i)
 | .str x _ => some (.str x)
 | .bytes b _ => some (.byt b)
 | .float b _ => some (.flt b)
 | .ref a => some (.ref a)
 | .type n => some (.ty n)
 | _ => none
theorem bW.abs {x : V} {u : Value} (r : bW x u) : cJ6 u = some x := by
 cases x with
 | non => cases r; rfl
 | bl _ => cases r; rfl
 | int _ => obtain ⟨t, rfl⟩ := r; rfl
 | str _ => obtain ⟨t, rfl⟩ := r; rfl
 | byt _ => obtain ⟨t, rfl⟩ := r; rfl
 | flt _ => obtain ⟨t, rfl⟩ := r; rfl
 | ref _ => cases r; rfl
 | ty _ => cases r; rfl
theorem bW.inj {x y : V} {u : Value} (r : bW x u) (q : bW y u) : x = y := Option.some.inj (r.abs.symm.trans q.abs)
theorem cG.inj : ∀ {xs ys : List V} {us : List Value}, cG xs us -> cG ys us -> xs = ys
 | _, _, _, .nil, .nil => rfl
 | _, _, _, .cons r t, .cons r' t' => by rw [r.inj r', cG.inj t t']
section
variable {X : Cx} {pins : List (Addr × Obj)} {σ : St} {H : Hp} {s : Shared} {a : Addr} {xs ys : List V}
theorem dN.of {K : W.Frag} (h : H a = some (.lst xs)) : dN K H a xs := .inl (.inl h)
theorem fB.of {K : W.Frag} (h : H a = some (.tup xs)) : fB K H a xs := .inl (.inl h)
theorem Inv.list (I : Inv X pins σ H s) (h : dN X.K H a xs) : ∃ its : List Value, cG xs its /\ PlainL s.heap a its.toArray /\ xs.length <= sizeLine := by
 rcases h with h | ⟨o, its, n, hk, hc, hd, hs, hz, r⟩
 ·obtain ⟨z, its, n, r, e⟩ := h.ok I.hok
  exact ⟨its, r, ⟨_, n, e, rfl, rfl, rfl⟩, z⟩
 ·refine ⟨its.toList, r, ⟨o, n, I.kIn a o hk, hc, hd, by simpa using hs⟩, ?_⟩
  have e := r.length
  simp only [Array.length_toList] at e
  omega
theorem Inv.tupleN (I : Inv X pins σ H s) (h : fB X.K H a xs) : ∃ its : List Value, cG xs its /\ lL s.heap a its.toArray /\ xs.length <= sizeLine := by
 rcases h with h | ⟨o, its, n, hk, hc, hs, hz, r⟩
 ·obtain ⟨z, its, r, p⟩ := h.ok I.hok
  exact ⟨its, r, p, z⟩
 ·refine ⟨its.toList, r, ⟨o, I.kIn a o hk, hc, n, by simpa using hs⟩, ?_⟩
  have e := r.length
  simp only [Array.length_toList] at e
  omega
theorem Inv.tuple (I : Inv X pins σ H s) (h : fB X.K H a xs) : ∃ its : List Value, cG xs its /\ IsTup s.heap a its.toArray /\ xs.length <= sizeLine := let ⟨its, r, p, z⟩ := I.tupleN h; ⟨its, r, p.tup, z⟩
theorem Inv.list_inj (I : Inv X pins σ H s) (h : dN X.K H a xs) (h' : dN X.K H a ys) : xs = ys := by
 obtain ⟨its, r, ⟨o, n, e, _, _, d⟩, _⟩ := I.list h
 obtain ⟨its', r', ⟨o', n', e', _, _, d'⟩, _⟩ := I.list h'
 rw [e] at e'; cases e'
 rw [d] at d'
 injection d' with d1 _
 have : its = its' := by simpa using congrArg Array.toList d1
 subst this
 exact r.inj r'
theorem Inv.tuple_inj (I : Inv X pins σ H s) (h : fB X.K H a xs) (h' : fB X.K H a ys) : xs = ys := by
 obtain ⟨its, r, ⟨o, e, _, n, d⟩, _⟩ := I.tuple h
 obtain ⟨its', r', ⟨o', e', _, n', d'⟩, _⟩ := I.tuple h'
 rw [e] at e'; cases e'
 rw [d] at d'
 injection d' with d1 _
 have : its = its' := by simpa using congrArg Array.toList d1
 subst this
 exact r.inj r'
end
noncomputable abbrev Cx.wish (X : Cx) (E : Value -> Shared -> Prop) : Cx := { X with xe := E }
noncomputable abbrev Cx.nox (X : Cx) : Cx := X.wish fun _ _ => False
theorem Cx.Ok.wish {X : Cx} (ok : X.Ok) (E : Value -> Shared -> Prop) : (X.wish E).Ok :=
 ⟨ok.mod, ok.kind, ok.glob, ok.blt, ok.above, ok.inj, ok.has, ok.cab, ok.hd, ok.frames, ok.stk, ok.exf, ok.bs, ok.bsz, ok.noex, ok.exfs, ok.funs, ok.frf⟩
theorem Cx.Ok.unwish {X : Cx} {E : Value -> Shared -> Prop} (ok : (X.wish E).Ok) : X.Ok :=
 ⟨ok.mod, ok.kind, ok.glob, ok.blt, ok.above, ok.inj, ok.has, ok.cab, ok.hd, ok.frames, ok.stk, ok.exf, ok.bs, ok.bsz, ok.noex, ok.exfs, ok.funs, ok.frf⟩
section
variable {X : Cx} {pins : List (Addr × Obj)} {σ : St} {H : Hp} {s : Shared} {E : Value -> Shared -> Prop}
theorem Inv.wish (I : Inv X pins σ H s) (E : Value -> Shared -> Prop) : Inv (X.wish E) pins σ H s := ⟨I.ok.wish E, I.os, I.bare, I.base, I.loc, I.cell, I.free, I.freeC, I.pin, I.hok, I.len⟩
theorem Inv.unwish (I : Inv (X.wish E) pins σ H s) : Inv X pins σ H s := ⟨I.ok.unwish, I.os, I.bare, I.base, I.loc, I.cell, I.free, I.freeC, I.pin, I.hok, I.len⟩
theorem SP.unwish {D : lM} {f : Flow} {s' : Shared} (h : SP (X.wish E) pins D f s') : SP X pins D f s' := by
 cases f with
 | next => obtain ⟨σ', H', I, q⟩ := h; exact ⟨σ', H', I.unwish, q⟩
 | brk => obtain ⟨σ', H', I, q⟩ := h; exact ⟨σ', H', I.unwish, q⟩
 | cont => obtain ⟨σ', H', I, q⟩ := h; exact ⟨σ', H', I.unwish, q⟩
 | ret u => obtain ⟨v, σ', H', I, r, q⟩ := h; exact ⟨v, σ', H', I.unwish, r, q⟩
theorem jR.nox {st : List Stmt} {t : TS} (h : jR X.nox st t) : jR X st t := fun pins s σ H D I hw =>
 wpAny_mono (h pins s σ H D (I.wish _) hw) (fun _ _ q => q.unwish) fun _ _ z => False.elim z
end
section
variable {X : Cx} {st : Stmt} {rest : List Stmt} {t u : TS} {e : Expr} {te : TE} {pos : Pos}
noncomputable def cJ7 : TS := fun D σ H => D.nx σ H
noncomputable def cJ8 (t u : TS) : TS := fun D σ H => t { D with nx := u D } σ H
theorem bO5 : jR X [] cJ7 := fun _ _ σ H _ I h => wpAny_execs_nil ⟨σ, H, I, h⟩
theorem cJ9 (h1 : PS X st t) (h2 : jR X rest u) : jR X (st :: rest) (cJ8 t u) := by
 intro pins s σ H D I h
 refine wpAny_execs_cons (cH (h1 pins s σ H { D with nx := u D } I h) fun f s1 q => ?_)
 cases f with
 | next =>
  obtain ⟨σ', H', I', q⟩ := q
  exact h2 pins s1 σ' H' D I' q
 | ret v => exact q
 | brk => exact q
 | cont => exact q
theorem cK0 (h1 : PS X st t) : jR X [st] t := by
 intro pins s σ H D I h
 refine wpAny_execs_cons (cH (h1 pins s σ H D I h) fun f s1 q => ?_)
 cases f with
 | next => exact wpAny_execs_nil q
 | ret v => exact q
 | brk => exact q
 | cont => exact q
theorem Inv.quiet {pins : List (Addr × Obj)} {σ : St} {H : Hp} {s : Shared} (I : Inv X pins σ H s) : interactive X.env = false := by simp [interactive, I.ok.kind]
noncomputable def tDrop (te : TE) : TS := fun D σ H => te σ H fun _ H1 => D.nx σ H1
theorem cK1 (he : PE X e te) (hs : swapsWith e none pos.line X.env = pure false := by rfl) : PS X (.Expr e pos) (tDrop te) := by
 intro pins s σ H D I h
 exact wpAny_Expr_any (cH (he pins s σ H _ I h) fun v s1 ⟨x, H1, I1, r1, q1⟩ => ⟨σ, H1, I1, q1⟩) I.quiet hs
noncomputable def cK2 (te : TE) : TS := fun D σ H => te σ H D.rt
theorem wD (he : PE X e te) : PS X (.Return (some e) pos) (cK2 te) := by
 intro pins s σ H D I h
 exact wpAny_Return_some (cH (he pins s σ H _ I h) fun v s1 ⟨x, H1, I1, r1, q1⟩ => ⟨x, σ, H1, I1, r1, q1⟩)
noncomputable def cK3 (c : TT) (t u : TS) : TS := fun D σ H => c σ H fun b H1 => if b = true then t D σ H1 else u D σ H1
theorem bO6 {c : Expr} {a b : List Stmt} {tc : TT} (hc : PT X c tc) (ha : jR X a t) (hb : jR X b u) : PS X (.If c a b pos) (cK3 tc t u) := by
 intro pins s σ H D I h
 refine wpAny_If (cH (hc pins s σ H _ I h) fun d s1 ⟨H1, I1, q1⟩ => ?_)
 cases d with
 | true => exact ha pins s1 σ H1 D I1 q1
 | false => exact hb pins s1 σ H1 D I1 q1
end
noncomputable abbrev TG := V -> St -> Hp -> (St -> Hp -> Prop) -> Prop
noncomputable abbrev qJ := List V -> St -> Hp -> (St -> Hp -> Prop) -> Prop
def PG (X : Cx) (target : Expr) (t : TG) : Prop :=
 ∀ (pins : List (Addr × Obj)) (s : Shared) (σ : St) (H : Hp) (v : V) (u : Value) (Q : St -> Hp -> Prop), Inv X pins σ H s -> bW v u -> t v σ H Q ->
   wpAny (model X.prog X.w) X.A (assign target X.env u) (fun _ s' => ∃ σ' H', Inv X pins σ' H' s' /\ Q σ' H') X.xe s
def yL (X : Cx) (ts : List Expr) (t : qJ) : Prop :=
 ∀ (pins : List (Addr × Obj)) (s : Shared) (σ : St) (H : Hp) (vs : List V) (us : List Value) (Q : St -> Hp -> Prop), Inv X pins σ H s -> cG vs us -> t vs σ H Q ->
   wpAny (model X.prog X.w) X.A (assignInOrder ((assignEach ts X.env).map (·.2)) us) (fun _ s' => ∃ σ' H', Inv X pins σ' H' s' /\ Q σ' H') X.xe s
section
variable {X : Cx} {pos : Pos}
noncomputable def kG (i : Nat) : TG := fun v σ H Q => Q (σ.set i (some v)) H
theorem fY {i : Nat} {x : Str} (hN : X.N.Nodup) (hi : X.N[i]? = some x) (hx : Loc X.env.scope x) (hf : X.fn x = true \/ X.env.scope.names.lookup x = some .local := by first | exact .inl rfl | exact .inr rfl | assumption) : PG X (.Name x pos) (kG i) := by
 intro pins s σ H v u Q I r h
 exact wpAny_assign_Name (bO2 I hN hi hx r (fun s' I' => ⟨_, H, I', h⟩) hf)
noncomputable def sI : qJ := fun vs σ H Q => vs = [] /\ Q σ H
noncomputable def lW (t : TG) (u : qJ) : qJ := fun vs σ H Q => ∃ v r, vs = v :: r /\ t v σ H fun σ' H' => u r σ' H' Q
theorem bD8 : yL X [] sI := by
 intro pins s σ H vs us Q I r h
 obtain ⟨e, h⟩ := h
 subst e
 cases r
 exact assignInOrder_nil ⟨σ, H, I, h⟩
theorem nC {e : Expr} {es : List Expr} {t : TG} {u : qJ} (h1 : PG X e t) (h2 : yL X es u)
 (hs : (assignEach (e :: es) X.env).map (·.2) = assign e X.env :: (assignEach es X.env).map (·.2) := by rfl) : yL X (e :: es) (lW t u) := by
 intro pins s σ H vs us Q I r h
 obtain ⟨v, vr, e1, h⟩ := h
 subst e1
 cases r with
 | cons r rr =>
  rw [hs]
  refine assignInOrder_cons (cH (h1 pins s σ H _ _ _ I r h) fun _ s1 ⟨σ1, H1, I1, q1⟩ => ?_)
  exact h2 pins s1 σ1 H1 _ _ Q I1 rr q1
noncomputable def sJ (K : W.Frag) (n : Nat) (t : qJ) : TG := fun v σ H Q => ∃ a xs, v = .ref a /\ fB K H a xs /\ xs.length = n /\ t xs σ H Q
theorem bD9 {es : List Expr} {k : Nat} {t : qJ} {n : Nat} (hc : X.calm = true) (h : yL X es t)
 (hn : (assignEach es X.env).length = n := by rfl) (hst : (assignEach es X.env).findIdx? (·.1) = none := by rfl) : PG X (.Tuple es k pos) (sJ X.K n t) := by
 intro pins s σ H v u Q I r hw
 obtain ⟨a, xs, e1, hq, hl, hw⟩ := hw
 subst e1
 cases r
 obtain ⟨its, rv, ht, hz⟩ := I.tuple hq
 refine assign_Tuple_tuple (I.ok.hd hc) ht (by simp [hn, <- hl, rv.length]) hst fun h' hx => ?_
 have I1 : Inv X pins σ H { s with heap := h' } := I.kept (t' := s.toks) fun b o e => hx b o (Nat.ne_of_lt (Heap.lt_size e)) e
 exact h pins _ σ H xs _ Q I1 (by simpa using rv) hw
noncomputable def wE (te : TE) (g : TG) : TS := fun D σ H => te σ H fun x H1 => g x σ H1 D.nx
theorem bO7 {tg e : Expr} {te : TE} {g : TG} (he : PE X e te) (hg : PG X tg g) (hs : swapsWithSole [tg] e pos.line X.env = pure false := by rfl) (hw : swappedStores [tg] e X.env = pure none := by rfl)
 (h1 : (assignEach [tg] X.env).map (·.2) = [assign tg X.env] := by rfl) : PS X (.Assign [tg] e pos) (wE te g) := by
 intro pins s σ H D I h
 refine wpAny_Assign_stores (cH (he pins s σ H _ I h) fun v s1 ⟨x, H1, I1, r1, q1⟩ => ?_) hs hw
 rw [h1]
 exact cH (hg pins s1 σ H1 x v _ I1 r1 q1) fun _ s2 q => q
theorem pB {i : Nat} {x : Str} {e : Expr} {te : TE} {pos' : Pos} (hN : X.N.Nodup) (hi : X.N[i]? = some x) (hx : Loc X.env.scope x) (he : PE X e te) (hs : swapsWith e (some (.Name x pos')) pos.line X.env = pure false := by rfl) (hf : X.fn x = true \/ X.env.scope.names.lookup x = some .local := by first | exact .inl rfl | exact .inr rfl | assumption) :
 PS X (.Assign [.Name x pos'] e pos) (wE te (kG i)) := by
 intro pins s σ H D I h
 refine wpAny_Assign_Name (cH (he pins s σ H _ I h) fun v s1 ⟨y, H1, I1, r1, q1⟩ => ?_) hs
 exact bO2 I1 hN hi hx r1 (fun s2 I2 => ⟨_, H1, I2, q1⟩) hf
end
section
variable {X : Cx} {pos : Pos}
end
structure It where
 go : Nat -> Hp -> Prop
 yld : Nat -> Hp -> V -> Hp -> Prop
 stop : Nat -> Hp -> Prop
def jS (X : Cx) (pins : List (Addr × Obj)) (H : Hp) (b : Addr) : Prop :=
 H b = none /\ b ≠ X.env.locals /\ b ∉ X.fs /\ (b ∈ X.ex \/ X.s₀.heap.objs.size <= b) /\ (∀ x c, X.env.cells.lookup x = some c -> c ≠ b) /\ ∀ p ∈ X.pn ++ pins, p.1 ≠ b
theorem Inv.fpOk {X : Cx} {pins : List (Addr × Obj)} {σ : St} {H H' : Hp} {s : Shared} {b : Addr} (I : Inv X pins σ H s) (hb : s.heap.objs.size <= b) (hn : H' b = none) : jS X pins H' b := by
 refine ⟨hn, Nat.ne_of_gt (Nat.lt_of_lt_of_le I.lt hb), I.nofs hb, .inr (Nat.le_trans I.sz hb), fun x c e z => ?_, fun p hp z => ?_⟩
 ·obtain ⟨v, q⟩ := I.cell x c e
  exact absurd (Nat.lt_of_lt_of_le q.lt (by rw [z]; exact hb)) (Nat.lt_irrefl _)
 ·exact absurd (Nat.lt_of_lt_of_le (Heap.lt_size (I.pin p hp).1) (by rw [z]; exact hb)) (Nat.lt_irrefl _)
structure nD (P : Program) (w : World) (K : W.Frag) (tg : Expr) (J : It) (fp : List Addr) (it : Addr) (tn : Nat -> Heap -> Prop) : Prop where
 mem : it ∈ fp
 obj : ∀ i h, tn i h -> ∀ b ∈ fp, ∃ o, h.get? b = some o /\ ∀ v, o.data ≠ .cell v
 keep : ∀ i h h', tn i h -> (∀ b ∈ fp, ∀ o, h.get? b = some o -> h'.get? b = some o) -> tn i h'
 item : ∀ (X : Cx), X.prog = P -> X.w = w -> X.K = K -> X.calm = true -> ∀ (i : Nat) (pins : List (Addr × Obj)) (s : Shared) (σ : St) (H : Hp) (E : Value -> Shared -> Prop), Inv X pins σ H s -> (∀ b ∈ fp, jS X pins H b) -> tn i s.heap -> J.go i H ->
  wpAny (model P w) X.A (pyNext (.ref it)) (fun r s1 => ∃ u, r = some u /\
   wpAny (model P w) X.A (letOwnedTupleGo tg (.ref it) u) (fun _ s2 => ∃ x H', Inv X pins σ H' s2 /\ bW x u /\ J.yld i H x H' /\ tn (i + 1) s2.heap /\ ∀ b ∈ fp, H' b = none) E s1) E s
 done : ∀ (X : Cx), X.prog = P -> X.w = w -> X.K = K -> X.calm = true -> ∀ (i : Nat) (pins : List (Addr × Obj)) (s : Shared) (σ : St) (H : Hp) (E : Value -> Shared -> Prop), Inv X pins σ H s -> (∀ b ∈ fp, jS X pins H b) -> tn i s.heap -> J.stop i H ->
  wpAny (model P w) X.A (pyNext (.ref it)) (fun r s1 => r = none /\ Inv X pins σ H s1) E s
 self : ∀ (A : Around) (i : Nat) (s : Shared) (Q : Value -> Shared -> Prop) (E : Value -> Shared -> Prop), tn i s.heap -> Q (.ref it) s -> wpAny (model P w) A (pyIter (.ref it)) Q E s
noncomputable abbrev TI := St -> Hp -> (It -> Hp -> Prop) -> Prop
def PIE (X : Cx) (pins : List (Addr × Obj)) (σ : St) (tg : Expr) (R : It -> Hp -> Prop) (itv : Value) (s2 : Shared) : Prop :=
 ∃ (it : Addr) (fp : List Addr) (tn : Nat -> Heap -> Prop) (J : It) (H' : Hp), itv = .ref it /\ Inv X pins σ H' s2 /\ nD X.prog X.w X.K tg J fp it tn /\ tn 0 s2.heap /\ (∀ b ∈ fp, jS X pins H' b) /\ R J H'
def PI (X : Cx) (tg iter : Expr) (wi : TI) : Prop :=
 ∀ (pins : List (Addr × Obj)) (s : Shared) (σ : St) (H : Hp) (R : It -> Hp -> Prop), Inv X pins σ H s -> wi σ H R ->
   wpAny (model X.prog X.w) X.A (eval iter X.env) (fun v s1 => wpAny (model X.prog X.w) X.A (pyIter v) (PIE X pins σ tg R) X.xe s1) X.xe s
theorem sK {M : Model} {A : Around} {E : Value -> Shared -> Prop} {s : Shared} {tg : Expr} {it : Addr} {u : Value} {o : Obj} {n : String} {vs : Array Value} {Q : Unit -> Shared -> Prop} (ho : s.heap.get? it = some o) (hc : o.cls = .type n) (hd : o.data = .fields vs)
 (hn : ["enumerate", "zip", "dict_itemiterator", "dict_reverseitemiterator", "odict_iterator", "itertools.zip_longest", "itertools.pairwise"].contains n = false) (hQ : Q () s) : wpAny M A (letOwnedTupleGo tg (.ref it) u) Q E s := by
 unfold letOwnedTupleGo
 cases tg <;> first
  | exact wpAny_pure hQ
  | (cases u <;> first
      | exact wpAny_pure hQ
      | (refine wpAny_bind (wpAny_load ho ?_)
         rw [hc, hd]
         show wpAny M A (if (["enumerate", "zip", "dict_itemiterator", "dict_reverseitemiterator", "odict_iterator", "itertools.zip_longest", "itertools.pairwise"].contains n && vs[0]? == some (rawInt _)) = true then _ else _) Q E s
         rw [if_neg (by intro h; rw [hn, Bool.false_and] at h; cases h)]
         exact wpAny_pure hQ))
noncomputable def Itl (K : W.Frag) (a : Addr) : It :=
 ⟨fun i H => ∃ xs x, dN K H a xs /\ xs[i]? = some x, fun i H x H' => H' = H /\ ∀ xs, dN K H a xs -> xs[i]? = some x, fun i H => ∃ xs, dN K H a xs /\ xs.length <= i⟩
noncomputable def Itt (K : W.Frag) (a : Addr) : It :=
 ⟨fun i H => ∃ xs x, fB K H a xs /\ xs[i]? = some x, fun i H x H' => H' = H /\ ∀ xs, fB K H a xs -> xs[i]? = some x, fun i H => ∃ xs, fB K H a xs /\ xs.length <= i⟩
noncomputable def yM (lo : Int) (n : Nat) : It := ⟨fun i _ => i < n, fun i H x H' => H' = H /\ x = .int (lo + i), fun i _ => n <= i⟩
theorem cK4 {P : Program} {w : World} {K : W.Frag} {tg : Expr} (a it : Addr) : nD P w K tg (Itl K a) [it] it (fun i h => h.IsListIter it a i) where
 mem := by simp
 obj := fun i h st b hb => by
  have e : b = it := by simpa using hb
  subst e
  obtain ⟨o, e, c, d⟩ := st
  exact ⟨o, e, fun v z => by rw [d] at z; cases z⟩
 keep := fun i h h' st k => st.at fun o e => k it (by simp) o e
 item := by
  intro X hP hw hK hc i pins s σ H E I hf st hg
  subst hP hw hK
  obtain ⟨xs, x, hq, hx⟩ := hg
  obtain ⟨its, rv, p, hz⟩ := I.list hq
  obtain ⟨u, hu, ru⟩ := rv.get hx
  obtain ⟨f0, f1, f2, f3, f4, f5⟩ := hf it (by simp)
  refine wpAny_pyNext_list_item st p.isList (x := u) (by simpa using hu) fun h' st' sb => ?_
  have I1 : Inv X pins σ H { s with heap := h' } := I.turned (t' := s.toks) (fun b o hb e => (sb.2 b hb).trans e) f0 f1 f3 f4 f5
  obtain ⟨o, e, c, d⟩ := id st'
  exact ⟨u, rfl, sK (s := { s with heap := h' }) e c d (by decide) ⟨x, H, I1, ru, ⟨rfl, fun ys hy => by rw [I.list_inj hy hq]; exact hx⟩, st', fun b hb => (hf b hb).1⟩⟩
 done := by
  intro X hP hw hK hc i pins s σ H E I hf st hg
  subst hP hw hK
  obtain ⟨xs, hq, hx⟩ := hg
  obtain ⟨its, rv, p, hz⟩ := I.list hq
  obtain ⟨f0, f1, f2, f3, f4, f5⟩ := hf it (by simp)
  have hl := rv.length
  exact wpAny_pyNext_list_end (I.ok.hd hc) st p.isList (by simp; omega) fun h' eb => ⟨rfl, I.turned (t' := s.toks) (fun b o hb e => eb b o hb e) f0 f1 f3 f4 f5⟩
 self := fun _ _ _ _ _ st h => wpAny_pyIter_listiter st h
theorem cK5 {P : Program} {w : World} {K : W.Frag} {tg : Expr} (a it : Addr) : nD P w K tg (Itt K a) [it] it (fun i h => h.IsTupleIter it a i) where
 mem := by simp
 obj := fun i h st b hb => by
  have e : b = it := by simpa using hb
  subst e
  obtain ⟨o, e, c, d⟩ := st
  exact ⟨o, e, fun v z => by rw [d] at z; cases z⟩
 keep := fun i h h' st k => st.at fun o e => k it (by simp) o e
 item := by
  intro X hP hw hK hc i pins s σ H E I hf st hg
  subst hP hw hK
  obtain ⟨xs, x, hq, hx⟩ := hg
  obtain ⟨its, rv, p, hz⟩ := I.tuple hq
  obtain ⟨u, hu, ru⟩ := rv.get hx
  obtain ⟨f0, f1, f2, f3, f4, f5⟩ := hf it (by simp)
  refine wpAny_pyNext_tuple_item st (show s.heap.IsTuple a its.toArray from p) (x := u) (by simpa using hu) fun h' st' sb => ?_
  have I1 : Inv X pins σ H { s with heap := h' } := I.turned (t' := s.toks) (fun b o hb e => (sb.2 b hb).trans e) f0 f1 f3 f4 f5
  obtain ⟨o, e, c, d⟩ := id st'
  exact ⟨u, rfl, sK (s := { s with heap := h' }) e c d (by decide) ⟨x, H, I1, ru, ⟨rfl, fun ys hy => by rw [I.tuple_inj hy hq]; exact hx⟩, st', fun b hb => (hf b hb).1⟩⟩
 done := by
  intro X hP hw hK hc i pins s σ H E I hf st hg
  subst hP hw hK
  obtain ⟨xs, hq, hx⟩ := hg
  obtain ⟨its, rv, p, hz⟩ := I.tuple hq
  obtain ⟨f0, f1, f2, f3, f4, f5⟩ := hf it (by simp)
  have hl := rv.length
  exact wpAny_pyNext_tuple_end (I.ok.hd hc) st (show s.heap.IsTuple a its.toArray from p) (by simp; omega) fun h' eb => ⟨rfl, I.turned (t' := s.toks) (fun b o hb e => eb b o hb e) f0 f1 f3 f4 f5⟩
 self := fun _ _ _ _ _ st h => wpAny_pyIter_tupleiter st h
theorem cK6 {P : Program} {w : World} {K : W.Frag} {tg : Expr} (it : Addr) (lo : Int) (n : Nat) : nD P w K tg (yM lo n) [it] it (fun i h => IsRangeIter h it (lo + (i : Nat) * 1) ((n : Int) - (i : Nat)) 1) where
 mem := by simp
 obj := fun i h st b hb => by
  have e : b = it := by simpa using hb
  subst e
  exact ⟨_, st, fun v z => by
   have z' : Data.fields _ = Data.cell v := z
   cases z'⟩
 keep := fun i h h' st k => k it (by simp) _ st
 item := by
  intro X hP hw hK hc i pins s σ H E I hf st hg
  subst hP hw hK
  obtain ⟨f0, f1, f2, f3, f4, f5⟩ := hf it (by simp)
  have W := Walks.range (prog := X.prog) (w := X.w) (I.ok.hd hc) it lo 1 n
  refine W.item i s _ _ hg st fun v h' tk hv st' kk => ?_
  obtain ⟨t, rfl⟩ := hv
  have I1 : Inv X pins σ H { s with heap := h', toks := tk } := I.turned (fun b o hb e => kk b o (by simpa using hb) e) f0 f1 f3 f4 f5
  refine ⟨_, rfl, sK (s := { s with heap := h', toks := tk }) (n := "range_iterator") st' rfl rfl (by decide) ⟨.int (lo + i), H, I1, ⟨t, ?_⟩, ⟨rfl, rfl⟩, st', fun b hb => (hf b hb).1⟩⟩
  rw [Int.mul_one]
 done := by
  intro X hP hw hK hc i pins s σ H E I hf st hg
  subst hP hw hK
  obtain ⟨f0, f1, f2, f3, f4, f5⟩ := hf it (by simp)
  exact wpAny_pyNext_range_end (I.ok.hd hc) st (by have : n <= i := hg; omega) fun h' eb => ⟨rfl, I.turned (t' := s.toks) (fun b o hb e => eb b o hb e) f0 f1 f3 f4 f5⟩
 self := fun _ _ _ _ _ st h => wpAny_pyIter_rangeiter st h
end L2
namespace L2
open PySem PySem.Spec PyProof.Rows
section
variable {X : Cx} {tg : Expr}
theorem cK7 {pins : List (Addr × Obj)} {σ : St} {H : Hp} {s : Shared} {R : It -> Hp -> Prop} {E : Value -> Shared -> Prop} {lo hi : Int} {t u v : Tok} {tk : Nat} (I : Inv X pins σ H s) (h1 : -(2 ^ 62) <= lo) (h2 : lo < 2 ^ 62) (h3 : -(2 ^ 62) <= hi) (h4 : hi < 2 ^ 62)
 (q : R (yM lo (hi - lo).toNat) H) : wpAny (model X.prog X.w) X.A (pyIter (.ref s.heap.objs.size)) (PIE X pins σ tg R) E { s with heap := s.heap.push { cls := .type "range", data := .fields #[.int lo t, .int hi u, .int 1 v] }, toks := tk } := by
 refine wpAny_pyIter_range (IsRange.new ..) (small_one h1 h2 h3 h4) ?_
 have I1 : Inv X pins σ H { s with heap := s.heap.push { cls := .type "range", data := .fields #[.int lo t, .int hi u, .int 1 v] }, toks := tk } := I.kept fun b o e => Heap.get?_push_of_some _ e
 refine ⟨(s.heap.push { cls := .type "range", data := .fields #[.int lo t, .int hi u, .int 1 v] }).objs.size, [(s.heap.push { cls := .type "range", data := .fields #[.int lo t, .int hi u, .int 1 v] }).objs.size], _, _, H, rfl,
  I1.kept (t' := tk) fun b o e => Heap.get?_push_of_some _ e, cK6 _ lo (hi - lo).toNat, ?_, fun b hb => ?_, q⟩
 ·have e1 : lo + ((0 : Nat) : Int) * 1 = lo := by simp
  have e2 : (((hi - lo).toNat : Nat) : Int) - ((0 : Nat) : Int) = Builtin.Range.rangeSize lo hi 1 := by rw [rangeSize_one]; split <;> omega
  show IsRangeIter _ _ (lo + ((0 : Nat) : Int) * 1) ((((hi - lo).toNat : Nat) : Int) - ((0 : Nat) : Int)) 1
  rw [e1, e2]
  exact Heap.get?_push_size _ rfl
 ·have e : b = (s.heap.push { cls := .type "range", data := .fields #[.int lo t, .int hi u, .int 1 v] }).objs.size := by simpa using hb
  subst e
  exact I1.fpOk (Nat.le_refl _) (I1.hok.fresh (Nat.le_refl _))
noncomputable def cK8 (ta : TA) : TI := fun σ H R => ta σ H fun vs H1 => ∃ j : Int, vs = [.int j] /\ -(2 ^ 62) <= j /\ j < 2 ^ 62 /\ R (yM 0 j.toNat) H1
theorem cK9 {a : Expr} {ta : TA} {p pos : Pos} (hg : Gl X "range") (hm : X.mg "range" = none) (ha : PA X [a] ta) (hs : starEach [a] X.env = [(false, eval a X.env)] := by rfl) : PI X tg (.Call (.Name "range" p) [a] [] pos) (cK8 ta) := by
 intro pins s σ H R I h
 refine Call_ (wC I hg hm boot_range (PyProof.Rows.callWith_type1 (cH (ha pos pins s σ H _ I h) fun us s1 ⟨vs, H1, I1, r1, q1⟩ => ?_) hs rfl))
 obtain ⟨j, e, q1, q2, q⟩ := q1
 subst e
 cases r1 with
 | cons r rr =>
  cases rr
  obtain ⟨t, rfl⟩ := r
  exact call_range_1 (cK7 I1 bE bE q1 q2 (by simpa using q))
noncomputable def cL0 (wi : TI) (g : TG) (tb : TS) : TS := fun D σ H => wi σ H fun J H1 => ∃ W : Nat -> Nat -> St -> Hp -> Prop, (∃ m, W 0 m σ H1) /\ ∀ i m σ H, W i m σ H ->
 (J.stop i H /\ D.nx σ H) \/ (J.go i H /\ ∃ N : St -> Hp -> Prop, (∀ σ' H', N σ' H' -> ∃ m', m' < m /\ W (i + 1) m' σ' H') /\ ∀ x H', J.yld i H x H' -> g x σ H' fun σ2 H2 => tb { D with nx := N, ct := N, bk := D.nx } σ2 H2)
noncomputable def wF (fp : List Addr) (h : Heap) : List (Addr × Obj) := fp.filterMap fun b => (h.get? b).map fun o => (b, o)
theorem yN {fp : List Addr} {h : Heap} {b : Addr} {o : Obj} (hb : b ∈ fp) (e : h.get? b = some o) : (b, o) ∈ wF fp h := List.mem_filterMap.mpr ⟨b, hb, by rw [e]; rfl⟩
theorem cL1 {fp : List Addr} {h : Heap} {p : Addr × Obj} (hp : p ∈ wF fp h) : p.1 ∈ fp /\ h.get? p.1 = some p.2 := by
 obtain ⟨b, hb, e⟩ := List.mem_filterMap.mp hp
 cases q : h.get? b with
 | none => rw [q] at e; cases e
 | some o =>
  rw [q] at e
  have e' : (b, o) = p := Option.some.inj e
  subst e'
  exact ⟨hb, q⟩
theorem Inv.pinned {pins : List (Addr × Obj)} {σ : St} {H : Hp} {s : Shared} {fp : List Addr} (I : Inv X pins σ H s) (hf : ∀ b ∈ fp, jS X pins H b) (ho : ∀ b ∈ fp, ∃ o, s.heap.get? b = some o /\ ∀ v, o.data ≠ .cell v) : Inv X (pins ++ wF fp s.heap) σ H s :=
 I.pins_of fun p hp => (List.mem_append.mp hp).elim (fun z => I.pin p (List.mem_append_right _ z)) fun z => by
  obtain ⟨hb, e⟩ := cL1 z
  obtain ⟨f0, f1, f2, _⟩ := hf p.1 hb
  obtain ⟨o, e', d⟩ := ho p.1 hb
  rw [e] at e'; cases e'
  exact ⟨e, f0, f1, f2, d⟩
theorem Inv.unpinned {pins pl : List (Addr × Obj)} {σ : St} {H : Hp} {s : Shared} (I : Inv X (pins ++ pl) σ H s) : Inv X pins σ H s := I.pins_of fun p hp => I.pin p (List.mem_append_right _ (List.mem_append_left _ hp))
theorem bP1 {iter : Expr} {body : List Stmt} {wi : TI} {g : TG} {tb : TS} {pos : Pos} (hp : PassesOwn (model X.prog X.w) X.A X.env X.xe) (hc : X.calm = true) (hi : PI X tg iter wi) (hg : PG X tg g) (hb : jR X body tb)
 (hs : ∀ x, foldedSetIterable iter X.env x = pure x := by intro _; rfl) : PS X (.For tg iter body [] pos) (cL0 wi g tb) := by
 intro pins s σ H D I h
 refine wpAny_For (cH (hi pins s σ H _ I h) fun v s1 h1 => cH h1 fun itv s2 h2 => ?_) hs
 obtain ⟨it, fp, tn, J, H2, e, I2, T, st2, f2, W, ⟨m0, w0⟩, turn⟩ := h2
 subst e
 have stat : ∀ {H' : Hp}, (∀ b ∈ fp, H' b = none) -> ∀ b ∈ fp, jS X pins H' b := fun hn b hb => ⟨hn b hb, (f2 b hb).2⟩
 refine codeAny_forLoop_any (fun n s' => ∃ i σ' H', Inv X pins σ' H' s' /\ tn i s'.heap /\ (∀ b ∈ fp, H' b = none) /\ W i n σ' H') ?_ m0 ⟨0, σ, H2, I2, st2, fun b hb => (f2 b hb).1, w0⟩
 rintro n s3 ⟨i, σ3, H3, I3, st3, fr3, w3⟩
 rcases turn i n σ3 H3 w3 with ⟨stop, qn⟩ | ⟨go, N, hN, step⟩
 ·refine wpAny_passesOwn hp (cH (T.done X rfl rfl rfl hc i pins s3 σ3 H3 X.xe I3 (stat fr3) st3 stop) fun r s4 ⟨hr, I4⟩ => ?_)
  subst hr
  exact wpAny_execs_nil ⟨σ3, H3, I4, qn⟩
 ·refine wpAny_passesOwn hp (cH (T.item X rfl rfl rfl hc i pins s3 σ3 H3 X.xe I3 (stat fr3) st3 go) fun r s4 ⟨u, hr, h4⟩ => ?_)
  subst hr
  refine wpAny_passesOwn hp (cH h4 fun _ s5 ⟨x, H5, I5, r5, y5, st5, fr5⟩ => ?_)
  have I5' := I5.pinned (stat fr5) (T.obj _ _ st5)
  refine wpAny_passesOwn hp (cH (hg _ s5 σ3 H5 x u _ I5' r5 (step x H5 y5)) fun _ s6 ⟨σ6, H6, I6, q6⟩ => ?_)
  refine wpAny_passesOwn hp (cH (hb _ s6 σ6 H6 _ I6 q6) fun f s7 q7 => ?_)
  have again : ∀ {σ7 : St} {H7 : Hp}, Inv X (pins ++ wF fp s5.heap) σ7 H7 s7 -> N σ7 H7 -> ∃ m, m < n /\ ∃ i σ' H', Inv X pins σ' H' s7 /\ tn i s7.heap /\ (∀ b ∈ fp, H' b = none) /\ W i m σ' H' := fun {σ7 H7} I7 n7 => by
   obtain ⟨m', hm, w7⟩ := hN σ7 H7 n7
   refine ⟨m', hm, i + 1, σ7, H7, I7.unpinned, T.keep _ _ _ st5 fun b hb o e => (I7.pin (b, o) (List.mem_append_right _ (List.mem_append_right _ (yN hb e)))).1, fun b hb => ?_, w7⟩
   obtain ⟨o, e, d⟩ := T.obj _ _ st5 b hb
   exact (I7.pin (b, o) (List.mem_append_right _ (List.mem_append_right _ (yN hb e)))).2.1
  cases f with
  | next => obtain ⟨σ7, H7, I7, n7⟩ := q7; exact again I7 n7
  | cont => obtain ⟨σ7, H7, I7, n7⟩ := q7; exact again I7 n7
  | brk => obtain ⟨σ7, H7, I7, q7⟩ := q7; exact ⟨σ7, H7, I7.unpinned, q7⟩
  | ret v => obtain ⟨x7, σ7, H7, I7, r7, q7⟩ := q7; exact ⟨x7, σ7, H7, I7.unpinned, r7, q7⟩
end
end L2
namespace L2
open PySem PySem.Spec PyProof.Rows
noncomputable abbrev R2 := V -> V -> Hp -> VK -> Prop
def cT (X : Cx) (f : Value -> Value -> Sem Value) (r : R2) : Prop :=
 ∀ (pins : List (Addr × Obj)) (s : Shared) (σ : St) (H : Hp) (x y : V) (v u : Value) (Q : VK), Inv X pins σ H s -> bW x v -> bW y u -> r x y H Q ->
   wpAny (model X.prog X.w) X.A (f v u) (EP X pins σ Q) X.xe s
def wG (X : Cx) (f : Value -> Sem Value) (r : V -> Hp -> VK -> Prop) : Prop :=
 ∀ (pins : List (Addr × Obj)) (s : Shared) (σ : St) (H : Hp) (x : V) (v : Value) (Q : VK), Inv X pins σ H s -> bW x v -> r x H Q ->
   wpAny (model X.prog X.w) X.A (f v) (EP X pins σ Q) X.xe s
def fZ (X : Cx) (f : Value) (r : List V -> Hp -> VK -> Prop) : Prop :=
 ∀ (pins : List (Addr × Obj)) (s : Shared) (σ : St) (H : Hp) (xs : List V) (us : List Value) (Q : VK), Inv X pins σ H s -> cG xs us -> r xs H Q ->
   wpAny (model X.prog X.w) X.A (call f us) (EP X pins σ Q) X.xe s
def cL2 (X : Cx) (r : V -> Hp -> (Bool -> Hp -> Prop) -> Prop) : Prop :=
 ∀ (pins : List (Addr × Obj)) (s : Shared) (σ : St) (H : Hp) (x : V) (v : Value) (Q : Bool -> Hp -> Prop), Inv X pins σ H s -> bW x v -> r x H Q ->
   wpAny (model X.prog X.w) X.A (truthy v) (TP X pins σ Q) X.xe s
noncomputable def wH (r : R2) (ta tb : TE) : TE := fun σ H Q => ta σ H fun x H1 => tb σ H1 fun y H2 => r x y H2 Q
noncomputable def tUn (r : V -> Hp -> VK -> Prop) (ta : TE) : TE := fun σ H Q => ta σ H fun x H1 => r x H1 Q
noncomputable def rI (C : Int -> Int -> Prop) (g : Int -> Int -> V) : R2 := fun x y H Q => ∃ i j, x = .int i /\ y = .int j /\ C i j /\ Q (g i j) H
noncomputable def nE (g : Int -> Int -> V) : R2 := fun x y H Q => ∃ i j, x = .int i /\ y = .int j /\ Q (g i j) H
def rU (g : Int -> V) : V -> Hp -> VK -> Prop := fun x H Q => ∃ i, x = .int i /\ Q (g i) H
section
variable {X : Cx} {a b c : Expr} {ta tb tc : TE} {pos : Pos}
theorem bE0 (ha : PE X a ta) (hb : PE X b tb) {pins : List (Addr × Obj)} {s : Shared} {σ : St} {H : Hp} {R : V -> V -> Hp -> Prop} (I : Inv X pins σ H s)
 (h : ta σ H fun x H1 => tb σ H1 fun y H2 => R x y H2) {Q : Value -> Shared -> Prop} {f : Value -> Value -> Sem Value}
 (hf : ∀ v u s2 x y H2, Inv X pins σ H2 s2 -> bW x v -> bW y u -> R x y H2 -> wpAny (model X.prog X.w) X.A (f v u) Q X.xe s2) :
 wpAny (model X.prog X.w) X.A (eval a X.env) (fun v s₁ => wpAny (model X.prog X.w) X.A (eval b X.env) (fun u s₂ => wpAny (model X.prog X.w) X.A (f v u) Q X.xe s₂) X.xe s₁) X.xe s := by
 refine cH (ha pins s σ H _ I h) fun v s1 ⟨x, H1, I1, r1, q1⟩ => ?_
 refine cH (hb pins s1 σ H1 _ I1 q1) fun u s2 ⟨y, H2, I2, r2, q2⟩ => ?_
 exact hf v u s2 x y H2 I2 r1 r2 q2
theorem cL4 {op : Operator} {r : R2} (ho : cT X (binaryOp op) r) (ha : PE X a ta) (hb : PE X b tb) : PE X (.BinOp a op b pos) (wH r ta tb) := by
 intro pins s σ H Q I h
 exact wpAny_BinOp (bE0 ha hb I h fun v u s2 x y H2 I2 rx ry q => ho pins s2 σ H2 x y v u Q I2 rx ry q)
theorem cL5 {op : UnaryOp} {r : V -> Hp -> VK -> Prop} (ho : wG X (unaryOp op) r) (ha : PE X a ta) : PE X (.UnaryOp op a pos) (tUn r ta) := by
 intro pins s σ H Q I h
 exact UnaryOp_ (cH (ha pins s σ H _ I h) fun v s1 ⟨x, H1, I1, r1, q1⟩ => ho pins s1 σ H1 x v Q I1 r1 q1)
theorem opI {f : Value -> Value -> Sem Value} {C : Int -> Int -> Prop} {g : Int -> Int -> Int}
 (rule : ∀ (i j : Int) (t u : Tok) (s : Shared) (Q : Value -> Shared -> Prop) (E : Value -> Shared -> Prop), C i j -> Q (.int (g i j) s.toks) { s with toks := s.toks + 1 } -> wpAny (model X.prog X.w) X.A (f (.int i t) (.int j u)) Q E s) :
 cT X f (rI C fun i j => .int (g i j)) := by
 intro pins s σ H x y v u Q I rx ry h
 obtain ⟨i, j, rfl, rfl, hc, q⟩ := h
 obtain ⟨t, rfl⟩ := rx
 obtain ⟨t', rfl⟩ := ry
 exact rule i j t t' s _ _ hc ⟨.int (g i j), H, I.tok _, ⟨_, rfl⟩, q⟩
theorem bP2 {f : Value -> Value -> Sem Value} {g : Int -> Int -> Int}
 (rule : ∀ (i j : Int) (t u : Tok) (s : Shared) (Q : Value -> Shared -> Prop) (E : Value -> Shared -> Prop), Q (.int (g i j) s.toks) { s with toks := s.toks + 1 } -> wpAny (model X.prog X.w) X.A (f (.int i t) (.int j u)) Q E s) :
 cT X f (nE fun i j => .int (g i j)) := by
 intro pins s σ H x y v u Q I rx ry h
 obtain ⟨i, j, rfl, rfl, q⟩ := h
 obtain ⟨t, rfl⟩ := rx
 obtain ⟨t', rfl⟩ := ry
 exact rule i j t t' s _ _ ⟨.int (g i j), H, I.tok _, ⟨_, rfl⟩, q⟩
theorem yO {f : Value -> Value -> Sem Value} {g : Int -> Int -> Bool}
 (rule : ∀ (i j : Int) (t u : Tok) (s : Shared) (Q : Value -> Shared -> Prop) (E : Value -> Shared -> Prop), Q (.bool (g i j)) s -> wpAny (model X.prog X.w) X.A (f (.int i t) (.int j u)) Q E s) :
 cT X f (nE fun i j => .bl (g i j)) := by
 intro pins s σ H x y v u Q I rx ry h
 obtain ⟨i, j, rfl, rfl, q⟩ := h
 obtain ⟨t, rfl⟩ := rx
 obtain ⟨t', rfl⟩ := ry
 exact rule i j t t' s _ _ ⟨.bl (g i j), H, I, rfl, q⟩
def cL6 (i j : Int) : Prop := 0 < j /\ j < 1073741824
def bE2 (i j : Int) : Prop := (-(2 ^ 64) < i /\ i < 2 ^ 64) \/ (-(2 ^ 64) < j /\ j < 2 ^ 64)
theorem bE2.ok {i j : Int} (h : bE2 i j) : IntMulOk i j := by
 rcases h with ⟨h1, h2⟩ | ⟨h1, h2⟩
 ·exact .of_left (intBits_le_64 h1 h2)
 ·exact .of_right (intBits_le_64 h1 h2)
theorem cL7 : cT X (binaryOp .Add) (nE fun i j => .int (i + j)) := bP2 fun _ _ _ _ _ _ _ q => add_int q
theorem cL8 : cT X (binaryOp .Sub) (nE fun i j => .int (i - j)) := bP2 fun _ _ _ _ _ _ _ q => sub_int q
theorem cL9 : cT X (binaryOp .Mult) (rI bE2 fun i j => .int (i * j)) := opI fun _ _ _ _ _ _ _ hc q => mul_int q hc.ok
theorem cM0 : cT X (binaryOp .FloorDiv) (rI cL6 fun i j => .int (i / j)) := opI fun i j _ _ _ _ _ hc q => by
 have h1 : (0 : Int) < j := hc.1
 have h2 : j < 1073741824 := hc.2
 exact floordiv_int bE (by rw [Int.fdiv_eq_ediv_of_nonneg i bE]; exact q) (.inl (PyProof.noPylong_small bE))
theorem cM1 : cT X (binaryOp .Mod) (rI (fun _ j => 0 < j) fun i j => .int (i % j)) := opI fun i j _ _ _ _ _ hc q => by
 have h1 : (0 : Int) < j := hc
 exact mod_int' bE (by rw [Int.fmod_eq_emod_of_nonneg i bE]; exact q)
theorem unI {f : Value -> Sem Value} {g : Int -> Int}
 (rule : ∀ (i : Int) (t : Tok) (s : Shared) (Q : Value -> Shared -> Prop) (E : Value -> Shared -> Prop), Q (.int (g i) s.toks) { s with toks := s.toks + 1 } -> wpAny (model X.prog X.w) X.A (f (.int i t)) Q E s) :
 wG X f (rU fun i => .int (g i)) := by
 intro pins s σ H x v Q I rx h
 obtain ⟨i, rfl, q⟩ := h
 obtain ⟨t, rfl⟩ := rx
 exact rule i t s _ _ ⟨.int (g i), H, I.tok _, ⟨_, rfl⟩, q⟩
theorem cM3 : wG X (unaryOp .USub) (rU fun i => .int (-i)) := unI fun _ _ _ _ _ q => neg_int q
end
noncomputable def cM4 : V -> V -> Bool
 | .non, .non => true | .non, .int _ => true | .int _, .non => true | .non, .bl _ => true | .bl _, .non => true | .non, .str _ => true | .str _, .non => true
 | .int _, .int _ => true | .bl _, .bl _ => true | .str _, .str _ => true | .byt _, .byt _ => true
 | .int _, .str _ => true | .str _, .int _ => true | .bl _, .str _ => true | .str _, .bl _ => true
 | _, _ => false
noncomputable def rNe : R2 := fun x y H Q => cM4 x y = true /\ Q (.bl (!decide (x = y))) H
theorem cM6 {i j : Int} : decide (V.int i = V.int j) = (i == j) := by
 rw [Bool.eq_iff_iff]
 simp
theorem cM7 {i j : Bool} : decide (V.bl i = V.bl j) = (i == j) := by
 rw [Bool.eq_iff_iff]
 simp
theorem cM8 {i j : Str} : decide (V.str i = V.str j) = (i == j) := by
 rw [Bool.eq_iff_iff]
 simp
theorem cM9 {i j : Array UInt8} : decide (V.byt i = V.byt j) = (i.toList == j.toList) := by
 rw [Bool.eq_iff_iff]
 cases i
 cases j
 simp
section
variable {X : Cx} {a b c : Expr} {ta tb tc : TE} {pos : Pos}
theorem hV {pins : List (Addr × Obj)} {σ : St} {H : Hp} {s : Shared} {Q : VK} {k k' : Bool} (I : Inv X pins σ H s) (q : Q (.bl k) H) (e : k = k') : EP X pins σ Q (.bool k') s := by
 subst e
 exact ⟨.bl k, H, I, rfl, q⟩
theorem bE3 : cT X (compareOp .NotEq) rNe := by
 intro pins s σ H x y v u Q I rx ry h
 obtain ⟨hs, q⟩ := h
 cases x with
 | non =>
  cases rx
  cases y with
  | non => cases ry; exact PySem.EqNone.ne_none_none (hV I q (by simp))
  | bl j => cases ry; exact PySem.EqNone.ne_none_bool (hV I q (by simp))
  | int j => obtain ⟨t', rfl⟩ := ry; exact PySem.EqNone.ne_none_int (hV I q (by simp))
  | str j => obtain ⟨t', rfl⟩ := ry; exact PySem.EqNone.ne_none_str (hV I q (by simp))
  | _ => exact absurd (show false = true from hs) Bool.false_ne_true
 | bl i =>
  cases rx
  cases y with
  | non => cases ry; exact PySem.EqNone.ne_bool_none (hV I q (by simp))
  | bl j => cases ry; exact ne_bool (hV I q (congrArg not cM7))
  | str j => obtain ⟨t', rfl⟩ := ry; exact PySem.EqMixed.ne_bool_str (hV I q (by simp))
  | _ => exact absurd (show false = true from hs) Bool.false_ne_true
 | int i =>
  obtain ⟨t, rfl⟩ := rx
  cases y with
  | non => cases ry; exact PySem.EqNone.ne_int_none (hV I q (by simp))
  | int j => obtain ⟨t', rfl⟩ := ry; exact ne_int (hV I q (congrArg not cM6))
  | str j => obtain ⟨t', rfl⟩ := ry; exact PySem.EqMixed.ne_int_str (hV I q (by simp))
  | _ => exact absurd (show false = true from hs) Bool.false_ne_true
 | str i =>
  obtain ⟨t, rfl⟩ := rx
  cases y with
  | non => cases ry; exact PySem.EqNone.ne_str_none (hV I q (by simp))
  | bl j => cases ry; exact PySem.EqMixed.ne_str_bool (hV I q (by simp))
  | int j => obtain ⟨t', rfl⟩ := ry; exact PySem.EqMixed.ne_str_int (hV I q (by simp))
  | str j => obtain ⟨t', rfl⟩ := ry; exact ne_str (hV I q (congrArg not cM8))
  | _ => exact absurd (show false = true from hs) Bool.false_ne_true
 | byt i =>
  obtain ⟨t, rfl⟩ := rx
  cases y with
  | byt j => obtain ⟨t', rfl⟩ := ry; exact W.ne_bytes (hV I q (congrArg not cM9))
  | _ => exact absurd (show false = true from hs) Bool.false_ne_true
 | _ => cases y <;> exact absurd (show false = true from hs) Bool.false_ne_true
theorem cN0 : cT X (compareOp .Lt) (nE fun i j => .bl (decide (i < j))) := yO fun _ _ _ _ _ _ _ q => lt_int q
theorem cN1 : cT X (compareOp .LtE) (nE fun i j => .bl (decide (i <= j))) := yO fun _ _ _ _ _ _ _ q => le_int q
theorem cN2 : cT X (compareOp .Gt) (nE fun i j => .bl (decide (j < i))) := yO fun _ _ _ _ _ _ _ q => gt_int q
theorem cN3 : cT X (compareOp .GtE) (nE fun i j => .bl (decide (j <= i))) := yO fun _ _ _ _ _ _ _ q => ge_int q
theorem cN4 : cT X (compareOp .Lt) (fun x y H Q => ∃ i j, x = .str i /\ y = .str j /\ Q (.bl (decide (i.cps.toList < j.cps.toList))) H) := by
 intro pins s σ H x y v u Q I rx ry h
 obtain ⟨i, j, rfl, rfl, q⟩ := h
 obtain ⟨t, rfl⟩ := rx
 obtain ⟨t', rfl⟩ := ry
 exact lt_str (hV I q rfl)
theorem cN5 : cT X (compareOp .Is) (fun x y H Q => y = .non /\ Q (.bl (decide (x = .non))) H) := by
 intro pins s σ H x y v u Q I rx ry h
 obtain ⟨rfl, q⟩ := h
 cases ry
 refine is_none_gen (hV I q ?_)
 cases x <;> first
  | (cases rx; rfl)
  | (obtain ⟨t, rfl⟩ := rx; rfl)
theorem cN6 : cT X (compareOp .IsNot) (fun x y H Q => y = .non /\ Q (.bl (!decide (x = .non))) H) := by
 intro pins s σ H x y v u Q I rx ry h
 obtain ⟨rfl, q⟩ := h
 cases ry
 refine isnot_none_gen (hV I q ?_)
 cases x <;> first
  | (cases rx; rfl)
  | (obtain ⟨t, rfl⟩ := rx; rfl)
theorem qK (b : Expr) {op : CmpOp} (h : op ≠ .In := by decide) (h2 : op ≠ .NotIn := by decide) : behindInMarks op b = false := by
 have e1 : (op == CmpOp.In) = false := by cases op <;> first | rfl | exact absurd rfl h
 have e2 : (op == CmpOp.NotIn) = false := by cases op <;> first | rfl | exact absurd rfl h2
 cases b <;> simp [behindInMarks, e1, e2]
theorem cN7 {op : CmpOp} {r : R2} (ho : cT X (compareOp op) r) (ha : PE X a ta) (hb : PE X b tb) (hm : behindInMarks op b = false) : PE X (.Compare a [op] [b] pos) (wH r ta tb) := by
 intro pins s σ H Q I h
 exact wpAny_Compare1 (bE0 ha hb I h fun v u s2 x y H2 I2 rx ry q => ho pins s2 σ H2 x y v u Q I2 rx ry q) hm
noncomputable def cN8 (t : TE) : TT := fun σ H Q => t σ H fun x H' => ∃ k, x = .bl k /\ Q k H'
theorem bE4 {op : CmpOp} {r : R2} (ho : cT X (compareOp op) r) (ha : PE X a ta) (hb : PE X b tb) (hm : behindInMarks op b = false) : PT X (.Compare a [op] [b] pos) (cN8 (wH r ta tb)) := by
 intro pins s σ H Q I h
 refine wpAny_isTrue_Compare1 (cH (ha pins s σ H _ I h) fun v s1 ⟨x, H1, I1, r1, q1⟩ => cH (hb pins s1 σ H1 _ I1 q1) fun u s2 ⟨y, H2, I2, r2, q2⟩ =>
  cH (ho pins s2 σ H2 x y v u _ I2 r1 r2 q2) fun c s3 ⟨z, H3, I3, r3, k, e, q3⟩ => ?_) hm
 subst e
 cases r3
 exact wpAny_truthy_bool ⟨H3, I3, q3⟩
def bE5 (K : W.Frag) (x : V) (H : Hp) (k : Bool) : Prop :=
 match x with
 | .non => k = false
 | .bl b => k = b
 | .int i => k = (i != 0)
 | .str y => y.length <= sizeLine /\ k = ((y.length : Int) != 0)
 | .byt y => y.size <= sizeLine /\ k = ((y.size : Int) != 0)
 | .ref p => (∃ xs, dN K H p xs /\ k = !xs.isEmpty) \/ (∃ xs, fB K H p xs /\ k = !xs.isEmpty) \/ ∃ kvs, H p = some (.dK kvs) /\ k = !kvs.isEmpty
 | _ => False
theorem cN9 {κ : Type} {kvs : List (κ × V)} {vs : List (κ × Value)} (r : KV kvs vs) : (!vs.isEmpty) = !kvs.isEmpty := by
 cases r <;> rfl
theorem bP3 {xs : List V} {its : List Value} (r : cG xs its) : (!its.toArray.isEmpty) = !xs.isEmpty := by
 cases r <;> simp
theorem sL : (sizeLine : Nat) < 2 ^ 63 := by rw [sizeLine_eq]; decide
theorem cO0 : cL2 X (fun x H Q => ∃ k, bE5 X.K x H k /\ Q k H) := by
 intro pins s σ H x v Q I rx h
 obtain ⟨k, e, q⟩ := h
 have hl := sL
 have hs : sizeLine = 16777216 := sizeLine_eq
 cases x with
 | non =>
  cases rx
  have e' : k = false := e
  subst e'
  exact truthy_none ⟨H, I, q⟩
 | bl b =>
  cases rx
  have e' : k = b := e
  subst e'
  exact wpAny_truthy_bool ⟨H, I, q⟩
 | int i =>
  obtain ⟨t, rfl⟩ := rx
  have e' : k = (i != 0) := e
  subst e'
  exact PySem.P.truthy_int ⟨H, I, q⟩
 | str y =>
  obtain ⟨t, rfl⟩ := rx
  obtain ⟨hy, e'⟩ : y.length <= sizeLine /\ k = ((y.length : Int) != 0) := e
  subst e'
  exact PySem.P.truthy_str bE ⟨H, I.tok _, q⟩
 | byt y =>
  obtain ⟨t, rfl⟩ := rx
  obtain ⟨hy, e'⟩ : y.size <= sizeLine /\ k = ((y.size : Int) != 0) := e
  subst e'
  exact W.truthy_bytes bE ⟨H, I.tok _, q⟩
 | ref p =>
  cases rx
  have e' : (∃ xs, dN X.K H p xs /\ k = !xs.isEmpty) \/ (∃ xs, fB X.K H p xs /\ k = !xs.isEmpty) \/ ∃ kvs, H p = some (.dK kvs) /\ k = !kvs.isEmpty := e
  rcases e' with ⟨xs, hx, e'⟩ | ⟨xs, hx, e'⟩ | ⟨kvs, hx, e'⟩
  ·subst e'
   obtain ⟨its, r, pl, hz⟩ := I.list hx
   have hlen := r.length
   exact wpAny_truthy_list pl.isList (by simp only [List.size_toArray]; omega) ⟨H, I.tok _, by rw [bP3 r]; exact q⟩
  ·subst e'
   obtain ⟨its, r, pl, hz⟩ := I.tuple hx
   have hlen := r.length
   exact truthy_tuple pl (by simp only [List.size_toArray]; omega) ⟨H, I.tok _, by rw [bP3 r]; exact q⟩
  ·subst e'
   obtain ⟨hz, hS, vs, r, m⟩ : kvs.length <= sizeLine /\ (p == sysModules) = false /\ ∃ vs, KV kvs vs /\ s.heap.DictOf (gF X.prog X.w) p vs := I.hok p _ hx
   have hlen : kvs.length = vs.length := Paired.length r
   exact wpAny_truthy_dict hS m bE ⟨H, I.tok _, by rw [cN9 r]; exact q⟩
 | _ => exact (show False from e).elim
theorem cO1 (ha : PE X a ta) (he : ∀ whole, isTrue a X.env whole = (do let v <- whole; standAt a.pos; holding [v] (truthy v))) :
 PT X a (fun σ H Q => ta σ H fun x H' => ∃ k, bE5 X.K x H' k /\ Q k H') := by
 intro pins s σ H Q I h
 exact isTrue_plain (cH (ha pins s σ H _ I h) fun v s1 ⟨x, H1, I1, r1, q1⟩ => cO0 pins s1 σ H1 x v Q I1 r1 q1) (he _)
theorem cO2 : cT X (binaryOp .Add) (fun x y H Q => ∃ i j, x = .str i /\ y = .str j /\ i.length + j.length <= sizeLine /\ Q (.str (i ++ j)) H) := by
 intro pins s σ H x y v u Q I rx ry h
 obtain ⟨i, j, rfl, rfl, hz, q⟩ := h
 obtain ⟨t, rfl⟩ := rx
 obtain ⟨t', rfl⟩ := ry
 exact add_str (fun t' tk => ⟨.str (i ++ j), H, I.tok _, ⟨_, rfl⟩, q⟩) hz
theorem qL {x : V} {us : List Value} (r : cG [x] us) : ∃ u, us = [u] /\ bW x u := by
 cases r with
 | cons r1 r2 => cases r2; exact ⟨_, rfl, r1⟩
theorem bE6 {x y : V} {us : List Value} (r : cG [x, y] us) : ∃ u w', us = [u, w'] /\ bW x u /\ bW y w' := by
 cases r with
 | cons r1 r2 =>
  cases r2 with
  | cons r3 r4 => cases r4; exact ⟨_, _, rfl, r1, r3⟩
theorem cO3 (hc : X.calm = true) : fZ X (.builtin "max") (fun xs H Q => ∃ i j, xs = [.int i, .int j] /\ Q (.int (if j > i then j else i)) H) := by
 intro pins s σ H xs us Q I r h
 obtain ⟨i, j, rfl, q⟩ := h
 obtain ⟨u, w', rfl, ⟨t, rfl⟩, ⟨t', rfl⟩⟩ := bE6 r
 refine max_two_ints (I.ok.hd hc) fun h' tk k => ⟨_, H, I.kept k, ?_, q⟩
 by_cases hj : j > i
 ·rw [if_pos hj, if_pos hj]; exact ⟨_, rfl⟩
 ·rw [if_neg hj, if_neg hj]; exact ⟨_, rfl⟩
theorem cO4 (hc : X.calm = true) : fZ X (.builtin "min") (fun xs H Q => ∃ i j, xs = [.int i, .int j] /\ Q (.int (if j < i then j else i)) H) := by
 intro pins s σ H xs us Q I r h
 obtain ⟨i, j, rfl, q⟩ := h
 obtain ⟨u, w', rfl, ⟨t, rfl⟩, ⟨t', rfl⟩⟩ := bE6 r
 refine min_two_ints (I.ok.hd hc) fun h' tk k => ⟨_, H, I.kept k, ?_, q⟩
 by_cases hj : j < i
 ·rw [if_pos hj, if_pos hj]; exact ⟨_, rfl⟩
 ·rw [if_neg hj, if_neg hj]; exact ⟨_, rfl⟩
end
end L2
namespace L2
open PySem PySem.Spec PyProof.Rows
section
variable {prog : Program} {w : World} {A : Around} {E : Value -> Shared -> Prop} {s : Shared} {K : W.Frag} {x dx C f : Addr} {mA : Str -> Option Value} {name : Str} {v : Value}
end
theorem RelO.some_of {v : V} {o : Option Value} (r : RelO (some v) o) : ∃ u, o = some u /\ bW v u := by
 cases o with
 | none => exact (show False from r).elim
 | some u => exact ⟨u, rfl, r⟩
section
variable {P : Program} {w : World} {H H' : Hp} {h h' : Heap} {a C dx : Addr} {fs fs' : List (Str × V)}
end
structure Con (K : W.Frag) (C : Addr) (f : Str) (v : V) (u : Value) : Prop where
 at_ : W.findIn K (.ref C) f = some (some u)
 rel : bW v u
 get : W.specialIn K u "__get__" = some none
 cp : W.copiedNames.contains f = false
structure dZ7 (K : W.Frag) (C : Addr) (m : Str) (f : Addr) : Prop where
 at_ : W.findIn K (.ref C) m = some (some (.ref f))
 fn : W.isFn K (.ref f) = true
 kp : W.keepIn K (.ref f) = true
section
variable {X : Cx} {pins : List (Addr × Obj)} {σ : St} {H : Hp} {s : Shared} {a C dx : Addr} {fs : List (Str × V)} {f : Str} {v : V} {A : Around} {E : Value -> Shared -> Prop}
end
section
variable {X : Cx} {o e value : Expr} {f : Str} {pos pos' tpos : Pos} {ta tv : TE}
end
section
variable {X : Cx} {pins : List (Addr × Obj)} {σ : St} {H : Hp} {s : Shared} {A : Around} {E : Value -> Shared -> Prop} {Q : Value -> Shared -> Prop} {c : Value} {b : Bool}
end
end L2
namespace L2
open PySem PySem.Spec PyProof.Rows
structure dZ (k : Nat) (A : Around) : Prop where
 hd : A.handled = none
 dp : A.depth + 3 * k + 5 < recursionLimit
 un : A.units + 16 * k + 200 < cLine
theorem dZ.mono {j k : Nat} {A : Around} (r : dZ k A) (h : j <= k) : dZ j A := ⟨r.hd, by have := r.dp; omega, by have := r.un; omega⟩
theorem dZ.deeper {k : Nat} {A : Around} (r : dZ (k + 1) A) (env : Env) : dZ k (A.deeper env) :=
 ⟨r.hd, by have := r.dp; show A.depth + 1 + 3 * k + 5 < _; omega, by have := r.un; show A.units + 3 + 16 * k + 200 < _; omega⟩
theorem dZ.depth {k : Nat} {A : Around} (r : dZ k A) : A.depth < recursionLimit := by have := r.dp; omega
theorem dZ.units {k : Nat} {A : Around} (r : dZ k A) : A.units + 64 < cLine := by have := r.un; omega
noncomputable def cO5 : TA := fun _ H Q => Q [] H
noncomputable def cO6 (ta : TE) (tr : TA) : TA := fun σ H Q => ta σ H fun x H1 => tr σ H1 fun xs H2 => Q (x :: xs) H2
section
variable {X : Cx} {e : Expr} {es : List Expr} {te : TE} {t : TA} {pos : Pos}
theorem lX : PA X [] cO5 := fun _ _ _ _ H Q I h => Calls.spliced_nil ⟨[], H, I, .nil, h⟩
theorem kR (ha : PE X e te) (hr : PA X es t) (hs : starEach (e :: es) X.env = (false, eval e X.env) :: starEach es X.env := by rfl) : PA X (e :: es) (cO6 te t) := by
 intro pos pins s σ H Q I h
 rw [hs]
 show wpAny _ _ (spliced ((false, eval e X.env) :: backTo pos (starEach es X.env))) _ _ s
 refine Calls.spliced_cons (cH (ha pins s σ H _ I h) fun u s1 ⟨x, H1, I1, r1, q1⟩ => ?_)
 exact cH (hr pos pins s1 σ H1 _ I1 q1) fun us s2 ⟨xs, H2, I2, r2, q2⟩ => ⟨x :: xs, H2, I2, .cons r1 r2, q2⟩
noncomputable def cO7 (t : TA) : TE := fun σ H Q => t σ H fun xs H1 => xs.length <= sizeLine /\ ∀ p, H1 p = none -> Q (.ref p) (upd H1 p (.tup xs))
noncomputable def cO8 (t : TA) : TE := fun σ H Q => t σ H fun xs H1 => xs.length <= sizeLine /\ ∀ p, H1 p = none -> Q (.ref p) (upd H1 p (.lst xs))
theorem cO9 {x1} (h : PA X es t) : PE X (.Tuple es x1 pos) (cO7 t) := by
 intro pins s σ H Q I hq
 refine wpAny_Tuple_spliced (cH (h pos pins s σ H _ I hq) fun us s1 ⟨xs, H1, I1, r, z, q⟩ => ⟨by rw [<- r.length]; exact z, ?_⟩)
 have hf : H1 s1.heap.objs.size = none := I1.hok.fresh (Nat.le_refl _)
 refine ⟨.ref s1.heap.objs.size, upd H1 s1.heap.objs.size (.tup xs), I1.laid (t' := s1.toks) (fun b u e => Heap.get?_push_of_some _ e) (Nat.le_refl _) ?_, rfl, q _ hf⟩
 exact ⟨z, us, r, ⟨_, Heap.get?_push_size _ rfl, ⟨rfl, rfl⟩, _, rfl⟩⟩
theorem bP4 (h : PA X es t) : PE X (.List es pos) (cO8 t) := by
 intro pins s σ H Q I hq
 refine wpAny_List_spliced (cH (h pos pins s σ H _ I hq) fun us s1 ⟨xs, H1, I1, r, z, q⟩ => ⟨by rw [<- r.length]; exact z, ?_⟩)
 have hf : H1 s1.heap.objs.size = none := I1.hok.fresh (Nat.le_refl _)
 refine ⟨.ref s1.heap.objs.size, upd H1 s1.heap.objs.size (.lst xs), I1.laid (t' := s1.toks) (fun b u e => Heap.get?_push_of_some _ e) (Nat.le_refl _) ?_, rfl, q _ hf⟩
 exact ⟨z, us, 0, r, Heap.get?_push_size _ rfl⟩
end
noncomputable abbrev Sp := List V -> Hp -> VK -> XK -> Prop
noncomputable abbrev lY := List Env -> Hp -> Shared -> XK -> Value -> Shared -> Prop
structure yP (P : Program) (w : World) (K : W.Frag) (mg : Str -> Option Value) (base : Heap) (A : Around) (outer : List Env) (s : Shared) (H : Hp) : Prop where
 frames : A.frames = some outer
 mod : Mod K mg base
 bs : ∀ b o, base.get? b = some o -> s.heap.get? b = some o /\ H b = none
 bsz : base.objs.size <= s.heap.objs.size
 funs : s.heap.FunFrames base outer
 frf : ∀ b ∈ kQ outer, H b = none
 hok : fE P w H s.heap
 bare : AllBare s.gens
def CE (outer : List Env) (P : Program) (w : World) (H : Hp) (s : Shared) (Q : VK) (u : Value) (s' : Shared) : Prop :=
 ∃ v H', s'.os = s.os /\ AllBare s'.gens /\ Un (kQ outer) [] H H' s.heap s'.heap /\ fE P w H' s'.heap /\ bW v u /\ Q v H'
def CR (CX : lY) (outer : List Env) (P : Program) (w : World) (H : Hp) (s : Shared) (Q : VK) (E : XK) (r : Result) (s' : Shared) : Prop :=
 match r with
 | .ok (.ret u) => CE outer P w H s Q u s'
 | .ok _ => False
 | .error e => CX outer H s E e s'
structure bS (P : Program) (w : World) (K : W.Frag) (mg : Str -> Option Value) (base : Heap) (CX : lY) (k : Nat) (f : Addr) (fd : FuncData) (ps : List Str) (sp : Sp) : Prop where
 len : ∀ vs H Q E, sp vs H Q E -> vs.length = ps.length
 run : ∀ (A : Around) (outer : List Env) (s : Shared) (H : Hp) (args : Args) (us : List Value) (vs : List V) (Q : VK) (E : XK), dZ k A -> yP P w K mg base A outer s H -> BindsTo s fd args (ps.zip us) -> cG vs us -> sp vs H Q E ->
  codeAny (model P w) A (.call (.ref f) args) (CR CX outer P w H s Q E) s
theorem bS.mono {P : Program} {w : World} {K : W.Frag} {mg : Str -> Option Value} {base : Heap} {CX : lY} {j k : Nat} {f : Addr} {fd : FuncData} {ps : List Str} {sp : Sp} (F : bS P w K mg base CX j f fd ps sp) (h : j <= k) :
 bS P w K mg base CX k f fd ps sp := ⟨F.len, fun A outer s H args us vs Q E hr => F.run A outer s H args us vs Q E (hr.mono h)⟩
theorem bS.imp {P : Program} {w : World} {K : W.Frag} {mg : Str -> Option Value} {base : Heap} {CX : lY} {k : Nat} {f : Addr} {fd : FuncData} {ps : List Str} {sp sp' : Sp} (F : bS P w K mg base CX k f fd ps sp)
 (h : ∀ vs H Q E, sp' vs H Q E -> sp vs H Q E) : bS P w K mg base CX k f fd ps sp' :=
 ⟨fun vs H Q E q => F.len vs H Q E (h _ _ _ _ q), fun A outer s H args us vs Q E hr he hb hv hs => F.run A outer s H args us vs Q E hr he hb hv (h _ _ _ _ hs)⟩
section
variable {X : Cx} {pins : List (Addr × Obj)} {σ : St} {H : Hp} {s s' : Shared}
theorem Inv.env0 (I : Inv X pins σ H s) : yP X.prog X.w X.K X.mg X.base X.A X.stack s H :=
 ⟨I.ok.frames, I.ok.mod, I.bs, Nat.le_trans I.ok.bsz I.sz, I.stack, I.stkFree, I.hok, I.bare⟩
theorem Inv.after {Q : VK} {u : Value} (I : Inv X pins σ H s) (h : CE X.stack X.prog X.w H s Q u s') : EP X pins σ Q u s' := by
 obtain ⟨v, H', os, bare, un, hok, r, q⟩ := h
 obtain ⟨hh, g, d, t, os'⟩ := s'
 obtain rfl : os' = s.os := os
 exact ⟨v, H', I.call (h' := hh) (g' := g) (d' := d) (t' := t) (ch := []) un hok bare (fun b z => absurd z (by simp)), r, q⟩
end
noncomputable def cP0 (sp : Sp) (dvs : List V) (E : XK) (t : TA) : TE := fun σ H Q => t σ H fun vs H1 => sp (vs ++ dvs) H1 Q E
def cY (K : W.Frag) (fd : FuncData) (ps : List Str) (ds : List Value) : Prop :=
 ∀ (s : Shared) (us : List Value), K.In s.heap -> (us ++ ds).length = ps.length -> BindsTo s fd ⟨us, []⟩ (ps.zip (us ++ ds))
theorem cY.all {K : W.Frag} {fd : FuncData} {ps : List Str} (h : ∀ us : List Value, us.length = ps.length -> bindArgs fd ⟨us, []⟩ = pure (ps.zip us)) : cY K fd ps [] := fun s us _ hl => by
 rw [List.append_nil] at hl ⊢
 exact .of_eq (h us hl)
def bE7 (CX : lY) (X : Cx) (E : XK) : Prop := ∀ (pins : List (Addr × Obj)) (σ : St) (H : Hp) (s : Shared) (e : Value) (s' : Shared), Inv X pins σ H s -> CX X.stack H s E e s' -> X.xe e s'
section
variable {X : Cx} {CX : lY} {k : Nat} {f C : Addr} {fd : FuncData} {ps : List Str} {sp : Sp} {dvs : List V} {ds : List Value} {E : XK} {x m : Str} {p pos apos : Pos} {e o : Expr} {es : List Expr} {ta : TE} {t : TA}
theorem cP1 {pins : List (Addr × Obj)} {σ : St} {H : Hp} {s : Shared} {Q : VK} {us : List Value} {vs : List V} (F : bS X.prog X.w X.K X.mg X.base CX k f fd ps sp) (hr : dZ k X.A) (hb : cY X.K fd ps ds) (hd : cG dvs ds) (hx : bE7 CX X E)
 (I : Inv X pins σ H s) (r : cG vs us) (h : sp (vs ++ dvs) H Q E) : wpAny (model X.prog X.w) X.A (call (.ref f) us) (EP X pins σ Q) X.xe s := by
 have r2 : cG (vs ++ dvs) (us ++ ds) := r.append hd
 have hl : (us ++ ds).length = ps.length := by rw [<- r2.length]; exact F.len _ _ _ _ h
 refine wpAny_call (codeAny_mono (F.run X.A X.stack s H ⟨us, []⟩ (us ++ ds) (vs ++ dvs) Q E hr I.env0 (hb s us I.kIn hl) r2 h) fun r s' hq => ?_)
 cases r with
 | error e => exact hx pins σ H s e s' I hq
 | ok fl =>
  cases fl with
  | ret u => exact I.after hq
  | next => exact False.elim hq
  | brk => exact False.elim hq
  | cont => exact False.elim hq
theorem yQ (F : bS X.prog X.w X.K X.mg X.base CX k f fd ps sp) (hr : dZ k X.A) (hg : Gl X x) (hm : X.mg x = some (.ref f)) (hk : W.keepIn X.K (.ref f) = true) (hb : cY X.K fd ps ds) (hd : cG dvs ds) (hx : bE7 CX X E)
 (ha : PA X (e :: es) t) (hdb : (x == ("__debug__" : Str)) = false := by decide) (he : starEach (e :: es) X.env = (false, eval e X.env) :: starEach es X.env := by rfl) (hpl : (backTo pos (starEach es X.env)).any (·.1) = false := by rfl) :
 PE X (.Call (.Name x p) (e :: es) [] pos) (cP0 sp dvs E t) := by
 intro pins s σ H Q I h
 refine wpAny_Call_Name_kw (bO3 I hg hm ?_ hdb)
 refine W.callWith_K (h₀ := X.base) I.ok.mod.kin hk (cH (ha pos pins s σ H _ I h) fun us s1 ⟨vs, H1, I1, r, q⟩ => ⟨I1.kIn, ?_⟩) he hpl
 exact cP1 F hr hb hd hx I1 r q
structure Mk (K : W.Frag) (C f : Addr) : Prop where
 makes : W.makesIn K C = true
 init : W.findIn K (.ref C) "__init__" = some (some (.ref f))
 fn : W.isFn K (.ref f) = true
 kp : W.keepIn K (.ref C) = true
end
section
variable {X : Cx} {CX : lY} {k : Nat} {f C : Addr} {fd : FuncData} {ps ks : List Str} {sp : Sp} {E : XK} {x m : Str} {p pos apos kpos : Pos} {e o : Expr} {es : List Expr} {kws : List Keyword} {te ta : TE} {t tk : TA} {nm : Option Str}
variable {g : List Value -> List Value -> List Value} {gV : List V -> List V -> List V}
end
structure dE (N P : List Str) (sc : Scope) : Prop where
 kind : sc.kind = .function
 co : sc.isCoroutine = false
 gen : sc.isGenerator = false
 nd : N.Nodup
 pre : N.take P.length = P
 par : ∀ x ∈ P, sc.names.lookup x = some .local \/ sc.names.lookup x = some .cell
 nofree : ∀ y ∈ sc.names, y.2 ≠ .free
theorem bP5 {kindOf : Str -> Option NameKind} {x : Str} : ∀ {binds : List (Str × Value)} {m : Str -> Option Value}, (∀ v, (x, v) ∉ binds) -> bindL kindOf binds m x = m x
 | [], _, _ => rfl
 | (n, v) :: r, m, h => by
  unfold bindL
  rw [bP5 fun w hw => h w (List.mem_cons_of_mem _ hw)]
  split
  ·have : x ≠ n := by rintro rfl; exact h v List.mem_cons_self
   simp [this]
  ·rfl
theorem bP6 {kindOf : Str -> Option NameKind} {x : Str} : ∀ {binds : List (Str × Value)} {m : Str -> Option Value}, (∀ v, (x, v) ∉ binds) -> bindC kindOf binds m x = m x
 | [], _, _ => rfl
 | (n, v) :: r, m, h => by
  unfold bindC
  rw [bP6 fun w hw => h w (List.mem_cons_of_mem _ hw)]
  split
  ·rfl
  ·have : x ≠ n := by rintro rfl; exact h v List.mem_cons_self
   simp [this]
theorem bP7 {kindOf : Str -> Option NameKind} {x : Str} {v : Value} : ∀ {P : List Str} {vs : List Value} {i : Nat} {m : Str -> Option Value}, P.Nodup -> P[i]? = some x -> vs[i]? = some v -> kindOf x = some .local ->
 bindL kindOf (P.zip vs) m x = some v
 | [], _, _, _, _, h, _, _ => by simp at h
 | _ :: _, [], _, _, _, _, h, _ => by simp at h
 | p :: P, w :: vs, 0, m, nd, h1, h2, hk => by
  simp at h1 h2; subst h1; subst h2
  show bindL kindOf ((p, w) :: P.zip vs) m p = _
  unfold bindL
  rw [bP5 fun v hv => (List.nodup_cons.mp nd).1 (List.of_mem_zip hv).1, if_pos hk]
  simp
 | p :: P, w :: vs, i + 1, m, nd, h1, h2, hk => by
  show bindL kindOf ((p, w) :: P.zip vs) m x = _
  unfold bindL
  exact bP7 (i := i) (List.nodup_cons.mp nd).2 (by simpa using h1) (by simpa using h2) hk
theorem bP8 {kindOf : Str -> Option NameKind} {x : Str} {v : Value} : ∀ {P : List Str} {vs : List Value} {i : Nat} {m : Str -> Option Value}, P.Nodup -> P[i]? = some x -> vs[i]? = some v -> kindOf x ≠ some .local ->
 bindC kindOf (P.zip vs) m x = some v
 | [], _, _, _, _, h, _, _ => by simp at h
 | _ :: _, [], _, _, _, _, h, _ => by simp at h
 | p :: P, w :: vs, 0, m, nd, h1, h2, hk => by
  simp at h1 h2; subst h1; subst h2
  show bindC kindOf ((p, w) :: P.zip vs) m p = _
  unfold bindC
  rw [bP6 fun v hv => (List.nodup_cons.mp nd).1 (List.of_mem_zip hv).1, if_neg hk]
  simp
 | p :: P, w :: vs, i + 1, m, nd, h1, h2, hk => by
  show bindC kindOf ((p, w) :: P.zip vs) m x = _
  unfold bindC
  exact bP8 (i := i) (List.nodup_cons.mp nd).2 (by simpa using h1) (by simpa using h2) hk
noncomputable def start (N : List Str) (vs : List V) : St := vs.map some ++ List.replicate (N.length - vs.length) none
noncomputable def lZ (CX : lY) (P : Program) (w : World) (K : W.Frag) (mg : Str -> Option Value) (base : Heap) (N : List Str) (qual : Str) (scope : Scope) (f : Addr) (cd : Value) (A : Around) (outer : List Env) (s : Shared) (H : Hp) (E : XK) : Cx where
 prog := P
 w := w
 K := K
 mg := mg
 base := base
 A := A.deeper (envOfC qual scope s.heap.objs.size f cd)
 N := N
 s₀ := s
 H₀ := H
 env := envOfC qual scope s.heap.objs.size f cd
 outer := outer
 stack := envOfC qual scope s.heap.objs.size f cd :: outer
 ex := []
 calm := true
 fn := fun _ => true
 pn := []
 xe := fun e s' => wpAny (model P w) (A.deeper (envOfC qual scope s.heap.objs.size f cd)) (leaving (envOfC qual scope s.heap.objs.size f cd) e) (fun _ s'' => CX outer H s E e s'') (fun e' s'' => CX outer H s E e' s'') s'
theorem bP9 {sc : Scope} {n : Nat} {x : Str} (h : sc.names.lookup x = some .cell) : ∃ c, (cellsFrom n sc.names []).lookup x = some c := by
 have q := W.cellsFrom_some sc.names n [] (.inl h)
 exact Option.isSome_iff_exists.mp q
theorem cP2 {CX : lY} {P : Program} {w : World} {K : W.Frag} {mg : Str -> Option Value} {base : Heap} {N ps : List Str} {qual : Str} {scope : Scope} {f : Addr} {cd : Value} {A : Around} {outer : List Env} {s s1 : Shared} {H : Hp} {E : XK} {us : List Value} {vs : List V}
 (S : dE N ps scope) (hd : A.handled = none) (e0 : yP P w K mg base A outer s H) (hl : vs.length = ps.length) (r : cG vs us)
 (x : InCallC s s.heap.objs.size (bindL (envOfC qual scope s.heap.objs.size f cd).kindOf (ps.zip us) fun _ => none) (cellsFrom (s.heap.objs.size + 1) scope.names []) (bindC (envOfC qual scope s.heap.objs.size f cd).kindOf (ps.zip us) fun _ => none) s1) :
 Inv (lZ CX P w K mg base N qual scope f cd A outer s H E) [] (start N vs) H s1 := by
 have hpl : ps.length <= N.length := by have := congrArg List.length S.pre; rw [List.length_take] at this; omega
 obtain ⟨h1, tk, rfl, hk⟩ := x.done
 have noA : ∀ b : Addr, b ∉ (lZ CX P w K mg base N qual scope f cd A outer s H E).ex := fun b z => absurd (show b ∈ ([] : List Addr) from z) (by simp)
 refine ⟨⟨e0.mod, S.kind, rfl, rfl, Nat.le_refl _, fun y z c h1 h2 => ?_, fun y hy => ?_, fun y c _ h => ?_, fun _ => hd, Around.frames_deeper e0.frames, .inr ⟨rfl, rfl⟩, fun b z => absurd z (noA b), e0.bs, e0.bsz, fun b _ _ => noA b, fun b z => absurd z (noA b), e0.funs, e0.frf⟩,
  rfl, e0.bare, Un.kept hk, ⟨_, x.toInCall.ns, fun i y v h1 h2 h3 => ?_⟩, fun y c h => ⟨_, x.cell y c h⟩, e0.hok.fresh (Nat.le_refl _), fun y c h => ?_, fun p hp => absurd (show p ∈ ([] : List (Addr × Obj)) from hp) (by simp), e0.hok.kept hk, ?_⟩
 ·exact name_of_addr x.apart (PySem.mem_of_lookup h1) (PySem.mem_of_lookup h2)
 ·have hy : scope.names.lookup y = some .cell \/ scope.names.lookup y = some .free := hy
  rcases hy with hy | hy
  ·exact bP9 hy
  ·exact absurd rfl (S.nofree _ (PySem.mem_of_lookup hy))
 ·exact Nat.le_of_lt (x.above y c (PySem.mem_of_lookup h))
 ·have hi : i < vs.length := by
   unfold start at h2
   by_cases hi : i < vs.length
   ·exact hi
   ·rw [List.getElem?_append_right (by simpa using hi)] at h2
    rw [List.getElem?_replicate] at h2
    split at h2 <;> cases h2
  have ha : vs[i]? = some v := by
   unfold start at h2
   rw [List.getElem?_append_left (by simpa using hi), List.getElem?_map] at h2
   cases e : vs[i]? with
   | none => rw [e] at h2; cases h2
   | some a => rw [e] at h2; cases h2; rfl
  obtain ⟨u, hu, rv⟩ := r.get ha
  have hp : ps[i]? = some y := by
   rw [<- S.pre, List.getElem?_take_of_lt bE]; exact h1
  have ndP : ps.Nodup := by rw [<- S.pre]; exact S.nd.sublist (List.take_sublist _ _)
  refine ⟨u, rv, ?_⟩
  rcases S.par y (List.mem_of_getElem? hp) with k | k
  ·exact .inl ⟨k, bP7 ndP hp hu k⟩
  ·obtain ⟨c, e⟩ := bP9 (n := s.heap.objs.size + 1) k
   refine .inr ⟨.inl k, c, e, ?_⟩
   have q := x.cell y c e
   rw [bP8 ndP hp hu (by show scope.names.lookup y ≠ _; rw [k]; decide)] at q
   exact q
 ·exact e0.hok.fresh (Nat.le_of_lt (x.above y c (PySem.mem_of_lookup h)))
 ·unfold start
  show _ = N.length
  rw [List.length_append, List.length_map, List.length_replicate]
  omega
theorem cP3 {CX : lY} {P : Program} {w : World} {K : W.Frag} {mg : Str -> Option Value} {base : Heap} {k : Nat} {f : Addr} {name qual : Str} {params : Arguments} {body : List Stmt} {scope : Scope} {dV kV doc pm cdv ct oc : Value} {an od : Option Addr}
 {osl : Array (Option Value)} {N ps : List Str} {sp : Sp} (lk : K.lookup f = some ⟨oc, od, .func (W.fnOf name qual params body scope dV kV doc pm an cdv ct), osl⟩) (hcd : W.codeIn K cdv qual = true) (S : dE N ps scope)
 (len : ∀ vs H Q E, sp vs H Q E -> vs.length = ps.length)
 (hbody : ∀ (A : Around) (outer : List Env) (s : Shared) (H : Hp) (vs : List V) (Q : VK) (E : XK), dZ k (A.deeper (envOfC qual scope s.heap.objs.size f cdv)) -> sp vs H Q E ->
   ∃ t, jR (lZ CX P w K mg base N qual scope f cdv A outer s H E) body t /\ t { nx := fun _ H' => Q .non H', rt := Q } (start N vs) H) :
 bS P w K mg base CX (k + 1) f (W.fnOf name qual params body scope dV kV doc pm an cdv ct) ps sp := by
 refine ⟨len, fun A outer s H args us vs Q E hr e0 hb r hsp => ?_⟩
 have hl := len _ _ _ _ hsp
 have KX : K.In s.heap := e0.mod.kin.keeps fun b o e => (e0.bs b o e).1
 have lim : s.heap.NoLimit := e0.mod.nolimit.keeps fun b o e => (e0.bs b o e).1
 have hkind : ∀ y ∈ ps.zip us, scope.names.lookup y.1 = some .local \/ (scope.names.lookup y.1 = some .cell /\ ((cellsFrom (s.heap.objs.size + 1) scope.names []).lookup y.1).isSome = true) := fun ⟨n, v⟩ hy => by
  rcases S.par n (List.of_mem_zip hy).1 with q | q
  ·exact .inl q
  ·exact .inr ⟨q, W.cellsFrom_some _ _ _ (.inl q)⟩
 refine codeAny_call_function hr.depth (KX _ _ lk) rfl S.co S.gen rfl (W.codeRec_of KX hcd) (hb _ _ _ _ ?_)
 refine wpAny_newFunctionEnv_cells S.kind hkind fun env he s1 x => ?_
 subst he
 refine ⟨lim.keeps x.toInCall.keep, codeAny_func ?_⟩
 obtain ⟨t, ht, hq⟩ := hbody A outer s H vs Q E (hr.deeper _) hsp
 have I : Inv (lZ CX P w K mg base N qual scope f cdv A outer s H E) [] (start N vs) H s1 := cP2 S hr.hd e0 hl r x
 refine wpAny_mono (ht [] s1 (start N vs) H _ I hq) (fun fl s' hs => ?_) fun e s' hs => hs
 have fin : ∀ {σ' : St} {H' : Hp} {v : V} {u : Value}, Inv (lZ CX P w K mg base N qual scope f cdv A outer s H E) [] σ' H' s' -> bW v u -> Q v H' -> CE outer P w H s Q u s' :=
  fun {σ' H' v u} J rv q => ⟨v, H', J.os, J.bare, J.base, J.hok, rv, q⟩
 cases fl with
 | ret u =>
  obtain ⟨v, σ', H', J, rv, q⟩ := hs
  exact fin J rv q
 | next =>
  obtain ⟨σ', H', J, q⟩ := hs
  exact fin (v := V.non) (u := Value.none) J rfl q
 | brk =>
  obtain ⟨_, _, _, q⟩ := hs
  exact False.elim q
 | cont =>
  obtain ⟨_, _, _, q⟩ := hs
  exact False.elim q
end L2
namespace L2
open PySem PySem.Spec PyProof.Rows
section
variable {X : Cx} {x : Str} {p pos : Pos} {e : Expr} {es : List Expr} {t : TA} {id T : String} {r : List V -> Hp -> VK -> Prop}
noncomputable def tCB (r : List V -> Hp -> VK -> Prop) (t : TA) : TE := fun σ H Q => t σ H fun vs H1 => r vs H1 Q
theorem bE8 (hc : fZ X (.builtin id) r) (hg : Gl X x) (hm : X.mg x = none) (hv : bootBuiltins x = some (.builtin id)) (ha : PA X (e :: es) t) (hn : x ≠ "__name__" := by decide) (hdb : (x == ("__debug__" : Str)) = false := by decide)
 (he : starEach (e :: es) X.env = (false, eval e X.env) :: starEach es X.env := by rfl) (hpl : (backTo pos (starEach es X.env)).any (·.1) = false := by rfl) : PE X (.Call (.Name x p) (e :: es) [] pos) (tCB r t) := by
 intro pins s σ H Q I h
 refine wpAny_Call_Name_kw (wC I hg hm hv ?_ hn hdb)
 exact PyProof.Rows.callWith_builtin1 (cH (ha pos pins s σ H _ I h) fun us s1 ⟨vs, H1, I1, r1, q1⟩ => hc pins s1 σ H1 vs us Q I1 r1 q1) he hpl
theorem yR (hc : fZ X (.type T) r) (hg : Gl X x) (hm : X.mg x = none) (hv : bootBuiltins x = some (.type T)) (ha : PA X (e :: es) t) (hn : x ≠ "__name__" := by decide) (hdb : (x == ("__debug__" : Str)) = false := by decide)
 (he : starEach (e :: es) X.env = (false, eval e X.env) :: starEach es X.env := by rfl) (hpl : (backTo pos (starEach es X.env)).any (·.1) = false := by rfl) : PE X (.Call (.Name x p) (e :: es) [] pos) (tCB r t) := by
 intro pins s σ H Q I h
 refine wpAny_Call_Name_kw (wC I hg hm hv ?_ hn hdb)
 exact PyProof.Rows.callWith_type1 (cH (ha pos pins s σ H _ I h) fun us s1 ⟨vs, H1, I1, r1, q1⟩ => hc pins s1 σ H1 vs us Q I1 r1 q1) he hpl
end
end L2
namespace HT
open PySem PyProof.Rows
section
open PySem.SeqAt
open PySem.AutoSeq1 (wpAny_loadPart')
open PySem.MeetsSeq PySem.MeetsSeq2 PySem.MeetsSeq3
end
section
variable {prog : Program} {w : World} {A : Around} {E : Value -> Shared -> Prop} {s : Shared}
theorem cat_tup {t b : Addr} {vs ws : List Value} {Q : Value -> Shared -> Prop} (ht : IsTup s.heap t vs.toArray) (hb : IsTup s.heap b ws.toArray) (hv : vs ≠ [])
 (h1 : ws = [] -> Q (.ref t) s) (h2 : ws ≠ [] -> Q (.ref s.heap.objs.size) { s with heap := s.heap.push { cls := .type "tuple", data := .seq (vs ++ ws).toArray } })
 (hsz : vs.length + ws.length <= sizeLine) : wpAny (model prog w) A (binaryOp .Add (.ref t) (.ref b)) Q E s := by
 obtain ⟨⟨cls, dd, data, sl⟩, ho, hc, n, hd⟩ := id ht
 obtain ⟨⟨cls2, dd2, data2, sl2⟩, ho2, hc2, n2, hd2⟩ := id hb
 simp only at hc hd hc2 hd2
 subst hc hd hc2 hd2
 have e : vs.toArray ++ ws.toArray = (vs ++ ws).toArray := by simp
 by_cases hw : ws = []
 ·exact concat_meets ⟨_, ho, rfl⟩ ⟨_, ho2, rfl⟩ noFill_tuple_add seq_tuple_add PySem.F.slot_tuple_add PySem.F.entry_tuple_add (PySem.F.args_tuple_add_2 _ _)
   (tuple_addW1 t b vs.toArray ws.toArray n n2 dd dd2 sl sl2 (by simpa using hv) (by simp [hw])) ⟨ho, ho2, h1 hw⟩
 ·refine concat_meets ⟨_, ho, rfl⟩ ⟨_, ho2, rfl⟩ noFill_tuple_add seq_tuple_add PySem.F.slot_tuple_add PySem.F.entry_tuple_add (PySem.F.args_tuple_add_2 _ _)
   (tuple_addW2 t b vs.toArray ws.toArray n n2 dd dd2 sl sl2 (by simpa using hv) (by simpa using hw) (by rw [List.size_toArray, List.size_toArray]; exact hsz)) ⟨ho, ho2, ?_⟩
  rw [e]
  exact h2 hw
noncomputable def sIx (n d : Nat) : Option Int -> Nat
 | none => d
 | some v => if v < 0 then (v + (n : Int)).toNat else min v.toNat n
theorem sIx_none (n d : Nat) : sIx n d none = d := rfl
theorem sIx_nat (n d k : Nat) : sIx n d (some (k : Int)) = min k n := by
 show (if (k : Int) < 0 then ((k : Int) + (n : Int)).toNat else min (k : Int).toNat n) = min k n
 rw [if_neg bE, Int.toNat_natCast]
theorem sIx_le (n d : Nat) (hd : d <= n) (o : Option Int) : sIx n d o <= n := by
 cases o with
 | none => exact hd
 | some v =>
  show (if v < 0 then (v + (n : Int)).toNat else min v.toNat n) <= n
  by_cases hv : v < 0
  ·rw [if_pos hv]; omega
  ·rw [if_neg hv]; exact Nat.min_le_right _ _
theorem bQ1 (v : Int) (n d : Nat) : (if v < 0 then max (v + (n : Int)) 0 else min v (n : Int)) = ((sIx n d (some v) : Nat) : Int) := by
 show (if v < 0 then max (v + (n : Int)) 0 else min v (n : Int)) = (((if v < 0 then (v + (n : Int)).toNat else min v.toNat n) : Nat) : Int)
 by_cases hv : v < 0
 ·simp only [if_pos hv]; omega
 ·simp only [if_neg hv]; omega
theorem cP4 (lo hi : Option Int) (n : Nat) : Builtin.Slice.sliceAdjust lo hi 1 (n : Int) = (((sIx n 0 lo : Nat) : Int), ((sIx n n hi : Nat) : Int)) := by
 have h1 : ¬ ((1 : Int) < 0) := by omega
 unfold Builtin.Slice.sliceAdjust
 simp only [h1, if_false]
 refine Prod.ext ?_ ?_
 ·cases lo with
  | none => rfl
  | some v => exact bQ1 v n 0
 ·cases hi with
  | none => rfl
  | some v => exact bQ1 v n n
theorem cP5 (i j : Nat) : Builtin.Slice.slicePlaces (i : Int) (j : Int) 1 = j - i := by
 unfold Builtin.Slice.slicePlaces
 have h1 : (1 : Int) > 0 := by omega
 simp only [h1, if_true, Int.ediv_one]
 split <;> omega
theorem bQ2 {v : Value} {o : Option Int} {Q : Option Int -> Shared -> Prop} (p : IsPart v o) (h : Q o s) : wpAny (model prog w) A (Builtin.Slice.slicePartIndex v) Q E s := by
 cases p with
 | none => exact slicePart_none h
 | int i t => exact slicePart_int h
theorem sliceApplied_gen {sl : Addr} {vl vu : Value} {lo hi : Option Int} {n : Nat} {Q : Int × Int × Nat -> Shared -> Prop} (hs : s.heap.IsSliceOf sl vl vu .none) (pl : IsPart vl lo) (pu : IsPart vu hi)
 (h : Q (((sIx n 0 lo : Nat) : Int), 1, sIx n n hi - sIx n 0 lo) s) : wpAny (model prog w) A (Builtin.Slice.sliceApplied (.ref sl) (pure (n : Int))) Q E s := by
 obtain ⟨os, hos, hcs, hds⟩ := id hs
 unfold Builtin.Slice.sliceApplied Builtin.Slice.sliceFields
 refine wpAny_bind (wpAny_bind (wpAny_field hos hds (x := vl) rfl (wpAny_bind (wpAny_field hos hds (x := vu) rfl (wpAny_bind (wpAny_field hos hds (x := .none) rfl (wpAny_pure ?_)))))))
 refine wpAny_bind (slicePart_none ?_)
 show wpAny _ _ (if ((1 : Int) == 0) = true then _ else _) _ _ s
 rw [if_neg (by decide)]
 refine wpAny_bind (bQ2 pl (wpAny_bind (bQ2 pu (wpAny_bind (wpAny_pure ?_)))))
 show wpAny _ _ (match Builtin.Slice.sliceAdjust lo hi 1 (n : Int) with | (lo, hi) => pure (lo, (1 : Int), Builtin.Slice.slicePlaces lo hi 1)) _ _ s
 rw [cP4 lo hi n]
 show wpAny _ _ (pure (((sIx n 0 lo : Nat) : Int), (1 : Int), Builtin.Slice.slicePlaces ((sIx n 0 lo : Nat) : Int) ((sIx n n hi : Nat) : Int) 1)) _ _ s
 rw [cP5]
 exact wpAny_pure h
theorem cP6 (xs : Array Value) (i k : Nat) : ((List.range k).filterMap fun (m : Nat) => xs[((i : Int) + (m : Int) * 1).toNat]?).toArray = ((xs.toList.drop i).take k).toArray := by
 have e : (fun (m : Nat) => xs[((i : Int) + (m : Int) * 1).toNat]?) = fun m => xs[i + m]? := by
  funext m
  have : ((i : Int) + (m : Int) * 1).toNat = i + m := by omega
  rw [this]
 rw [e]
 have := pick_run xs i k
 rw [List.filterMap_map] at this
 have e2 : ((fun x => xs[x]?) ∘ fun x => i + x) = fun m => xs[i + m]? := rfl
 rw [e2] at this
 rw [this]
theorem getItem_tuple_cut {t sl : Addr} {items : Array Value} {vl vu : Value} {lo hi : Option Int} {Q : Value -> Shared -> Prop} (ht : IsTup s.heap t items) (hs : s.heap.IsSliceOf sl vl vu .none) (pl : IsPart vl lo) (pu : IsPart vu hi)
 (hw : ¬ (sIx items.size 0 lo = 0 /\ sIx items.size items.size hi = items.size))
 (h : Q (.ref s.heap.objs.size) { s with heap := s.heap.push { cls := .type "tuple", data := .seq ((items.toList.drop (sIx items.size 0 lo)).take (sIx items.size items.size hi - sIx items.size 0 lo)).toArray } })
 (hsz : items.size <= sizeLine) : wpAny (model prog w) A (getItem (.ref t) (.ref sl)) Q E s := by
 have htake : sizeOk (.seq ((items.toList.drop (sIx items.size 0 lo)).take (sIx items.size items.size hi - sIx items.size 0 lo)).toArray) := by
  show ((items.toList.drop (sIx items.size 0 lo)).take (sIx items.size items.size hi - sIx items.size 0 lo)).toArray.size <= sizeLine
  rw [List.size_toArray, List.length_take, List.length_drop, Array.length_toList]
  omega
 have hj : sIx items.size items.size hi <= items.size := sIx_le _ _ (Nat.le_refl _) hi
 obtain ⟨os, hos, hcs, hds⟩ := id hs
 have hTs : s.TypeIs (.ref sl) "slice" := ⟨os, hos, hcs⟩
 unfold getItem
 try with_reducible refine wpAny_holding ?_
 first | refine wpAny_bind (wpAny_pure ?_) | skip
 refine wpAny_bind (wpAny_sequenceKey ht.typeIs (by decide) ?_)
 refine wpAny_bind (wpAny_callSpecial?_slot (name := Str.ofString "__getitem__") ht.typeIs PyProof.Rows.slot_tuple_getitem
  (wpAny_call_entry PyProof.Rows.slot_tuple_getitem ht.typeIs entry_tuple_getitem ?_ (args_tuple_getitem _ _)))
 show wpAny _ _ (Builtin.Tuple.tupleItemsOf (.ref t) >>= _) _ _ s
 refine wpAny_bind (tupleItemsOf_ ht ?_)
 refine wpAny_bind (wpAny_typeOf hTs ?_)
 rw [if_pos (by decide)]
 refine wpAny_bind (sliceApplied_gen hs pl pu ?_)
 have hno : ¬ ((((sIx items.size 0 lo : Nat) : Int) == 0 && (1 : Int) == 1 && (sIx items.size items.size hi - sIx items.size 0 lo) == items.size) = true) := by
  intro q
  rw [Bool.and_eq_true, Bool.and_eq_true] at q
  have q1 : ((sIx items.size 0 lo : Nat) : Int) = 0 := eq_of_beq q.1.1
  have q2 : sIx items.size items.size hi - sIx items.size 0 lo = items.size := eq_of_beq q.2
  exact hw ⟨by omega, by omega⟩
 show wpAny _ _ (if (((sIx items.size 0 lo : Nat) : Int) == 0 && (1 : Int) == 1 && (sIx items.size items.size hi - sIx items.size 0 lo) == items.size) = true then _ else _) _ _ s
 rw [if_neg hno, cP6]
 first
  | exact wpAny_bind (m := Builtin.Tuple.tupleExact _) (wpAny_newObj_type (wpAny_pure ⟨_, rfl, wpAny_pure h⟩) htake)
  | exact wpAny_bind (m := Builtin.Tuple.tupleExact _) (wpAny_newObj_type (wpAny_bind (wpAny_pure (wpAny_pure ⟨_, rfl, wpAny_pure h⟩))) htake)
  | exact wpAny_bind (wpAny_bind (m := Builtin.Tuple.tupleExact _) (wpAny_newObj_type (wpAny_pure (wpAny_pure ⟨_, rfl, wpAny_pure h⟩)) htake))
  | exact wpAny_bind (wpAny_bind (m := Builtin.Tuple.tupleExact _) (wpAny_newObj_type (wpAny_pure ⟨_, rfl, wpAny_pure h⟩) htake))
end
end HT
namespace L2
open PySem PySem.Spec PyProof.Rows
noncomputable abbrev TO := St -> Hp -> (Option Int -> Hp -> Prop) -> Prop
def PO (X : Cx) (e : Option Expr) (t : TO) : Prop :=
 ∀ (pins : List (Addr × Obj)) (s : Shared) (σ : St) (H : Hp) (Q : Option Int -> Hp -> Prop), Inv X pins σ H s -> t σ H Q ->
   wpAny (model X.prog X.w) X.A (evalPart e X.env) (fun u s' => ∃ o H', Inv X pins σ H' s' /\ IsPart u o /\ Q o H') X.xe s
noncomputable def cP7 : TO := fun _ H Q => Q none H
noncomputable def cP8 (t : TE) : TO := fun σ H Q => t σ H fun x H1 => ∃ i, x = .int i /\ Q (some i) H1
section
variable {X : Cx} {e : Expr} {te : TE} {lo hi : Option Expr} {tl th : TO} {pos p2 : Pos}
theorem cP9 : PO X none cP7 := by
 intro pins s σ H Q I h
 rw [evalPart_none]
 exact wpAny_pure ⟨none, H, I, .none, h⟩
theorem cQ0 (h : PE X e te) : PO X (some e) (cP8 te) := by
 intro pins s σ H Q I hw
 rw [evalPart_some]
 refine cH (h pins s σ H _ I hw) fun u s1 ⟨x, H1, I1, r1, q1⟩ => ?_
 obtain ⟨i, rfl, q⟩ := q1
 obtain ⟨t, rfl⟩ := r1
 exact ⟨some i, H1, I1, .int i t, q⟩
def yS (X : Cx) (r : V -> Option Int -> Option Int -> Hp -> VK -> Prop) : Prop :=
 ∀ (pins : List (Addr × Obj)) (s : Shared) (σ : St) (H : Hp) (x : V) (v vl vu : Value) (lo hi : Option Int) (sl : Addr) (Q : VK), Inv X pins σ H s -> bW x v -> s.heap.IsSliceOf sl vl vu .none -> IsPart vl lo -> IsPart vu hi -> r x lo hi H Q ->
   ∃ T id, typeLookup (.type T) "__getitem__" = pure (some (.builtin id)) /\ s.TypeIs v T /\ wpAny (model X.prog X.w) X.A (getItem v (.ref sl)) (EP X pins σ Q) X.xe s
noncomputable def tSl (r : V -> Option Int -> Option Int -> Hp -> VK -> Prop) (te : TE) (tl th : TO) : TE := fun σ H Q => te σ H fun x H1 => tl σ H1 fun l H2 => th σ H2 fun u H3 => r x l u H3 Q
theorem cQ2 {r : V -> Option Int -> Option Int -> Hp -> VK -> Prop} (hr : yS X r) (he : PE X e te) (hl : PO X lo tl) (hu : PO X hi th) : PE X (.Subscript e (.Slice lo hi none p2) pos) (tSl r te tl th) := by
 intro pins s σ H Q I h
 refine Subscript_ (cH (he pins s σ H _ I h) fun v s1 ⟨x, H1, I1, r1, q1⟩ => ?_)
 refine wpAny_Slice (cH (hl pins s1 σ H1 _ I1 q1) fun vl s2 ⟨l, H2, I2, pl, q2⟩ => cH (hu pins s2 σ H2 _ I2 q2) fun vu s3 ⟨u, H3, I3, pu, q3⟩ => ?_)
 rw [evalPart_none]
 refine wpAny_pure ?_
 have I4 : Inv X pins σ H3 { s3 with heap := s3.heap.push { cls := .type "slice", data := .fields #[vl, vu, .none] } } := I3.kept (t' := s3.toks) fun b ob q => Heap.get?_push_of_some _ q
 obtain ⟨T, id, hT, ht, hg⟩ := hr pins { s3 with heap := s3.heap.push { cls := .type "slice", data := .fields #[vl, vu, .none] } } σ H3 x v vl vu l u s3.heap.objs.size Q I4 r1 (Heap.IsSliceOf.new ..) pl pu q3
 show wpAny (model X.prog X.w) X.A (subscriptTail e (.Slice lo hi none p2) v (.ref s3.heap.objs.size)) (EP X pins σ Q) X.xe { s3 with heap := s3.heap.push { cls := .type "slice", data := .fields #[vl, vu, .none] } }
 exact tail_any (ops := [.ref s3.heap.objs.size, v]) ht hT hg (by with_unfolding_all rfl)
noncomputable def pC (xs : List V) (lo hi : Option Int) : List V := (xs.drop (HT.sIx xs.length 0 lo)).take (HT.sIx xs.length xs.length hi - HT.sIx xs.length 0 lo)
theorem bQ3 (xs : List V) (lo hi : Option Int) : (pC xs lo hi).length <= xs.length := by
 unfold pC
 rw [List.length_take, List.length_drop]
 omega
def cQ3 (K : W.Frag) : V -> Option Int -> Option Int -> Hp -> VK -> Prop := fun x lo hi H Q => ∃ a xs, x = .ref a /\ fB K H a xs /\
 ¬ (HT.sIx xs.length 0 lo = 0 /\ HT.sIx xs.length xs.length hi = xs.length) /\ ∀ p, H p = none -> Q (.ref p) (upd H p (.tup (pC xs lo hi)))
theorem cQ4 : yS X (cQ3 X.K) := by
 intro pins s σ H x v vl vu lo hi sl Q I rx hs pl pu h
 obtain ⟨a, xs, rfl, hx, hw, q⟩ := h
 cases rx
 obtain ⟨its, r, ht, hz⟩ := I.tuple hx
 have hlen : its.toArray.size = xs.length := by rw [List.size_toArray]; exact r.length.symm
 refine ⟨"tuple", _, PyProof.Rows.slot_tuple_getitem.lookup, ht.typeIs, ?_⟩
 refine HT.getItem_tuple_cut ht hs pl pu (by rw [hlen]; exact hw) ?_ (by rw [hlen]; exact hz)
 rw [hlen]
 refine ⟨.ref s.heap.objs.size, _, I.laid (t' := s.toks) (o := .tup (pC xs lo hi)) (fun b ob q => Heap.get?_push_of_some _ q) (Nat.le_refl _) ?_, rfl, q _ (I.hok.fresh (Nat.le_refl _))⟩
 exact ⟨Nat.le_trans (bQ3 xs lo hi) hz, _, (r.drop (HT.sIx xs.length 0 lo)).take (HT.sIx xs.length xs.length hi - HT.sIx xs.length 0 lo), lL.new _ _⟩
noncomputable def cQ5 (K : W.Frag) : R2 := fun x y H Q => ∃ a b xs ys, x = .ref a /\ y = .ref b /\ fB K H a xs /\ fB K H b ys /\ xs ≠ [] /\ xs.length + ys.length <= sizeLine /\
 (ys = [] -> Q (.ref a) H) /\ (ys ≠ [] -> ∀ p, H p = none -> Q (.ref p) (upd H p (.tup (xs ++ ys))))
theorem cG.nil_iff {xs : List V} {us : List Value} (r : cG xs us) : us = [] ↔ xs = [] := by
 cases r with
 | nil => simp
 | cons _ _ => simp
theorem cQ6 : cT X (binaryOp .Add) (cQ5 X.K) := by
 intro pins s σ H x y v u Q I rx ry h
 obtain ⟨a, b, xs, ys, rfl, rfl, ha, hb, hx, hz, q1, q2⟩ := h
 cases rx
 cases ry
 obtain ⟨its, r1, p1, _⟩ := I.tuple ha
 obtain ⟨its2, r2, p2, _⟩ := I.tuple hb
 refine HT.cat_tup p1 p2 (fun z => hx (r1.nil_iff.mp z)) (fun z => ⟨.ref a, H, I, rfl, q1 (r2.nil_iff.mp z)⟩) (fun z => ?_) (by rw [<- r1.length, <- r2.length]; exact hz)
 refine ⟨.ref s.heap.objs.size, _, I.laid (t' := s.toks) (o := .tup (xs ++ ys)) (fun b ob q => Heap.get?_push_of_some _ q) (Nat.le_refl _) ?_, rfl, q2 (fun w => z (r2.nil_iff.mpr w)) _ (I.hok.fresh (Nat.le_refl _))⟩
 exact ⟨by rw [List.length_append]; exact hz, _, r1.append r2, lL.new _ _⟩
end
end L2
namespace L2
open PySem PySem.Spec PyProof.Rows
noncomputable def qM (n : Nat) (i : Int) : Option Nat := if 0 <= i then (if i < n then some i.toNat else none) else if -(n : Int) <= i then some (i + n).toNat else none
noncomputable def gG {α : Type} (xs : List α) (i : Int) : Option α := (qM xs.length i).bind fun j => xs[j]?
theorem cQ7 {n : Nat} {i : Int} {j : Nat} (h : qM n i = some j) : seqIndex? i n = some j /\ j < n /\ -(n : Int) <= i /\ i < n := by
 unfold qM at h
 by_cases h0 : 0 <= i
 ·rw [if_pos h0] at h
  by_cases h1 : i < n
  ·rw [if_pos h1] at h
   have e : i.toNat = j := Option.some.inj h
   exact ⟨by rw [seqIndex_of h0 h1, e], by omega, by omega, h1⟩
  ·rw [if_neg h1] at h; cases h
 ·rw [if_neg h0] at h
  by_cases h1 : -(n : Int) <= i
  ·rw [if_pos h1] at h
   have e : (i + n).toNat = j := Option.some.inj h
   exact ⟨by rw [seqIndex_neg bE h1, e], by omega, h1, by omega⟩
  ·rw [if_neg h1] at h; cases h
theorem bE9 {α : Type} {xs : List α} {i : Int} {v : α} (h : gG xs i = some v) : ∃ j, seqIndex? i xs.length = some j /\ xs[j]? = some v /\ j < xs.length /\ -(xs.length : Int) <= i /\ i < xs.length := by
 unfold gG at h
 cases e : qM xs.length i with
 | none => rw [e] at h; cases h
 | some j =>
  rw [e] at h
  obtain ⟨h1, h2, h3, h4⟩ := cQ7 e
  exact ⟨j, h1, h, h2, h3, h4⟩
theorem wI {α : Type} {xs : List α} {j : Nat} {v : α} (h : xs[j]? = some v) : gG xs (j : Int) = some v := by
 have hj : j < xs.length := (List.getElem?_eq_some_iff.mp h).1
 have e : qM xs.length (j : Int) = some j := by
  unfold qM
  rw [if_pos bE, if_pos bE]; simp
 unfold gG; rw [e]; exact h
def yT (b : Expr) : Prop := ∀ o i, subscripted b false o i = operate [o, i] (getItem o i)
def sM (X : Cx) (r : R2) : Prop :=
 ∀ (value slice : Expr) (pins : List (Addr × Obj)) (s : Shared) (σ : St) (H : Hp) (x y : V) (v u : Value) (Q : VK), Inv X pins σ H s -> bW x v -> bW y u -> r x y H Q ->
   subscripted slice false v u = operate [v, u] (getItem v u) -> wpAny (model X.prog X.w) X.A (subscriptTail value slice v u) (EP X pins σ Q) X.xe s
def MtR (X : Cx) (id : String) (r : V -> List V -> Hp -> VK -> Prop) : Prop :=
 ∀ (pins : List (Addr × Obj)) (s : Shared) (σ : St) (H : Hp) (x : V) (xs : List V) (v : Value) (us : List Value) (Q : VK), Inv X pins σ H s -> bW x v -> cG xs us -> r x xs H Q ->
   wpAny (model X.prog X.w) X.A (call (.builtin id) (v :: us)) (EP X pins σ Q) X.xe s
section
variable {X : Cx} {a b : Expr} {ta tb : TE} {pos : Pos}
theorem cQ8 {r : R2} (hr : sM X r) (ha : PE X a ta) (hb : PE X b tb) (hs : yT b) : PE X (.Subscript a b pos) (wH r ta tb) := by
 intro pins s σ H Q I h
 exact Subscript_ (bE0 ha hb I h fun v u s2 x y H2 I2 rx ry q => hr a b pins s2 σ H2 x y v u Q I2 rx ry q (hs _ _))
noncomputable def cQ9 (K : W.Frag) : R2 := fun x y H Q => ∃ p xs i v, x = .ref p /\ y = .int i /\ dN K H p xs /\ gG xs i = some v /\ Q v H
noncomputable def cR0 (K : W.Frag) : R2 := fun x y H Q => ∃ p xs i v, x = .ref p /\ y = .int i /\ fB K H p xs /\ gG xs i = some v /\ Q v H
noncomputable def cR1 : R2 := fun x y H Q => ∃ z i c, x = .str z /\ y = .int i /\ z.length <= sizeLine /\ gG z.cps.toList i = some c /\ Q (.str ⟨#[c]⟩) H
theorem cR2 : sM X (cQ9 X.K) := by
 intro value slice pins s σ H x y v u Q I rx ry h hs
 obtain ⟨p, xs, i, z, rfl, rfl, hq, he, q⟩ := h
 cases rx
 obtain ⟨t, rfl⟩ := ry
 obtain ⟨its, r, pl, hz⟩ := I.list hq
 obtain ⟨j, h1, h2, h3, h4, h5⟩ := bE9 he
 obtain ⟨w, ew, rw'⟩ := r.get h2
 have hl := r.length
 have hn := sL
 have fin : EP X pins σ Q w s := ⟨z, H, I, rw', q⟩
 by_cases h0 : 0 <= i
 ·have hj : i.toNat = j := by
   rw [seqIndex_of h0 h5] at h1
   exact Option.some.inj h1
  exact item_listR pl.isList h0 bE (by rw [hj]; simpa using ew) fin hs
 ·have hj : (i + (its.toArray.size : Int)).toNat = j := by
   rw [seqIndex_neg bE h4] at h1
   rw [List.size_toArray, <- hl]
   exact Option.some.inj h1
  exact subscriptTail_builtinR (x := w) pl.isList.typeIs slot_list_getitem.lookup
   (wpAny_getItem_list_neg (Q := fun r s' => r = w /\ EP X pins σ Q r s') pl.isList bE (by rw [List.size_toArray] <;> omega) bE (by rw [hj]; simpa using ew) ⟨rfl, fin⟩) hs
theorem cR3 : sM X (cR0 X.K) := by
 intro value slice pins s σ H x y v u Q I rx ry h hs
 obtain ⟨p, xs, i, z, rfl, rfl, hq, he, q⟩ := h
 cases rx
 obtain ⟨t, rfl⟩ := ry
 obtain ⟨its, r, pl, hz⟩ := I.tuple hq
 obtain ⟨j, h1, h2, h3, h4, h5⟩ := bE9 he
 obtain ⟨w, ew, rw'⟩ := r.get h2
 have hl := r.length
 have hn := sL
 have fin : EP X pins σ Q w s := ⟨z, H, I, rw', q⟩
 exact subscriptTail_builtinR (x := w) pl.typeIs slot_tuple_getitem.lookup
  (getItem_tuple (j := j) (Q := fun r s' => r = w /\ EP X pins σ Q r s') pl bE bE (by rw [List.size_toArray, <- hl]; exact h1) (by simpa using ew) ⟨rfl, fin⟩) hs
theorem cR4 : sM X cR1 := by
 intro value slice pins s σ H x y v u Q I rx ry h hs
 obtain ⟨z, i, c, rfl, rfl, hz, he, q⟩ := h
 obtain ⟨t, rfl⟩ := rx
 obtain ⟨t', rfl⟩ := ry
 obtain ⟨j, h1, h2, h3, h4, h5⟩ := bE9 he
 have hl : z.cps.toList.length = z.length := by simp [Str.length]
 rw [hl] at h1 h4 h5
 have hn := sL
 exact tail_any (typeIs_str s z t) slot_str_getitem.lookup (getItem_str (c := c) (by
  have e1 : decide (i < -(2 ^ 63 : Int)) = false := decide_eq_false bE
  have e2 : decide (i ≥ 2 ^ 63) = false := decide_eq_false bE
  rw [e1, e2, Bool.or_false]) (by rw [h1]; simpa using h2) ⟨.str ⟨#[c]⟩, H, I.tok _, ⟨_, rfl⟩, q⟩) hs
theorem cR5 (lo hi : Option Int) (n : Nat) : (sliceBounds lo hi none n).1 = ((HT.sIx n 0 lo : Nat) : Int) /\ (sliceBounds lo hi none n).2.1 = ((HT.sIx n n hi : Nat) : Int) /\ (sliceBounds lo hi none n).2.2 = 1 := by
 refine ⟨?_, ?_, rfl⟩
 ·cases lo with
  | none => simp [sliceBounds, HT.sIx]
  | some i =>
   simp only [sliceBounds, HT.sIx, Option.getD_none, show (1 : Int) > 0 by decide, if_true]
   by_cases h : i < 0
   ·simp only [h, if_true] <;> omega
   ·simp only [h, if_false] <;> omega
 ·cases hi with
  | none => simp [sliceBounds, HT.sIx]
  | some i =>
   simp only [sliceBounds, HT.sIx, Option.getD_none, show (1 : Int) > 0 by decide, if_true]
   by_cases h : i < 0
   ·simp only [h, if_true] <;> omega
   ·simp only [h, if_false] <;> omega
theorem cR6 (its : List Value) (lo hi : Option Int) : slicePick its.toArray lo hi none = ((its.drop (HT.sIx its.length 0 lo)).take (HT.sIx its.length its.length hi - HT.sIx its.length 0 lo)).toArray := by
 obtain ⟨h1, h2, h3⟩ := cR5 lo hi its.toArray.size
 unfold slicePick
 rw [h1, h2, h3]
 simp only [sliceRange_one, pick_run, List.size_toArray] <;> rfl
def cR7 (K : W.Frag) : V -> Option Int -> Option Int -> Hp -> VK -> Prop := fun x lo hi H Q => ∃ a xs, x = .ref a /\ dN K H a xs /\ ∀ p, H p = none -> Q (.ref p) (upd H p (.lst (pC xs lo hi)))
theorem cR8 : yS X (cR7 X.K) := by
 intro pins s σ H x v vl vu lo hi sl Q I rx hs pl pu h
 obtain ⟨a, xs, rfl, hx, q⟩ := h
 cases rx
 obtain ⟨its, r, ht, hz⟩ := I.list hx
 have hlen := r.length
 refine ⟨"list", _, slot_list_getitem.lookup, ht.isList.typeIs, ?_⟩
 refine wpAny_getItem_list_slice ht.isList hs pl pu .none (by simp) ?_ (by rw [List.size_toArray] <;> omega)
 rw [cR6, <- hlen]
 refine ⟨.ref s.heap.objs.size, _, I.laid (t' := s.toks) (o := .lst (pC xs lo hi)) (fun b ob q => Heap.get?_push_of_some _ q) (Nat.le_refl _) ?_, rfl, q _ (I.hok.fresh (Nat.le_refl _))⟩
 exact ⟨Nat.le_trans (bQ3 xs lo hi) hz, _, 0, (r.drop (HT.sIx xs.length 0 lo)).take (HT.sIx xs.length xs.length hi - HT.sIx xs.length 0 lo), Heap.get?_push_size _ rfl⟩
theorem bQ5 : fZ X (.builtin "len") (fun xs H Q => ∃ p ys, xs = [.ref p] /\ (dN X.K H p ys \/ fB X.K H p ys) /\ Q (.int ys.length) H) := by
 intro pins s σ H xs us Q I r h
 obtain ⟨p, ys, rfl, hq, q⟩ := h
 obtain ⟨u, rfl, rx⟩ := qL r
 cases rx
 have hn := sL
 rcases hq with hq | hq
 ·obtain ⟨its, r', pl, hz⟩ := I.list hq
  have hlen := r'.length
  exact Calls.call_len_list pl.isList (by simp only [List.size_toArray] <;> omega) ⟨.int ys.length, H, I.tok _, ⟨s.toks + 1, by rw [List.size_toArray, hlen]⟩, q⟩
 ·obtain ⟨its, r', pl, hz⟩ := I.tuple hq
  have hlen := r'.length
  exact len_tuple pl (by simp only [List.size_toArray] <;> omega) ⟨.int ys.length, H, I.tok _, ⟨s.toks + 1, by rw [List.size_toArray, hlen]⟩, q⟩
theorem cR9 : fZ X (.builtin "len") (fun xs H Q => ∃ z, xs = [.str z] /\ z.length <= sizeLine /\ Q (.int z.length) H) := by
 intro pins s σ H xs us Q I r h
 obtain ⟨z, rfl, hz, q⟩ := h
 obtain ⟨u, rfl, t, rfl⟩ := qL r
 have hn := sL
 exact len_str bE ⟨.int z.length, H, I.tok _, ⟨_, rfl⟩, q⟩
theorem bQ6 : fZ X (.type "list") (fun xs H Q => ∃ p ys, xs = [.ref p] /\ (dN X.K H p ys \/ fB X.K H p ys) /\ ∀ l, H l = none -> Q (.ref l) (upd H l (.lst ys))) := by
 intro pins s σ H xs us Q I r h
 obtain ⟨p, ys, rfl, hq, q⟩ := h
 obtain ⟨u, rfl, rx⟩ := qL r
 cases rx
 have fin : ∀ (its : List Value), cG ys its -> ys.length <= sizeLine -> ∀ (h' : Heap) (c' : Nat), (∀ b o', s.heap.get? b = some o' -> h'.get? b = some o') ->
  h'.get? s.heap.objs.size = some { cls := .type "list", dict := none, data := .seq its.toArray c', slots := #[] } -> EP X pins σ Q (.ref s.heap.objs.size) { s with heap := h' } := fun its r' hz h' c' kp e =>
  ⟨.ref s.heap.objs.size, _, I.laid (t' := s.toks) kp (Nat.le_refl _) (show fL X.prog X.w _ h' _ (.lst ys) from ⟨hz, its, c', r', e⟩), rfl, q _ (I.hok.fresh (Nat.le_refl _))⟩
 rcases hq with hq | hq
 ·obtain ⟨its, r', pl, hz⟩ := I.list hq
  have hlen := r'.length
  obtain ⟨o, ho, hc, n, hd⟩ := pl.isList
  exact call_list_seq p (.inl rfl) ho hc hd (fun h' c' kp e => fin its r' hz h' c' kp e) (by simp only [List.size_toArray] <;> omega)
 ·obtain ⟨its, r', pl, hz⟩ := I.tuple hq
  have hlen := r'.length
  obtain ⟨o, ho, hc, n, hd⟩ := pl
  exact call_list_seq p (.inr rfl) ho hc hd (fun h' c' kp e => fin its r' hz h' c' kp e) (by simp only [List.size_toArray] <;> omega)
theorem bQ7 : fZ X (.type "tuple") (fun xs H Q => ∃ p ys, xs = [.ref p] /\ ((dN X.K H p ys /\ ∀ l, H l = none -> Q (.ref l) (upd H l (.tup ys))) \/ (fB X.K H p ys /\ Q (.ref p) H))) := by
 intro pins s σ H xs us Q I r h
 obtain ⟨p, ys, rfl, h⟩ := h
 obtain ⟨u, rfl, rx⟩ := qL r
 cases rx
 rcases h with ⟨hq, q⟩ | ⟨hq, q⟩
 ·obtain ⟨its, r', pl, hz⟩ := I.list hq
  have hlen := r'.length
  refine call_tuple_list pl.isList (fun h' kp => ?_) (by simp only [List.size_toArray] <;> omega)
  have I1 : Inv X pins σ H { s with heap := h' } := I.kept (t' := s.toks) kp
  have I2 : Inv X pins σ (upd H h'.objs.size (.tup ys)) { s with heap := h'.push { cls := .type "tuple", data := .seq its.toArray } } :=
   I1.laid (t' := s.toks) (fun b o e => Heap.get?_push_of_some _ e) (Nat.le_refl _) (show fL X.prog X.w _ _ _ (.tup ys) from ⟨hz, its, r', lL.new _ _⟩)
  exact ⟨.ref h'.objs.size, _, I2, rfl, q _ (I1.hok.fresh (Nat.le_refl _))⟩
 ·obtain ⟨its, r', pl, hz⟩ := I.tuple hq
  exact call_tuple_same pl ⟨.ref p, H, I, rfl, q⟩
def tyV (K : W.Frag) (T : String) (x : V) (H : Hp) : Prop := match x with
 | .str _ => T = "str"
 | .int _ => T = "int"
 | .ref p => (T = "list" /\ ∃ xs, dN K H p xs) \/ (T = "tuple" /\ ∃ o, K.lookup p = some o /\ o.cls = .type "tuple" /\ o.dict = none) \/
  (T = "dict" /\ ((∃ kvs, H p = some (.dK kvs)) \/ ∃ kvs, H p = some (.dT kvs))) \/ (T = "set" /\ ∃ S n, H p = some (.set S n))
 | _ => False
theorem cS0 {pins : List (Addr × Obj)} {σ : St} {H : Hp} {s : Shared} {T : String} {x : V} {v : Value} (I : Inv X pins σ H s) (r : bW x v) (ty : tyV X.K T x H) :
 s.TypeIs v T /\ ∀ a, v = .ref a -> ∃ ob, s.heap.get? a = some ob /\ ob.dict = none := by
 cases x with
 | str z =>
  obtain ⟨t, rfl⟩ := r
  cases (show T = "str" from ty)
  exact ⟨typeIs_str s z t, fun _ e => nomatch e⟩
 | int i =>
  obtain ⟨t, rfl⟩ := r
  cases (show T = "int" from ty)
  exact ⟨typeIs_int s i t, fun _ e => nomatch e⟩
 | ref p =>
  cases r
  rcases ty with ⟨rfl, xs, hq⟩ | ⟨rfl, o, hk, hc, hd⟩ | ⟨rfl, hk⟩ | ⟨rfl, S, n, hk⟩
  ·obtain ⟨its, _, pl, _⟩ := I.list hq
   refine ⟨pl.isList.typeIs, fun a e => ?_⟩
   cases e
   obtain ⟨o, n, e, c, hd, _⟩ := pl
   exact ⟨o, e, hd⟩
  ·refine ⟨⟨o, I.kIn p o hk, hc⟩, fun a e => ?_⟩
   cases e
   exact ⟨o, I.kIn _ o hk, hd⟩
  ·have z : ∃ o, s.heap.get? p = some o /\ o.ExactDict := by
    rcases hk with ⟨kvs, hk⟩ | ⟨kvs, hk⟩
    ·obtain ⟨_, _, _, _, o, _, _, e, ex, _⟩ := I.hok p _ hk
     exact ⟨o, e, ex⟩
    ·obtain ⟨_, _, _, _, o, _, _, e, ex, _⟩ := I.hok p _ hk
     exact ⟨o, e, ex⟩
   obtain ⟨o, e, ex⟩ := z
   refine ⟨⟨o, e, ex.1⟩, fun a e2 => ?_⟩
   cases e2
   exact ⟨o, e, ex.2.1⟩
  ·obtain ⟨o, _, _, _, e, ex, _⟩ := I.hok p _ hk
   refine ⟨⟨o, e, ex.1⟩, fun a e2 => ?_⟩
   cases e2
   exact ⟨o, e, ex.2.1⟩
 | _ => exact False.elim ty
noncomputable def tBM (K : W.Frag) (T : String) (r : V -> List V -> Hp -> VK -> Prop) (to : TE) (t : TA) : TE := fun σ H Q => to σ H fun x H1 => tyV K T x H1 /\ t σ H1 fun xs H2 => r x xs H2 Q
variable {o e : Expr} {es : List Expr} {to : TE} {t : TA} {name : Str} {apos cpos : Pos} {T id : String} {r : V -> List V -> Hp -> VK -> Prop}
theorem cS2 (pa : PlainAttrs T) (slot : Slot T name id) (hty : typeOf (.builtin id) = pure (.type "method_descriptor")) (hm : MtR X id r) (ho : PE X o to) (ha : PA X (e :: es) t)
 (hbase : attributeBase o name X.env (eval o X.env) = eval o X.env := by rfl)
 (hfew : ((backTo cpos (starEach (e :: es) X.env)).all (fun x => !x.1) && (backToKw cpos (keywordEach [] X.env)).all (fun x => x.1.isSome)
   && decide ((e :: es).length + ([] : List Keyword).length + (if ([] : List Keyword).isEmpty then 0 else 1) < 30)) = true := by rfl)
 (hline : (apos.endLine == cpos.line) = true := by rfl) (hs : starEach (e :: es) X.env = (false, eval e X.env) :: starEach es X.env := by rfl) (hplain : (backTo cpos (starEach es X.env)).any (·.1) = false := by rfl) :
 PE X (.Call (.Attribute o name apos) (e :: es) [] cpos) (tBM X.K T r to t) := by
 intro pins s σ H Q I h
 refine wpAny_Call_method_late hbase hfew hline rfl (cH (ho pins s σ H _ I h) fun v s1 ⟨x, H1, I1, r1, ty, q1⟩ => ?_)
 obtain ⟨h1, h2⟩ := cS0 I1 r1 ty
 refine ⟨T, id, pa, slot, hty, h1, h2, ?_⟩
 have hA := ha cpos pins s1 σ H1 _ I1 q1
 rw [hs] at hA ⊢
 refine Calls.callWith_builtin (by show (false || (backTo cpos (starEach es X.env)).any (·.1)) = false; rw [hplain] <;> rfl) (Calls.evalArgs_plain ?_)
 exact cH hA fun us s2 ⟨vs, H2, I2, r2, q2⟩ => hm pins s2 σ H2 x vs v us Q I2 r1 r2 q2
/- xs.append(e), list.index on a module's tuple .. are MtR facts of 06m -/
end
end L2
namespace L2
open PySem PySem.Spec PyProof.Rows
def MtM (X : Cx) (id : String) (r : V -> List V -> Hp -> VK -> Prop) : Prop :=
 ∀ (pins : List (Addr × Obj)) (s : Shared) (σ : St) (H : Hp) (x : V) (xs : List V) (v : Value) (us : List Value) (Q : VK), Inv X pins σ H s -> bW x v -> cG xs us -> r x xs H Q ->
   wpAny (model X.prog X.w) X.A (call (.builtin id) (v :: us)) (EP X pins σ Q) X.xe s
theorem cG.one : ∀ {x : V} {us : List Value}, cG [x] us -> ∃ u, us = [u] /\ bW x u
 | _, _, .cons r .nil => ⟨_, rfl, r⟩
theorem cG.eraseIdx : ∀ {xs : List V} {us : List Value} (i : Nat), cG xs us -> cG (xs.eraseIdx i) (us.eraseIdx i)
 | _, _, _, .nil => .nil
 | _, _, 0, .cons _ t => t
 | _, _, i + 1, .cons r t => .cons r (cG.eraseIdx i t)
section
variable {X : Cx} {pins : List (Addr × Obj)} {σ : St} {H : Hp} {s : Shared} {l b : Addr} {xs ys zs : List V}
theorem Inv.lset {its its' : List Value} {n : Nat} {f : Array Value -> Array Value} {t' : Nat} (I : Inv X pins σ H s) (hH : H l = some (.lst xs))
 (e : s.heap.get? l = some { cls := .type "list", data := .seq its.toArray n }) (hf : f its.toArray = its'.toArray) (hv : cG ys its') (hz : ys.length <= sizeLine) :
 Inv X pins σ (upd H l (.lst ys)) { s with heap := s.heap.update l (Obj.mapSeq f), toks := t' } := by
 have q := PySem.IsL.update e f
 rw [hf] at q
 refine I.write (x := l) (e := l) (by rw [hH]; exact trivial) (.inl rfl) (fun b' u hb hu => (Heap.get?_update_other s.heap (Obj.mapSeq f) (Ne.symm hb)).trans hu) ⟨_, q⟩ ?_
 exact ⟨hz, its', _, hv, q⟩
theorem Inv.lnew {its : List Value} {t' : Nat} (I : Inv X pins σ H s) (hv : cG ys its) (hz : ys.length <= sizeLine) :
 Inv X pins σ (upd H s.heap.objs.size (.lst ys)) { s with heap := s.heap.push { cls := .type "list", data := .seq its.toArray }, toks := t' } :=
 I.laid (fun _ _ q => Heap.get?_push_of_some _ q) (Nat.le_refl _) ⟨hz, its, 0, hv, Heap.get?_push_size _ rfl⟩
theorem Inv.fresh (I : Inv X pins σ H s) : H s.heap.objs.size = none := I.hok.fresh (Nat.le_refl _)
theorem Inv.lstM (I : Inv X pins σ H s) (hH : H l = some (.lst xs)) : xs.length <= sizeLine /\ ∃ (its : List Value) (n : Nat), cG xs its /\ xs.length = its.length /\ s.heap.get? l = some { cls := .type "list", data := .seq its.toArray n } := by
 obtain ⟨z, its, n, r, e⟩ := I.hok l _ hH
 exact ⟨z, its, n, r, r.length, e⟩
theorem cS4 {n : Nat} (h : n <= sizeLine) : Builtin.List.listTooLong n = false := by
 unfold Builtin.List.listTooLong
 exact decide_eq_false bE
end
section
variable {X : Cx}
def cS5 : V -> List V -> Hp -> VK -> Prop := fun x vs H Q => ∃ l xs y, x = .ref l /\ vs = [y] /\ H l = some (.lst xs) /\ xs.length < sizeLine /\ Q .non (upd H l (.lst (xs ++ [y])))
theorem bQ9 : MtM X "list.append" cS5 := by
 intro pins s σ H x vs v us Q I rx rv h
 obtain ⟨l, xs, y, rfl, rfl, hH, hz, q⟩ := h
 cases rx
 obtain ⟨u, rfl, ru⟩ := rv.one
 obtain ⟨z, its, n, r, hl, e⟩ := I.lstM hH
 refine call_meets F.slot_list_append ⟨_, e, rfl⟩ F.entry_list_append (F.args_list_append_2 _ _) (PySem.list_append l its.toArray n u (by rw [List.size_toArray]; omega)) ⟨e, ?_⟩
 refine ⟨.non, _, I.lset (its' := its ++ [u]) hH e (by simp) (r.append (.cons ru .nil)) ?_, rfl, q⟩
 rw [List.length_append, List.length_singleton]
 omega
end
section
variable {prog : Program} {w : World} {A : Around} {E : Value -> Shared -> Prop} {s : Shared}
set_option maxRecDepth 100000 in
end
section
variable {X : Cx}
end
end L2
namespace Att
open PySem PySem.W PySem.Calls PyProof.Rows
theorem cS6 {P : Params} {h : Heap} : ∀ (ns : List Int) (vs : List Value), WellAll P h vs (ns.map WData.int) -> IntsAre vs ns := by
 intro ns
 induction ns with
 | nil =>
  intro vs w
  rw [List.map_nil] at w
  cases w
  exact .nil
 | cons n ns ih =>
  intro vs w
  rw [List.map_cons] at w
  cases w with
  | cons a b =>
   cases a
   exact .cons _ _ (ih _ b)
theorem cS7 {l : OpenLaw} {n : Nat} (hn : l.most = some n) {P : Params} {h : Heap} {args : List WData} {vals : List Value}
 (hpre : l.row.toRowW.claim.pre args = true) (hwl : WellAll P h vals args) :
 ∃ a vs ns, vals = [Value.ref a] /\ args = [WData.list (ns.map WData.int)] /\ h.get? a = some { cls := .type "list", data := .seq vs.toArray } /\ IntsAre vs ns /\ ns.length <= n := by
 have hsh : WShape.hasAll [] args [.list .int] = true := (pre_splitW hpre).1
 have hc : l.pre.holds [] { args := args } = true := (pre_splitW hpre).2
 obtain ⟨d, r, rfl, h1, h2⟩ := hasAllW_cons hsh
 obtain rfl := hasAllW_nil h2
 obtain ⟨xs, rfl, h3⟩ := hasW_list h1
 obtain ⟨ns, rfl⟩ := items_int h3
 have hlen : ns.length <= n := by
  unfold OpenLaw.pre at hc
  have h4 : (WTm.not (.lt (.lit (.int (n : Int))) (.len (.arg 0)))).holds [] { args := [.list (ns.map .int)] } = true := by
   have h4 := (holds_andW hc).1
   rw [hn] at h4
   exact h4
  have h5 := condW_of h4 (w_not (w_lt w_lit (w_len_list (w_arg rfl))))
  rw [List.length_map] at h5
  refine Nat.le_of_not_lt fun q => ?_
  have q' : (n : Int) < ((ns.length : Nat) : Int) := by omega
  first
   | (rw [decide_eq_true q'] at h5; exact absurd h5 (by decide))
   | (simp at h5; omega)
 cases hwl with
 | cons w1 w2 =>
  cases w2
  cases w1 with
  | list ho hall => exact ⟨_, _, ns, rfl, rfl, ho, cS6 ns _ hall, hlen⟩
theorem cS8 (l : OpenLaw) (args : List WData) : l.row.toRowW.claim.post args (.bool true) args = true :=
 postW_of (r := l.row.toRowW) (X := (true == true))
  (show WShape.has [] (.bool true) .bool = true by first | rfl | decide | simp [WShape.has, WShape.arms, WShape.armsAll])
  (show (WTm.eq .res (.lit (.bool true))).value [] { args := args, res := some (.bool true), after := args } = some (.bool (true == true)) from w_eq_bool (w_res rfl) w_lit) rfl
theorem attach_call {l : OpenLaw} {n : Nat} {q : Program} {loose : List Str} {XP : (Str -> Option Value) -> Heap -> Prop} {YP : World -> Heap -> Prop} {d : DefRec}
 (hn : l.most = some n) (hdf : d.params.defaults = [])
 (call : ∀ (w : World) (s₀ s₁ : Shared) (mg mb : Str -> Option Value) (fa : Addr) (o : Obj) (pm cd doc : Value) (a : Addr) (vs : List Value) (ns : List Int),
   Ground q loose [] XP w s₀ mg mb s₁.heap -> YP w s₁.heap ->
   s₁.heap.get? fa = some o -> o.data = .func (docDef d.name d.params d.body d.scope pm cd doc) -> s₁.heap.CodeRec cd d.name -> mg d.name = some (.ref fa) ->
   s₁.heap.get? a = some { cls := .type "list", data := .seq vs.toArray } -> IntsAre vs ns -> ns.length <= n -> s₁.gens = #[] ->
   codeAny (model l.prog w) callerA (.call (.ref fa) ⟨[.ref a], []⟩) (fun r s' => r = .ok (.ret (.bool true)) /\ OldK s₁.heap s'.heap /\ s'.os = s₁.os /\ AllBare s'.gens) s₁) :
 WalkO q loose XP YP l.row.toRowW d [] (fun f vs => PySem.call f vs) := by
 intro w s₀ s₁ mg mb G Y fa o pm cd doc dV kV ho hd hcd hD hmg hg args vals as hpre hlay hrd hwl hlo
 obtain rfl : dV = .none := Dflts.none hD hdf
 obtain rfl : kV = .none := Dflts.noKw hD
 obtain ⟨a, vs, ns, rfl, rfl, hobj, hints, hlen⟩ := cS7 hn hpre hwl
 refine enter_call (codeAny_mono (call w s₀ s₁ mg mb fa o pm cd doc a vs ns G Y ho (fd_plain hd) hcd hmg hobj hints hlen hg) fun r s' hq => ?_)
 obtain ⟨rfl, h2, h3, h4⟩ := hq
 exact ⟨.inl ⟨.bool true, .bool true, [], rfl, fun _ => rfl, .bool true, cS8 l _, fun _ => ⟨List.Pairwise.nil, fun _ hm => (nomatch hm)⟩⟩, h2, h3, h4⟩
section
variable {prog : Program} {w : World} {A : Around} {E : Value -> Shared -> Prop} {s : Shared} {K : Frag}
noncomputable def dZ8 (h : Heap) (L d : Addr) : List (Addr × Obj) := (List.range h.objs.size).filterMap fun a => if a = L \/ a = d then none else (h.get? a).map fun o => (a, o)
end
end Att
namespace L2
open PySem PySem.Spec PyProof.Rows
theorem bR0 : ∀ {vs : List Value} {ns : List Int}, IntsAre vs ns -> cG (ns.map V.int) vs
 | _, _, .nil => .nil
 | _, _, .cons n t h => .cons ⟨t, rfl⟩ (bR0 h)
end L2
namespace L2
open PySem PySem.Spec PyProof.Rows
noncomputable abbrev KOf {K : W.Frag} {h : Heap} (_ : K.In h) : W.Frag := K
end L2
/- THE LAST THEOREM (shape; LID, My.* are yours):
   My.Adr: a structure of the addresses that your layer names (classes, functions); My.Txt K t: a structure (Prop) of the equations over K;
   My.txt_mk : {K} {implicit addresses ..} (e1 : nsIn K mainGlobals "law" = some (some (.ref f))) (e2 : K.lookup f = some ⟨oc, od, .func (fnOf "law" "law" params body scope dV kV doc pm an cdv ct), sl⟩) (e3 : codeIn K cdv "law" = true) .. : ∃ t, My.Txt K t
set_option maxRecDepth 100000 in
set_option maxHeartbeats 0 in
theorem PySem.Challenge.cw_LID_holds : PySem.Challenge.rw_LID.Holds := by
 w_on; o_law; k_head; (case hw => w_witness2)
 k_fill
 refine L2.walk_of (l := PySem.Challenge.rw_LID) (n := 63) (k := 40) (x := "script") (CX := fun w => ..) (sp := fun _ => My.sp_law) rfl (by decide) rfl ⟨rfl, by decide, by decide⟩ (fun w h Y => W.kIn_of Y) ?F ?S ?C
 case F =>
  intro w mg fa h KX G hmg
  have T : ∃ t, My.Txt (L2.KOf KX) t := by
   dsimp only [L2.KOf]                          -- K must stand as «<heap const> w.params» for k_is
   refine' My.txt_mk ?e1 ?e2 ?e3 ..
   (case e1 => W.k_is)                    -- in the order: a name -> its address -> its object -> its parts
   (case e2 => W.k_is)
   ..
  obtain ⟨t, T⟩ := T
  have e0 := hmg.symm.trans (W.mg_of KX G T.law)
  cases e0                                       -- fa is the law's own address
  exact ⟨_, fun s u => .of_eq rfl, fun base kb nb => My.law_fn T kb nb⟩     -- if «.of_eq rfl» comes too early: refine' ⟨_, ?b, fun base kb nb => My.law_fn T kb nb⟩; exact fun s u => .of_eq rfl
 case S => exact fun w H a ns hl hO hS => ..
 case C => exact ..
(the tactic k_is has no namespace: write k_is) -/
namespace L2
open PySem PySem.Spec PyProof.Rows
noncomputable def wJ (s : Stmt) : Arguments := match s with
 | .FunctionDef _ a _ _ _ _ _ _ _ _ => a
 | _ => { posonlyargs := [], args := [], vararg := none, kwonlyargs := [], kw_defaults := [], kwarg := none, defaults := [] }
noncomputable def lN (s : Stmt) : List Stmt := match s with
 | .FunctionDef _ _ b _ _ _ _ _ _ _ => b
 | _ => []
noncomputable def cL (s : Stmt) : Scope := match s with
 | .FunctionDef _ _ _ _ _ _ sc _ _ _ => sc
 | _ => { kind := .function, names := [], isGenerator := false, isCoroutine := false }
noncomputable abbrev bT : lY := fun _ _ _ _ _ _ => False
noncomputable abbrev E0 : XK := fun _ _ _ => False
theorem yU {X : Cx} : bE7 bT X E0 := fun _ _ _ _ _ _ _ h => h.elim
structure bL (K : W.Frag) (x qual : Str) (st : Stmt) (f : Addr) (fd : FuncData) : Prop where
 ex : ∃ (oc : Value) (od : Option Addr) (kV doc pm : Value) (an : Option Addr) (cdv ct : Value) (osl : Array (Option Value)),
  fd = W.fnOf x qual (wJ st) (lN st) (cL st) .none kV doc pm an cdv ct /\ K.lookup f = some ⟨oc, od, .func fd, osl⟩ /\ W.codeIn K cdv qual = true
 kp : W.keepIn K (.ref f) = true
section
variable {P : Program} {w : World} {K : W.Frag} {mg : Str -> Option Value} {base : Heap}
theorem bL.ok {x qual : Str} {st : Stmt} {f : Addr} {fd : FuncData} {N ps : List Str} {k : Nat} {sp : Sp} (F : bL K x qual st f fd) (S : dE N ps (cL st)) (len : ∀ vs H Q E, sp vs H Q E -> vs.length = ps.length)
 (hbody : ∀ (cdv : Value) (A : Around) (outer : List Env) (s : Shared) (H : Hp) (vs : List V) (Q : VK) (E : XK), dZ k (A.deeper (envOfC qual (cL st) s.heap.objs.size f cdv)) -> sp vs H Q E ->
   ∃ t, jR (lZ bT P w K mg base N qual (cL st) f cdv A outer s H E).nox (lN st) t /\ t { nx := fun _ H' => Q .non H', rt := Q } (start N vs) H) : bS P w K mg base bT (k + 1) f fd ps sp := by
 obtain ⟨oc, od, kV, doc, pm, an, cdv, ct, osl, rfl, lk, hcd⟩ := F.ex
 refine cP3 lk hcd S len fun A outer s H vs Q E hr hsp => ?_
 obtain ⟨t, h, q⟩ := hbody cdv A outer s H vs Q E hr hsp
 exact ⟨t, h.nox, q⟩
theorem bL.binds {x qual : Str} {st : Stmt} {f : Addr} {fd : FuncData} {ps : List Str} (F : bL K x qual st f fd)
 (h : ∀ (kV doc pm : Value) (an : Option Addr) (cdv ct : Value) (us : List Value), us.length = ps.length -> bindArgs (W.fnOf x qual (wJ st) (lN st) (cL st) .none kV doc pm an cdv ct) ⟨us, []⟩ = pure (ps.zip us)) : cY K fd ps [] := by
 obtain ⟨oc, od, kV, doc, pm, an, cdv, ct, osl, rfl, lk, hcd⟩ := F.ex
 exact .all (h kV doc pm an cdv ct)
theorem fF {x qual : Str} {st : Stmt} {f : Addr} {oc : Value} {od an : Option Addr} {osl : Array (Option Value)} {kV doc pm cdv ct : Value} (l : K.lookup f = some ⟨oc, od, .func (W.fnOf x qual (wJ st) (lN st) (cL st) .none kV doc pm an cdv ct), osl⟩)
 (c : W.codeIn K cdv qual = true) (k : W.keepIn K (.ref f) = true) : bL K x qual st f (W.fnOf x qual (wJ st) (lN st) (cL st) .none kV doc pm an cdv ct) := ⟨⟨oc, od, kV, doc, pm, an, cdv, ct, osl, rfl, l, c⟩, k⟩
end
theorem cS9 {n : Nat} (h : n <= 1000) : n < sizeLine := Nat.lt_of_le_of_lt h (by decide)
section
variable {X : Cx}
end
theorem pD {A B : Prop} (h : B) : if false = true then A else B := by
 rw [if_neg Bool.false_ne_true]
 exact h
theorem pE {A B : Prop} (h : A) : if true = true then A else B := by
 rw [if_pos rfl]
 exact h
def bH (H H' : Hp) : Prop := ∀ b o, H b = some o -> H' b = some o
theorem bH.refl (H : Hp) : bH H H := fun _ _ h => h
theorem bH.trans {H H1 H2 : Hp} (a : bH H H1) (b : bH H1 H2) : bH H H2 := fun c o h => b c o (a c o h)
theorem bH.free {H H' : Hp} (e : bH H H') {l : Addr} (h : H' l = Option.none) : H l = Option.none := by
 cases q : H l with
 | none => rfl
 | some o =>
  rw [e l o q] at h
  cases h
theorem bH.seq {K : W.Frag} {H H' : Hp} {a : Addr} {xs : List V} (e : bH H H') (h : dN K H a xs) : dN K H' a xs := by
 rcases h with (h | ⟨o, h⟩) | h
 ·exact .inl (.inl (e _ _ h))
 ·exact .inl (.inr ⟨o, e _ _ h⟩)
 ·exact .inr h
end L2
end
section
namespace L2
open PySem PySem.Spec PyProof.Rows
end L2
namespace L2
open PySem PySem.Spec PyProof.Rows
section
variable {κ : Type} [DecidableEq κ]
noncomputable def jJ (kvs : List (κ × V)) (k : κ) : Option V := (kvs.find? fun kv => decide (kv.1 = k)).map (·.2)
noncomputable def jK (kvs : List (κ × V)) (k : κ) (v : V) : List (κ × V) :=
 if (kvs.any fun kv => decide (kv.1 = k)) = true then kvs.map (fun kv => if kv.1 = k then (kv.1, v) else kv) else kvs ++ [(k, v)]
noncomputable def lB (kvs : List (κ × V)) (k : κ) : List (κ × V) := kvs.filter fun kv => decide (kv.1 ≠ k)
theorem yV {p : κ × V} {r : List (κ × V)} {k : κ} (e : p.1 = k) : jJ (p :: r) k = some p.2 := by simp [jJ, List.find?_cons, e]
theorem yW {p : κ × V} {r : List (κ × V)} {k : κ} (e : ¬ p.1 = k) : jJ (p :: r) k = jJ r k := by simp [jJ, List.find?_cons, e]
theorem bR1 (k : κ) : ∀ kvs : List (κ × V), (kvs.any fun kv => decide (kv.1 = k)) = (jJ kvs k).isSome
 | [] => rfl
 | p :: r => by
  rw [List.any_cons]
  by_cases e : p.1 = k
  ·simp only [yV e, decide_eq_true e, Bool.true_or, Option.isSome_some]
  ·rw [yW e, decide_eq_false e, Bool.false_or]; exact bR1 k r
theorem bF0 (kvs : List (κ × V)) (k : κ) (v : V) : (jK kvs k v).length <= kvs.length + 1 := by
 unfold jK
 split
 ·rw [List.length_map]; omega
 ·rw [List.length_append, List.length_cons, List.length_nil]; omega
theorem RelO.isSome_eq {o : Option V} {u : Option Value} (r : RelO o u) : o.isSome = u.isSome := by
 cases o with
 | none => cases u with
  | none => rfl
  | some _ => exact (show False from r).elim
 | some _ => cases u with
  | none => exact (show False from r).elim
  | some _ => rfl
theorem RelO.getD {o : Option V} {u : Option Value} {d : V} {d' : Value} (r : RelO o u) (rd : bW d d') : bW (o.getD d) (u.getD d') := by
 cases o with
 | none => cases u with
  | none => exact rd
  | some _ => exact (show False from r).elim
 | some _ => cases u with
  | none => exact (show False from r).elim
  | some _ => exact r
theorem KV.val {kvs : List (κ × V)} {vs : List (κ × Value)} (r : KV kvs vs) (k : κ) : RelO (jJ kvs k) (valueAt vs k) := by
 unfold KV at r
 induction r with
 | nil => exact True.intro
 | @cons p q ps qs h t ih =>
  obtain ⟨h1, h2⟩ := h
  by_cases e : p.1 = k
  ·have e' : q.1 = k := h1.symm.trans e
   have b : valueAt (q :: qs) k = some q.2 := by simp [valueAt, List.find?_cons, e']
   rw [yV e, b]; exact h2
  ·have e' : ¬ q.1 = k := fun z => e (h1.trans z)
   have b : valueAt (q :: qs) k = valueAt qs k := by simp [valueAt, List.find?_cons, e']
   rw [yW e, b]; exact ih
theorem KV.any {kvs : List (κ × V)} {vs : List (κ × Value)} (r : KV kvs vs) (k : κ) : (kvs.any fun kv => decide (kv.1 = k)) = vs.any fun kv => decide (kv.1 = k) := by
 unfold KV at r
 induction r with
 | nil => rfl
 | cons h t ih => rw [List.any_cons, List.any_cons, ih, h.1]
theorem KV.repl {kvs : List (κ × V)} {vs : List (κ × Value)} (r : KV kvs vs) (k : κ) {y : V} {u : Value} (ry : bW y u) :
 KV (kvs.map fun kv => if kv.1 = k then (kv.1, y) else kv) (vs.map fun kv => if kv.1 = k then (kv.1, u) else kv) := by
 unfold KV at r ⊢
 induction r with
 | nil => exact .nil
 | @cons p q ps qs h t ih =>
  rw [List.map_cons, List.map_cons]
  refine .cons ?_ ih
  obtain ⟨h1, h2⟩ := h
  by_cases e : p.1 = k
  ·rw [if_pos e, if_pos (h1.symm.trans e)]; exact ⟨h1, ry⟩
  ·rw [if_neg e, if_neg (fun z => e (h1.trans z))]; exact ⟨h1, h2⟩
theorem KV.put {kvs : List (κ × V)} {vs : List (κ × Value)} (r : KV kvs vs) (k : κ) {y : V} {u : Value} (ry : bW y u) : KV (jK kvs k y) (stored vs k u) := by
 unfold jK stored
 rw [r.any k]
 by_cases e : (vs.any fun kv => decide (kv.1 = k)) = true
 ·rw [if_pos e, if_pos e]; exact r.repl k ry
 ·rw [if_neg e, if_neg e]; exact Paired.snoc r ⟨rfl, ry⟩
theorem KV.drop {kvs : List (κ × V)} {vs : List (κ × Value)} (r : KV kvs vs) (k : κ) : KV (lB kvs k) (without vs k) := by
 unfold KV at r ⊢
 unfold lB without
 induction r with
 | nil => exact .nil
 | @cons p q ps qs h t ih =>
  obtain ⟨h1, h2⟩ := h
  rw [List.filter_cons, List.filter_cons]
  by_cases e : p.1 = k
  ·have a : ¬ decide (p.1 ≠ k) = true := by simp [e]
   have b : ¬ decide (q.1 ≠ k) = true := by simp [h1.symm.trans e]
   rw [if_neg a, if_neg b]; exact ih
  ·have e' : ¬ q.1 = k := fun z => e (h1.trans z)
   have a : decide (p.1 ≠ k) = true := by simp [e]
   have b : decide (q.1 ≠ k) = true := by simp [e']
   rw [if_pos a, if_pos b]; exact .cons ⟨h1, h2⟩ ih
theorem KV.length {kvs : List (κ × V)} {vs : List (κ × Value)} (r : KV kvs vs) : kvs.length = vs.length := Paired.length r
theorem cT0 (kvs : List (κ × V)) (k : κ) : (lB kvs k).length <= kvs.length := List.length_filter_le _ _
end
theorem pF {P : Program} {w : World} {k : bR} {u : Value} (r : bW (kV k) u) : (gF P w).is k u = true := by
 cases k with
 | inl i => obtain ⟨t, e⟩ := (show ∃ t, u = Value.int i t from r); subst e; exact cH0 P w i t
 | inr x => obtain ⟨t, e⟩ := (show ∃ t, u = Value.str x t from r); subst e; exact cH1 P w x t
theorem bR2 {P : Program} {w : World} : ∀ {ks : List bR} {us : List Value}, cG (ks.map kV) us -> ItemsAre (gF P w) ks us
 | [], _, r => by rw [List.map_nil] at r; cases r; exact .nil
 | k :: ks, _, r => by
  rw [List.map_cons] at r
  cases r with
  | cons h t => exact .cons (pF h) (bR2 t)
abbrev KT (H : Hp) : List (List bR × V) -> List (List bR × Addr × Value) -> Prop := Paired fun p q => p.1 = q.1 /\ H q.2.1 = some (.tup (p.1.map kV)) /\ bW p.2 q.2.2
theorem KT.val {H : Hp} {kvs : List (List bR × V)} {xs : List (List bR × Addr × Value)} (r : KT H kvs xs) (k : List bR) : RelO (jJ kvs k) ((atKey xs k).map (·.2)) := by
 induction r with
 | nil => exact True.intro
 | @cons p q ps qs h t ih =>
  obtain ⟨h1, _, h2⟩ := h
  by_cases e : p.1 = k
  ·have e' : q.1 = k := h1.symm.trans e
   have b : atKey (q :: qs) k = some q.2 := by simp [atKey, List.find?_cons, e']
   rw [yV e, b]; exact h2
  ·have e' : ¬ q.1 = k := fun z => e (h1.trans z)
   have b : atKey (q :: qs) k = atKey qs k := by simp [atKey, List.find?_cons, e']
   rw [yW e, b]; exact ih
theorem KT.repl {H : Hp} {kvs : List (List bR × V)} {xs : List (List bR × Addr × Value)} (r : KT H kvs xs) (k : List bR) {y : V} {u : Value} (ry : bW y u) :
 KT H (kvs.map fun kv => if kv.1 = k then (kv.1, y) else kv) (xs.map (putAt k u)) := by
 induction r with
 | nil => exact .nil
 | @cons p q ps qs h t ih =>
  rw [List.map_cons, List.map_cons]
  refine .cons ?_ ih
  obtain ⟨h1, h2, h3⟩ := h
  unfold putAt
  by_cases e : p.1 = k
  ·rw [if_pos e, if_pos (h1.symm.trans e)]; exact ⟨h1, h2, ry⟩
  ·rw [if_neg e, if_neg (fun z => e (h1.trans z))]; exact ⟨h1, h2, h3⟩
theorem KT.put {H : Hp} {kvs : List (List bR × V)} {xs : List (List bR × Addr × Value)} (r : KT H kvs xs) (k : List bR) {b : Addr} {y : V} {u : Value} (hb : H b = some (.tup (k.map kV))) (ry : bW y u) :
 KT H (jK kvs k y) (storedH xs k b u) := by
 have e : (kvs.any fun kv => decide (kv.1 = k)) = (atKey xs k).isSome := by
  rw [bR1, (r.val k).isSome_eq, Option.isSome_map]
 unfold jK storedH
 rw [e]
 by_cases q : (atKey xs k).isSome = true
 ·rw [if_pos q, if_pos q]; exact r.repl k ry
 ·rw [if_neg q, if_neg q]; exact Paired.snoc r ⟨rfl, hb, ry⟩
theorem KT.keeps {H H' : Hp} {kvs : List (List bR × V)} {xs : List (List bR × Addr × Value)} (r : KT H kvs xs) (ht : ∀ b ys, H b = some (.tup ys) -> H' b = some (.tup ys)) : KT H' kvs xs :=
 Paired.mapP r fun _ _ z => ⟨z.1, ht _ _ z.2.1, z.2.2⟩
section
variable {P : Program} {w : World} {H : Hp} {h : Heap} {a : Addr}
theorem rd_of {u : HO} (ok : fE P w H h) (e : Rd H a u) : fL P w H h a u := e.ok ok
theorem lO {kvs : List (bR × V)} (ok : fE P w H h) (e : Rd H a (.dK kvs)) : kvs.length <= sizeLine /\ (a == sysModules) = false /\ ∃ vs, KV kvs vs /\ h.DictOf (gF P w) a vs :=
 show fL P w H h a (.dK kvs) from rd_of ok e
theorem bR3 {kvs : List (bR × V)} (ok : fE P w H h) (e : H a = some (.dK kvs)) : kvs.length <= sizeLine /\ (a == sysModules) = false /\ ∃ vs, KV kvs vs /\ h.DictOf (gF P w) a vs := lO ok (.inl e)
theorem sN {ks : List bR} (ok : fE P w H h) (e : H a = some (.tup (ks.map kV))) : (tupleKind (gF P w)).is h ks a := by
 obtain ⟨_, its, r, o, h1, h2, n, h3⟩ := (show fL P w H h a (.tup (ks.map kV)) from ok a _ e)
 exact ⟨o, its.toArray, n, h1, h2.1, h3, by simpa using bR2 r⟩
theorem qN {kvs : List (List bR × V)} (ok : fE P w H h) (e : Rd H a (.dT kvs)) : kvs.length <= sizeLine /\ (a == sysModules) = false /\
 ∃ xs, KT H kvs xs /\ h.DictOfH (tupleKind (gF P w)) a xs := by
 obtain ⟨z, y, xs, r, o, es, ep, h1, h2, h3, h4, h5⟩ := (show fL P w H h a (.dT kvs) from rd_of ok e)
 refine ⟨z, y, xs, r, o, es, ep, h1, h2, h3, h4, fun x hx => ?_, h5⟩
 have all : ∀ {l : List (List bR × V)} {m : List (List bR × Addr × Value)}, KT H l m -> ∀ x ∈ m, (tupleKind (gF P w)).is h x.1 x.2.1 := by
  intro l m q
  induction q with
  | nil => intro x hx; exact nomatch hx
  | @cons p q ps qs hq t ih =>
   intro x hx
   rcases List.mem_cons.mp hx with e | hx
   ·subst e
    exact sN ok (by rw [<- hq.1]; exact hq.2.1)
   ·exact ih x hx
 exact all r x hx
theorem cT1 {kvs : List (List bR × V)} (ok : fE P w H h) (e : H a = some (.dT kvs)) : kvs.length <= sizeLine /\ (a == sysModules) = false /\
 ∃ xs, KT H kvs xs /\ h.DictOfH (tupleKind (gF P w)) a xs := qN ok (.inl e)
end
def mL (H : Hp) (a : Addr) (y : V) (r : Option V) : Prop :=
 (∃ kvs k, Rd H a (.dK kvs) /\ y = kV k /\ r = jJ kvs k) \/ ∃ kvs k b, Rd H a (.dT kvs) /\ y = .ref b /\ H b = some (.tup (k.map kV)) /\ r = jJ kvs k
def wK (H : Hp) (a : Addr) (y v : V) (H' : Hp) : Prop :=
 (∃ kvs k, H a = some (.dK kvs) /\ y = kV k /\ kvs.length < sizeLine /\ H' = upd H a (.dK (jK kvs k v))) \/
 ∃ kvs k b, H a = some (.dT kvs) /\ y = .ref b /\ H b = some (.tup (k.map kV)) /\ kvs.length < sizeLine /\ H' = upd H a (.dT (jK kvs k v))
theorem wK.k {H : Hp} {a : Addr} {kvs : List (bR × V)} {k : bR} {v : V} (e : H a = some (.dK kvs)) (hl : kvs.length < sizeLine) : wK H a (kV k) v (upd H a (.dK (jK kvs k v))) := .inl ⟨kvs, k, e, rfl, hl, rfl⟩
section
variable {X : Cx} {pins : List (Addr × Obj)} {σ : St} {H : Hp} {s : Shared} {a : Addr} {y v : V} {u r : Value} {o : Option V} {A : Around} {E : Value -> Shared -> Prop}
theorem Inv.big (I : Inv X pins σ H s) : sysModules < s.heap.objs.size := by
 have h : mainGlobals < s.heap.objs.size := (I.mod.glob.keeps I.bk).lt
 exact Nat.lt_trans (by decide) h
theorem cT2 {Q : Value -> Shared -> Prop} (hu : A.units + 1 < cLine) (I : Inv X pins σ H s) (g : mL H a y (some v)) (ry : bW y u) (h : ∀ w' s', Inv X pins σ H s' -> bW v w' -> Q w' s') :
 wpAny (model X.prog X.w) A (getItem (.ref a) u) Q E s := by
 rcases g with ⟨kvs, k, e, ey, l⟩ | ⟨kvs, k, b, e, ey, eb, l⟩
 ·subst ey
  obtain ⟨z, hd, vs, rel, dd⟩ := lO I.hok e
  obtain ⟨w', hw, rw'⟩ := RelO.some_of (v := v) (o := valueAt vs k) (by rw [l]; exact rel.val k)
  exact wpAny_getItem_of (pF ry) dd.mapOf hw (h w' _ (I.tok _) rw')
 ·subst ey
  cases (show u = Value.ref b from ry)
  obtain ⟨z, hd, xs, rel, dd⟩ := qN I.hok e
  obtain ⟨w', hw, rw'⟩ := RelO.some_of (v := v) (o := (atKey xs k).map (·.2)) (by rw [l]; exact rel.val k)
  obtain ⟨p, hp, hp2⟩ := Option.map_eq_some_iff.mp hw
  refine wpAny_getItem_heap (tupleKind_room_in1 hu) (sN I.hok eb) dd hp ?_
  rw [hp2]
  exact h w' _ (I.tok _) rw'
theorem cT3 {Q : Value -> Shared -> Prop} (hu : A.units + 1 < cLine) (I : Inv X pins σ H s) (g : mL H a y o) (ry : bW y u) (h : ∀ s', Inv X pins σ H s' -> Q (.bool o.isSome) s') :
 wpAny (model X.prog X.w) A (compareOp .In u (.ref a)) Q E s := by
 rcases g with ⟨kvs, k, e, ey, l⟩ | ⟨kvs, k, b, e, ey, eb, l⟩
 ·subst ey
  obtain ⟨z, hd, vs, rel, dd⟩ := lO I.hok e
  refine wpAny_in_of (pF ry) hd dd.mapOf ?_
  rw [<- (rel.val k).isSome_eq, <- l]
  exact h _ (I.tok _)
 ·subst ey
  cases (show u = Value.ref b from ry)
  obtain ⟨z, hd, xs, rel, dd⟩ := qN I.hok e
  refine wpAny_in_heap (tupleKind_room_in1 hu) (sN I.hok eb) hd dd ?_
  have q := (rel.val k).isSome_eq
  rw [Option.isSome_map] at q
  rw [<- q, <- l]
  exact h _ (I.tok _)
theorem cT4 {Q : Value -> Shared -> Prop} (hu : A.units + 1 < cLine) (I : Inv X pins σ H s) (g : mL H a y o) (ry : bW y u) (h : ∀ s', Inv X pins σ H s' -> Q (.bool (!o.isSome)) s') :
 wpAny (model X.prog X.w) A (compareOp .NotIn u (.ref a)) Q E s := by
 rcases g with ⟨kvs, k, e, ey, l⟩ | ⟨kvs, k, b, e, ey, eb, l⟩
 ·subst ey
  obtain ⟨z, hd, vs, rel, dd⟩ := lO I.hok e
  refine wpAny_notIn_of (pF ry) hd dd.mapOf ?_
  rw [<- (rel.val k).isSome_eq, <- l]
  exact h _ (I.tok _)
 ·subst ey
  cases (show u = Value.ref b from ry)
  obtain ⟨z, hd, xs, rel, dd⟩ := qN I.hok e
  refine wpAny_notIn_heap (tupleKind_room_in1 hu) (sN I.hok eb) hd dd ?_
  have q := (rel.val k).isSome_eq
  rw [Option.isSome_map] at q
  rw [<- q, <- l]
  exact h _ (I.tok _)
theorem bF1 {h' : Heap} {t' : Nat} {ob : HO} (I : Inv X pins σ H s) (mu : wB (H a)) (hs : Heap.SameBut a s.heap h') (he : ∃ q, h'.get? a = some q) (new : fL X.prog X.w (upd H a ob) h' a ob) :
 Inv X pins σ (upd H a ob) { s with heap := h', toks := t' } :=
 I.write (x := a) (e := a) mu (.inl rfl) (fun b q hb z => (hs.2 b hb).trans z) he new
theorem yX {P : Program} {w : World} {H' : Hp} {h' : Heap} {kvs : List (bR × V)} {vs : List (bR × Value)} (z : kvs.length <= sizeLine) (hd : (a == sysModules) = false) (rel : KV kvs vs) (dd : h'.DictOf (gF P w) a vs) :
 fL P w H' h' a (.dK kvs) := ⟨z, hd, vs, rel, dd⟩
theorem cT5 {H' : Hp} {Q : Unit -> Shared -> Prop} (hu : A.units + 1 < cLine) (I : Inv X pins σ H s) (g : wK H a y v H') (ry : bW y u) (rv : bW v r) (h : ∀ s', Inv X pins σ H' s' -> Q () s') :
 wpAny (model X.prog X.w) A (setItem (.ref a) u r) Q E s := by
 rcases g with ⟨kvs, k, e, ey, l, eH⟩ | ⟨kvs, k, b, e, ey, eb, l, eH⟩
 ·subst ey eH
  obtain ⟨z, hd, vs, rel, dd⟩ := bR3 I.hok e
  have hz : vs.length <= sizeLine := by rw [<- rel.length]; exact z
  have hl : (jK kvs k v).length <= sizeLine := by have := bF0 kvs k v; omega
  refine wpAny_setItem_pairs (hsz := hz) (pF ry) dd fun h' dd' hs => h _ ?_
  have he : ∃ q, h'.get? a = some q := let ⟨q, _, _, hq, _⟩ := dd'; ⟨q, hq⟩
  exact bF1 I (by rw [e]; exact True.intro) hs he (yX hl hd (rel.put k rv) dd')
 ·subst ey eH
  cases (show u = Value.ref b from ry)
  obtain ⟨z, hd, xs, rel, dd⟩ := cT1 I.hok e
  have hz : xs.length <= sizeLine := by rw [<- Paired.length rel]; exact z
  have hl : (jK kvs k v).length <= sizeLine := by have := bF0 kvs k v; omega
  refine wpAny_setItem_heap (hsz := hz) (tupleKind_room_in1 hu) (sN I.hok eb) dd fun h' dd' hs => h _ ?_
  obtain ⟨q, es, ep, hq, h2, h3, h4, _, h5⟩ := dd'
  refine bF1 I (by rw [e]; exact True.intro) hs ⟨q, hq⟩ ⟨hl, hd, _, (rel.put k eb rv).keeps fun c ys ec => ?_, q, es, ep, hq, h2, h3, h4, h5⟩
  rw [bZ (kE ec e (fun z => nomatch z))]
  exact ec
end
section
variable {X : Cx} {pins : List (Addr × Obj)} {σ : St} {H : Hp} {s : Shared} {a : Addr} {kvs : List (bR × V)} {k : bR} {u : Value} {A : Around} {E : Value -> Shared -> Prop}
theorem cT6 {v : V} {more : List Value} {Q : Value -> Shared -> Prop} (I : Inv X pins σ H s) (e : H a = some (.dK kvs)) (ry : bW (kV k) u) (l : jJ kvs k = some v) (hm : more = [] \/ ∃ x, more = [x])
 (h : ∀ w' s', Inv X pins σ (upd H a (.dK (lB kvs k))) s' -> bW v w' -> Q w' s') : wpAny (model X.prog X.w) A (call (.builtin "dict.pop") (.ref a :: u :: more)) Q E s := by
 obtain ⟨z, hd, vs, rel, dd⟩ := bR3 I.hok e
 obtain ⟨w', hw, rw'⟩ := RelO.some_of (v := v) (o := valueAt vs k) (by rw [<- l]; exact rel.val k)
 have hp : (keyPart u).isSome = true := by
  cases k with
  | inl i => obtain ⟨t, q⟩ := (show ∃ t, u = Value.int i t from ry); subst q; rfl
  | inr x => obtain ⟨t, q⟩ := (show ∃ t, u = Value.str x t from ry); subst q; rfl
 have ha : argsOk "dict.pop" ⟨.ref a :: u :: more, []⟩ := by
  rcases hm with q | ⟨x, q⟩
  ·subst q; exact PySem.F.args_dict_pop_2 _ _
  ·subst q; exact PySem.F.args_dict_pop_3 _ _ _
 refine call_meetsIn PySem.F.slot_dict_pop dd.typeIs PySem.F.entry_dict_pop ha (meets_dict_pop_there (gF X.prog X.w) a (pF ry) more hm hp)
  ⟨vs, w', dd, by rw [<- rel.length]; exact z, hw, fun h' dd' hs => h w' _ ?_ rw'⟩
 have he : ∃ q, h'.get? a = some q := let ⟨q, _, _, hq, _⟩ := dd'; ⟨q, hq⟩
 exact bF1 I (by rw [e]; exact True.intro) hs he (yX (Nat.le_trans (cT0 kvs k) z) hd (rel.drop k) dd')
theorem cT7 {Q : Value -> Shared -> Prop} (I : Inv X pins σ H s) (e : Rd H a (.dK kvs)) (h : ∀ t s', Inv X pins σ H s' -> Q (.int kvs.length t) s') : wpAny (model X.prog X.w) A (call (.builtin "len") [.ref a]) Q E s := by
 obtain ⟨z, hd, vs, rel, dd⟩ := lO I.hok e
 refine call_len_dict hd dd (by rw [<- rel.length]; rw [sizeLine_eq] at z; omega) ?_
 rw [<- rel.length]
 exact h _ _ (I.tok _)
end
def bF2 (i : Expr) : Prop := ∀ ov iv, subscripted i false ov iv = operate [ov, iv] (getItem ov iv)
theorem cT8 {prog : Program} {w : World} {A : Around} {E : Value -> Shared -> Prop} {s : Shared} {env : Env} {value slice : Expr} {pos : Pos} {T id : String} {Q : Value -> Shared -> Prop}
 (hl : typeLookup (.type T) "__getitem__" = pure (some (.builtin id))) (hs : bF2 slice)
 (h : wpAny (model prog w) A (eval value env) (fun o s₁ => wpAny (model prog w) A (eval slice env) (fun i s₂ => s₂.TypeIs o T /\ wpAny (model prog w) A (getItem o i) Q E s₂) E s₁) E s) :
 wpAny (model prog w) A (eval (.Subscript value slice pos) env) Q E s := by
 refine Subscript_ (wpAny_mono h (fun o s₁ h₁ => wpAny_mono h₁ (fun i s₂ h₂ => ?_) fun _ _ x => x) fun _ _ x => x)
 obtain ⟨hT, h₂⟩ := h₂
 unfold subscriptTail
 refine wpAny_bind ?_
 rw [getitemInPython_of_ne hT.not_modules]
 refine wpAny_bind (wpAny_specialOf hT hl ?_)
 have fin : wpAny (model prog w) A (subscripted slice false o i) (fun r s₃ => wpAny (model prog w) A (letTemporaryGo value o r >>= fun _ => pure r) Q E s₃) E s₂ := by
  rw [hs o i]
  exact wpAny_operating (wpAny_mono h₂ (fun r s₃ h₃ => wpAny_bind (wpAny_letTemporaryGo (wpAny_pure h₃))) fun _ _ x => x)
 first
  | exact wpAny_pure (wpAny_bind fin)
  | exact wpAny_bind (wpAny_pure (wpAny_bind fin))
  | exact wpAny_bind fin
theorem cT9 {X : Cx} {pins : List (Addr × Obj)} {σ : St} {H : Hp} {s : Shared} {a : Addr} {y : V} {o : Option V} (I : Inv X pins σ H s) (g : mL H a y o) : s.TypeIs (.ref a) "dict" := by
 rcases g with ⟨kvs, k, e, _, _⟩ | ⟨kvs, k, b, e, _, _, _⟩
 ·obtain ⟨_, _, vs, _, dd⟩ := lO I.hok e
  exact dd.typeIs
 ·obtain ⟨_, _, xs, _, dd⟩ := qN I.hok e
  exact dd.typeIs
noncomputable def cU0 (td ty : TE) : TE := fun σ H Q => td σ H fun x H1 => ty σ H1 fun y H2 => ∃ a v, x = .ref a /\ mL H2 a y (some v) /\ Q v H2
noncomputable def cU1 (ty td : TE) : TE := fun σ H Q => ty σ H fun y H1 => td σ H1 fun x H2 => ∃ a o, x = .ref a /\ mL H2 a y o /\ Q (.bl o.isSome) H2
noncomputable def cU2 (ty td : TE) : TE := fun σ H Q => ty σ H fun y H1 => td σ H1 fun x H2 => ∃ a o, x = .ref a /\ mL H2 a y o /\ Q (.bl (!o.isSome)) H2
noncomputable def cU3 (td ty tv : TE) : TS := fun D σ H => tv σ H fun v H1 => td σ H1 fun x H2 => ty σ H2 fun y H3 => ∃ a H4, x = .ref a /\ wK H3 a y v H4 /\ D.nx σ H4
section
variable {X : Cx} {o i e value : Expr} {pos pos' tpos : Pos} {td ty tv : TE}
theorem cU4 (hu : X.A.units + 1 < cLine) (ho : PE X o td) (hi : PE X i ty) (hs : bF2 i) : PE X (.Subscript o i pos) (cU0 td ty) := by
 intro pins s σ H Q I h
 refine cT8 PySem.F.slot_dict_getitem.lookup hs (cH (ho pins s σ H _ I h) fun u s1 ⟨x, H1, I1, rx, q1⟩ => cH (hi pins s1 σ H1 _ I1 q1) fun iv s2 ⟨y, H2, I2, ry, a, v, ex, g, q2⟩ => ?_)
 subst ex
 obtain rfl : u = Value.ref a := rx
 exact ⟨cT9 I2 g, cT2 hu I2 g ry fun w' s3 I3 rw' => ⟨v, H2, I3, rw', q2⟩⟩
theorem cU5 (hu : X.A.units + 1 < cLine) (hi : PE X i ty) (ho : PE X o td) : PC X .In i o (cU1 ty td) := by
 intro pins s σ H Q I h
 refine cH (hi pins s σ H _ I h) fun iv s1 ⟨y, H1, I1, ry, q1⟩ => cH (ho pins s1 σ H1 _ I1 q1) fun u s2 ⟨x, H2, I2, rx, a, ov, ex, g, q2⟩ => ?_
 subst ex
 obtain rfl : u = Value.ref a := rx
 exact cT3 hu I2 g ry fun s3 I3 => ⟨.bl ov.isSome, H2, I3, rfl, q2⟩
theorem cU6 (hu : X.A.units + 1 < cLine) (hi : PE X i ty) (ho : PE X o td) : PC X .NotIn i o (cU2 ty td) := by
 intro pins s σ H Q I h
 refine cH (hi pins s σ H _ I h) fun iv s1 ⟨y, H1, I1, ry, q1⟩ => cH (ho pins s1 σ H1 _ I1 q1) fun u s2 ⟨x, H2, I2, rx, a, ov, ex, g, q2⟩ => ?_
 subst ex
 obtain rfl : u = Value.ref a := rx
 exact cT4 hu I2 g ry fun s3 I3 => ⟨.bl (!ov.isSome), H2, I3, rfl, q2⟩
theorem cU7 (hu : X.A.units + 1 < cLine) (ho : PE X o td) (hi : PE X i ty) (hv : PE X value tv) (hs : swapsWith value (some (.Subscript o i pos')) pos.line X.env = pure false) :
 PS X (.Assign [.Subscript o i pos'] value pos) (cU3 td ty tv) := by
 intro pins s σ H D I h
 refine wpAny_Assign_Subscript (cH (hv pins s σ H _ I h) fun r s1 ⟨v, H1, I1, rv, q1⟩ => cH (ho pins s1 σ H1 _ I1 q1) fun u s2 ⟨x, H2, I2, rx, q2⟩ => cH (hi pins s2 σ H2 _ I2 q2) fun iv s3 ⟨y, H3, I3, ry, a, H4, ex, g, q3⟩ => ?_) hs
 subst ex
 obtain rfl : u = Value.ref a := rx
 exact cT5 hu I3 g ry rv fun s4 I4 => ⟨σ, H4, I4, q3⟩
end
theorem cU8 {P : Program} {w : World} {H : Hp} (h : Heap) (hb : sysModules < h.objs.size) : fL P w H (h.push { cls := .type "dict", data := .dict #[] }) h.objs.size (.dK []) :=
 ⟨Nat.zero_le _, beq_eq_false_iff_ne.mpr (Ne.symm (Nat.ne_of_lt hb)), [], .nil, Heap.DictOf.new h⟩
noncomputable def cU9 : TE := fun _ H Q => ∀ p, H p = none -> Q (.ref p) (upd H p (.dK []))
section
variable {X : Cx} {pos : Pos}
theorem bR4 : PE X (.Dict [] [] pos) cU9 := fun pins s σ H Q I h =>
 wpAny_Dict_empty ⟨.ref s.heap.objs.size, _, I.laid (a := s.heap.objs.size) (o := .dK []) (t' := s.toks) (fun _ _ q => Heap.get?_push_of_some _ q) (Nat.le_refl _) (cU8 s.heap I.big), rfl, h _ (I.hok.fresh (Nat.le_refl _))⟩
end
noncomputable def sO (kvs more : List (bR × V)) : List (bR × V) := more.foldl (fun acc kv => jK acc kv.1 kv.2) kvs
theorem KV.merge : ∀ {more : List (bR × V)} {rs : List (bR × Value)} {kvs : List (bR × V)} {vs : List (bR × Value)}, KV more rs -> KV kvs vs -> KV (sO kvs more) (merged vs rs) := by
 intro more rs kvs vs r
 unfold KV at r
 induction r generalizing kvs vs with
 | nil => intro q; exact q
 | @cons p q ps qs h t ih =>
  intro r0
  have e : KV (jK kvs p.1 p.2) (stored vs q.1 q.2) := by
   have := r0.put p.1 h.2
   rw [<- h.1]; exact this
  exact ih e
theorem bR5 : ∀ (more kvs : List (bR × V)), (sO kvs more).length <= kvs.length + more.length
 | [], kvs => by show kvs.length <= kvs.length + 0; omega
 | p :: r, kvs => by
  have h1 := bR5 r (jK kvs p.1 p.2)
  have h2 := bF0 kvs p.1 p.2
  show (sO (jK kvs p.1 p.2) r).length <= _
  rw [List.length_cons]; omega
structure M1 (X : Cx) (o : Expr) (m : Str) (apos : Pos) (e : Expr) (cpos : Pos) : Prop where
 base : attributeBase o m X.env (eval o X.env) = eval o X.env
 few : ((backTo cpos (starEach [e] X.env)).all (fun x => !x.1) && (backToKw cpos (keywordEach [] X.env)).all (fun x => x.1.isSome)
  && decide (([e] : List Expr).length + ([] : List Keyword).length + (if ([] : List Keyword).isEmpty then 0 else 1) < 30)) = true
 line : (apos.endLine == cpos.line) = true
 trees : backTo cpos (starEach [e] X.env) = [(false, eval e X.env)]
structure M2 (X : Cx) (o : Expr) (m : Str) (apos : Pos) (e f : Expr) (cpos : Pos) : Prop where
 base : attributeBase o m X.env (eval o X.env) = eval o X.env
 few : ((backTo cpos (starEach [e, f] X.env)).all (fun x => !x.1) && (backToKw cpos (keywordEach [] X.env)).all (fun x => x.1.isSome)
  && decide (([e, f] : List Expr).length + ([] : List Keyword).length + (if ([] : List Keyword).isEmpty then 0 else 1) < 30)) = true
 line : (apos.endLine == cpos.line) = true
 trees : backTo cpos (starEach [e, f] X.env) = [(false, eval e X.env), (false, eval f X.env)]
def IsD (H : Hp) (a : Addr) : Prop := (∃ kvs, Rd H a (.dK kvs)) \/ ∃ kvs, Rd H a (.dT kvs)
theorem bR6 {X : Cx} {pins : List (Addr × Obj)} {σ : St} {H : Hp} {s : Shared} {a : Addr} (I : Inv X pins σ H s) (d : IsD H a) :
 s.TypeIs (.ref a) "dict" /\ (∀ b, Value.ref a = .ref b -> ∃ ob, s.heap.get? b = some ob /\ ob.dict = none) /\ (a == sysModules) = false := by
 rcases d with ⟨kvs, e⟩ | ⟨kvs, e⟩
 ·obtain ⟨_, hd, vs, _, dd⟩ := lO I.hok e
  refine ⟨dd.typeIs, fun b q => ?_, hd⟩
  cases q
  obtain ⟨ob, _, _, h1, h2, _⟩ := dd
  exact ⟨ob, h1, h2.2.1⟩
 ·obtain ⟨_, hd, xs, _, dd⟩ := qN I.hok e
  refine ⟨dd.typeIs, fun b q => ?_, hd⟩
  cases q
  obtain ⟨ob, _, _, h1, h2, _⟩ := dd
  exact ⟨ob, h1, h2.2.1⟩
section
variable {X : Cx} {pins : List (Addr × Obj)} {σ : St} {H : Hp} {s : Shared} {a : Addr} {y d : V} {u r : Value} {o : Option V} {A : Around} {E : Value -> Shared -> Prop}
theorem cV0 {Q : Value -> Shared -> Prop} (hu : A.units + 1 < cLine) (I : Inv X pins σ H s) (g : mL H a y o) (ry : bW y u) (rd : bW d r) (h : ∀ w' s', Inv X pins σ H s' -> bW (o.getD d) w' -> Q w' s') :
 wpAny (model X.prog X.w) A (call (.builtin "dict.get") [.ref a, u, r]) Q E s := by
 rcases g with ⟨kvs, k, e, ey, l⟩ | ⟨kvs, k, b, e, ey, eb, l⟩
 ·subst ey
  obtain ⟨z, hd, vs, rel, dd⟩ := lO I.hok e
  refine call_meetsIn PySem.F.slot_dict_get dd.typeIs PySem.F.entry_dict_get (PySem.F.args_dict_get_3 _ _ _) (meets_dict_get_default (gF X.prog X.w) a (pF ry) hd r) ⟨_, dd.mapOf, h _ _ (I.tok _) ?_⟩
  rw [l]
  exact (rel.val k).getD rd
 ·subst ey
  cases (show u = Value.ref b from ry)
  obtain ⟨z, hd, xs, rel, dd⟩ := qN I.hok e
  refine call_meetsIn PySem.F.slot_dict_get dd.typeIs PySem.F.entry_dict_get (PySem.F.args_dict_get_3 _ _ _) (meetsH_dict_get_default (tupleKind (gF X.prog X.w)) a b hd r) ⟨tupleKind_room_in1 hu, k, xs, sN I.hok eb, dd, h _ _ (I.tok _) ?_⟩
  rw [l]
  exact (rel.val k).getD rd
end
noncomputable def cV1 (td ty tx : TE) : TE := fun σ H Q => td σ H fun x H1 => ∃ a, x = .ref a /\ IsD H1 a /\ ty σ H1 fun y H2 => tx σ H2 fun z H3 => ∃ o, mL H3 a y o /\ Q (o.getD z) H3
noncomputable def cV2 (td ty : TE) : TE := fun σ H Q => td σ H fun x H1 => ∃ a, x = .ref a /\ IsD H1 a /\ ty σ H1 fun y H2 => ∃ kvs k v, H2 a = some (.dK kvs) /\ y = kV k /\ jJ kvs k = some v /\ Q v (upd H2 a (.dK (lB kvs k)))
section
variable {X : Cx} {o e f : Expr} {apos cpos : Pos} {td ty tx : TE}
theorem cV3 (hu : X.A.units + 1 < cLine) (ho : PE X o td) (he : PE X e ty) (hf : PE X f tx) (m : M2 X o "get" apos e f cpos) : PE X (.Call (.Attribute o "get" apos) [e, f] [] cpos) (cV1 td ty tx) := by
 intro pins s σ H Q I h
 refine wpAny_Call_method m.base m.few m.line PySem.F.plainAttrs_dict PySem.F.slot_dict_get PySem.F.type_dict_get (cH (ho pins s σ H _ I h) fun u s1 ⟨x, H1, I1, rx, a, ex, d, q1⟩ => ?_)
 subst ex
 obtain rfl : u = Value.ref a := rx
 obtain ⟨t1, t2, _⟩ := bR6 I1 d
 refine ⟨t1, t2, ?_⟩
 rw [m.trees]
 refine Calls.callWith_builtin rfl (Calls.evalArgs_plain (Calls.spliced_cons (cH (he pins s1 σ H1 _ I1 q1) fun iv s2 ⟨y, H2, I2, ry, q2⟩ =>
  Calls.spliced_cons (cH (hf pins s2 σ H2 _ I2 q2) fun fv s3 ⟨z, H3, I3, rz, ov, g, q3⟩ => Calls.spliced_nil ?_))))
 exact cV0 hu I3 g ry rz fun w' s4 I4 rw' => ⟨_, H3, I4, rw', q3⟩
theorem cV4 (ho : PE X o td) (he : PE X e ty) (m : M1 X o "pop" apos e cpos) : PE X (.Call (.Attribute o "pop" apos) [e] [] cpos) (cV2 td ty) := by
 intro pins s σ H Q I h
 refine wpAny_Call_method m.base m.few m.line PySem.F.plainAttrs_dict PySem.F.slot_dict_pop PySem.F.type_dict_pop (cH (ho pins s σ H _ I h) fun u s1 ⟨x, H1, I1, rx, a, ex, d, q1⟩ => ?_)
 subst ex
 obtain rfl : u = Value.ref a := rx
 obtain ⟨t1, t2, _⟩ := bR6 I1 d
 refine ⟨t1, t2, ?_⟩
 rw [m.trees]
 refine Calls.callWith_builtin rfl (Calls.evalArgs_plain (Calls.spliced_cons (cH (he pins s1 σ H1 _ I1 q1) fun iv s2 ⟨y, H2, I2, ry, kvs, k, v, ea, ey, l, q2⟩ => Calls.spliced_nil ?_)))
 subst ey
 exact cT6 I2 ea ry l (.inl rfl) fun w' s3 I3 rw' => ⟨v, _, I3, rw', q2⟩
end
section
variable {X : Cx} {pins : List (Addr × Obj)} {σ : St} {H : Hp} {s : Shared} {a : Addr} {kvs : List (bR × V)} {A : Around} {E : Value -> Shared -> Prop}
theorem cV5 {Q : Value -> Shared -> Prop} (I : Inv X pins σ H s) (e : Rd H a (.dK kvs)) (h : ∀ p s', H p = none -> Inv X pins σ (upd H p (.dK kvs)) s' -> Q (.ref p) s') : wpAny (model X.prog X.w) A (call (.type "dict") [.ref a]) Q E s := by
 obtain ⟨z, hd, vs, rel, dd⟩ := lO I.hok e
 refine kt_call_dict hd dd (by rw [<- rel.length]; exact z) fun h' dd' hs => ?_
 refine h _ _ (I.hok.fresh (Nat.le_refl _)) (I.laid (a := s.heap.objs.size) (o := .dK kvs) (t' := s.toks) (fun b q hq => ?_) (Nat.le_refl _) (yX z (beq_eq_false_iff_ne.mpr (Ne.symm (Nat.ne_of_lt I.big))) rel dd'))
 exact (hs.2 b (Nat.ne_of_lt (Heap.lt_size hq))).trans (Heap.get?_push_of_some _ hq)
end
section
variable {X : Cx} {pins : List (Addr × Obj)} {σ : St} {H : Hp} {s : Shared} {a : Addr} {y : V} {u : Value} {A : Around} {E : Value -> Shared -> Prop}
end
end L2
/- THE LAST THEOREM (shape; LID, My.* are yours):
   My.Adr: a structure of the addresses that your layer names (classes, functions); My.Txt K t: a structure (Prop) of the equations over K;
   My.txt_mk : {K} {implicit addresses ..} (e1 : nsIn K mainGlobals "law" = some (some (.ref f))) (e2 : K.lookup f = some ⟨oc, od, .func (fnOf "law" "law" params body scope dV kV doc pm an cdv ct), sl⟩) (e3 : codeIn K cdv "law" = true) .. : ∃ t, My.Txt K t
(the tactic k_is has no namespace: write k_is) -/
namespace L2
open PySem PySem.Spec PyProof.Rows
section
variable {X : Cx}
end
section
variable {κ : Type} [DecidableEq κ]
theorem cV6 {p : κ × V} {r : List (κ × V)} {k : κ} (e : p.1 = k) : lB (p :: r) k = lB r k := by
 unfold lB
 rw [List.filter_cons, if_neg (by simp [e])]
theorem cV7 {p : κ × V} {r : List (κ × V)} {k : κ} (e : ¬ p.1 = k) : lB (p :: r) k = p :: lB r k := by
 unfold lB
 rw [List.filter_cons, if_pos (by simp [e])]
end
end L2
end
section
namespace R
open PySem PySem.Spec PyProof.Rows L2
noncomputable abbrev St := L2.St
inductive D where
 | non | bl (b : Bool) | int (i : Int) | str (x : Str) | tup (xs : List D) | lst (xs : List D)
inductive bD (α : Type) where
 | ok (a : α) | ex (c : Nat) | bad
noncomputable def bD.bind {α β : Type} (r : bD α) (f : α -> bD β) : bD β := match r with
 | .ok a => f a
 | .ex c => .ex c
 | .bad => .bad
mutual
def bC (K : W.Frag) (F : Hp) : D -> V -> Prop
 | .non, v => v = .non
 | .bl b, v => v = .bl b
 | .int i, v => v = .int i
 | .str x, v => v = .str x /\ x.length <= sizeLine
 | .tup ds, v => ∃ a xs, v = .ref a /\ fB K F a xs /\ DatL K F ds xs
 | .lst ds, v => ∃ a xs, v = .ref a /\ dN K F a xs /\ DatL K F ds xs
def DatL (K : W.Frag) (F : Hp) : List D -> List V -> Prop
 | [], xs => xs = []
 | d :: ds, xs => ∃ x r, xs = x :: r /\ bC K F d x /\ DatL K F ds r
end
theorem bH.seqT {K : W.Frag} {H H' : Hp} {a : Addr} {xs : List V} (e : bH H H') (h : fB K H a xs) : fB K H' a xs := by
 rcases h with (h | ⟨o, h⟩) | h
 ·exact .inl (.inl (e _ _ h))
 ·exact .inl (.inr ⟨o, e _ _ h⟩)
 ·exact .inr h
mutual
theorem bC.mono {K : W.Frag} {F F' : Hp} (e : bH F F') : ∀ {d : D} {v : V}, bC K F d v -> bC K F' d v
 | .non, _, h => by simp only [bC] at h ⊢; exact h
 | .bl _, _, h => by simp only [bC] at h ⊢; exact h
 | .int _, _, h => by simp only [bC] at h ⊢; exact h
 | .str _, _, h => by simp only [bC] at h ⊢; exact h
 | .tup ds, _, h => by
  simp only [bC] at h ⊢
  obtain ⟨a, xs, h1, h2, h3⟩ := h
  exact ⟨a, xs, h1, bH.seqT e h2, DatL.mono e h3⟩
 | .lst ds, _, h => by
  simp only [bC] at h ⊢
  obtain ⟨a, xs, h1, h2, h3⟩ := h
  exact ⟨a, xs, h1, bH.seq e h2, DatL.mono e h3⟩
theorem DatL.mono {K : W.Frag} {F F' : Hp} (e : bH F F') : ∀ {ds : List D} {xs : List V}, DatL K F ds xs -> DatL K F' ds xs
 | [], _, h => by simp only [DatL] at h ⊢; exact h
 | d :: ds, _, h => by
  simp only [DatL] at h ⊢
  obtain ⟨x, r, h1, h2, h3⟩ := h
  exact ⟨x, r, h1, bC.mono e h2, DatL.mono e h3⟩
end
section
variable {K : W.Frag} {F : Hp}
theorem DatL.nil : DatL K F [] [] := by simp only [DatL]
theorem DatL.cons {d : D} {ds : List D} {x : V} {xs : List V} (h : bC K F d x) (t : DatL K F ds xs) : DatL K F (d :: ds) (x :: xs) := by
 simp only [DatL]; exact ⟨x, xs, rfl, h, t⟩
theorem DatL.paired : ∀ {ds : List D} {xs : List V}, DatL K F ds xs -> Paired (bC K F) ds xs
 | [], _, h => by simp only [DatL] at h; subst h; exact .nil
 | d :: ds, _, h => by
  simp only [DatL] at h
  obtain ⟨x, r, rfl, h2, h3⟩ := h
  exact .cons h2 (DatL.paired h3)
theorem DatL.of : ∀ {ds : List D} {xs : List V}, Paired (bC K F) ds xs -> DatL K F ds xs
 | _, _, .nil => DatL.nil
 | _, _, .cons h t => DatL.cons h (DatL.of t)
theorem DatL.length {ds : List D} {xs : List V} (h : DatL K F ds xs) : ds.length = xs.length := Paired.length h.paired
end
section
variable {α β : Type} {G : α -> β -> Prop}
theorem qO : ∀ {a c : List α} {b d : List β}, Paired G a b -> Paired G c d -> Paired G (a ++ c) (b ++ d)
 | _, _, _, _, .nil, s => s
 | _, _, _, _, .cons r t, s => .cons r (qO t s)
theorem bF4 : ∀ {a : List α} {b : List β} (n : Nat), Paired G a b -> Paired G (a.take n) (b.take n)
 | _, _, 0, _ => .nil
 | _, _, _ + 1, .nil => .nil
 | _, _, n + 1, .cons r t => .cons r (bF4 n t)
theorem bF5 : ∀ {a : List α} {b : List β} (n : Nat), Paired G a b -> Paired G (a.drop n) (b.drop n)
 | _, _, 0, r => r
 | _, _, _ + 1, .nil => .nil
 | _, _, n + 1, .cons _ t => bF5 n t
theorem jT : ∀ {a : List α} {b : List β} {i : Nat} {x : α}, Paired G a b -> a[i]? = some x -> ∃ y, b[i]? = some y /\ G x y
 | _, _, _, _, .nil, e => by simp at e
 | _, _, 0, _, .cons r _, e => by simp at e; subst e; exact ⟨_, rfl, r⟩
 | _, _, i + 1, x, .cons _ t, e => by
  obtain ⟨u, h1, h2⟩ := jT (i := i) (x := x) t (by simpa using e)
  exact ⟨u, by simpa using h1, h2⟩
theorem bF6 : ∀ {a : List α} {b : List β} {i : Nat} {y : β}, Paired G a b -> b[i]? = some y -> ∃ x, a[i]? = some x /\ G x y
 | _, _, _, _, .nil, e => by simp at e
 | _, _, 0, _, .cons r _, e => by simp at e; subst e; exact ⟨_, rfl, r⟩
 | _, _, i + 1, y, .cons _ t, e => by
  obtain ⟨u, h1, h2⟩ := bF6 (i := i) (y := y) t (by simpa using e)
  exact ⟨u, by simpa using h1, h2⟩
end
class bN where
 L : List (Addr × Pos × Str)
 ap : ∀ t ∈ L, ∀ u ∈ L, t.1 = u.1 -> t = u
class Pd where
 pd : Addr
variable [bN] [Pd]
noncomputable def wL : HO -> Bool
 | .tbl _ => false
 | _ => true
def TOk (H : Hp) (t : Addr × Pos × Str) : Prop := ∃ ps, H t.1 = some (.tbl ps) /\ PySem.TriplesOk ps.toList /\
 (codeAmong t.2.1 ps.toList = none \/ ∃ c', codeAmong t.2.1 ps.toList = some (.ref c') /\ H c' = some (.ext fun h => h.CodeRec (.ref c') t.2.2))
def lC (H : Hp) : Prop := ∀ t ∈ bN.L, TOk H t
def yY (F : Hp) : Prop := ∀ b ps, F b ≠ some (.tbl ps)
def kS (F H : Hp) : Prop := lC H /\ yY F
theorem yY.upd {F : Hp} (h : yY F) (p : Addr) {o : HO} (ho : wL o = true) : yY (upd F p o) := fun b ps e => by
 by_cases z : b = p
 ·subst z; rw [dY] at e; cases e; cases ho
 ·rw [bZ z] at e; exact h b ps e
def cV9 (H H' : Hp) : Prop := ∀ b u, wL u = true -> H b = some u -> H' b = some u
structure bX (F H F' H' : Hp) : Prop where
 same : cV9 H H'
 more : ∀ b, H b ≠ none -> H' b ≠ none
 tk : kS F H -> kS F' H'
 fs : bH F F'
 sub : bH F' H'
 new : ∀ b, F b = none -> H b ≠ none -> F' b = none
theorem bX.refl {F H : Hp} (s : bH F H) : bX F H F H := ⟨fun _ _ _ q => q, fun _ h => h, fun h => h, bH.refl _, s, fun _ h _ => h⟩
theorem lC.same {H H' : Hp} (h : lC H) (s : bH H H') : lC H' := fun t ht => by
 obtain ⟨ps, e, o, q⟩ := h t ht
 refine ⟨ps, s _ _ e, o, ?_⟩
 rcases q with q | ⟨c', q1, q2⟩
 ·exact .inl q
 ·exact .inr ⟨c', q1, s _ _ q2⟩
theorem bR7 {H H' : Hp} (s : bH H H') : ∀ b, H b ≠ none -> H' b ≠ none := fun b h => by
 cases q : H b with
 | none => exact absurd q h
 | some o => rw [s b o q]; simp
theorem bX.trans {F H F1 H1 F2 H2 : Hp} (a : bX F H F1 H1) (b : bX F1 H1 F2 H2) : bX F H F2 H2 where
 same := fun c u n q => b.same c u n (a.same c u n q)
 more := fun c h => b.more c (a.more c h)
 tk := fun h => b.tk (a.tk h)
 fs := a.fs.trans b.fs
 sub := b.sub
 new := fun c h n => b.new c (a.new c h n) (a.more c n)
theorem jD {H : Hp} {p : Addr} (h : H p = none) (o : HO) : bH H (upd H p o) := fun b u q => by rw [bZ (lA q h)]; exact q
theorem cW0 {F H : Hp} (s : bH F H) (p : Addr) (o : HO) : bH (upd F p o) (upd H p o) := fun b u q => by
 by_cases e : b = p
 ·subst e; rw [dY] at q ⊢; exact q
 ·rw [bZ e] at q ⊢; exact s b u q
theorem wM {F H : Hp} (s : bH F H) {p : Addr} (h : F p = none) (o : HO) : bH F (upd H p o) := fun b u q => by
 rw [bZ (lA q h)]; exact s b u q
theorem bX.laid {F H : Hp} (s : bH F H) {p : Addr} (h : H p = none) (o : HO) (ho : wL o = true := by rfl) : bX F H (upd F p o) (upd H p o) where
 same := fun b u _ q => jD h o b u q
 more := bR7 (jD h o)
 tk := fun t => ⟨t.1.same (jD h o), t.2.upd p ho⟩
 fs := jD (bH.free s h) o
 sub := cW0 s p o
 new := fun b hb n => by
  have e : b ≠ p := fun e => n (e ▸ h)
  rw [bZ e]; exact hb
theorem bX.laidN {F H : Hp} (s : bH F H) {p : Addr} (h : H p = none) (o : HO) : bX F H F (upd H p o) where
 same := fun b u _ q => jD h o b u q
 more := bR7 (jD h o)
 tk := fun t => ⟨t.1.same (jD h o), t.2⟩
 fs := bH.refl _
 sub := wM s (bH.free s h) o
 new := fun b hb n => hb
theorem bX.free {F H F' H' : Hp} (g : bX F H F' H') {b : Addr} (h : H' b = none) : H b = none := by
 cases q : H b with
 | none => rfl
 | some o => exact absurd h (g.more b (by rw [q]; simp))
theorem lC.updL {H : Hp} {p : Addr} {xs : List V} (h : lC H) (e : H p = some (.lst xs)) (ys : List V) : lC (upd H p (.lst ys)) := fun t ht => by
 obtain ⟨ps, e1, o, q⟩ := h t ht
 have n1 : t.1 ≠ p := fun z => by rw [z, e] at e1; cases e1
 refine ⟨ps, by rw [bZ n1]; exact e1, o, ?_⟩
 rcases q with q | ⟨c', q1, q2⟩
 ·exact .inl q
 ·have n2 : c' ≠ p := fun z => by rw [z, e] at q2; cases q2
  exact .inr ⟨c', q1, by rw [bZ n2]; exact q2⟩
theorem bR8 {H H' : Hp} (m : ∀ b, H b ≠ none -> H' b ≠ none) (p : Addr) (o : HO) : ∀ b, H b ≠ none -> upd H' p o b ≠ none := fun b h => by
 by_cases z : b = p
 ·subst z; rw [dY]; simp
 ·rw [bZ z]; exact m b h
noncomputable abbrev Tab := List (Str × D)
def dA (K : W.Frag) (F : Hp) : Tab -> List (bR × V) -> Prop := Paired fun p q => q.1 = .inr p.1 /\ bC K F p.2 q.2
theorem dA.mono {K : W.Frag} {F F' : Hp} (e : bH F F') {T : Tab} {kvs : List (bR × V)} (h : dA K F T kvs) : dA K F' T kvs := Paired.mapP h fun _ _ z => ⟨z.1, z.2.mono e⟩
def wN (F : Hp) (a : Addr) (kvs : List (bR × V)) : Prop := ∃ ob, F a = some (.frz ob (.dK kvs))
theorem wN.mono {F F' : Hp} {a : Addr} {kvs : List (bR × V)} (h : wN F a kvs) (s : bH F F') : wN F' a kvs := let ⟨ob, e⟩ := h; ⟨ob, s _ _ e⟩
inductive Slot where
 | no | val (d : D) | own (ds : List D) | is (v : V) (c : List (Addr × HO)) | dic (p : Bool) (T : Tab) | tab (T : Tab)
noncomputable abbrev bJ := List Slot
def wO (K : W.Frag) (F H : Hp) : Slot -> Option V -> Prop
 | .no, _ => True
 | .val d, o => ∃ v, o = some v /\ bC K F d v
 | .own ds, o => ∃ a xs, o = some (.ref a) /\ H a = some (.lst xs) /\ F a = none /\ DatL K F ds xs
 | .is v c, o => o = some v /\ ∀ p ∈ c, F p.1 = some p.2
 | .dic p T, o => ∃ a kvs, o = some (.ref a) /\ (p = true -> a = Pd.pd) /\ H a = some (.dK kvs) /\ F a = none /\ dA K F T kvs
 | .tab T, o => ∃ a kvs, o = some (.ref a) /\ wN F a kvs /\ dA K F T kvs
structure gA (K : W.Frag) (F H : Hp) (ρ : bJ) (σ : St) : Prop where
 tb : kS F H
 sub : bH F H
 len : ρ.length = σ.length
 at_ : ∀ (i : Nat) s, ρ[i]? = some s -> ∃ o, σ[i]? = some o /\ wO K F H s o
 apart : ∀ (i j : Nat) ds es a, i ≠ j -> ρ[i]? = some (.own ds) -> ρ[j]? = some (.own es) -> σ[i]? = some (some (.ref a)) -> σ[j]? ≠ some (some (.ref a))
theorem wO.grow {K : W.Frag} {F H F' H' : Hp} (g : bX F H F' H') {s : Slot} {o : Option V} (h : wO K F H s o) : wO K F' H' s o := by
 cases s with
 | no => trivial
 | val d => obtain ⟨v, e, h⟩ := h; exact ⟨v, e, h.mono g.fs⟩
 | own ds =>
  obtain ⟨a, xs, e, h1, h2, h3⟩ := h
  exact ⟨a, xs, e, g.same _ _ rfl h1, g.new _ h2 (by rw [h1]; simp), h3.mono g.fs⟩
 | is v c => exact ⟨h.1, fun p hp => g.fs _ _ (h.2 p hp)⟩
 | dic p T =>
  obtain ⟨a, xs, e, h0, h1, h2, h3⟩ := h
  exact ⟨a, xs, e, h0, g.same _ _ rfl h1, g.new _ h2 (by rw [h1]; simp), h3.mono g.fs⟩
 | tab T =>
  obtain ⟨a, xs, e, h1, h3⟩ := h
  exact ⟨a, xs, e, h1.mono g.fs, h3.mono g.fs⟩
theorem gA.grow {K : W.Frag} {F H F' H' : Hp} {ρ : bJ} {σ : St} (h : gA K F H ρ σ) (g : bX F H F' H') : gA K F' H' ρ σ :=
 ⟨g.tk h.tb, g.sub, h.len, fun i s e => let ⟨o, e1, r⟩ := h.at_ i s e; ⟨o, e1, r.grow g⟩, h.apart⟩
theorem gA.set {K : W.Frag} {F H : Hp} {ρ : bJ} {σ : St} (h : gA K F H ρ σ) {d : D} {v : V} (i : Nat) (hd : bC K F d v) : gA K F H (ρ.set i (.val d)) (σ.set i (some v)) := by
 refine ⟨h.tb, h.sub, by rw [List.length_set, List.length_set]; exact h.len, fun j s e => ?_, fun j k ds es a n e1 e2 e3 => ?_⟩
 ·by_cases q : i = j
  ·subst q
   by_cases hl : i < ρ.length
   ·rw [List.getElem?_set_self hl] at e
    cases e
    exact ⟨some v, List.getElem?_set_self (by rw [<- h.len]; exact hl), v, rfl, hd⟩
   ·rw [List.getElem?_eq_none (by rw [List.length_set]; omega)] at e; cases e
  ·rw [List.getElem?_set_ne q] at e ⊢; exact h.at_ j s e
 ·have q1 : i ≠ j := by
   rintro rfl
   by_cases hl : i < ρ.length
   ·rw [List.getElem?_set_self hl] at e1; cases e1
   ·rw [List.getElem?_eq_none (by rw [List.length_set]; omega)] at e1; cases e1
  have q2 : i ≠ k := by
   rintro rfl
   by_cases hl : i < ρ.length
   ·rw [List.getElem?_set_self hl] at e2; cases e2
   ·rw [List.getElem?_eq_none (by rw [List.length_set]; omega)] at e2; cases e2
  rw [List.getElem?_set_ne q1] at e1 e3
  rw [List.getElem?_set_ne q2] at e2 ⊢
  exact h.apart j k ds es a n e1 e2 e3
def dC {α β : Type} (Rel : Hp -> α -> β -> Prop) (F H : Hp) (r : bD α) (Q : β -> Hp -> Prop) : Prop := match r with
 | .ok a => ∀ b F' H', bX F H F' H' -> Rel F' a b -> Q b H'
 | .ex _ => False
 | .bad => False
theorem dC.grow {α β : Type} {Rel : Hp -> α -> β -> Prop} {F H F1 H1 : Hp} {r : bD α} {Q : β -> Hp -> Prop} (h : dC Rel F H r Q) (g : bX F H F1 H1) : dC Rel F1 H1 r Q := by
 cases r with
 | ok a => exact fun b F' H' g' r' => h b F' H' (g.trans g') r'
 | ex _ => exact h
 | bad => exact h
theorem gH {α β γ δ : Type} {R1 : Hp -> α -> β -> Prop} {R2 : Hp -> γ -> δ -> Prop} {F H : Hp} {r : bD α} {g : α -> bD γ} {Q : δ -> Hp -> Prop} (h : dC R2 F H (r.bind g) Q) :
 dC R1 F H r fun b H1 => ∃ F1 a, bX F H F1 H1 /\ R1 F1 a b /\ dC R2 F1 H1 (g a) Q := by
 cases r with
 | ok a => exact fun b F' H' g' r' => ⟨F', a, g', r', dC.grow (show dC R2 F H (g a) Q from h) g'⟩
 | ex _ => exact h
 | bad => exact h
theorem cK {α β : Type} {Rel : Hp -> α -> β -> Prop} {F H : Hp} {a : α} {Q : β -> Hp -> Prop} (h : dC Rel F H (.ok a) Q) (s : bH F H) {b : β} (r : Rel F a b) : Q b H := h b F H (.refl s) r
theorem wP {K : W.Frag} {F H : Hp} {ds : List D} {xs : List V} {Q : V -> Hp -> Prop} (h : dC (bC K) F H (.ok (.tup ds)) Q) (s : bH F H) (r : DatL K F ds xs) {p : Addr} (hp : H p = none) : Q (.ref p) (upd H p (.tup xs)) := by
 refine h _ _ _ (bX.laid s hp _) ?_
 simp only [bC]
 exact ⟨p, xs, rfl, fB.of dY, r.mono (jD (bH.free s hp) _)⟩
theorem sP {K : W.Frag} {F H : Hp} {ds : List D} {xs : List V} {Q : V -> Hp -> Prop} (h : dC (bC K) F H (.ok (.lst ds)) Q) (s : bH F H) (r : DatL K F ds xs) {p : Addr} (hp : H p = none) : Q (.ref p) (upd H p (.lst xs)) := by
 refine h _ _ _ (bX.laid s hp _) ?_
 simp only [bC]
 exact ⟨p, xs, rfl, dN.of dY, r.mono (jD (bH.free s hp) _)⟩
noncomputable abbrev ME := bJ -> bD D
noncomputable abbrev MT := bJ -> bD Bool
noncomputable abbrev MA := bJ -> bD (List D)
def yZ : Hp -> Bool -> Bool -> Prop := fun _ a b => a = b
def RelO : Hp -> Option Int -> Option Int -> Prop := fun _ a b => a = b
noncomputable def tD (X : Cx) (f : ME) : TE := fun σ H Q => ∃ ρ F, gA X.K F H ρ σ /\ dC (bC X.K) F H (f ρ) Q
noncomputable def mC (X : Cx) (f : MT) : TT := fun σ H Q => ∃ ρ F, gA X.K F H ρ σ /\ dC yZ F H (f ρ) Q
noncomputable def zA (X : Cx) (f : MA) : TA := fun σ H Q => ∃ ρ F, gA X.K F H ρ σ /\ dC (DatL X.K) F H (f ρ) Q
def IE (X : Cx) (e : Expr) (f : ME) : Prop := PE X e (tD X f)
def IT (X : Cx) (e : Expr) (f : MT) : Prop := PT X e (mC X f)
def IW (X : Cx) (e : Expr) (f : MT) : Prop := PW X e (mC X f)
def IA (X : Cx) (es : List Expr) (f : MA) : Prop := PA X es (zA X f)
theorem gN {X : Cx} {e : Expr} {t t' : TE} (h : PE X e t) (i : ∀ σ H Q, t' σ H Q -> t σ H Q) : PE X e t' := fun pins s σ H Q I hq => h pins s σ H Q I (i σ H Q hq)
theorem sQ {X : Cx} {e : Expr} {t t' : TT} (h : PT X e t) (i : ∀ σ H Q, t' σ H Q -> t σ H Q) : PT X e t' := fun pins s σ H Q I hq => h pins s σ H Q I (i σ H Q hq)
theorem bR9 {X : Cx} {e : Expr} {t t' : TT} (h : PW X e t) (i : ∀ σ H Q, t' σ H Q -> t σ H Q) : PW X e t' := fun wh pins s σ H Q I hq => h wh pins s σ H Q I (i σ H Q hq)
theorem pG {X : Cx} {e : List Expr} {t t' : TA} (h : PA X e t) (i : ∀ σ H Q, t' σ H Q -> t σ H Q) : PA X e t' := fun p pins s σ H Q I hq => h p pins s σ H Q I (i σ H Q hq)
theorem gT {X : Cx} {e : Stmt} {t t' : TS} (h : PS X e t) (i : ∀ E σ H, t' E σ H -> t E σ H) : PS X e t' := fun pins s σ H E I hq => h pins s σ H E I (i E σ H hq)
theorem bF7 {X : Cx} {e : List Stmt} {t t' : TS} (h : jR X e t) (i : ∀ E σ H, t' E σ H -> t E σ H) : jR X e t' := fun pins s σ H E I hq => h pins s σ H E I (i E σ H hq)
noncomputable def gv (i : Nat) : ME := fun ρ => match ρ[i]? with
 | some (.val d) => .ok d
 | _ => .bad
noncomputable def kc (d : D) : ME := fun _ => .ok d
section
variable {X : Cx} {a b c e : Expr} {es : List Expr} {f g h : ME} {pos : Pos}
theorem cW1 (i : Nat) {x : Str} (hp : PE X (.Name x pos) (yK i)) : IE X (.Name x pos) (gv i) := gN hp fun σ H Q ⟨ρ, F, E, q⟩ => by
 unfold gv at q
 split at q
 ·rename_i d e
  obtain ⟨o, e1, v, rfl, hd⟩ := E.at_ i _ e
  exact ⟨v, e1, cK q E.sub hd⟩
 ·exact q.elim
theorem wQ {t : TE} {v : V} {d : D} (hp : PE X e (tC v)) (hd : ∀ F, bC X.K F d v) : IE X e (kc d) := gN hp fun σ H Q ⟨ρ, F, E, q⟩ => cK q E.sub (hd F)
theorem cW2 {i j} : IE X (.Constant (.int i) j pos) (kc (.int i)) := wQ (t := tC (.int i)) cH6 fun F => by simp only [bC]
theorem cW3 {i j} : IE X (.Constant (.bool i) j pos) (kc (.bl i)) := wQ (t := tC (.bl i)) cH7 fun F => by simp only [bC]
theorem cW4 {j} : IE X (.Constant .none j pos) (kc .non) := wQ (t := tC .non) cH8 fun F => by simp only [bC]
theorem cW5 {x j} (hx : x.length <= sizeLine := by decide) : IE X (.Constant (.str x) j pos) (kc (.str x)) := wQ (t := tC (.str x)) cH9 fun F => by simp only [bC]; exact ⟨trivial, hx⟩
noncomputable def m1 (m : D -> bD D) (f : ME) : ME := fun ρ => (f ρ).bind m
noncomputable def m2 (m : D -> D -> bD D) (f g : ME) : ME := fun ρ => (f ρ).bind fun x => (g ρ).bind fun y => m x y
def sR (X : Cx) (r : R2) (m : D -> D -> bD D) : Prop := ∀ F H d1 d2 v1 v2 Q, bH F H -> bC X.K F d1 v1 -> bC X.K F d2 v2 -> dC (bC X.K) F H (m d1 d2) Q -> r v1 v2 H Q
def Op1 (X : Cx) (r : V -> Hp -> VK -> Prop) (m : D -> bD D) : Prop := ∀ F H d v Q, bH F H -> bC X.K F d v -> dC (bC X.K) F H (m d) Q -> r v H Q
def sT (X : Cx) (r : List V -> Hp -> VK -> Prop) (m : List D -> bD D) : Prop := ∀ F H ds vs Q, bH F H -> DatL X.K F ds vs -> dC (bC X.K) F H (m ds) Q -> r vs H Q
theorem zB {r : R2} {m : D -> D -> bD D} (hd : sR X r m) {σ : St} {H : Hp} {Q : VK} (q : tD X (m2 m f g) σ H Q) : wH r (tD X f) (tD X g) σ H Q := by
 obtain ⟨ρ, F, E, q⟩ := q
 refine ⟨ρ, F, E, ?_⟩
 have q1 := gH (R1 := bC X.K) q
 refine (by
  revert q1
  cases f ρ with
  | ok d =>
   intro q1 v F1 H1 g1 d1
   obtain ⟨F2, d', g2, d2, q2⟩ := q1 v F1 H1 g1 d1
   refine ⟨ρ, F2, E.grow g2, ?_⟩
   have q3 := gH (R1 := bC X.K) q2
   revert q3
   cases g ρ with
   | ok y =>
    intro q3 v' F3 H3 g3 d3
    obtain ⟨F4, y', g4, d4, q4⟩ := q3 v' F3 H3 g3 d3
    exact hd F4 H3 d' y' v v' Q g4.sub (d2.mono g4.fs) d4 q4
   | ex _ => intro q3; exact q3
   | bad => intro q3; exact q3
  | ex _ => intro q1; exact q1
  | bad => intro q1; exact q1)
theorem cW6 {op : Operator} {r : R2} {m : D -> D -> bD D} (ho : cT X (binaryOp op) r) (hd : sR X r m) (ha : IE X a f) (hb : IE X b g) : IE X (.BinOp a op b pos) (m2 m f g) :=
 gN (cL4 ho ha hb) fun _ _ _ q => zB hd q
theorem cW7 {op : CmpOp} {r : R2} {m : D -> D -> bD D} (ho : cT X (compareOp op) r) (hd : sR X r m) (ha : IE X a f) (hb : IE X b g) (hm : behindInMarks op b = false) : IE X (.Compare a [op] [b] pos) (m2 m f g) :=
 gN (cN7 ho ha hb hm) fun _ _ _ q => zB hd q
theorem cW8 {r : R2} {m : D -> D -> bD D} (ho : sM X r) (hd : sR X r m) (ha : IE X a f) (hb : IE X b g) (hs : yT b) : IE X (.Subscript a b pos) (m2 m f g) :=
 gN (cQ8 ho ha hb hs) fun _ _ _ q => zB hd q
theorem cW9 {op : UnaryOp} {r : V -> Hp -> VK -> Prop} {m : D -> bD D} (ho : wG X (unaryOp op) r) (hd : Op1 X r m) (ha : IE X a f) : IE X (.UnaryOp op a pos) (m1 m f) :=
 gN (cL5 ho ha) fun σ H Q ⟨ρ, F, E, q⟩ => ⟨ρ, F, E, by
  have q1 := gH (R1 := bC X.K) q
  revert q1
  cases f ρ with
  | ok d => exact fun q1 v F1 H1 g1 d1 => let ⟨F2, d', g2, d2, q2⟩ := q1 v F1 H1 g1 d1; hd F2 H1 d' v Q g2.sub d2 q2
  | ex _ => exact fun q1 => q1
  | bad => exact fun q1 => q1⟩
noncomputable def bA : MA := fun _ => .ok []
noncomputable def aC (f : ME) (r : MA) : MA := fun ρ => (f ρ).bind fun x => (r ρ).bind fun xs => .ok (x :: xs)
theorem wR : IA X [] bA := pG lX fun σ H Q ⟨ρ, F, E, q⟩ => cK q E.sub DatL.nil
theorem bS1 {r : MA} (ha : IE X e f) (hr : IA X es r) (hs : starEach (e :: es) X.env = (false, eval e X.env) :: starEach es X.env := by rfl) : IA X (e :: es) (aC f r) :=
 pG (kR ha hr hs) fun σ H Q ⟨ρ, F, E, q⟩ => ⟨ρ, F, E, by
  have q1 := gH (R1 := bC X.K) q
  revert q1
  cases f ρ with
  | ok d =>
   intro q1 v F1 H1 g1 d1
   obtain ⟨F2, d', g2, d2, q2⟩ := q1 v F1 H1 g1 d1
   refine ⟨ρ, F2, E.grow g2, ?_⟩
   have q3 := gH (R1 := DatL X.K) q2
   revert q3
   cases r ρ with
   | ok y =>
    intro q3 v' F3 H3 g3 d3
    obtain ⟨F4, y', g4, d4, q4⟩ := q3 v' F3 H3 g3 d3
    exact cK q4 g4.sub (DatL.cons (d2.mono g4.fs) d4)
   | ex _ => intro q3; exact q3
   | bad => intro q3; exact q3
  | ex _ => exact fun q1 => q1
  | bad => exact fun q1 => q1⟩
theorem zC {r : List V -> Hp -> VK -> Prop} {m : List D -> bD D} {fa : MA} (hd : sT X r m) {σ : St} {H : Hp} {Q : VK} (q : tD X (fun ρ => (fa ρ).bind m) σ H Q) : zA X fa σ H fun vs H1 => r vs H1 Q := by
 obtain ⟨ρ, F, E, q⟩ := q
 refine ⟨ρ, F, E, ?_⟩
 have q1 := gH (R1 := DatL X.K) q
 revert q1
 cases fa ρ with
 | ok d => exact fun q1 v F1 H1 g1 d1 => let ⟨F2, d', g2, d2, q2⟩ := q1 v F1 H1 g1 d1; hd F2 H1 d' v Q g2.sub d2 q2
 | ex _ => exact fun q1 => q1
 | bad => exact fun q1 => q1
theorem cX0 {r : List V -> Hp -> VK -> Prop} {m : List D -> bD D} {fa : MA} (hd : ∀ F H ds vs Q, kS F H -> bH F H -> DatL X.K F ds vs -> dC (bC X.K) F H (m ds) Q -> r vs H Q) {σ : St} {H : Hp} {Q : VK} (q : tD X (fun ρ => (fa ρ).bind m) σ H Q) : zA X fa σ H fun vs H1 => r vs H1 Q := by
 obtain ⟨ρ, F, E, q⟩ := q
 refine ⟨ρ, F, E, ?_⟩
 have q1 := gH (R1 := DatL X.K) q
 revert q1
 cases fa ρ with
 | ok d => exact fun q1 v F1 H1 g1 d1 => let ⟨F2, d', g2, d2, q2⟩ := q1 v F1 H1 g1 d1; hd F2 H1 d' v Q (g2.tk E.tb) g2.sub d2 q2
 | ex _ => exact fun q1 => q1
 | bad => exact fun q1 => q1
noncomputable def mA (m : List D -> bD D) (fa : MA) : ME := fun ρ => (fa ρ).bind m
noncomputable def bK (ds : List D) : bD D := if ds.length <= sizeLine then .ok (.tup ds) else .bad
noncomputable def jU (ds : List D) : bD D := if ds.length <= sizeLine then .ok (.lst ds) else .bad
theorem bS2 {fa : MA} {k} (h : IA X es fa) : IE X (.Tuple es k pos) (mA bK fa) := gN (cO9 h) fun σ H Q q => zC (r := fun vs H1 Q => vs.length <= sizeLine /\ ∀ p, H1 p = none -> Q (.ref p) (upd H1 p (.tup vs))) (fun F H ds vs Q s d q => by
 unfold bK at q
 split at q
 ·rename_i z; exact ⟨by rw [<- d.length]; exact z, fun p hp => wP q s d hp⟩
 ·exact q.elim) q
theorem cX1 {fa : MA} (h : IA X es fa) : IE X (.List es pos) (mA jU fa) := gN (bP4 h) fun σ H Q q => zC (r := fun vs H1 Q => vs.length <= sizeLine /\ ∀ p, H1 p = none -> Q (.ref p) (upd H1 p (.lst vs))) (fun F H ds vs Q s d q => by
 unfold jU at q
 split at q
 ·rename_i z; exact ⟨by rw [<- d.length]; exact z, fun p hp => sP q s d hp⟩
 ·exact q.elim) q
theorem cX2 {x : Str} {p : Pos} {id : String} {r : List V -> Hp -> VK -> Prop} {m : List D -> bD D} {fa : MA} (hc : fZ X (.builtin id) r) (hd : sT X r m) (hg : Gl X x) (hm : X.mg x = none) (hv : bootBuiltins x = some (.builtin id)) (ha : IA X (e :: es) fa)
 (hn : x ≠ "__name__" := by decide) (hdb : (x == ("__debug__" : Str)) = false := by decide) (he : starEach (e :: es) X.env = (false, eval e X.env) :: starEach es X.env := by rfl) (hpl : (backTo pos (starEach es X.env)).any (·.1) = false := by rfl) :
 IE X (.Call (.Name x p) (e :: es) [] pos) (mA m fa) := gN (bE8 hc hg hm hv ha hn hdb he hpl) fun σ H Q q => zC hd q
theorem cX3 {x : Str} {p : Pos} {id : String} {r : List V -> Hp -> VK -> Prop} {m : List D -> bD D} {fa : MA} (hc : fZ X (.type id) r) (hd : sT X r m) (hg : Gl X x) (hm : X.mg x = none) (hv : bootBuiltins x = some (.type id)) (ha : IA X (e :: es) fa)
 (hn : x ≠ "__name__" := by decide) (hdb : (x == ("__debug__" : Str)) = false := by decide) (he : starEach (e :: es) X.env = (false, eval e X.env) :: starEach es X.env := by rfl) (hpl : (backTo pos (starEach es X.env)).any (·.1) = false := by rfl) :
 IE X (.Call (.Name x p) (e :: es) [] pos) (mA m fa) := gN (yR hc hg hm hv ha hn hdb he hpl) fun σ H Q q => zC hd q
noncomputable def cS (K : W.Frag) (m : List D -> bD D) : Sp := fun vs H Q _ => ∃ F ds, kS F H /\ bH F H /\ DatL K F ds vs /\ dC (bC K) F H (m ds) Q
structure bS3 (X : Cx) (k : Nat) (x : Str) (m : List D -> bD D) : Prop where
 ex : ∃ (f : Addr) (fd : FuncData) (ps : List Str), bS X.prog X.w X.K X.mg X.base bT k f fd ps (cS X.K m) /\ X.mg x = some (.ref f) /\ W.keepIn X.K (.ref f) = true /\ cY X.K fd ps []
theorem cX4 {k : Nat} {x : Str} {p : Pos} {m : List D -> bD D} {fa : MA} (C : bS3 X k x m) (hr : dZ k X.A) (hg : Gl X x) (ha : IA X (e :: es) fa)
 (hdb : (x == ("__debug__" : Str)) = false := by decide) (he : starEach (e :: es) X.env = (false, eval e X.env) :: starEach es X.env := by rfl) (hpl : (backTo pos (starEach es X.env)).any (·.1) = false := by rfl) :
 IE X (.Call (.Name x p) (e :: es) [] pos) (mA m fa) := by
 obtain ⟨f, fd, ps, F, hm, hk, hb⟩ := C.ex
 refine gN (yQ (E := E0) F hr hg hm hk hb .nil yU ha hdb he hpl) fun σ H Q q => ?_
 refine cX0 (r := fun vs H1 Q => cS X.K m (vs ++ []) H1 Q E0) (fun F H ds vs Q ti s d q => ?_) q
 show cS X.K m (vs ++ []) H Q E0
 rw [List.append_nil]
 exact ⟨F, ds, ti, s, d, q⟩
noncomputable def qP : D -> bD Bool
 | .bl b => .ok b
 | _ => .bad
noncomputable def zD : D -> bD Bool
 | .non => .ok false
 | .bl b => .ok b
 | .int i => .ok (i != 0)
 | .str x => .ok ((x.length : Int) != 0)
 | .tup ds => .ok (!ds.isEmpty)
 | .lst ds => .ok (!ds.isEmpty)
noncomputable def mT (f : ME) : MT := fun ρ => (f ρ).bind zD
noncomputable def mB (f : ME) : MT := fun ρ => (f ρ).bind qP
theorem cX5 {σ : St} {H : Hp} {Q : Bool -> Hp -> Prop} {t : TE} (ht : ∀ σ H Q, tD X f σ H Q -> t σ H Q) (q : mC X (mB f) σ H Q) : t σ H fun x H' => ∃ k, x = .bl k /\ Q k H' := by
 obtain ⟨ρ, F, E, q⟩ := q
 refine ht _ _ _ ⟨ρ, F, E, ?_⟩
 have q1 := gH (R1 := bC X.K) q
 revert q1
 cases f ρ with
 | ok d =>
  intro q1 v F1 H1 g1 d1
  obtain ⟨F2, d', g2, d2, q2⟩ := q1 v F1 H1 g1 d1
  cases d' with
  | bl b => simp only [bC] at d2; exact ⟨b, d2, cK q2 g2.sub rfl⟩
  | _ => exact q2.elim
 | ex _ => exact fun q1 => q1
 | bad => exact fun q1 => q1
theorem cX6 {op : CmpOp} {r : R2} {m : D -> D -> bD D} (ho : cT X (compareOp op) r) (hd : sR X r m) (ha : IE X a f) (hb : IE X b g) (hm : behindInMarks op b = false) : IT X (.Compare a [op] [b] pos) (mB (m2 m f g)) :=
 sQ (bE4 ho ha hb hm) fun σ H Q q => cX5 (f := m2 m f g) (fun _ _ _ q => zB hd q) q
theorem cX7 {F H : Hp} {d : D} {v : V} {Q : Bool -> Hp -> Prop} (s : bH F H) (h : bC X.K F d v) (q : dC yZ F H (zD d) Q) : ∃ k, bE5 X.K v H k /\ Q k H := by
 cases d with
 | non => simp only [bC] at h; subst h; exact ⟨false, rfl, cK q s rfl⟩
 | bl b => simp only [bC] at h; subst h; exact ⟨b, rfl, cK q s rfl⟩
 | int i => simp only [bC] at h; subst h; exact ⟨_, rfl, cK q s rfl⟩
 | str x => simp only [bC] at h; obtain ⟨rfl, h⟩ := h; exact ⟨_, ⟨h, rfl⟩, cK q s rfl⟩
 | tup ds =>
  simp only [bC] at h; obtain ⟨a, xs, rfl, h1, h2⟩ := h
  refine ⟨!xs.isEmpty, .inr (.inl ⟨xs, bH.seqT s h1, rfl⟩), cK q s ?_⟩
  have := h2.length
  cases ds <;> cases xs <;> first | rfl | cases this
 | lst ds =>
  simp only [bC] at h; obtain ⟨a, xs, rfl, h1, h2⟩ := h
  refine ⟨!xs.isEmpty, .inl ⟨xs, bH.seq s h1, rfl⟩, cK q s ?_⟩
  have := h2.length
  cases ds <;> cases xs <;> first | rfl | cases this
theorem cX8 (ha : IE X a f) (he : ∀ whole, isTrue a X.env whole = (do let v <- whole; standAt a.pos; holding [v] (truthy v)) := by intro _; rfl) : IT X a (mT f) :=
 sQ (cO1 ha he) fun σ H Q ⟨ρ, F, E, q⟩ => ⟨ρ, F, E, by
  have q1 := gH (R1 := bC X.K) q
  revert q1
  cases f ρ with
  | ok d => exact fun q1 v F1 H1 g1 d1 => let ⟨F2, d', g2, d2, q2⟩ := q1 v F1 H1 g1 d1; cX7 g2.sub d2 q2
  | ex _ => exact fun q1 => q1
  | bad => exact fun q1 => q1⟩
variable {p q' : MT} {rest : List Expr}
noncomputable def dM (p q : MT) : MT := fun ρ => (p ρ).bind fun b => if b = true then q ρ else .ok false
noncomputable def jE (p q : MT) : MT := fun ρ => (p ρ).bind fun b => if b = true then .ok true else q ρ
theorem zE (ha : IT X a p) : IW X (.BoolOp .And [a] pos) p := cI5 ha
theorem zF (ha : IT X a p) : IW X (.BoolOp .Or [a] pos) p := cI6 ha
theorem bS4 {σ : St} {H : Hp} {Q : Bool -> Hp -> Prop} {k : Bool -> bJ -> bD Bool} {T : Bool -> St -> Hp -> Prop} (hT : ∀ b σ H, mC X (k b) σ H Q -> T b σ H) (q : mC X (fun ρ => (p ρ).bind fun b => k b ρ) σ H Q) : mC X p σ H fun b H1 => T b σ H1 := by
 obtain ⟨ρ, F, E, q⟩ := q
 refine ⟨ρ, F, E, ?_⟩
 have q1 := gH (R1 := yZ) q
 revert q1
 cases p ρ with
 | ok d =>
  intro q1 v F1 H1 g1 d1
  obtain ⟨F2, d', g2, d2, q2⟩ := q1 v F1 H1 g1 d1
  cases (show d' = v from d2)
  exact hT _ _ _ ⟨ρ, F2, E.grow g2, q2⟩
 | ex _ => exact fun q1 => q1
 | bad => exact fun q1 => q1
theorem bF8 {b : Bool} {σ : St} {H : Hp} {Q : Bool -> Hp -> Prop} (q : mC X (fun _ => .ok b) σ H Q) : Q b H := by
 obtain ⟨ρ, F, E, q⟩ := q
 exact cK q E.sub rfl
theorem zG (ha : IT X a p) (hb : IW X (.BoolOp .And (b :: rest) pos) q') : IW X (.BoolOp .And (a :: b :: rest) pos) (dM p q') := bR9 (cI7 ha hb) fun σ H Q q =>
 bS4 (k := fun b ρ => if b = true then q' ρ else .ok false) (T := fun c σ H1 => if c = true then mC X q' σ H1 Q else Q false H1) (fun b σ H h => by
  cases b with
  | true => exact pE h
  | false => exact pD (bF8 h)) q
theorem zH (ha : IT X a p) (hb : IW X (.BoolOp .Or (b :: rest) pos) q') : IW X (.BoolOp .Or (a :: b :: rest) pos) (jE p q') := bR9 (cI8 ha hb) fun σ H Q q =>
 bS4 (k := fun b ρ => if b = true then .ok true else q' ρ) (T := fun c σ H1 => if c = true then Q true H1 else mC X q' σ H1 Q) (fun b σ H h => by
  cases b with
  | true => exact pE (bF8 h)
  | false => exact pD h) q
theorem IW.it (h : IW X e p) : IT X e p := PW.pt h
noncomputable def pH (f g : ME) : ME := fun ρ => (f ρ).bind fun x => (qP x).bind fun c => if c = true then g ρ else .ok (.bl false)
noncomputable def vOr (f g : ME) : ME := fun ρ => (f ρ).bind fun x => (qP x).bind fun c => if c = true then .ok (.bl true) else g ρ
theorem bS5 {σ : St} {H : Hp} {Q : VK} {k : Bool -> ME} {T : Bool -> St -> Hp -> Prop} (hT : ∀ b σ H, tD X (k b) σ H Q -> T b σ H) (q : tD X (fun ρ => (f ρ).bind fun x => (qP x).bind fun c => k c ρ) σ H Q) : tD X f σ H fun x H1 => ∃ c, x = .bl c /\ T c σ H1 := by
 obtain ⟨ρ, F, E, q⟩ := q
 refine ⟨ρ, F, E, ?_⟩
 have q1 := gH (R1 := bC X.K) q
 revert q1
 cases f ρ with
 | ok d =>
  intro q1 v F1 H1 g1 d1
  obtain ⟨F2, d', g2, d2, q2⟩ := q1 v F1 H1 g1 d1
  cases d' with
  | bl c => simp only [bC] at d2; exact ⟨c, d2, hT _ _ _ ⟨ρ, F2, E.grow g2, q2⟩⟩
  | _ => exact q2.elim
 | ex _ => exact fun q1 => q1
 | bad => exact fun q1 => q1
theorem bS6 {d : D} {v : V} {σ : St} {H : Hp} {Q : VK} (hd : ∀ F, bC X.K F d v) (q : tD X (fun _ => .ok d) σ H Q) : Q v H := by
 obtain ⟨ρ, F, E, q⟩ := q
 exact cK q E.sub (hd F)
theorem cX9 {op} (h : IE X a f) : IE X (.BoolOp op [a] pos) f := cJ1 h
theorem cY0 (ha : IE X a f) (hb : IE X (.BoolOp .And (b :: rest) pos) g) : IE X (.BoolOp .And (a :: b :: rest) pos) (pH f g) := gN (cJ2 ha hb) fun σ H Q q =>
 bS5 (k := fun c ρ => if c = true then g ρ else .ok (.bl false)) (T := fun c σ H1 => if c = true then tD X g σ H1 Q else Q (.bl false) H1) (fun b σ H h => by
  cases b with
  | true => exact pE h
  | false => exact pD (bS6 (fun F => by simp only [bC]) h)) q
theorem cY1 (ha : IE X a f) (hb : IE X (.BoolOp .Or (b :: rest) pos) g) : IE X (.BoolOp .Or (a :: b :: rest) pos) (vOr f g) := gN (cJ3 ha hb) fun σ H Q q =>
 bS5 (k := fun c ρ => if c = true then .ok (.bl true) else g ρ) (T := fun c σ H1 => if c = true then Q (.bl true) H1 else tD X g σ H1 Q) (fun b σ H h => by
  cases b with
  | true => exact pE (bS6 (fun F => by simp only [bC]) h)
  | false => exact pD h) q
end
end R
end
section
namespace R
open PySem PySem.Spec PyProof.Rows L2
variable [bN] [Pd]
inductive Fl where
 | nx (ρ : bJ) | rt (d : D) | bk (ρ : bJ) | ct (ρ : bJ) | rd (d : D) (T : Tab) | rn (T : Tab)
noncomputable abbrev MS := bJ -> bD Fl
def DR (H₀ : Hp) (ρ : bJ) (σ : St) : Prop := (∀ (i : Nat) p T a, ρ[i]? = some (.dic p T) -> σ[i]? = some (some (.ref a)) -> H₀ a = none) /\
 ∀ (i j : Nat) p q T U a, i ≠ j -> ρ[i]? = some (.dic p T) -> ρ[j]? = some (.dic q U) -> σ[i]? = some (some (.ref a)) -> σ[j]? ≠ some (some (.ref a))
noncomputable def nd : Slot -> Bool
 | .dic _ _ => false
 | _ => true
theorem sU {ρ : bJ} {i j : Nat} {s : Slot} {p : Bool} {T : Tab} (hs : nd s = true) (e : (ρ.set i s)[j]? = some (.dic p T)) : i ≠ j /\ ρ[j]? = some (.dic p T) := by
 have q : i ≠ j := by
  rintro rfl
  by_cases hl : i < ρ.length
  ·rw [List.getElem?_set_self hl] at e; cases e; cases hs
  ·rw [List.getElem?_eq_none (by rw [List.length_set]; omega)] at e; cases e
 rw [List.getElem?_set_ne q] at e
 exact ⟨q, e⟩
theorem DR.set {H₀ : Hp} {ρ : bJ} {σ : St} (h : DR H₀ ρ σ) (i : Nat) {s : Slot} (hs : nd s = true) (o : Option V) : DR H₀ (ρ.set i s) (σ.set i o) := by
 refine ⟨fun j p T a e1 e2 => ?_, fun j k p q T U a n e1 e2 e3 => ?_⟩
 ·obtain ⟨n, e⟩ := sU hs e1
  rw [List.getElem?_set_ne n] at e2
  exact h.1 j p T a e e2
 ·obtain ⟨n1, e1⟩ := sU hs e1
  obtain ⟨n2, e2⟩ := sU hs e2
  rw [List.getElem?_set_ne n1] at e3
  rw [List.getElem?_set_ne n2]
  exact h.2 j k p q T U a n e1 e2 e3
theorem DR.setL {H₀ : Hp} {ρ : bJ} {σ : St} (h : DR H₀ ρ σ) (i : Nat) {s : Slot} (hs : nd s = true) : DR H₀ (ρ.set i s) σ := by
 refine ⟨fun j p T a e1 e2 => ?_, fun j k p q T U a n e1 e2 e3 => ?_⟩
 ·exact h.1 j p T a (sU hs e1).2 e2
 ·exact h.2 j k p q T U a n (sU hs e1).2 (sU hs e2).2 e3
theorem DR.none {H₀ : Hp} {ρ : bJ} {σ : St} (h : ∀ s ∈ ρ, nd s = true) : DR H₀ ρ σ := by
 refine ⟨fun j p T a e1 e2 => ?_, fun j k p q T U a n e1 e2 e3 => ?_⟩
 ·cases h _ (List.mem_of_getElem? e1)
 ·cases h _ (List.mem_of_getElem? e1)
theorem bS7 {ds : List D} {k : Nat} : ∀ s ∈ ds.map Slot.val ++ List.replicate k Slot.no, nd s = true := fun s hs => by
 rcases List.mem_append.mp hs with h | h
 ·obtain ⟨d, _, rfl⟩ := List.mem_map.mp h; rfl
 ·rw [List.eq_of_mem_replicate h]; rfl
structure SR (K : W.Frag) (F₀ H₀ F H : Hp) (ρ : bJ) (σ : St) : Prop where
 gr : bX F₀ H₀ F H
 env : gA K F H ρ σ
 frh : ∀ (i : Nat) ds a, ρ[i]? = some (.own ds) -> σ[i]? = some (some (.ref a)) -> H₀ a = none
 dr : DR H₀ ρ σ
theorem SR.grow {K : W.Frag} {F₀ H₀ F H F' H' : Hp} {ρ : bJ} {σ : St} (h : SR K F₀ H₀ F H ρ σ) (g : bX F H F' H') : SR K F₀ H₀ F' H' ρ σ := ⟨h.gr.trans g, h.env.grow g, h.frh, h.dr⟩
theorem cY2 {ρ : bJ} {i j : Nat} {d : D} {ds : List D} (e : (ρ.set i (.val d))[j]? = some (.own ds)) : i ≠ j /\ ρ[j]? = some (.own ds) := by
 have q : i ≠ j := by
  rintro rfl
  by_cases hl : i < ρ.length
  ·rw [List.getElem?_set_self hl] at e; cases e
  ·rw [List.getElem?_eq_none (by rw [List.length_set]; omega)] at e; cases e
 rw [List.getElem?_set_ne q] at e
 exact ⟨q, e⟩
theorem SR.set {K : W.Frag} {F₀ H₀ F H : Hp} {ρ : bJ} {σ : St} (h : SR K F₀ H₀ F H ρ σ) {d : D} {v : V} (i : Nat) (hd : bC K F d v) : SR K F₀ H₀ F H (ρ.set i (.val d)) (σ.set i (some v)) :=
 ⟨h.gr, h.env.set i hd, fun j ds a e1 e2 => by
  obtain ⟨q, e⟩ := cY2 e1
  rw [List.getElem?_set_ne q] at e2
  exact h.frh j ds a e e2, h.dr.set i rfl _⟩
def fC (X : Cx) (F₀ H₀ : Hp) (r : bD Fl) (E : lM) : Prop := match r with
 | .ok (.nx ρ) => ∀ σ F H, SR X.K F₀ H₀ F H ρ σ -> E.nx σ H
 | .ok (.rt d) => ∀ v F H, bX F₀ H₀ F H -> bC X.K F d v -> E.rt v H
 | .ok (.bk ρ) => ∀ σ F H, SR X.K F₀ H₀ F H ρ σ -> E.bk σ H
 | .ok (.ct ρ) => ∀ σ F H, SR X.K F₀ H₀ F H ρ σ -> E.ct σ H
 | .ok (.rd d T) => ∀ v F H kvs, bX F₀ H₀ F H -> bC X.K F d v -> H Pd.pd = some (.dK kvs) -> F Pd.pd = none -> dA X.K F T kvs -> E.rt v H
 | .ok (.rn T) => ∀ a F H kvs, bX F₀ H₀ F H -> H₀ a = none -> H a = some (.dK kvs) -> F a = none -> dA X.K F T kvs -> E.rt (.ref a) H
 | .ex _ => False
 | .bad => False
noncomputable def tS (X : Cx) (F₀ H₀ : Hp) (g : MS) : TS := fun E σ H => ∃ ρ F, SR X.K F₀ H₀ F H ρ σ /\ fC X F₀ H₀ (g ρ) E
def IS (X : Cx) (st : Stmt) (g : MS) : Prop := ∀ F₀ H₀, PS X st (tS X F₀ H₀ g)
def gB (X : Cx) (st : List Stmt) (g : MS) : Prop := ∀ F₀ H₀, jR X st (tS X F₀ H₀ g)
section
variable {X : Cx} {st : Stmt} {rest : List Stmt} {u v w : MS} {f : ME} {e : Expr} {pos : Pos}
noncomputable def bQ : MS := fun ρ => .ok (.nx ρ)
noncomputable def mD (g : MS) : Fl -> bD Fl
 | .nx ρ => g ρ
 | .rt d => .ok (.rt d)
 | .bk ρ => .ok (.bk ρ)
 | .ct ρ => .ok (.ct ρ)
 | .rd d T => .ok (.rd d T)
 | .rn T => .ok (.rn T)
noncomputable def bB (u v : MS) : MS := fun ρ => (u ρ).bind (mD v)
theorem fU : gB X [] bQ := fun F₀ H₀ => bF7 bO5 fun E σ H ⟨ρ, F, S, q⟩ => q σ F H S
theorem cW (h : IS X st u) : gB X [st] u := fun F₀ H₀ => cK0 (h F₀ H₀)
theorem bY (h1 : IS X st u) (h2 : gB X rest v) : gB X (st :: rest) (bB u v) := fun F₀ H₀ => bF7 (cJ9 (h1 F₀ H₀) (h2 F₀ H₀)) fun E σ H ⟨ρ, F, S, q⟩ => by
 refine ⟨ρ, F, S, ?_⟩
 unfold bB at q
 revert q
 cases u ρ with
 | ok fl =>
  intro q
  cases fl with
  | nx ρ' => exact fun σ' F' H' S' => ⟨ρ', F', S', q⟩
  | rt d => exact q
  | bk ρ' => exact q
  | ct ρ' => exact q
  | rd _ _ => exact q
  | rn _ => exact q
 | ex _ => exact fun q => q
 | bad => exact fun q => q
theorem wS {F₀ H₀ : Hp} {E : lM} {σ : St} {H : Hp} {k : D -> MS} {T : V -> Hp -> Prop} (hT : ∀ ρ F H d v, SR X.K F₀ H₀ F H ρ σ -> bC X.K F d v -> fC X F₀ H₀ (k d ρ) E -> T v H)
 (q : tS X F₀ H₀ (fun ρ => (f ρ).bind fun d => k d ρ) E σ H) : tD X f σ H T := by
 obtain ⟨ρ, F, S, q⟩ := q
 refine ⟨ρ, F, S.env, ?_⟩
 revert q
 show fC X F₀ H₀ ((f ρ).bind fun d => k d ρ) E -> _
 cases f ρ with
 | ok d => exact fun q v F1 H1 g1 d1 => hT ρ F1 H1 d v (S.grow g1) d1 q
 | ex _ => exact fun q => q
 | bad => exact fun q => q
noncomputable def cC (f : ME) : MS := fun ρ => (f ρ).bind fun d => .ok (.rt d)
theorem cY3 (he : IE X e f) : IS X (.Return (some e) pos) (cC f) := fun F₀ H₀ => gT (wD he) fun E σ H q =>
 wS (k := fun d _ => .ok (.rt d)) (fun ρ F H d v S r q => q v F H S.gr r) q
noncomputable def bI (i : Nat) (f : ME) : MS := fun ρ => (f ρ).bind fun d => .ok (.nx (ρ.set i (.val d)))
theorem bS8 {x : Str} {p : Pos} {i : Nat} (h : ∀ t, PE X e t -> PS X (.Assign [.Name x p] e pos) (wE t (kG i))) (he : IE X e f) : IS X (.Assign [.Name x p] e pos) (bI i f) := fun F₀ H₀ => gT (h _ he) fun E σ H q =>
 wS (k := fun d ρ => .ok (.nx (ρ.set i (.val d)))) (fun ρ F H d v S r q => q _ F H (S.set i r)) q
noncomputable def bM (p : MT) (u v : MS) : MS := fun ρ => (p ρ).bind fun c => if c = true then u ρ else v ρ
theorem fV {c : Expr} {a b : List Stmt} {p : MT} (hc : IT X c p) (ha : gB X a u) (hb : gB X b v) : IS X (.If c a b pos) (bM p u v) := fun F₀ H₀ => gT (bO6 hc (ha F₀ H₀) (hb F₀ H₀)) fun E σ H ⟨ρ, F, S, q⟩ => by
 refine ⟨ρ, F, S.env, ?_⟩
 unfold bM at q
 revert q
 cases p ρ with
 | ok c =>
  intro q v F1 H1 g1 e1
  cases (show c = v from e1)
  cases c with
  | true => exact pE ⟨ρ, F1, S.grow g1, q⟩
  | false => exact pD ⟨ρ, F1, S.grow g1, q⟩
 | ex _ => exact fun q => q
 | bad => exact fun q => q
noncomputable def cP (i : Nat) (body : MS) : List D -> MS
 | [], ρ => .ok (.nx ρ)
 | d :: ds, ρ => (body (ρ.set i (.val d))).bind fun fl => match fl with
  | .nx ρ' => cP i body ds ρ'
  | .ct ρ' => cP i body ds ρ'
  | .bk ρ' => .ok (.nx ρ')
  | .rt d => .ok (.rt d)
  | .rd d T => .ok (.rd d T)
  | .rn T => .ok (.rn T)
theorem cY4 {F₀ H₀ : Hp} {E : lM} {i : Nat} {body : MS} {d : D} {ds : List D} {ρ : bJ} (q : fC X F₀ H₀ (cP i body (d :: ds) ρ) E) {N : St -> Hp -> Prop} (hN : ∀ ρ' σ F H, SR X.K F₀ H₀ F H ρ' σ -> fC X F₀ H₀ (cP i body ds ρ') E -> N σ H) :
 fC X F₀ H₀ (body (ρ.set i (.val d))) { E with nx := N, ct := N, bk := E.nx } := by
 unfold cP at q
 revert q
 cases body (ρ.set i (.val d)) with
 | ok fl =>
  intro q
  cases fl with
  | nx ρ' => exact fun σ F H S => hN ρ' σ F H S q
  | ct ρ' => exact fun σ F H S => hN ρ' σ F H S q
  | bk ρ' => exact q
  | rt d => exact q
  | rd _ _ => exact q
  | rn _ => exact q
 | ex _ => exact fun q => q
 | bad => exact fun q => q
theorem bX.mix {F₀ H₀ F H F' H' : Hp} (a : bX F₀ H₀ F H) (b : bX F H₀ F' H') : bX F₀ H₀ F' H' := ⟨b.same, b.more, fun t => b.tk ⟨t.1, (a.tk t).2⟩, a.fs.trans b.fs, b.sub, fun c h n => b.new c (a.new c h n) n⟩
theorem bX.here {F₀ H₀ F H : Hp} (a : bX F₀ H₀ F H) : bX F H₀ F H := ⟨a.same, a.more, fun t => a.tk ⟨t.1, fun b ps e => t.2 b ps (a.fs _ _ e)⟩, bH.refl _, a.sub, fun _ h _ => h⟩
theorem SR.here {K : W.Frag} {F₀ H₀ F H : Hp} {ρ : bJ} {σ : St} (h : SR K F₀ H₀ F H ρ σ) : SR K F H₀ F H ρ σ := ⟨h.gr.here, h.env, h.frh, h.dr⟩
theorem SR.mix {K : W.Frag} {F₀ H₀ F H F' H' : Hp} {ρ' : bJ} {σ' : St} (a : bX F₀ H₀ F H) (h : SR K F H₀ F' H' ρ' σ') : SR K F₀ H₀ F' H' ρ' σ' := ⟨a.mix h.gr, h.env, h.frh, h.dr⟩
theorem fC.here {F₀ H₀ F H : Hp} {r : bD Fl} {E : lM} (a : bX F₀ H₀ F H) (q : fC X F₀ H₀ r E) : fC X F H₀ r E := by
 cases r with
 | ok fl =>
  cases fl with
  | nx ρ => exact fun σ F H S => q σ F H (SR.mix a S)
  | bk ρ => exact fun σ F H S => q σ F H (SR.mix a S)
  | ct ρ => exact fun σ F H S => q σ F H (SR.mix a S)
  | rt d => exact fun v F H g r => q v F H (a.mix g) r
  | rd d T => exact fun v F H kvs g r => q v F H kvs (a.mix g) r
  | rn T => exact fun b F H kvs g r => q b F H kvs (a.mix g) r
 | ex _ => exact q
 | bad => exact q
section
variable {tg iter : Expr} {body : List Stmt} {i : Nat}
theorem bS9 {H₀ : Hp} (hb : gB X body u) : jR X body (fun E σ H => ∃ F₁, tS X F₁ H₀ u E σ H) := fun pins s σ H E I ⟨F₁, h⟩ => hb F₁ H₀ pins s σ H E I h
noncomputable def upTo (lo : Int) (n : Nat) : List D := (List.range n).map fun (k : Nat) => D.int (lo + (k : Int))
end
noncomputable def lD (n : Nat) (ds : List D) : bJ := ds.map .val ++ List.replicate (n - ds.length) .no
noncomputable def bU : Fl -> bD D
 | .nx _ => .ok .non
 | .rt d => .ok d
 | _ => .bad
noncomputable def cV (k n : Nat) (g : MS) (ds : List D) : bD D := if ds.length = k then (g (lD n ds)).bind bU else .bad
end
theorem env0 {K : W.Frag} {F H : Hp} {ds : List D} {vs : List V} {N : List Str} (ti : kS F H) (s : bH F H) (r : DatL K F ds vs) : gA K F H (lD N.length ds) (start N vs) := by
 have hl := r.length
 have noown : ∀ (i : Nat) es, (lD N.length ds)[i]? ≠ some (.own es) := fun i es e => by
  unfold lD at e
  have hm := List.mem_of_getElem? e
  rcases List.mem_append.mp hm with h | h
  ·obtain ⟨d, _, h⟩ := List.mem_map.mp h; cases h
  ·have := List.eq_of_mem_replicate h; cases this
 refine ⟨ti, s, ?_, fun i sl e => ?_, fun i j es fs a _ e => absurd e (noown i es)⟩
 ·unfold lD L2.start
  simp only [List.length_append, List.length_map, List.length_replicate]
  omega
 ·unfold lD at e
  unfold L2.start
  by_cases hi : i < ds.length
  ·rw [List.getElem?_append_left (by simpa using hi), List.getElem?_map] at e
   rw [List.getElem?_append_left (by simp; omega), List.getElem?_map]
   cases q : ds[i]? with
   | none => rw [q] at e; cases e
   | some d =>
    rw [q] at e; cases e
    obtain ⟨x, h1, h2⟩ := jT r.paired q
    exact ⟨some x, by rw [h1]; rfl, x, rfl, h2⟩
  ·have hi' : i < (ds.map Slot.val ++ List.replicate (N.length - ds.length) Slot.no).length := (List.getElem?_eq_some_iff.mp e).1
   rw [List.getElem?_append_right (by simpa using hi)] at e
   rw [List.getElem?_replicate] at e
   split at e
   ·cases e
    rename_i hz
    simp only [List.length_map] at hz
    refine ⟨none, ?_, trivial⟩
    rw [List.getElem?_append_right (by simp; omega), List.getElem?_replicate]
    simp only [List.length_map]
    rw [if_pos bE]
   ·cases e
theorem bT0 {P : Program} {w : World} {K : W.Frag} {mg : Str -> Option Value} {base : Heap} {x qual : Str} {st : Stmt} {f : Addr} {fd : FuncData} {N ps : List Str} {k : Nat} {g : MS} (F : bL K x qual st f fd) (S : dE N ps (cL st))
 (hbody : ∀ (cdv : Value) (A : Around) (outer : List Env) (s : Shared) (H : Hp) (E : XK), dZ k (A.deeper (envOfC qual (cL st) s.heap.objs.size f cdv)) ->
   gB (lZ bT P w K mg base N qual (cL st) f cdv A outer s H E).nox (lN st) g) : bS P w K mg base bT (k + 1) f fd ps (cS K (cV ps.length N.length g)) := by
 refine F.ok S (fun vs H Q E h => ?_) (fun cdv A outer s H vs Q E hr h => ?_)
 ·obtain ⟨F, ds, _, _, r, q⟩ := h
  unfold cV at q
  split at q
  ·rename_i e; rw [<- r.length]; exact e
  ·exact q.elim
 ·obtain ⟨F, ds, ti, s', r, q⟩ := h
  refine ⟨_, hbody cdv A outer s H E hr F H, lD N.length ds, F, ⟨.refl s', env0 ti s' r, fun i es a e => ?_, DR.none bS7⟩, ?_⟩
  ·exfalso
   unfold lD at e
   have hm := List.mem_of_getElem? e
   rcases List.mem_append.mp hm with h | h
   ·obtain ⟨d, _, h⟩ := List.mem_map.mp h; cases h
   ·have := List.eq_of_mem_replicate h; cases this
  ·unfold cV at q
   split at q
   ·revert q
    cases g (lD N.length ds) with
    | ok fl =>
     intro q
     cases fl with
     | nx ρ => exact fun σ F' H' S' => q .non F' H' S'.gr (by simp only [bC])
     | rt d => exact fun v F' H' g' r' => q v F' H' g' r'
     | bk ρ => exact q.elim
     | ct ρ => exact q.elim
     | rd _ _ => exact q.elim
     | rn _ => exact q.elim
    | ex _ => exact fun q => q
    | bad => exact fun q => q
   ·exact q.elim
end R
end
section
namespace R
open PySem PySem.Spec PyProof.Rows L2
section
variable {prog : Program} {w : World} {A : Around} {E : Value -> Shared -> Prop} {s : Shared}
theorem cY5 {t sl : Addr} {items : Array Value} {vl vu : Value} {lo hi : Option Int} {Q : Value -> Shared -> Prop} (ht : IsTup s.heap t items) (hs : s.heap.IsSliceOf sl vl vu .none) (pl : IsPart vl lo) (pu : IsPart vu hi)
 (hw : HT.sIx items.size 0 lo = 0 /\ HT.sIx items.size items.size hi = items.size) (h : Q (.ref t) s) : wpAny (model prog w) A (getItem (.ref t) (.ref sl)) Q E s := by
 obtain ⟨os, hos, hcs, hds⟩ := id hs
 have hTs : s.TypeIs (.ref sl) "slice" := ⟨os, hos, hcs⟩
 unfold getItem
 try with_reducible refine wpAny_holding ?_
 first | refine wpAny_bind (wpAny_pure ?_) | skip
 refine wpAny_bind (wpAny_sequenceKey ht.typeIs (by decide) ?_)
 refine wpAny_bind (wpAny_callSpecial?_slot (name := Str.ofString "__getitem__") ht.typeIs PyProof.Rows.slot_tuple_getitem
  (wpAny_call_entry PyProof.Rows.slot_tuple_getitem ht.typeIs entry_tuple_getitem ?_ (args_tuple_getitem _ _)))
 show wpAny _ _ (Builtin.Tuple.tupleItemsOf (.ref t) >>= _) _ _ s
 refine wpAny_bind (tupleItemsOf_ ht ?_)
 refine wpAny_bind (wpAny_typeOf hTs ?_)
 rw [if_pos (by decide)]
 refine wpAny_bind (HT.sliceApplied_gen hs pl pu ?_)
 have hno : ((((HT.sIx items.size 0 lo : Nat) : Int) == 0 && (1 : Int) == 1 && (HT.sIx items.size items.size hi - HT.sIx items.size 0 lo) == items.size) = true) := by
  rw [hw.1, hw.2]; simp
 show wpAny _ _ (if (((HT.sIx items.size 0 lo : Nat) : Int) == 0 && (1 : Int) == 1 && (HT.sIx items.size items.size hi - HT.sIx items.size 0 lo) == items.size) = true then _ else _) _ _ s
 rw [if_pos hno]
 unfold Builtin.Tuple.tupleIsExact
 refine wpAny_bind (wpAny_bind (wpAny_typeOf ht.typeIs ?_))
 refine wpAny_pure ?_
 rw [if_pos (by decide)]
 exact wpAny_bind (wpAny_rule (wpAny_pure ⟨_, rfl, wpAny_pure h⟩))
theorem cY6 : fillsNumberSlot (.type "tuple") "mul" = pure false :=
 PySem.fillsNumberSlot_seq (id := "tuple.__mul__") (r := some (.builtin "tuple.__rmul__")) F.slot_tuple_mul.lookup pA F.slot_tuple_rmul.lookup pA
theorem cY7 : seqRepeat? (.type "tuple") = pure (some (.builtin "tuple.__mul__")) := by
 unfold seqRepeat?
 rw [PySem.seqSlot_of (T := "tuple") (name := "__mul__") (id := "tuple.__mul__") F.slot_tuple_mul.lookup pA, PySem.seqSlot_of (T := "tuple") (name := "__rmul__") (id := "tuple.__rmul__") F.slot_tuple_rmul.lookup pA]
 rfl
theorem cY8 (a : Int) (t : Tok) (l : Addr) (items : Array Value) (n : Nat) (d : Option Addr) (sl : Array (Option Value)) :
 Meets (Builtin.«int.__rmul__» ⟨[.int a t, .ref l], []⟩) (fun _ R s => s.heap.get? l = some { cls := .type "tuple", dict := d, data := .seq items n, slots := sl } /\ R (.ok (.ret Value.notImplemented)) s) :=
 .of_wp fun prog w A R s h => by obtain ⟨hp, g, d, tk, os⟩ := s; obtain ⟨hl, h⟩ := h; wp_walk; exact ⟨_, rfl, h⟩
theorem cY9 (l : Addr) (items : Array Value) (n : Nat) (x : Int) (u : Tok) (d : Option Addr) (sl : Array (Option Value)) (h1 : ¬ (x < -(2 ^ 63) || x ≥ 2 ^ 63) = true) (h2 : ¬ (items.isEmpty || x == 1) = true) (h3 : ¬ (x <= 0 || items.isEmpty) = true)
 (h4 : ¬ ((items.size : Int) * x > (2 ^ 63 - 1) / 8)) (h5 : ¬ Builtin.Tuple.tupleTooMany ((items.size : Int) * x) = true) (h6 : (List.foldl (fun x1 x2 => x1 ++ x2) #[] (List.replicate x.toNat items)).size <= sizeLine) :
 Meets (Builtin.«tuple.__mul__» ⟨[.ref l, .int x u], []⟩) (fun _ R s => s.heap.get? l = some { cls := .type "tuple", dict := d, data := .seq items n, slots := sl } /\ R (.ok (.ret (Value.ref s.heap.objs.size))) { s with heap := s.heap.push { cls := Value.type "tuple", data := Data.seq (List.foldl (fun x1 x2 => x1 ++ x2) #[] (List.replicate x.toNat items)) }, toks := s.toks }) :=
 .of_wp fun prog w A R s h => by
  obtain ⟨hp, g, d, tk, os⟩ := s; obtain ⟨hl, h⟩ := h
  wp_walk
  rw [if_neg h1]
  refine wpAny_bind (tupleItemsOf_ ⟨_, hl, rfl, _, rfl⟩ ?_)
  rw [if_neg h2, if_neg h3, if_neg h4, if_neg h5]
  first
   | exact wpAny_bind (m := Builtin.Tuple.tupleExact _) (wpAny_newObj_type (wpAny_pure ⟨_, rfl, h⟩) h6)
   | exact wpAny_bind (m := Builtin.Tuple.tupleExact _) (wpAny_newObj_type (wpAny_pure ⟨_, rfl, wpAny_pure h⟩) h6)
theorem bT1 (xs : List Value) (k : Nat) : List.foldl (fun x1 x2 => x1 ++ x2) #[] (List.replicate k xs.toArray) = ((List.replicate k xs).flatten).toArray := by
 have gen : ∀ (k : Nat) (acc : List Value), List.foldl (fun x1 x2 => x1 ++ x2) acc.toArray (List.replicate k xs.toArray) = (acc ++ (List.replicate k xs).flatten).toArray := by
  intro k
  induction k with
  | zero => intro acc; simp
  | succ k ih =>
   intro acc
   rw [List.replicate_succ, List.foldl_cons, List.replicate_succ, List.flatten_cons]
   have e : acc.toArray ++ xs.toArray = (acc ++ xs).toArray := by simp
   rw [e, ih, List.append_assoc]
 exact gen k []
theorem bG0 {α : Type} (xs : List α) (k : Nat) : ((List.replicate k xs).flatten).length = k * xs.length := by
 induction k with
 | zero => simp
 | succ k ih => rw [List.replicate_succ, List.flatten_cons, List.length_append, ih, Nat.succ_mul]; omega
theorem cZ0 {t : Addr} {vs : List Value} {x : Int} {u : Tok} {Q : Value -> Shared -> Prop} (ht : IsTup s.heap t vs.toArray) (hv : vs ≠ []) (h2 : 2 <= x) (hx : x <= 1000) (hl : vs.length <= 1000)
 (h : Q (.ref s.heap.objs.size) { s with heap := s.heap.push { cls := .type "tuple", data := .seq ((List.replicate x.toNat vs).flatten).toArray } }) : wpAny (model prog w) A (binaryOp .Mult (.ref t) (.int x u)) Q E s := by
 obtain ⟨⟨cls, dd, data, sl⟩, ho, hc, n, hd⟩ := id ht
 simp only at hc hd
 subst hc hd
 have he : vs.toArray.isEmpty = false := by
  cases vs with
  | nil => exact absurd rfl hv
  | cons _ _ => rfl
 have hle : vs.length * x.toNat <= 1000 * 1000 := Nat.mul_le_mul hl bE
 have e : ((vs.toArray.size : Int) * x) = ((vs.length * x.toNat : Nat) : Int) := by
  rw [List.size_toArray, Int.natCast_mul]
  congr 1
  omega
 have hs := sizeLine_eq'
 rw [<- bT1] at h
 exact wpAny_binaryOp_repeat_ref (T := "tuple") (U := "int") (by decide) ⟨_, ho, rfl⟩ (fun s' => typeIs_int s' x u) cY6 F.fills_int_mul F.slot_int_rmul cY7 F.slot_int_index.lookup
  (call_meets F.slot_int_rmul (typeIs_int s x u) F.entry_int_rmul (F.args_int_rmul_2 _ _) (cY8 x u t vs.toArray n dd sl)
    ⟨ho, rfl, ⟨_, ho, rfl⟩, call_meets F.slot_tuple_mul ⟨_, ho, rfl⟩ F.entry_tuple_mul (F.args_tuple_mul_2 _ _)
     (cY9 t vs.toArray n x u dd sl (by simp; omega) (by rw [he]; simp; omega) (by rw [he]; simp; omega) (by rw [e]; omega) (by rw [e]; unfold Builtin.Tuple.tupleTooMany; exact fun z => absurd (of_decide_eq_true z) bE)
       (by rw [bT1, List.size_toArray, bG0, Nat.mul_comm]; omega))
     ⟨ho, h⟩⟩)
 where sizeLine_eq' : 1000000 <= sizeLine := by decide
end
end R
end
section
namespace R
open PySem PySem.Spec PyProof.Rows L2
variable [bN] [Pd]
noncomputable def rD (X : Cx) (m : D -> D -> bD D) : R2 := fun x y H Q => ∃ F d1 d2, bH F H /\ bC X.K F d1 x /\ bC X.K F d2 y /\ dC (bC X.K) F H (m d1 d2) Q
def rD1 (X : Cx) (m : D -> bD D) : V -> Hp -> VK -> Prop := fun x H Q => ∃ F d, bH F H /\ bC X.K F d x /\ dC (bC X.K) F H (m d) Q
def pI (X : Cx) (m : List D -> bD D) : List V -> Hp -> VK -> Prop := fun xs H Q => ∃ F ds, bH F H /\ DatL X.K F ds xs /\ dC (bC X.K) F H (m ds) Q
section
variable {X : Cx} {a b c e : Expr} {es : List Expr} {f g h : ME} {pos : Pos} {m m' : D -> D -> bD D}
theorem zI : sR X (rD X m) m := fun F H d1 d2 v1 v2 Q s h1 h2 q => ⟨F, d1, d2, s, h1, h2, q⟩
theorem cZ1 {m : D -> bD D} : Op1 X (rD1 X m) m := fun F H d v Q s h q => ⟨F, d, s, h, q⟩
theorem bT3 {m : List D -> bD D} : sT X (pI X m) m := fun F H ds vs Q s h q => ⟨F, ds, s, h, q⟩
theorem cZ2 {op : Operator} (ho : cT X (binaryOp op) (rD X m)) (ha : IE X a f) (hb : IE X b g) : IE X (.BinOp a op b pos) (m2 m f g) := cW6 ho zI ha hb
theorem cZ3 {op : CmpOp} (ho : cT X (compareOp op) (rD X m)) (ha : IE X a f) (hb : IE X b g) (hm : behindInMarks op b = false) : IE X (.Compare a [op] [b] pos) (m2 m f g) := cW7 ho zI ha hb hm
theorem pJ {op : CmpOp} (ho : cT X (compareOp op) (rD X m)) (ha : IE X a f) (hb : IE X b g) (hm : behindInMarks op b = false) : IT X (.Compare a [op] [b] pos) (mB (m2 m f g)) := cX6 ho zI ha hb hm
noncomputable def bO : D -> D -> bD D
 | .int a, .int b => .ok (.int (a + b))
 | .str x, .str y => if x.length + y.length <= sizeLine then .ok (.str (x ++ y)) else .bad
 | .tup xs, .tup ys => if xs.length + ys.length <= sizeLine then .ok (.tup (xs ++ ys)) else .bad
 | .lst xs, .lst ys => if xs.length + ys.length <= sizeLine then .ok (.lst (xs ++ ys)) else .bad
 | _, _ => .bad
theorem nF (x y : Str) : (x ++ y).length = x.length + y.length := by
 show (x.cps ++ y.cps).size = _
 rw [Array.size_append]; rfl
theorem cZ4 : cT X (binaryOp .Add) (rD X bO) := by
 intro pins s σ H x y v u Q I rx ry h
 obtain ⟨F, d1, d2, sb, h1, h2, q⟩ := h
 cases d1 <;> cases d2 <;> try exact q.elim
 ·simp only [bC] at h1 h2; subst h1 h2
  exact cL7 pins s σ H _ _ v u Q I rx ry ⟨_, _, rfl, rfl, cK q sb (by simp only [bC])⟩
 ·simp only [bC] at h1 h2; obtain ⟨rfl, z1⟩ := h1; obtain ⟨rfl, z2⟩ := h2
  simp only [bO] at q
  split at q
  ·rename_i z
   exact cO2 pins s σ H _ _ v u Q I rx ry ⟨_, _, rfl, rfl, z, cK q sb (by simp only [bC]; exact ⟨trivial, by rw [nF]; exact z⟩)⟩
  ·exact q.elim
 ·rename_i xs ys
  simp only [bC] at h1 h2
  obtain ⟨p1, vs, rfl, hq1, hl1⟩ := h1
  obtain ⟨p2, ws, rfl, hq2, hl2⟩ := h2
  simp only [bO] at q
  split at q
  ·rename_i z
   have hq1' := bH.seqT sb hq1
   have hq2' := bH.seqT sb hq2
   have l1 := hl1.length
   have l2 := hl2.length
   by_cases hx : vs = []
   ·subst hx
    have hxs : xs = [] := List.length_eq_zero_iff.mp l1
    subst hxs
    cases rx
    cases ry
    obtain ⟨its, r1, p1', _⟩ := I.tuple hq1'
    obtain ⟨its2, r2, p2', _⟩ := I.tuple hq2'
    have e0 : its = [] := r1.nil_iff.mpr rfl
    subst e0
    obtain ⟨⟨cls, dd, data, sl⟩, ho, hc, n, hd⟩ := id p1'
    obtain ⟨⟨cls2, dd2, data2, sl2⟩, ho2, hc2, n2, hd2⟩ := id p2'
    simp only at hc hd hc2 hd2
    subst hc hd hc2 hd2
    exact concat_meets ⟨_, ho, rfl⟩ ⟨_, ho2, rfl⟩ noFill_tuple_add seq_tuple_add PySem.F.slot_tuple_add PySem.F.entry_tuple_add (PySem.F.args_tuple_add_2 _ _)
     (tuple_addW0 p1 p2 _ _ n n2 dd dd2 sl sl2 (by simp)) ⟨ho, ho2, ⟨.ref p2, H, I, rfl, cK q sb (by simp only [bC, List.nil_append]; exact ⟨p2, ws, rfl, hq2, hl2⟩)⟩⟩
   ·refine cQ6 pins s σ H _ _ v u Q I rx ry ⟨p1, p2, vs, ws, rfl, rfl, hq1', hq2', hx, by omega, fun hy => ?_, fun hy p hp => ?_⟩
    ·subst hy
     have hys : ys = [] := List.length_eq_zero_iff.mp l2
     subst hys
     exact cK q sb (by simp only [bC, List.append_nil]; exact ⟨p1, vs, rfl, hq1, hl1⟩)
    ·exact wP q sb (DatL.of (qO hl1.paired hl2.paired)) hp
  ·exact q.elim
 ·rename_i xs ys
  simp only [bC] at h1 h2
  obtain ⟨p1, vs, rfl, hq1, hl1⟩ := h1
  obtain ⟨p2, ws, rfl, hq2, hl2⟩ := h2
  simp only [bO] at q
  split at q
  ·rename_i z
   have l1 := hl1.length
   have l2 := hl2.length
   cases rx
   cases ry
   obtain ⟨its, r1, ⟨⟨cls, dd, data, sl⟩, n, ho, hc, hd, hs⟩, z1⟩ := I.list (bH.seq sb hq1)
   obtain ⟨its2, r2, ⟨⟨cls2, dd2, data2, sl2⟩, n2, ho2, hc2, hd2, hs2⟩, z2⟩ := I.list (bH.seq sb hq2)
   simp only at hc hd hc2 hd2 hs hs2
   subst hc hd hc2 hd2 hs hs2
   have k1 := r1.length
   have k2 := r2.length
   refine concat_meets ⟨_, ho, rfl⟩ ⟨_, ho2, rfl⟩ PySem.noFill_list_add PySem.seq_list_add PySem.F.slot_list_add PySem.F.entry_list_add (PySem.F.args_list_add_2 _ _)
    (list_addW p1 p2 _ _ n n2 none none sl sl2 (by simp only [List.size_toArray]; omega)) ⟨ho, ho2, ?_⟩
   have ea : its.toArray ++ its2.toArray = (its ++ its2).toArray := by simp
   rw [ea]
   exact ⟨.ref _, _, I.lnew (t' := s.toks) (r1.append r2) (by rw [List.length_append]; omega), rfl, sP q sb (DatL.of (qO hl1.paired hl2.paired)) I.fresh⟩
  ·exact q.elim
theorem bG1 {fn : Value -> Value -> Sem Value} {C : Int -> Int -> Prop} {gv : Int -> Int -> V} {gd : Int -> Int -> D} (rule : cT X fn (rI C gv)) (hm : ∀ d1 d2 F H Q, dC (bC X.K) F H (m d1 d2) Q -> ∃ i j, d1 = .int i /\ d2 = .int j /\ C i j /\ dC (bC X.K) F H (.ok (gd i j)) Q)
 (hg : ∀ i j F, bC X.K F (gd i j) (gv i j)) : cT X fn (rD X m) := by
 intro pins s σ H x y v u Q I rx ry h
 obtain ⟨F, d1, d2, sb, h1, h2, q⟩ := h
 obtain ⟨i, j, rfl, rfl, hc, q⟩ := hm d1 d2 F H Q q
 simp only [bC] at h1 h2; subst h1 h2
 exact rule pins s σ H _ _ v u Q I rx ry ⟨i, j, rfl, rfl, hc, cK q sb (hg i j F)⟩
theorem cZ5 {fn : Value -> Value -> Sem Value} {gv : Int -> Int -> V} (h : cT X fn (nE gv)) : cT X fn (rI (fun _ _ => True) gv) := by
 intro pins s σ H x y v u Q I rx ry q
 obtain ⟨i, j, e1, e2, _, q⟩ := q
 exact h pins s σ H x y v u Q I rx ry ⟨i, j, e1, e2, q⟩
noncomputable def dI (C : Int -> Int -> Bool) (g : Int -> Int -> D) : D -> D -> bD D
 | .int a, .int b => if C a b = true then .ok (g a b) else .bad
 | _, _ => .bad
theorem bG2 {C : Int -> Int -> Bool} {g : Int -> Int -> D} {F H : Hp} {Q : V -> Hp -> Prop} (d1 d2 : D) (q : dC (bC X.K) F H (dI C g d1 d2) Q) : ∃ i j, d1 = .int i /\ d2 = .int j /\ C i j = true /\ dC (bC X.K) F H (.ok (g i j)) Q := by
 cases d1 <;> cases d2 <;> try exact q.elim
 rename_i i j
 simp only [dI] at q
 split at q
 ·rename_i h; exact ⟨i, j, rfl, rfl, h, q⟩
 ·exact q.elim
noncomputable def jF : D -> D -> bD D := dI (fun _ _ => true) fun a b => .int (a - b)
theorem cZ6 : cT X (binaryOp .Sub) (rD X jF) := bG1 (gd := fun a b => .int (a - b)) (cZ5 cL8) (fun d1 d2 F H Q q => let ⟨i, j, e1, e2, _, q⟩ := bG2 d1 d2 q; ⟨i, j, e1, e2, trivial, q⟩) fun i j F => by simp only [bC]
noncomputable def cE : D -> D -> bD D := dI (fun _ j => decide (0 < j /\ j < 1073741824)) fun a b => .int (a / b)
theorem cZ7 : cT X (binaryOp .FloorDiv) (rD X cE) := bG1 (gd := fun a b => .int (a / b)) cM0 (fun d1 d2 F H Q q => let ⟨i, j, e1, e2, c, q⟩ := bG2 d1 d2 q; ⟨i, j, e1, e2, (show 0 < j /\ j < 1073741824 from of_decide_eq_true c), q⟩) fun i j F => by simp only [bC]
noncomputable def bP : D -> D -> bD D := dI (fun _ j => decide (0 < j)) fun a b => .int (a % b)
theorem cZ8 : cT X (binaryOp .Mod) (rD X bP) := bG1 (gd := fun a b => .int (a % b)) cM1 (fun d1 d2 F H Q q => let ⟨i, j, e1, e2, c, q⟩ := bG2 d1 d2 q; ⟨i, j, e1, e2, of_decide_eq_true c, q⟩) fun i j F => by simp only [bC]
noncomputable def gC (i : Int) : Bool := decide (-(2 ^ 64) < i /\ i < 2 ^ 64)
noncomputable def gJ : D -> D -> bD D
 | .int a, .int b => if gC a || gC b then .ok (.int (a * b)) else .bad
 | .str x, .int n => if 0 <= n /\ n <= 100000 /\ x.length <= 100 then .ok (.str (PySem.Txt.mul x n)) else .bad
 | .tup ds, .int n => if 2 <= n /\ n <= 1000 /\ 0 < ds.length /\ ds.length <= 1000 then .ok (.tup ((List.replicate n.toNat ds).flatten)) else .bad
 | .lst ds, .int n => if 0 <= n /\ n <= 1000 /\ ds.length <= 1000 then .ok (.lst ((List.replicate n.toNat ds).flatten)) else .bad
 | _, _ => .bad
theorem cZ9 (x : Str) (n : Int) : (PySem.Txt.mul x n).length <= x.length * n.toNat := by
 unfold PySem.Txt.mul
 split
 ·show 0 <= _; omega
 ·rename_i h1
  split
  ·rename_i h2
   rw [Bool.or_eq_true] at h2
   rcases h2 with h2 | h2
   ·have : n = 1 := eq_of_beq h2
    subst this; simp
   ·have : x.length = 0 := eq_of_beq h2
    omega
  ·have e : ∀ (k : Nat) (acc : Array Nat), (List.foldl (fun x1 x2 => x1 ++ x2) acc (List.replicate k x.cps)).size = acc.size + x.length * k := by
    intro k
    induction k with
    | zero => intro acc; simp
    | succ k ih =>
     intro acc
     rw [List.replicate_succ, List.foldl_cons, ih, Array.size_append, Nat.mul_succ]
     show acc.size + x.cps.size + x.length * k = acc.size + (x.length * k + x.length)
     have : x.cps.size = x.length := rfl
     omega
   show (List.foldl (fun x1 x2 => x1 ++ x2) #[] (List.replicate n.toNat x.cps)).size <= _
   rw [e]; simp
theorem bG3 {xs : List V} {us : List Value} (r : cG xs us) : ∀ k : Nat, cG ((List.replicate k xs).flatten) ((List.replicate k us).flatten)
 | 0 => .nil
 | k + 1 => by
  rw [List.replicate_succ, List.flatten_cons, List.replicate_succ, List.flatten_cons]
  exact r.append (bG3 r k)
theorem bG4 {α β : Type} {G : α -> β -> Prop} {xs : List α} {us : List β} (r : Paired G xs us) : ∀ k : Nat, Paired G ((List.replicate k xs).flatten) ((List.replicate k us).flatten)
 | 0 => .nil
 | k + 1 => by
  rw [List.replicate_succ, List.flatten_cons, List.replicate_succ, List.flatten_cons]
  exact qO r (bG4 r k)
theorem dA0 : cT X (binaryOp .Mult) (rD X gJ) := by
 intro pins s σ H x y v u Q I rx ry h
 obtain ⟨F, d1, d2, sb, h1, h2, q⟩ := h
 cases d1 <;> cases d2 <;> try exact q.elim
 ·rename_i i j
  simp only [bC] at h1 h2; subst h1 h2
  simp only [gJ] at q
  split at q
  ·rename_i hc
   refine cL9 pins s σ H _ _ v u Q I rx ry ⟨_, _, rfl, rfl, ?_, cK q sb (by simp only [bC])⟩
   rw [Bool.or_eq_true] at hc
   rcases hc with hc | hc
   ·exact .inl (of_decide_eq_true hc)
   ·exact .inr (of_decide_eq_true hc)
  ·exact q.elim
 ·rename_i z n
  simp only [bC] at h1 h2; obtain ⟨rfl, hz⟩ := h1; subst h2
  simp only [gJ] at q
  split at q
  ·rename_i hn
   obtain ⟨t, rfl⟩ := rx
   obtain ⟨t', rfl⟩ := ry
   have hle : z.length * n.toNat <= 100 * 100000 := Nat.mul_le_mul hn.2.2 bE
   have hok : PySem.MulOk z n := by
    refine ⟨?_, fun h1 _ => ?_, fun h1 _ => ?_⟩
    ·have e1 : decide (n < -(2 ^ 63 : Int)) = false := decide_eq_false bE
     have e2 : decide (n ≥ 2 ^ 63) = false := decide_eq_false bE
     rw [e1, e2]; rfl
    ·have hn1 : 1 <= n := by omega
     have hdiv : (100 : Int) <= (2 ^ 63 - 1) / n := by
      apply Int.le_ediv_of_mul_le bE
      omega
     omega
    ·show Builtin.Str.tooLong (z.length * n.toNat) = false
     unfold Builtin.Str.tooLong
     have hsl := sizeLine_eq
     exact decide_eq_false bE
   exact PySem.SB.mul hok fun t2 k => ⟨.str _, H, I.tok _, ⟨_, rfl⟩, cK q sb (by
    simp only [bC]
    refine ⟨trivial, Nat.le_trans (cZ9 z n) ?_⟩
    have := sizeLine_eq
    omega)⟩
  ·exact q.elim
 ·rename_i ds n
  simp only [bC] at h1 h2; subst h2
  obtain ⟨p1, vs, rfl, hq1, hl1⟩ := h1
  simp only [gJ] at q
  split at q
  ·rename_i hn
   have l1 := hl1.length
   cases rx
   obtain ⟨t', rfl⟩ := ry
   obtain ⟨its, r1, p1', _⟩ := I.tuple (bH.seqT sb hq1)
   have l2 := r1.length
   have hz := sizeLine_eq
   refine cZ0 p1' (fun z => by rw [z, List.length_nil] at l2; omega) hn.1 hn.2.1 bE ?_
   have rv : cG ((List.replicate n.toNat vs).flatten) ((List.replicate n.toNat its).flatten) := bG3 r1 _
   refine ⟨.ref s.heap.objs.size, _, I.laid (t' := s.toks) (o := .tup ((List.replicate n.toNat vs).flatten)) (fun b ob q => Heap.get?_push_of_some _ q) (Nat.le_refl _) ?_, rfl, wP q sb (DatL.of (bG4 hl1.paired _)) (I.hok.fresh (Nat.le_refl _))⟩
   refine ⟨?_, _, rv, lL.new _ _⟩
   rw [bG0]
   have : n.toNat * vs.length <= 1000 * 1000 := Nat.mul_le_mul bE bE
   omega
  ·exact q.elim
 ·rename_i ds n
  simp only [bC] at h1 h2; subst h2
  obtain ⟨p1, vs, rfl, hq1, hl1⟩ := h1
  simp only [gJ] at q
  split at q
  ·rename_i hn
   have l1 := hl1.length
   cases rx
   obtain ⟨t', rfl⟩ := ry
   obtain ⟨its, r1, ⟨⟨c0, d0, dt, sl⟩, n0, ho, hc, _, hd⟩, _⟩ := I.list (bH.seq sb hq1)
   simp only at hc hd
   subst hc hd
   have l2 := r1.length
   have hz := sizeLine_eq
   have hm : its.length * n.toNat <= 1000 * 1000 := Nat.mul_le_mul bE bE
   refine wpAny_binaryOp_repeat_ref (T := "list") (U := "int") (by decide) ⟨_, ho, rfl⟩ (fun s' => typeIs_int s' n t') noFill_list_mul PySem.F.fills_int_mul PySem.F.slot_int_rmul repeat_list PySem.F.slot_int_index.lookup
    (call_meets PySem.F.slot_int_rmul (typeIs_int s n t') PySem.F.entry_int_rmul (PySem.F.args_int_rmul_2 _ _) (lm_int_rmul_list_any n t' p1 its.toArray n0 d0 sl)
      ⟨ho, rfl, ⟨_, ho, rfl⟩, call_meets PySem.F.slot_list_mul ⟨_, ho, rfl⟩ PySem.F.entry_list_mul (PySem.F.args_list_mul_2 _ _)
       (lm_list_mul_any p1 its.toArray n0 d0 sl n t' (by rw [fitsIndex_both bE bE]; exact Bool.false_ne_true) (by rw [List.size_toArray]; omega) (by rw [List.size_toArray, cS4 bE]; exact Bool.false_ne_true)) ⟨ho, ?_⟩⟩)
   rw [listMul_foldl_if]
   exact ⟨.ref _, _, I.lnew (t' := s.toks) (bG3 r1 _) (by rw [bG0]; have : n.toNat * vs.length <= 1000 * 1000 := Nat.mul_le_mul bE bE; omega), rfl, sP q sb (DatL.of (bG4 hl1.paired _)) I.fresh⟩
  ·exact q.elim
noncomputable def kH : D -> bD D
 | .int a => .ok (.int (-a))
 | _ => .bad
theorem dA1 : wG X (unaryOp .USub) (rD1 X kH) := by
 intro pins s σ H x v Q I rx h
 obtain ⟨F, d, sb, h1, q⟩ := h
 cases d <;> try exact q.elim
 simp only [bC] at h1; subst h1
 exact cM3 pins s σ H _ v Q I rx ⟨_, rfl, cK q sb (by simp only [bC])⟩
theorem dA2 (ha : IE X a f) : IE X (.UnaryOp .USub a pos) (m1 kH f) := cW9 dA1 cZ1 ha
noncomputable def dH : D -> D -> bD D
 | .int a, .int b => .ok (.bl (decide (a < b)))
 | .str a, .str b => .ok (.bl (decide (a.cps.toList < b.cps.toList)))
 | _, _ => .bad
noncomputable def dLe : D -> D -> bD D
 | .int a, .int b => .ok (.bl (decide (a <= b)))
 | .str a, .str b => .ok (.bl (!decide (b.cps.toList < a.cps.toList)))
 | _, _ => .bad
noncomputable def kI : D -> D -> bD D
 | .int a, .int b => .ok (.bl (decide (b < a)))
 | _, _ => .bad
noncomputable def wT : D -> D -> bD D
 | .int a, .int b => .ok (.bl (decide (b <= a)))
 | _, _ => .bad
theorem bT5 : cT X (compareOp .Lt) (rD X dH) := by
 intro pins s σ H x y v u Q I rx ry h
 obtain ⟨F, d1, d2, sb, h1, h2, q⟩ := h
 cases d1 <;> cases d2 <;> try exact q.elim
 ·simp only [bC] at h1 h2; subst h1 h2
  exact cN0 pins s σ H _ _ v u Q I rx ry ⟨_, _, rfl, rfl, cK q sb (by simp only [bC])⟩
 ·simp only [bC] at h1 h2; obtain ⟨rfl, z1⟩ := h1; obtain ⟨rfl, z2⟩ := h2
  exact cN4 pins s σ H _ _ v u Q I rx ry ⟨_, _, rfl, rfl, cK q sb (by simp only [bC])⟩
theorem dA3 : cT X (compareOp .LtE) (rD X dLe) := by
 intro pins s σ H x y v u Q I rx ry h
 obtain ⟨F, d1, d2, sb, h1, h2, q⟩ := h
 cases d1 <;> cases d2 <;> try exact q.elim
 ·simp only [bC] at h1 h2; subst h1 h2
  exact cN1 pins s σ H _ _ v u Q I rx ry ⟨_, _, rfl, rfl, cK q sb (by simp only [bC])⟩
 ·simp only [bC] at h1 h2; obtain ⟨rfl, z1⟩ := h1; obtain ⟨rfl, z2⟩ := h2
  obtain ⟨t, rfl⟩ := rx
  obtain ⟨t', rfl⟩ := ry
  exact PySem.P.le_str (hV I (cK (b := V.bl _) q sb (by simp only [bC])) rfl)
theorem bT6 : cT X (compareOp .Gt) (rD X kI) := by
 intro pins s σ H x y v u Q I rx ry h
 obtain ⟨F, d1, d2, sb, h1, h2, q⟩ := h
 cases d1 <;> cases d2 <;> try exact q.elim
 simp only [bC] at h1 h2; subst h1 h2
 exact cN2 pins s σ H _ _ v u Q I rx ry ⟨_, _, rfl, rfl, cK q sb (by simp only [bC])⟩
theorem bT7 : cT X (compareOp .GtE) (rD X wT) := by
 intro pins s σ H x y v u Q I rx ry h
 obtain ⟨F, d1, d2, sb, h1, h2, q⟩ := h
 cases d1 <;> cases d2 <;> try exact q.elim
 simp only [bC] at h1 h2; subst h1 h2
 exact cN3 pins s σ H _ _ v u Q I rx ry ⟨_, _, rfl, rfl, cK q sb (by simp only [bC])⟩
end
end R
end
section
namespace R
open PySem PySem.Spec PyProof.Rows L2
variable [bN] [Pd]
mutual
noncomputable def fQ : D -> D -> Bool
 | .non, .non => true
 | .bl a, .bl b => a == b
 | .bl a, .int b => (if a then 1 else 0) == b
 | .int a, .bl b => a == (if b then 1 else 0)
 | .int a, .int b => a == b
 | .str a, .str b => a == b
 | .tup xs, .tup ys => eqL xs ys
 | .lst xs, .lst ys => eqL xs ys
 | _, _ => false
noncomputable def eqL : List D -> List D -> Bool
 | [], [] => true
 | x :: xs, y :: ys => fQ x y && eqL xs ys
 | _, _ => false
end
mutual
noncomputable def gD : D -> Nat
 | .tup xs => depL xs + 1
 | .lst xs => depL xs + 1
 | _ => 0
noncomputable def depL : List D -> Nat
 | [] => 0
 | x :: xs => max (gD x) (depL xs)
end
mutual
theorem wU : ∀ d : D, fQ d d = true
 | .non => rfl
 | .bl b => by simp [fQ]
 | .int i => by simp [fQ]
 | .str x => by simp [fQ]
 | .tup xs => by rw [fQ]; exact eqL_refl xs
 | .lst xs => by rw [fQ]; exact eqL_refl xs
theorem eqL_refl : ∀ ds : List D, eqL ds ds = true
 | [] => rfl
 | d :: ds => by rw [eqL, wU d, eqL_refl ds]; rfl
end
section
variable {X : Cx} {pins : List (Addr × Obj)} {σ : St} {H F : Hp} {s : Shared}
theorem bT8 (I : Inv X pins σ H s) {a : Addr} {xs ys : List V} (h : fB X.K H a xs) (h' : dN X.K H a ys) : False := by
 obtain ⟨its, r, ⟨o, e, c, n, d⟩, _⟩ := I.tuple h
 obtain ⟨its', r', ⟨o', n', e', c', _, d'⟩, _⟩ := I.list h'
 rw [e] at e'; cases e'
 rw [c] at c'
 exact absurd c' (by decide)
mutual
theorem bC.inj (I : Inv X pins σ H s) (sb : bH F H) : ∀ {d d' : D} {v : V}, bC X.K F d v -> bC X.K F d' v -> d = d'
 | .non, d', v, h, h' => by
  simp only [bC] at h; subst h
  cases d' <;> simp only [bC] at h' <;> first | (obtain ⟨_, _, q, _⟩ := h'; cases q; done) | (obtain ⟨q, _⟩ := h'; cases q; done) | (obtain ⟨q, _⟩ := h'; cases q; rfl) | (cases h'; done) | (cases h'; rfl) | rfl
 | .bl b, d', v, h, h' => by
  simp only [bC] at h; subst h
  cases d' <;> simp only [bC] at h' <;> first | (obtain ⟨_, _, q, _⟩ := h'; cases q; done) | (obtain ⟨q, _⟩ := h'; cases q; done) | (obtain ⟨q, _⟩ := h'; cases q; rfl) | (cases h'; done) | (cases h'; rfl) | rfl
 | .int i, d', v, h, h' => by
  simp only [bC] at h; subst h
  cases d' <;> simp only [bC] at h' <;> first | (obtain ⟨_, _, q, _⟩ := h'; cases q; done) | (obtain ⟨q, _⟩ := h'; cases q; done) | (obtain ⟨q, _⟩ := h'; cases q; rfl) | (cases h'; done) | (cases h'; rfl) | rfl
 | .str x, d', v, h, h' => by
  simp only [bC] at h; obtain ⟨rfl, _⟩ := h
  cases d' <;> simp only [bC] at h' <;> first | (obtain ⟨_, _, q, _⟩ := h'; cases q; done) | (obtain ⟨q, _⟩ := h'; cases q; done) | (obtain ⟨q, _⟩ := h'; cases q; rfl) | (cases h'; done) | (cases h'; rfl) | rfl
 | .tup ds, d', v, h, h' => by
  simp only [bC] at h; obtain ⟨a, xs, rfl, h1, h2⟩ := h
  cases d' with
  | tup es =>
   simp only [bC] at h'; obtain ⟨a', ys, e, h1', h2'⟩ := h'
   cases e
   have := I.tuple_inj (bH.seqT sb h1) (bH.seqT sb h1')
   subst this
   rw [DatL.inj I sb h2 h2']
  | lst es =>
   simp only [bC] at h'; obtain ⟨a', ys, e, h1', h2'⟩ := h'
   cases e
   exact (bT8 I (bH.seqT sb h1) (bH.seq sb h1')).elim
  | str _ => simp only [bC] at h'; obtain ⟨q, _⟩ := h'; cases q
  | _ => simp only [bC] at h'; cases h'
 | .lst ds, d', v, h, h' => by
  simp only [bC] at h; obtain ⟨a, xs, rfl, h1, h2⟩ := h
  cases d' with
  | lst es =>
   simp only [bC] at h'; obtain ⟨a', ys, e, h1', h2'⟩ := h'
   cases e
   have := I.list_inj (bH.seq sb h1) (bH.seq sb h1')
   subst this
   rw [DatL.inj I sb h2 h2']
  | tup es =>
   simp only [bC] at h'; obtain ⟨a', ys, e, h1', h2'⟩ := h'
   cases e
   exact (bT8 I (bH.seqT sb h1') (bH.seq sb h1)).elim
  | str _ => simp only [bC] at h'; obtain ⟨q, _⟩ := h'; cases q
  | _ => simp only [bC] at h'; cases h'
theorem DatL.inj (I : Inv X pins σ H s) (sb : bH F H) : ∀ {ds es : List D} {xs : List V}, DatL X.K F ds xs -> DatL X.K F es xs -> ds = es
 | [], es, xs, h, h' => by
  simp only [DatL] at h; subst h
  cases es with
  | nil => rfl
  | cons e es => simp only [DatL] at h'; obtain ⟨_, _, q, _⟩ := h'; cases q
 | d :: ds, es, xs, h, h' => by
  simp only [DatL] at h; obtain ⟨x, r, rfl, h1, h2⟩ := h
  cases es with
  | nil => simp only [DatL] at h'; cases h'
  | cons e es =>
   simp only [DatL] at h'; obtain ⟨x', r', q, h1', h2'⟩ := h'
   cases q
   rw [bC.inj I sb h1 h1', DatL.inj I sb h2 h2']
end
noncomputable def lP (ds es : List D) (j : Nat) : Bool := match ds[j]?, es[j]? with
 | some d, some e => fQ d e
 | _, _ => true
theorem zJ : ∀ ds es : List D, eqL ds es = ((List.range (min ds.length es.length)).all (lP ds es) && (ds.length == es.length))
 | [], [] => rfl
 | [], e :: es => by simp [eqL]
 | d :: ds, [] => by simp [eqL]
 | d :: ds, e :: es => by
  have ih := zJ ds es
  have e1 : min (d :: ds).length (e :: es).length = min ds.length es.length + 1 := by simp only [List.length_cons]; omega
  rw [eqL, e1, List.range_succ_eq_map, List.all_cons, List.all_map, ih]
  have e2 : (lP (d :: ds) (e :: es) ∘ Nat.succ) = lP ds es := by funext j; simp [lP]
  have e3 : lP (d :: ds) (e :: es) 0 = fQ d e := by simp [lP]
  have e4 : ((d :: ds).length == (e :: es).length) = (ds.length == es.length) := by simp
  rw [e2, e3, e4, Bool.and_assoc]
theorem zK : ∀ {ds : List D} {j : Nat} {d : D}, ds[j]? = some d -> gD d <= depL ds
 | [], _, _, h => by simp at h
 | d :: ds, 0, _, h => by simp at h; subst h; rw [depL]; exact Nat.le_max_left _ _
 | d :: ds, j + 1, _, h => by
  rw [depL]
  exact Nat.le_trans (zK (ds := ds) (j := j) (by simpa using h)) (Nat.le_max_right _ _)
theorem wV (I : Inv X pins σ H s) (sb : bH F H) : ∀ (n : Nat) (A : Around) (d e : D) (x y : V) (u v : Value), gD d <= n -> A.units + n < cLine -> bC X.K F d x -> bC X.K F e y -> bW x u -> bW y v -> SeqAt.RcAt A s u v (fQ d e) /\ SeqAt.EqAt A s u v (fQ d e)
 | n, A, d, e, x, y, u, v, hd, hu, h1, h2, r1, r2 => by
  have hu0 : A.units < cLine := by omega
  cases d with
  | non =>
   simp only [bC] at h1; subst h1; cases r1
   cases e with
   | non => simp only [bC] at h2; subst h2; cases r2; exact ⟨SeqAt.RcAt.none_none, SeqAt.EqAt.same _⟩
   | bl b => simp only [bC] at h2; subst h2; cases r2; exact ⟨SeqAt.RcAt.none_bool b, SeqAt.EqAt.none_bool b⟩
   | int b => simp only [bC] at h2; subst h2; obtain ⟨t, rfl⟩ := r2; exact ⟨SeqAt.RcAt.none_int b t, SeqAt.EqAt.none_int b t⟩
   | str b => simp only [bC] at h2; obtain ⟨rfl, _⟩ := h2; obtain ⟨t, rfl⟩ := r2; exact ⟨SeqAt.RcAt.none_str b t, SeqAt.EqAt.none_str b t⟩
   | tup es =>
    simp only [bC] at h2; obtain ⟨p, ys, rfl, g1, _⟩ := h2; cases r2
    obtain ⟨its, _, ht, _⟩ := I.tuple (bH.seqT sb g1)
    exact ⟨SeqAt.RcAt.none_tuple ht hu0, SeqAt.EqAt.none_tuple ht hu0⟩
   | lst es =>
    simp only [bC] at h2; obtain ⟨p, ys, rfl, g1, _⟩ := h2; cases r2
    obtain ⟨its, _, ht, _⟩ := I.list (bH.seq sb g1)
    exact ⟨SeqAt.RcAt.none_list ht.isList hu0, SeqAt.EqAt.none_list ht.isList hu0⟩
  | bl a =>
   simp only [bC] at h1; subst h1; cases r1
   cases e with
   | non => simp only [bC] at h2; subst h2; cases r2; exact ⟨SeqAt.RcAt.bool_none a, SeqAt.EqAt.bool_none a⟩
   | bl b => simp only [bC] at h2; subst h2; cases r2; exact ⟨SeqAt.RcAt.bool_bool a b, SeqAt.EqAt.bool_bool a b⟩
   | int b => simp only [bC] at h2; subst h2; obtain ⟨t, rfl⟩ := r2; exact ⟨SeqAt.RcAt.bool_int a b t, SeqAt.EqAt.bool_int a b t⟩
   | str b => simp only [bC] at h2; obtain ⟨rfl, _⟩ := h2; obtain ⟨t, rfl⟩ := r2; exact ⟨SeqAt.RcAt.bool_str a b t, SeqAt.EqAt.bool_str a b t⟩
   | tup es =>
    simp only [bC] at h2; obtain ⟨p, ys, rfl, g1, _⟩ := h2; cases r2
    obtain ⟨its, _, ht, _⟩ := I.tuple (bH.seqT sb g1)
    exact ⟨SeqAt.RcAt.bool_tuple a ht hu0, SeqAt.EqAt.bool_tuple a ht hu0⟩
   | lst es =>
    simp only [bC] at h2; obtain ⟨p, ys, rfl, g1, _⟩ := h2; cases r2
    obtain ⟨its, _, ht, _⟩ := I.list (bH.seq sb g1)
    exact ⟨SeqAt.RcAt.bool_list a ht.isList hu0, SeqAt.EqAt.bool_list a ht.isList hu0⟩
  | int a =>
   simp only [bC] at h1; subst h1; obtain ⟨t', rfl⟩ := r1
   cases e with
   | non => simp only [bC] at h2; subst h2; cases r2; exact ⟨SeqAt.RcAt.int_none a t', SeqAt.EqAt.int_none a t'⟩
   | bl b => simp only [bC] at h2; subst h2; cases r2; exact ⟨SeqAt.RcAt.int_bool a t' b, SeqAt.EqAt.int_bool a t' b⟩
   | int b => simp only [bC] at h2; subst h2; obtain ⟨t, rfl⟩ := r2; exact ⟨SeqAt.RcAt.int_int a t' b t, SeqAt.EqAt.int_int a t' b t⟩
   | str b => simp only [bC] at h2; obtain ⟨rfl, _⟩ := h2; obtain ⟨t, rfl⟩ := r2; exact ⟨SeqAt.RcAt.int_str a t' b t, SeqAt.EqAt.int_str a t' b t⟩
   | tup es =>
    simp only [bC] at h2; obtain ⟨p, ys, rfl, g1, _⟩ := h2; cases r2
    obtain ⟨its, _, ht, _⟩ := I.tuple (bH.seqT sb g1)
    exact ⟨SeqAt.RcAt.int_tuple a t' ht hu0, SeqAt.EqAt.int_tuple a t' ht hu0⟩
   | lst es =>
    simp only [bC] at h2; obtain ⟨p, ys, rfl, g1, _⟩ := h2; cases r2
    obtain ⟨its, _, ht, _⟩ := I.list (bH.seq sb g1)
    exact ⟨SeqAt.RcAt.int_list a t' ht.isList hu0, SeqAt.EqAt.int_list a t' ht.isList hu0⟩
  | str a =>
   simp only [bC] at h1; obtain ⟨rfl, _⟩ := h1; obtain ⟨t', rfl⟩ := r1
   cases e with
   | non => simp only [bC] at h2; subst h2; cases r2; exact ⟨SeqAt.RcAt.str_none a t', SeqAt.EqAt.str_none a t'⟩
   | bl b => simp only [bC] at h2; subst h2; cases r2; exact ⟨SeqAt.RcAt.str_bool a t' b, SeqAt.EqAt.str_bool a t' b⟩
   | int b => simp only [bC] at h2; subst h2; obtain ⟨t, rfl⟩ := r2; exact ⟨SeqAt.RcAt.str_int a t' b t, SeqAt.EqAt.str_int a t' b t⟩
   | str b => simp only [bC] at h2; obtain ⟨rfl, _⟩ := h2; obtain ⟨t, rfl⟩ := r2; exact ⟨SeqAt.RcAt.str_str a t' b t, SeqAt.EqAt.str_str a t' b t⟩
   | tup es =>
    simp only [bC] at h2; obtain ⟨p, ys, rfl, g1, _⟩ := h2; cases r2
    obtain ⟨its, _, ht, _⟩ := I.tuple (bH.seqT sb g1)
    exact ⟨SeqAt.RcAt.str_tuple a t' ht hu0, SeqAt.EqAt.str_tuple a t' ht hu0⟩
   | lst es =>
    simp only [bC] at h2; obtain ⟨p, ys, rfl, g1, _⟩ := h2; cases r2
    obtain ⟨its, _, ht, _⟩ := I.list (bH.seq sb g1)
    exact ⟨SeqAt.RcAt.str_list a t' ht.isList hu0, SeqAt.EqAt.str_list a t' ht.isList hu0⟩
  | tup ds =>
   have h1' := h1
   simp only [bC] at h1; obtain ⟨p, xs, rfl, g1, l1⟩ := h1; cases r1
   obtain ⟨its, k1, ht, _⟩ := I.tuple (bH.seqT sb g1)
   cases e with
   | non => simp only [bC] at h2; subst h2; cases r2; exact ⟨SeqAt.RcAt.tuple_none ht hu0, SeqAt.EqAt.tuple_none ht hu0⟩
   | bl b => simp only [bC] at h2; subst h2; cases r2; exact ⟨SeqAt.RcAt.tuple_bool b ht hu0, SeqAt.EqAt.tuple_bool b ht hu0⟩
   | int b => simp only [bC] at h2; subst h2; obtain ⟨t, rfl⟩ := r2; exact ⟨SeqAt.RcAt.tuple_int b t ht hu0, SeqAt.EqAt.tuple_int b t ht hu0⟩
   | str b => simp only [bC] at h2; obtain ⟨rfl, _⟩ := h2; obtain ⟨t, rfl⟩ := r2; exact ⟨SeqAt.RcAt.tuple_str b t ht hu0, SeqAt.EqAt.tuple_str b t ht hu0⟩
   | lst es =>
    simp only [bC] at h2; obtain ⟨p2, ys, rfl, g2, _⟩ := h2; cases r2
    obtain ⟨its2, _, ht2, _⟩ := I.list (bH.seq sb g2)
    exact ⟨SeqAt.RcAt.tuple_list ht ht2.isList hu0, SeqAt.EqAt.tuple_list ht ht2.isList hu0⟩
   | tup es =>
    have h2' := h2
    simp only [bC] at h2; obtain ⟨p2, ys, rfl, g2, l2⟩ := h2; cases r2
    obtain ⟨its2, k2, ht2, _⟩ := I.tuple (bH.seqT sb g2)
    cases n with
    | zero => rw [gD] at hd; omega
    | succ n =>
     rw [gD] at hd
     have n1 := l1.length
     have n2 := l2.length
     have m1 := k1.length
     have m2 := k2.length
     have key : ∀ j (w1 : j < its.toArray.size) (w2 : j < its2.toArray.size), SeqAt.EqAt A.in1 s its.toArray[j] its2.toArray[j] (lP ds es j) := fun j w1 w2 => by
      rw [List.size_toArray] at w1 w2
      obtain ⟨d, hd'⟩ : ∃ d, ds[j]? = some d := ⟨ds[j], List.getElem?_eq_getElem bE⟩
      obtain ⟨e, he'⟩ : ∃ e, es[j]? = some e := ⟨es[j], List.getElem?_eq_getElem bE⟩
      obtain ⟨x, hx, dx⟩ := jT l1.paired hd'
      obtain ⟨y, hy, dy⟩ := jT l2.paired he'
      obtain ⟨u, hu1, ru⟩ := k1.get hx
      obtain ⟨v, hv1, rv⟩ := k2.get hy
      have eu : its.toArray[j] = u := by
       have : its[j]? = some its[j] := List.getElem?_eq_getElem w1
       rw [this] at hu1; simpa using Option.some.inj hu1
      have ev : its2.toArray[j] = v := by
       have : its2[j]? = some its2[j] := List.getElem?_eq_getElem w2
       rw [this] at hv1; simpa using Option.some.inj hv1
      rw [eu, ev]
      have ee : lP ds es j = fQ d e := by unfold lP; rw [hd', he']
      rw [ee]
      exact (wV I sb n A.in1 d e x y u v (by have := zK hd'; omega) (by show A.units + 1 + n < cLine; omega) dx dy ru rv).2
     have R1 : SeqAt.RcAt A s (.ref p) (.ref p2) (fQ (.tup ds) (.tup es)) := by
      have z := SeqAt.RcAt.tuples ht ht2 hu0 key
      rw [List.size_toArray, List.size_toArray, <- m1, <- m2, <- n1, <- n2, <- zJ] at z
      rw [fQ]; exact z
     refine ⟨R1, ?_⟩
     by_cases hp : p = p2
     ·subst hp
      have : D.tup ds = D.tup es := bC.inj I sb h1' h2'
      rw [this, wU]
      exact SeqAt.EqAt.same _
     ·exact SeqAt.EqAt.of_refs hp R1
  | lst ds =>
   have h1' := h1
   simp only [bC] at h1; obtain ⟨p, xs, rfl, g1, l1⟩ := h1; cases r1
   obtain ⟨its, k1, htp, _⟩ := I.list (bH.seq sb g1)
   have ht := htp.isList
   cases e with
   | non => simp only [bC] at h2; subst h2; cases r2; exact ⟨SeqAt.RcAt.list_none ht hu0, SeqAt.EqAt.list_none ht hu0⟩
   | bl b => simp only [bC] at h2; subst h2; cases r2; exact ⟨SeqAt.RcAt.list_bool b ht hu0, SeqAt.EqAt.list_bool b ht hu0⟩
   | int b => simp only [bC] at h2; subst h2; obtain ⟨t, rfl⟩ := r2; exact ⟨SeqAt.RcAt.list_int b t ht hu0, SeqAt.EqAt.list_int b t ht hu0⟩
   | str b => simp only [bC] at h2; obtain ⟨rfl, _⟩ := h2; obtain ⟨t, rfl⟩ := r2; exact ⟨SeqAt.RcAt.list_str b t ht hu0, SeqAt.EqAt.list_str b t ht hu0⟩
   | tup es =>
    simp only [bC] at h2; obtain ⟨p2, ys, rfl, g2, _⟩ := h2; cases r2
    obtain ⟨its2, _, ht2, _⟩ := I.tuple (bH.seqT sb g2)
    exact ⟨SeqAt.RcAt.list_tuple ht ht2 hu0, SeqAt.EqAt.list_tuple ht ht2 hu0⟩
   | lst es =>
    have h2' := h2
    simp only [bC] at h2; obtain ⟨p2, ys, rfl, g2, l2⟩ := h2; cases r2
    obtain ⟨its2, k2, htp2, _⟩ := I.list (bH.seq sb g2)
    have ht2 := htp2.isList
    cases n with
    | zero => rw [gD] at hd; omega
    | succ n =>
     rw [gD] at hd
     have n1 := l1.length
     have n2 := l2.length
     have m1 := k1.length
     have m2 := k2.length
     have key : ∀ j (w1 : j < its.toArray.size) (w2 : j < its2.toArray.size), SeqAt.EqAt A.in1 s its.toArray[j] its2.toArray[j] (lP ds es j) := fun j w1 w2 => by
      rw [List.size_toArray] at w1 w2
      obtain ⟨d, hd'⟩ : ∃ d, ds[j]? = some d := ⟨ds[j], List.getElem?_eq_getElem bE⟩
      obtain ⟨e, he'⟩ : ∃ e, es[j]? = some e := ⟨es[j], List.getElem?_eq_getElem bE⟩
      obtain ⟨x, hx, dx⟩ := jT l1.paired hd'
      obtain ⟨y, hy, dy⟩ := jT l2.paired he'
      obtain ⟨u, hu1, ru⟩ := k1.get hx
      obtain ⟨v, hv1, rv⟩ := k2.get hy
      have eu : its.toArray[j] = u := by
       have : its[j]? = some its[j] := List.getElem?_eq_getElem w1
       rw [this] at hu1; simpa using Option.some.inj hu1
      have ev : its2.toArray[j] = v := by
       have : its2[j]? = some its2[j] := List.getElem?_eq_getElem w2
       rw [this] at hv1; simpa using Option.some.inj hv1
      rw [eu, ev]
      have ee : lP ds es j = fQ d e := by unfold lP; rw [hd', he']
      rw [ee]
      exact (wV I sb n A.in1 d e x y u v (by have := zK hd'; omega) (by show A.units + 1 + n < cLine; omega) dx dy ru rv).2
     have R1 : SeqAt.RcAt A s (.ref p) (.ref p2) (fQ (.lst ds) (.lst es)) := by
      by_cases hz : its.toArray.size = its2.toArray.size
      ·have z := SeqAt.RcAt.lists ht ht2 hz hu0 key
       have e5 : its.toArray.size = min ds.length es.length := by rw [List.size_toArray] at hz ⊢; rw [List.size_toArray] at hz; omega
       rw [e5] at z
       rw [fQ, zJ]
       have e6 : (ds.length == es.length) = true := by
        rw [List.size_toArray, List.size_toArray] at hz
        exact beq_iff_eq.mpr bE
       rw [e6, Bool.and_true]; exact z
      ·have z := SeqAt.RcAt.lists_lengths (A := A) (s := s) ht ht2 (by simpa using hz) hu0
       rw [fQ, zJ]
       have e6 : (ds.length == es.length) = false := by
        rw [List.size_toArray, List.size_toArray] at hz
        exact beq_eq_false_iff_ne.mpr bE
       rw [e6, Bool.and_false]; exact z
     refine ⟨R1, ?_⟩
     by_cases hp : p = p2
     ·subst hp
      have : D.lst ds = D.lst es := bC.inj I sb h1' h2'
      rw [this, wU]
      exact SeqAt.EqAt.same _
     ·exact SeqAt.EqAt.of_refs hp R1
end
section
variable {X : Cx} {a b c e : Expr} {es : List Expr} {f g h : ME} {pos : Pos} {m m' : D -> D -> bD D}
noncomputable def cD (d e : D) : bD D := if gD d <= 100 then .ok (.bl (fQ d e)) else .bad
theorem dA4 (hu : X.A.units + 100 < cLine) : cT X (compareOp .Eq) (rD X cD) := by
 intro pins s σ H x y v u Q I rx ry h
 obtain ⟨F, d1, d2, sb, h1, h2, q⟩ := h
 unfold cD at q
 split at q
 ·rename_i hd
  have R1 := (wV I sb 100 X.A d1 d2 x y v u hd hu h1 h2 rx ry).1
  exact R1 X.prog X.w X.xe _ ⟨.bl _, H, I, rfl, cK q sb (by simp only [bC])⟩
 ·exact q.elim
noncomputable def nG (d : D) (ds : List D) : Bool := ds.any fun e => fQ e d
noncomputable def gE (neg : Bool) (d : D) : D -> bD D
 | .tup ds => if depL ds <= 100 then .ok (.bl (if neg then !nG d ds else nG d ds)) else .bad
 | .lst ds => if depL ds <= 100 then .ok (.bl (if neg then !nG d ds else nG d ds)) else .bad
 | _ => .bad
noncomputable def jV (K : W.Frag) (F : Hp) (d : D) (u : Value) : Bool := by
 classical
 exact if h : ∃ e x, bW x u /\ bC K F e x then fQ h.choose d else false
theorem bT9 {pins : List (Addr × Obj)} {σ : St} {H F : Hp} {s : Shared} (I : Inv X pins σ H s) (sb : bH F H) {d e : D} {x : V} {u : Value} (r : bW x u) (h : bC X.K F e x) : jV X.K F d u = fQ e d := by
 classical
 have hx : ∃ e x, bW x u /\ bC X.K F e x := ⟨e, x, r, h⟩
 unfold jV
 rw [dif_pos hx]
 obtain ⟨x', r', h'⟩ := hx.choose_spec
 have : x' = x := r'.inj r
 subst this
 rw [bC.inj I sb h' h]
theorem wW {pins : List (Addr × Obj)} {σ : St} {H F : Hp} {s : Shared} (I : Inv X pins σ H s) (sb : bH F H) {d : D} : ∀ {ds : List D} {xs : List V} {us : List Value}, DatL X.K F ds xs -> cG xs us -> us.any (jV X.K F d) = nG d ds
 | [], _, _, h, r => by simp only [DatL] at h; subst h; cases r; rfl
 | e :: ds, _, _, h, r => by
  simp only [DatL] at h; obtain ⟨x, xs, rfl, h1, h2⟩ := h
  cases r with
  | cons r1 r2 => rw [List.any_cons, bT9 I sb r1 h1, wW I sb h2 r2]; rfl
theorem bU0 (hu : X.A.units + 200 < cLine) {neg : Bool} : cT X (compareOp (if neg then .NotIn else .In)) (rD X (gE neg)) := by
 intro pins s σ H x y v u Q I rx ry h
 obtain ⟨F, d1, d2, sb, h1, h2, q⟩ := h
 have key : ∀ (ds : List D) (xs : List V) (its : List Value), DatL X.K F ds xs -> cG xs its -> depL ds <= 100 -> ∀ w ∈ its.toArray, SeqAt.EqAt X.A.in1 s w v (jV X.K F d1 w) := fun ds xs its hl r hz w hw => by
  have hw' : w ∈ its := by simpa using hw
  obtain ⟨j, hj⟩ := List.getElem?_of_mem hw'
  obtain ⟨x', hx', rx'⟩ := bF6 r hj
  obtain ⟨e, he, hd⟩ := bF6 hl.paired hx'
  rw [bT9 I sb rx' hd]
  exact (wV I sb 100 X.A.in1 e d1 x' x w v (by have := zK he; omega) (by show X.A.units + 1 + 100 < cLine; omega) hd h1 rx' rx).2
 cases d2 with
 | tup ds =>
  simp only [bC] at h2; obtain ⟨p, xs, rfl, g1, l1⟩ := h2; cases ry
  simp only [gE] at q
  split at q
  ·rename_i hz
   obtain ⟨its, r, pl, _⟩ := I.tuple (bH.seqT sb g1)
   cases neg with
   | false =>
    refine SeqAt.in_tupleAt (jV X.K F d1) pl (key ds xs its l1 r hz) ⟨.bl _, H, I, rfl, ?_⟩
    rw [show its.toArray.any (jV X.K F d1) = its.any (jV X.K F d1) by simp, wW I sb l1 r]
    exact cK q sb (by simp only [bC]; rfl)
   | true =>
    refine SeqAt.notIn_tupleAt (jV X.K F d1) pl (key ds xs its l1 r hz) ⟨.bl _, H, I, rfl, ?_⟩
    rw [show its.toArray.any (jV X.K F d1) = its.any (jV X.K F d1) by simp, wW I sb l1 r]
    exact cK q sb (by simp only [bC]; rfl)
  ·exact q.elim
 | lst ds =>
  simp only [bC] at h2; obtain ⟨p, xs, rfl, g1, l1⟩ := h2; cases ry
  simp only [gE] at q
  split at q
  ·rename_i hz
   obtain ⟨its, r, pl, _⟩ := I.list (bH.seq sb g1)
   cases neg with
   | false =>
    refine SeqAt.in_listAt (jV X.K F d1) pl.isList (key ds xs its l1 r hz) ⟨.bl _, H, I, rfl, ?_⟩
    rw [show its.toArray.any (jV X.K F d1) = its.any (jV X.K F d1) by simp, wW I sb l1 r]
    exact cK q sb (by simp only [bC]; rfl)
   | true =>
    refine SeqAt.notIn_listAt (jV X.K F d1) pl.isList (key ds xs its l1 r hz) ⟨.bl _, H, I, rfl, ?_⟩
    rw [show its.toArray.any (jV X.K F d1) = its.any (jV X.K F d1) by simp, wW I sb l1 r]
    exact cK q sb (by simp only [bC]; rfl)
  ·exact q.elim
 | _ => exact q.elim
noncomputable def bF : D -> D -> bD D
 | .tup ds, .int i => match gG ds i with
  | some d => .ok d
  | none => .bad
 | .lst ds, .int i => match gG ds i with
  | some d => .ok d
  | none => .bad
 | .str z, .int i => match gG z.cps.toList i with
  | some c => .ok (.str ⟨#[c]⟩)
  | none => .bad
 | _, _ => .bad
theorem bU1 {α β : Type} {xs : List α} {ys : List β} (h : xs.length = ys.length) {i : Int} {x : α} (e : gG xs i = some x) : ∃ j : Nat, xs[j]? = some x /\ gG ys i = ys[j]? := by
 unfold gG at e ⊢
 rw [<- h]
 cases q : qM xs.length i with
 | none => rw [q] at e; cases e
 | some j => rw [q] at e; exact ⟨j, e, rfl⟩
theorem dA5 : sM X (rD X bF) := by
 intro value slice pins s σ H x y v u Q I rx ry h hs
 obtain ⟨F, d1, d2, sb, h1, h2, q⟩ := h
 cases d1 <;> cases d2 <;> try exact q.elim
 ·rename_i z i
  simp only [bC] at h1 h2; obtain ⟨rfl, hz⟩ := h1; subst h2
  simp only [bF] at q
  split at q
  ·rename_i c hc
   exact cR4 value slice pins s σ H _ _ v u Q I rx ry ⟨z, i, c, rfl, rfl, hz, hc, cK q sb (by simp only [bC]; exact ⟨trivial, by show 1 <= sizeLine; decide⟩)⟩ hs
  ·exact q.elim
 ·rename_i ds i
  simp only [bC] at h1 h2; obtain ⟨p, xs, rfl, g1, l1⟩ := h1; subst h2
  simp only [bF] at q
  split at q
  ·rename_i d hd
   obtain ⟨j, e1, e2⟩ := bU1 l1.length hd
   obtain ⟨x, hx, dx⟩ := jT l1.paired e1
   exact cR3 value slice pins s σ H _ _ v u Q I rx ry ⟨p, xs, i, x, rfl, rfl, bH.seqT sb g1, e2.trans hx, cK q sb dx⟩ hs
  ·exact q.elim
 ·rename_i ds i
  simp only [bC] at h1 h2; obtain ⟨p, xs, rfl, g1, l1⟩ := h1; subst h2
  simp only [bF] at q
  split at q
  ·rename_i d hd
   obtain ⟨j, e1, e2⟩ := bU1 l1.length hd
   obtain ⟨x, hx, dx⟩ := jT l1.paired e1
   exact cR2 value slice pins s σ H _ _ v u Q I rx ry ⟨p, xs, i, x, rfl, rfl, bH.seq sb g1, e2.trans hx, cK q sb dx⟩ hs
  ·exact q.elim
theorem dA6 (ha : IE X a f) (hb : IE X b g) (hs : yT b := by intro _ _; rfl) : IE X (.Subscript a b pos) (m2 bF f g) := cW8 dA5 zI ha hb hs
noncomputable def cI : List D -> bD D
 | [.str z] => .ok (.int z.length)
 | [.tup ds] => .ok (.int ds.length)
 | [.lst ds] => .ok (.int ds.length)
 | _ => .bad
theorem pK {K : W.Frag} {F : Hp} {d : D} {xs : List V} (h : DatL K F [d] xs) : ∃ x, xs = [x] /\ bC K F d x := by
 simp only [DatL] at h
 obtain ⟨x, r, rfl, h1, rfl⟩ := h
 exact ⟨x, rfl, h1⟩
theorem dA7 : fZ X (.builtin "len") (pI X cI) := by
 intro pins s σ H xs us Q I r h
 obtain ⟨F, ds, sb, hl, q⟩ := h
 unfold cI at q
 split at q
 ·rename_i z
  obtain ⟨x, rfl, hx⟩ := pK hl
  simp only [bC] at hx; obtain ⟨rfl, hz⟩ := hx
  exact cR9 pins s σ H _ us Q I r ⟨z, rfl, hz, cK q sb (by simp only [bC])⟩
 ·rename_i es
  obtain ⟨x, rfl, hx⟩ := pK hl
  simp only [bC] at hx; obtain ⟨p, ys, rfl, g1, l1⟩ := hx
  refine bQ5 pins s σ H _ us Q I r ⟨p, ys, rfl, .inr (bH.seqT sb g1), ?_⟩
  rw [<- l1.length]
  exact cK q sb (by simp only [bC])
 ·rename_i es
  obtain ⟨x, rfl, hx⟩ := pK hl
  simp only [bC] at hx; obtain ⟨p, ys, rfl, g1, l1⟩ := hx
  refine bQ5 pins s σ H _ us Q I r ⟨p, ys, rfl, .inl (bH.seq sb g1), ?_⟩
  rw [<- l1.length]
  exact cK q sb (by simp only [bC])
 ·exact q.elim
noncomputable def jW : List D -> bD D
 | [.tup ds] => .ok (.lst ds)
 | [.lst ds] => .ok (.lst ds)
 | _ => .bad
theorem dA8 : fZ X (.type "list") (pI X jW) := by
 intro pins s σ H xs us Q I r h
 obtain ⟨F, ds, sb, hl, q⟩ := h
 unfold jW at q
 split at q
 ·obtain ⟨x, rfl, hx⟩ := pK hl
  simp only [bC] at hx; obtain ⟨p, ys, rfl, g1, l1⟩ := hx
  exact bQ6 pins s σ H _ us Q I r ⟨p, ys, rfl, .inr (bH.seqT sb g1), fun l hl => sP q sb l1 hl⟩
 ·obtain ⟨x, rfl, hx⟩ := pK hl
  simp only [bC] at hx; obtain ⟨p, ys, rfl, g1, l1⟩ := hx
  exact bQ6 pins s σ H _ us Q I r ⟨p, ys, rfl, .inl (bH.seq sb g1), fun l hl => sP q sb l1 hl⟩
 ·exact q.elim
noncomputable def jL : List D -> bD D
 | [.tup ds] => .ok (.tup ds)
 | [.lst ds] => .ok (.tup ds)
 | _ => .bad
theorem dA9 : fZ X (.type "tuple") (pI X jL) := by
 intro pins s σ H xs us Q I r h
 obtain ⟨F, ds, sb, hl, q⟩ := h
 unfold jL at q
 split at q
 ·obtain ⟨x, rfl, hx⟩ := pK hl
  have hx' := hx
  simp only [bC] at hx; obtain ⟨p, ys, rfl, g1, l1⟩ := hx
  exact bQ7 pins s σ H _ us Q I r ⟨p, ys, rfl, .inr ⟨bH.seqT sb g1, cK q sb hx'⟩⟩
 ·obtain ⟨x, rfl, hx⟩ := pK hl
  simp only [bC] at hx; obtain ⟨p, ys, rfl, g1, l1⟩ := hx
  exact bQ7 pins s σ H _ us Q I r ⟨p, ys, rfl, .inl ⟨bH.seq sb g1, fun l hl => wP q sb l1 hl⟩⟩
 ·exact q.elim
end
end R
end
section
namespace R
open PySem PySem.Spec PyProof.Rows L2
variable [bN] [Pd]
noncomputable def Its (z : Str) : It := ⟨fun i _ => i < z.length, fun i H x H' => H' = H /\ ∃ c, z.cps[i]? = some c /\ x = .str ⟨#[c]⟩, fun i _ => z.length <= i⟩
theorem dB0 {P : Program} {w : World} {K : W.Frag} {tg : Expr} (z : Str) (t : Tok) (it : Addr) : nD P w K tg (Its z) [it] it (fun i h => h.IsStrIter it "str_ascii_iterator" z t i) where
 mem := by simp
 obj := fun i h st b hb => by
  have e : b = it := by simpa using hb
  subst e
  obtain ⟨o, e, c, d⟩ := st
  exact ⟨o, e, fun v z => by rw [d] at z; cases z⟩
 keep := fun i h h' st k => let ⟨o, ho, r⟩ := st; ⟨o, k it (by simp) o ho, r⟩
 item := by
  intro X hP hw hK hc i pins s σ H E I hf st hg
  subst hP hw hK
  obtain ⟨f0, f1, f2, f3, f4, f5⟩ := hf it (by simp)
  have hi : i < z.length := hg
  have hx : z.cps[i]? = some z.cps[i] := Array.getElem?_eq_getElem hi
  refine wpAny_pyNext_ascii_item st hx fun h' st' sb => ?_
  have I1 : Inv X pins σ H { s with heap := h', toks := s.toks + 1 } := I.turned (fun b o hb e => (sb.2 b hb).trans e) f0 f1 f3 f4 f5
  obtain ⟨o, e, c, d⟩ := id st'
  exact ⟨_, rfl, sK (s := { s with heap := h', toks := s.toks + 1 }) e c d (by decide) ⟨.str ⟨#[z.cps[i]]⟩, H, I1, ⟨_, rfl⟩, ⟨rfl, _, hx, rfl⟩, st', fun b hb => (hf b hb).1⟩⟩
 done := by
  intro X hP hw hK hc i pins s σ H E I hf st hg
  subst hP hw hK
  obtain ⟨f0, f1, f2, f3, f4, f5⟩ := hf it (by simp)
  have hi : z.length <= i := hg
  exact wpAny_pyNext_ascii_end (I.ok.hd hc) st (Array.getElem?_eq_none hi) fun h' eb => ⟨rfl, I.turned (t' := s.toks) (fun b o hb e => eb b o hb e) f0 f1 f3 f4 f5⟩
 self := fun _ _ _ _ _ st h => wpAny_pyIter_striter_ascii st h
theorem dB1 {P : Program} {w : World} {K : W.Frag} {tg : Expr} (z : Str) (t : Tok) (it : Addr) : nD P w K tg (Its z) [it] it (fun i h => h.IsStrIter it "str_iterator" z t i) where
 mem := by simp
 obj := fun i h st b hb => by
  have e : b = it := by simpa using hb
  subst e
  obtain ⟨o, e, c, d⟩ := st
  exact ⟨o, e, fun v z => by rw [d] at z; cases z⟩
 keep := fun i h h' st k => let ⟨o, ho, r⟩ := st; ⟨o, k it (by simp) o ho, r⟩
 item := by
  intro X hP hw hK hc i pins s σ H E I hf st hg
  subst hP hw hK
  obtain ⟨f0, f1, f2, f3, f4, f5⟩ := hf it (by simp)
  have hi : i < z.length := hg
  have hx : z.cps[i]? = some z.cps[i] := Array.getElem?_eq_getElem hi
  refine wpAny_pyNext_wide_item st hx fun h' st' sb => ?_
  have I1 : Inv X pins σ H { s with heap := h', toks := s.toks + 1 } := I.turned (fun b o hb e => (sb.2 b hb).trans e) f0 f1 f3 f4 f5
  obtain ⟨o, e, c, d⟩ := id st'
  exact ⟨_, rfl, sK (s := { s with heap := h', toks := s.toks + 1 }) e c d (by decide) ⟨.str ⟨#[z.cps[i]]⟩, H, I1, ⟨_, rfl⟩, ⟨rfl, _, hx, rfl⟩, st', fun b hb => (hf b hb).1⟩⟩
 done := by
  intro X hP hw hK hc i pins s σ H E I hf st hg
  subst hP hw hK
  obtain ⟨f0, f1, f2, f3, f4, f5⟩ := hf it (by simp)
  have hi : z.length <= i := hg
  exact wpAny_pyNext_wide_end (I.ok.hd hc) st (Array.getElem?_eq_none hi) fun h' eb => ⟨rfl, I.turned (t' := s.toks) (fun b o hb e => eb b o hb e) f0 f1 f3 f4 f5⟩
 self := fun _ _ _ _ _ st h => wpAny_pyIter_striter_wide st h
def kT (K : W.Frag) (F : Hp) (J : It) (ds : List D) : Prop := ∀ n F2 H2, bH F F2 -> bH F2 H2 ->
 (∀ d, ds[n]? = some d -> J.go n H2 /\ ∀ x H', J.yld n H2 x H' -> ∃ F', bX F2 H2 F' H' /\ bC K F' d x) /\ (n = ds.length -> J.stop n H2)
noncomputable abbrev ML := bJ -> bD (List D)
noncomputable def tI (X : Cx) (f : ML) : TI := fun σ H R => ∃ ρ F, gA X.K F H ρ σ /\ match f ρ with
 | .ok ds => ∀ J F' H', bX F H F' H' -> kT X.K F' J ds -> R J H'
 | .ex _ => False
 | .bad => False
def II (X : Cx) (tg iter : Expr) (f : ML) : Prop := PI X tg iter (tI X f)
noncomputable def wX (z : Str) : List D := z.cps.toList.map fun c => .str ⟨#[c]⟩
noncomputable def zL : D -> bD (List D)
 | .tup ds => .ok ds
 | .lst ds => .ok ds
 | .str z => .ok (wX z)
 | _ => .bad
section
variable {X : Cx} {tg iter e : Expr} {f : ME} {pos : Pos}
theorem dB2 {t t' : TI} (h : PI X tg iter t) (i : ∀ σ H R, t' σ H R -> t σ H R) : PI X tg iter t' := fun pins s σ H R I hq => h pins s σ H R I (i σ H R hq)
theorem dB3 {K : W.Frag} {F : Hp} {a : Addr} {xs : List V} {ds : List D} (h : fB K F a xs) (l : DatL K F ds xs) : kT K F (Itt K a) ds := fun n F2 H2 s1 s2 => by
 have hq : fB K H2 a xs := bH.seqT s2 (bH.seqT s1 h)
 refine ⟨fun d hd => ?_, fun hn => ⟨xs, hq, by rw [<- l.length, hn]; exact Nat.le_refl _⟩⟩
 obtain ⟨x, hx, dx⟩ := jT l.paired hd
 refine ⟨⟨xs, x, hq, hx⟩, fun x' H' y => ?_⟩
 obtain ⟨rfl, y⟩ := y
 have e := y xs hq
 rw [hx] at e
 cases e
 exact ⟨F2, .refl s2, dx.mono s1⟩
theorem dB4 {K : W.Frag} {F : Hp} {a : Addr} {xs : List V} {ds : List D} (h : dN K F a xs) (l : DatL K F ds xs) : kT K F (Itl K a) ds := fun n F2 H2 s1 s2 => by
 have hq : dN K H2 a xs := bH.seq s2 (bH.seq s1 h)
 refine ⟨fun d hd => ?_, fun hn => ⟨xs, hq, by rw [<- l.length, hn]; exact Nat.le_refl _⟩⟩
 obtain ⟨x, hx, dx⟩ := jT l.paired hd
 refine ⟨⟨xs, x, hq, hx⟩, fun x' H' y => ?_⟩
 obtain ⟨rfl, y⟩ := y
 have e := y xs hq
 rw [hx] at e
 cases e
 exact ⟨F2, .refl s2, dx.mono s1⟩
theorem bU2 {K : W.Frag} {F : Hp} {z : Str} : kT K F (Its z) (wX z) := fun n F2 H2 s1 s2 => by
 have hl : (wX z).length = z.length := by unfold wX; rw [List.length_map]; rfl
 refine ⟨fun d hd => ?_, fun hn => by show z.length <= n; omega⟩
 have hn : n < z.length := by rw [<- hl]; exact (List.getElem?_eq_some_iff.mp hd).1
 refine ⟨hn, fun x' H' y => ?_⟩
 obtain ⟨rfl, c, hc, rfl⟩ := y
 unfold wX at hd
 rw [List.getElem?_map, Array.getElem?_toList, hc] at hd
 cases hd
 exact ⟨F2, .refl s2, by simp only [bC]; exact ⟨trivial, by show 1 <= sizeLine; decide⟩⟩
theorem dB5 {K : W.Frag} {F : Hp} {lo : Int} {k : Nat} : kT K F (yM lo k) (upTo lo k) := fun n F2 H2 s1 s2 => by
 have hl : (upTo lo k).length = k := by unfold upTo; rw [List.length_map, List.length_range]
 refine ⟨fun d hd => ?_, fun hn => by show k <= n; omega⟩
 have hn : n < k := by rw [<- hl]; exact (List.getElem?_eq_some_iff.mp hd).1
 refine ⟨hn, fun x' H' y => ?_⟩
 obtain ⟨rfl, rfl⟩ := y
 unfold upTo at hd
 rw [List.getElem?_map, List.getElem?_range hn] at hd
 cases hd
 exact ⟨F2, .refl s2, by simp only [bC]⟩
noncomputable def bV (f : ME) : ML := fun ρ => (f ρ).bind zL
theorem jM (he : IE X iter f) : II X tg iter (bV f) := by
 intro pins s σ H R I ⟨ρ, F, E, q⟩
 have hp := he pins s σ H (fun x H1 => ∃ F1 d ds, bX F H F1 H1 /\ bC X.K F1 d x /\ zL d = .ok ds /\ ∀ J F' H', bX F H F' H' -> kT X.K F' J ds -> R J H') I ⟨ρ, F, E, by
  unfold bV at q
  revert q
  cases f ρ with
  | ok d =>
   intro q v F1 H1 g1 d1
   revert q
   show (match zL d with
    | .ok ds => ∀ J F' H', bX F H F' H' -> kT X.K F' J ds -> R J H'
    | .ex _ => False
    | .bad => False) -> _
   cases hd : zL d with
   | ok ds => exact fun q => ⟨F1, d, ds, g1, d1, hd, q⟩
   | ex _ => exact fun q => q.elim
   | bad => exact fun q => q.elim
  | ex _ => exact fun q => q
  | bad => exact fun q => q⟩
 refine cH hp fun v s1 ⟨x, H1, I1, r1, F1, d, ds, g1, d1, hd, q⟩ => ?_
 cases d <;> try cases hd
 ·rename_i z
  simp only [bC] at d1
  obtain ⟨rfl, hz⟩ := d1
  obtain ⟨t, rfl⟩ := r1
  cases ha : z.cps.all (· < 128)
  ·refine wpAny_pyIter_wide ha ?_
   refine ⟨s1.heap.objs.size, [s1.heap.objs.size], _, _, H1, rfl, I1.kept (t' := s1.toks) fun b o e => Heap.get?_push_of_some _ e, dB1 z t _, ⟨_, Heap.get?_push_size _ rfl, rfl, rfl⟩, fun b hb => ?_, q _ F1 H1 g1 bU2⟩
   have e : b = s1.heap.objs.size := by simpa using hb
   subst e
   exact I1.fpOk (Nat.le_refl _) (I1.hok.fresh (Nat.le_refl _))
  ·refine wpAny_pyIter_ascii ha ?_
   refine ⟨s1.heap.objs.size, [s1.heap.objs.size], _, _, H1, rfl, I1.kept (t' := s1.toks) fun b o e => Heap.get?_push_of_some _ e, dB0 z t _, ⟨_, Heap.get?_push_size _ rfl, rfl, rfl⟩, fun b hb => ?_, q _ F1 H1 g1 bU2⟩
   have e : b = s1.heap.objs.size := by simpa using hb
   subst e
   exact I1.fpOk (Nat.le_refl _) (I1.hok.fresh (Nat.le_refl _))
 ·simp only [bC] at d1
  obtain ⟨a, xs, rfl, hq, hl⟩ := d1
  cases r1
  obtain ⟨its, rv, p, hz⟩ := I1.tuple (bH.seqT g1.sub hq)
  refine wpAny_pyIter_tuple (show s1.heap.IsTuple a its.toArray from p) ?_
  refine ⟨s1.heap.objs.size, [s1.heap.objs.size], _, _, H1, rfl, I1.kept (t' := s1.toks) fun b o e => Heap.get?_push_of_some _ e, cK5 a _, ⟨_, Heap.get?_push_size _ rfl, rfl, rfl⟩, fun b hb => ?_, q _ F1 H1 g1 (dB3 hq hl)⟩
  have e : b = s1.heap.objs.size := by simpa using hb
  subst e
  exact I1.fpOk (Nat.le_refl _) (I1.hok.fresh (Nat.le_refl _))
 ·simp only [bC] at d1
  obtain ⟨a, xs, rfl, hq, hl⟩ := d1
  cases r1
  obtain ⟨its, rv, p, hz⟩ := I1.list (bH.seq g1.sub hq)
  refine wpAny_pyIter_list p.isList ?_
  refine ⟨s1.heap.objs.size, [s1.heap.objs.size], _, _, H1, rfl, I1.kept (t' := s1.toks) fun b o e => Heap.get?_push_of_some _ e, cK4 a _, ⟨_, Heap.get?_push_size _ rfl, rfl, rfl⟩, fun b hb => ?_, q _ F1 H1 g1 (dB4 hq hl)⟩
  have e : b = s1.heap.objs.size := by simpa using hb
  subst e
  exact I1.fpOk (Nat.le_refl _) (I1.hok.fresh (Nat.le_refl _))
noncomputable def kJ : D -> bD (List D)
 | .int j => if -(2 ^ 62) <= j /\ j < 2 ^ 62 then .ok (upTo 0 j.toNat) else .bad
 | _ => .bad
noncomputable def fM (f : ME) : ML := fun ρ => (f ρ).bind kJ
theorem dB6 {a : Expr} {p cpos : Pos} (hgl : Gl X "range") (hm : X.mg "range" = none) (hi : IE X a f) (hst : starEach [a] X.env = [(false, eval a X.env)] := by rfl) : II X tg (.Call (.Name "range" p) [a] [] cpos) (fM f) :=
 dB2 (cK9 hgl hm (kR hi lX hst) hst) fun σ H R ⟨ρ, F, E, q⟩ => by
  refine ⟨ρ, F, E, ?_⟩
  unfold fM at q
  revert q
  cases f ρ with
  | ok d =>
   intro q v F1 H1 g1 d1
   cases d with
   | int j =>
    simp only [bC] at d1
    subst d1
    by_cases hj : -(2 ^ 62) <= j /\ j < 2 ^ 62
    ·have e : (bD.ok (D.int j)).bind kJ = .ok (upTo 0 j.toNat) := by show kJ (.int j) = _; simp only [kJ]; rw [if_pos hj]
     rw [e] at q
     exact ⟨j, rfl, hj.1, hj.2, q _ F1 H1 g1 dB5⟩
    ·have e : (bD.ok (D.int j)).bind kJ = .bad := by show kJ (.int j) = _; simp only [kJ]; rw [if_neg hj]
     rw [e] at q
     exact q.elim
   | _ => exact q.elim
  | ex _ => exact fun q => q
  | bad => exact fun q => q
variable {body : List Stmt} {i : Nat} {u : MS}
noncomputable def fA (i : Nat) (fl : ML) (body : MS) : MS := fun ρ => (fl ρ).bind fun ds => cP i body ds ρ
theorem kU {fl : ML} (hc : X.calm = true) (hp : PassesOwn (model X.prog X.w) X.A X.env X.xe) (hi : II X tg iter fl) (hg : PG X tg (kG i)) (hb : gB X body u) (hs : ∀ x, foldedSetIterable iter X.env x = pure x := by intro _; rfl) :
 IS X (.For tg iter body [] pos) (fA i fl u) := fun F₀ H₀ => gT (bP1 hp hc hi hg (bS9 (H₀ := H₀) hb) hs) fun E σ H ⟨ρ, F, S, q⟩ => by
 refine ⟨ρ, F, S.env, ?_⟩
 unfold fA at q
 revert q
 cases fl ρ with
 | ok ds =>
  intro q J F1 H1 g1 it
  have S1 := S.grow g1
  refine ⟨fun n m σ' H' => m = ds.length - n /\ n <= ds.length /\ ∃ ρ' F', SR X.K F1 H₀ F' H' ρ' σ' /\ fC X F1 H₀ (cP i u (ds.drop n) ρ') E, ⟨_, rfl, Nat.zero_le _, ρ, F1, S1.here, fC.here S1.gr q⟩, ?_⟩
  rintro n m σ' H' ⟨rfl, hn, ρ', F', S', q'⟩
  obtain ⟨h1, h2⟩ := it n F' H' S'.gr.fs S'.env.sub
  by_cases hlt : n < ds.length
  ·have hd : ds[n]? = some ds[n] := List.getElem?_eq_getElem hlt
   obtain ⟨go, yl⟩ := h1 _ hd
   refine .inr ⟨go, fun σ H => ∃ ρ F', SR X.K F1 H₀ F' H ρ σ /\ fC X F1 H₀ (cP i u (ds.drop (n + 1)) ρ) E, fun σ2 H2 h => ⟨ds.length - (n + 1), by omega, rfl, hlt, h⟩, fun x H2 y => ?_⟩
   obtain ⟨F2, g2, dx⟩ := yl x H2 y
   rw [List.drop_eq_getElem_cons hlt] at q'
   exact ⟨F1, ρ'.set i (.val ds[n]), F2, (S'.grow g2).set i dx, cY4 q' fun ρ3 σ3 F3 H3 S3 q3 => ⟨ρ3, F3, S3, q3⟩⟩
  ·have e : n = ds.length := by omega
   subst e
   rw [List.drop_eq_nil_of_le (Nat.le_refl _)] at q'
   exact .inl ⟨h2 rfl, q' σ' F' H' S'⟩
 | ex _ => exact fun q => q
 | bad => exact fun q => q
end
end R
end
section
namespace R
open PySem PySem.Spec PyProof.Rows L2
variable [bN] [Pd]
noncomputable def gO (names : List (Str × NameKind)) (cells : List (Str × Addr)) (acc : List (Str × Addr)) : List (Str × Addr) := match names with
 | [] => acc
 | (n, k) :: r => gO r cells (if k = .free then (n, (cells.lookup n).getD 0) :: acc else acc)
theorem bU3 {env : Env} : ∀ (names : List (Str × NameKind)) (acc : List (Str × Addr)), (∀ y ∈ names, y.2 = .free -> ∃ c, env.cells.lookup y.1 = some c) ->
 (forIn names acc fun y cs => if (y.2 == NameKind.free) = true then (do let c <- cellOf env y.1; pure (ForInStep.yield ((y.1, c) :: cs))) else pure (ForInStep.yield cs) : Sem (List (Str × Addr))) = pure (gO names env.cells acc)
 | [], acc, _ => rfl
 | (n, k) :: r, acc, h => by
  have ih := bU3 (env := env) r
  rw [List.forIn_cons]
  by_cases hk : k = .free
  ·subst hk
   obtain ⟨c, hc⟩ := h (n, .free) List.mem_cons_self rfl
   have e1 : ((NameKind.free == NameKind.free) = true) = True := by simp
   simp only [e1, if_true]
   have e2 : cellOf env n = pure c := by unfold cellOf; rw [hc]
   rw [e2]
   simp only [pure_bind]
   rw [ih _ fun y hy => h y (List.mem_cons_of_mem _ hy)]
   rw [gO, if_pos rfl, hc]; rfl
  ·have e1 : (k == NameKind.free) = false := by cases k <;> first | rfl | exact absurd rfl hk
   simp only [e1, Bool.false_eq_true, if_false]
   simp only [pure_bind]
   rw [ih _ fun y hy => h y (List.mem_cons_of_mem _ hy)]
   rw [gO, if_neg hk]
theorem dB7 {scope : Scope} {env : Env} (h : ∀ y ∈ scope.names, y.2 = .free -> ∃ c, env.cells.lookup y.1 = some c) : closureFor scope env = pure (gO scope.names env.cells []) := by
 have := bU3 (env := env) scope.names [] h
 unfold closureFor
 first
  | exact this
  | (simp only [bind_pure]; exact this)
theorem bG6 {cells : List (Str × Addr)} {y : Str} {c : Addr} : ∀ (names : List (Str × NameKind)) (acc : List (Str × Addr)), (gO names cells acc).lookup y = some c -> acc.lookup y = some c \/ ((y, .free) ∈ names /\ (cells.lookup y).getD 0 = c)
 | [], acc, h => .inl h
 | (n, k) :: r, acc, h => by
  rw [gO] at h
  rcases bG6 r _ h with q | ⟨q1, q2⟩
  ·by_cases hk : k = .free
   ·rw [if_pos hk, List.lookup_cons] at q
    cases e : y == n with
    | true =>
     rw [e] at q
     have : y = n := eq_of_beq e
     subst this; subst hk
     exact .inr ⟨List.mem_cons_self, Option.some.inj q⟩
    | false => rw [e] at q; exact .inl q
   ·rw [if_neg hk] at q; exact .inl q
  ·exact .inr ⟨List.mem_cons_of_mem _ q1, q2⟩
theorem bG7 {cells : List (Str × Addr)} {y : Str} : ∀ (names : List (Str × NameKind)) (acc : List (Str × Addr)), (y, .free) ∈ names \/ (acc.lookup y).isSome = true -> ((gO names cells acc).lookup y).isSome = true
 | [], acc, h => by
  rcases h with h | h
  ·cases h
  ·exact h
 | (n, k) :: r, acc, h => by
  rw [gO]
  refine bG7 r _ ?_
  rcases h with h | h
  ·rcases List.mem_cons.mp h with e | h
   ·cases e
    refine .inr ?_
    rw [if_pos rfl, List.lookup_cons]
    simp
   ·exact .inl h
  ·refine .inr ?_
   by_cases hk : k = .free
   ·rw [if_pos hk, List.lookup_cons]
    cases e : y == n with
    | true => rfl
    | false => exact h
   ·rw [if_neg hk]; exact h
noncomputable abbrev lE (X : Cx) (N' : List Str) (scope : Scope) (C : Addr) (fp : List Addr) (s : Shared) (H : Hp) (E : Value -> Shared -> Prop) : Cx :=
 { X with N := N', s₀ := s, H₀ := H, env := compEnvC scope (gO scope.names X.env.cells []) C X.env, outer := X.stack, ex := fp, fn := fun _ => false, xe := E }
structure mE (X : Cx) (scope : Scope) (os caps : List Str) (js : List Nat) : Prop where
 kind : scope.kind = .function
 nocell : ∀ y ∈ scope.names, y.2 ≠ .cell
 names : ∀ y ∈ scope.names, y.2 = .local -> scope.names.lookup y.1 = some .local
 loc : ∀ x ∈ os, scope.names.lookup x = some .local
 fr : ∀ y ∈ scope.names, y.2 = .free -> X.env.kindOf y.1 = some .cell \/ X.env.kindOf y.1 = some .free
 nd : (os ++ caps).Nodup
 len : caps.length = js.length
 cap : ∀ (k : Nat) y j, caps[k]? = some y -> js[k]? = some j -> X.N[j]? = some y /\ scope.names.lookup y = some .free
noncomputable def bU4 : Slot -> Slot
 | .val d => .val d
 | _ => .no
noncomputable def fR (js : List Nat) (ρ : bJ) : bJ := js.map fun j => bU4 (ρ.getD j .no)
noncomputable def jX (js : List Nat) (σ : St) : St := js.map fun j => σ.getD j none
noncomputable def fS (p : MT) (g : ME) (rest : bJ) : List D -> bD (List D)
 | [] => .ok []
 | d :: ds => (p (.val d :: rest)).bind fun b => if b = true then (g (.val d :: rest)).bind fun y => (fS p g rest ds).bind fun ys => .ok (y :: ys) else fS p g rest ds
theorem bU5 {scope : Scope} {env : Env} {y : Str} : ∀ {names : List (Str × NameKind)}, names.lookup y = some .free ->
 (names.map fun (n, k) => if (k == NameKind.free && env.scope.kind == .function && env.kindOf n == some .cell) then (n, NameKind.cell) else (n, k)).lookup y = some .cell \/
 (names.map fun (n, k) => if (k == NameKind.free && env.scope.kind == .function && env.kindOf n == some .cell) then (n, NameKind.cell) else (n, k)).lookup y = some .free
 | [], h => by cases h
 | (n, k) :: r, h => by
  rw [List.map_cons, List.lookup_cons]
  rw [List.lookup_cons] at h
  cases e : y == n with
  | true =>
   rw [e] at h
   cases h
   by_cases hc : (NameKind.free == NameKind.free && env.scope.kind == .function && env.kindOf n == some .cell) = true
   ·simp only [hc, if_true]; rw [e]; exact .inl rfl
   ·simp only [hc, Bool.false_eq_true, if_false]; rw [e]; exact .inr rfl
  | false =>
   rw [e] at h
   have ih := @bU5 scope env y r h
   by_cases hc : (k == NameKind.free && env.scope.kind == .function && env.kindOf n == some .cell) = true
   ·simp only [hc, if_true]; rw [e]; exact ih
   ·simp only [hc, Bool.false_eq_true, if_false]; rw [e]; exact ih
theorem bG8 {env : Env} {y : Str} {K : NameKind} (hK : K = .cell \/ K = .free) : ∀ {names : List (Str × NameKind)}, (∀ z ∈ names, z.2 ≠ .cell) ->
 (names.map fun (n, k) => if (k == NameKind.free && env.scope.kind == .function && env.kindOf n == some .cell) then (n, NameKind.cell) else (n, k)).lookup y = some K -> (y, .free) ∈ names
 | [], _, h => by cases h
 | (n, k) :: r, hn, h => by
  rw [List.map_cons, List.lookup_cons] at h
  have ih := @bG8 env y K hK r fun z hz => hn z (List.mem_cons_of_mem _ hz)
  cases e : y == n with
  | true =>
   have e' : y = n := eq_of_beq e
   subst e'
   by_cases hc : (k == NameKind.free && env.scope.kind == .function && env.kindOf y == some .cell) = true
   ·rw [Bool.and_eq_true, Bool.and_eq_true] at hc
    have : k = .free := eq_of_beq hc.1.1
    subst this
    exact List.mem_cons_self
   ·simp only [hc, Bool.false_eq_true, if_false] at h
    rw [e] at h
    have hk : k = K := Option.some.inj h
    rcases hK with q | q
    ·exact absurd (hk.trans q) (hn (y, k) List.mem_cons_self)
    ·rw [hk.trans q]; exact List.mem_cons_self
  | false =>
   by_cases hc : (k == NameKind.free && env.scope.kind == .function && env.kindOf n == some .cell) = true
   ·simp only [hc, if_true] at h; rw [e] at h; exact List.mem_cons_of_mem _ (ih h)
   ·simp only [hc, Bool.false_eq_true, if_false] at h; rw [e] at h; exact List.mem_cons_of_mem _ (ih h)
theorem dB8 {prog : Program} {w : World} {A : Around} {R : Result -> Shared -> Prop} {s : Shared} {elt target iter : Expr} {ifs : List Expr} {scope : Scope} {pos : Pos} {it acc : Value} {env : Env} (I : Nat -> Shared -> Prop)
 (turn : ∀ n s, I n s -> wpAny (model prog w) A (pyNext it) (fun r s₁ => match r with
   | none => R (.ok .next) s₁
   | some v => wpAny (model prog w) A (letOwnedTupleGo target it v) (fun _ s₁' => wpAny (model prog w) A (assign target env v) (fun _ s₂ =>
    wpAny (model prog w) A (forIn ifs true fun c r => if r = true then do let ok <- isTrue c env (eval c env); pure (ForInStep.yield ok) else pure (ForInStep.yield r)) (fun ok s₃ =>
     if ok = true then wpAny (model prog w) A (eval elt env) (fun x s₄ =>
      wpAny (model prog w) A (call (.builtin "list.append") [acc, x]) (fun _ s₅ => ∃ m, m < n /\ I m s₅) (notedBy (model prog w) A env fun e s' => R (.error e) s') s₄) (notedBy (model prog w) A env fun e s' => R (.error e) s') s₃
     else ∃ m, m < n /\ I m s₃) (notedBy (model prog w) A env fun e s' => R (.error e) s') s₂) (notedBy (model prog w) A env fun e s' => R (.error e) s') s₁')
      (notedBy (model prog w) A env fun e s' => R (.error e) s') s₁) (notedBy (model prog w) A env fun e s' => R (.error e) s') s)
 (n : Nat) (h : I n s) : codeAny (model prog w) A (.compLoop (.ListComp elt [⟨target, iter, ifs, 0⟩] scope pos) 0 it acc env) R s := by
 apply codeAny_loop rfl I ?_ n h
 intro n s hI
 show wpAny _ A ((compTurn (.ListComp elt [⟨target, iter, ifs, 0⟩] scope pos) 0 it acc env).onRaise fun x => do noteFrame x env; theTreesLotGoes x) _ _ s
 apply wpAny_noted
 rw [compTurn_list]
 apply wpAny_bind; apply wpAny_standAt; apply wpAny_bind
 apply wpAny_mono (turn n s hI) ?_ (fun _ _ h' => h')
 intro r s₁ h₁
 cases r with
 | none => exact wpAny_pure h₁
 | some v =>
  apply wpAny_bind
  apply wpAny_mono h₁ ?_ (fun _ _ h' => h')
  intro _ s₁' h₁'
  apply wpAny_bind
  apply wpAny_mono h₁' ?_ (fun _ _ h' => h')
  intro _ s₂ h₂
  apply wpAny_bind
  apply wpAny_mono h₂ ?_ (fun _ _ h' => h')
  intro ok s₃ h₃
  cases ok with
  | false => exact wpAny_pure ⟨rfl, h₃⟩
  | true =>
   apply wpAny_bind; apply wpAny_bind
   apply wpAny_mono h₃ ?_ (fun _ _ h' => h')
   intro x s₄ h₄
   apply wpAny_bind
   apply wpAny_mono h₄ ?_ (fun _ _ h' => h')
   intro _ s₅ h₅
   exact wpAny_pure (wpAny_pure ⟨rfl, h₅⟩)
section
variable {X : Cx} {os caps : List Str} {js : List Nat} {scope : Scope} {px pos : Pos} {elt iter : Expr} {ifs : List Expr} {p : MT} {g : ME}
def pL (X : Cx) (ifs : List Expr) (p : MT) : Prop := (ifs = [] /\ p = fun _ => .ok true) \/ ∃ c, ifs = [c] /\ IT X c p
theorem dB9 {X : Cx} {ifs : List Expr} {p : MT} (h : pL X ifs p) {pins : List (Addr × Obj)} {s : Shared} {σ : St} {H : Hp} {Q : Bool -> Hp -> Prop} (I : Inv X pins σ H s) (q : mC X p σ H Q) :
 wpAny (model X.prog X.w) X.A (forIn ifs true fun c r => if r = true then do let ok <- isTrue c X.env (eval c X.env); pure (ForInStep.yield ok) else pure (ForInStep.yield r)) (TP X pins σ Q) X.xe s := by
 rcases h with ⟨rfl, rfl⟩ | ⟨c, rfl, hc⟩
 ·exact wpAny_tests_nil ⟨H, I, bF8 q⟩
 ·exact wpAny_tests_one (hc pins s σ H Q I q)
theorem dC0 {pins : List (Addr × Obj)} {σ : St} {H : Hp} {s : Shared} {h₁ : Heap} {fp : List Addr} {m : Str -> Option Value} {E : Value -> Shared -> Prop} {tk : Nat} (S : mE X scope os caps js) (I : Inv X pins σ H s)
 (hfp : ∀ b ∈ fp, jS X pins H b) (hlt : ∀ b ∈ fp, b < s.heap.objs.size) (hn : h₁.Ns s.heap.objs.size m) (hk : ∀ b o, s.heap.get? b = some o -> h₁.get? b = some o) :
 Inv (lE X (os ++ caps) scope s.heap.objs.size fp s H E) pins (os.map (fun _ => none) ++ jX js σ) H { s with heap := h₁, toks := tk } := by
 have cl_src : ∀ y c, (gO scope.names X.env.cells []).lookup y = some c -> X.env.cells.lookup y = some c /\ (y, NameKind.free) ∈ scope.names := fun y c e => by
  rcases bG6 scope.names [] e with q | ⟨q1, q2⟩
  ·cases q
  ·obtain ⟨c', hc'⟩ := I.ok.has y (S.fr (y, .free) q1 rfl)
   rw [hc'] at q2
   have : c' = c := q2
   subst this
   exact ⟨hc', q1⟩
 have stk_no : ∀ b, b ≠ X.env.locals -> b ∉ X.fs -> b ∉ kQ X.stack := fun b h1 h2 hb => by
  rcases List.mem_cons.mp (I.stkSub b hb) with z | z
  ·exact h1 z
  ·exact h2 z
 have C_new : ∀ b o, s.heap.get? b = some o -> b ≠ s.heap.objs.size := fun b o e => Nat.ne_of_lt (Heap.lt_size e)
 refine ⟨⟨I.ok.mod, S.kind, I.ok.glob, I.ok.blt, Nat.le_refl _, fun y z c h1 h2 => ?_, fun y hy => ?_, fun y c hf _ => (by cases hf), I.ok.hd, I.ok.frames, .inl rfl, fun b hb => ?_, I.bs, Nat.le_trans I.ok.bsz I.sz, fun b o e hb => ?_, fun b hb => ?_, I.stack, I.stkFree⟩,
  rfl, I.bare, Un.kept hk, ⟨m, hn, fun i y v h1 h2 h3 => ?_⟩, fun y c e => ?_, I.hok.fresh (Nat.le_refl _), fun y c e => I.freeC y c (cl_src y c e).1, fun q hq => ?_, I.hok.kept hk, ?_⟩
 ·exact I.ok.inj y z c (cl_src y c h1).1 (cl_src z c h2).1
 ·have hy' : (relabel scope X.env).names.lookup y = some .cell \/ (relabel scope X.env).names.lookup y = some .free := hy
  have hmem : (y, NameKind.free) ∈ scope.names := by
   rcases hy' with q | q
   ·exact bG8 (.inl rfl) S.nocell q
   ·exact bG8 (.inr rfl) S.nocell q
  exact Option.isSome_iff_exists.mp (bG7 scope.names [] (.inl hmem))
 ·refine ⟨Nat.ne_of_lt (hlt b hb), fun y c e => ?_⟩
  exact (hfp b hb).2.2.2.2.1 y c (cl_src y c e).1
 ·have z := (hfp b hb).2.2.2.1
  rcases z with z | z
  ·exact I.ok.noex b o e z
  ·exact absurd (Nat.lt_of_lt_of_le (Heap.lt_size (I.ok.bs b o e).1) z) (Nat.lt_irrefl _)
 ·exact stk_no b (hfp b hb).2.1 (hfp b hb).2.2.1
 ·have h1 : (os ++ caps)[i]? = some y := h1
  by_cases hi : i < os.length
  ·rw [List.getElem?_append_left (by rw [List.length_map]; exact hi), List.getElem?_map, List.getElem?_eq_getElem hi] at h2; cases h2
  ·obtain ⟨k, rfl⟩ := Nat.exists_eq_add_of_le (Nat.le_of_not_lt hi)
   have h1' : caps[k]? = some y := by rw [List.getElem?_append_right (Nat.le_add_right _ _)] at h1; simpa using h1
   have h2' : (jX js σ)[k]? = some (some v) := by rw [List.getElem?_append_right (by rw [List.length_map]; exact Nat.le_add_right _ _)] at h2; simpa using h2
   unfold jX at h2'
   rw [List.getElem?_map] at h2'
   cases hj : js[k]? with
   | none => rw [hj] at h2'; cases h2'
   | some j =>
    rw [hj] at h2'
    have h3' : σ.getD j none = some v := Option.some.inj h2'
    obtain ⟨c1, c2⟩ := S.cap k y j h1' hj
    have hσ : σ[j]? = some (some v) := by
     rw [List.getD_eq_getElem?_getD] at h3'
     cases e : σ[j]? with
     | none => rw [e] at h3'; cases h3'
     | some o => rw [e] at h3'; exact congrArg some h3'
    have hm : (y, NameKind.free) ∈ scope.names := PySem.mem_of_lookup c2
    have hkd := S.fr (y, .free) hm rfl
    obtain ⟨m0, hn0, hl0⟩ := I.loc
    obtain ⟨u, ru, lk⟩ := hl0 j y v c1 hσ (by
     rcases hkd with z | z
     ·exact .inr (.inl z)
     ·exact .inr (.inr z))
    refine ⟨u, ru, ?_⟩
    rcases lk with ⟨kd, _⟩ | ⟨_, c, hc, hcell⟩
    ·rcases hkd with z | z
     ·exact absurd (kd.symm.trans z) (by decide)
     ·exact absurd (kd.symm.trans z) (by decide)
    ·obtain ⟨c', hc'⟩ := Option.isSome_iff_exists.mp (bG7 (cells := X.env.cells) scope.names [] (.inl hm))
     have : c' = c := by
      have := (cl_src y c' hc').1
      rw [hc] at this
      exact (Option.some.inj this).symm
     subst this
     refine .inr ⟨bU5 (scope := scope) c2, c', hc', ?_⟩
     obtain ⟨o, ho, hd⟩ := hcell
     exact ⟨o, hk _ o ho, hd⟩
 ·obtain ⟨v, o, ho, hd⟩ := I.cell y c (cl_src y c e).1
  exact ⟨v, o, hk _ o ho, hd⟩
 ·obtain ⟨e, n, ne, nf, d⟩ := I.pin q hq
  exact ⟨hk _ _ e, n, C_new _ _ e, stk_no q.1 ne nf, d⟩
 ·show (os.map (fun _ => none) ++ jX js σ).length = (os ++ caps).length
  unfold jX
  rw [List.length_append, List.length_append, List.length_map, List.length_map, S.len]
end
end R
end
section
namespace R
open PySem PySem.Spec PyProof.Rows L2
variable [bN] [Pd]
section
variable {X : Cx} {tg : Expr} {os caps : List Str} {js : List Nat} {scope : Scope} {px pos : Pos} {elt iter : Expr} {ifs : List Expr} {p P : MT} {g G : ME} {sp : D -> Option (List D)} {gg : TG}
theorem dC1 {pins : List (Addr × Obj)} {σ σ' : St} {H H' : Hp} {s s' : Shared} {N' : List Str} {C : Addr} {fp : List Addr} {E : Value -> Shared -> Prop} {h' : Heap} (I : Inv X pins σ H s) (J : Inv (lE X N' scope C fp s H E) pins σ' H' s')
 (hC : s.heap.objs.size <= C) (hs : Heap.SameBut C s'.heap h') (hfp : ∀ b ∈ fp, jS X pins H b) : Inv X pins σ H' { s' with heap := h' } := by
 have ne : ∀ b o, s.heap.get? b = some o -> b ≠ C := fun b o e => Nat.ne_of_lt (Nat.lt_of_lt_of_le (Heap.lt_size e) hC)
 have hfree : H' C = none := J.free
 refine I.call' (s' := { s' with heap := h' }) (ch := fp) J.os ⟨fun b o q n hb hx => ?_, fun b o q n hb hx => ?_, J.base.free, fun b o q hx => ?_, J.base.tups, J.base.frzs, J.base.tbls⟩ (fun a o e => ?_) J.bare fun b hb => ?_
 ·exact (hs.2 b (ne b o q)).trans (J.base.keep b o q n hb hx)
 ·obtain ⟨sl, e⟩ := J.base.slot b o q n hb hx
  exact ⟨sl, (hs.2 b (ne b o q)).trans e⟩
 ·obtain ⟨o', e⟩ := J.base.there b o q hx
  exact ⟨o', (hs.2 b (ne b o q)).trans e⟩
 ·refine (J.hok a o e).stay (fun b u hb q => (hs.2 b fun z => ?_).trans q) (fun _ q => q) fun _ _ q => q
  subst z
  rcases hb with z | z
  ·subst z; rw [e] at hfree; cases hfree
  ·rw [z] at hfree; cases hfree
 ·obtain ⟨_, f1, _, f3, f4, f5⟩ := hfp b hb
  exact ⟨f3, f1, f4, f5⟩
theorem dC2 {K : W.Frag} {F H F' H' : Hp} {ρ : bJ} {σ : St} {js : List Nat} {es : List D} {vs : List V} (l : DatL K F' es vs) (E : gA K F H ρ σ) (gr : bX F H F' H') : gA K F' H' (es.map .val ++ fR js ρ) (vs.map some ++ jX js σ) := by
 have hl := l.length
 have noown : ∀ (i : Nat) ds, (es.map Slot.val ++ fR js ρ)[i]? ≠ some (.own ds) := fun i ds e => by
  rcases List.mem_append.mp (List.mem_of_getElem? e) with h | h
  ·obtain ⟨_, _, h⟩ := List.mem_map.mp h; cases h
  ·unfold fR at h
   obtain ⟨j, _, h⟩ := List.mem_map.mp h
   cases q : ρ.getD j .no <;> rw [q] at h <;> cases h
 refine ⟨gr.tk E.tb, gr.sub, ?_, fun i sl e => ?_, fun i j ds es a _ e => absurd e (noown i ds)⟩
 ·unfold fR jX; simp only [List.length_append, List.length_map, hl]
 ·by_cases hi : i < es.length
  ·rw [List.getElem?_append_left (by rw [List.length_map]; exact hi), List.getElem?_map, List.getElem?_eq_getElem hi] at e
   cases e
   obtain ⟨v, hv, dv⟩ := jT l.paired (List.getElem?_eq_getElem hi)
   exact ⟨some v, by rw [List.getElem?_append_left (by rw [List.length_map]; omega), List.getElem?_map, hv]; rfl, v, rfl, dv⟩
  ·obtain ⟨k, rfl⟩ := Nat.exists_eq_add_of_le (Nat.le_of_not_lt hi)
   have e' : (fR js ρ)[k]? = some sl := by rw [List.getElem?_append_right (by rw [List.length_map]; exact Nat.le_add_right _ _)] at e; simpa using e
   unfold fR at e'
   rw [List.getElem?_map] at e'
   cases hj : js[k]? with
   | none => rw [hj] at e'; cases e'
   | some j =>
    rw [hj] at e'
    have e2 : bU4 (ρ.getD j .no) = sl := Option.some.inj e'
    refine ⟨σ.getD j none, ?_, ?_⟩
    ·rw [List.getElem?_append_right (by rw [List.length_map]; omega), List.length_map, show es.length + k - vs.length = k by omega]
     unfold jX
     rw [List.getElem?_map, hj]; rfl
    ·subst e2
     cases q : ρ[j]? with
     | none => rw [List.getD_eq_getElem?_getD, q]; trivial
     | some s0 =>
      rw [List.getD_eq_getElem?_getD, q]
      cases s0 with
      | val d =>
       obtain ⟨o', e1, v, rfl, hd⟩ := E.at_ j _ q
       refine ⟨v, ?_, hd.mono gr.fs⟩
       rw [List.getD_eq_getElem?_getD, e1]; rfl
      | _ => trivial
structure sV (X : Cx) (scope : Scope) (tg : Expr) (os caps : List Str) (sp : D -> Option (List D)) (gg : TG) (P : MT) (G : ME) (p : MT) (g : ME) : Prop where
 pg : ∀ C fp s H E, PG (lE X (os ++ caps) scope C fp s H E) tg gg
 ok : ∀ {d es v F H as σr}, sp d = some es -> bC X.K F d v -> bH F H -> as.length = os.length -> ∃ vs, vs.length = os.length /\ DatL X.K F es vs /\ gg v (as ++ σr) H fun σ7 H7 => σ7 = vs.map some ++ σr /\ H7 = H
 hp : ∀ {d r b}, P (.val d :: r) = .ok b -> ∃ es, sp d = some es
 eq : ∀ {d es} r, sp d = some es -> P (.val d :: r) = p (es.map .val ++ r) /\ G (.val d :: r) = g (es.map .val ++ r)
theorem bU6 {pins : List (Addr × Obj)} {σ : St} {ρ : bJ} {H2 F2 : Hp} {s2 : Shared} {ds ys : List D} {J : It} {it : Addr} {fp : List Addr} {tn : Nat -> Heap -> Prop} {RR : Value -> Addr -> Result -> Shared -> Prop} {Ex : Value -> Shared -> Prop}
 (S : mE X scope os caps js) (hc : X.calm = true) (I2 : Inv X pins σ H2 s2) (T : nD X.prog X.w X.K tg J fp it tn) (Tg : sV X scope tg os caps sp gg P G p g) (t0 : tn 0 s2.heap) (f2 : ∀ b ∈ fp, jS X pins H2 b) (Ev : gA X.K F2 H2 ρ σ) (io : kT X.K F2 J ds)
 (hp : ∀ C fp s H E, pL (lE X (os ++ caps) scope C fp s H E) ifs p) (hg : ∀ C fp s H E, IE (lE X (os ++ caps) scope C fp s H E) elt g) (hys : fS P G (fR js ρ) ds = .ok ys) (hlen : ds.length <= sizeLine)
 (hend : ∀ Dd C s' H' F' vs m', H2 Dd = none -> bX F2 H2 F' H' -> F' Dd = none -> H' Dd = some (.lst vs) -> DatL X.K F' ys vs -> s'.heap.Ns C m' -> (∀ h', Heap.SameBut C s'.heap h' -> Inv X pins σ H' { s' with heap := h' }) -> jS X pins H' C -> RR (.ref Dd) C (.ok .next) s') :
 wpAny (model X.prog X.w) X.A (newList []) (fun acc s₃ => wpAny (model X.prog X.w) X.A (newFunctionEnv scope X.env.globals (gO scope.names X.env.cells []) [] X.env.qual none .none (some X.env)) (fun cenv s₄ =>
  codeAny (model X.prog X.w) X.A (.compStart (.ListComp elt [⟨tg, iter, ifs, 0⟩] scope pos) 0 (.ref it) acc { cenv with scope := relabel scope X.env }) (RR acc cenv.locals) s₄) Ex s₃) Ex s2 := by
 refine wpAny_newObj_type (wpAny_newFunctionEnv S.nocell (by intro y hy; simp at hy) (fun h₁ hns₁ hsb₁ => ?_) S.kind)
 dsimp only at hns₁ hsb₁ ⊢
 have I3 : Inv X pins σ (upd H2 s2.heap.objs.size (.lst [])) { s2 with heap := s2.heap.push { cls := .type "list", data := .seq ([] : List Value).toArray }, toks := s2.toks } := I2.lnew (its := []) (t' := s2.toks) .nil (Nat.zero_le _)
 generalize hs3 : ({ s2 with heap := s2.heap.push { cls := .type "list", data := .seq ([] : List Value).toArray }, toks := s2.toks } : Shared) = s3 at I3
 have e3 : s2.heap.push { cls := .type "list", dict := none, data := .seq ([] : List Value).toArray } = s3.heap := by rw [<- hs3]
 have hsz3 : s3.heap.objs.size = s2.heap.objs.size + 1 := by rw [<- e3, Heap.size_push]
 rw [e3] at hns₁ hsb₁ ⊢
 have hfresh : H2 s2.heap.objs.size = none := I2.hok.fresh (Nat.le_refl _)
 have hltf : ∀ b ∈ fp, b < s2.heap.objs.size := fun b hb => by
  obtain ⟨o, e, _⟩ := T.obj 0 _ t0 b hb
  exact Heap.lt_size e
 have f3 : ∀ b ∈ fp, jS X pins (upd H2 s2.heap.objs.size (.lst [])) b := fun b hb => ⟨by rw [bZ (Nat.ne_of_lt (hltf b hb))]; exact (f2 b hb).1, (f2 b hb).2⟩
 have hkeep1 : ∀ b o, s3.heap.get? b = some o -> h₁.get? b = some o := fun b o e => (hsb₁.2 b (Nat.ne_of_lt (Heap.lt_size e))).trans (Heap.get?_push_of_some _ e)
 have J0 := dC0 (E := notedBy (model X.prog X.w) X.A (compEnvC scope (gO scope.names X.env.cells []) s3.heap.objs.size X.env) fun e s' => RR (.ref s2.heap.objs.size) s3.heap.objs.size (.error e) s')
  (tk := s3.toks + ([] : List (Str × Value)).length) S I3 f3 (fun b hb => by rw [hsz3]; exact Nat.lt_succ_of_lt (hltf b hb)) hns₁ hkeep1
 have t1 : tn 0 h₁ := T.keep 0 _ _ t0 fun b hb o e => hkeep1 b o (by rw [<- e3]; exact Heap.get?_push_of_some _ e)
 generalize hX' : lE X (os ++ caps) scope s3.heap.objs.size fp s3 (upd H2 s2.heap.objs.size (.lst [])) (notedBy (model X.prog X.w) X.A (compEnvC scope (gO scope.names X.env.cells []) s3.heap.objs.size X.env) fun e s' => RR (.ref s2.heap.objs.size) s3.heap.objs.size (.error e) s') = X' at J0
 have hfp : ∀ {H' : Hp}, (∀ b ∈ fp, H' b = none) -> ∀ b ∈ fp, jS X' pins H' b := fun {H'} hn b hb => by
  rw [<- hX']
  refine ⟨hn b hb, ?_, ?_, .inl hb, fun y c e => ?_, fun q hq => (f2 b hb).2.2.2.2.2 q hq⟩
  ·show b ≠ s3.heap.objs.size
   rw [hsz3]; exact Nat.ne_of_lt (Nat.lt_succ_of_lt (hltf b hb))
  ·show b ∉ kQ X.stack
   intro z
   rcases List.mem_cons.mp (I2.stkSub b z) with z | z
   ·exact (f2 b hb).2.1 z
   ·exact (f2 b hb).2.2.1 z
  ·rcases bG6 scope.names [] e with q | ⟨q1, q2⟩
   ·cases q
   ·obtain ⟨c', hc'⟩ := I2.ok.has y (S.fr (y, .free) q1 rfl)
    rw [hc'] at q2
    have : c' = c := q2
    subst this
    exact (f2 b hb).2.2.2.2.1 y c' hc'
 have loop : ∀ s4 : Shared, s4 = { s3 with heap := h₁, toks := s3.toks + ([] : List (Str × Value)).length } ->
  codeAny (model X.prog X.w) X.A (.compLoop (.ListComp elt [⟨tg, iter, ifs, 0⟩] scope pos) 0 (.ref it) (.ref s2.heap.objs.size) (compEnvC scope (gO scope.names X.env.cells []) s3.heap.objs.size X.env)) (RR (.ref s2.heap.objs.size) s3.heap.objs.size) s4 := by
  rintro s4 rfl
  refine dB8 (fun n s' => ∃ i σ' H' F' zs vs, n = ds.length - i /\ i <= ds.length /\ Inv X' pins σ' H' s' /\ tn i s'.heap /\ (∀ b ∈ fp, H' b = none) /\ (∃ as : St, as.length = os.length /\ σ' = as ++ jX js σ) /\ bX F2 H2 F' H' /\ F' s2.heap.objs.size = none /\
   H' s2.heap.objs.size = some (.lst vs) /\ DatL X.K F' zs vs /\ zs.length <= i /\ ((fS P G (fR js ρ) (ds.drop i)).bind fun r => .ok (zs ++ r)) = .ok ys) ?_ ds.length ?_
  ·rintro n s' ⟨i, σ', H', F', zs, vs, rfl, hi, I', st, fr, ⟨as, la, rfl⟩, gr, fD, hD, dl, zl, hm⟩
   obtain ⟨io1, io2⟩ := io i F' H' gr.fs gr.sub
   by_cases hlt : i < ds.length
   ·have hd : ds[i]? = some ds[i] := List.getElem?_eq_getElem hlt
    obtain ⟨go, yl⟩ := io1 _ hd
    have hit := T.item X' (by rw [<- hX']) (by rw [<- hX']) (by rw [<- hX']) (by rw [<- hX']; exact hc) i pins s' (as ++ jX js σ) H' X'.xe I' (hfp fr) st go
    have hA : X'.A = X.A := by rw [<- hX']
    have hXe : X'.xe = notedBy (model X.prog X.w) X.A (compEnvC scope (gO scope.names X.env.cells []) s3.heap.objs.size X.env) fun e s' => RR (.ref s2.heap.objs.size) s3.heap.objs.size (.error e) s' := by rw [<- hX']
    have hEnv : X'.env = compEnvC scope (gO scope.names X.env.cells []) s3.heap.objs.size X.env := by rw [<- hX']
    have hP : X'.prog = X.prog := by rw [<- hX']
    have hW : X'.w = X.w := by rw [<- hX']
    have hK : X'.K = X.K := by rw [<- hX']
    rw [hA, hXe] at hit
    refine wpAny_mono hit (fun r s5 ⟨u, hr, h5⟩ => ?_) fun _ _ z => z
    subst hr
    refine wpAny_mono h5 (fun _ s6 ⟨v, H6, I6, r6, y6, st6, fr6⟩ => ?_) fun _ _ z => z
    obtain ⟨F6, g6, d6⟩ := yl v H6 y6
    have I6' := I6.pinned (hfp fr6) (T.obj _ _ st6)
    have gr6 := gr.trans g6
    have hD6 : H6 s2.heap.objs.size = some (.lst vs) := g6.same _ _ rfl hD
    have fD6 : F6 s2.heap.objs.size = none := g6.new _ fD (by rw [hD]; simp)
    rw [List.drop_eq_getElem_cons hlt, fS] at hm
    cases hb : P (.val ds[i] :: fR js ρ) with
    | ex _ => rw [hb] at hm; cases hm
    | bad => rw [hb] at hm; cases hm
    | ok b =>
    rw [hb] at hm
    obtain ⟨es, he⟩ := Tg.hp hb
    obtain ⟨eP, eG⟩ := Tg.eq (fR js ρ) he
    rw [eP] at hb
    rw [eG] at hm
    obtain ⟨vz, lz, dz, gz⟩ := Tg.ok (σr := jX js σ) he d6 g6.sub la
    have pg : PG X' tg gg := by rw [<- hX']; exact Tg.pg _ _ _ _ _
    have has := pg _ s6 _ H6 v u _ I6' r6 gz
    rw [hA, hXe, hEnv, hP, hW] at has
    refine wpAny_mono has (fun _ s7 ⟨σ7, H7, I7, e7, e7'⟩ => ?_) fun _ _ z => z
    subst e7 e7'
    have E7 : gA X'.K F6 H7 (es.map .val ++ fR js ρ) (vz.map some ++ jX js σ) := by rw [hK]; exact dC2 dz Ev gr6
    have hpp := hp s3.heap.objs.size fp s3 (upd H2 s2.heap.objs.size (.lst [])) (notedBy (model X.prog X.w) X.A (compEnvC scope (gO scope.names X.env.cells []) s3.heap.objs.size X.env) fun e s' => RR (.ref s2.heap.objs.size) s3.heap.objs.size (.error e) s')
    have hgg := hg s3.heap.objs.size fp s3 (upd H2 s2.heap.objs.size (.lst [])) (notedBy (model X.prog X.w) X.A (compEnvC scope (gO scope.names X.env.cells []) s3.heap.objs.size X.env) fun e s' => RR (.ref s2.heap.objs.size) s3.heap.objs.size (.error e) s')
    rw [hX'] at hpp hgg
    ·have hte := dB9 (Q := fun b' H8 => b' = b /\ ∃ F8, bX F6 H7 F8 H8) hpp I7 ⟨_, F6, E7, by rw [hb]; exact fun b' F8 H8 g8 e8 => ⟨(show b = b' from e8).symm, F8, g8⟩⟩
     rw [hA, hXe, hEnv, hP, hW] at hte
     refine wpAny_mono hte (fun b' s8 ⟨H8, I8, e8, F8, g8⟩ => ?_) fun _ _ z => z
     subst e8
     have gr8 := gr6.trans g8
     have hD8 : H8 s2.heap.objs.size = some (.lst vs) := g8.same _ _ rfl hD6
     have fD8 : F8 s2.heap.objs.size = none := g8.new _ fD6 (by rw [hD6]; simp)
     have stay : ∀ {σ9 : St} {H9 : Hp} {s9 : Shared}, Inv X' (pins ++ wF fp s6.heap) σ9 H9 s9 -> tn (i + 1) s9.heap /\ ∀ b ∈ fp, H9 b = none := fun {σ9 H9 s9} I9 =>
      ⟨T.keep _ _ _ st6 fun b hb o e => (I9.pin (b, o) (List.mem_append_right _ (List.mem_append_right _ (yN hb e)))).1, fun b hb => by
       obtain ⟨o, e, d⟩ := T.obj _ _ st6 b hb
       exact (I9.pin (b, o) (List.mem_append_right _ (List.mem_append_right _ (yN hb e)))).2.1⟩
     cases b' with
     | false =>
      refine pD ⟨ds.length - (i + 1), by omega, i + 1, vz.map some ++ jX js σ, H8, F8, zs, vs, rfl, hlt, I8.unpinned, (stay I8).1, (stay I8).2, ⟨_, by rw [List.length_map]; exact lz, rfl⟩, gr8, fD8, hD8, (dl.mono g6.fs).mono g8.fs, by omega, ?_⟩
      exact hm
     | true =>
      refine pE ?_
      have hm' : (((g (es.map .val ++ fR js ρ)).bind fun y => (fS P G (fR js ρ) (ds.drop (i + 1))).bind fun ys => .ok (y :: ys)).bind fun r => .ok (zs ++ r)) = .ok ys := hm
      cases hgv : g (es.map .val ++ fR js ρ) with
      | ok y =>
       rw [hgv] at hm'
       have hel := hgg _ s8 _ H8 (fun v9 H9 => ∃ F9, bX F8 H8 F9 H9 /\ bC X.K F9 y v9) I8 ⟨_, F8, E7.grow g8, by rw [hgv]; exact fun v9 F9 H9 g9 d9 => ⟨F9, g9, by rw [<- hK]; exact d9⟩⟩
       rw [hA, hXe, hEnv, hP, hW] at hel
       refine wpAny_mono hel (fun u9 s9 ⟨v9, H9, I9, r9, F9, g9, d9⟩ => ?_) fun _ _ z => z
       have gr9 := gr8.trans g9
       have hD9 : H9 s2.heap.objs.size = some (.lst vs) := g9.same _ _ rfl hD8
       have fD9 : F9 s2.heap.objs.size = none := g9.new _ fD8 (by rw [hD8]; simp)
       have hvl : vs.length = zs.length := dl.length.symm
       have hap := bQ9 (X := X') _ s9 _ H9 (.ref s2.heap.objs.size) [v9] (.ref s2.heap.objs.size) [u9] (fun w H10 => H10 = upd H9 s2.heap.objs.size (.lst (vs ++ [v9]))) I9 rfl (.cons r9 .nil)
        ⟨_, vs, v9, rfl, rfl, hD9, by omega, rfl⟩
       rw [hA, hXe, hP, hW] at hap
       refine wpAny_mono hap (fun _ s10 ⟨w, H10, I10, _, e10⟩ => ?_) fun _ _ z => z
       subst e10
       refine ⟨ds.length - (i + 1), by omega, i + 1, vz.map some ++ jX js σ, _, F9, zs ++ [y], vs ++ [v9], rfl, hlt, I10.unpinned, (stay I10).1, (stay I10).2, ⟨_, by rw [List.length_map]; exact lz, rfl⟩, ?_, fD9, dY, ?_, ?_, ?_⟩
       ·exact ⟨fun b o nt q => by rw [bZ (lA q hfresh)]; exact gr9.same b o nt q, bR8 gr9.more _ _, fun ti => ⟨(gr9.tk ti).1.updL hD9 _, (gr9.tk ti).2⟩, gr9.fs, wM gr9.sub fD9 _, gr9.new⟩
       ·exact DatL.of (qO (((dl.mono g6.fs).mono g8.fs).mono g9.fs).paired (.cons d9 .nil))
       ·rw [List.length_append]; show zs.length + 1 <= i + 1; omega
       ·revert hm'
        show (((fS P G (fR js ρ) (ds.drop (i + 1))).bind fun ys => .ok (y :: ys)).bind fun r => .ok (zs ++ r)) = .ok ys -> _
        cases fS P G (fR js ρ) (ds.drop (i + 1)) with
        | ok r =>
         intro z
         have z' : (bD.ok (zs ++ (y :: r)) : bD (List D)) = .ok ys := z
         show (bD.ok ((zs ++ [y]) ++ r) : bD (List D)) = .ok ys
         rw [<- z']; simp
        | ex _ => intro z; cases z
        | bad => intro z; cases z
      | ex _ => rw [hgv] at hm'; cases hm'
      | bad => rw [hgv] at hm'; cases hm'
   ·have e : i = ds.length := by omega
    subst e
    have hdn := T.done X' (by rw [<- hX']) (by rw [<- hX']) (by rw [<- hX']) (by rw [<- hX']; exact hc) ds.length pins s' (as ++ jX js σ) H' X'.xe I' (hfp fr) st (io2 rfl)
    have hA : X'.A = X.A := by rw [<- hX']
    have hXe : X'.xe = notedBy (model X.prog X.w) X.A (compEnvC scope (gO scope.names X.env.cells []) s3.heap.objs.size X.env) fun e s' => RR (.ref s2.heap.objs.size) s3.heap.objs.size (.error e) s' := by rw [<- hX']
    rw [hA, hXe] at hdn
    refine wpAny_mono hdn (fun r s5 ⟨hr, I5⟩ => ?_) fun _ _ z => z
    subst hr
    rw [List.drop_eq_nil_of_le (Nat.le_refl _)] at hm
    have hzs : zs = ys := by
     have hm' : (bD.ok (zs ++ []) : bD (List D)) = .ok ys := hm
     rw [List.append_nil] at hm'
     cases hm'; rfl
    subst hzs
    have I5' := I5
    rw [<- hX'] at I5'
    obtain ⟨m', hn', _⟩ := I5'.loc
    refine hend s2.heap.objs.size s3.heap.objs.size s5 H' F' vs m' hfresh gr fD hD dl hn' (fun h' hs' => dC1 I3 I5' (Nat.le_refl _) hs' f3) ?_
    exact I3.fpOk (Nat.le_refl _) I5'.free
  ·refine ⟨0, os.map (fun _ => none) ++ jX js σ, _, F2, [], [], by omega, Nat.zero_le _, J0, t1, fun b hb => (f3 b hb).1, ⟨_, by rw [List.length_map], rfl⟩, bX.laidN Ev.sub hfresh _, bH.free Ev.sub hfresh, dY, DatL.nil, Nat.le_refl _, ?_⟩
   rw [List.drop_zero, hys]; rfl
 subst hs3
 exact codeAny_compStart_list (loop _ rfl) (T.self _ 0 _ _ _ t1 (loop _ rfl))
end
end R
end
section
namespace R
open PySem PySem.Spec PyProof.Rows L2
variable [bN] [Pd]
section
variable {X : Cx} {tg : Expr} {os caps : List Str} {js : List Nat} {scope : Scope} {px pos spos py : Pos} {elt iter : Expr} {ifs : List Expr} {p P : MT} {g G : ME} {fl : ML} {sp : D -> Option (List D)} {gg : TG}
noncomputable def dB (js : List Nat) (fl : ML) (p : MT) (g : ME) : ME := fun ρ => (fl ρ).bind fun ds => if ds.length <= sizeLine then (fS p g (fR js ρ) ds).bind fun ys => .ok (.lst ys) else .bad
theorem bU7 (S : mE X scope os caps js) {pins : List (Addr × Obj)} {σ : St} {H : Hp} {s : Shared} (I : Inv X pins σ H s) : closureFor scope X.env = pure (gO scope.names X.env.cells []) :=
 dB7 fun y hy hf => I.ok.has y.1 (S.fr y hy hf)
theorem bU8 (S : mE X scope os caps js) (Tg : sV X scope tg os caps sp gg P G p g) (hc : X.calm = true) (hi : II X tg iter fl) (hp : ∀ C fp s H E, pL (lE X (os ++ caps) scope C fp s H E) ifs p) (hg : ∀ C fp s H E, IE (lE X (os ++ caps) scope C fp s H E) elt g)
 (hs : ∀ x, foldedSetIterable iter X.env x = pure x) : IE X (.ListComp elt [⟨tg, iter, ifs, 0⟩] scope pos) (dB js fl P G) := by
 intro pins s σ H Q I ⟨ρ, F, Ev, q⟩
 rw [eval_ListComp]
 refine wpAny_comprehension_free (use := none) rfl hs (bU7 S I) S.kind S.names ?_
 unfold dB at q
 cases hf : fl ρ with
 | ok ds =>
  rw [hf] at q
  have q' : dC (bC X.K) F H (if ds.length <= sizeLine then (fS P G (fR js ρ) ds).bind fun ys => .ok (.lst ys) else .bad) Q := q
  split at q'
  ·rename_i hlen
   cases hcm : fS P G (fR js ρ) ds with
   | ok ys =>
    rw [hcm] at q'
    have q2 : dC (bC X.K) F H (.ok (.lst ys)) Q := q'
    have hiter := hi pins s σ H (fun J H2 => ∃ F2, bX F H F2 H2 /\ kT X.K F2 J ds) I ⟨ρ, F, Ev, by rw [hf]; exact fun J F' H' g' io => ⟨F', g', io⟩⟩
    refine wpAny_mono hiter (fun v s1 h1 => wpAny_mono h1 (fun itv s2 h2 => ?_) fun _ _ e => e) fun _ _ e => e
    obtain ⟨it, fp, tn, J, H2, rfl, I2, T, t0, f2, F2, g2, io⟩ := h2
    refine bU6 (RR := fun acc C => compPost (model X.prog X.w) X.A X.xe none (EP X pins σ Q) acc C) S hc I2 T Tg t0 f2 (Ev.grow g2) io hp hg hcm hlen ?_
    intro Dd C s' H' F' vs m' hD2 gr fD hD dl hn hback hfp
    refine ⟨m', hn, fun h' hs' => ⟨.ref Dd, H', hback h' hs', rfl, ?_⟩⟩
    have hH : H Dd = none := g2.free hD2
    have grA := g2.trans gr
    refine q2 (.ref Dd) (upd F' Dd (.lst vs)) H' ⟨grA.same, grA.more, fun ti => ⟨(grA.tk ti).1, (grA.tk ti).2.upd _ rfl⟩, grA.fs.trans (jD fD _), fun b o e => ?_, fun b hb hn' => ?_⟩ ?_
    ·by_cases z : b = Dd
     ·subst z; rw [dY] at e; cases e; exact hD
     ·rw [bZ z] at e; exact grA.sub b o e
    ·have z : b ≠ Dd := fun z => hn' (z ▸ hH)
     rw [bZ z]; exact grA.new b hb hn'
    ·simp only [bC]
     exact ⟨Dd, vs, rfl, dN.of dY, dl.mono (jD fD _)⟩
   | ex _ => rw [hcm] at q'; exact q'.elim
   | bad => rw [hcm] at q'; exact q'.elim
  ·exact q'.elim
 | ex _ => rw [hf] at q; exact q.elim
 | bad => rw [hf] at q; exact q.elim
theorem dC3 {i : Nat} {y : Str} {pins : List (Addr × Obj)} {σ : St} {H : Hp} {s : Shared} {v : V} {u : Value} {C : Addr} {m : Str -> Option Value} {Q : Shared -> Prop} (I : Inv X pins σ H s) (hN : X.N.Nodup) (hi : X.N[i]? = some y) (hx : Loc X.env.scope y) (r : bW v u) (hn : s.heap.Ns C m) (hC : jS X pins H C)
 (h : ∀ s'', Inv X pins (σ.set i (some v)) H s'' -> Q s'') (hf : X.fn y = true \/ X.env.scope.names.lookup y = some .local := by first | exact .inl rfl | exact .inr rfl | assumption) :
 wpAny (model X.prog X.w) X.A (assign (.Name y py) X.env u) (fun _ s'' => ∃ m, s''.heap.Ns C m /\ ∀ h', Heap.SameBut C s''.heap h' -> Q { s'' with heap := h' }) X.xe s := by
 refine wpAny_assign_Name (bO1 I hN hi hx r (fun s' I' hch => ?_) hf)
 obtain ⟨f0, f1, f2, f3, f4, f5⟩ := hC
 have hC2 : ∀ c, (c = X.env.locals \/ X.env.cells.lookup y = some c) -> C ≠ c := fun c hc z => by
  rcases hc with hc | hc
  ·exact f1 (z.trans hc)
  ·exact f4 y c hc z.symm
 obtain ⟨c, hsb, hcc⟩ := hch
 refine ⟨m, hn.sameBut hsb (hC2 c (by rcases hcc with z | z <;> first | exact .inl z | exact .inr z)), fun h' hs' => h _ ?_⟩
 exact I'.turned (t' := s'.toks) (fun b o hb e => (hs'.2 b hb).trans e) f0 f1 f3 f4 f5
noncomputable def gP (i : Nat) (js : List Nat) (fl : ML) (p : MT) (g : ME) : MS := bI i (dB js fl p g)
theorem dC4 {y : Str} {i : Nat} (S : mE X scope os caps js) (Tg : sV X scope tg os caps sp gg P G p g) (hc : X.calm = true) (hi : II X tg iter fl) (hp : ∀ C fp s H E, pL (lE X (os ++ caps) scope C fp s H E) ifs p) (hg : ∀ C fp s H E, IE (lE X (os ++ caps) scope C fp s H E) elt g)
 (hN : X.N.Nodup) (hy : X.N[i]? = some y) (hl : Loc X.env.scope y) (hsw : swapsWith (.ListComp elt [⟨tg, iter, ifs, 0⟩] scope pos) (some (.Name y py)) spos.line X.env = pure true)
 (hs : ∀ x, foldedSetIterable iter X.env x = pure x) (hf : X.fn y = true \/ X.env.scope.names.lookup y = some .local) :
 IS X (.Assign [.Name y py] (.ListComp elt [⟨tg, iter, ifs, 0⟩] scope pos) spos) (gP i js fl P G) := by
 intro F₀ H₀ pins s σ H E I ⟨ρ, F, SS, q⟩
 rw [exec_Assign_Name_used _ _ _ _ hsw]
 refine wpAny_bind (wpAny_standAt (wpAny_bind ?_))
 show wpAny _ X.A (do let _ <- comprehension (.ListComp elt [⟨tg, iter, ifs, 0⟩] scope pos) scope X.env _ (newList []) false (eval iter X.env) (some (assign (.Name y py) X.env))) _ _ s
 refine wpAny_bind (wpAny_mono (wpAny_comprehension_free (use := some (assign (.Name y py) X.env)) (Q := fun _ s' => SP X pins E .next s') rfl hs (bU7 S I) S.kind S.names ?_) (fun _ s' hq => wpAny_pure (wpAny_pure hq)) fun _ _ e => e)
 unfold gP bI dB at q
 cases hf' : fl ρ with
 | ok ds =>
  rw [hf'] at q
  have q' : fC X F₀ H₀ ((if ds.length <= sizeLine then (fS P G (fR js ρ) ds).bind fun ys => .ok (.lst ys) else .bad).bind fun d => .ok (.nx (ρ.set i (.val d)))) E := q
  split at q'
  ·rename_i hlen
   cases hcm : fS P G (fR js ρ) ds with
   | ok ys =>
    rw [hcm] at q'
    have q2 : ∀ σ F H, SR X.K F₀ H₀ F H (ρ.set i (.val (.lst ys))) σ -> E.nx σ H := q'
    have hiter := hi pins s σ H (fun J H2 => ∃ F2, bX F H F2 H2 /\ kT X.K F2 J ds) I ⟨ρ, F, SS.env, by rw [hf']; exact fun J F' H' g' io => ⟨F', g', io⟩⟩
    refine wpAny_mono hiter (fun v s1 h1 => wpAny_mono h1 (fun itv s2 h2 => ?_) fun _ _ e => e) fun _ _ e => e
    obtain ⟨it, fp, tn, J, H2, rfl, I2, T, t0, f2, F2, g2, io⟩ := h2
    refine bU6 (RR := fun acc C => compPost (model X.prog X.w) X.A X.xe (some (assign (.Name y py) X.env)) (fun _ s' => SP X pins E .next s') acc C) S hc I2 T Tg t0 f2 (SS.env.grow g2) io hp hg hcm hlen ?_
    intro Dd C s' H' F' vs m' hD2 gr fD hD dl hn hback hfp
    have Ib : Inv X pins σ H' s' := hback s'.heap (Heap.SameBut.refl _ _)
    refine dC3 (i := i) (v := .ref Dd) Ib hN hy hl rfl hn hfp (fun s'' I'' => ⟨_, H', I'', ?_⟩) hf
    have hH : H Dd = none := g2.free hD2
    have grA := g2.trans gr
    have grB : bX F H (upd F' Dd (.lst vs)) H' := by
     refine ⟨grA.same, grA.more, fun ti => ⟨(grA.tk ti).1, (grA.tk ti).2.upd _ rfl⟩, grA.fs.trans (jD fD _), fun b o e => ?_, fun b hb hn' => ?_⟩
     ·by_cases z : b = Dd
      ·subst z; rw [dY] at e; cases e; exact hD
      ·rw [bZ z] at e; exact grA.sub b o e
     ·have z : b ≠ Dd := fun z => hn' (z ▸ hH)
      rw [bZ z]; exact grA.new b hb hn'
    exact q2 _ _ _ ((SS.grow grB).set i (by simp only [bC]; exact ⟨Dd, vs, rfl, dN.of dY, dl.mono (jD fD _)⟩))
   | ex _ => rw [hcm] at q'; exact q'.elim
   | bad => rw [hcm] at q'; exact q'.elim
  ·exact q'.elim
 | ex _ => rw [hf'] at q; exact q.elim
 | bad => rw [hf'] at q; exact q.elim
variable {x : Str}
theorem dC5 (S : mE X scope [x] caps js) : sV X scope (.Name x px) [x] caps (fun d => some [d]) (kG 0) p g p g where
 pg := fun _ _ _ _ _ => fY (i := 0) S.nd rfl (.inl (lookup_relabel_local (S.loc x List.mem_cons_self))) (.inr (lookup_relabel_local (S.loc x List.mem_cons_self)))
 ok := fun {d es v F H as σr} e dv _ la => by
  cases e
  match as, la with
  | [o], _ => exact ⟨[v], rfl, DatL.cons dv DatL.nil, rfl, rfl⟩
 hp := fun _ => ⟨_, rfl⟩
 eq := fun r e => by cases e; exact ⟨rfl, rfl⟩
end
end R
end
section
namespace R
open PySem PySem.Spec PyProof.Rows L2
variable [bN] [Pd]
noncomputable def fG {α : Type} (xs : List α) (lo hi : Option Int) : List α := (xs.drop (HT.sIx xs.length 0 lo)).take (HT.sIx xs.length xs.length hi - HT.sIx xs.length 0 lo)
noncomputable def nH (z : Str) (lo hi : Option Int) : Str := ⟨(fG z.cps.toList lo hi).toArray⟩
theorem sW {α : Type} (xs : List α) (lo hi : Option Int) : (fG xs lo hi).length <= xs.length := by
 unfold fG
 rw [List.length_take, List.length_drop]; omega
theorem bG9 (z : Str) (lo hi : Option Int) : (nH z lo hi).length <= z.length := by
 show (fG z.cps.toList lo hi).toArray.size <= z.cps.size
 rw [List.size_toArray]
 exact Nat.le_trans (sW _ _ _) (by simp)
theorem bU9 (n : Nat) (lo hi : Option Int) : Builtin.Str.strSliceIndices lo hi 1 n = (List.range (HT.sIx n n hi - HT.sIx n 0 lo)).map (HT.sIx n 0 lo + ·) := by
 have h0 : ∀ (o : Option Int) (d : Nat), d <= n -> (match o with
  | none => (d : Int)
  | some i => max 0 (min (if i < 0 then i + (n : Int) else i) (n : Int))) = ((HT.sIx n d o : Nat) : Int) := by
  intro o d hd
  cases o with
  | none => rfl
  | some i =>
   show max 0 (min (if i < 0 then i + (n : Int) else i) (n : Int)) = ((if i < 0 then (i + (n : Int)).toNat else min i.toNat n : Nat) : Int)
   by_cases hi : i < 0
   ·rw [if_pos hi, if_pos hi]; omega
   ·rw [if_neg hi, if_neg hi]; omega
 rw [<- sliceRange_one]
 unfold Builtin.Str.strSliceIndices
 simp only [show (1 : Int) > 0 by decide, if_true]
 have e1 := h0 lo 0 (Nat.zero_le _)
 have e2 := h0 hi n (Nat.le_refl _)
 rw [<- e1, <- e2]
 cases lo <;> cases hi <;> rfl
theorem dC6 (z : Str) (lo hi : Option Int) : (⟨((Builtin.Str.strSliceIndices lo hi 1 z.length).filterMap (z.cps[·]?)).toArray⟩ : Str) = nH z lo hi := by
 rw [bU9, pick_run]
 unfold nH fG
 have : z.cps.toList.length = z.length := by simp [Str.length]
 rw [this]
theorem dC7 {z : Str} {lo hi : Option Int} (h : ((Builtin.Str.strSliceIndices lo hi 1 z.length).length == z.length) = true) : nH z lo hi = z := by
 have h' : (Builtin.Str.strSliceIndices lo hi 1 z.length).length = z.length := eq_of_beq h
 rw [bU9, List.length_map, List.length_range] at h'
 have hb : HT.sIx z.length z.length hi <= z.length := HT.sIx_le _ _ (Nat.le_refl _) hi
 unfold nH fG
 have e : z.cps.toList.length = z.length := by simp [Str.length]
 rw [e]
 by_cases hz : z.length = 0
 ·have : z.cps.toList = [] := List.length_eq_zero_iff.mp (by rw [e]; exact hz)
  rw [this]
  cases z with
  | mk c =>
   have : c = #[] := by
    apply Array.toList_inj.mp; simpa using this
   subst this; simp
 ·have h0 : HT.sIx z.length 0 lo = 0 := by omega
  rw [h0, List.drop_zero, List.take_of_length_le (by rw [e]; omega)]
theorem dC8 {z : Str} {t : Tok} {l u : Option (Int × Tok)} {Q : Value -> Shared -> Prop} {s : Shared} (hz : z.length <= sizeLine) (h : ∀ t' k, Q (.str (nH z (l.map (·.1)) (u.map (·.1))) t') { s with toks := k }) : (sliceMade z t l u none).post Q s := by
 unfold sliceMade slicePicked
 simp only [Option.map_none, Option.getD_none]
 by_cases hc : ((1 : Int) == 1 && (Builtin.Str.strSliceIndices (l.map (·.1)) (u.map (·.1)) 1 z.length).length == z.length) = true
 ·rw [if_pos hc]
  rw [Bool.and_eq_true] at hc
  have e := dC7 hc.2
  have := h t s.toks
  rw [e] at this
  exact this
 ·rw [if_neg hc, dC6]
  refine ⟨?_, h _ _⟩
  exact Nat.le_trans (bG9 z _ _) hz
section
variable {X : Cx} {a b c e : Expr} {es : List Expr} {f g h : ME} {pos p2 : Pos} {m m' : D -> D -> bD D}
noncomputable def sX : D -> Option Int -> Option Int -> bD D
 | .str z, lo, hi => .ok (.str (nH z lo hi))
 | .tup ds, lo, hi => .ok (.tup (fG ds lo hi))
 | .lst ds, lo, hi => .ok (.lst (fG ds lo hi))
 | _, _, _ => .bad
def rSD (X : Cx) : V -> Option Int -> Option Int -> Hp -> VK -> Prop := fun x lo hi H Q => ∃ F d, bH F H /\ bC X.K F d x /\ dC (bC X.K) F H (sX d lo hi) Q
theorem bV0 {v : Value} {o : Option Int} (h : IsPart v o) : ∃ q : Option (Int × Tok), v = partValue q /\ q.map (·.1) = o := by
 cases h with
 | none => exact ⟨none, rfl, rfl⟩
 | int i t => exact ⟨some (i, t), rfl, rfl⟩
theorem dD0 : yS X (rSD X) := by
 intro pins s σ H x v vl vu lo hi sl Q I rx hs pl pu h
 obtain ⟨F, d, sb, hd, q⟩ := h
 cases d with
 | str z =>
  simp only [bC] at hd; obtain ⟨rfl, hz⟩ := hd
  obtain ⟨t, rfl⟩ := rx
  obtain ⟨ql, rfl, el⟩ := bV0 pl
  obtain ⟨qu, rfl, eu⟩ := bV0 pu
  refine ⟨"str", _, PySem.F.slot_str_getitem.lookup, typeIs_str _ _ _, ?_⟩
  refine wpAny_getItem_str_slice (l := ql) (u := qu) (st := none) hs rfl (dC8 hz fun t' k => ?_)
  rw [el, eu]
  exact ⟨.str _, H, I.tok _, ⟨_, rfl⟩, cK q sb (by simp only [bC]; exact ⟨trivial, Nat.le_trans (bG9 _ _ _) hz⟩)⟩
 | tup ds =>
  simp only [bC] at hd; obtain ⟨p, xs, rfl, g1, l1⟩ := hd
  have hl := l1.length
  by_cases hw : HT.sIx ds.length 0 lo = 0 /\ HT.sIx ds.length ds.length hi = ds.length
  ·have e : fG ds lo hi = ds := by
    unfold fG
    rw [hw.1, hw.2]; simp
   simp only [sX, e] at q
   cases rx
   obtain ⟨its, r, ht, hz⟩ := I.tuple (bH.seqT sb g1)
   have hlen : its.toArray.size = ds.length := by rw [List.size_toArray, <- r.length, <- hl]
   refine ⟨"tuple", _, PyProof.Rows.slot_tuple_getitem.lookup, ht.typeIs, ?_⟩
   exact cY5 ht hs pl pu (by rw [hlen]; exact hw) ⟨.ref p, H, I, rfl, cK q sb (by simp only [bC]; exact ⟨p, xs, rfl, g1, l1⟩)⟩
  ·simp only [sX] at q
   refine cQ4 pins s σ H _ v vl vu lo hi sl Q I rx hs pl pu ⟨p, xs, rfl, bH.seqT sb g1, by rw [<- hl]; exact hw, fun p' hp' => ?_⟩
   refine wP q sb ?_ hp'
   unfold fG pC
   rw [hl]
   exact DatL.of (bF4 _ (bF5 _ l1.paired))
 | lst ds =>
  simp only [bC] at hd; obtain ⟨p, xs, rfl, g1, l1⟩ := hd
  have hl := l1.length
  refine cR8 pins s σ H _ v vl vu lo hi sl Q I rx hs pl pu ⟨p, xs, rfl, bH.seq sb g1, fun p' hp' => ?_⟩
  refine sP q sb ?_ hp'
  unfold fG pC
  rw [hl]
  exact DatL.of (bF4 _ (bF5 _ l1.paired))
 | _ => exact q.elim
noncomputable abbrev MO := bJ -> bD (Option Int)
noncomputable def tDO (X : Cx) (f : MO) : TO := fun σ H Q => ∃ ρ F, gA X.K F H ρ σ /\ dC R.RelO F H (f ρ) Q
def wY (X : Cx) (e : Option Expr) (f : MO) : Prop := PO X e (tDO X f)
noncomputable def gU : MO := fun _ => .ok none
noncomputable def bH0 : D -> bD (Option Int)
 | .int i => .ok (some i)
 | _ => .bad
noncomputable def gW (f : ME) : MO := fun ρ => (f ρ).bind bH0
theorem bV1 {o : Option Expr} {t t' : TO} (h : PO X o t) (i : ∀ σ H Q, t' σ H Q -> t σ H Q) : PO X o t' := fun pins s σ H Q I hq => h pins s σ H Q I (i σ H Q hq)
theorem dD2 : wY X none gU := bV1 cP9 fun σ H Q ⟨ρ, F, E, q⟩ => cK q E.sub rfl
theorem dD3 (he : IE X e f) : wY X (some e) (gW f) := bV1 (cQ0 he) fun σ H Q ⟨ρ, F, E, q⟩ => ⟨ρ, F, E, by
 have q1 := gH (R1 := bC X.K) q
 revert q1
 cases f ρ with
 | ok d =>
  intro q1 v F1 H1 g1 d1
  obtain ⟨F2, d', g2, d2, q2⟩ := q1 v F1 H1 g1 d1
  cases d' with
  | int i => simp only [bC] at d2; exact ⟨i, d2, cK q2 g2.sub rfl⟩
  | _ => exact q2.elim
 | ex _ => exact fun q1 => q1
 | bad => exact fun q1 => q1⟩
noncomputable def gQ (f : ME) (l u : MO) : ME := fun ρ => (f ρ).bind fun d => (l ρ).bind fun lo => (u ρ).bind fun hi => sX d lo hi
theorem dD4 {lo hi : Option Expr} {l u : MO} (he : IE X e f) (hl : wY X lo l) (hu : wY X hi u) : IE X (.Subscript e (.Slice lo hi none p2) pos) (gQ f l u) := gN (cQ2 dD0 he hl hu) fun σ H Q ⟨ρ, F, E, q⟩ => ⟨ρ, F, E, by
 have q1 := gH (R1 := bC X.K) q
 revert q1
 cases f ρ with
 | ok d =>
  intro q1 v F1 H1 g1 d1
  obtain ⟨F2, d', g2, d2, q2⟩ := q1 v F1 H1 g1 d1
  refine ⟨ρ, F2, E.grow g2, ?_⟩
  have q3 := gH (R1 := R.RelO) q2
  revert q3
  cases l ρ with
  | ok y =>
   intro q3 v' F3 H3 g3 d3
   obtain ⟨F4, y', g4, d4, q4⟩ := q3 v' F3 H3 g3 d3
   cases (show y' = v' from d4)
   refine ⟨ρ, F4, (E.grow g2).grow g4, ?_⟩
   have q5 := gH (R1 := R.RelO) q4
   revert q5
   cases u ρ with
   | ok z =>
    intro q5 vz F5 H5 g5 d5
    obtain ⟨F6, z', g6, d6, q6⟩ := q5 vz F5 H5 g5 d5
    cases (show z' = vz from d6)
    exact ⟨F6, d', g6.sub, (d2.mono g4.fs).mono g6.fs, q6⟩
   | ex _ => exact fun q => q
   | bad => exact fun q => q
  | ex _ => exact fun q => q
  | bad => exact fun q => q
 | ex _ => exact fun q => q
 | bad => exact fun q => q⟩
noncomputable def zM (T : String) : D -> Bool
 | .bl _ => T == "int" || T == "bool"
 | .int _ => T == "int"
 | .str _ => T == "str"
 | .tup _ => T == "tuple"
 | .lst _ => T == "list"
 | .non => false
noncomputable def qQ (T : String) (d : D) : bD D := .ok (.bl (zM T d))
def sY (K : W.Frag) (T : String) : Prop := W.kitOne K (.type "NoneType") (.type T) = some false /\ W.kitOne K (.type "bool") (.type T) = some (T == "int" || T == "bool") /\ W.kitOne K (.type "int") (.type T) = some (T == "int") /\
 W.kitOne K (.type "str") (.type T) = some (T == "str") /\ W.kitOne K (.type "tuple") (.type T) = some (T == "tuple") /\ W.kitOne K (.type "list") (.type T) = some (T == "list")
theorem dD5 (K : W.Frag) : sY K "tuple" := by unfold sY W.kitOne W.kitCls W.subIn; dsimp only; decide +kernel
theorem dD6 {T : String} (hk : sY X.K T) : fZ X (.builtin "isinstance") (fun xs H Q => ∃ F d v, xs = [v, .ty T] /\ bH F H /\ bC X.K F d v /\ dC (bC X.K) F H (qQ T d) Q) := by
 intro pins s σ H xs us Q I r h
 obtain ⟨F, d, v, rfl, sb, hd, q⟩ := h
 obtain ⟨k1, k2, k3, k4, k5, k6⟩ := hk
 obtain ⟨u, w', rfl, r1, r2⟩ := bE6 r
 cases (show w' = Value.type T from r2)
 have fin : ∀ b, b = zM T d -> ∀ tk, EP X pins σ Q (.bool b) { s with toks := tk } := fun b e tk => ⟨.bl b, H, I.tok tk, rfl, by subst e; exact cK q sb (by simp only [bC])⟩
 cases d with
 | non => simp only [bC] at hd; subst hd; cases r1; exact W.kia_one W.kitx_none I.kIn True.intro k1 (fun z => nomatch z) (fin _ rfl)
 | bl b => simp only [bC] at hd; subst hd; cases r1; exact W.kia_one W.kitx_bool I.kIn True.intro k2 (fun z => nomatch z) (fin _ rfl)
 | int i => simp only [bC] at hd; subst hd; obtain ⟨t, rfl⟩ := r1; exact W.kia_one W.kitx_int I.kIn True.intro k3 (fun z => nomatch z) (fin _ rfl)
 | str z => simp only [bC] at hd; obtain ⟨rfl, _⟩ := hd; obtain ⟨t, rfl⟩ := r1; exact W.kia_one W.kitx_str I.kIn True.intro k4 (fun z => nomatch z) (fin _ rfl)
 | tup ds =>
  simp only [bC] at hd; obtain ⟨p, xs, rfl, g1, l1⟩ := hd; cases r1
  obtain ⟨its, _, ⟨o, e1, e2, _⟩, _⟩ := I.tuple (bH.seqT sb g1)
  exact W.kia_one W.kitx_tuple I.kIn ⟨o, e1, e2⟩ k5 (fun z => nomatch z) (fin _ rfl)
 | lst ds =>
  simp only [bC] at hd; obtain ⟨p, xs, rfl, g1, l1⟩ := hd; cases r1
  obtain ⟨its, _, ⟨o, n, e1, e2, _⟩, _⟩ := I.list (bH.seq sb g1)
  exact W.kia_one W.kitx_list I.kIn ⟨o, e1, e2⟩ k6 (fun z => nomatch z) (fin _ rfl)
theorem dD7 {T : String} {tn : Str} {p p1 : Pos} (hk : sY X.K T) (ha : IE X a f) (hg : Gl X "isinstance") (hm : X.mg "isinstance" = none) (hg2 : Gl X tn) (hm2 : X.mg tn = none) (hv : bootBuiltins tn = some (.type T)) (hn : tn ≠ "__name__" := by decide) (hdb : (tn == ("__debug__" : Str)) = false := by decide)
 (he : starEach (a :: [.Name tn p1]) X.env = (false, eval a X.env) :: starEach [.Name tn p1] X.env := by rfl) : IE X (.Call (.Name "isinstance" p) [a, .Name tn p1] [] pos) (m1 (qQ T) f) := by
 refine gN (bE8 (dD6 hk) hg hm PyProof.Rows.boot_isinstance (kR ha (kR (cI1 (v := .ty T) hg2 hm2 hv rfl hn hdb) lX) he) (he := he)) fun σ H Q ⟨ρ, F, E, q⟩ => ⟨ρ, F, E, ?_⟩
 have q1 := gH (R1 := bC X.K) q
 revert q1
 cases f ρ with
 | ok d => exact fun q1 v F1 H1 g1 d1 => let ⟨F2, d', g2, d2, q2⟩ := q1 v F1 H1 g1 d1; ⟨F2, d', v, rfl, g2.sub, d2, q2⟩
 | ex _ => exact fun q1 => q1
 | bad => exact fun q1 => q1
structure qR (K : W.Frag) (mg : Str -> Option Value) (x : Str) (d : D) : Prop where
 ex : ∃ (v : V) (u : Value), mg x = some u /\ bW v u /\ ∀ F, bC K F d v
theorem dD8 {x : Str} {d : D} (hg : Gl X x) (C : qR X.K X.mg x d) (hd : (x == ("__debug__" : Str)) = false := by decide) : IE X (.Name x pos) (kc d) := by
 obtain ⟨v, u, h1, h2, h3⟩ := C.ex
 exact wQ (t := tC v) (cI0 hg h1 h2 hd) h3
end
end R
end
section
namespace R
open PySem PySem.Spec PyProof.Rows L2
variable [bN] [Pd]
section
variable {X : Cx} {a b c e o : Expr} {es : List Expr} {f g h : ME} {pos p2 apos : Pos} {m m' : D -> D -> bD D}
end
end R
end
section
namespace R
open PySem PySem.Spec PyProof.Rows L2
variable [bN] [Pd]
section
variable {X : Cx} {f : ME} {e : Expr} {es : List Expr} {pos : Pos}
theorem bV2 (hu : X.A.units + 200 < cLine) : cT X (compareOp .In) (rD X (gE false)) := bU0 (neg := false) hu
theorem bV3 (hu : X.A.units + 200 < cLine) : cT X (compareOp .NotIn) (rD X (gE true)) := bU0 (neg := true) hu
theorem bH1 {k : Nat} {A : Around} (hr : dZ k A) : A.units + 100 < cLine := by have := hr.un; omega
theorem zN {k : Nat} {A : Around} (hr : dZ k A) : A.units + 200 < cLine := by have := hr.un; omega
theorem dD9 {scope sc : Scope} {os caps : List Str} {js : List Nat} {N : List Str} (hN : X.N = N) (hS : X.env.scope = sc) (h1 : scope.kind = .function) (h2 : (scope.names.all fun y => decide (y.2 ≠ .cell)) = true)
 (h3 : (scope.names.all fun y => decide (y.2 = .local -> scope.names.lookup y.1 = some .local)) = true) (h4 : (os.all fun x => decide (scope.names.lookup x = some .local)) = true)
 (h5 : (scope.names.all fun y => decide (y.2 = .free -> sc.names.lookup y.1 = some .cell \/ sc.names.lookup y.1 = some .free)) = true) (h6 : (os ++ caps).Nodup) (h7 : caps.length = js.length)
 (h8 : ((caps.zip js).all fun q => decide (N[q.2]? = some q.1) && decide (scope.names.lookup q.1 = some .free)) = true) : mE X scope os caps js where
 kind := h1
 nocell := fun y hy => of_decide_eq_true (List.all_eq_true.mp h2 y hy)
 names := fun y hy => of_decide_eq_true (List.all_eq_true.mp h3 y hy)
 loc := fun y hy => of_decide_eq_true (List.all_eq_true.mp h4 y hy)
 fr := fun y hy hf => by
  have := of_decide_eq_true (List.all_eq_true.mp h5 y hy) hf
  show X.env.scope.names.lookup y.1 = _ \/ X.env.scope.names.lookup y.1 = _
  rw [hS]; exact this
 nd := h6
 len := h7
 cap := fun k y j hy hj => by
  have hm : (y, j) ∈ caps.zip js := by
   have : (caps.zip js)[k]? = some (y, j) := by rw [List.getElem?_zip_eq_some]; exact ⟨hy, hj⟩
   exact List.mem_of_getElem? this
  have := List.all_eq_true.mp h8 _ hm
  rw [Bool.and_eq_true] at this
  rw [hN]
  exact ⟨of_decide_eq_true this.1, of_decide_eq_true this.2⟩
theorem dE0 : pL X [] fun _ => .ok true := .inl ⟨rfl, rfl⟩
theorem dE1 {p : MT} (h : IT X e p) : pL X [e] p := .inr ⟨e, rfl, h⟩
end
theorem bH2 {P : Program} {w : World} {K : W.Frag} {mg : Str -> Option Value} {base : Heap} {k : Nat} {f : Addr} {fd : FuncData} {ps : List Str} {m : List D -> bD D} (hm : ∀ ds, m ds = .bad) : bS P w K mg base bT k f fd ps (cS K m) := by
 have no : ∀ vs H Q E, ¬ cS K m vs H Q E := fun vs H Q E h => by
  obtain ⟨F, ds, _, _, _, q⟩ := h
  rw [hm ds] at q
  exact q
 exact ⟨fun vs H Q E h => absurd h (no vs H Q E), fun A outer s H args us vs Q E _ _ _ _ h => absurd h (no vs H Q E)⟩
structure fN (P : Program) (w : World) (K : W.Frag) (mg : Str -> Option Value) (base : Heap) (k : Nat) (x : Str) (m : List D -> bD D) : Prop where
 ex : ∃ (f : Addr) (fd : FuncData) (ps : List Str), bS P w K mg base bT k f fd ps (cS K m) /\ mg x = some (.ref f) /\ W.keepIn K (.ref f) = true /\ cY K fd ps []
theorem fN.of {X : Cx} {k : Nat} {x : Str} {m : List D -> bD D} (h : fN X.prog X.w X.K X.mg X.base k x m) : bS3 X k x m := ⟨h.ex⟩
noncomputable def zO (K : W.Frag) : Sp := fun vs H Q _ => ∃ (a : Addr) (ns : List Int) (F : Hp), vs = [.ref a] /\ kS F H /\ bH F H /\ dN K F a (ns.map V.int) /\ ns.length <= 63 /\ ∀ H', Q (.bl true) H'
theorem bV4 {K : W.Frag} {F : Hp} : ∀ ns : List Int, DatL K F (ns.map .int) (ns.map V.int)
 | [] => DatL.nil
 | n :: r => DatL.cons (by simp only [bC]) (bV4 r)
theorem dE2 {P : Program} {w : World} {K : W.Frag} {mg : Str -> Option Value} {base : Heap} {k : Nat} {f : Addr} {fd : FuncData} {ps : List Str} {m : List D -> bD D} (F : bS P w K mg base bT k f fd ps (cS K m))
 (hm : ∀ ns : List Int, ns.length <= 63 -> m [.lst (ns.map .int)] = .ok (.bl true)) : bS P w K mg base bT k f fd ps (zO K) := F.imp fun vs H Q E ⟨a, ns, F₀, e, ti, sb, hS, hl, q⟩ => by
 subst e
 refine ⟨F₀, [.lst (ns.map .int)], ti, sb, DatL.cons (by simp only [bC]; exact ⟨a, _, rfl, hS, bV4 ns⟩) DatL.nil, ?_⟩
 rw [hm ns hl]
 intro v F' H' g d
 simp only [bC] at d
 subst d
 exact q H'
end R
end
section
namespace R
open PySem PySem.Spec PyProof.Rows L2
variable [bN] [Pd]
noncomputable def jY : Expr -> Bool
 | .Starred _ _ => true
 | _ => false
theorem kW {e : Expr} {es : List Expr} {env : Env} (h : jY e = false) : starEach (e :: es) env = (false, eval e env) :: starEach es env := by
 cases e <;> first | rfl | (exact Bool.noConfusion h)
noncomputable def jN (es : List Expr) : Bool := es.all fun e => !jY e
theorem qS {env : Env} {pos : Pos} : ∀ {es : List Expr}, jN es = true -> (backTo pos (starEach es env)).any (·.1) = false
 | [], _ => rfl
 | e :: es, h => by
  unfold jN at h
  rw [List.all_cons, Bool.and_eq_true] at h
  rw [kW (by simpa using h.1)]
  show (false || (backTo pos (starEach es env)).any (·.1)) = false
  rw [Bool.false_or]
  exact qS h.2
theorem bV5 {env : Env} {pos : Pos} : ∀ {es : List Expr}, jN es = true -> (backTo pos (starEach es env)).all (fun x => !x.1) = true
 | [], _ => rfl
 | e :: es, h => by
  unfold jN at h
  rw [List.all_cons, Bool.and_eq_true] at h
  rw [kW (by simpa using h.1)]
  show (true && (backTo pos (starEach es env)).all fun x => !x.1) = true
  rw [Bool.true_and]
  exact bV5 h.2
structure hX (N : List Str) (sc : Scope) (i : Nat) (x : Str) : Prop where
 n : N[i]? = some x
 v : sc.names.lookup x = some .local \/ sc.names.lookup x = some .cell \/ sc.names.lookup x = some .free
 d : (x == ("__debug__" : Str)) = false
 c : (x == ("__classdict__" : Str)) = false
section
variable {X : Cx} {a b c e o : Expr} {es : List Expr} {f g h : ME} {pos p p1 p2 apos : Pos} {x : Str}
theorem dE3 {i : Nat} (h : hX X.N X.env.scope i x) : IE X (.Name x pos) (gv i) := cW1 i (jC h.n h.v h.d h.c)
theorem dE4 {x j} (hx : Nat.ble x.length sizeLine = true) : IE X (.Constant (.str x) j pos) (kc (.str x)) := cW5 (Nat.le_of_ble_eq_true hx)
theorem wZ {r : MA} (hs : jY e = false) (ha : IE X e f) (hr : IA X es r) : IA X (e :: es) (aC f r) := bS1 ha hr (kW hs)
theorem dE5 {k : Nat} {m : List D -> bD D} {fa : MA} (C : fN X.prog X.w X.K X.mg X.base k x m) (hr : dZ k X.A) (hg : X.env.scope.names.lookup x = some .globalImplicit) (hn : jN (e :: es) = true) (hd : (x == ("__debug__" : Str)) = false) (ha : IA X (e :: es) fa) :
 IE X (.Call (.Name x p) (e :: es) [] pos) (mA m fa) := by
 have h1 : jY e = false /\ jN es = true := by
  unfold jN at hn
  rw [List.all_cons, Bool.and_eq_true] at hn
  exact ⟨by simpa using hn.1, hn.2⟩
 exact cX4 (fN.of C) hr hg ha hd (kW h1.1) (qS h1.2)
theorem dE6 {id : String} {r : List V -> Hp -> VK -> Prop} {m : List D -> bD D} {fa : MA} (hc : fZ X (.builtin id) r) (ho : sT X r m) (hg : X.env.scope.names.lookup x = some .globalImplicit) (hm : X.mg x = none) (hv : bootBuiltins x = some (.builtin id)) (hn : jN (e :: es) = true)
 (hd : (x == ("__debug__" : Str)) = false) (hnm : (x == ("__name__" : Str)) = false) (ha : IA X (e :: es) fa) : IE X (.Call (.Name x p) (e :: es) [] pos) (mA m fa) := by
 have h1 : jY e = false /\ jN es = true := by
  unfold jN at hn
  rw [List.all_cons, Bool.and_eq_true] at hn
  exact ⟨by simpa using hn.1, hn.2⟩
 exact cX2 hc ho hg hm hv ha (by intro z; rw [z] at hnm; simp at hnm) hd (kW h1.1) (qS h1.2)
theorem dE7 {id : String} {r : List V -> Hp -> VK -> Prop} {m : List D -> bD D} {fa : MA} (hc : fZ X (.type id) r) (ho : sT X r m) (hg : X.env.scope.names.lookup x = some .globalImplicit) (hm : X.mg x = none) (hv : bootBuiltins x = some (.type id)) (hn : jN (e :: es) = true)
 (hd : (x == ("__debug__" : Str)) = false) (hnm : (x == ("__name__" : Str)) = false) (ha : IA X (e :: es) fa) : IE X (.Call (.Name x p) (e :: es) [] pos) (mA m fa) := by
 have h1 : jY e = false /\ jN es = true := by
  unfold jN at hn
  rw [List.all_cons, Bool.and_eq_true] at hn
  exact ⟨by simpa using hn.1, hn.2⟩
 exact cX3 hc ho hg hm hv ha (by intro z; rw [z] at hnm; simp at hnm) hd (kW h1.1) (qS h1.2)
theorem dE8 {T : String} {tn : Str} (hk : sY X.K T) (hs : jY a = false) (hg : X.env.scope.names.lookup ("isinstance" : Str) = some .globalImplicit) (hm : X.mg "isinstance" = none) (hg2 : X.env.scope.names.lookup tn = some .globalImplicit) (hm2 : X.mg tn = none) (hv : bootBuiltins tn = some (.type T))
 (hd : (tn == ("__debug__" : Str)) = false) (hnm : (tn == ("__name__" : Str)) = false) (ha : IE X a f) : IE X (.Call (.Name "isinstance" p) [a, .Name tn p1] [] pos) (m1 (qQ T) f) :=
 dD7 hk ha hg hm hg2 hm2 hv (by intro z; rw [z] at hnm; simp at hnm) hd (kW hs)
theorem dE9 {d : D} (hg : X.env.scope.names.lookup x = some .globalImplicit) (C : qR X.K X.mg x d) (hd : (x == ("__debug__" : Str)) = false) : IE X (.Name x pos) (kc d) := dD8 hg C hd
theorem bV6 (hg : X.env.scope.names.lookup ("range" : Str) = some .globalImplicit) (hm : X.mg "range" = none) (hs : jY a = false) {tg : Expr} (hi : IE X a f) : II X tg (.Call (.Name "range" p) [a] [] pos) (fM f) :=
 dB6 hg hm hi (by rw [kW hs]; rfl)
noncomputable def bH3 : Expr -> Bool
 | .ListComp _ _ _ _ => true
 | .SetComp _ _ _ _ => true
 | .DictComp _ _ _ _ _ => true
 | _ => false
theorem zP {t : Option Expr} {l : Nat} {env : Env} (h : bH3 e = false) : swapsWith e t l env = pure false := by
 cases e <;> first | rfl | (exact Bool.noConfusion h)
theorem bV7 {i : Nat} (hN : X.N.Nodup) (hi : X.N[i]? = some x) (hx : Loc X.env.scope x) (hs : bH3 e = false) (hf : X.fn x = true \/ X.env.scope.names.lookup x = some .local) (he : IE X e f) : IS X (.Assign [.Name x p] e pos) (bI i f) :=
 bS8 (fun t h => pB (i := i) hN hi hx h (zP hs) hf) he
theorem bV8 {st : Stmt} : IS X st fun _ => .bad := fun F₀ H₀ pins s σ H E I ⟨ρ, F, S, q⟩ => q.elim
end
end R
namespace R
open PySem PySem.Spec PyProof.Rows L2
variable [bN] [Pd]
section
variable {X : Cx} {a b c e o : Expr} {es : List Expr} {f g h : ME} {pos p p1 p2 apos : Pos} {x : Str}
noncomputable def bH4 : Expr -> Bool
 | .Name _ _ => true
 | .Constant (.int _) _ _ => true
 | .BinOp _ _ _ _ => true
 | .UnaryOp _ _ _ => true
 | .Call _ _ _ _ => true
 | .Subscript _ _ _ => true
 | _ => false
theorem plain_of (h : bH4 b = true) : yT b := by
 cases b <;> first
  | (exact Bool.noConfusion h)
  | (intro _ _; rfl)
  | (rename_i k _ _; cases k <;> first | (exact Bool.noConfusion h) | (intro _ _; rfl))
theorem bV9 (hs : bH4 b = true) (ha : IE X a f) (hb : IE X b g) : IE X (.Subscript a b pos) (m2 bF f g) := dA6 ha hb (plain_of hs)
noncomputable def bH5 : Expr -> Bool
 | .Name _ _ => true
 | .Call _ _ _ _ => true
 | .Subscript _ _ _ => true
 | .Attribute _ _ _ => true
 | .BinOp _ _ _ _ => true
 | _ => false
theorem dF0 {env : Env} (h : bH5 a = true) : ∀ whole, isTrue a env whole = (do let v <- whole; standAt a.pos; holding [v] (truthy v)) := by
 cases a <;> first
  | (exact Bool.noConfusion h)
  | (intro _; rfl)
theorem dF1 (hs : bH5 a = true) (ha : IE X a f) : IT X a (mT f) := cX8 ha (dF0 hs)
noncomputable def sZ : Expr -> Bool
 | .Name _ _ => true
 | .Call _ _ _ _ => true
 | .Subscript _ _ _ => true
 | .BinOp _ _ _ _ => true
 | .ListComp _ _ _ _ => true
 | .Tuple _ _ _ => true
 | .List _ _ => true
 | _ => false
theorem gK {env : Env} (h : sZ a = true) : ∀ x, foldedSetIterable a env x = pure x := by
 cases a <;> first
  | (exact Bool.noConfusion h)
  | (intro _; rfl)
end
end R
end
section
namespace R
open PySem PySem.Spec PyProof.Rows L2
variable [bN] [Pd]
section
variable {X : Cx} {a b c e : Expr} {es : List Expr} {f g h : ME} {pos p2 : Pos}
noncomputable def lF : D -> D -> bD D
 | .int i, .int j => .ok (.bl (!(i == j)))
 | .str x, .str y => .ok (.bl (!(x == y)))
 | _, _ => .bad
theorem bW0 : cT X (compareOp .NotEq) (rD X lF) := by
 intro pins s σ H x y v u Q I rx ry h
 obtain ⟨F, d1, d2, sb, h1, h2, q⟩ := h
 cases d1 <;> cases d2 <;> try exact q.elim
 ·rename_i i j
  simp only [bC] at h1 h2; subst h1 h2
  refine bE3 pins s σ H _ _ v u Q I rx ry ⟨rfl, ?_⟩
  have e : (!decide ((V.int i) = V.int j)) = !(i == j) := by
   by_cases q : i = j
   ·subst q; simp
   ·simp [q]
  first | (rw [e]; exact cK q sb (by simp only [bC])) | skip
 ·rename_i i j
  simp only [bC] at h1 h2; obtain ⟨rfl, _⟩ := h1; obtain ⟨rfl, _⟩ := h2
  refine bE3 pins s σ H _ _ v u Q I rx ry ⟨rfl, ?_⟩
  have e : (!decide ((V.str i) = V.str j)) = !(i == j) := by
   by_cases q : i = j
   ·subst q; simp
   ·simp [q]
  first | (rw [e]; exact cK q sb (by simp only [bC])) | skip
noncomputable def kK (i j : Nat) (f : ME) : MS := fun ρ => (f ρ).bind fun d => match d with
 | .tup [x, y] => .ok (.nx ((ρ.set i (.val x)).set j (.val y)))
 | _ => .bad
theorem dF2 {x y : Str} {px py pt : Pos} {i j k : Nat} (hp : ∀ t, PE X e t -> PS X (.Assign [.Tuple [.Name x px, .Name y py] k pt] e pos) (wE t (sJ X.K 2 (lW (kG i) (lW (kG j) sI))))) (he : IE X e f) :
 IS X (.Assign [.Tuple [.Name x px, .Name y py] k pt] e pos) (kK i j f) := fun F₀ H₀ => gT (hp _ he) fun E σ H q =>
 wS (k := fun d ρ => match d with | .tup [x, y] => .ok (.nx ((ρ.set i (.val x)).set j (.val y))) | _ => .bad) (fun ρ F H d v S r q => by
  cases d with
  | tup ds =>
   cases ds with
   | nil => exact q.elim
   | cons d1 ds =>
    cases ds with
    | nil => exact q.elim
    | cons d2 ds =>
     cases ds with
     | cons _ _ => exact q.elim
     | nil =>
      simp only [bC] at r
      obtain ⟨p, xs, rfl, g1, l1⟩ := r
      simp only [DatL] at l1
      obtain ⟨x1, r1, rfl, h1, x2, r2, rfl, h2, rfl⟩ := l1
      exact ⟨p, _, rfl, bH.seqT S.env.sub g1, rfl, x1, _, rfl, x2, _, rfl, rfl, q _ F H ((S.set i h1).set j h2)⟩
  | _ => exact q.elim) q
theorem dF3 {x y : Str} {px py pt : Pos} {i j k : Nat} (hc : X.calm = true) (hN : X.N.Nodup) (hi : X.N[i]? = some x) (hx : Loc X.env.scope x) (hj : X.N[j]? = some y) (hy : Loc X.env.scope y)
 (hf : X.fn x = true \/ X.env.scope.names.lookup x = some .local) (hf' : X.fn y = true \/ X.env.scope.names.lookup y = some .local)
 (h1 : (assignEach [.Name x px, .Name y py] X.env).length = 2) (h2 : (assignEach [.Name x px, .Name y py] X.env).findIdx? (·.1) = none)
 (h3 : (assignEach [.Name x px, .Name y py] X.env).map (·.2) = assign (.Name x px) X.env :: (assignEach [.Name y py] X.env).map (·.2))
 (h4 : (assignEach [.Name y py] X.env).map (·.2) = assign (.Name y py) X.env :: (assignEach [] X.env).map (·.2))
 (hs : swapsWithSole [.Tuple [.Name x px, .Name y py] k pt] e pos.line X.env = pure false) (hw : swappedStores [.Tuple [.Name x px, .Name y py] k pt] e X.env = pure none)
 (h5 : (assignEach [.Tuple [.Name x px, .Name y py] k pt] X.env).map (·.2) = [assign (.Tuple [.Name x px, .Name y py] k pt) X.env]) {t : TE} (he : PE X e t) :
 PS X (.Assign [.Tuple [.Name x px, .Name y py] k pt] e pos) (wE t (sJ X.K 2 (lW (kG i) (lW (kG j) sI)))) :=
 bO7 he (bD9 hc (nC (fY hN hi hx hf) (nC (fY hN hj hy hf') bD8 h4) h3) h1 h2) hs hw h5
theorem dF4 {x y : Str} {px py pt : Pos} {i j k : Nat} (hc : X.calm = true) (hN : X.N.Nodup) (hi : X.N[i]? = some x) (hx : Loc X.env.scope x) (hj : X.N[j]? = some y) (hy : Loc X.env.scope y)
 (hf : X.fn x = true \/ X.env.scope.names.lookup x = some .local) (hf' : X.fn y = true \/ X.env.scope.names.lookup y = some .local)
 (hs : swapsWithSole [.Tuple [.Name x px, .Name y py] k pt] e pos.line X.env = pure false) (hw : swappedStores [.Tuple [.Name x px, .Name y py] k pt] e X.env = pure none) (he : IE X e f) :
 IS X (.Assign [.Tuple [.Name x px, .Name y py] k pt] e pos) (kK i j f) :=
 dF2 (fun t ht => dF3 hc hN hi hx hj hy hf hf' rfl rfl rfl rfl hs hw rfl ht) he
noncomputable def dO (neg : Bool) : D -> D -> bD D
 | .non, .non => .ok (.bl (!neg))
 | _, .non => .ok (.bl neg)
 | _, _ => .bad
theorem bW1 {K : W.Frag} {F : Hp} {d : D} {v : V} (h : bC K F d v) {neg : Bool} : dO neg d .non = .ok (.bl (neg != decide (v = .non))) := by
 cases d <;> simp only [bC] at h
 ·subst h; cases neg <;> rfl
 ·subst h; cases neg <;> rfl
 ·subst h; cases neg <;> rfl
 ·obtain ⟨rfl, _⟩ := h; cases neg <;> rfl
 ·obtain ⟨a, xs, rfl, _⟩ := h; cases neg <;> rfl
 ·obtain ⟨a, xs, rfl, _⟩ := h; cases neg <;> rfl
theorem dF5 : cT X (compareOp .Is) (rD X (dO false)) := by
 intro pins s σ H x y v u Q I rx ry h
 obtain ⟨F, d1, d2, sb, h1, h2, q⟩ := h
 cases d2 <;> try (cases d1 <;> exact q.elim)
 simp only [bC] at h2; subst h2
 rw [bW1 h1] at q
 refine cN5 pins s σ H _ _ v u Q I rx ry ⟨rfl, ?_⟩
 have := cK q sb (b := V.bl (false != decide (x = .non))) (by simp only [bC])
 simpa using this
theorem dF6 : cT X (compareOp .IsNot) (rD X (dO true)) := by
 intro pins s σ H x y v u Q I rx ry h
 obtain ⟨F, d1, d2, sb, h1, h2, q⟩ := h
 cases d2 <;> try (cases d1 <;> exact q.elim)
 simp only [bC] at h2; subst h2
 rw [bW1 h1] at q
 refine cN6 pins s σ H _ _ v u Q I rx ry ⟨rfl, ?_⟩
 have := cK q sb (b := V.bl (true != decide (x = .non))) (by simp only [bC])
 simpa using this
end
end R
end
section
namespace R
open PySem PySem.Spec PyProof.Rows L2
variable [bN] [Pd]
section
variable {X : Cx} {e : Expr} {es : List Expr} {pos p : Pos} {x : Str}
open Classical in
end
end R
end
section
namespace R
open PySem PySem.Spec PyProof.Rows L2
variable [bN] [Pd]
structure dZ9 (x y : Str) (scope : Scope) : Prop where
 kind : scope.kind = .function
 co : scope.isCoroutine = false
 gen : scope.isGenerator = false
 nocell : ∀ z ∈ scope.names, z.2 ≠ .cell
 loc : scope.names.lookup x = some .local
 fr : scope.names.lookup y = some .free
 one : ∀ z, scope.names.lookup z = some .free -> z = y
end R
end
section
namespace R
open PySem PySem.Spec PyProof.Rows L2
variable [bN] [Pd]
section
variable {X : Cx} {pins : List (Addr × Obj)} {σ : St} {H : Hp} {s : Shared}
end
end R
end
section
namespace R
open PySem PySem.Spec PyProof.Rows L2
variable [bN] [Pd]
section
variable {X : Cx} {pins : List (Addr × Obj)} {σ : St} {H H0 : Hp} {s s0 : Shared}
end
section
variable {X : Cx}
end
end R
end
section
namespace R
open PySem PySem.Spec PyProof.Rows L2
instance (priority := low) pd0 : Pd := ⟨0⟩
variable [bN] [Pd]
noncomputable def kL (b : Addr) : Bool := bN.L.any fun t => t.1 == b
theorem dF7 {t : Addr × Pos × Str} (h : t ∈ bN.L) : kL t.1 = true := List.any_eq_true.mpr ⟨t, h, beq_self_eq_true _⟩
theorem dF8 {b : Addr} (h : kL b = true) : ∃ t ∈ bN.L, t.1 = b := by
 obtain ⟨t, h1, h2⟩ := List.any_eq_true.mp h
 exact ⟨t, h1, eq_of_beq h2⟩
theorem dF9 {P : Program} {w : World} {K : W.Frag} {mg mb : Str -> Option Value} {k : Nat} {fa a : Addr} {fd : FuncData} {x : Str} {s₁ : Shared} {vs : List Value} {ns : List Int}
 (KX : K.In s₁.heap) (hns : s₁.heap.Ns mainGlobals mg) (hb : s₁.heap.Ns builtinsNs mb) (hbb : ∀ x : Str, x ≠ "__name__" -> mb x = bootBuiltins x) (hlim : s₁.heap.NoLimit) (hg : s₁.gens = #[])
 (hT : ∀ t ∈ bN.L, (∃ c, s₁.heap.TableAt c t.1 #[]) /\ K.lookup t.1 = none)
 (ha : s₁.heap.get? a = some { cls := .type "list", data := .seq vs.toArray }) (hi : IntsAre vs ns) (hl : ns.length <= 63) (hr : dZ k callerA)
 (F : ∀ base : Heap, K.In base -> base.Ns mainGlobals mg -> bS P w K mg base bT k fa fd [x] (zO K)) (hbind : ∀ (s : Shared) (u : Value), BindsTo s fd ⟨[u], []⟩ [(x, u)]) :
 codeAny (model P w) callerA (.call (.ref fa) ⟨[.ref a], []⟩) (fun r s' => r = .ok (.ret (.bool true)) /\ OldK s₁.heap s'.heap /\ s'.os = s₁.os /\ AllBare s'.gens) s₁ := by
 have rv := bR0 hi
 have lenV := hi.length
 have hl' : ns.length <= sizeLine := Nat.le_of_lt (cS9 bE)
 have tab : ∀ b, kL b = true -> s₁.heap.get? b = some (W.tabObj #[]) /\ K.lookup b = none /\ ∃ c, s₁.heap.TableAt c b #[] := fun b h => by
  obtain ⟨t, h1, rfl⟩ := dF8 h
  obtain ⟨⟨c, h2⟩, h3⟩ := hT t h1
  exact ⟨h2.2, h3, c, h2⟩
 have core : ∀ F₀ : Hp, (∀ b, F₀ b = none \/ (b = a /\ K.lookup a = none /\ F₀ b = some (.frz { cls := .type "list", data := .seq vs.toArray } (.lst (ns.map V.int))))) -> dN K F₀ a (ns.map V.int) ->
  codeAny (model P w) callerA (.call (.ref fa) ⟨[.ref a], []⟩) (fun r s' => r = .ok (.ret (.bool true)) /\ OldK s₁.heap s'.heap /\ s'.os = s₁.os /\ AllBare s'.gens) s₁ := by
  intro F₀ hF hS
  have naT : kL a = false := by
   cases z : kL a with
   | false => rfl
   | true => have := (tab a z).1; rw [ha] at this; cases this
  let H : Hp := fun b => if kL b = true then some (.tbl #[]) else F₀ b
  have HT : ∀ b, kL b = true -> H b = some (.tbl #[]) := fun b h => if_pos h
  have HF : ∀ b, kL b = false -> H b = F₀ b := fun b h => if_neg (by rw [h]; exact Bool.false_ne_true)
  have hsub : bH F₀ H := fun b u e => by
   rcases hF b with z | ⟨z, _, z2⟩
   ·rw [z] at e; cases e
   ·subst z; rw [HF _ naT]; exact e
  have hcase : ∀ b u, H b = some u -> (kL b = true /\ u = .tbl #[]) \/ (b = a /\ K.lookup a = none /\ kL b = false /\ u = .frz { cls := .type "list", data := .seq vs.toArray } (.lst (ns.map V.int))) := fun b u e => by
   cases z : kL b with
   | true => rw [HT b z] at e; cases e; exact .inl ⟨rfl, rfl⟩
   | false =>
    rw [HF b z] at e
    rcases hF b with y | ⟨y1, y2, y3⟩
    ·rw [y] at e; cases e
    ·rw [y3] at e; cases e; exact .inr ⟨y1, y2, rfl, rfl⟩
  have hok : fE P w H s₁.heap := fun b u e => by
   rcases hcase b u e with ⟨z, rfl⟩ | ⟨rfl, _, _, rfl⟩
   ·exact (tab b z).1
   ·exact ⟨ha, by rw [List.length_map]; exact hl', vs, _, rv, ha⟩
  have tbf : kS F₀ H := by
   refine ⟨fun t ht => ⟨#[], HT _ (dF7 ht), trivial, .inl rfl⟩, fun b ps e => ?_⟩
   rcases hF b with z | ⟨_, _, z⟩
   ·rw [z] at e; cases e
   ·rw [z] at e; cases e
  have base_of : ∀ {b : Addr} {o : Obj}, s₁.heap.get? b = some o -> H b = none -> (nB s₁.heap H).get? b = some o := fun e n => cH3 e n
  have noA : ∀ {b : Addr} {o : Obj} {es : Array DictEntry} {ep : Nat}, s₁.heap.get? b = some o -> o.data = .dict es ep -> H b = none := fun {b o es ep} e d => by
   cases q : H b with
   | none => rfl
   | some u =>
    rcases hcase b u q with ⟨z, _⟩ | ⟨z, _, _, _⟩
    ·rw [(tab b z).1] at e; cases e; cases d
    ·subst z; rw [ha] at e; cases e; cases d
  have nsK : ∀ {b : Addr} {m : Str -> Option Value}, s₁.heap.Ns b m -> (nB s₁.heap H).Ns b m := fun {b m} ⟨o, es, ep, e, d, r⟩ => ⟨o, es, ep, base_of e (noA e d), d, r⟩
  have hKb : K.In (nB s₁.heap H) := fun b o e => base_of (KX b o e) (by
   cases q : H b with
   | none => rfl
   | some u =>
    rcases hcase b u q with ⟨z, _⟩ | ⟨z, z2, _, _⟩
    ·rw [(tab b z).2.1] at e; cases e
    ·subst z; rw [z2] at e; cases e)
  have hM : Mod K mg (nB s₁.heap H) := ⟨hKb, nsK hns, ⟨mb, nsK hb, hbb⟩, let ⟨mc, h1, h2⟩ := hlim; ⟨mc, nsK h1, h2⟩⟩
  have e0 : yP P w K mg (nB s₁.heap H) callerA [] s₁ H := ⟨rfl, hM, fun b o e => cH4 e, Nat.le_of_eq (cH2 _ _), trivial, fun b hb => absurd (show b ∈ ([] : List Addr) from hb) (by simp), hok, .of_eq hg⟩
  refine codeAny_mono ((F _ hKb (nsK hns)).run callerA [] s₁ H ⟨[.ref a], []⟩ [.ref a] [.ref a] (fun v _ => v = .bl true) (fun _ _ _ => False) hr e0 (hbind s₁ (.ref a)) (.cons rfl .nil) ⟨a, ns, F₀, rfl, tbf, hsub, hS, hl, fun _ => rfl⟩) fun r s' h => ?_
  cases r with
  | error e => exact (show False from h).elim
  | ok fl =>
   cases fl with
   | next => exact False.elim h
   | brk => exact False.elim h
   | cont => exact False.elim h
   | ret u =>
    obtain ⟨v, H', os, bare, un, hok', r', q⟩ := h
    have q' : v = .bl true := q
    subst q'
    obtain rfl : u = Value.bool true := r'
    have nofr : ∀ b : Addr, b ∉ kQ [] := fun b z => absurd (show b ∈ ([] : List Addr) from z) (by simp)
    have tabN : ∀ b, kL b = true -> ∃ more, s'.heap.get? b = some (W.tabObj (#[] ++ more)) := fun b z => by
     obtain ⟨more, e⟩ := un.tbls b _ (HT b z)
     exact ⟨more, hok' b _ e⟩
    have scr : ∀ b o, s₁.heap.get? b = some o -> kL b = false -> s'.heap.get? b = some o := fun b o e z => by
     cases q : H b with
     | none => exact un.keep b o e q (nofr b) (by simp)
     | some u =>
      rcases hcase b u q with ⟨z2, _⟩ | ⟨_, _, _, rfl⟩
      ·rw [z] at z2; cases z2
      ·obtain ⟨e1, _⟩ := hok b _ q
       obtain ⟨e2, _⟩ := hok' b _ (un.frzs b _ _ q)
       rw [e] at e1; cases e1
       exact e2
    refine ⟨rfl, ⟨fun b o e => ?_, fun b o e => ?_⟩, os, bare⟩
    ·cases z : kL b with
     | false => exact .inl (scr b o e z)
     | true =>
      obtain ⟨more, e2⟩ := tabN b z
      have e1 := (tab b z).1
      rw [e] at e1
      cases e1
      obtain ⟨c, tc⟩ := (tab b z).2.2
      exact .inr (.inl ⟨tc.isCodeTable, rfl, #[], more, rfl, e2⟩)
    ·cases z : kL b with
     | false => exact ⟨o, scr b o e z⟩
     | true => obtain ⟨more, e2⟩ := tabN b z; exact ⟨_, e2⟩
 cases hk : K.lookup a with
 | some o =>
  have e := KX a o hk
  rw [ha] at e
  cases e
  exact core (fun _ => none) (fun _ => .inl rfl) (.inr ⟨_, vs.toArray, _, hk, rfl, rfl, rfl, by rw [List.size_toArray, lenV]; exact hl', by simpa using rv⟩)
 | none =>
  refine core (fun b => if b = a then some (.frz { cls := .type "list", data := .seq vs.toArray } (.lst (ns.map V.int))) else none) (fun b => ?_) (.inl (.inr ⟨{ cls := .type "list", data := .seq vs.toArray }, if_pos rfl⟩))
  by_cases hb : b = a
  ·exact .inr ⟨hb, hk, if_pos hb⟩
  ·exact .inl (if_neg hb)
end R
namespace R
open PySem PySem.Spec PyProof.Rows L2
end R
end
section
namespace R
open PySem PySem.Spec PyProof.Rows L2
noncomputable def nI (Ps : List Addr) (b : Addr) : Bool := Ps.any fun P => P == b
noncomputable def pM (K : W.Frag) (Ps : List Addr) (bm : Addr) (ob : Obj) : W.Frag := (bm, ob) :: K.filter fun p => !nI Ps p.1
theorem zQ {Ps : List Addr} {b : Addr} (hb : nI Ps b = false) : ∀ K : W.Frag, (K.filter fun p => !nI Ps p.1).lookup b = K.lookup b
 | [] => rfl
 | (a, o) :: r => by
  rw [List.filter_cons]
  by_cases z : b = a
  ·subst z
   simp only [hb, Bool.not_false, if_true, List.lookup_cons, beq_self_eq_true]
  ·have e : (b == a) = false := beq_eq_false_iff_ne.mpr z
   split
   ·rw [List.lookup_cons, List.lookup_cons, e, zQ hb r]
   ·rw [List.lookup_cons, e, zQ hb r]
theorem bH6 {Ps : List Addr} {b : Addr} (hb : nI Ps b = true) : ∀ K : W.Frag, (K.filter fun p => !nI Ps p.1).lookup b = none
 | [] => rfl
 | (a, o) :: r => by
  rw [List.filter_cons]
  split
  ·rename_i h
   have z : (b == a) = false := by
    refine beq_eq_false_iff_ne.mpr fun e => ?_
    subst e
    rw [hb] at h; cases h
   rw [List.lookup_cons, z]
   exact bH6 hb r
  ·exact bH6 hb r
section
variable {K : W.Frag} {Ps : List Addr} {bm : Addr} {ob : Obj} {h : Heap}
structure nJ (K : W.Frag) (Ps : List Addr) (bm : Addr) (ob : Obj) (h : Heap) : Prop where
 hk : K.In h
 hb : h.get? bm = some ob
 hp : ob.data = .plain
 ht : ∀ P ∈ Ps, h.get? P = some (W.tabObj #[])
theorem dG0 {b : Addr} (h : nI Ps b = true) : b ∈ Ps := by
 obtain ⟨P, h1, h2⟩ := List.any_eq_true.mp h
 rw [<- eq_of_beq h2]; exact h1
theorem nJ.isIn (U : nJ K Ps bm ob h) : (pM K Ps bm ob).In h := fun a o e => by
 unfold pM at e
 rw [List.lookup_cons] at e
 split at e
 ·rename_i z
  rw [eq_of_beq z, U.hb]; exact e
 ·cases q : nI Ps a with
  | true => rw [bH6 q] at e; cases e
  | false => rw [zQ q] at e; exact U.hk _ _ e
theorem nJ.up (U : nJ K Ps bm ob h) {b : Addr} {o : Obj} (e : K.lookup b = some o) (n : o.data ≠ .fields #[]) : (pM K Ps bm ob).lookup b = some o := by
 have hn : nI Ps b = false := by
  cases z : nI Ps b with
  | false => rfl
  | true => have e2 := U.hk _ _ e; rw [U.ht b (dG0 z)] at e2; cases e2; exact absurd rfl n
 unfold pM
 rw [List.lookup_cons]
 split
 ·rename_i z
  have hbb : b = bm := eq_of_beq z
  subst hbb
  rw [<- U.hb, U.hk _ _ e]
 ·rw [zQ hn]; exact e
theorem nJ.code (U : nJ K Ps bm ob h) {cd : Value} {q : Str} (e : W.codeIn K cd q = true) : W.codeIn (pM K Ps bm ob) cd q = true := by
 unfold W.codeIn at e ⊢
 split at e
 ·rename_i c
  split at e
  ·rename_i vs _ ho
   have hne : vs ≠ #[] := fun z => by subst z; cases e
   have e2 := U.up ho (fun z => hne (by injection z))
   simp only [e2]
   exact e
  ·cases e
 ·cases e
theorem nJ.fn (U : nJ K Ps bm ob h) {x qual : Str} {st : Stmt} {f : Addr} {fd : FuncData} (F : bL K x qual st f fd) : bL (pM K Ps bm ob) x qual st f fd := by
 obtain ⟨oc, od, kV, doc, pm, an, cdv, ct, osl, e1, e2, e3⟩ := F.ex
 have e4 := U.up e2 (fun z => by cases z)
 refine ⟨⟨oc, od, kV, doc, pm, an, cdv, ct, osl, e1, e4, U.code e3⟩, ?_⟩
 unfold W.keepIn
 simp only [e4]
end
theorem walk_ofU {l : W.OpenLaw} {k : Nat} {q : Program} {loose : List Str} {XP : (Str -> Option Value) -> Heap -> Prop} {YP : World -> Heap -> Prop} {d : DefRec} {K : Params -> W.Frag} {x : Str} {ts : List Addr}
 (hn : l.most = some 63) (hdf : d.params.defaults = []) (hr : dZ k callerA) (hY : ∀ (w : World) (h : Heap), YP w h -> (K w.params).In h) (hZ : ∀ (w : World) (h : Heap), YP w h -> ∀ P ∈ ts, h.get? P = some (W.tabObj #[]))
 (F : ∀ (w : World) (mg : Str -> Option Value) (fa : Addr) (h : Heap), (K w.params).In h -> h.Ns mainGlobals mg -> mg d.name = some (.ref fa) -> (∀ P ∈ ts, h.get? P = some (W.tabObj #[])) ->
   (∃ bm ob, mg "__builtins__" = some (.ref bm) /\ bm ≠ builtinsNs /\ h.get? bm = some ob /\ ob.cls = .type "module" /\ ob.dict = some builtinsNs /\ ob.data = .plain) ->
   ∃ (T : bN) (K' : W.Frag) (fd : FuncData), K'.In h /\ (∀ t ∈ T.L, (∃ c, h.TableAt c t.1 #[]) /\ K'.lookup t.1 = none) /\ (∀ (s : Shared) (u : Value), BindsTo s fd ⟨[u], []⟩ [(x, u)]) /\
     ∀ base : Heap, K'.In base -> base.Ns mainGlobals mg -> bS l.prog w K' mg base bT k fa fd [x] (zO K')) :
 W.WalkO q loose XP YP l.row.toRowW d [] (fun f vs => PySem.call f vs) := by
 refine Att.attach_call hn hdf fun w s₀ s₁ mg mb fa o pm cd doc a vs ns G Y ho hd hcd hmg hobj hints hlen hg => ?_
 obtain ⟨T, K', fd, h1, h2, h3, h4⟩ := F w mg fa _ (hY w _ Y) G.T.g hmg (hZ w _ Y) G.T.bmain
 exact dF9 h1 G.T.g G.T.b G.T.builtins G.T.nolimit hg h2 hobj hints hlen hr h4 h3
end R
end
section
namespace R
open PySem PySem.Spec PyProof.Rows L2
variable [bN] [Pd]
section
variable {w : World} {K : W.Frag} {P : Program}
end
section
variable {X : Cx} {a b : Expr} {f : ME} {x : Str} {pos p : Pos} {tbl : List (Str × D)}
end
end R
end
section
namespace R
open PySem PySem.Spec PyProof.Rows L2
variable [bN] [Pd]
section
variable {X : Cx} {e1 e2 : Expr} {f1 f2 : ME} {xr xn : Str} {pos p pn : Pos}
end
end R
end
section
namespace R
open PySem PySem.Spec PyProof.Rows L2
def bH7 (tp : Bool) (h : Heap) (it l : Addr) (k : Nat) : Prop := match tp with
 | true => h.IsTupleIter it l k
 | false => h.IsListIter it l k
def bH8 (tp : Bool) (h : Heap) (l : Addr) (ys : Array Value) : Prop := match tp with
 | true => h.IsTuple l ys
 | false => h.IsList l ys
section
variable {prog : Program} {w : World} {A : Around} {E : Value -> Shared -> Prop} {s : Shared}
theorem bH7.at_ {tp : Bool} {h h' : Heap} {it l : Addr} {k : Nat} (x : bH7 tp h it l k) (f : ∀ o, h.get? it = some o -> h'.get? it = some o) : bH7 tp h' it l k := by
 cases tp
 ·exact Heap.IsListIter.at x f
 ·exact Heap.IsTupleIter.at x f
theorem bH8.at_ {tp : Bool} {h h' : Heap} {l : Addr} {ys : Array Value} (x : bH8 tp h l ys) (f : ∀ o, h.get? l = some o -> h'.get? l = some o) : bH8 tp h' l ys := by
 cases tp
 ·exact Heap.IsList.at x f
 ·exact Heap.IsTuple.at x f
end
end R
end
section
namespace R
open PySem PySem.Spec PyProof.Rows L2
section
variable {prog : Program} {w : World} {A : Around} {E : Value -> Shared -> Prop} {s : Shared} {t1 t2 : Bool}
end
end R
end
section
namespace R
open PySem PySem.Spec PyProof.Rows L2
section
variable {prog : Program} {w : World} {A : Around} {E : Value -> Shared -> Prop} {s : Shared} {t1 t2 : Bool}
end
end R
end
section
namespace R
open PySem PySem.Spec PyProof.Rows L2
section
variable {X : Cx} {pins : List (Addr × Obj)} {σ : St} {H : Hp} {s : Shared} {h' : Heap} {tp : Bool}
theorem bW2 {t' : Nat} {ch : List Addr} (I : Inv X pins σ H s) (hf : ∀ b ∈ ch, jS X pins H b) (k : ∀ b o, b ∉ ch -> s.heap.get? b = some o -> h'.get? b = some o) : Inv X pins σ H { s with heap := h', toks := t' } := by
 have nit : ∀ b u, H b = some u -> b ∉ ch := fun b u e z => by have := (hf b z).1; rw [e] at this; cases this
 refine I.step (g' := s.gens) (d' := s.drawn) (ch := ch) (fun b hb => ?_) (fun b o _ _ hc e _ => k b o hc e) (fun b o _ _ hc e _ => ⟨o.slots, k b o hc e⟩) (fun _ _ _ _ n => n) (fun b o hc e => ⟨o, k b o hc e⟩) (fun _ _ e => e) (fun _ _ _ e => e) (fun b ps e => ⟨#[], by rw [e]; simp⟩) (fun m hm => ?_) (fun b u e => ?_) I.bare
 ·obtain ⟨_, f1, _, f3, f4, f5⟩ := hf b hb; exact ⟨f3, f1, f4, f5⟩
 ·obtain ⟨o, es, ep, ho, r⟩ := hm
  exact ⟨o, es, ep, k _ o (fun z => (hf _ z).2.1 rfl) ho, r⟩
 ·refine (I.hok b u e).stay (fun c v hc q => k c v ?_ q) (fun _ q => q) fun _ _ q => q
  rcases hc with z | z
  ·rw [z]; exact nit b u e
  ·exact nit c _ z
theorem dG1 {t' : Nat} {ch : List Addr} {x y : V} {u v : Value} (I : Inv X pins σ H s) (hf : ∀ b ∈ ch, jS X pins H b) (k : ∀ b o, b ∉ ch -> s.heap.get? b = some o -> h'.get? b = some o) (rx : bW x u) (ry : bW y v) (hp : IsPair h' s.heap.objs.size u v) :
 Inv X pins σ (upd H s.heap.objs.size (.tup [x, y])) { s with heap := h', toks := t' } := by
 have hfr : H s.heap.objs.size = none := I.hok.fresh (Nat.le_refl _)
 have nit : ∀ b u, H b = some u -> b ∉ ch := fun b u e z => by have := (hf b z).1; rw [e] at this; cases this
 have sm : bH H (upd H s.heap.objs.size (.tup [x, y])) := fun b o e => by rw [bZ (fun z => by rw [z, hfr] at e; cases e)]; exact e
 refine I.step (g' := s.gens) (d' := s.drawn) (ch := ch) (fun b hb => ?_) (fun b o _ _ hc e _ => k b o hc e) (fun b o _ _ hc e _ => ⟨o.slots, k b o hc e⟩) (fun b o _ e n => ?_) (fun b o hc e => ⟨o, k b o hc e⟩) (fun _ _ e => sm _ _ e) (fun _ _ _ e => sm _ _ e) (fun b ps e => ⟨#[], by rw [sm _ _ e]; simp⟩) (fun m hm => ?_) (fun b u e => ?_) I.bare
 ·obtain ⟨_, f1, _, f3, f4, f5⟩ := hf b hb; exact ⟨f3, f1, f4, f5⟩
 ·rw [bZ (Nat.ne_of_lt (Heap.lt_size e))]; exact n
 ·obtain ⟨o, es, ep, ho, r⟩ := hm
  exact ⟨o, es, ep, k _ o (fun z => (hf _ z).2.1 rfl) ho, r⟩
 ·by_cases z : b = s.heap.objs.size
  ·subst z
   rw [dY] at e; cases e
   exact ⟨by show 2 <= sizeLine; decide, _, .cons rx (.cons ry .nil), _, hp, ⟨rfl, rfl⟩, _, rfl⟩
  ·rw [bZ z] at e
   refine (I.hok b u e).stay (fun c v hc q => k c v ?_ q) (fun _ q => sm _ _ q) fun _ _ q => sm _ _ q
   rcases hc with z | z
   ·rw [z]; exact nit b u e
   ·exact nit c _ z
end
end R
end
section
namespace R
open PySem PySem.Spec PyProof.Rows L2
variable [bN] [Pd]
noncomputable def pairD (ds es : List D) : List D := List.zipWith (fun d e => D.tup [d, e]) ds es
section
variable {X : Cx} {a b : Expr} {f g : ME} {elts : List Expr} {k : Nat} {pt p pos : Pos}
end
noncomputable def dR (i j : Nat) (body : MS) : List D -> MS
 | [], ρ => .ok (.nx ρ)
 | d :: ds, ρ => match d with
  | .tup [x, y] => (body ((ρ.set i (.val x)).set j (.val y))).bind fun fl => match fl with
   | .nx ρ' => dR i j body ds ρ'
   | .ct ρ' => dR i j body ds ρ'
   | .bk ρ' => .ok (.nx ρ')
   | .rt d => .ok (.rt d)
   | .rd d T => .ok (.rd d T)
   | .rn T => .ok (.rn T)
  | _ => .bad
noncomputable def kM (i j : Nat) (fl : ML) (body : MS) : MS := fun ρ => (fl ρ).bind fun ds => dR i j body ds ρ
section
variable {X : Cx} {tg iter : Expr} {body : List Stmt} {u : MS} {i j : Nat} {pos : Pos}
theorem dG2 {F₀ H₀ : Hp} {E : lM} {bd : MS} {x y : D} {ds : List D} {ρ : bJ} (q : fC X F₀ H₀ (dR i j bd (.tup [x, y] :: ds) ρ) E) {N : St -> Hp -> Prop} (hN : ∀ ρ' σ F H, SR X.K F₀ H₀ F H ρ' σ -> fC X F₀ H₀ (dR i j bd ds ρ') E -> N σ H) :
 fC X F₀ H₀ (bd ((ρ.set i (.val x)).set j (.val y))) { E with nx := N, ct := N, bk := E.nx } := by
 unfold dR at q
 revert q
 show fC X F₀ H₀ ((bd ((ρ.set i (.val x)).set j (.val y))).bind _) E -> _
 cases bd ((ρ.set i (.val x)).set j (.val y)) with
 | ok fl =>
  intro q
  cases fl with
  | nx ρ' => exact fun σ F H S => hN ρ' σ F H S q
  | ct ρ' => exact fun σ F H S => hN ρ' σ F H S q
  | bk ρ' => exact q
  | rt d => exact q
  | rd _ _ => exact q
  | rn _ => exact q
 | ex _ => exact fun q => q
 | bad => exact fun q => q
theorem dG3 {F₀ H₀ : Hp} {E : lM} {bd : MS} {d : D} {ds : List D} {ρ : bJ} (q : fC X F₀ H₀ (dR i j bd (d :: ds) ρ) E) : ∃ x y, d = .tup [x, y] := by
 unfold dR at q
 split at q
 ·exact ⟨_, _, rfl⟩
 ·exact q.elim
theorem xA {fl : ML} (hc : X.calm = true) (hp : PassesOwn (model X.prog X.w) X.A X.env X.xe) (hi : II X tg iter fl) (hg : PG X tg (sJ X.K 2 (lW (kG i) (lW (kG j) sI)))) (hb : gB X body u) (hs : ∀ x, foldedSetIterable iter X.env x = pure x) :
 IS X (.For tg iter body [] pos) (kM i j fl u) := fun F₀ H₀ => gT (bP1 hp hc hi hg (bS9 (H₀ := H₀) hb) hs) fun E σ H ⟨ρ, F, S, q⟩ => by
 refine ⟨ρ, F, S.env, ?_⟩
 unfold kM at q
 revert q
 cases fl ρ with
 | ok ds =>
  intro q J F1 H1 g1 it
  have S1 := S.grow g1
  refine ⟨fun n m σ' H' => m = ds.length - n /\ n <= ds.length /\ ∃ ρ' F', SR X.K F1 H₀ F' H' ρ' σ' /\ fC X F1 H₀ (dR i j u (ds.drop n) ρ') E, ⟨_, rfl, Nat.zero_le _, ρ, F1, S1.here, fC.here S1.gr q⟩, ?_⟩
  rintro n m σ' H' ⟨rfl, hn, ρ', F', S', q'⟩
  obtain ⟨h1, h2⟩ := it n F' H' S'.gr.fs S'.env.sub
  by_cases hlt : n < ds.length
  ·have hd : ds[n]? = some ds[n] := List.getElem?_eq_getElem hlt
   obtain ⟨go, yl⟩ := h1 _ hd
   refine .inr ⟨go, fun σ H => ∃ ρ F', SR X.K F1 H₀ F' H ρ σ /\ fC X F1 H₀ (dR i j u (ds.drop (n + 1)) ρ) E, fun σ2 H2 h => ⟨ds.length - (n + 1), by omega, rfl, hlt, h⟩, fun x H2 y => ?_⟩
   obtain ⟨F2, g2, dx⟩ := yl x H2 y
   rw [List.drop_eq_getElem_cons hlt] at q'
   obtain ⟨x1, y1, exy⟩ := dG3 q'
   rw [exy] at q' dx
   simp only [bC] at dx
   obtain ⟨p, xs, rfl, sq, l1⟩ := dx
   simp only [DatL] at l1
   obtain ⟨v1, _, rfl, dv1, v2, _, rfl, dv2, rfl⟩ := l1
   exact ⟨p, _, rfl, bH.seqT g2.sub sq, rfl, v1, _, rfl, v2, _, rfl, rfl, F1, (ρ'.set i (.val x1)).set j (.val y1), F2, ((S'.grow g2).set i dv1).set j dv2, dG2 q' fun ρ3 σ3 F3 H3 S3 q3 => ⟨ρ3, F3, S3, q3⟩⟩
  ·have e : n = ds.length := by omega
   subst e
   rw [List.drop_eq_nil_of_le (Nat.le_refl _)] at q'
   exact .inl ⟨h2 rfl, q' σ' F' H' S'⟩
 | ex _ => exact fun q => q
 | bad => exact fun q => q
theorem tE {x y : Str} {px py pt : Pos} {k : Nat} (hc : X.calm = true) (hN : X.N.Nodup) (hi : X.N[i]? = some x) (hx : Loc X.env.scope x) (hj : X.N[j]? = some y) (hy : Loc X.env.scope y) (hf : X.fn x = true \/ X.env.scope.names.lookup x = some .local) (hf' : X.fn y = true \/ X.env.scope.names.lookup y = some .local) :
 PG X (.Tuple [.Name x px, .Name y py] k pt) (sJ X.K 2 (lW (kG i) (lW (kG j) sI))) :=
 bD9 hc (nC (fY hN hi hx hf) (nC (fY hN hj hy hf') bD8 rfl) rfl) rfl rfl
end
end R
end
section
namespace R
open PySem PySem.Spec PyProof.Rows L2
variable [bN] [Pd]
noncomputable def dJ {α : Type} (p : bJ -> bD α) : bJ -> bD α
 | .val (.tup [a, b]) :: r => p (.val a :: .val b :: r)
 | _ => .bad
noncomputable def sp2 : D -> Option (List D)
 | .tup [a, b] => some [a, b]
 | _ => none
theorem bW3 {d : D} {es : List D} (h : sp2 d = some es) : ∃ a b, d = .tup [a, b] /\ es = [a, b] := by
 unfold sp2 at h
 split at h
 ·cases h; exact ⟨_, _, rfl, rfl⟩
 ·cases h
section
variable {X : Cx} {x x2 : Str} {caps : List Str} {js : List Nat} {scope : Scope} {px px2 pt pos spos py : Pos} {kt : Nat} {elt iter : Expr} {ifs : List Expr} {p : MT} {g : ME} {fl : ML}
theorem dG4 (S : mE X scope [x, x2] caps js) (hc : X.calm = true) : sV X scope (.Tuple [.Name x px, .Name x2 px2] kt pt) [x, x2] caps sp2 (sJ X.K 2 (lW (kG 0) (lW (kG 1) sI))) (dJ p) (dJ g) p g where
 pg := fun _ _ _ _ _ =>
  have l1 := lookup_relabel_local (S.loc x List.mem_cons_self)
  have l2 := lookup_relabel_local (S.loc x2 (List.mem_cons_of_mem _ List.mem_cons_self))
  tE (i := 0) (j := 1) hc S.nd rfl (.inl l1) rfl (.inl l2) (.inr l1) (.inr l2)
 ok := fun {d es v F H as σr} e dv sm la => by
  obtain ⟨a, b, rfl, rfl⟩ := bW3 e
  simp only [bC] at dv
  obtain ⟨q, xs, rfl, sq, l⟩ := dv
  have l' := l
  simp only [DatL] at l
  obtain ⟨v1, _, rfl, dv1, v2, _, rfl, dv2, rfl⟩ := l
  match as, la with
  | [o, o2], _ => exact ⟨[v1, v2], rfl, l', q, _, rfl, bH.seqT sm sq, rfl, v1, _, rfl, v2, _, rfl, rfl, rfl, rfl⟩
 hp := fun {d r b} h => by
  unfold dJ at h
  split at h
  ·rename_i e; cases e; exact ⟨_, rfl⟩
  ·cases h
 eq := fun r e => by obtain ⟨a, b, rfl, rfl⟩ := bW3 e; exact ⟨rfl, rfl⟩
end
end R
end
section
namespace R
open PySem PySem.Spec PyProof.Rows L2
variable [bN] [Pd]
theorem fJ {ρ : bJ} {i j : Nat} {s t : Slot} (e : (ρ.set i s)[j]? = some t) : (i = j /\ t = s /\ i < ρ.length) \/ (i ≠ j /\ ρ[j]? = some t) := by
 by_cases q : i = j
 ·subst q
  by_cases hl : i < ρ.length
  ·rw [List.getElem?_set_self hl] at e; cases e; exact .inl ⟨rfl, rfl, hl⟩
  ·rw [List.getElem?_eq_none (by rw [List.length_set]; omega)] at e; cases e
 ·rw [List.getElem?_set_ne q] at e; exact .inr ⟨q, e⟩
section
variable {X : Cx} {e : Expr} {f : ME} {x : Str} {p lp ap cp pos : Pos} {i : Nat} {rest : List Stmt} {v : MS}
theorem dG5 {F₀ H₀ F H : Hp} {ρ : bJ} {σ : St} {l : Addr} {ds : List D} {xs : List V} (S : SR X.K F₀ H₀ F H ρ σ) (hl : H l = none) (dl : DatL X.K F ds xs) (i : Nat) : SR X.K F₀ H₀ F (upd H l (.lst xs)) (ρ.set i (.own ds)) (σ.set i (some (.ref l))) := by
 have g1 := bX.laidN S.env.sub hl (.lst xs)
 have E1 := S.env.grow g1
 have fl : F l = none := bH.free S.env.sub hl
 refine ⟨S.gr.trans g1, ⟨E1.tb, E1.sub, by rw [List.length_set, List.length_set]; exact E1.len, fun j t e => ?_, fun j k ds es a n e1 e2 e3 e4 => ?_⟩, fun j ds a e1 e2 => ?_, ?_⟩
 ·rcases fJ e with ⟨rfl, rfl, hl'⟩ | ⟨n, e⟩
  ·exact ⟨some (.ref l), List.getElem?_set_self (by rw [<- E1.len]; exact hl'), l, xs, rfl, dY, fl, dl⟩
  ·rw [List.getElem?_set_ne n]; exact E1.at_ j t e
 ·rcases fJ e1 with ⟨rfl, z1, hl1⟩ | ⟨n1, e1⟩
  ·rcases fJ e2 with ⟨rfl, _, _⟩ | ⟨n2, e2⟩
   ·exact n rfl
   ·rw [List.getElem?_set_self (by rw [<- E1.len]; exact hl1)] at e3
    cases e3
    rw [List.getElem?_set_ne n2] at e4
    obtain ⟨o, h1, a', xs, rfl, h2, _⟩ := S.env.at_ k _ e2
    rw [e4] at h1; cases h1
    rw [hl] at h2; cases h2
  ·rcases fJ e2 with ⟨rfl, _, hl2⟩ | ⟨n2, e2⟩
   ·rw [List.getElem?_set_self (by rw [<- E1.len]; exact hl2)] at e4
    cases e4
    rw [List.getElem?_set_ne n1] at e3
    obtain ⟨o, h1, a', xs, rfl, h2, _⟩ := S.env.at_ j _ e1
    rw [e3] at h1; cases h1
    rw [hl] at h2; cases h2
   ·rw [List.getElem?_set_ne n1] at e3
    rw [List.getElem?_set_ne n2] at e4
    exact E1.apart j k ds es a n e1 e2 e3 e4
 ·rcases fJ e1 with ⟨rfl, _, hl1⟩ | ⟨n1, e1⟩
  ·rw [List.getElem?_set_self (by rw [<- E1.len]; exact hl1)] at e2
   cases e2
   cases z : H₀ l with
   | none => rfl
   | some u => exact absurd hl (S.gr.more l (by rw [z]; simp))
  ·rw [List.getElem?_set_ne n1] at e2
   exact S.frh j ds a e1 e2
 ·exact S.dr.set i rfl _
theorem dG6 {F₀ H₀ F H : Hp} {ρ : bJ} {σ : St} {ds ds' : List D} {xs xs' : List V} {a : Addr} (S : SR X.K F₀ H₀ F H ρ σ) (hi : ρ[i]? = some (.own ds)) (h1 : σ[i]? = some (some (.ref a))) (ha : H a = some (.lst xs)) (fa : F a = none) (dl : DatL X.K F ds' xs') : SR X.K F₀ H₀ F (upd H a (.lst xs')) (ρ.set i (.own ds')) σ := by
 have h0 : H₀ a = none := S.frh i ds a hi h1
 refine ⟨⟨fun b o nt z => by rw [bZ (lA z h0)]; exact S.gr.same b o nt z, bR8 S.gr.more _ _, fun ti => ⟨(S.gr.tk ti).1.updL ha _, (S.gr.tk ti).2⟩, S.gr.fs, wM S.gr.sub fa _, S.gr.new⟩,
  ⟨⟨S.env.tb.1.updL ha _, S.env.tb.2⟩, wM S.env.sub fa _, by rw [List.length_set]; exact S.env.len, fun j t e => ?_, fun j k ds2 es a' n e1 e2 e3 e4 => ?_⟩, fun j ds2 a' e1 e2 => ?_, S.dr.setL i rfl⟩
 ·rcases fJ e with ⟨rfl, rfl, _⟩ | ⟨n, e⟩
  ·exact ⟨some (.ref a), h1, a, xs', rfl, dY, fa, dl⟩
  ·obtain ⟨o, z1, z2⟩ := S.env.at_ j t e
   refine ⟨o, z1, ?_⟩
   cases t with
   | no => trivial
   | val d' => exact z2
   | is v' c => exact z2
   | own es =>
    obtain ⟨a', ys, rfl, y1, y2, y3⟩ := z2
    have na : a' ≠ a := fun y => by
     subst y
     exact S.env.apart i j ds es a' n hi e h1 z1
    exact ⟨a', ys, rfl, by rw [bZ na]; exact y1, y2, y3⟩
   | dic p T =>
    obtain ⟨a', ys, rfl, y0, y1, y2, y3⟩ := z2
    exact ⟨a', ys, rfl, y0, by rw [bZ (kE y1 ha (fun z => nomatch z))]; exact y1, y2, y3⟩
   | tab T => exact z2
 ·have f1 : ∀ (j : Nat) es, (ρ.set i (.own ds'))[j]? = some (.own es) -> ∃ es', ρ[j]? = some (.own es') := fun j es z => by
   rcases fJ z with ⟨rfl, _, _⟩ | ⟨_, z⟩
   ·exact ⟨ds, hi⟩
   ·exact ⟨es, z⟩
  obtain ⟨_, f2⟩ := f1 j _ e1
  obtain ⟨_, f3⟩ := f1 k _ e2
  exact S.env.apart j k _ _ a' n f2 f3 e3 e4
 ·rcases fJ e1 with ⟨rfl, _, _⟩ | ⟨_, e1⟩
  ·exact S.frh i ds a' hi e2
  ·exact S.frh j ds2 a' e1 e2
noncomputable def qT (i : Nat) : MS := fun ρ => .ok (.nx (ρ.set i (.own [])))
theorem dG7 (hN : X.N.Nodup) (hi : X.N[i]? = some x) (hx : Loc X.env.scope x) (hf : X.fn x = true \/ X.env.scope.names.lookup x = some .local) : IS X (.Assign [.Name x p] (.List [] lp) pos) (qT i) := fun F₀ H₀ =>
 gT (pB (i := i) hN hi hx (bP4 lX) (zP rfl) hf) fun E σ H ⟨ρ, F, S, q⟩ => ⟨Nat.zero_le _, fun l hl => q _ F _ (dG5 S hl DatL.nil i)⟩
noncomputable def lG (i : Nat) (f : ME) : MS := fun ρ => (f ρ).bind fun d => match ρ[i]? with
 | some (.own ds) => if ds.length < sizeLine then .ok (.nx (ρ.set i (.own (ds ++ [d])))) else .bad
 | _ => .bad
theorem dG8 (hv : hX X.N X.env.scope i x) (hs : jY e = false) (hl : (ap.endLine == cp.line) = true) (hb : attributeBase (.Name x p) "append" X.env (eval (.Name x p) X.env) = eval (.Name x p) X.env) (he : IE X e f) :
 IS X (.Expr (.Call (.Attribute (.Name x p) "append" ap) [e] [] cp) pos) (lG i f) := fun F₀ H₀ =>
 gT (cK1 (cS2 PySem.F.plainAttrs_list PySem.F.slot_list_append PySem.F.type_list_append bQ9 (jC hv.n hv.v hv.d hv.c) (kR he lX (kW hs)) hb (by rw [bV5 (show jN [e] = true by simp [jN, hs])]; rfl) hl (kW hs) (qS rfl)) (zP rfl)) fun E σ H ⟨ρ, F, S, q⟩ => by
 unfold lG at q
 cases hf : f ρ with
 | ok d =>
  rw [hf] at q
  have q0 : fC X F₀ H₀ (match ρ[i]? with
   | some (.own ds) => if ds.length < sizeLine then .ok (.nx (ρ.set i (.own (ds ++ [d])))) else .bad
   | _ => .bad) E := q
  split at q0
  ·rename_i ds hi
   split at q0
   ·rename_i hz
    obtain ⟨o, h1, a, xs, rfl, h2, h3, h4⟩ := S.env.at_ i _ hi
    have q1 : ∀ σ F H, SR X.K F₀ H₀ F H (ρ.set i (.own (ds ++ [d]))) σ -> E.nx σ H := q0
    refine ⟨.ref a, h1, .inl ⟨rfl, xs, dN.of h2⟩, ρ, F, S.env, ?_⟩
    rw [hf]
    intro w F1 H1 g1 dw
    have ha : H1 a = some (.lst xs) := g1.same _ _ rfl h2
    have fa : F1 a = none := g1.new _ h3 (by rw [h2]; simp)
    have ln := h4.length
    refine ⟨a, xs, w, rfl, rfl, ha, by omega, ?_⟩
    exact q1 σ F1 _ (dG6 (S.grow g1) hi h1 ha fa (DatL.of (qO (h4.mono g1.fs).paired (.cons dw .nil))))
   ·exact q0.elim
  ·exact q0.elim
 | ex _ => rw [hf] at q; exact q.elim
 | bad => rw [hf] at q; exact q.elim
noncomputable def nK (i : Nat) : MS := fun ρ => match ρ[i]? with
 | some (.own ds) => .ok (.nx (ρ.set i (.val (.lst ds))))
 | _ => .bad
theorem zR (h : gB X rest v) : gB X rest (bB (nK i) v) := fun F₀ H₀ => bF7 (h F₀ H₀) fun E σ H ⟨ρ, F, S, q⟩ => by
 unfold bB nK at q
 split at q
 ·rename_i ds hi
  obtain ⟨o, h1, a, xs, rfl, h2, h3, h4⟩ := S.env.at_ i _ hi
  have h0 : H₀ a = none := S.frh i ds a hi h1
  have sF : bH F (upd F a (.lst xs)) := jD h3 _
  have hil : i < ρ.length := (List.getElem?_eq_some_iff.mp hi).1
  have sH : bH (upd F a (.lst xs)) H := fun b o e => by
   by_cases z : b = a
   ·subst z; rw [dY] at e; cases e; exact h2
   ·rw [bZ z] at e; exact S.env.sub b o e
  refine ⟨ρ.set i (.val (.lst ds)), upd F a (.lst xs), ⟨⟨S.gr.same, S.gr.more, fun t => ⟨(S.gr.tk t).1, (S.gr.tk t).2.upd a rfl⟩, S.gr.fs.trans sF, sH, fun b hb hn => ?_⟩, ⟨⟨S.env.tb.1, S.env.tb.2.upd a rfl⟩, sH, by rw [List.length_set]; exact S.env.len, fun j t e => ?_, fun j k ds' es a' n e1 e2 e3 e4 => ?_⟩, fun j ds' a' e1 e2 => ?_, S.dr.setL i rfl⟩, q⟩
  ·rw [bZ (fun z => hn (by rw [z]; exact h0))]; exact S.gr.new b hb hn
  ·rcases fJ e with ⟨rfl, rfl, _⟩ | ⟨n, e⟩
   ·refine ⟨some (.ref a), h1, .ref a, rfl, ?_⟩
    simp only [bC]
    exact ⟨a, xs, rfl, dN.of dY, h4.mono sF⟩
   ·obtain ⟨o, z1, z2⟩ := S.env.at_ j t e
    refine ⟨o, z1, ?_⟩
    cases t with
    | no => trivial
    | val d' => obtain ⟨v', y1, y2⟩ := z2; exact ⟨v', y1, y2.mono sF⟩
    | is v' c => exact ⟨z2.1, fun p hp => sF _ _ (z2.2 p hp)⟩
    | own es =>
     obtain ⟨a', ys, rfl, y1, y2, y3⟩ := z2
     have na : a' ≠ a := fun y => by
      subst y
      exact S.env.apart i j ds es a' n hi e h1 z1
     exact ⟨a', ys, rfl, y1, by rw [bZ na]; exact y2, y3.mono sF⟩
    | dic p T =>
     obtain ⟨a', ys, rfl, y0, y1, y2, y3⟩ := z2
     exact ⟨a', ys, rfl, y0, y1, by rw [bZ (kE y1 h2 (fun z => nomatch z))]; exact y2, y3.mono sF⟩
    | tab T =>
     obtain ⟨a', ys, rfl, y1, y3⟩ := z2
     exact ⟨a', ys, rfl, y1.mono sF, y3.mono sF⟩
  ·rcases fJ e1 with ⟨_, z, _⟩ | ⟨_, e1⟩
   ·cases z
   ·rcases fJ e2 with ⟨_, z, _⟩ | ⟨_, e2⟩
    ·cases z
    ·exact S.env.apart j k ds' es a' n e1 e2 e3 e4
  ·rcases fJ e1 with ⟨_, z, _⟩ | ⟨_, e1⟩
   ·cases z
   ·exact S.frh j ds' a' e1 e2
 ·exact q.elim
end
end R
end
section
namespace R
open PySem PySem.Spec PyProof.Rows L2
noncomputable def Ite (K : W.Frag) (a : Addr) : It :=
 ⟨fun i H => ∃ xs x, dN K H a xs /\ xs[i]? = some x,
  fun i H v H' => ∃ p x, H p = none /\ v = .ref p /\ H' = upd H p (.tup [.int (i : Int), x]) /\ ∀ xs, dN K H a xs -> xs[i]? = some x,
  fun i H => ∃ xs, dN K H a xs /\ xs.length <= i⟩
def dG9 (e it a : Addr) (i : Nat) (h : Heap) : Prop := (∃ old, IsEnum h e it (i : Int) old) /\ h.IsListIter it a i
theorem dH0 {P : Program} {w : World} {K : W.Frag} {elts : List Expr} {kk : Nat} {pos : Pos} {e it a : Addr} (V : e ≠ it) : nD P w K (.Tuple elts kk pos) (Ite K a) [e, it] e (dG9 e it a) where
 mem := by simp
 obj := fun i h st c hc => by
  obtain ⟨⟨old, h1⟩, o, h2, _, d⟩ := st
  have hc' : c = e \/ c = it := by simpa using hc
  rcases hc' with rfl | rfl
  ·exact ⟨_, h1, fun v q => by cases (show Data.fields _ = Data.cell v from q)⟩
  ·exact ⟨o, h2, fun v q => by rw [d] at q; cases q⟩
 keep := fun i h h' st k => ⟨let ⟨old, h1⟩ := st.1; ⟨old, k e (by simp) _ h1⟩, Heap.IsListIter.at st.2 fun o q => k it (by simp) o q⟩
 item := by
  intro X hP hw hK hc i pins s σ H E I hf st hg
  subst hP hw hK
  obtain ⟨xs, x, hq, hx⟩ := hg
  obtain ⟨its, rv, p, z⟩ := I.list hq
  obtain ⟨u, hu, ru⟩ := rv.get hx
  obtain ⟨⟨old, h1⟩, h2⟩ := st
  refine wpAny_pyNext_enum_item (items := its.toArray) (x := u) h1 h2 p.isList (by simpa using hu) V fun h' a1 a2 a3 a4 a5 => ?_
  have I1 := dG1 (t' := s.toks + 1) (h' := h') (ch := [e, it]) (x := .int (i : Int)) (y := x) (u := .int i s.toks) (v := u) I hf (fun c o hc q => a5 c o (fun z => hc (by simp [z])) (fun z => hc (by simp [z])) q) ⟨_, rfl⟩ ru a3
  have lt : ∀ c ∈ [e, it], c ≠ s.heap.objs.size := fun c hc => by
   have hc' : c = e \/ c = it := by simpa using hc
   rcases hc' with rfl | rfl
   ·exact Nat.ne_of_lt (Heap.lt_size h1)
   ·obtain ⟨o, q, _⟩ := h2; exact Nat.ne_of_lt (Heap.lt_size q)
  have f1 : ∀ c ∈ [e, it], jS X pins (upd H s.heap.objs.size (.tup [.int (i : Int), x])) c := fun c hc => ⟨by rw [bZ (lt c hc)]; exact (hf c hc).1, (hf c hc).2⟩
  refine ⟨_, rfl, wpAny_letOwnedTupleGo_enum (s := { s with heap := h', toks := s.toks + 1 }) a1 fun h'' b1 b2 => ?_⟩
  have I2 : Inv X pins σ (upd H s.heap.objs.size (.tup [.int (i : Int), x])) { s with heap := h'', toks := s.toks + 1 } := bW2 (s := { s with heap := h', toks := s.toks + 1 }) (t' := s.toks + 1) (ch := [e]) I1 (fun c hc => f1 c (by rw [List.mem_singleton.mp hc]; simp)) fun c o hc q => b2.extBut _ _ (fun z => hc (by simp [z])) q
  refine ⟨.ref s.heap.objs.size, _, I2, rfl, ⟨_, x, I.hok.fresh (Nat.le_refl _), rfl, rfl, fun xs' q => by rw [I.list_inj q hq]; exact hx⟩, ⟨⟨u, by simpa using b1⟩, Heap.IsListIter.at a2 fun o q => b2.extBut _ _ V.symm q⟩, fun c hc => (f1 c hc).1⟩
 done := by
  intro X hP hw hK hc i pins s σ H E I hf st hg
  subst hP hw hK
  obtain ⟨xs, hq, hx⟩ := hg
  obtain ⟨its, rv, p, z⟩ := I.list hq
  obtain ⟨⟨old, h1⟩, h2⟩ := st
  have l1 := rv.length
  exact wpAny_pyNext_enum_end (items := its.toArray) (I.ok.hd hc) h1 h2 p.isList (by simp; omega) fun h' k => ⟨rfl, bW2 (t' := s.toks) (ch := [it]) I (fun c hc => hf c (by rw [List.mem_singleton.mp hc]; simp)) fun c o hc q => k c o (fun z => hc (by simp [z])) q⟩
 self := fun _ _ _ _ _ st h => let ⟨_, h1⟩ := st.1; wpAny_pyIter_enum h1 h
variable [bN] [Pd]
noncomputable def tF (ds : List D) : List D := pairD (upTo 0 ds.length) ds
theorem dH1 {K : W.Frag} {F : Hp} {a : Addr} {xs : List V} {ds : List D} (h : dN K F a xs) (l : DatL K F ds xs) : kT K F (Ite K a) (tF ds) := fun n F2 H2 s1 s2 => by
 have q : dN K H2 a xs := bH.seq s2 (bH.seq s1 h)
 have e1 := l.length
 have hl : (upTo 0 ds.length).length = ds.length := by unfold upTo; rw [List.length_map, List.length_range]
 unfold tF pairD
 refine ⟨fun d hd => ?_, fun hn => ⟨xs, q, by rw [List.length_zipWith, hl] at hn; omega⟩⟩
 rw [List.getElem?_zipWith] at hd
 cases hd2 : ds[n]? with
 | none => rw [hd2] at hd; revert hd; cases (upTo 0 ds.length)[n]? <;> intro hd <;> cases hd
 | some d2 =>
  have hlt : n < ds.length := (List.getElem?_eq_some_iff.mp hd2).1
  have hu : (upTo 0 ds.length)[n]? = some (.int (n : Int)) := by unfold upTo; rw [List.getElem?_map, List.getElem?_range hlt]; simp
  rw [hd2, hu] at hd
  have hd' : D.tup [.int (n : Int), d2] = d := Option.some.inj hd
  subst hd'
  obtain ⟨x, hx, dx⟩ := jT l.paired hd2
  refine ⟨⟨xs, x, q, hx⟩, fun v H' yl => ?_⟩
  obtain ⟨p, x', hp, rfl, rfl, hh⟩ := yl
  have ex := hh xs q
  rw [hx] at ex; cases ex
  have fp := bH.free s2 hp
  refine ⟨upd F2 p (.tup [.int (n : Int), x]), bX.laid s2 hp _, ?_⟩
  simp only [bC]
  exact ⟨p, _, rfl, fB.of dY, DatL.cons (by simp only [bC]) (DatL.cons ((dx.mono s1).mono (jD fp _)) DatL.nil)⟩
noncomputable def dH2 : D -> bD (List D)
 | .lst ds => .ok (tF ds)
 | _ => .bad
noncomputable def xB (f : ME) : ML := fun ρ => (f ρ).bind dH2
section
variable {X : Cx} {a : Expr} {f : ME} {elts : List Expr} {k : Nat} {pt p pos : Pos}
theorem dH3 (hgl : X.env.scope.names.lookup ("enumerate" : Str) = some .globalImplicit) (hm : X.mg "enumerate" = none) (hs : jY a = false) (hf : IE X a f) : II X (.Tuple elts k pt) (.Call (.Name "enumerate" p) [a] [] pos) (xB f) := by
 intro pins s σ H R I ⟨ρ, F, E, q⟩
 have ha : IA X [a] (aC f bA) := bS1 hf wR (kW hs)
 unfold xB at q
 cases h1 : f ρ with
 | ok d =>
  rw [h1] at q
  cases d with
  | lst ds =>
   have q' : ∀ J F' H', bX F H F' H' -> kT X.K F' J (tF ds) -> R J H' := q
   have hA : zA X (aC f bA) σ H fun vs H1 => ∃ F1, bX F H F1 H1 /\ DatL X.K F1 [.lst ds] vs := by
    refine ⟨ρ, F, E, ?_⟩
    have e0 : aC f bA ρ = .ok [.lst ds] := by simp [aC, bA, h1, bD.bind]
    rw [e0]
    exact fun vs F1 H1 g1 dl => ⟨F1, g1, dl⟩
   refine Call_ (wC I hgl hm boot_enumerate (PyProof.Rows.callWith_type1 (cH (ha pos pins s σ H _ I hA) fun us s1 ⟨vs, H1, I1, r1, F1, g1, dl⟩ => ?_) (kW hs) (qS rfl)))
   obtain ⟨v, rfl, dv⟩ := pK dl
   simp only [bC] at dv
   obtain ⟨b, xs, rfl, hq, hl⟩ := dv
   cases r1 with
   | cons r1 rr =>
    cases rr
    cases r1
    obtain ⟨its, rv, p1, z1⟩ := I1.list (bH.seq g1.sub hq)
    refine call_enumerate_list p1.isList fun h' b1 b2 b3 b4 => ?_
    refine wpAny_pyIter_enum (s := { s1 with heap := h' }) b1 ?_
    refine ⟨s1.heap.objs.size + 1, [s1.heap.objs.size + 1, s1.heap.objs.size], _, _, H1, rfl, I1.kept (t' := s1.toks) b4, dH0 (a := b) (by show (_ : Nat) ≠ _; omega), ⟨⟨_, b1⟩, b2⟩, fun c hc => ?_, q' _ F1 H1 g1 (dH1 hq hl)⟩
    have hc' : s1.heap.objs.size <= c := by
     have hc2 : c = s1.heap.objs.size + 1 \/ c = s1.heap.objs.size := by simpa using hc
     rcases hc2 with rfl | rfl
     ·exact Nat.le_add_right _ _
     ·exact Nat.le_refl _
    exact I1.fpOk hc' (I1.hok.fresh hc')
  | _ => exact q.elim
 | ex _ => rw [h1] at q; exact q.elim
 | bad => rw [h1] at q; exact q.elim
noncomputable def xC : List D -> bD D
 | [.int i, .int j] => .ok (.int (if j < i then j else i))
 | _ => .bad
noncomputable def tG : List D -> bD D
 | [.int i, .int j] => .ok (.int (if j > i then j else i))
 | _ => .bad
theorem bW5 {K : W.Frag} {F : Hp} {i j : Int} {xs : List V} (h : DatL K F [.int i, .int j] xs) : xs = [.int i, .int j] := by
 simp only [DatL, bC] at h
 obtain ⟨_, _, rfl, rfl, _, _, rfl, rfl, rfl⟩ := h
 rfl
theorem dH4 (hc : X.calm = true) : fZ X (.builtin "min") (pI X xC) := by
 intro pins s σ H xs us Q I r h
 obtain ⟨F, ds, sb, hl, q⟩ := h
 unfold xC at q
 split at q
 ·cases bW5 hl
  exact cO4 hc pins s σ H _ us Q I r ⟨_, _, rfl, cK q sb (by simp only [bC])⟩
 ·exact q.elim
theorem dH5 (hc : X.calm = true) : fZ X (.builtin "max") (pI X tG) := by
 intro pins s σ H xs us Q I r h
 obtain ⟨F, ds, sb, hl, q⟩ := h
 unfold tG at q
 split at q
 ·cases bW5 hl
  exact cO3 hc pins s σ H _ us Q I r ⟨_, _, rfl, cK q sb (by simp only [bC])⟩
 ·exact q.elim
end
section
variable {X : Cx} {e : Expr} {f : ME} {x : Str} {p lp cp pos : Pos} {i : Nat}
end
end R
end
section
namespace R
open PySem PySem.Spec PyProof.Rows L2
section
variable {prog : Program} {w : World} {A : Around} {R : Result -> Shared -> Prop} {I : Addr} {fp wr : List Addr} {G : Array GenState -> Array GenState -> Prop} {n : Nat} {P : Nat -> Value -> Prop} {St : Nat -> Shared -> Prop}
end
section
variable {prog : Program} {w : World} {A : Around} {E : Value -> Shared -> Prop} {s : Shared}
end
end R
end
section
namespace R
open PySem PySem.Spec PyProof.Rows L2
variable [bN] [Pd]
section
variable {X : Cx} {e : Expr} {f : ME} {p1 p2 c1 c2 : Pos}
end
end R
end
section
namespace R
open PySem PySem.Spec PyProof.Rows L2
variable [bN] [Pd]
end R
end
section
namespace R
open PySem PySem.Spec PyProof.Rows L2
variable [bN] [Pd]
theorem dH6 {X : Cx} {x : Str} {p pos : Pos} {e : Expr} {f : ME} {i : Nat} (hN : X.N.Nodup) (hi : X.N[i]? = some x) (hx : Loc X.env.scope x) (hs : swapsWith e (some (.Name x p)) pos.line X.env = pure false) (hf : X.fn x = true \/ X.env.scope.names.lookup x = some .local) (he : IE X e f) : IS X (.Assign [.Name x p] e pos) (bI i f) :=
 bS8 (fun t h => pB (i := i) hN hi hx h hs hf) he
end R
end
section
namespace R
open PySem PySem.Spec PyProof.Rows L2
variable [bN] [Pd]
section
variable {X : Cx} {a b e : Expr} {es : List Expr} {f g : ME} {fa : MA} {pos p ap cp : Pos} {x : Str} {i : Nat} {ff : MF}
end
section
variable {X : Cx} {e : Expr} {f : ME} {pos p ap cp : Pos} {x : Str} {i : Nat}
end
end R
end
section
namespace R
open PySem PySem.Spec PyProof.Rows L2
variable [bN] [Pd]
noncomputable def dD (T : Tab) (k : Str) : Option D := (T.find? fun p => decide (p.1 = k)).map (·.2)
noncomputable def dG (T : Tab) (k : Str) (d : D) : Tab := if (T.any fun p => decide (p.1 = k)) = true then T.map (fun p => if p.1 = k then (p.1, d) else p) else T ++ [(k, d)]
section
variable {K : W.Frag} {F : Hp} {T : Tab} {kvs : List (bR × V)}
theorem dA.length (h : dA K F T kvs) : T.length = kvs.length := Paired.length h
theorem dA.any (h : dA K F T kvs) (k : Str) : (kvs.any fun kv => decide (kv.1 = .inr k)) = T.any fun p => decide (p.1 = k) := by
 unfold dA at h
 induction h with
 | nil => rfl
 | @cons p q ps qs h t ih =>
  rw [List.any_cons, List.any_cons, ih, h.1]
  congr 1
  by_cases e : p.1 = k <;> simp [e]
theorem bI0 {a b : Str} (e : ¬ a = b) : ¬ (Sum.inr a : bR) = .inr b := fun z => e (by injection z)
theorem dA.val (h : dA K F T kvs) (k : Str) : (dD T k = none /\ jJ kvs (.inr k) = none) \/ ∃ d v, dD T k = some d /\ jJ kvs (.inr k) = some v /\ bC K F d v := by
 unfold dA at h
 induction h with
 | nil => exact .inl ⟨rfl, rfl⟩
 | @cons p q ps qs h t ih =>
  obtain ⟨h1, h2⟩ := h
  by_cases e : p.1 = k
  ·exact .inr ⟨p.2, q.2, by simp [dD, List.find?_cons, e], yV (by rw [h1, e]), h2⟩
  ·rw [yW (by rw [h1]; exact bI0 e)]
   have e2 : dD (p :: ps) k = dD ps k := by simp [dD, List.find?_cons, e]
   rw [e2]; exact ih
theorem dA.put (h : dA K F T kvs) {k : Str} {d : D} {v : V} (hd : bC K F d v) : dA K F (dG T k d) (jK kvs (.inr k) v) := by
 unfold dG jK
 rw [h.any k]
 split
 ·rename_i z; clear z
  unfold dA at h ⊢
  induction h with
  | nil => exact .nil
  | @cons p q ps qs h t ih =>
   rw [List.map_cons, List.map_cons]
   refine .cons ?_ ih
   obtain ⟨h1, h2⟩ := h
   by_cases e : p.1 = k
   ·rw [if_pos e, if_pos (by rw [h1, e])]; exact ⟨h1, hd⟩
   ·rw [if_neg e, if_neg (by rw [h1]; exact bI0 e)]; exact ⟨h1, h2⟩
 ·exact qO h (.cons ⟨rfl, hd⟩ .nil)
end
noncomputable def ers (H : Hp) (a : Addr) : Hp := fun b => if b = a then none else H b
section
variable {F H F' H' : Hp} {a b : Addr} {kvs kvs' : List (bR × V)}
theorem lH (n : b ≠ a) : ers H a b = H b := if_neg n
theorem zS : ers H a a = none := if_pos rfl
theorem zT {u : HO} (e : ers H a b = some u) : b ≠ a := fun z => by rw [z, zS] at e; cases e
theorem pN {u : HO} (e : ers H a b = some u) : H b = some u := by rw [lH (zT e)] at e; exact e
theorem tH (h : ers H a b ≠ none) : b ≠ a /\ H b ≠ none := by
 have n : b ≠ a := fun z => h (by rw [z, zS])
 rw [lH n] at h
 exact ⟨n, h⟩
theorem lC.ers (h : lC H) (e : H a = some (.dK kvs)) : lC (ers H a) := fun t ht => by
 obtain ⟨ps, e1, o, q⟩ := h t ht
 refine ⟨ps, by rw [lH (kE e1 e (fun z => nomatch z))]; exact e1, o, ?_⟩
 rcases q with q | ⟨c', q1, q2⟩
 ·exact .inl q
 ·exact .inr ⟨c', q1, by rw [lH (kE q2 e (fun z => nomatch z))]; exact q2⟩
theorem dH7 (s : bH F H) : bX F (ers H a) F H where
 same := fun b u _ q => pN q
 more := fun b h => (tH h).2
 tk := fun t => ⟨t.1.same fun b u q => pN q, t.2⟩
 fs := bH.refl _
 sub := s
 new := fun b h _ => h
theorem bX.ers (g : bX F H F' H') (e : H a = some (.dK kvs)) (fa : F a = none) : bX F (ers H a) F' (R.ers H' a) where
 same := fun b u n q => by rw [lH (zT q)]; exact g.same b u n (pN q)
 more := fun b h => by rw [lH (tH h).1]; exact g.more b (tH h).2
 tk := fun t => let r := g.tk ⟨t.1.same fun b u q => pN q, t.2⟩; ⟨r.1.ers (g.same _ _ rfl e), r.2⟩
 fs := g.fs
 sub := fun b u q => by
  have fa' : F' a = none := g.new a fa (by rw [e]; simp)
  rw [lH (lA q fa')]; exact g.sub b u q
 new := fun b h n => g.new b h (tH n).2
theorem bW6 (s : bH F H) (fa : F a = none) (e : H a = some (.dK kvs)) : bX F (ers H a) F (upd H a (.dK kvs')) where
 same := fun b u _ q => by rw [bZ (zT q)]; exact pN q
 more := fun b h => by rw [bZ (tH h).1]; exact (tH h).2
 tk := fun t => ⟨t.1.same fun b u q => by rw [bZ (zT q)]; exact pN q, t.2⟩
 fs := bH.refl _
 sub := wM s fa _
 new := fun b h _ => h
end
section
variable {K : W.Frag} {F₀ H₀ F H F' H' : Hp} {ρ : bJ} {σ : St} {i : Nat} {p : Bool} {T T' : Tab} {a l : Addr} {kvs kvs' : List (bR × V)}
theorem xD (S : SR K F₀ H₀ F H ρ σ) (hi : ρ[i]? = some (.dic p T)) (h1 : σ[i]? = some (some (.ref a))) (g : bX F (ers H a) F' H') (ha : H' a = some (.dK kvs')) (fa : F' a = none) (dt : dA K F' T' kvs') : SR K F₀ H₀ F' H' (ρ.set i (.dic p T')) σ := by
 obtain ⟨o, z1, a', kvs, rfl, hp, hHa, hFa, _⟩ := S.env.at_ i _ hi
 rw [h1] at z1; cases z1
 have h0 : H₀ a = none := S.dr.1 i p T a hi h1
 have old : ∀ (j : Nat) q U, (ρ.set i (.dic p T'))[j]? = some (.dic q U) -> ∃ q' U', ρ[j]? = some (.dic q' U') := fun j q U z => by
  rcases fJ z with ⟨rfl, _, _⟩ | ⟨_, z⟩
  ·exact ⟨p, T, hi⟩
  ·exact ⟨q, U, z⟩
 have own : ∀ (j : Nat) es, (ρ.set i (.dic p T'))[j]? = some (.own es) -> ρ[j]? = some (.own es) := fun j es z => by
  rcases fJ z with ⟨rfl, z, _⟩ | ⟨_, z⟩
  ·cases z
  ·exact z
 have keep : ∀ (b : Addr) (u : HO), b ≠ a -> wL u = true -> H b = some u -> H' b = some u := fun b u n nt z => g.same b u nt (by rw [lH n]; exact z)
 have newF : ∀ (b : Addr) (u : HO), b ≠ a -> H b = some u -> F b = none -> F' b = none := fun b u n z f => g.new b f (by rw [lH n, z]; simp)
 refine ⟨⟨fun b u nt z => keep b u (lA z h0) nt (S.gr.same b u nt z), fun b h => ?_, fun t => g.tk ⟨(S.gr.tk t).1.ers hHa, (S.gr.tk t).2⟩, S.gr.fs.trans g.fs, g.sub, fun b hb hn => ?_⟩,
  ⟨g.tk ⟨S.env.tb.1.ers hHa, S.env.tb.2⟩, g.sub, by rw [List.length_set]; exact S.env.len, fun j t e => ?_, fun j k ds es b n e1 e2 e3 e4 => S.env.apart j k ds es b n (own j ds e1) (own k es e2) e3 e4⟩,
  fun j ds b e1 e2 => S.frh j ds b (own j ds e1) e2, fun j q U b e1 e2 => ?_, fun j k q q' U U' b n e1 e2 e3 => ?_⟩
 ·have n : b ≠ a := fun z => h (by rw [z]; exact h0)
  exact g.more b (by rw [lH n]; exact S.gr.more b h)
 ·have n : b ≠ a := fun z => hn (by rw [z]; exact h0)
  exact g.new b (S.gr.new b hb hn) (by rw [lH n]; exact S.gr.more b hn)
 ·rcases fJ e with ⟨rfl, rfl, _⟩ | ⟨n, e⟩
  ·exact ⟨some (.ref a), h1, a, kvs', rfl, hp, ha, fa, dt⟩
  ·obtain ⟨o, z1, z2⟩ := S.env.at_ j t e
   refine ⟨o, z1, ?_⟩
   cases t with
   | no => trivial
   | val d => obtain ⟨v, y1, y2⟩ := z2; exact ⟨v, y1, y2.mono g.fs⟩
   | is v c => exact ⟨z2.1, fun r hr => g.fs _ _ (z2.2 r hr)⟩
   | own es =>
    obtain ⟨b, ys, rfl, y1, y2, y3⟩ := z2
    have nb : b ≠ a := kE y1 hHa (fun z => nomatch z)
    exact ⟨b, ys, rfl, keep b _ nb rfl y1, newF b _ nb y1 y2, y3.mono g.fs⟩
   | dic q U =>
    obtain ⟨b, ys, rfl, y0, y1, y2, y3⟩ := z2
    have nb : b ≠ a := fun z => S.dr.2 i j p q T U a n hi e h1 (by rw [<- z]; exact z1)
    exact ⟨b, ys, rfl, y0, keep b _ nb rfl y1, newF b _ nb y1 y2, y3.mono g.fs⟩
   | tab U =>
    obtain ⟨b, ys, rfl, y1, y3⟩ := z2
    exact ⟨b, ys, rfl, y1.mono g.fs, y3.mono g.fs⟩
 ·obtain ⟨_, _, e⟩ := old j q U e1
  exact S.dr.1 j _ _ b e e2
 ·obtain ⟨_, _, f1⟩ := old j q U e1
  obtain ⟨_, _, f2⟩ := old k q' U' e2
  exact S.dr.2 j k _ _ _ _ b n f1 f2 e3
theorem xE (S : SR K F₀ H₀ F H ρ σ) (g : bX F H F' H') (hl : H l = none) (ha : H' l = some (.dK kvs)) (fl : F' l = none) (dt : dA K F' T kvs) (i : Nat) : SR K F₀ H₀ F' H' (ρ.set i (.dic false T)) (σ.set i (some (.ref l))) := by
 have S' := S.grow g
 have h0 : H₀ l = none := by
  cases z : H₀ l with
  | none => rfl
  | some u => exact absurd hl (S.gr.more l (by rw [z]; simp))
 have own : ∀ (j : Nat) es, (ρ.set i (.dic false T))[j]? = some (.own es) -> i ≠ j /\ ρ[j]? = some (.own es) := fun j es z => by
  rcases fJ z with ⟨rfl, z, _⟩ | ⟨n, z⟩
  ·cases z
  ·exact ⟨n, z⟩
 have far : ∀ (j : Nat) q U b, ρ[j]? = some (.dic q U) -> σ[j]? = some (some (.ref b)) -> b ≠ l := fun j q U b e1 e2 z => by
  obtain ⟨o, z1, b', ys, rfl, _, y1, _⟩ := S.env.at_ j _ e1
  rw [e2] at z1; cases z1
  rw [z, hl] at y1; cases y1
 refine ⟨S'.gr, ⟨S'.env.tb, S'.env.sub, by rw [List.length_set, List.length_set]; exact S'.env.len, fun j t e => ?_, fun j k ds es b n e1 e2 e3 => ?_⟩, fun j ds b e1 e2 => ?_, fun j q U b e1 e2 => ?_, fun j k q q' U U' b n e1 e2 e3 => ?_⟩
 ·rcases fJ e with ⟨rfl, rfl, hl'⟩ | ⟨n, e⟩
  ·exact ⟨some (.ref l), List.getElem?_set_self (by rw [<- S.env.len]; exact hl'), l, kvs, rfl, (fun z => nomatch z), ha, fl, dt⟩
  ·rw [List.getElem?_set_ne n]; exact S'.env.at_ j t e
 ·obtain ⟨n1, e1⟩ := own j ds e1
  obtain ⟨n2, e2⟩ := own k es e2
  rw [List.getElem?_set_ne n1] at e3
  rw [List.getElem?_set_ne n2]
  exact S.env.apart j k ds es b n e1 e2 e3
 ·obtain ⟨n1, e1⟩ := own j ds e1
  rw [List.getElem?_set_ne n1] at e2
  exact S.frh j ds b e1 e2
 ·rcases fJ e1 with ⟨rfl, _, hl'⟩ | ⟨n, e1⟩
  ·rw [List.getElem?_set_self (by rw [<- S.env.len]; exact hl')] at e2; cases e2; exact h0
  ·rw [List.getElem?_set_ne n] at e2; exact S.dr.1 j q U b e1 e2
 ·rcases fJ e1 with ⟨rfl, _, hl1⟩ | ⟨n1, e1⟩
  ·rcases fJ e2 with ⟨rfl, _, _⟩ | ⟨n2, e2⟩
   ·exact absurd rfl n
   ·rw [List.getElem?_set_self (by rw [<- S.env.len]; exact hl1)] at e3; cases e3
    rw [List.getElem?_set_ne n2]
    exact fun z => far k q' U' l e2 z rfl
  ·rw [List.getElem?_set_ne n1] at e3
   rcases fJ e2 with ⟨rfl, _, hl2⟩ | ⟨n2, e2⟩
   ·rw [List.getElem?_set_self (by rw [<- S.env.len]; exact hl2)]
    exact fun z => by cases z; exact far j q U _ e1 e3 rfl
   ·rw [List.getElem?_set_ne n2]; exact S.dr.2 j k q q' U U' b n e1 e2 e3
end
noncomputable def gX : Option Slot -> Option Tab
 | some (.dic _ T) => some T
 | some (.tab T) => some T
 | _ => none
theorem pO {K : W.Frag} {F H : Hp} {ρ : bJ} {σ : St} {i : Nat} {T : Tab} (E : gA K F H ρ σ) (h : gX ρ[i]? = some T) : ∃ a kvs, σ[i]? = some (some (.ref a)) /\ Rd H a (.dK kvs) /\ dA K F T kvs := by
 cases e : ρ[i]? with
 | none => rw [e] at h; cases h
 | some s =>
  rw [e] at h
  obtain ⟨o, z1, z2⟩ := E.at_ i s e
  cases s with
  | dic p U => cases h; obtain ⟨a, kvs, rfl, _, y1, _, y3⟩ := z2; exact ⟨a, kvs, z1, .inl y1, y3⟩
  | tab U => cases h; obtain ⟨a, kvs, rfl, ⟨ob, y1⟩, y3⟩ := z2; exact ⟨a, kvs, z1, .inr ⟨ob, E.sub _ _ y1⟩, y3⟩
  | no => cases h
  | val _ => cases h
  | own _ => cases h
  | is _ _ => cases h
section
variable {X : Cx} {e value : Expr} {es : List Expr} {f g : ME} {x y : Str} {p p2 p3 lp cp pos pos' : Pos} {i j : Nat}
noncomputable def bW7 (neg : Bool) : Option Tab -> D -> bD Bool
 | some T, .str k => .ok (neg != (dD T k).isSome)
 | _, _ => .bad
noncomputable def dL (neg : Bool) (i : Nat) (f : ME) : MT := fun ρ => (f ρ).bind (bW7 neg (gX ρ[i]?))
theorem bW8 {neg : Bool} {σ : St} {H : Hp} {Q : Bool -> Hp -> Prop} (q : mC X (dL neg i f) σ H Q) :
 tD X f σ H fun y H1 => yK i σ H1 fun x H2 => ∃ a o, x = .ref a /\ mL H2 a y o /\ ∃ c, V.bl (neg != o.isSome) = .bl c /\ Q c H2 := by
 obtain ⟨ρ, F, E, q⟩ := q
 refine ⟨ρ, F, E, ?_⟩
 unfold dL at q
 revert q
 cases f ρ with
 | ok d =>
  intro q v F1 H1 g1 d1
  have q : dC yZ F H (bW7 neg (gX ρ[i]?) d) Q := q
  cases ht : gX ρ[i]? with
  | none => rw [ht] at q; exact q.elim
  | some T =>
   rw [ht] at q
   obtain ⟨a, kvs, z1, z2, z3⟩ := pO (E.grow g1) ht
   cases d with
   | str k =>
    simp only [bC] at d1
    obtain ⟨rfl, _⟩ := d1
    refine ⟨.ref a, z1, a, jJ kvs (.inr k), rfl, .inl ⟨kvs, .inr k, z2, rfl, rfl⟩, _, rfl, ?_⟩
    have e2 : (jJ kvs (.inr k)).isSome = (dD T k).isSome := by
     rcases z3.val k with ⟨h1, h2⟩ | ⟨d', v', h1, h2, _⟩ <;> rw [h1, h2] <;> rfl
    rw [e2]
    exact q _ F1 H1 g1 rfl
   | _ => exact q.elim
 | ex _ => exact fun q => q
 | bad => exact fun q => q
theorem pP (hu : X.A.units + 1 < cLine) (hv : hX X.N X.env.scope i x) (he : IE X e f) (hb : behindInMarks .In (.Name x p) = false := by rfl) : IT X (.Compare e [.In] [.Name x p] pos) (dL false i f) :=
 sQ (bO4 (cU5 hu he (jC hv.n hv.v hv.d hv.c)) hb) fun σ H Q q => by
  obtain ⟨ρ, F, E, q⟩ := bW8 q
  refine ⟨ρ, F, E, ?_⟩
  revert q
  cases f ρ with
  | ok d => exact fun q v F1 H1 g1 d1 => let ⟨x', z, a, o, e1, e2, c, e3, e4⟩ := q v F1 H1 g1 d1; ⟨x', z, a, o, e1, e2, c, by rw [<- e3]; simp, e4⟩
  | ex _ => exact fun q => q
  | bad => exact fun q => q
theorem bW9 (hu : X.A.units + 1 < cLine) (hv : hX X.N X.env.scope i x) (he : IE X e f) (hb : behindInMarks .NotIn (.Name x p) = false := by rfl) : IT X (.Compare e [.NotIn] [.Name x p] pos) (dL true i f) :=
 sQ (bO4 (cU6 hu he (jC hv.n hv.v hv.d hv.c)) hb) fun σ H Q q => by
  obtain ⟨ρ, F, E, q⟩ := bW8 q
  refine ⟨ρ, F, E, ?_⟩
  revert q
  cases f ρ with
  | ok d => exact fun q v F1 H1 g1 d1 => let ⟨x', z, a, o, e1, e2, c, e3, e4⟩ := q v F1 H1 g1 d1; ⟨x', z, a, o, e1, e2, c, by rw [<- e3]; simp, e4⟩
  | ex _ => exact fun q => q
  | bad => exact fun q => q
noncomputable def bI1 : Option D -> bD D
 | some r => .ok r
 | none => .bad
noncomputable def bX0 : Option Tab -> D -> bD D
 | some T, .str k => bI1 (dD T k)
 | _, _ => .bad
noncomputable def jO (i : Nat) (f : ME) : ME := fun ρ => (f ρ).bind (bX0 (gX ρ[i]?))
theorem zU (hu : X.A.units + 1 < cLine) (hv : hX X.N X.env.scope i x) (he : IE X e f) (hs : bF2 e) : IE X (.Subscript (.Name x p) e pos) (jO i f) :=
 gN (cU4 hu (jC hv.n hv.v hv.d hv.c) he hs) fun σ H Q ⟨ρ, F, E, q⟩ => by
 unfold jO at q
 revert q
 cases hf : f ρ with
 | ok d =>
  intro q
  have q : dC (bC X.K) F H (bX0 (gX ρ[i]?) d) Q := q
  cases ht : gX ρ[i]? with
  | none => rw [ht] at q; exact q.elim
  | some T =>
   rw [ht] at q
   obtain ⟨a, kvs, z1, z2, z3⟩ := pO E ht
   refine ⟨.ref a, z1, ρ, F, E, ?_⟩
   rw [hf]
   intro v F1 H1 g1 d1
   cases d with
   | str k =>
    simp only [bC] at d1
    obtain ⟨rfl, _⟩ := d1
    have q : dC (bC X.K) F H (bI1 (dD T k)) Q := q
    have z2' : Rd H1 a (.dK kvs) := z2.elim (fun z => .inl (g1.same _ _ rfl z)) fun ⟨ob, z⟩ => .inr ⟨ob, g1.same _ _ rfl z⟩
    rcases z3.val k with ⟨h1, h2⟩ | ⟨r, v', h1, h2, h3⟩
    ·rw [h1] at q; exact q.elim
    ·rw [h1] at q
     exact ⟨a, v', rfl, by rw [<- h2]; exact .inl ⟨kvs, .inr k, z2', rfl, rfl⟩, q v' F1 H1 g1 (h3.mono g1.fs)⟩
   | _ => exact q.elim
 | ex _ => exact fun q => q.elim
 | bad => exact fun q => q.elim
noncomputable def fH (i : Nat) (f g : ME) : MS := fun ρ => (g ρ).bind fun dv => (f ρ).bind fun dk => match ρ[i]? with
 | some (.dic p T) => match dk with
  | .str k => if T.length < sizeLine then .ok (.nx (ρ.set i (.dic p (dG T k dv)))) else .bad
  | _ => .bad
 | _ => .bad
theorem lQ (hu : X.A.units + 1 < cLine) (hv : hX X.N X.env.scope i x) (he : IE X e f) (hw : IE X value g) (hs : swapsWith value (some (.Subscript (.Name x p) e pos')) pos.line X.env = pure false) : IS X (.Assign [.Subscript (.Name x p) e pos'] value pos) (fH i f g) := fun F₀ H₀ =>
 gT (cU7 hu (jC hv.n hv.v hv.d hv.c) he hw hs) fun E σ H ⟨ρ, F, S, q⟩ => by
 unfold fH at q
 refine ⟨ρ, F, S.env, ?_⟩
 revert q
 cases hg : g ρ with
 | ok dv =>
  intro q v F1 H1 g1 d1
  have S1 := S.grow g1
  cases hf : f ρ with
  | ok dk =>
   rw [hf] at q
   cases hi : ρ[i]? with
   | none => rw [hi] at q; exact q.elim
   | some s =>
    rw [hi] at q
    cases s with
    | dic p T =>
     obtain ⟨o, z1, a, kvs, rfl, y0, y1, y2, y3⟩ := S1.env.at_ i _ hi
     refine ⟨.ref a, z1, ρ, F1, S1.env, ?_⟩
     rw [hf]
     intro v2 F2 H2 g2 d2
     have S2 := S1.grow g2
     cases dk with
     | str k =>
      simp only [bC] at d2
      obtain ⟨rfl, _⟩ := d2
      have q : fC X F₀ H₀ (if T.length < sizeLine then .ok (.nx (ρ.set i (.dic p (dG T k dv)))) else .bad) E := q
      split at q
      ·rename_i hz
       have a2 : H2 a = some (.dK kvs) := g2.same _ _ rfl y1
       have f2 : F2 a = none := g2.new a y2 (by rw [y1]; simp)
       refine ⟨a, _, rfl, wK.k (k := .inr k) (v := v) a2 (by rw [<- y3.length]; exact hz), ?_⟩
       exact q σ F2 _ (xD S2 hi z1 (bW6 g2.sub f2 a2) dY f2 ((y3.mono g2.fs).put (d1.mono g2.fs)))
      ·exact q.elim
     | _ => exact q.elim
    | _ => exact q.elim
  | ex _ => rw [hf] at q; exact q.elim
  | bad => rw [hf] at q; exact q.elim
 | ex _ => exact fun q => q
 | bad => exact fun q => q
noncomputable def xF (i : Nat) : MS := fun ρ => .ok (.nx (ρ.set i (.dic false [])))
theorem bI2 (hN : X.N.Nodup) (hi : X.N[i]? = some x) (hx : Loc X.env.scope x) (hf : X.fn x = true \/ X.env.scope.names.lookup x = some .local) : IS X (.Assign [.Name x p] (.Dict [] [] lp) pos) (xF i) := fun F₀ H₀ =>
 gT (pB (i := i) hN hi hx bR4 (zP rfl) hf) fun E σ H ⟨ρ, F, S, q⟩ l hl => q _ F _ (xE S (bX.laidN S.env.sub hl _) hl dY (bH.free S.env.sub hl) .nil i)
theorem dH8 : fZ X (.type "dict") fun vs H Q => ∃ a kvs, vs = [.ref a] /\ Rd H a (.dK kvs) /\ ∀ p, H p = none -> Q (.ref p) (upd H p (.dK kvs)) := by
 intro pins s σ H xs us Q I r h
 obtain ⟨a, kvs, rfl, e, q⟩ := h
 cases r with
 | cons h1 t => cases t; cases h1; exact cV5 I e fun p s' hp I' => ⟨.ref p, _, I', rfl, q p hp⟩
noncomputable def tJ (j i : Nat) : MS := fun ρ => match gX ρ[i]? with
 | some T => .ok (.nx (ρ.set j (.dic false T)))
 | none => .bad
theorem bI3 (hN : X.N.Nodup) (hj : X.N[j]? = some x) (hx : Loc X.env.scope x) (hf : X.fn x = true \/ X.env.scope.names.lookup x = some .local) (hv : hX X.N X.env.scope i y) (hg : Gl X "dict") (hm : X.mg "dict" = none)
 (hs : swapsWith (.Call (.Name "dict" p2) [.Name y p3] [] cp) (some (.Name x p)) pos.line X.env = pure false) :
 IS X (.Assign [.Name x p] (.Call (.Name "dict" p2) [.Name y p3] [] cp) pos) (tJ j i) := fun F₀ H₀ =>
 gT (pB (i := j) hN hj hx (yR dH8 hg hm PyProof.Rows.boot_dict (kR (jC hv.n hv.v hv.d hv.c) lX)) hs hf) fun E σ H ⟨ρ, F, S, q⟩ => by
 unfold tJ at q
 cases ht : gX ρ[i]? with
 | none => rw [ht] at q; exact q.elim
 | some T =>
  rw [ht] at q
  obtain ⟨a, kvs, z1, z2, z3⟩ := pO S.env ht
  exact ⟨.ref a, z1, a, kvs, rfl, z2, fun l hl => q _ F _ (xE S (bX.laidN S.env.sub hl _) hl dY (bH.free S.env.sub hl) z3 j)⟩
noncomputable def dQ (i : Nat) (f : ME) : MS := fun ρ => (f ρ).bind fun d => match ρ[i]? with
 | some (.dic true T) => .ok (.rd d T)
 | _ => .bad
theorem rd_of {F₀ H₀ F H : Hp} {ρ : bJ} {σ : St} {E : lM} {d : D} {v : V} (S : SR X.K F₀ H₀ F H ρ σ) (dv : bC X.K F d v) (q : fC X F₀ H₀ (match ρ[i]? with
 | some (.dic true T) => .ok (.rd d T)
 | _ => .bad) E) : E.rt v H := by
 split at q
 ·rename_i T hi
  obtain ⟨o, z1, a, kvs, rfl, y0, y1, y2, y3⟩ := S.env.at_ i _ hi
  cases y0 rfl
  exact q v F H kvs S.gr dv y1 y2 y3
 ·exact q.elim
theorem jP (he : IE X e f) : IS X (.Return (some e) pos) (dQ i f) := fun F₀ H₀ => gT (wD he) fun E σ H q =>
 wS (k := fun d ρ => match ρ[i]? with
  | some (.dic true T) => .ok (.rd d T)
  | _ => .bad) (fun ρ F H d v S r q => rd_of S r q) q
noncomputable def bI4 (i : Nat) : MS := fun ρ => match ρ[i]? with
 | some (.dic false T) => .ok (.rn T)
 | _ => .bad
theorem dH9 (hv : hX X.N X.env.scope i x) : IS X (.Return (some (.Name x p)) pos) (bI4 i) := fun F₀ H₀ => gT (wD (jC hv.n hv.v hv.d hv.c)) fun E σ H ⟨ρ, F, S, q⟩ => by
 unfold bI4 at q
 split at q
 ·rename_i T hi
  obtain ⟨o, z1, a, kvs, rfl, y0, y1, y2, y3⟩ := S.env.at_ i _ hi
  exact ⟨.ref a, z1, q a F H kvs S.gr (S.dr.1 i _ _ a hi z1) y1 y2 y3⟩
 ·exact q.elim
end
end R
end
section
namespace R
open PySem PySem.Spec PyProof.Rows L2
variable [bN]
def qU (K : W.Frag) (F : Hp) : Slot -> V -> Prop
 | .val d, v => bC K F d v
 | .tab T, v => ∃ a kvs, v = .ref a /\ wN F a kvs /\ dA K F T kvs
 | _, _ => False
abbrev jQ (K : W.Frag) (F : Hp) : List Slot -> List V -> Prop := Paired (qU K F)
theorem qU.slot [Pd] {K : W.Frag} {F H : Hp} {s : Slot} {v : V} (h : qU K F s v) : wO K F H s (some v) /\ nd s = true /\ ∀ ds, s ≠ .own ds := by
 cases s with
 | val d => exact ⟨⟨v, rfl, h⟩, rfl, fun _ z => nomatch z⟩
 | tab T => obtain ⟨a, kvs, rfl, h1, h2⟩ := h; exact ⟨⟨a, kvs, rfl, h1, h2⟩, rfl, fun _ z => nomatch z⟩
 | no => exact h.elim
 | own _ => exact h.elim
 | is _ _ => exact h.elim
 | dic _ _ => exact h.elim
theorem qU.nd {K : W.Frag} {F : Hp} {s : Slot} {v : V} (h : qU K F s v) : R.nd s = true := (@qU.slot _ ⟨0⟩ K F F s v h).2.1
theorem jQ.nd {K : W.Frag} {F : Hp} {sl : List Slot} {vs : List V} (h : jQ K F sl vs) : ∀ s ∈ sl, R.nd s = true := by
 induction h with
 | nil => intro s hs; cases hs
 | cons h t ih =>
  intro s hs
  rcases List.mem_cons.mp hs with rfl | hs
  ·exact h.nd
  ·exact ih s hs
theorem jQ.own {K : W.Frag} {F : Hp} {sl : List Slot} {vs : List V} (h : jQ K F sl vs) : ∀ s ∈ sl, ∀ ds, s ≠ .own ds := by
 induction h with
 | nil => intro s hs; cases hs
 | cons h t ih =>
  intro s hs
  rcases List.mem_cons.mp hs with rfl | hs
  ·exact (@qU.slot _ ⟨0⟩ K F F _ _ h).2.2
  ·exact ih s hs
def pQ (K : W.Frag) (F H : Hp) (a : Addr) (r : bD (D × Tab)) (Q : VK) : Prop := match r with
 | .ok r => ∀ v F' H' kvs, bX F (ers H a) F' H' -> H' a = some (.dK kvs) -> F' a = none -> dA K F' r.2 kvs -> bC K F' r.1 v -> Q v H'
 | .ex _ => False
 | .bad => False
noncomputable def nL (K : W.Frag) (m : List Slot -> Tab -> bD (D × Tab)) : Sp := fun vs H Q _ => ∃ F sl vs0 a kvs T, vs = vs0 ++ [.ref a] /\ kS F H /\ bH F H /\ jQ K F sl vs0 /\ H a = some (.dK kvs) /\ F a = none /\ dA K F T kvs /\ pQ K F H a (m sl T) Q
noncomputable def nM (n : Nat) (sl : List Slot) (T : Tab) : bJ := sl ++ (.dic true T :: List.replicate (n - sl.length - 1) .no)
noncomputable def lI (i : Nat) : Fl -> bD (D × Tab)
 | .rd d T => .ok (d, T)
 | .nx ρ => match ρ[i]? with
  | some (.dic true T) => .ok (.non, T)
  | _ => .bad
 | _ => .bad
noncomputable def mM (k n : Nat) (g : MS) (sl : List Slot) (T : Tab) : bD (D × Tab) := if sl.length + 1 = k then (g (nM n sl T)).bind (lI sl.length) else .bad
theorem bI5 {n : Nat} {sl : List Slot} {T : Tab} {i : Nat} {s : Slot} (e : (nM n sl T)[i]? = some s) : (sl[i]? = some s) \/ (i = sl.length /\ s = .dic true T) \/ (sl.length < i /\ i < n /\ s = .no) := by
 unfold nM at e
 by_cases hi : i < sl.length
 ·rw [List.getElem?_append_left hi] at e; exact .inl e
 ·rw [List.getElem?_append_right bE] at e
  by_cases h0 : i = sl.length
  ·subst h0; rw [Nat.sub_self] at e; simp at e; exact .inr (.inl ⟨rfl, e.symm⟩)
  ·obtain ⟨j, hj⟩ : ∃ j, i - sl.length = j + 1 := ⟨i - sl.length - 1, by omega⟩
   rw [hj, List.getElem?_cons_succ, List.getElem?_replicate] at e
   split at e
   ·cases e; exact .inr (.inr ⟨by omega, by omega, rfl⟩)
   ·cases e
theorem bI6 {N : List Str} {vs : List V} {i : Nat} {v : V} (h : vs[i]? = some v) : (L2.start N vs)[i]? = some (some v) := by
 unfold L2.start
 have hi : i < vs.length := (List.getElem?_eq_some_iff.mp h).1
 rw [List.getElem?_append_left (by simpa using hi), List.getElem?_map, h]; rfl
theorem bX1 {N : List Str} {vs : List V} {i : Nat} (h : vs.length <= i) (hn : i < N.length) : (L2.start N vs)[i]? = some none := by
 unfold L2.start
 rw [List.getElem?_append_right (by simpa using h), List.getElem?_replicate]
 simp only [List.length_map]
 rw [if_pos bE]
theorem bX2 {N : List Str} {vs : List V} (h : vs.length <= N.length) : (L2.start N vs).length = N.length := by
 unfold L2.start
 simp only [List.length_append, List.length_map, List.length_replicate]; omega
section
variable {K : W.Frag} {F H : Hp} {sl : List Slot} {vs : List V} {a : Addr} {kvs : List (bR × V)} {T : Tab} {N : List Str}
theorem dI0 [Pd] (hp : Pd.pd = a) (ti : kS F H) (s : bH F H) (r : jQ K F sl vs) (ha : H a = some (.dK kvs)) (fa : F a = none) (dt : dA K F T kvs) (hN : sl.length + 1 <= N.length) :
 SR K F (ers H a) F H (nM N.length sl T) (L2.start N (vs ++ [.ref a])) := by
 have hl := Paired.length r
 have own : ∀ (i : Nat) es, (nM N.length sl T)[i]? ≠ some (.own es) := fun i es e => by
  rcases bI5 e with h | ⟨_, h⟩ | ⟨_, _, h⟩
  ·exact jQ.own r _ (List.mem_of_getElem? h) es rfl
  ·cases h
  ·cases h
 have dic : ∀ (i : Nat) p U, (nM N.length sl T)[i]? = some (.dic p U) -> i = sl.length := fun i p U e => by
  rcases bI5 e with h | ⟨h, _⟩ | ⟨_, _, h⟩
  ·cases jQ.nd r _ (List.mem_of_getElem? h)
  ·exact h
  ·cases h
 have z : (L2.start N (vs ++ [.ref a]))[sl.length]? = some (some (.ref a)) := bI6 (by rw [hl, List.getElem?_append_right (Nat.le_refl _), Nat.sub_self]; rfl)
 refine ⟨dH7 s, ⟨ti, s, ?_, fun i t e => ?_, fun i j es fs b _ e => absurd e (own i es)⟩, fun i es b e => absurd e (own i es), fun i p U b e1 e2 => ?_, fun i j p q U U' b n e1 e2 => ?_⟩
 ·rw [bX2 (by rw [List.length_append]; simp; omega)]
  unfold nM
  simp only [List.length_append, List.length_cons, List.length_replicate]; omega
 ·rcases bI5 e with h | ⟨rfl, rfl⟩ | ⟨h1, h2, rfl⟩
  ·obtain ⟨v, h1, h2⟩ := jT r h
   exact ⟨some v, bI6 (by rw [List.getElem?_append_left (List.getElem?_eq_some_iff.mp h1).1]; exact h1), h2.slot.1⟩
  ·exact ⟨some (.ref a), z, a, kvs, rfl, fun _ => hp.symm, ha, fa, dt⟩
  ·exact ⟨none, bX1 (by rw [List.length_append]; simp; omega) h2, trivial⟩
 ·cases dic i p U e1
  rw [z] at e2; cases e2; exact zS
 ·exact absurd (dic i p U e1 |>.trans (dic j q U' e2).symm) n
end
theorem dI1 {P : Program} {w : World} {K : W.Frag} {mg : Str -> Option Value} {base : Heap} {x qual : Str} {st : Stmt} {f : Addr} {fd : FuncData} {N ps : List Str} {k : Nat} {g : MS} (F : bL K x qual st f fd) (S : dE N ps (cL st)) (hN : ps.length <= N.length)
 (hbody : ∀ (_ : Pd) (cdv : Value) (A : Around) (outer : List Env) (s : Shared) (H : Hp) (E : XK), dZ k (A.deeper (envOfC qual (cL st) s.heap.objs.size f cdv)) ->
   gB (lZ bT P w K mg base N qual (cL st) f cdv A outer s H E).nox (lN st) g) : bS P w K mg base bT (k + 1) f fd ps (nL K (mM ps.length N.length g)) := by
 refine F.ok S (fun vs H Q E h => ?_) (fun cdv A outer s H vs Q E hr h => ?_)
 ·obtain ⟨F, sl, vs0, a, kvs, T, rfl, _, _, r, _, _, _, q⟩ := h
  unfold mM at q
  split at q
  ·rename_i e; rw [List.length_append, <- Paired.length r]; exact e
  ·exact q.elim
 ·obtain ⟨F, sl, vs0, a, kvs, T, rfl, ti, s', r, ha, fa, dt, q⟩ := h
  unfold mM at q
  split at q
  ·rename_i e
   letI : Pd := ⟨a⟩
   refine ⟨_, hbody ⟨a⟩ cdv A outer s H E hr F (ers H a), nM N.length sl T, F, dI0 rfl ti s' r ha fa dt bE, ?_⟩
   revert q
   cases g (nM N.length sl T) with
   | ok fl =>
    intro q
    cases fl with
    | nx ρ =>
     intro σ F' H' S'
     have q : pQ K F H a (match ρ[sl.length]? with
      | some (.dic true T) => .ok (.non, T)
      | _ => .bad) Q := q
     split at q
     ·rename_i T' hi
      obtain ⟨o, z1, a', kvs', rfl, y0, y1, y2, y3⟩ := S'.env.at_ _ _ hi
      have e0 : a' = a := y0 rfl
      subst e0
      exact q .non F' H' kvs' S'.gr y1 y2 y3 (by simp only [bC])
     ·exact q.elim
    | rd d T' => exact fun v F' H' kvs' g' r' h1 h2 h3 => q v F' H' kvs' g' h1 h2 h3 r'
    | rt d => exact q.elim
    | rn d => exact q.elim
    | bk ρ => exact q.elim
    | ct ρ => exact q.elim
   | ex _ => exact fun q => q
   | bad => exact fun q => q
  ·exact q.elim
structure lR (P : Program) (w : World) (K : W.Frag) (mg : Str -> Option Value) (base : Heap) (k : Nat) (x : Str) (m : List Slot -> Tab -> bD (D × Tab)) : Prop where
 ex : ∃ (f : Addr) (fd : FuncData) (ps : List Str), bS P w K mg base bT k f fd ps (nL K m) /\ mg x = some (.ref f) /\ W.keepIn K (.ref f) = true /\ cY K fd ps []
variable [Pd]
noncomputable abbrev kX := bJ -> bD (List Slot)
def tK (X : Cx) (es : List Expr) (fa : kX) (i : Nat) : Prop := PA X es fun σ H Q => ∃ ρ F a, gA X.K F H ρ σ /\ (∃ p T, ρ[i]? = some (.dic p T)) /\ σ[i]? = some (some (.ref a)) /\ dC (jQ X.K) F H (fa ρ) fun vs H' => Q (vs ++ [.ref a]) H'
noncomputable def fK : kX := fun _ => .ok []
noncomputable def dS (f : ME) (r : kX) : kX := fun ρ => (f ρ).bind fun d => (r ρ).bind fun sl => .ok (.val d :: sl)
noncomputable def kN (i : Nat) (r : kX) : kX := fun ρ => match ρ[i]? with
 | some (.tab T) => (r ρ).bind fun sl => .ok (.tab T :: sl)
 | _ => .bad
section
variable {X : Cx} {e : Expr} {es : List Expr} {f : ME} {x y : Str} {p p2 cp pos : Pos} {i j k : Nat} {fa r : kX} {m : List Slot -> Tab -> bD (D × Tab)}
theorem qV (hv : hX X.N X.env.scope i y) (hs : starEach [.Name y p] X.env = (false, eval (.Name y p) X.env) :: starEach [] X.env := by rfl) : tK X [.Name y p] fK i := pG (kR (jC hv.n hv.v hv.d hv.c) lX hs) fun σ H Q ⟨ρ, F, a, E, _, z, q⟩ =>
 ⟨.ref a, z, show Q [.ref a] H from cK q E.sub (b := []) .nil⟩
theorem pR (he : IE X e f) (h : tK X es r i) (hs : starEach (e :: es) X.env = (false, eval e X.env) :: starEach es X.env := by rfl) : tK X (e :: es) (dS f r) i := pG (kR he h hs) fun σ H Q ⟨ρ, F, a, E, hsl, z, q⟩ => ⟨ρ, F, E, by
 have q1 := gH (R1 := bC X.K) q
 revert q1
 cases f ρ with
 | ok d =>
  intro q1 v F1 H1 g1 d1
  obtain ⟨F2, d', g2, d2, q2⟩ := q1 v F1 H1 g1 d1
  refine ⟨ρ, F2, a, E.grow g2, hsl, z, ?_⟩
  have q3 := gH (R1 := jQ X.K) q2
  revert q3
  cases r ρ with
  | ok y =>
   intro q3 v' F3 H3 g3 d3
   obtain ⟨F4, y', g4, d4, q4⟩ := q3 v' F3 H3 g3 d3
   exact cK q4 g4.sub (b := v :: v') (.cons (d2.mono g4.fs) d4)
  | ex _ => intro q3; exact q3
  | bad => intro q3; exact q3
 | ex _ => exact fun q1 => q1
 | bad => exact fun q1 => q1⟩
theorem bX3 (hv : hX X.N X.env.scope j x) (h : tK X es r i) (hs : starEach (.Name x p :: es) X.env = (false, eval (.Name x p) X.env) :: starEach es X.env := by rfl) : tK X (.Name x p :: es) (kN j r) i := pG (kR (jC hv.n hv.v hv.d hv.c) h hs) fun σ H Q ⟨ρ, F, a, E, hsl, z, q⟩ => by
 unfold kN at q
 split at q
 ·rename_i T hj
  obtain ⟨o, z1, b, kvs, rfl, y1, y3⟩ := E.at_ j _ hj
  refine ⟨.ref b, z1, ρ, F, a, E, hsl, z, ?_⟩
  have q3 := gH (R1 := jQ X.K) q
  revert q3
  cases r ρ with
  | ok y =>
   intro q3 v' F3 H3 g3 d3
   obtain ⟨F4, y', g4, d4, q4⟩ := q3 v' F3 H3 g3 d3
   exact cK q4 g4.sub (b := V.ref b :: v') (.cons ⟨b, kvs, rfl, y1.mono g4.fs, y3.mono g4.fs⟩ d4)
  | ex _ => intro q3; exact q3
  | bad => intro q3; exact q3
 ·exact q.elim
theorem qW (C : lR X.prog X.w X.K X.mg X.base k x m) (hr : dZ k X.A) (hg : Gl X x) (ha : tK X (e :: es) fa i)
 (hdb : (x == ("__debug__" : Str)) = false := by decide) (he : starEach (e :: es) X.env = (false, eval e X.env) :: starEach es X.env := by rfl) (hpl : (backTo pos (starEach es X.env)).any (·.1) = false := by rfl) :
 PE X (.Call (.Name x p) (e :: es) [] pos) fun σ H Q => ∃ ρ F b T a, gA X.K F H ρ σ /\ ρ[i]? = some (.dic b T) /\ σ[i]? = some (some (.ref a)) /\ pQ X.K F H a ((fa ρ).bind fun sl => m sl T) Q := by
 obtain ⟨f, fd, ps, F, hm, hk, hb⟩ := C.ex
 refine gN (yQ (E := E0) F hr hg hm hk hb .nil yU ha hdb he hpl) fun σ H Q ⟨ρ, F, b, T, a, E, hi, z, q⟩ => ⟨ρ, F, a, E, ⟨b, T, hi⟩, z, ?_⟩
 obtain ⟨o, z0, a0, kvs0, rfl, _, x1, x2, _⟩ := E.at_ i _ hi
 rw [z] at z0; cases z0
 revert q
 cases fa ρ with
 | ok sl =>
  intro q vs F1 H1 g1 d1
  obtain ⟨o, z1, a1, kvs, rfl, _, y1, y2, y3⟩ := (E.grow g1).at_ i _ hi
  rw [z] at z1; cases z1
  refine ⟨F1, sl, vs, a, kvs, T, by rw [List.append_nil], (E.grow g1).tb, g1.sub, d1, y1, y2, y3, ?_⟩
  revert q
  show pQ X.K F H a (m sl T) Q -> pQ X.K F1 H1 a (m sl T) Q
  cases m sl T with
  | ok r => exact fun q v F' H' kvs' g' => q v F' H' kvs' ((g1.ers x1 x2).trans g')
  | ex _ => exact fun q => q
  | bad => exact fun q => q
 | ex _ => exact fun q => q
 | bad => exact fun q => q
noncomputable def mN (j i : Nat) (m : List Slot -> Tab -> bD (D × Tab)) (fa : kX) : MS := fun ρ => match ρ[i]? with
 | some (.dic p T) => ((fa ρ).bind fun sl => m sl T).bind fun r => .ok (.nx ((ρ.set i (.dic p r.2)).set j (.val r.1)))
 | _ => .bad
theorem xG {c : Expr} (hN : X.N.Nodup) (hj : X.N[j]? = some x) (hx : Loc X.env.scope x) (hf : X.fn x = true \/ X.env.scope.names.lookup x = some .local)
 (hc : PE X c fun σ H Q => ∃ ρ F b T a, gA X.K F H ρ σ /\ ρ[i]? = some (.dic b T) /\ σ[i]? = some (some (.ref a)) /\ pQ X.K F H a ((fa ρ).bind fun sl => m sl T) Q)
 (hs : swapsWith c (some (.Name x p)) pos.line X.env = pure false) : IS X (.Assign [.Name x p] c pos) (mN j i m fa) := fun F₀ H₀ =>
 gT (pB (i := j) hN hj hx hc hs hf) fun E σ H ⟨ρ, F, S, q⟩ => by
 unfold mN at q
 split at q
 ·rename_i b T hi
  obtain ⟨o, z1, a, kvs, rfl, _, y1, y2, y3⟩ := S.env.at_ i _ hi
  refine ⟨ρ, F, b, T, a, S.env, hi, z1, ?_⟩
  revert q
  cases (fa ρ).bind fun sl => m sl T with
  | ok r => exact fun q v F' H' kvs' g ha fa' dt dv => q _ F' H' ((xD S hi z1 g ha fa' dt).set j dv)
  | ex _ => exact fun q => q
  | bad => exact fun q => q
 ·exact q.elim
noncomputable def xH (i : Nat) (m : List Slot -> Tab -> bD (D × Tab)) (fa : kX) : MS := fun ρ => match ρ[i]? with
 | some (.dic true T) => ((fa ρ).bind fun sl => m sl T).bind fun r => .ok (.rd r.1 r.2)
 | _ => .bad
theorem dI2 {c : Expr} (hc : PE X c fun σ H Q => ∃ ρ F b T a, gA X.K F H ρ σ /\ ρ[i]? = some (.dic b T) /\ σ[i]? = some (some (.ref a)) /\ pQ X.K F H a ((fa ρ).bind fun sl => m sl T) Q) : IS X (.Return (some c) pos) (xH i m fa) := fun F₀ H₀ =>
 gT (wD hc) fun E σ H ⟨ρ, F, S, q⟩ => by
 unfold xH at q
 split at q
 ·rename_i T hi
  obtain ⟨o, z1, a, kvs, rfl, y0, y1, y2, y3⟩ := S.env.at_ i _ hi
  refine ⟨ρ, F, true, T, a, S.env, hi, z1, ?_⟩
  have e0 : a = Pd.pd := y0 rfl
  revert q
  cases (fa ρ).bind fun sl => m sl T with
  | ok r => exact fun q v F' H' kvs' g ha fa' dt dv => q v F' H' kvs' (xD S hi z1 g ha fa' dt).gr dv (e0 ▸ ha) (e0 ▸ fa') dt
  | ex _ => exact fun q => q
  | bad => exact fun q => q
 ·exact q.elim
end
omit [Pd]
def dI3 (K : W.Frag) (F H : Hp) (r : bD Tab) (Q : VK) : Prop := match r with
 | .ok T => ∀ a F' H' kvs, bX F H F' H' -> H a = none -> H' a = some (.dK kvs) -> F' a = none -> dA K F' T kvs -> Q (.ref a) H'
 | .ex _ => False
 | .bad => False
noncomputable def zV (K : W.Frag) (m : List D -> bD Tab) : Sp := fun vs H Q _ => ∃ F ds, kS F H /\ bH F H /\ DatL K F ds vs /\ dI3 K F H (m ds) Q
noncomputable def bX4 : Fl -> bD Tab
 | .rn T => .ok T
 | _ => .bad
noncomputable def xI (k n : Nat) (g : MS) (ds : List D) : bD Tab := if ds.length = k then (g (lD n ds)).bind bX4 else .bad
theorem dI4 [Pd] {P : Program} {w : World} {K : W.Frag} {mg : Str -> Option Value} {base : Heap} {x qual : Str} {st : Stmt} {f : Addr} {fd : FuncData} {N ps : List Str} {k : Nat} {g : MS} (F : bL K x qual st f fd) (S : dE N ps (cL st))
 (hbody : ∀ (cdv : Value) (A : Around) (outer : List Env) (s : Shared) (H : Hp) (E : XK), dZ k (A.deeper (envOfC qual (cL st) s.heap.objs.size f cdv)) ->
   gB (lZ bT P w K mg base N qual (cL st) f cdv A outer s H E).nox (lN st) g) : bS P w K mg base bT (k + 1) f fd ps (zV K (xI ps.length N.length g)) := by
 refine F.ok S (fun vs H Q E h => ?_) (fun cdv A outer s H vs Q E hr h => ?_)
 ·obtain ⟨F, ds, _, _, r, q⟩ := h
  unfold xI at q
  split at q
  ·rename_i e; rw [<- r.length]; exact e
  ·exact q.elim
 ·obtain ⟨F, ds, ti, s', r, q⟩ := h
  refine ⟨_, hbody cdv A outer s H E hr F H, lD N.length ds, F, ⟨.refl s', env0 ti s' r, fun i es a e => ?_, DR.none bS7⟩, ?_⟩
  ·exfalso
   unfold lD at e
   have hm := List.mem_of_getElem? e
   rcases List.mem_append.mp hm with h | h
   ·obtain ⟨d, _, h⟩ := List.mem_map.mp h; cases h
   ·have := List.eq_of_mem_replicate h; cases this
  ·unfold xI at q
   split at q
   ·revert q
    cases g (lD N.length ds) with
    | ok fl =>
     intro q
     cases fl with
     | rn T => exact q
     | nx ρ => exact q.elim
     | rt d => exact q.elim
     | rd d T => exact q.elim
     | bk ρ => exact q.elim
     | ct ρ => exact q.elim
    | ex _ => exact fun q => q
    | bad => exact fun q => q
   ·exact q.elim
structure qX (P : Program) (w : World) (K : W.Frag) (mg : Str -> Option Value) (base : Heap) (k : Nat) (x : Str) (m : List D -> bD Tab) : Prop where
 ex : ∃ (f : Addr) (fd : FuncData) (ps : List Str), bS P w K mg base bT k f fd ps (zV K m) /\ mg x = some (.ref f) /\ W.keepIn K (.ref f) = true /\ cY K fd ps []
noncomputable def pS (i : Nat) (m : List D -> bD Tab) (fa : MA) : MS := fun ρ => (fa ρ).bind fun ds => (m ds).bind fun T => .ok (.nx (ρ.set i (.dic false T)))
section
variable [Pd] {X : Cx} {e : Expr} {es : List Expr} {f : ME} {x y : Str} {p p2 cp pos : Pos} {i j k : Nat} {fa : MA} {m : List D -> bD Tab}
theorem bX5 (hN : X.N.Nodup) (hj : X.N[i]? = some x) (hx : Loc X.env.scope x) (hf : X.fn x = true \/ X.env.scope.names.lookup x = some .local) (C : qX X.prog X.w X.K X.mg X.base k y m) (hr : dZ k X.A) (hg : Gl X y) (ha : IA X (e :: es) fa)
 (hs : swapsWith (.Call (.Name y p2) (e :: es) [] cp) (some (.Name x p)) pos.line X.env = pure false) (hdb : (y == ("__debug__" : Str)) = false := by decide) (he : starEach (e :: es) X.env = (false, eval e X.env) :: starEach es X.env := by rfl) (hpl : (backTo cp (starEach es X.env)).any (·.1) = false := by rfl) :
 IS X (.Assign [.Name x p] (.Call (.Name y p2) (e :: es) [] cp) pos) (pS i m fa) := fun F₀ H₀ => by
 obtain ⟨f, fd, ps, Fn, hm, hk, hb⟩ := C.ex
 refine gT (pB (i := i) hN hj hx (yQ (E := E0) Fn hr hg hm hk hb .nil yU ha hdb he hpl) hs hf) fun E σ H ⟨ρ, F, S, q⟩ => ⟨ρ, F, S.env, ?_⟩
 unfold pS at q
 revert q
 cases fa ρ with
 | ok ds =>
  intro q vs F1 H1 g1 d1
  refine ⟨F1, ds, (S.env.grow g1).tb, g1.sub, by rw [List.append_nil]; exact d1, ?_⟩
  revert q
  show fC X F₀ H₀ ((m ds).bind fun T => .ok (.nx (ρ.set i (.dic false T)))) E -> _
  cases m ds with
  | ok T => exact fun q a F' H' kvs g hl ha fl dt => q _ F' H' (xE (S.grow g1) g hl ha fl dt i)
  | ex _ => exact fun q => q
  | bad => exact fun q => q
 | ex _ => exact fun q => q
 | bad => exact fun q => q
end
noncomputable def nN (K : W.Frag) (m : List Slot -> bD D) : Sp := fun vs H Q _ => ∃ F sl, kS F H /\ bH F H /\ jQ K F sl vs /\ dC (bC K) F H (m sl) Q
noncomputable def mO (k n : Nat) (g : MS) (sl : List Slot) : bD D := if sl.length = k then (g (sl ++ List.replicate (n - sl.length) .no)).bind bU else .bad
theorem dI5 [Pd] {P : Program} {w : World} {K : W.Frag} {mg : Str -> Option Value} {base : Heap} {x qual : Str} {st : Stmt} {f : Addr} {fd : FuncData} {N ps : List Str} {k : Nat} {g : MS} (F : bL K x qual st f fd) (S : dE N ps (cL st)) (hN : ps.length <= N.length)
 (hbody : ∀ (cdv : Value) (A : Around) (outer : List Env) (s : Shared) (H : Hp) (E : XK), dZ k (A.deeper (envOfC qual (cL st) s.heap.objs.size f cdv)) ->
   gB (lZ bT P w K mg base N qual (cL st) f cdv A outer s H E).nox (lN st) g) : bS P w K mg base bT (k + 1) f fd ps (nN K (mO ps.length N.length g)) := by
 refine F.ok S (fun vs H Q E h => ?_) (fun cdv A outer s H vs Q E hr h => ?_)
 ·obtain ⟨F, sl, _, _, r, q⟩ := h
  unfold mO at q
  split at q
  ·rename_i e; rw [<- Paired.length r]; exact e
  ·exact q.elim
 ·obtain ⟨F, sl, ti, s', r, q⟩ := h
  unfold mO at q
  split at q
  ·rename_i e0
   have hl := Paired.length r
   have at_ : ∀ (i : Nat) t, (sl ++ List.replicate (N.length - sl.length) Slot.no)[i]? = some t -> sl[i]? = some t \/ (sl.length <= i /\ i < N.length /\ t = .no) := fun i t e => by
    by_cases hi : i < sl.length
    ·rw [List.getElem?_append_left hi] at e; exact .inl e
    ·rw [List.getElem?_append_right bE, List.getElem?_replicate] at e
     split at e
     ·cases e; exact .inr ⟨by omega, by omega, rfl⟩
     ·cases e
   have own : ∀ (i : Nat) es, (sl ++ List.replicate (N.length - sl.length) Slot.no)[i]? ≠ some (.own es) := fun i es e => by
    rcases at_ i _ e with h | ⟨_, _, h⟩
    ·exact jQ.own r _ (List.mem_of_getElem? h) es rfl
    ·cases h
   refine ⟨_, hbody cdv A outer s H E hr F H, sl ++ List.replicate (N.length - sl.length) .no, F, ⟨.refl s', ⟨ti, s', ?_, fun i t e => ?_, fun i j es fs b _ e => absurd e (own i es)⟩, fun i es b e => absurd e (own i es), DR.none fun t ht => ?_⟩, ?_⟩
   ·rw [bX2 bE]; simp only [List.length_append, List.length_replicate]; omega
   ·rcases at_ i t e with h | ⟨h1, h2, rfl⟩
    ·obtain ⟨v, h1, h2⟩ := jT r h
     exact ⟨some v, bI6 h1, h2.slot.1⟩
    ·exact ⟨none, bX1 bE h2, trivial⟩
   ·rcases List.mem_append.mp ht with h | h
    ·exact jQ.nd r t h
    ·rw [List.eq_of_mem_replicate h]; rfl
   ·revert q
    cases g (sl ++ List.replicate (N.length - sl.length) .no) with
    | ok fl =>
     intro q
     cases fl with
     | nx ρ => exact fun σ F' H' S' => q .non F' H' S'.gr (by simp only [bC])
     | rt d => exact fun v F' H' g' r' => q v F' H' g' r'
     | rd _ _ => exact q.elim
     | rn _ => exact q.elim
     | bk ρ => exact q.elim
     | ct ρ => exact q.elim
    | ex _ => exact fun q => q
    | bad => exact fun q => q
  ·exact q.elim
structure bX6 (P : Program) (w : World) (K : W.Frag) (mg : Str -> Option Value) (base : Heap) (k : Nat) (x : Str) (m : List Slot -> bD D) : Prop where
 ex : ∃ (f : Addr) (fd : FuncData) (ps : List Str), bS P w K mg base bT k f fd ps (nN K m) /\ mg x = some (.ref f) /\ W.keepIn K (.ref f) = true /\ cY K fd ps []
section
variable [Pd]
def tL (X : Cx) (es : List Expr) (fa : kX) : Prop := PA X es fun σ H Q => ∃ ρ F, gA X.K F H ρ σ /\ dC (jQ X.K) F H (fa ρ) Q
variable {X : Cx} {e : Expr} {es : List Expr} {f : ME} {x y : Str} {p p2 cp pos : Pos} {i j k : Nat} {fa r : kX} {m : List Slot -> bD D}
theorem bX7 : tL X [] fK := pG lX fun σ H Q ⟨ρ, F, E, q⟩ => cK q E.sub .nil
theorem zW (he : IE X e f) (h : tL X es r) (hs : starEach (e :: es) X.env = (false, eval e X.env) :: starEach es X.env := by rfl) : tL X (e :: es) (dS f r) := pG (kR he h hs) fun σ H Q ⟨ρ, F, E, q⟩ => ⟨ρ, F, E, by
 have q1 := gH (R1 := bC X.K) q
 revert q1
 cases f ρ with
 | ok d =>
  intro q1 v F1 H1 g1 d1
  obtain ⟨F2, d', g2, d2, q2⟩ := q1 v F1 H1 g1 d1
  refine ⟨ρ, F2, E.grow g2, ?_⟩
  have q3 := gH (R1 := jQ X.K) q2
  revert q3
  cases r ρ with
  | ok y =>
   intro q3 v' F3 H3 g3 d3
   obtain ⟨F4, y', g4, d4, q4⟩ := q3 v' F3 H3 g3 d3
   exact cK q4 g4.sub (b := v :: v') (.cons (d2.mono g4.fs) d4)
  | ex _ => intro q3; exact q3
  | bad => intro q3; exact q3
 | ex _ => exact fun q1 => q1
 | bad => exact fun q1 => q1⟩
theorem bX8 (hv : hX X.N X.env.scope j x) (h : tL X es r) (hs : starEach (.Name x p :: es) X.env = (false, eval (.Name x p) X.env) :: starEach es X.env := by rfl) : tL X (.Name x p :: es) (kN j r) := pG (kR (jC hv.n hv.v hv.d hv.c) h hs) fun σ H Q ⟨ρ, F, E, q⟩ => by
 unfold kN at q
 split at q
 ·rename_i T hj
  obtain ⟨o, z1, b, kvs, rfl, y1, y3⟩ := E.at_ j _ hj
  refine ⟨.ref b, z1, ρ, F, E, ?_⟩
  have q3 := gH (R1 := jQ X.K) q
  revert q3
  cases r ρ with
  | ok y =>
   intro q3 v' F3 H3 g3 d3
   obtain ⟨F4, y', g4, d4, q4⟩ := q3 v' F3 H3 g3 d3
   exact cK q4 g4.sub (b := V.ref b :: v') (.cons ⟨b, kvs, rfl, y1.mono g4.fs, y3.mono g4.fs⟩ d4)
  | ex _ => intro q3; exact q3
  | bad => intro q3; exact q3
 ·exact q.elim
theorem bX9 (C : bX6 X.prog X.w X.K X.mg X.base k x m) (hr : dZ k X.A) (hg : Gl X x) (ha : tL X (e :: es) fa)
 (hdb : (x == ("__debug__" : Str)) = false := by decide) (he : starEach (e :: es) X.env = (false, eval e X.env) :: starEach es X.env := by rfl) (hpl : (backTo pos (starEach es X.env)).any (·.1) = false := by rfl) :
 IE X (.Call (.Name x p) (e :: es) [] pos) (fun ρ => (fa ρ).bind m) := by
 obtain ⟨f, fd, ps, Fn, hm, hk, hb⟩ := C.ex
 refine gN (yQ (E := E0) Fn hr hg hm hk hb .nil yU ha hdb he hpl) fun σ H Q ⟨ρ, F, E, q⟩ => ⟨ρ, F, E, ?_⟩
 revert q
 show dC (bC X.K) F H ((fa ρ).bind m) Q -> _
 cases fa ρ with
 | ok sl => exact fun q vs F1 H1 g1 d1 => ⟨F1, sl, (E.grow g1).tb, g1.sub, by rw [List.append_nil]; exact d1, dC.grow (show dC (bC X.K) F H (m sl) Q from q) g1⟩
 | ex _ => exact fun q => q
 | bad => exact fun q => q
end
end R
end
section
namespace R
open PySem PySem.Spec PyProof.Rows L2
variable [bN] [Pd]
theorem fO {k : Nat} {A : Around} (hr : dZ k A) : A.units + 1 < cLine := by have := hr.un; omega
section
variable {X : Cx} {e b c : Expr} {es : List Expr} {f : ME} {x y : Str} {p p2 p3 cp pos lp : Pos} {i k : Nat}
theorem dI6 : fZ X (.builtin "len") (fun xs H Q => ∃ a kvs, xs = [V.ref a] /\ Rd H a (.dK kvs) /\ Q (.int kvs.length) H) := by
 intro pins s σ H xs us Q I r h
 obtain ⟨a, kvs, rfl, ha, q⟩ := h
 obtain ⟨u, rfl, ru⟩ := qL r
 cases ru
 exact cT7 I ha fun t s' I' => ⟨.int kvs.length, H, I', ⟨t, rfl⟩, q⟩
noncomputable def bI7 (i : Nat) : ME := fun ρ => match gX ρ[i]? with
 | some T => .ok (.int T.length)
 | none => .bad
theorem dI7 (hv : hX X.N X.env.scope i x) (hg : Gl X "len") (hm : X.mg "len" = none) : IE X (.Call (.Name "len" p) [.Name x p2] [] pos) (bI7 i) :=
 gN (bE8 dI6 hg hm PySem.boot_len (kR (jC hv.n hv.v hv.d hv.c) lX)) fun σ H Q ⟨ρ, F, E, q⟩ => by
 unfold bI7 at q
 cases ht : gX ρ[i]? with
 | none => rw [ht] at q; exact q.elim
 | some T =>
  rw [ht] at q
  obtain ⟨a, kvs, z1, z2, z3⟩ := pO E ht
  exact ⟨.ref a, z1, a, kvs, rfl, z2, by rw [<- z3.length]; exact cK q E.sub (by simp only [bC])⟩
end
omit [Pd]
theorem qX.mono {P : Program} {w : World} {K : W.Frag} {mg : Str -> Option Value} {base : Heap} {j k : Nat} {x : Str} {m : List D -> bD Tab} (h : qX P w K mg base j x m) (l : j <= k) : qX P w K mg base k x m := let ⟨f, fd, ps, F, r⟩ := h.ex; ⟨f, fd, ps, F.mono l, r⟩
end R
end
section
namespace R
open PySem PySem.Spec PyProof.Rows L2
variable [bN] [Pd]
section
variable {F H F' H' : Hp} {a : Addr} {u : HO}
theorem bX.less (g : bX (upd F a u) H F' H') (fa : F a = none) (hu : wL u = true) : bX F H (R.ers F' a) H' where
 same := g.same
 more := g.more
 tk := fun t => let r := g.tk ⟨t.1, t.2.upd a hu⟩; ⟨r.1, fun b ps e => r.2 b ps (pN e)⟩
 fs := fun b v e => by
  have n : b ≠ a := lA e fa
  rw [lH n]; exact g.fs b v (by rw [bZ n]; exact e)
 sub := fun b v e => g.sub b v (pN e)
 new := fun b e n => by
  by_cases z : b = a
  ·rw [z, zS]
  ·rw [lH z]; exact g.new b (by rw [bZ z]; exact e) n
end
noncomputable def nO (i : Nat) (t : MT) : MT := fun ρ => match ρ[i]? with
 | some (.own ds) => t (ρ.set i (.val (.lst ds)))
 | _ => .bad
theorem bY0 {X : Cx} {e : Expr} {t : MT} {i : Nat} (h : IT X e t) : IT X e (nO i t) := sQ h fun σ H Q ⟨ρ, F, E, q⟩ => by
 unfold nO at q
 split at q
 ·rename_i ds hi
  obtain ⟨o, h1, a, xs, rfl, h2, h3, h4⟩ := E.at_ i _ hi
  have sF : bH F (upd F a (.lst xs)) := jD h3 _
  have sH : bH (upd F a (.lst xs)) H := fun b o e => by
   by_cases z : b = a
   ·subst z; rw [dY] at e; cases e; exact h2
   ·rw [bZ z] at e; exact E.sub b o e
  refine ⟨ρ.set i (.val (.lst ds)), upd F a (.lst xs), ⟨⟨E.tb.1, E.tb.2.upd a rfl⟩, sH, by rw [List.length_set]; exact E.len, fun j t e => ?_, fun j k ds' es a' n e1 e2 e3 e4 => ?_⟩, ?_⟩
  ·rcases fJ e with ⟨rfl, rfl, _⟩ | ⟨n, e⟩
   ·refine ⟨some (.ref a), h1, .ref a, rfl, ?_⟩
    simp only [bC]
    exact ⟨a, xs, rfl, dN.of dY, h4.mono sF⟩
   ·obtain ⟨o, z1, z2⟩ := E.at_ j t e
    refine ⟨o, z1, ?_⟩
    cases t with
    | no => trivial
    | val d' => obtain ⟨v', y1, y2⟩ := z2; exact ⟨v', y1, y2.mono sF⟩
    | is v' c => exact ⟨z2.1, fun p hp => sF _ _ (z2.2 p hp)⟩
    | own es =>
     obtain ⟨a', ys, rfl, y1, y2, y3⟩ := z2
     have na : a' ≠ a := fun y => by subst y; exact E.apart i j ds es a' n hi e h1 z1
     exact ⟨a', ys, rfl, y1, by rw [bZ na]; exact y2, y3.mono sF⟩
    | dic p T =>
     obtain ⟨a', ys, rfl, y0, y1, y2, y3⟩ := z2
     exact ⟨a', ys, rfl, y0, y1, by rw [bZ (kE y1 h2 (fun z => nomatch z))]; exact y2, y3.mono sF⟩
    | tab T =>
     obtain ⟨a', ys, rfl, y1, y3⟩ := z2
     exact ⟨a', ys, rfl, y1.mono sF, y3.mono sF⟩
  ·rcases fJ e1 with ⟨_, z, _⟩ | ⟨_, e1⟩
   ·cases z
   ·rcases fJ e2 with ⟨_, z, _⟩ | ⟨_, e2⟩
    ·cases z
    ·exact E.apart j k ds' es a' n e1 e2 e3 e4
  ·revert q
   cases t (ρ.set i (.val (.lst ds))) with
   | ok b => exact fun q c F1 H1 g e => q c _ H1 (g.less h3 rfl) e
   | ex _ => exact fun q => q
   | bad => exact fun q => q
 ·exact q.elim
theorem lC.frz {H : Hp} {a : Addr} {kvs : List (bR × V)} {u : HO} (h : lC H) (e : H a = some (.dK kvs)) : lC (upd H a u) := fun t ht => by
 obtain ⟨ps, e1, o, q⟩ := h t ht
 refine ⟨ps, by rw [bZ (kE e1 e (fun z => nomatch z))]; exact e1, o, ?_⟩
 rcases q with q | ⟨c', q1, q2⟩
 ·exact .inl q
 ·exact .inr ⟨c', q1, by rw [bZ (kE q2 e (fun z => nomatch z))]; exact q2⟩
theorem Inv.frz {X : Cx} {pins : List (Addr × Obj)} {σ : St} {H : Hp} {s : Shared} {a : Addr} {kvs : List (bR × V)} (I : Inv X pins σ H s) (e : H a = some (.dK kvs)) : ∃ ob, Inv X pins σ (upd H a (.frz ob (.dK kvs))) s := by
 have h0 : fL X.prog X.w H s.heap a (.dK kvs) := I.hok a _ e
 obtain ⟨z, y, vs, r, ob, es, ep, e1, c⟩ := id h0
 refine ⟨ob, I.ok, I.os, I.bare, ⟨I.base.keep, I.base.slot, fun b o q n x => ?_, I.base.there, fun b xs q => ?_, fun b o u q => ?_, fun b ps q => ?_⟩, I.loc, I.cell, ?_, fun x c q => ?_, fun p hp => ?_, fun b o q => ?_, I.len⟩
 ·have h1 := I.base.free b o q n x
  rw [bZ (fun z => by rw [z, e] at h1; cases h1)]; exact h1
 ·have h1 := I.base.tups b xs q
  rw [bZ (kE h1 e (fun z => nomatch z))]; exact h1
 ·have h1 := I.base.frzs b o u q
  rw [bZ (kE h1 e (fun z => nomatch z))]; exact h1
 ·obtain ⟨more, h1⟩ := I.base.tbls b ps q
  exact ⟨more, by rw [bZ (kE h1 e (fun z => nomatch z))]; exact h1⟩
 ·rw [bZ (fun z => by have := I.free; rw [z, e] at this; cases this)]; exact I.free
 ·have h1 := I.freeC x c q
  rw [bZ (fun z => by rw [z, e] at h1; cases h1)]; exact h1
 ·obtain ⟨p1, p2, p3⟩ := I.pin p hp
  exact ⟨p1, by rw [bZ (fun z => by rw [z, e] at p2; cases p2)]; exact p2, p3⟩
 ·have st : ∀ {b : Addr} {o : HO}, fL X.prog X.w H s.heap b o -> fL X.prog X.w (upd H a (.frz ob (.dK kvs))) s.heap b o := fun x => x.stay (fun _ _ _ q => q)
   (fun c q => by rw [bZ (kE q e (fun z => nomatch z))]; exact q) fun c xs q => by rw [bZ (kE q e (fun z => nomatch z))]; exact q
  by_cases w : b = a
  ·subst w; rw [dY] at q; cases q
   exact ⟨e1, st h0⟩
  ·rw [bZ w] at q; exact st (I.hok b o q)
noncomputable def zX (i : Nat) : MS := fun ρ => match ρ[i]? with
 | some (.dic false T) => .ok (.nx (ρ.set i (.tab T)))
 | _ => .bad
theorem bY1 {X : Cx} {rest : List Stmt} {v : MS} {i : Nat} (h : gB X rest v) : gB X rest (bB (zX i) v) := fun F₀ H₀ pins s σ H D I ⟨ρ, F, S, q⟩ => by
 unfold bB zX at q
 split at q
 ·rename_i T hi
  obtain ⟨o, h1, a, kvs, rfl, h0, h2, h3, h4⟩ := S.env.at_ i _ hi
  obtain ⟨ob, I'⟩ := R.Inv.frz I h2
  have hn : H₀ a = none := S.dr.1 i _ _ a hi h1
  have sF : bH F (upd F a (.frz ob (.dK kvs))) := jD h3 _
  have sH : bH (upd F a (.frz ob (.dK kvs))) (upd H a (.frz ob (.dK kvs))) := fun b o e => by
   by_cases z : b = a
   ·subst z; rw [dY] at e ⊢; exact e
   ·rw [bZ z] at e ⊢; exact S.env.sub b o e
  have tb : kS F H -> kS (upd F a (.frz ob (.dK kvs))) (upd H a (.frz ob (.dK kvs))) := fun t => ⟨t.1.frz h2, t.2.upd a rfl⟩
  refine h F₀ H₀ pins s σ _ D I' ⟨ρ.set i (.tab T), _, ⟨⟨fun b u nt z => ?_, fun b z => ?_, fun t => tb (S.gr.tk t), S.gr.fs.trans sF, sH, fun b hb hn' => ?_⟩, ⟨tb S.env.tb, sH, by rw [List.length_set]; exact S.env.len, fun j t e => ?_, fun j k ds' es a' n e1 e2 e3 e4 => ?_⟩, fun j ds' a' e1 e2 => ?_, S.dr.setL i rfl⟩, q⟩
  ·rw [bZ (lA z hn)]; exact S.gr.same b u nt z
  ·by_cases w : b = a
   ·rw [w, dY]; simp
   ·rw [bZ w]; exact S.gr.more b z
  ·rw [bZ (fun z => hn' (by rw [z]; exact hn))]; exact S.gr.new b hb hn'
  ·rcases fJ e with ⟨rfl, rfl, _⟩ | ⟨n, e⟩
   ·exact ⟨some (.ref a), h1, a, kvs, rfl, ⟨ob, dY⟩, h4.mono sF⟩
   ·obtain ⟨o, z1, z2⟩ := S.env.at_ j t e
    refine ⟨o, z1, ?_⟩
    cases t with
    | no => trivial
    | val d' => obtain ⟨v', y1, y2⟩ := z2; exact ⟨v', y1, y2.mono sF⟩
    | is v' c => exact ⟨z2.1, fun p hp => sF _ _ (z2.2 p hp)⟩
    | own es =>
     obtain ⟨a', ys, rfl, y1, y2, y3⟩ := z2
     have na : a' ≠ a := kE y1 h2 (fun z => nomatch z)
     exact ⟨a', ys, rfl, by rw [bZ na]; exact y1, by rw [bZ na]; exact y2, y3.mono sF⟩
    | dic p U =>
     obtain ⟨a', ys, rfl, y0, y1, y2, y3⟩ := z2
     have na : a' ≠ a := fun z => S.dr.2 i j _ p T U a n hi e h1 (by rw [<- z]; exact z1)
     exact ⟨a', ys, rfl, y0, by rw [bZ na]; exact y1, by rw [bZ na]; exact y2, y3.mono sF⟩
    | tab U =>
     obtain ⟨a', ys, rfl, y1, y3⟩ := z2
     exact ⟨a', ys, rfl, y1.mono sF, y3.mono sF⟩
  ·rcases fJ e1 with ⟨_, z, _⟩ | ⟨_, e1⟩
   ·cases z
   ·rcases fJ e2 with ⟨_, z, _⟩ | ⟨_, e2⟩
    ·cases z
    ·exact S.env.apart j k ds' es a' n e1 e2 e3 e4
  ·rcases fJ e1 with ⟨_, z, _⟩ | ⟨_, e1⟩
   ·cases z
   ·exact S.frh j ds' a' e1 e2
 ·exact q.elim
end R
end
section
namespace R
open PySem PySem.Spec PyProof.Rows L2
section
variable {prog : Program} {w : World} {A : Around} {E : Value -> Shared -> Prop} {s : Shared}
theorem dI8 : typeLookup (.type "tuple") "keys" = pure none := by rw [typeLookup_type, builtinLookup_eq_fast]; kernel_rfl
theorem dI9 {a : Addr} {xs : Array Value} {k : Nat} {sl : Array (Option Value)} {Q : Option Value -> Shared -> Prop} (hx : s.heap.get? a = some ⟨.type "tuple", none, .seq xs k, sl⟩) (hA : A.handled = none)
 (h : ∀ h' tk, (∀ b o, s.heap.get? b = some o -> h'.get? b = some o) -> Q none { s with heap := h', toks := tk }) : wpAny (model prog w) A (getAttr? (.ref a) "keys") Q E s := by
 obtain ⟨hp, g, d, tk, os⟩ := s
 have hT : ∀ tk', (⟨hp, g, d, tk', os⟩ : Shared).TypeIs (.ref a) "tuple" := fun _ => ⟨_, hx, rfl⟩
 have f1 := sub_AttributeError
 have f3 := F.slot_tuple_getattribute.lookup
 have f4 := F.slot_tuple_getattribute.bind (.ref a)
 have f5 := am_tuple_getattr_none
 unfold getAttr? getAttrBy?
 unfold getAttrBy
 repeat (any_goals (first | assumption | exact hT _ | ((with_reducible show wpAny _ _ (call (Value.builtin "tuple.__getattribute__") _ _) _ _ _); refine call_meets F.slot_tuple_getattribute (hT _) am_entry_tuple_getattribute (F.args_tuple_getattribute_2 _ _) (meets_getattribute_miss_tuple a xs k sl "keys" _ dI8 pA) ⟨hx, hA, fun h' tk' e hx' => ?_⟩) | wp_step))
 obtain ⟨t', u', he⟩ := hx'.there
 show wpAny _ _ (getattributeRaised _ _ _ _ _ _ _) _ _ _
 unfold getattributeRaised
 repeat (any_goals (first | assumption | wp_step))
 exact h _ _ hx'.keeps
theorem zY : plainId "dict.update.loop" = true := by decide +kernel
theorem bY2 : entryFor table "dict.update.loop" = some Builtin.«dict.update.loop» := entryFor_of_tree bG
variable {κ : Type} [DecidableEq κ] {knd : KeyKind prog w κ}
def tM (knd : KeyKind prog w κ) (h : Heap) (its : Array Value) (more : List (κ × Value)) : Prop := its.size = more.length /\ ∀ (j : Nat) k v, more[j]? = some (k, v) -> ∃ p key, its[j]? = some (.ref p) /\ h.IsTuple p #[key, v] /\ knd.is k key = true
theorem tM.keep {h h' : Heap} {its : Array Value} {more : List (κ × Value)} (x : tM knd h its more) (k : ∀ p o, h.get? p = some o -> o.cls = .type "tuple" -> h'.get? p = some o) : tM knd h' its more :=
 ⟨x.1, fun j a b e => let ⟨p, key, h1, ⟨o, h2, h3, h4⟩, h5⟩ := x.2 j a b e; ⟨p, key, h1, ⟨o, k p o h2 h3, h3, h4⟩, h5⟩⟩
theorem bI8 {h : Heap} {d : Addr} {kvs : List (κ × Value)} (x : h.DictOf knd d kvs) {o : Obj} (e : h.get? d = some o) (c : o.cls = .type "tuple" \/ o.cls = .type "tuple_iterator") : False := by
 obtain ⟨o', es, ep, e1, e2, _⟩ := x
 rw [e] at e1; cases e1
 rcases c with c | c <;> rw [e2.1] at c <;> injection c with c <;> exact absurd c (by decide)
theorem dJ0 {R : Result -> Shared -> Prop} (hh : A.handled = none) {d it t : Addr} {its : Array Value} {more : List (κ × Value)} (hm : more.length <= 1000) : ∀ (m i : Nat) (s : Shared) (kvs : List (κ × Value)), its.size - i = m -> i <= its.size ->
 s.heap.IsTupleIter it t i -> s.heap.IsTuple t its -> s.heap.DictOf knd d kvs -> tM knd s.heap its more -> kvs.length <= i ->
 (∀ h' tk, h'.DictOf knd d (merged kvs (more.drop i)) -> (∀ b o, b ≠ d -> b ≠ it -> s.heap.get? b = some o -> h'.get? b = some o) -> R (.ok (.ret .none)) { s with heap := h', toks := tk }) ->
 codeAny (model prog w) A (.builtin "dict.update.loop" ⟨[.ref d, .ref it, rawInt i, .none], []⟩) R s := by
 have hz := sizeLine_eq
 intro m
 induction m with
 | zero =>
  intro i s kvs hk hi hit ht hd hp hl hR
  refine codeAny_builtin bY2 ?_
  rw [Around.under_plainId zY _]
  have hx : its[i]? = none := Array.getElem?_eq_none bE
  show wpAny _ A.in1 (pyNext (.ref it) >>= _) _ _ s
  refine wpAny_bind (wpAny_pyNext_tuple_end hh hit ht hx fun h' hs => ?_)
  have e0 : more.drop i = [] := List.drop_eq_nil_of_le (by rw [<- hp.1]; omega)
  rw [e0] at hR
  have hdi : d ≠ it := fun z => by obtain ⟨o, h1, h2, _⟩ := hit; exact bI8 hd (z ▸ h1) (.inr h2)
  exact wpAny_bind (wpAny_pure (wpAny_pure (hR h' s.toks (hd.extBut hs hdi) fun b o _ h2 e => hs b o h2 e)))
 | succ m ih =>
  intro i s kvs hk hi hit ht hd hp hl hR
  have hlt : i < its.size := by omega
  refine codeAny_builtin bY2 ?_
  rw [Around.under_plainId zY _]
  obtain ⟨⟨k, v⟩, hmi⟩ : ∃ x, more[i]? = some x := ⟨more[i]'(by rw [<- hp.1]; exact hlt), List.getElem?_eq_getElem _⟩
  obtain ⟨p, key, h1, h2, h3⟩ := hp.2 i k v hmi
  show wpAny _ A.in1 (pyNext (.ref it) >>= _) _ _ s
  refine wpAny_bind (wpAny_pyNext_tuple_item hit ht h1 fun h' hit' hs => ?_)
  have hdi : d ≠ it := fun z => by obtain ⟨o, h1, h2, _⟩ := hit; exact bI8 hd (z ▸ h1) (.inr h2)
  have tup : ∀ q o, s.heap.get? q = some o -> o.cls = .type "tuple" -> q ≠ it := fun q o e c z => by
   obtain ⟨o', h1, h2, _⟩ := hit
   rw [z, h1] at e; cases e
   rw [h2] at c; injection c with c; exact absurd c (by decide)
  have k1 : ∀ q o, s.heap.get? q = some o -> o.cls = .type "tuple" -> h'.get? q = some o := fun q o e c => hs.extBut _ _ (tup q o e c) e
  have ht' : h'.IsTuple t its := let ⟨o, a, b, c⟩ := ht; ⟨o, k1 _ _ a b, b, c⟩
  have hp' : tM knd h' its more := hp.keep k1
  have hd' : h'.DictOf knd d kvs := hd.extBut hs.extBut hdi
  obtain ⟨op, hop, hcp, np, hdp⟩ := (let ⟨o, a, b, c⟩ := h2; ⟨o, k1 _ _ a b, b, c⟩ : h'.IsTuple p #[key, v])
  have hT : ({ s with heap := h' } : Shared).TypeIs (.ref p) "tuple" := ⟨op, hop, hcp⟩
  refine wpAny_bind (wpAny_holding ?_)
  refine wpAny_bind (wpAny_tryCatch ?_)
  unfold Builtin.Dict.pairItems
  refine wpAny_bind (wpAny_typeOf hT ?_)
  rw [if_pos (by decide)]
  refine wpAny_bind (wpAny_seqItems hop hdp (wpAny_pure ?_))
  show wpAny _ _ (holding [key, v] (dictSet d key v)) _ _ _
  refine wpAny_holding (wpAny_dictSet_pairs (s := { s with heap := h' }) h3 hd' (fun h2' hd2 hs2 => ?_) (by have := hp.1; omega))
  refine wpAny_pure ⟨plainId_quiet zY _, ?_⟩
  have tup2 : ∀ q o, h'.get? q = some o -> (o.cls = .type "tuple" \/ o.cls = .type "tuple_iterator") -> h2'.get? q = some o := fun q o e c => hs2.extBut _ _ (fun z => bI8 hd' (z ▸ e) c) e
  have ht2 : h2'.IsTuple t its := let ⟨o, a, b, c⟩ := ht'; ⟨o, tup2 _ _ a (.inl b), b, c⟩
  have hit2 : h2'.IsTupleIter it t (i + 1) := let ⟨o, a, b, c⟩ := hit'; ⟨o, tup2 _ _ a (.inr b), b, c⟩
  have e1 : more.drop i = (k, v) :: more.drop (i + 1) := by
   obtain ⟨hlt', e⟩ := List.getElem?_eq_some_iff.mp hmi
   rw [List.drop_eq_getElem_cons hlt', e]
  have := ih (i + 1) { s with heap := h2', toks := s.toks + 1 } (stored kvs k v) bE hlt hit2 ht2 hd2 (hp'.keep fun q o e c => tup2 q o e (.inl c)) (Nat.le_trans (stored_length_le kvs k v) bE) fun h3' tk hd3 hk3 => by
   refine hR h3' tk (by rw [e1]; exact hd3) fun b o n1 n2 e => hk3 b o n1 n2 (hs2.extBut _ _ n1 (hs.extBut _ _ n2 e))
  exact this
theorem dJ1 {t : Addr} {its : Array Value} {n : Nat} {sl : Array (Option Value)} {more : List (κ × Value)} {Q : Value -> Shared -> Prop} (hh : A.handled = none) (ht : s.heap.get? t = some ⟨.type "tuple", none, .seq its n, sl⟩) (hp : tM knd s.heap its more) (hm : more.length <= 1000)
 (h : ∀ h' tk, h'.DictOf knd s.heap.objs.size (merged [] more) -> (∀ b o, s.heap.get? b = some o -> h'.get? b = some o) -> Q (.ref s.heap.objs.size) { s with heap := h', toks := tk }) :
 wpAny (model prog w) A (call (.type "dict") [.ref t]) Q E s := by
 refine callType_codes (Q₁ := fun obj s₁ => obj = .ref s.heap.objs.size /\ s₁ = { s with heap := s.heap.push { cls := .type "dict", data := .dict #[] } }) F.kt_called_dict (F.kt_typeCall_dict_1 _) F.entry_dict_init (kt_code_dict_new _ ⟨rfl, rfl⟩) ?_
 rintro obj s₁ ⟨rfl, rfl⟩
 have hnew : (s.heap.push { cls := .type "dict", data := .dict #[] }).DictOf knd s.heap.objs.size [] := Heap.DictOf.new s.heap
 have ht1 : (s.heap.push { cls := .type "dict", data := .dict #[] }).get? t = some ⟨.type "tuple", none, .seq its n, sl⟩ := Heap.get?_push_of_some _ ht
 have hT : ({ s with heap := s.heap.push { cls := .type "dict", data := .dict #[] } } : Shared).TypeIs (.ref t) "tuple" := ⟨_, ht1, rfl⟩
 refine ⟨hnew.typeIs, F.args_dict_init_2 _ _, ?_⟩
 unfold Builtin.«dict.__init__»
 refine wpAny_bind ?_
 unfold Builtin.Dict.selfAndRest
 refine wpAny_bind (wpAny_notOrdered_dict hnew.typeIs ?_)
 show wpAny _ _ (pure (s.heap.objs.size, [Value.ref t])) _ _ _
 refine wpAny_pure ?_
 show wpAny _ _ (Builtin.Dict.updateFrom "dict.__init__" s.heap.objs.size (.ref t) [] .none) _ _ _
 unfold Builtin.Dict.updateFrom
 refine wpAny_bind (wpAny_typeOf hT ?_)
 rw [if_pos (by decide)]
 refine wpAny_bind (dI9 (s := { s with heap := s.heap.push { cls := .type "dict", data := .dict #[] } }) ht1 hh fun h1 tk1 k1 => ?_)
 rw [if_pos (by rfl)]
 refine wpAny_bind (wpAny_rule ?_)
 have ht2 : h1.IsTuple t its := ⟨_, k1 _ _ ht1, rfl, n, rfl⟩
 refine wpAny_bind (wpAny_pyIter_tuple (s := { s with heap := h1, toks := tk1 }) ht2 ?_)
 have k2 : ∀ b o, s.heap.get? b = some o -> (h1.push { cls := .type "tuple_iterator", data := .fields #[.ref t, rawInt 0] }).get? b = some o := fun b o e => Heap.get?_push_of_some _ (k1 _ _ (Heap.get?_push_of_some _ e))
 refine wpAny_pure ⟨plainId_quiet zY _, ?_⟩
 refine dJ0 (more := more) (its := its) (t := t) (it := h1.objs.size) (d := s.heap.objs.size) (knd := knd) (A := A.in1) hh hm its.size 0 _ [] rfl (Nat.zero_le _) ⟨_, Heap.get?_push_size _ rfl, rfl, rfl⟩ ⟨_, k2 _ _ ht, rfl, n, rfl⟩ ?_ (hp.keep fun q o e _ => k2 q o e) (Nat.zero_le _) fun h' tk hd hk => ?_
 ·obtain ⟨o, es, ep, e1, r⟩ := hnew
  exact ⟨o, es, ep, Heap.get?_push_of_some _ (k1 _ _ e1), r⟩
 ·have lt : s.heap.objs.size < h1.objs.size := let ⟨_, _, _, e1, _⟩ := hnew; Heap.lt_size (k1 _ _ e1)
  exact ⟨rfl, h h' tk hd fun b o e => hk b o (Nat.ne_of_lt (Heap.lt_size e)) (Nat.ne_of_lt (Nat.lt_trans (Heap.lt_size e) lt)) (k2 b o e)⟩
end
end R
end
section
namespace R
open PySem PySem.Spec PyProof.Rows PySem.W L2
variable [bN] [Pd]
section
variable {X : Cx} {e e2 value : Expr} {es : List Expr} {f g : ME} {x y : Str} {p p2 p3 lp ap cp cp2 pos pos' : Pos} {i j : Nat}
noncomputable def bI9 : Option Tab -> D -> D -> bD D
 | some T, .str k, d => .ok ((dD T k).getD d)
 | _, _, _ => .bad
noncomputable def pT (i : Nat) (f g : ME) : ME := fun ρ => (f ρ).bind fun dk => (g ρ).bind fun dd => bI9 (gX ρ[i]?) dk dd
theorem dJ2 (hu : X.A.units + 1 < cLine) (hv : hX X.N X.env.scope i x) (he : IE X e f) (hg : IE X e2 g) (m : M2 X (.Name x p) "get" ap e e2 cp) : IE X (.Call (.Attribute (.Name x p) "get" ap) [e, e2] [] cp) (pT i f g) :=
 gN (cV3 hu (jC hv.n hv.v hv.d hv.c) he hg m) fun σ H Q ⟨ρ, F, E, q⟩ => by
 unfold pT at q
 revert q
 cases hf : f ρ with
 | ok d =>
  intro q
  have q : dC (bC X.K) F H ((g ρ).bind fun dd => bI9 (gX ρ[i]?) d dd) Q := q
  cases ht : gX ρ[i]? with
  | none =>
   rw [ht] at q
   revert q
   cases g ρ with
   | ok _ => exact fun q => q.elim
   | ex _ => exact fun q => q.elim
   | bad => exact fun q => q.elim
  | some T =>
   rw [ht] at q
   obtain ⟨a, kvs, z1, z2, z3⟩ := pO E ht
   refine ⟨.ref a, z1, a, rfl, .inl ⟨kvs, z2⟩, ρ, F, E, ?_⟩
   rw [hf]
   intro v F1 H1 g1 d1
   have E1 := E.grow g1
   refine ⟨ρ, F1, E1, ?_⟩
   revert q
   cases g ρ with
   | ok dd =>
    intro q v2 F2 H2 g2 d2
    have q : dC (bC X.K) F H (bI9 (some T) d dd) Q := q
    have rd : Rd H2 a (.dK kvs) := z2.elim (fun z => .inl ((g1.trans g2).same _ _ rfl z)) fun ⟨ob, z⟩ => .inr ⟨ob, (g1.trans g2).same _ _ rfl z⟩
    cases d with
    | str k =>
     simp only [bC] at d1
     obtain ⟨rfl, _⟩ := d1
     refine ⟨jJ kvs (.inr k), .inl ⟨kvs, .inr k, rd, rfl, rfl⟩, q _ F2 H2 (g1.trans g2) ?_⟩
     rcases z3.val k with ⟨h1, h2⟩ | ⟨r, v', h1, h2, h3⟩
     ·rw [h1, h2]; exact d2
     ·rw [h1, h2]; exact h3.mono (g1.fs.trans g2.fs)
    | _ => exact q.elim
   | ex _ => exact fun q => q.elim
   | bad => exact fun q => q.elim
 | ex _ => exact fun q => q.elim
 | bad => exact fun q => q.elim
noncomputable def mQ (T : Tab) : bD (List D) := if (T.all fun p => decide (p.1.length <= 1000)) = true then .ok (T.map fun p => .str p.1) else .bad
theorem bY3 {K : W.Frag} {F : Hp} {T : Tab} {kvs : List (bR × V)} (hl : (T.all fun p => decide (p.1.length <= 1000)) = true) (h : dA K F T kvs) : DatL K F (T.map fun p => .str p.1) (kvs.map fun kv => kV kv.1) := by
 have hz := sizeLine_eq
 unfold dA at h
 induction h with
 | nil => exact DatL.nil
 | @cons p q ps qs h t ih =>
  rw [List.all_cons, Bool.and_eq_true, decide_eq_true_eq] at hl
  refine DatL.cons ?_ (ih hl.2)
  show bC K F (.str p.1) (kV q.1)
  rw [h.1]
  simp only [bC]
  exact ⟨rfl, by omega⟩
theorem bY4 {P : Program} {w : World} {k : bR} {v : Value} (h : (gF P w).is k v = true) : bW (kV k) v := by
 rcases mK (show qI k v = true from h) with ⟨i, t, rfl, rfl⟩ | ⟨x, t, rfl, rfl⟩
 ·exact ⟨t, rfl⟩
 ·exact ⟨t, rfl⟩
theorem dJ3 (hc : X.calm = true) : fZ X (.type "list") fun vs H Q => ∃ a kvs, vs = [.ref a] /\ Rd H a (.dK kvs) /\ ∀ l, H l = none -> Q (.ref l) (upd H l (.lst (kvs.map fun kv => kV kv.1))) := by
 intro pins s σ H xs us Q I r h
 obtain ⟨a, kvs, rfl, e, q⟩ := h
 obtain ⟨u, rfl, ru⟩ := qL r
 cases ru
 obtain ⟨z, lo, vs, rk, dd⟩ := lO I.hok e
 obtain ⟨ep, da⟩ := dd.dictAt
 have hl := rk.length
 refine kdl_call (kdl_dict lo) (I.ok.hd hc) da (by rw [<- hl]; exact z) fun h' tk acc c' kp hS hacc => ?_
 refine ⟨.ref s.heap.objs.size, _, I.laid (t' := tk) kp (Nat.le_refl _) (show fL X.prog X.w _ h' _ (.lst (kvs.map fun kv => kV kv.1)) from ⟨by rw [List.length_map]; exact z, acc.toList, c', ?_, by simpa using hS⟩), rfl, q _ (I.hok.fresh (Nat.le_refl _))⟩
 have key : ∀ (ks : List (bR × V)) (ws : List (bR × Value)) (ac : List Value), KV ks ws -> ac.length = ws.length -> (∀ (j : Nat) v, ac[j]? = some v -> ∃ k x, ws[j]? = some (k, x) /\ (gF X.prog X.w).is k v = true) -> cG (ks.map fun kv => kV kv.1) ac := by
  intro ks
  induction ks with
  | nil =>
   intro ws ac r hl _
   cases r
   cases ac with
   | nil => exact .nil
   | cons _ _ => cases hl
  | cons k ks ih =>
   intro ws ac r hl ha
   cases r with
   | @cons _ w0 _ ws r1 r2 =>
    cases ac with
    | nil => cases hl
    | cons v ac =>
     refine .cons ?_ (ih ws ac r2 (by simpa using hl) fun j v' e => ha (j + 1) v' e)
     obtain ⟨k', x', e1, e2⟩ := ha 0 v rfl
     cases e1
     show bW (kV k.1) v
     rw [r1.1]
     exact bY4 e2
 exact key kvs vs acc.toList rk (by rw [Array.length_toList]; exact hacc.1) fun j v e => hacc.2 j v (by rw [<- Array.getElem?_toList]; exact e)
noncomputable def bY5 (i : Nat) : ML := fun ρ => match gX ρ[i]? with
 | some T => mQ T
 | none => .bad
noncomputable def zZ (i : Nat) : ME := fun ρ => (bY5 i ρ).bind fun ks => .ok (.lst ks)
theorem dJ4 (hc : X.calm = true) (hv : hX X.N X.env.scope i x) (hg : Gl X "list") (hm : X.mg "list" = none) : IE X (.Call (.Name "list" p) [.Name x p2] [] pos) (zZ i) :=
 gN (yR (dJ3 hc) hg hm PyProof.Rows.boot_list (kR (jC hv.n hv.v hv.d hv.c) lX)) fun σ H Q ⟨ρ, F, E, q⟩ => by
 unfold zZ bY5 at q
 cases ht : gX ρ[i]? with
 | none => rw [ht] at q; exact q.elim
 | some T =>
  rw [ht] at q
  obtain ⟨a, kvs, z1, z2, z3⟩ := pO E ht
  have q : dC (bC X.K) F H ((mQ T).bind fun ks => .ok (.lst ks)) Q := q
  unfold mQ at q
  split at q
  ·rename_i hl
   refine ⟨.ref a, z1, a, kvs, rfl, z2, fun l hl' => q _ (upd F l (.lst (kvs.map fun kv => kV kv.1))) _ (bX.laid E.sub hl' _) ?_⟩
   simp only [bC]
   exact ⟨l, _, rfl, dN.of dY, (bY3 hl z3).mono (jD (bH.free E.sub hl') _)⟩
  ·exact q.elim
noncomputable def Itk (a : Addr) (ob : Obj) (kvs : List (bR × V)) : It := ⟨fun i H => H a = some (.frz ob (.dK kvs)) /\ i < kvs.length, fun i H x H' => H' = H /\ ∃ q, kvs[i]? = some q /\ x = kV q.1, fun i H => H a = some (.frz ob (.dK kvs)) /\ kvs.length <= i⟩
theorem bJ0 {X : Cx} {pins : List (Addr × Obj)} {σ : St} {H : Hp} {s : Shared} {a : Addr} {ob : Obj} {kvs : List (bR × V)} {es : Array DictEntry} {ep : Nat} (I : Inv X pins σ H s) (e : H a = some (.frz ob (.dK kvs))) (hd : ob.data = .dict es ep) : (a == sysModules) = false /\ ∃ vs, KV kvs vs /\ s.heap.DictAt (gF X.prog X.w) a vs ep := by
 obtain ⟨h1, _, lo, vs, rk, o', es', ep', e1, e2, e3, r⟩ := (show fL X.prog X.w H s.heap a (.frz ob (.dK kvs)) from I.hok a _ e)
 rw [h1] at e1; cases e1
 rw [hd] at e3; cases e3
 exact ⟨lo, vs, rk, ob, es, h1, e2, hd, r⟩
theorem dJ5 {kvs : List (bR × V)} {vs : List (bR × Value)} (r : KV kvs vs) {i : Nat} {q : bR × V} (h : kvs[i]? = some q) : ∃ u, vs[i]? = some (q.1, u) := by
 obtain ⟨y, h1, h2⟩ := jT r h
 exact ⟨y.2, by rw [h1, h2.1]⟩
theorem dJ6 {P : Program} {w : World} {K : W.Frag} {tg : Expr} {it a : Addr} {ob : Obj} {kvs : List (bR × V)} {es : Array DictEntry} {ep : Nat} (hd : ob.data = .dict es ep) : nD P w K tg (Itk a ob kvs) [it] it (fun i h => h.IsKeyIter it a i kvs.length ep) where
 mem := by simp
 obj := fun i h st b hb => by
  have e : b = it := by simpa using hb
  subst e
  obtain ⟨o, e, c, d⟩ := st
  exact ⟨o, e, fun v z => by rw [d] at z; cases z⟩
 keep := fun i h h' st k => let ⟨o, ho, r⟩ := st; ⟨o, k it (by simp) o ho, r⟩
 item := by
  intro X hP hw hK hc i pins s σ H E I hf st hg
  subst hP hw hK
  obtain ⟨f0, f1, f2, f3, f4, f5⟩ := hf it (by simp)
  obtain ⟨h1, h2⟩ := hg
  obtain ⟨lo, vs, rk, da⟩ := bJ0 I h1 hd
  have hl := rk.length
  obtain ⟨u, hu⟩ := dJ5 rk (List.getElem?_eq_getElem h2)
  refine wpAny_pyNext_dict_item (kvs := vs) (by rw [<- hl]; exact st) da hu fun key h' hk st' sb => ?_
  have I1 : Inv X pins σ H { s with heap := h' } := I.turned (t' := s.toks) (fun b o hb e => (sb.2 b hb).trans e) f0 f1 f3 f4 f5
  obtain ⟨o, e, c, d⟩ := id st'
  exact ⟨_, rfl, sK (s := { s with heap := h' }) e c d (by decide) ⟨kV kvs[i].1, H, I1, bY4 hk, ⟨rfl, _, List.getElem?_eq_getElem h2, rfl⟩, by rw [hl]; exact st', fun b hb => (hf b hb).1⟩⟩
 done := by
  intro X hP hw hK hc i pins s σ H E I hf st hg
  subst hP hw hK
  obtain ⟨f0, f1, f2, f3, f4, f5⟩ := hf it (by simp)
  obtain ⟨h1, h2⟩ := hg
  obtain ⟨lo, vs, rk, da⟩ := bJ0 I h1 hd
  have hl := rk.length
  exact wpAny_pyNext_dict_end (kvs := vs) (I.ok.hd hc) (by rw [<- hl]; exact st) da (List.getElem?_eq_none bE) fun h' eb => ⟨rfl, I.turned (t' := s.toks) (fun b o hb e => eb b o hb e) f0 f1 f3 f4 f5⟩
 self := fun A i s Q E st h => by
  obtain ⟨o, ho, hc, hdt⟩ := st
  exact wpAny_pyIter_keyiter ⟨o, ho, hc, hdt⟩ h
theorem dJ7 {K : W.Frag} {F : Hp} {a : Addr} {ob : Obj} {T : Tab} {kvs : List (bR × V)} (h : F a = some (.frz ob (.dK kvs))) (hl : (T.all fun p => decide (p.1.length <= 1000)) = true) (dt : dA K F T kvs) : kT K F (Itk a ob kvs) (T.map fun p => .str p.1) := fun n F2 H2 s1 s2 => by
 have hq := s2 _ _ (s1 _ _ h)
 have dl := bY3 hl dt
 have hn := dl.length
 rw [List.length_map, List.length_map] at hn
 refine ⟨fun d hd => ?_, fun e => ⟨hq, by rw [List.length_map] at e; omega⟩⟩
 obtain ⟨x, hx, dx⟩ := jT dl.paired hd
 have hlt : n < kvs.length := by
  have := (List.getElem?_eq_some_iff.mp hx).1
  rwa [List.length_map] at this
 refine ⟨⟨hq, hlt⟩, fun x' H' y => ?_⟩
 obtain ⟨rfl, q, e1, rfl⟩ := y
 rw [List.getElem?_map, e1] at hx
 cases hx
 exact ⟨F2, .refl s2, dx.mono s1⟩
noncomputable def xJ (i : Nat) : ML := fun ρ => match ρ[i]? with
 | some (.tab T) => mQ T
 | _ => .bad
theorem dJ8 {tg : Expr} (hv : hX X.N X.env.scope i x) : II X tg (.Name x p) (xJ i) := by
 intro pins s σ H R I ⟨ρ, F, E, q⟩
 unfold xJ at q
 cases hi : ρ[i]? with
 | none => rw [hi] at q; exact q.elim
 | some sl =>
  rw [hi] at q
  cases sl with
  | tab T =>
   have q : (match mQ T with
    | .ok ds => ∀ J F' H', bX F H F' H' -> kT X.K F' J ds -> R J H'
    | .ex _ => False
    | .bad => False) := q
   unfold mQ at q
   split at q
   ·rename_i ds hds
    split at hds
    ·rename_i hl
     cases hds
     obtain ⟨o, z1, a, kvs, rfl, ⟨ob, y1⟩, y3⟩ := E.at_ i _ hi
     have hH := E.sub _ _ y1
     refine cH ((jC hv.n hv.v hv.d hv.c : PE X (.Name x p) (yK i)) pins s σ H (fun x H1 => x = .ref a /\ H1 = H) I ⟨.ref a, z1, rfl, rfl⟩) fun v s1 ⟨x1, H1, I1, r1, e1, e2⟩ => ?_
     subst e1 e2
     cases r1
     obtain ⟨h1, _, _, _, _, o', es, ep, g1, _, hd, _⟩ := (show fL X.prog X.w H1 s1.heap a (.frz ob (.dK kvs)) from I1.hok a _ hH)
     rw [h1] at g1; cases g1
     obtain ⟨lo, vs, rk, da⟩ := bJ0 I1 hH hd
     refine wpAny_pyIter_dict lo da ?_
     refine ⟨s1.heap.objs.size, [s1.heap.objs.size], _, _, H1, rfl, I1.kept (t' := s1.toks) fun b o e => Heap.get?_push_of_some _ e, dJ6 (a := a) (kvs := kvs) hd, ⟨_, Heap.get?_push_size _ rfl, rfl, by show Data.fields #[.ref a, .int ((0 : Nat) : Int) 0, .int (vs.length : Int) 0, .int (ep : Int) 0] = _; rw [rk.length]⟩, fun b hb => ?_, q _ F H1 (.refl E.sub) (dJ7 y1 hl y3)⟩
     have e : b = s1.heap.objs.size := by simpa using hb
     subst e
     exact I1.fpOk (Nat.le_refl _) (I1.hok.fresh (Nat.le_refl _))
    ·cases hds
   ·exact q.elim
   ·exact q.elim
  | _ => exact q.elim
theorem dJ9 (hc : X.calm = true) : fZ X (.type "dict") fun vs H Q => ∃ a xs kvs, vs = [.ref a] /\ fB X.K H a xs /\ Paired (fun (x : V) (kv : bR × V) => ∃ b, x = .ref b /\ fB X.K H b [kV kv.1, kv.2]) xs kvs /\ kvs.length <= 1000 /\ ∀ l, H l = none -> Q (.ref l) (upd H l (.dK (sO [] kvs))) := by
 intro pins s σ H xs us Q I r h
 obtain ⟨a, xs, kvs, rfl, hq, hp, hl, q⟩ := h
 obtain ⟨u, rfl, ru⟩ := qL r
 cases ru
 obtain ⟨its, rv, ⟨o, ho, ⟨hcl, hdn⟩, n, hdat⟩, hz⟩ := I.tupleN hq
 have key : ∀ (xs : List V) (kvs : List (bR × V)) (its : List Value), Paired (fun (x : V) (kv : bR × V) => ∃ b, x = .ref b /\ fB X.K H b [kV kv.1, kv.2]) xs kvs -> cG xs its ->
  ∃ more, KV kvs more /\ its.length = more.length /\ ∀ (j : Nat) k v, more[j]? = some (k, v) -> ∃ p ky, its[j]? = some (.ref p) /\ s.heap.IsTuple p #[ky, v] /\ (gF X.prog X.w).is k ky = true := by
  intro xs kvs its hp
  induction hp generalizing its with
  | nil => intro rv; cases rv; exact ⟨[], .nil, rfl, fun j k v e => by simp at e⟩
  | @cons x kv xs kvs h t ih =>
   intro rv
   cases rv with
   | @cons _ w0 _ its r1 r2 =>
    obtain ⟨more, m1, m2, m3⟩ := ih its r2
    obtain ⟨b, rfl, hb⟩ := h
    cases r1
    obtain ⟨jts, rj, pj, _⟩ := I.tuple hb
    cases rj with
    | @cons _ ky _ _ k1 k2 =>
     cases k2 with
     | @cons _ w1 _ _ k3 k4 =>
      cases k4
      refine ⟨(kv.1, w1) :: more, .cons ⟨rfl, k3⟩ m1, by simp [m2], fun j k v e => ?_⟩
      cases j with
      | zero => cases e; exact ⟨b, ky, rfl, pj, pF k1⟩
      | succ j => exact m3 j k v e
 obtain ⟨more, m1, m2, m3⟩ := key xs kvs its hp rv
 have ho' : s.heap.get? a = some ⟨.type "tuple", none, .seq its.toArray n, o.slots⟩ := by
  rw [ho]; cases o; simp only at hcl hdn hdat; subst hcl hdn hdat; rfl
 have hml := m1.length
 refine dJ1 (knd := gF X.prog X.w) (more := more) (I.ok.hd hc) ho' ⟨by rw [List.size_toArray]; exact m2, fun j k v e => let ⟨p, ky, g1, g2⟩ := m3 j k v e; ⟨p, ky, by rw [List.getElem?_toArray]; exact g1, g2⟩⟩ bE fun h' tk dd kp => ?_
 have hz' := sizeLine_eq
 refine ⟨.ref s.heap.objs.size, _, I.laid (t' := tk) kp (Nat.le_refl _) (yX (kvs := sO [] kvs) (vs := merged [] more) (by have := bR5 kvs []; simp only [List.length_nil, Nat.zero_add] at this; omega) ?_ (KV.merge m1 .nil) dd), rfl, q _ (I.hok.fresh (Nat.le_refl _))⟩
 have := I.big
 exact beq_eq_false_iff_ne.mpr (Nat.ne_of_gt this)
noncomputable def pairsOf : List D -> Option Tab
 | [] => some []
 | .tup [.str k, v] :: r => (pairsOf r).map ((k, v) :: ·)
 | _ => none
noncomputable def qY (T ps : Tab) : Tab := ps.foldl (fun T p => dG T p.1 p.2) T
theorem dA.merge {K : W.Frag} {F : Hp} {ps : Tab} {more : List (bR × V)} (h : dA K F ps more) : ∀ {T : Tab} {kvs : List (bR × V)}, dA K F T kvs -> dA K F (qY T ps) (sO kvs more) := by
 unfold dA at h
 induction h with
 | nil => exact fun h => h
 | @cons p q ps qs h t ih =>
  intro T kvs d
  have h1 := d.put (k := p.1) h.2
  rw [<- h.1] at h1
  exact ih h1
theorem bY7 {K : W.Frag} {F : Hp} : ∀ {ds : List D} {xs : List V} {ps : Tab}, pairsOf ds = some ps -> DatL K F ds xs -> ∃ kvs, dA K F ps kvs /\ Paired (fun (x : V) (kv : bR × V) => ∃ b, x = .ref b /\ fB K F b [kV kv.1, kv.2]) xs kvs
 | [], xs, ps, h, l => by
  simp only [DatL] at l
  subst l
  cases h
  exact ⟨[], .nil, .nil⟩
 | d :: ds, xs, ps, h, l => by
  unfold pairsOf at h
  split at h
  ·rename_i e1; exact absurd e1 (by simp)
  ·rename_i k v r e
   cases e
   cases hr : pairsOf ds with
   | none => rw [hr] at h; cases h
   | some T =>
    rw [hr] at h
    cases h
    simp only [DatL] at l
    obtain ⟨x, xs, rfl, hd, hl⟩ := l
    obtain ⟨kvs, h1, h2⟩ := bY7 hr hl
    simp only [bC] at hd
    obtain ⟨b, ys, rfl, hb, hy⟩ := hd
    simp only [DatL, bC] at hy
    obtain ⟨_, _, rfl, ⟨rfl, _⟩, y, _, rfl, hy, rfl⟩ := hy
    exact ⟨(.inr k, y) :: kvs, .cons ⟨rfl, hy⟩ h1, .cons ⟨b, rfl, hb⟩ h2⟩
  ·cases h
noncomputable def tN (i : Nat) (t : MT) (f : ME) : MS := fun ρ => (t ρ).bind fun c => match c with
 | true => .ok (.nx (ρ.set i (.dic false [])))
 | false => (f ρ).bind fun d => match d with
  | .tup ds => match pairsOf ds with
   | some ps => if ps.length <= 1000 then .ok (.nx (ρ.set i (.dic false (qY [] ps)))) else .bad
   | none => .bad
  | _ => .bad
theorem dK0 {t : MT} {c : Expr} (hcm : X.calm = true) (hN : X.N.Nodup) (hi : X.N[i]? = some x) (hx : Loc X.env.scope x) (hf : X.fn x = true \/ X.env.scope.names.lookup x = some .local) (hc : IT X c t) (hg : Gl X "dict") (hm : X.mg "dict" = none) (hst : jY e = false) (he : IE X e f)
 (hs : swapsWith (.IfExp c (.Dict [] [] lp) (.Call (.Name "dict" p2) [e] [] cp2) cp) (some (.Name x p)) pos.line X.env = pure false) : IS X (.Assign [.Name x p] (.IfExp c (.Dict [] [] lp) (.Call (.Name "dict" p2) [e] [] cp2) cp) pos) (tN i t f) := fun F₀ H₀ =>
 gT (pB (i := i) hN hi hx (cJ5 hc bR4 (yR (dJ9 hcm) hg hm PyProof.Rows.boot_dict (kR he lX (kW hst)) (by decide) (by decide) (kW hst) (qS rfl))) hs hf) fun E σ H ⟨ρ, F, S, q⟩ => ⟨ρ, F, S.env, by
 unfold tN at q
 revert q
 cases t ρ with
 | ok c =>
  intro q v F1 H1 g1 e1
  cases (show c = v from e1)
  have S1 := S.grow g1
  cases c with
  | true => exact pE fun l hl => q _ F1 _ (xE S1 (bX.laidN g1.sub hl _) hl dY (bH.free g1.sub hl) .nil i)
  | false =>
   refine pD ⟨ρ, F1, S1.env, ?_⟩
   have q : fC X F₀ H₀ ((f ρ).bind fun d => match d with
    | .tup ds => match pairsOf ds with
     | some ps => if ps.length <= 1000 then .ok (.nx (ρ.set i (.dic false (qY [] ps)))) else .bad
     | none => .bad
    | _ => .bad) E := q
   revert q
   cases f ρ with
   | ok d =>
    intro q v2 F2 H2 g2 d2
    have S2 := S1.grow g2
    cases d with
    | tup ds =>
     have q : fC X F₀ H₀ (match pairsOf ds with
      | some ps => if ps.length <= 1000 then .ok (.nx (ρ.set i (.dic false (qY [] ps)))) else .bad
      | none => .bad) E := q
     split at q
     ·rename_i ps hps
      split at q
      ·rename_i hl
       simp only [bC] at d2
       obtain ⟨a, xs, rfl, hq, dl⟩ := d2
       obtain ⟨kvs, k1, k2⟩ := bY7 hps dl
       refine ⟨a, xs, kvs, rfl, bH.seqT g2.sub hq, Paired.mapP k2 fun x kv ⟨b, e1, e2⟩ => ⟨b, e1, bH.seqT g2.sub e2⟩, by rw [<- k1.length]; exact hl, fun l hl => ?_⟩
       exact q _ F2 _ (xE S2 (bX.laidN g2.sub hl _) hl dY (bH.free g2.sub hl) (dA.merge k1 .nil) i)
      ·exact q.elim
     ·exact q.elim
    | _ => exact q.elim
   | ex _ => exact fun q => q
   | bad => exact fun q => q
 | ex _ => exact fun q => q
 | bad => exact fun q => q⟩
noncomputable def tDrop (T : Tab) (k : Str) : Tab := T.filter fun p => decide (p.1 ≠ k)
theorem dA.drop {K : W.Frag} {F : Hp} {T : Tab} {kvs : List (bR × V)} (h : dA K F T kvs) (k : Str) : dA K F (tDrop T k) (lB kvs (.inr k)) := by
 unfold dA at h
 induction h with
 | nil => exact .nil
 | @cons p q ps qs h t ih =>
  by_cases e : p.1 = k
  ·have e1 : tDrop (p :: ps) k = tDrop ps k := by simp [tDrop, List.filter_cons, e]
   rw [e1, cV6 (by rw [h.1, e])]; exact ih
  ·have e1 : tDrop (p :: ps) k = p :: tDrop ps k := by simp [tDrop, List.filter_cons, e]
   rw [e1, cV7 (by rw [h.1]; exact bI0 e)]; exact .cons h ih
noncomputable def bY8 (i : Nat) (g : ME) (u : MS) (ρ : bJ) (p : Bool) (T : Tab) (k : Str) : Option D -> bD Fl
 | some (.int v) => (g (ρ.set i (.dic p (tDrop T k)))).bind fun dc => match dc with
  | .int c => if v = c then .ok (.nx (ρ.set i (.dic p (tDrop T k)))) else u (ρ.set i (.dic p (tDrop T k)))
  | _ => .bad
 | _ => .bad
noncomputable def bJ1 (i : Nat) (g : ME) (u : MS) (ρ : bJ) : Option Slot -> D -> bD Fl
 | some (.dic p T), .str k => bY8 i g u ρ p T k (dD T k)
 | _, _ => .bad
noncomputable def xK (i : Nat) (f g : ME) (u : MS) : MS := fun ρ => (f ρ).bind fun dk => bJ1 i g u ρ ρ[i]? dk
theorem dK1 {c : Expr} {body : List Stmt} {u : MS} {lpos : Pos} (hv : hX X.N X.env.scope i x) (he : IE X e f) (hc : IE X c g) (hb : gB X body u) (m : M1 X (.Name x p) "pop" ap e cp) : IS X (.If (.Compare (.Call (.Attribute (.Name x p) "pop" ap) [e] [] cp) [.NotEq] [c] lpos) body [] pos) (xK i f g u) := fun F₀ H₀ =>
 gT (bO6 (bE4 bE3 (cV4 (jC hv.n hv.v hv.d hv.c) he m) hc (qK _)) (hb F₀ H₀) bO5) fun E σ H ⟨ρ, F, S, q⟩ => by
 unfold xK at q
 revert q
 cases hf : f ρ with
 | ok dk =>
  intro q
  replace q : fC X F₀ H₀ (bJ1 i g u ρ ρ[i]? dk) E := q
  unfold bJ1 at q
  split at q
  ·rename_i b T k hi
   obtain ⟨o, z1, a, kvs, rfl, y0, y1, y2, y3⟩ := S.env.at_ i _ hi
   refine ⟨.ref a, z1, a, rfl, .inl ⟨kvs, .inl y1⟩, ρ, F, S.env, ?_⟩
   rw [hf]
   intro v F1 H1 g1 d1
   simp only [bC] at d1
   obtain ⟨rfl, _⟩ := d1
   have S1 := S.grow g1
   have a1 : H1 a = some (.dK kvs) := g1.same _ _ rfl y1
   have f1 : F1 a = none := g1.new a y2 (by rw [y1]; simp)
   have S2 := xD S1 hi z1 (bW6 (kvs' := lB kvs (.inr k)) g1.sub f1 a1) dY f1 ((y3.mono g1.fs).drop k)
   rcases y3.val k with ⟨h1, h2⟩ | ⟨d, v', h1, h2, h3⟩
   ·rw [h1] at q; exact q.elim
   ·rw [h1] at q
    refine ⟨kvs, .inr k, v', a1, rfl, h2, ρ.set i (.dic b (tDrop T k)), F1, S2.env, ?_⟩
    cases d with
    | int w =>
     have q : fC X F₀ H₀ ((g (ρ.set i (.dic b (tDrop T k)))).bind fun dc => match dc with
      | .int c => if w = c then .ok (.nx (ρ.set i (.dic b (tDrop T k)))) else u (ρ.set i (.dic b (tDrop T k)))
      | _ => .bad) E := q
     simp only [bC] at h3
     subst h3
     revert q
     cases g (ρ.set i (.dic b (tDrop T k))) with
     | ok dc =>
      intro q v2 F2 H2 g2 d2
      have S3 := S2.grow g2
      cases dc with
      | int c =>
       simp only [bC] at d2
       subst d2
       have q : fC X F₀ H₀ (if w = c then .ok (.nx (ρ.set i (.dic b (tDrop T k)))) else u (ρ.set i (.dic b (tDrop T k)))) E := q
       refine ⟨rfl, _, rfl, ?_⟩
       by_cases hw : w = c
       ·rw [if_pos hw] at q
        have e0 : (!decide (V.int w = V.int c)) = false := by simp [hw]
        rw [e0]
        exact pD (q _ F2 H2 S3)
       ·rw [if_neg hw] at q
        have e0 : (!decide (V.int w = V.int c)) = true := by simp [hw]
        rw [e0]
        exact pE ⟨_, F2, S3, q⟩
      | _ => exact q.elim
     | ex _ => exact fun q => q
     | bad => exact fun q => q
    | _ => exact q.elim
  ·exact q.elim
 | ex _ => exact fun q => q.elim
 | bad => exact fun q => q.elim
noncomputable def bJ2 (i : Nat) (m : List Slot -> Tab -> bD (D × Tab)) (fa : kX) : MS := fun ρ => match ρ[i]? with
 | some (.dic _ T) => ((fa ρ).bind fun sl => m sl T).bind fun r => .ok (.rt r.1)
 | _ => .bad
theorem dK2 {c : Expr} {m : List Slot -> Tab -> bD (D × Tab)} {fa : kX} (hc : PE X c fun σ H Q => ∃ ρ F b T a, gA X.K F H ρ σ /\ ρ[i]? = some (.dic b T) /\ σ[i]? = some (some (.ref a)) /\ pQ X.K F H a ((fa ρ).bind fun sl => m sl T) Q) : IS X (.Return (some c) pos) (bJ2 i m fa) := fun F₀ H₀ =>
 gT (wD hc) fun E σ H ⟨ρ, F, S, q⟩ => by
 unfold bJ2 at q
 split at q
 ·rename_i b T hi
  obtain ⟨o, z1, a, kvs, rfl, y0, y1, y2, y3⟩ := S.env.at_ i _ hi
  refine ⟨ρ, F, b, T, a, S.env, hi, z1, ?_⟩
  revert q
  cases (fa ρ).bind fun sl => m sl T with
  | ok r => exact fun q v F' H' kvs' g ha fa' dt dv => q v F' H' (xD S hi z1 g ha fa' dt).gr dv
  | ex _ => exact fun q => q
  | bad => exact fun q => q
 ·exact q.elim
noncomputable def eqT : Tab -> Tab -> Bool
 | [], [] => true
 | p :: ps, q :: qs => p.1 == q.1 && (decide (gD p.2 <= 50) && (fQ p.2 q.2 && eqT ps qs))
 | _, _ => false
theorem bY9 : ∀ {T U : Tab}, eqT T U = true -> T.length = U.length
 | [], [], _ => rfl
 | [], _ :: _, h => by cases h
 | _ :: _, [], h => by cases h
 | p :: ps, q :: qs, h => by
  unfold eqT at h
  rw [Bool.and_eq_true, Bool.and_eq_true, Bool.and_eq_true] at h
  rw [List.length_cons, List.length_cons, bY9 h.2.2.2]
noncomputable def bA0 (i j : Nat) : MT := fun ρ => match gX ρ[i]?, gX ρ[j]? with
 | some T, some U => if eqT T U = true then .ok false else .bad
 | _, _ => .bad
theorem bZ0 {pins : List (Addr × Obj)} {σ : St} {H F : Hp} {s : Shared} {A : Around} (I : Inv X pins σ H s) (sb : bH F H) (hu : A.units + 50 < cLine) {kb : List (bR × Value)} : ∀ {T U : Tab} {kvs kws : List (bR × V)} {ka kc : List (bR × Value)}, eqT T U = true -> dA X.K F T kvs -> dA X.K F U kws -> KV kvs ka -> KV kws kc -> (∀ q ∈ kc, valueAt kb q.1 = some q.2) -> KeqHits A s kb ka true
 | [], [], _, _, _, _, _, d1, _, r1, _, _ => by cases d1; cases r1; exact .nil
 | [], _ :: _, _, _, _, _, h, _, _, _, _, _ => by cases h
 | _ :: _, [], _, _, _, _, h, _, _, _, _, _ => by cases h
 | p :: ps, q :: qs, _, _, _, _, h, d1, d2, r1, r2, hm => by
  unfold eqT at h
  rw [Bool.and_eq_true, Bool.and_eq_true, Bool.and_eq_true, decide_eq_true_eq] at h
  obtain ⟨h1, h2, h3, h4⟩ := h
  cases d1 with
  | @cons _ kv _ kvs e1 t1 =>
   cases d2 with
   | @cons _ kw _ kws e2 t2 =>
    cases r1 with
    | @cons _ u _ ka f1 g1 =>
     cases r2 with
     | @cons _ v _ kc f2 g2 =>
      have hq := (wV I sb 50 A p.2 q.2 kv.2 kw.2 u.2 v.2 h2 hu e1.2 e2.2 f1.2 f2.2).2
      rw [h3] at hq
      have hk : u.1 = v.1 := by rw [<- f1.1, <- f2.1, e1.1, e2.1, eq_of_beq h1]
      have hv := hm v List.mem_cons_self
      rw [<- hk] at hv
      exact KeqHits.hit (k := u.1) (v := u.2) (e := true) (b := true) hv hq (bZ0 I sb hu h4 t1 t2 g1 g2 fun q hq => hm q (List.mem_cons_of_mem _ hq))
theorem dK3 (hu : X.A.units + 100 < cLine) : cT X (compareOp .NotEq) (fun x y H Q => ∃ a b F T U kvs kws, x = .ref a /\ y = .ref b /\ bH F H /\ Rd H a (.dK kvs) /\ Rd H b (.dK kws) /\ dA X.K F T kvs /\ dA X.K F U kws /\ eqT T U = true /\ Q (.bl false) H) := by
 intro pins s σ H x y v u Q I rx ry h
 obtain ⟨a, b, F, T, U, kvs, kws, rfl, rfl, sb, h1, h2, d1, d2, he, q⟩ := h
 cases rx
 cases ry
 obtain ⟨_, la, ka, ra, da⟩ := lO I.hok h1
 obtain ⟨_, lb, kb, rb, db⟩ := lO I.hok h2
 have hn : (kb.map (·.1)).Nodup := let ⟨_, _, _, _, _, _, _, _, hn⟩ := db; hn
 have hl : ka.length = kb.length := by rw [<- ra.length, <- rb.length, <- d1.length, <- d2.length]; exact bY9 he
 refine keq_ne la lb da db bE (fun _ => bZ0 (A := X.A.in1) I sb (by have : X.A.in1.units <= X.A.units + 1 := Nat.le_refl _; omega) he d1 d2 ra rb fun q hq => ?_) ?_
 ·obtain ⟨n, hn', e⟩ := List.mem_iff_getElem.mp hq
  exact valueAt_of_get hn (i := n) (by rw [List.getElem?_eq_getElem hn', e])
 ·have e0 : (!(ka.length == kb.length && true)) = false := by simp [hl]
  rw [e0]
  exact ⟨.bl false, H, I, rfl, q⟩
theorem dK4 (hu : X.A.units + 100 < cLine) (hv : hX X.N X.env.scope i x) (hw : hX X.N X.env.scope j y) : IT X (.Compare (.Name x p) [.NotEq] [.Name y p2] pos) (bA0 i j) :=
 sQ (bE4 (dK3 hu) (jC hv.n hv.v hv.d hv.c) (jC hw.n hw.v hw.d hw.c) (qK _)) fun σ H Q ⟨ρ, F, E, q⟩ => by
 unfold bA0 at q
 split at q
 ·rename_i T U h1 h2
  split at q
  ·rename_i he
   obtain ⟨a, kvs, z1, z2, z3⟩ := pO E h1
   obtain ⟨b, kws, y1, y2, y3⟩ := pO E h2
   exact ⟨.ref a, z1, .ref b, y1, a, b, F, T, U, kvs, kws, rfl, rfl, E.sub, z2, y2, z3, y3, he, false, rfl, q _ F H (.refl E.sub) rfl⟩
  ·exact q.elim
 ·exact q.elim
noncomputable def bA1 : D -> D -> bD D
 | .non, .non => .ok (.bl false)
 | .tup [.str a, .str b], .tup [.str c, .str d] => .ok (.bl (!(a == c && b == d)))
 | _, _ => .bad
theorem dK5 (hu : X.A.units + 100 < cLine) : cT X (compareOp .NotEq) (rD X bA1) := by
 intro pins s σ H x y v u Q I rx ry h
 obtain ⟨F, d1, d2, sb, h1, h2, q⟩ := h
 unfold bA1 at q
 split at q
 ·simp only [bC] at h1 h2
  subst h1 h2
  cases rx; cases ry
  exact (SeqAt.RcNeAt.none_none : SeqAt.RcNeAt X.A s .none .none false) X.prog X.w X.xe _ ⟨.bl false, H, I, rfl, cK q sb (by simp only [bC])⟩
 ·rename_i a b c d
  simp only [bC] at h1 h2
  obtain ⟨p1, xs, rfl, s1, l1⟩ := h1
  obtain ⟨p2, ys, rfl, s2, l2⟩ := h2
  simp only [DatL, bC] at l1 l2
  obtain ⟨_, _, rfl, ⟨rfl, _⟩, _, _, rfl, ⟨rfl, _⟩, rfl⟩ := l1
  obtain ⟨_, _, rfl, ⟨rfl, _⟩, _, _, rfl, ⟨rfl, _⟩, rfl⟩ := l2
  cases rx; cases ry
  obtain ⟨i1, r1, t1, _⟩ := I.tuple (bH.seqT sb s1)
  obtain ⟨i2, r2, t2, _⟩ := I.tuple (bH.seqT sb s2)
  cases r1 with
  | cons k1 r1 => cases r1 with
   | cons k2 r1 => cases r1; cases r2 with
    | cons k3 r2 => cases r2 with
     | cons k4 r2 =>
      cases r2
      obtain ⟨u1, rfl⟩ := k1
      obtain ⟨u2, rfl⟩ := k2
      obtain ⟨u3, rfl⟩ := k3
      obtain ⟨u4, rfl⟩ := k4
      have key := SeqAt.RcNeAt.tuples (e := fun n => if n = 0 then a == c else b == d) (A := X.A) t1 t2 bE (fun j h1 h2 => by
       have hj : j = 0 \/ j = 1 := by simp at h1; omega
       rcases hj with rfl | rfl
       ·exact SeqAt.EqAt.str_str a u1 c u3
       ·exact SeqAt.EqAt.str_str b u2 d u4)
      refine key X.prog X.w X.xe _ ⟨.bl _, H, I, rfl, ?_⟩
      have := cK q sb (b := V.bl (!(a == c && b == d))) (by simp only [bC])
      simpa [List.range_succ] using this
 ·exact q.elim
noncomputable def bZ1 (i1 i2 i3 i4 i5 : Nat) (f : ME) : MS := fun ρ => (f ρ).bind fun d => match d with
 | .tup [a, b, c, d, e] => .ok (.nx (((((ρ.set i1 (.val a)).set i2 (.val b)).set i3 (.val c)).set i4 (.val d)).set i5 (.val e)))
 | _ => .bad
theorem dK6 {x1 x2 x3 x4 x5 : Str} {p1 p2 p3 p4 p5 pt : Pos} {i1 i2 i3 i4 i5 k : Nat} (hc : X.calm = true) (hN : X.N.Nodup) (h1 : X.N[i1]? = some x1) (l1 : Loc X.env.scope x1) (h2 : X.N[i2]? = some x2) (l2 : Loc X.env.scope x2) (h3 : X.N[i3]? = some x3) (l3 : Loc X.env.scope x3) (h4 : X.N[i4]? = some x4) (l4 : Loc X.env.scope x4) (h5 : X.N[i5]? = some x5) (l5 : Loc X.env.scope x5)
 (hf : ∀ x, X.fn x = true) (hs : swapsWithSole [.Tuple [.Name x1 p1, .Name x2 p2, .Name x3 p3, .Name x4 p4, .Name x5 p5] k pt] e pos.line X.env = pure false) (hw : swappedStores [.Tuple [.Name x1 p1, .Name x2 p2, .Name x3 p3, .Name x4 p4, .Name x5 p5] k pt] e X.env = pure none) (he : IE X e f) :
 IS X (.Assign [.Tuple [.Name x1 p1, .Name x2 p2, .Name x3 p3, .Name x4 p4, .Name x5 p5] k pt] e pos) (bZ1 i1 i2 i3 i4 i5 f) := fun F₀ H₀ =>
 gT (bO7 he (bD9 hc (nC (fY hN h1 l1 (.inl (hf _))) (nC (fY hN h2 l2 (.inl (hf _))) (nC (fY hN h3 l3 (.inl (hf _))) (nC (fY hN h4 l4 (.inl (hf _))) (nC (fY hN h5 l5 (.inl (hf _))) bD8 rfl) rfl) rfl) rfl) rfl) rfl rfl) hs hw rfl) fun E σ H q =>
 wS (k := fun d ρ => match d with | .tup [a, b, c, d, e] => .ok (.nx (((((ρ.set i1 (.val a)).set i2 (.val b)).set i3 (.val c)).set i4 (.val d)).set i5 (.val e))) | _ => .bad) (fun ρ F H d v S r q => by
  split at q
  ·simp only [bC] at r
   obtain ⟨p, xs, rfl, g1, l1⟩ := r
   simp only [DatL] at l1
   obtain ⟨y1, _, rfl, h1, y2, _, rfl, h2, y3, _, rfl, h3, y4, _, rfl, h4, y5, _, rfl, h5, rfl⟩ := l1
   exact ⟨p, _, rfl, bH.seqT S.env.sub g1, rfl, y1, _, rfl, y2, _, rfl, y3, _, rfl, y4, _, rfl, y5, _, rfl, rfl, q _ F H (((((S.set i1 h1).set i2 h2).set i3 h3).set i4 h4).set i5 h5)⟩
  ·exact q.elim) q
end
end R
end
section
namespace R
open PySem PySem.Spec PyProof.Rows L2
noncomputable def mP (m : List Slot -> bD D) (fa : bJ -> bD (List Slot)) : ME := fun ρ => (fa ρ).bind m
noncomputable def qZ (T : Tab) : D := .lst (T.map fun p => .tup [.str p.1, p.2])
noncomputable def bA2 : D -> Option Tab
 | .lst ds => pairsOf ds
 | _ => none
theorem bZ2 (T : Tab) : bA2 (qZ T) = some T := by
 show pairsOf (T.map fun p => .tup [.str p.1, p.2]) = some T
 induction T with
 | nil => rfl
 | cons p T ih => rw [List.map_cons, pairsOf, ih]; rfl
noncomputable def mR (m : List D -> bD D) : List Slot -> bD D
 | [.val u, .tab T, .val f] => m [u, qZ T, f]
 | _ => .bad
end R
end
section
namespace R
open PySem PySem.Spec PyProof.Rows L2
variable [bN] [Pd]
structure Ga where
 N : List Str
 nm : List (Str × NameKind)
 fs : List (Str × (List D -> bD D))
 cs : List (Str × D)
 bs : List Str
 cp : List ((Nat × Nat) × List Str)
structure dX (k : Nat) (Γ : Ga) (X : Cx) : Prop where
 hN : X.N = Γ.N
 hS : X.env.scope.names = Γ.nm
 hk : X.env.scope.kind = .function
 nd : X.N.Nodup
 cm : X.calm = true
 fs : ∀ x m, Γ.fs.lookup x = some m -> fN X.prog X.w X.K X.mg X.base k x m
 cs : ∀ x d, Γ.cs.lookup x = some d -> qR X.K X.mg x d
 bs : ∀ x, Γ.bs.contains x = true -> X.mg x = none
 rm : dZ k X.A
noncomputable def ob {α β : Type} (o : Option α) (f : α -> Option β) : Option β := match o with
 | some a => f a
 | none => none
noncomputable def og {α : Type} (c : Bool) (o : Option α) : Option α := match c with
 | true => o
 | false => none
theorem cF {α β : Type} {o : Option α} {f : α -> Option β} {b : β} (h : ob o f = some b) : ∃ a, o = some a /\ f a = some b := by
 cases o with
 | none => cases h
 | some a => exact ⟨a, rfl, h⟩
theorem gY {α : Type} {c : Bool} {o : Option α} {b : α} (h : og c o = some b) : c = true /\ o = some b := by
 cases c with
 | false => cases h
 | true => exact ⟨rfl, h⟩
noncomputable def tO (x : Str) : List Str -> Option Nat
 | [] => none
 | y :: r => match y == x with
  | true => some 0
  | false => ob (tO x r) fun i => some (i + 1)
theorem bJ3 {x : Str} : ∀ {l : List Str} {i : Nat}, tO x l = some i -> l[i]? = some x
 | [], _, h => by cases h
 | y :: r, i, h => by
  unfold tO at h
  split at h
  ·rename_i e; cases h; rw [eq_of_beq e]; rfl
  ·obtain ⟨j, hj, e⟩ := cF h
   cases e
   rw [List.getElem?_cons_succ]; exact bJ3 hj
noncomputable def vk : Option NameKind -> Bool
 | some .local => true
 | some .cell => true
 | some .free => true
 | _ => false
noncomputable def idx (Γ : Ga) (x : Str) : Option Nat := og (vk (Γ.nm.lookup x) && (!(x == ("__debug__" : Str)) && !(x == ("__classdict__" : Str)))) (tO x Γ.N)
noncomputable def gl (Γ : Ga) (x : Str) : Bool := (match Γ.nm.lookup x with
 | some .globalImplicit => true
 | _ => false) && !(x == ("__debug__" : Str))
section
variable {k : Nat} {Γ : Ga} {X : Cx} {x : Str}
theorem cU {i : Nat} (G : dX k Γ X) (h : idx Γ x = some i) : hX X.N X.env.scope i x := by
 obtain ⟨h1, h2⟩ := gY h
 rw [Bool.and_eq_true, Bool.and_eq_true, Bool.not_eq_true', Bool.not_eq_true'] at h1
 refine ⟨by rw [G.hN]; exact bJ3 h2, ?_, h1.2.1, h1.2.2⟩
 rw [G.hS]
 have hv := h1.1
 revert hv
 cases Γ.nm.lookup x with
 | none => exact fun z => by cases z
 | some q => cases q <;> intro z <;> first | exact .inl rfl | exact .inr (.inl rfl) | exact .inr (.inr rfl) | cases z
theorem tP (G : dX k Γ X) (h : gl Γ x = true) : X.env.scope.names.lookup x = some .globalImplicit /\ (x == ("__debug__" : Str)) = false := by
 unfold gl at h
 rw [Bool.and_eq_true, Bool.not_eq_true'] at h
 refine ⟨?_, h.2⟩
 rw [G.hS]
 have hv := h.1
 split at hv
 ·rename_i e; exact e
 ·cases hv
end
structure Rc where
 E : Ga -> Expr -> Option ME
 T : Ga -> Expr -> Option MT
structure jG (k : Nat) (r : Rc) : Prop where
 E : ∀ {Γ X e f}, dX k Γ X -> r.E Γ e = some f -> IE X e f
 T : ∀ {Γ X e f}, dX k Γ X -> r.T Γ e = some f -> IT X e f
noncomputable def bZ3 : Operator -> Option (D -> D -> bD D)
 | .Add => some bO
 | .Sub => some jF
 | .Mult => some gJ
 | .FloorDiv => some cE
 | .Mod => some bP
 | _ => none
noncomputable def bZ4 : CmpOp -> Option (D -> D -> bD D)
 | .Eq => some cD
 | .NotEq => some lF
 | .Lt => some dH
 | .LtE => some dLe
 | .Gt => some kI
 | .GtE => some wT
 | .In => some (gE false)
 | .NotIn => some (gE true)
 | .Is => some (dO false)
 | .IsNot => some (dO true)
noncomputable def bJ5 (x : Str) : Option (List D -> bD D) :=
 if x == "len" then some cI else if x == "min" then some xC else if x == "max" then some tG else if x == "list" then some jW else if x == "tuple" then some jL else none
noncomputable def tyM (x : Str) : Option String :=
 if x == "tuple" then some "tuple" else none
section
variable {k : Nat} {Γ : Ga} {X : Cx} {x : Str} {m : D -> D -> bD D}
theorem dK7 {op : Operator} (h : bZ3 op = some m) : cT X (binaryOp op) (rD X m) := by
 cases op <;> cases h
 ·exact cZ4
 ·exact cZ6
 ·exact dA0
 ·exact cZ8
 ·exact cZ7
theorem bZ5 {op : CmpOp} (hr : dZ k X.A) (h : bZ4 op = some m) : cT X (compareOp op) (rD X m) := by
 cases op <;> cases h
 ·exact dA4 (bH1 hr)
 ·exact bW0
 ·exact bT5
 ·exact dA3
 ·exact bT6
 ·exact bT7
 ·exact dF5
 ·exact dF6
 ·exact bV2 (zN hr)
 ·exact bV3 (zN hr)
theorem dK8 {m : List D -> bD D} (hc : X.calm = true) (h : bJ5 x = some m) : (∃ id, fZ X (.builtin id) (pI X m) /\ bootBuiltins x = some (.builtin id)) \/ ∃ id, fZ X (.type id) (pI X m) /\ bootBuiltins x = some (.type id) := by
 unfold bJ5 at h
 split at h
 ·rename_i e; cases eq_of_beq e; cases h; exact .inl ⟨_, dA7, PySem.boot_len⟩
 split at h
 ·rename_i e; cases eq_of_beq e; cases h; exact .inl ⟨_, dH4 hc, PyProof.Rows.boot_min⟩
 split at h
 ·rename_i e; cases eq_of_beq e; cases h; exact .inl ⟨_, dH5 hc, PyProof.Rows.boot_max⟩
 split at h
 ·rename_i e; cases eq_of_beq e; cases h; exact .inr ⟨_, dA8, PyProof.Rows.boot_list⟩
 split at h
 ·rename_i e; cases eq_of_beq e; cases h; exact .inr ⟨_, dA9, PyProof.Rows.boot_tuple⟩
 cases h
theorem dK9 {T : String} (h : tyM x = some T) : sY X.K T /\ bootBuiltins x = some (.type T) /\ (x == ("__name__" : Str)) = false := by
 unfold tyM at h
 split at h
 ·rename_i e; cases eq_of_beq e; cases h; exact ⟨dD5 _, PyProof.Rows.boot_tuple, by decide +kernel⟩
 cases h
end
end R
end
section
namespace R
open PySem PySem.Spec PyProof.Rows L2
variable [bN] [Pd]
noncomputable def rA (r : Rc) (Γ : Ga) : List Expr -> Option MA
 | [] => some bA
 | e :: es => og (!jY e) (ob (r.E Γ e) fun f => ob (rA r Γ es) fun g => some (aC f g))
noncomputable def rV (r : Rc) (Γ : Ga) (op : BoolOp) : List Expr -> Option ME
 | [] => none
 | [a] => r.E Γ a
 | a :: b :: rest => ob (r.E Γ a) fun f => ob (rV r Γ op (b :: rest)) fun g => match op with
  | .And => some (pH f g)
  | .Or => some (vOr f g)
noncomputable def rW (r : Rc) (Γ : Ga) (op : BoolOp) : List Expr -> Option MT
 | [] => none
 | [a] => r.T Γ a
 | a :: b :: rest => ob (r.T Γ a) fun f => ob (rW r Γ op (b :: rest)) fun g => match op with
  | .And => some (dM f g)
  | .Or => some (jE f g)
noncomputable def rO (r : Rc) (Γ : Ga) : Option Expr -> Option MO
 | none => some gU
 | some e => ob (r.E Γ e) fun f => some (gW f)
noncomputable def cM (r : Rc) (Γ : Ga) (a : Expr) : List CmpOp -> List Expr -> Option ME
 | [op], [b] => og (!behindInMarks op b) (ob (bZ4 op) fun m => ob (r.E Γ a) fun f => ob (r.E Γ b) fun g => some (m2 m f g))
 | _, _ => none
noncomputable def sE (r : Rc) (Γ : Ga) (a : Expr) : Expr -> Option ME
 | .Slice lo hi none _ => ob (r.E Γ a) fun f => ob (rO r Γ lo) fun l => ob (rO r Γ hi) fun u => some (gQ f l u)
 | b => og (bH4 b) (ob (r.E Γ a) fun f => ob (r.E Γ b) fun g => some (m2 bF f g))
noncomputable def blt (Γ : Ga) (x : Str) : Bool := gl Γ x && (Γ.bs.contains x && !(x == ("__name__" : Str)))
noncomputable def rL (r : Rc) (Γ : Ga) (tp : Bool) (iter : Expr) : Option ML := match iter with
 | .Call (.Name x p) args [] q =>
  if x == "range" then (match args with
   | [a] => og (blt Γ "range" && !jY a) (ob (r.E Γ a) fun f => some (fM f))
   | _ => none)
  else if x == "enumerate" then (match args with
   | [a] => og (tp && (blt Γ "enumerate" && !jY a)) (ob (r.E Γ a) fun f => some (xB f))
   | _ => none)
  else ob (r.E Γ iter) fun f => some (bV f)
 | _ => ob (r.E Γ iter) fun f => some (bV f)
section
variable {k : Nat} {r : Rc} {Γ : Ga} {X : Cx} {pos : Pos}
theorem nt {b : Bool} (h : (!b) = true) : b = false := by cases b; rfl; cases h
theorem tQ (R : jG k r) (G : dX k Γ X) : ∀ {es fa}, rA r Γ es = some fa -> IA X es fa
 | [], _, h => by cases h; exact wR
 | e :: es, _, h => by
  obtain ⟨h0, h⟩ := gY h
  obtain ⟨f, h1, h⟩ := cF h
  obtain ⟨g, h2, h⟩ := cF h
  cases h
  exact wZ (nt h0) (R.E G h1) (tQ R G h2)
theorem bJ7 (R : jG k r) (G : dX k Γ X) {op : BoolOp} : ∀ {es f}, rV r Γ op es = some f -> IE X (.BoolOp op es pos) f
 | [], _, h => by cases h
 | [a], _, h => cX9 (R.E G h)
 | a :: b :: rest, _, h => by
  obtain ⟨f, h1, h⟩ := cF h
  obtain ⟨g, h2, h⟩ := cF h
  cases op with
  | And => cases h; exact cY0 (R.E G h1) (bJ7 R G h2)
  | Or => cases h; exact cY1 (R.E G h1) (bJ7 R G h2)
theorem bJ8 (R : jG k r) (G : dX k Γ X) {op : BoolOp} : ∀ {es f}, rW r Γ op es = some f -> IW X (.BoolOp op es pos) f
 | [], _, h => by cases h
 | [a], _, h => by
  cases op with
  | And => exact zE (R.T G h)
  | Or => exact zF (R.T G h)
 | a :: b :: rest, _, h => by
  obtain ⟨f, h1, h⟩ := cF h
  obtain ⟨g, h2, h⟩ := cF h
  cases op with
  | And => cases h; exact zG (R.T G h1) (bJ8 R G h2)
  | Or => cases h; exact zH (R.T G h1) (bJ8 R G h2)
theorem bZ6 (R : jG k r) (G : dX k Γ X) {o : Option Expr} {f : MO} (h : rO r Γ o = some f) : wY X o f := by
 cases o with
 | none => cases h; exact dD2
 | some e =>
  obtain ⟨f, h1, h⟩ := cF h
  cases h
  exact dD3 (R.E G h1)
theorem bZ7 (R : jG k r) (G : dX k Γ X) {a : Expr} {ops : List CmpOp} {bs : List Expr} {f : ME} (h : cM r Γ a ops bs = some f) : IE X (.Compare a ops bs pos) f /\ IT X (.Compare a ops bs pos) (mB f) := by
 unfold cM at h
 split at h
 ·replace h := gY h
  obtain ⟨h0, h⟩ := h
  have h0 := nt h0
  obtain ⟨m, hm, h⟩ := cF h
  obtain ⟨f, h1, h⟩ := cF h
  obtain ⟨g, h2, h⟩ := cF h
  cases h
  exact ⟨cZ3 (bZ5 G.rm hm) (R.E G h1) (R.E G h2) h0, pJ (bZ5 G.rm hm) (R.E G h1) (R.E G h2) h0⟩
 ·cases h
theorem dL0 (R : jG k r) (G : dX k Γ X) {a b : Expr} {f : ME} (h : sE r Γ a b = some f) : IE X (.Subscript a b pos) f := by
 unfold sE at h
 split at h
 ·obtain ⟨f, h1, h⟩ := cF h
  obtain ⟨l, h2, h⟩ := cF h
  obtain ⟨u, h3, h⟩ := cF h
  cases h
  exact dD4 (R.E G h1) (bZ6 R G h2) (bZ6 R G h3)
 ·obtain ⟨h0, h⟩ := gY h
  obtain ⟨f, h1, h⟩ := cF h
  obtain ⟨g, h2, h⟩ := cF h
  cases h
  exact bV9 h0 (R.E G h1) (R.E G h2)
theorem xL (G : dX k Γ X) {x : Str} (h : blt Γ x = true) : X.env.scope.names.lookup x = some .globalImplicit /\ X.mg x = none /\ (x == ("__debug__" : Str)) = false /\ (x == ("__name__" : Str)) = false := by
 unfold blt at h
 rw [Bool.and_eq_true, Bool.and_eq_true] at h
 exact ⟨(tP G h.1).1, G.bs _ h.2.1, (tP G h.1).2, nt h.2.2⟩
theorem bA3 (R : jG k r) (G : dX k Γ X) {tp : Bool} {tg iter : Expr} {fl : ML} (ht : tp = true -> ∃ es j p, tg = .Tuple es j p) (h : rL r Γ tp iter = some fl) : II X tg iter fl := by
 unfold rL at h
 split at h
 ·split at h
  ·rename_i e
   cases eq_of_beq e
   split at h
   ·obtain ⟨h0, h⟩ := gY h
    obtain ⟨f, h1, h⟩ := cF h
    cases h
    rw [Bool.and_eq_true] at h0
    obtain ⟨g1, g2, _⟩ := xL G h0.1
    exact bV6 g1 g2 (nt h0.2) (R.E G h1)
   ·cases h
  split at h
  ·rename_i e
   cases eq_of_beq e
   split at h
   ·obtain ⟨h0, h⟩ := gY h
    obtain ⟨f, h1, h⟩ := cF h
    cases h
    rw [Bool.and_eq_true, Bool.and_eq_true] at h0
    obtain ⟨es, j, p, rfl⟩ := ht h0.1
    obtain ⟨g1, g2, _⟩ := xL G h0.2.1
    exact dH3 g1 g2 (nt h0.2.2) (R.E G h1)
   ·cases h
  obtain ⟨f, h1, h⟩ := cF h
  cases h
  exact jM (R.E G h1)
 ·obtain ⟨f, h1, h⟩ := cF h
  cases h
  exact jM (R.E G h1)
end
end R
end
section
namespace R
open PySem PySem.Spec PyProof.Rows L2
variable [bN] [Pd]
noncomputable def bJ9 (r : Rc) (Γ : Ga) (x : Str) (e : Expr) (es : List Expr) : Option ME := match Γ.fs.lookup x with
 | some m => og (gl Γ x && jN (e :: es)) (ob (rA r Γ (e :: es)) fun fa => some (mA m fa))
 | none => if x == "isinstance" then (match es with
  | [.Name t _] => ob (tyM t) fun T => og (blt Γ "isinstance" && (blt Γ t && !jY e)) (ob (r.E Γ e) fun f => some (m1 (qQ T) f))
  | _ => none)
  else ob (bJ5 x) fun m => og (blt Γ x && jN (e :: es)) (ob (rA r Γ (e :: es)) fun fa => some (mA m fa))
noncomputable def bK0 (r : Rc) (Γ : Ga) (fn : Expr) (args : List Expr) (kw : List Keyword) (pos : Pos) : Option ME := match kw, fn, args with
 | [], .Name x _, e :: es => bJ9 r Γ x e es
 | _, _, _ => none
section
variable {k : Nat} {r : Rc} {Γ : Ga} {X : Cx} {pos p : Pos}
theorem dL1 (R : jG k r) (G : dX k Γ X) {x : Str} {e : Expr} {es : List Expr} {f : ME} (h : bJ9 r Γ x e es = some f) : IE X (.Call (.Name x p) (e :: es) [] pos) f := by
 unfold bJ9 at h
 split at h
 ·rename_i m hm
  replace h := gY h
  obtain ⟨h0, h⟩ := h
  obtain ⟨fa, h1, h⟩ := cF h
  cases h
  rw [Bool.and_eq_true] at h0
  obtain ⟨g1, g2⟩ := tP G h0.1
  exact dE5 (G.fs _ _ hm) G.rm g1 h0.2 g2 (tQ R G h1)
 ·skip
  ·split at h
   ·rename_i ex
    cases eq_of_beq ex
    split at h
    ·obtain ⟨T, hT, h⟩ := cF h
     replace h := gY h
     obtain ⟨h0, h⟩ := h
     obtain ⟨fa, h1, h⟩ := cF h
     cases h
     rw [Bool.and_eq_true, Bool.and_eq_true] at h0
     obtain ⟨t1, t2, t3⟩ := dK9 (X := X) hT
     obtain ⟨g1, g2, _⟩ := xL G h0.1
     obtain ⟨g3, g4, g5, _⟩ := xL G h0.2.1
     exact dE8 t1 (nt h0.2.2) g1 g2 g3 g4 t2 g5 t3 (R.E G h1)
    ·cases h
   ·obtain ⟨m, hm, h⟩ := cF h
    replace h := gY h
    obtain ⟨h0, h⟩ := h
    obtain ⟨fa, h1, h⟩ := cF h
    cases h
    rw [Bool.and_eq_true] at h0
    obtain ⟨g1, g2, g3, g4⟩ := xL G h0.1
    rcases dK8 (X := X) G.cm hm with ⟨id, c1, c2⟩ | ⟨id, c1, c2⟩
    ·exact dE6 c1 bT3 g1 g2 c2 h0.2 g3 g4 (tQ R G h1)
    ·exact dE7 c1 bT3 g1 g2 c2 h0.2 g3 g4 (tQ R G h1)
theorem dL2 (R : jG k r) (G : dX k Γ X) {fn : Expr} {args : List Expr} {kw : List Keyword} {f : ME} (h : bK0 r Γ fn args kw pos = some f) : IE X (.Call fn args kw pos) f := by
 unfold bK0 at h
 split at h
 ·exact dL1 R G h
 ·cases h
end
noncomputable def bK1 (names outer : List (Str × NameKind)) : List (Str × NameKind) := names.map fun (n, k) => if (k == NameKind.free && outer.lookup n == some .cell) then (n, NameKind.cell) else (n, k)
noncomputable def xM (Γ : Ga) (scope : Scope) (os caps : List Str) : Ga := { Γ with N := os ++ caps, nm := bK1 scope.names Γ.nm }
noncomputable def isFn (scope : Scope) : Bool := match scope.kind with
 | .function => true
 | _ => false
noncomputable def bA4 (Γ : Ga) (scope : Scope) (os caps : List Str) (js : List Nat) : Bool :=
 isFn scope && ((scope.names.all fun y => decide (y.2 ≠ .cell)) && ((scope.names.all fun y => decide (y.2 = .local -> scope.names.lookup y.1 = some .local)) && ((os.all fun x => decide (scope.names.lookup x = some .local)) &&
 ((scope.names.all fun y => decide (y.2 = .free -> Γ.nm.lookup y.1 = some .cell \/ Γ.nm.lookup y.1 = some .free)) && (decide ((os ++ caps).Nodup) && (decide (caps.length = js.length) && ((caps.zip js).all fun q => decide (Γ.N[q.2]? = some q.1) && decide (scope.names.lookup q.1 = some .free))))))))
noncomputable def xN (N : List Str) : List Str -> List Nat
 | [] => []
 | x :: r => ((tO x N).getD 0) :: xN N r
noncomputable def bA5 (r : Rc) (Γ : Ga) : List Expr -> Option MT
 | [] => some fun _ => .ok true
 | [c] => r.T Γ c
 | _ => none
structure CQ where
 js : List Nat
 fl : ML
 P : MT
 G : ME
noncomputable def bA6 (r : Rc) (Γ : Ga) (elt : Expr) (gens : List Comprehension) (scope : Scope) (pos : Pos) : Option CQ := ob (Γ.cp.lookup (pos.line, pos.col)) fun caps => match gens with
 | [⟨.Name x _, iter, ifs, 0⟩] => og (bA4 Γ scope [x] caps (xN Γ.N caps) && sZ iter) (ob (rL r Γ false iter) fun fl => ob (bA5 r (xM Γ scope [x] caps) ifs) fun p => ob (r.E (xM Γ scope [x] caps) elt) fun g => some ⟨xN Γ.N caps, fl, p, g⟩)
 | [⟨.Tuple [.Name x _, .Name y _] _ _, iter, ifs, 0⟩] => og (bA4 Γ scope [x, y] caps (xN Γ.N caps) && sZ iter) (ob (rL r Γ true iter) fun fl => ob (bA5 r (xM Γ scope [x, y] caps) ifs) fun p => ob (r.E (xM Γ scope [x, y] caps) elt) fun g => some ⟨xN Γ.N caps, fl, dJ p, dJ g⟩)
 | _ => none
section
variable {k : Nat} {r : Rc} {Γ : Ga} {X : Cx} {pos : Pos} {scope : Scope} {os caps : List Str} {js : List Nat}
theorem bZ8 (G : dX k Γ X) (h : bA4 Γ scope os caps js = true) : mE X scope os caps js := by
 unfold bA4 at h
 simp only [Bool.and_eq_true] at h
 obtain ⟨h1, h2, h3, h4, h5, h6, h7, h8⟩ := h
 have hk : scope.kind = .function := by
  unfold isFn at h1
  split at h1
  ·rename_i e; exact e
  ·cases h1
 refine dD9 (N := Γ.N) (sc := X.env.scope) G.hN rfl hk h2 h3 h4 ?_ (of_decide_eq_true h6) (of_decide_eq_true h7) h8
 rw [G.hS]; exact h5
theorem bA7 (G : dX k Γ X) (S : mE X scope os caps js) (C : Addr) (fp : List Addr) (s : Shared) (H : Hp) (E : Value -> Shared -> Prop) : dX k (xM Γ scope os caps) (lE X (os ++ caps) scope C fp s H E) := by
 refine ⟨rfl, ?_, S.kind, S.nd, G.cm, G.fs, G.cs, G.bs, G.rm⟩
 show (relabel scope X.env).names = bK1 scope.names Γ.nm
 unfold relabel bK1 Env.kindOf
 rw [G.hk, G.hS]
 simp
theorem bZ9 (R : jG k r) (G : dX k Γ X) {ifs : List Expr} {p : MT} (h : bA5 r Γ ifs = some p) : pL X ifs p := by
 unfold bA5 at h
 split at h
 ·cases h; exact dE0
 ·exact dE1 (R.T G h)
 ·cases h
theorem cA0 (R : jG k r) (G : dX k Γ X) {elt : Expr} {gens : List Comprehension} {q : CQ} (h : bA6 r Γ elt gens scope pos = some q) : ∃ tg iter ifs os caps sp gg p g, gens = [⟨tg, iter, ifs, 0⟩] /\ mE X scope os caps q.js /\ sV X scope tg os caps sp gg q.P q.G p g /\ II X tg iter q.fl /\
 (∀ C fp s H E, pL (lE X (os ++ caps) scope C fp s H E) ifs p) /\ (∀ C fp s H E, IE (lE X (os ++ caps) scope C fp s H E) elt g) /\ sZ iter = true := by
 unfold bA6 at h
 obtain ⟨caps, hc, h⟩ := cF h
 split at h
 ·replace h := gY h
  obtain ⟨h0, h⟩ := h
  obtain ⟨fl, h1, h⟩ := cF h
  obtain ⟨p, h2, h⟩ := cF h
  obtain ⟨g, h3, h⟩ := cF h
  cases h
  rw [Bool.and_eq_true] at h0
  have S := bZ8 G h0.1
  exact ⟨_, _, _, _, caps, _, _, p, g, rfl, S, dC5 S, bA3 R G (fun z => by cases z) h1, fun C fp s H E => bZ9 R (bA7 G S C fp s H E) h2, fun C fp s H E => R.E (bA7 G S C fp s H E) h3, h0.2⟩
 ·replace h := gY h
  obtain ⟨h0, h⟩ := h
  obtain ⟨fl, h1, h⟩ := cF h
  obtain ⟨p, h2, h⟩ := cF h
  obtain ⟨g, h3, h⟩ := cF h
  cases h
  rw [Bool.and_eq_true] at h0
  have S := bZ8 G h0.1
  exact ⟨_, _, _, _, caps, _, _, p, g, rfl, S, dG4 S G.cm, bA3 R G (fun _ => ⟨_, _, _, rfl⟩) h1, fun C fp s H E => bZ9 R (bA7 G S C fp s H E) h2, fun C fp s H E => R.E (bA7 G S C fp s H E) h3, h0.2⟩
 ·cases h
end
noncomputable def eE (r : Rc) (Γ : Ga) : Expr -> Option ME
 | .Constant c _ _ => match c with
  | .none => some (kc .non)
  | .bool b => some (kc (.bl b))
  | .int i => some (kc (.int i))
  | .str x => og (Nat.ble x.length sizeLine) (some (kc (.str x)))
  | _ => none
 | .Name x _ => match idx Γ x with
  | some i => some (gv i)
  | none => og (gl Γ x) (ob (Γ.cs.lookup x) fun d => some (kc d))
 | .BinOp a op b _ => ob (bZ3 op) fun m => ob (r.E Γ a) fun f => ob (r.E Γ b) fun g => some (m2 m f g)
 | .UnaryOp op a _ => match op with
  | .USub => ob (r.E Γ a) fun f => some (m1 kH f)
  | _ => none
 | .BoolOp op vs _ => rV r Γ op vs
 | .Compare a ops bs _ => cM r Γ a ops bs
 | .List es _ => ob (rA r Γ es) fun fa => some (mA jU fa)
 | .Tuple es _ _ => ob (rA r Γ es) fun fa => some (mA bK fa)
 | .Subscript a s _ => sE r Γ a s
 | .ListComp elt gens scope pos => ob (bA6 r Γ elt gens scope pos) fun q => some (dB q.js q.fl q.P q.G)
 | .Call fn args kw pos => bK0 r Γ fn args kw pos
 | _ => none
noncomputable def eT (r : Rc) (Γ : Ga) (e : Expr) : Option MT := match e with
 | .BoolOp op vs _ => rW r Γ op vs
 | .Compare a ops bs _ => ob (cM r Γ a ops bs) fun f => some (mB f)
 | e => og (bH5 e) (ob (r.E Γ e) fun f => some (mT f))
noncomputable def rc : Nat -> Rc
 | 0 => ⟨fun _ _ => none, fun _ _ => none⟩
 | n + 1 => ⟨eE (rc n), eT (rc n)⟩
section
variable {k : Nat} {r : Rc} {Γ : Ga} {X : Cx}
theorem dL3 (R : jG k r) (G : dX k Γ X) {e : Expr} {f : ME} (h : eE r Γ e = some f) : IE X e f := by
 unfold eE at h
 split at h
 ·split at h
  ·cases h; exact cW4
  ·cases h; exact cW3
  ·cases h; exact cW2
  ·obtain ⟨h0, h⟩ := gY h
   cases h
   exact dE4 h0
  ·cases h
 ·split at h
  ·rename_i hi
   cases h
   exact dE3 (cU G hi)
  ·replace h := gY h
   obtain ⟨h0, h⟩ := h
   obtain ⟨d, h1, h⟩ := cF h
   cases h
   exact dE9 (tP G h0).1 (G.cs _ _ h1) (tP G h0).2
 ·obtain ⟨m, hm, h⟩ := cF h
  obtain ⟨f, h1, h⟩ := cF h
  obtain ⟨g, h2, h⟩ := cF h
  cases h
  exact cZ2 (dK7 hm) (R.E G h1) (R.E G h2)
 ·split at h
  ·obtain ⟨f, h1, h⟩ := cF h
   cases h
   exact dA2 (R.E G h1)
  ·cases h
 ·exact bJ7 R G h
 ·exact (bZ7 R G h).1
 ·obtain ⟨fa, h1, h⟩ := cF h
  cases h
  exact cX1 (tQ R G h1)
 ·obtain ⟨fa, h1, h⟩ := cF h
  cases h
  exact bS2 (tQ R G h1)
 ·exact dL0 R G h
 ·obtain ⟨q, h1, h⟩ := cF h
  cases h
  obtain ⟨tg, iter, ifs, os, caps, sp, gg, p, g, rfl, S, T, hi, hp, hg, ho⟩ := cA0 R G h1
  exact bU8 S T G.cm hi hp hg (gK ho)
 ·exact dL2 R G h
 ·cases h
theorem dL4 (R : jG k r) (G : dX k Γ X) {e : Expr} {f : MT} (h : eT r Γ e = some f) : IT X e f := by
 unfold eT at h
 split at h
 ·exact IW.it (bJ8 R G h)
 ·obtain ⟨f, h1, h⟩ := cF h
  cases h
  exact (bZ7 R G h1).2
 ·replace h := gY h
  obtain ⟨h0, h⟩ := h
  obtain ⟨f, h1, h⟩ := cF h
  cases h
  exact dF1 h0 (R.E G h1)
theorem pU : ∀ n, jG k (rc n)
 | 0 => ⟨fun _ h => (by cases h), fun _ h => (by cases h)⟩
 | n + 1 => ⟨fun G h => dL3 (pU n) G h, fun G h => dL4 (pU n) G h⟩
end
end R
end
section
namespace R
open PySem PySem.Spec PyProof.Rows L2
variable [bN] [Pd]
structure rB (X : Cx) : Prop where
 fn : ∀ x, X.fn x = true
 po : PassesOwn (model X.prog X.w) X.A X.env X.xe
noncomputable def lk : Option NameKind -> Bool
 | some .local => true
 | some .cell => true
 | _ => false
noncomputable def pV (Γ : Ga) (x : Str) : Option Nat := og (lk (Γ.nm.lookup x)) (tO x Γ.N)
noncomputable def dL5 : Expr -> Bool
 | .Subscript _ _ _ => true
 | .Call _ _ _ _ => true
 | _ => false
noncomputable def swp (Γ : Ga) (x : Str) (p : Pos) (scope : Scope) (cp : Pos) : Bool := (Γ.nm.lookup x == some .local) && (p.line == cp.line) && !(scope.names.any fun (n, k) => n == x && (k == .local || k == .cell))
noncomputable def bK3 (r : Rc) (Γ : Ga) (ow : Bool) (i : Nat) (x : Str) (p : Pos) (e : Expr) : Option MS := match e with
 | .ListComp elt gens scope pos => ob (bA6 r Γ elt gens scope pos) fun q => match swp Γ x p scope pos with
  | true => some (gP i q.js q.fl q.P q.G)
  | false => some (bI i (dB q.js q.fl q.P q.G))
 | e => og (!bH3 e) (match ow, e with
  | true, .List [] _ => some (qT i)
  | _, _ => ob (r.E Γ e) fun f => some (bI i f))
noncomputable def sS (r : Rc) (Γ : Ga) (ow : List Str) (blk : List Stmt -> Option MS) (st : Stmt) : Option MS := match st with
 | .Return (some e) _ => ob (r.E Γ e) fun f => some (cC f)
 | .If c a b _ => ob (r.T Γ c) fun t => ob (blk a) fun u => ob (blk b) fun v => some (bM t u v)
 | .Assign [.Name x p] e _ => ob (pV Γ x) fun i => bK3 r Γ (ow.contains x) i x p e
 | .Assign [.Tuple [.Name x _, .Name y _] _ _] e _ => ob (pV Γ x) fun i => ob (pV Γ y) fun j => og (dL5 e) (ob (r.E Γ e) fun f => some (kK i j f))
 | .For (.Name x _) iter body [] _ => ob (pV Γ x) fun i => og (sZ iter) (ob (rL r Γ false iter) fun fl => ob (blk body) fun u => some (fA i fl u))
 | .For (.Tuple [.Name x _, .Name y _] _ _) iter body [] _ => ob (pV Γ x) fun i => ob (pV Γ y) fun j => og (sZ iter) (ob (rL r Γ true iter) fun fl => ob (blk body) fun u => some (kM i j fl u))
 | .Expr e _ => (match e with
  | .Call (.Attribute (.Name x _) nm ap) [a] [] cp => og (ow.contains x && ((ap.endLine == cp.line) && !jY a)) (ob (idx Γ x) fun i => ob (r.E Γ a) fun f => if nm == "append" then some (lG i f) else none)
  | _ => none)
 | _ => none
noncomputable def pW (r : Rc) (Γ : Ga) (ow : List Str) : Nat -> List Stmt -> Option MS
 | 0, _ => none
 | n + 1, [] => some bQ
 | n + 1, [s] => sS r Γ ow (pW r Γ ow n) s
 | n + 1, s :: t :: rest => ob (sS r Γ ow (pW r Γ ow n) s) fun a => ob (pW r Γ ow n (t :: rest)) fun b => some (bB a b)
noncomputable def bK4 (r : Rc) (Γ : Ga) (ow : List Str) (fz : List (Nat × Nat)) (m : Nat) : Nat -> List Stmt -> Option MS
 | _, [] => some bQ
 | _, [s] => sS r Γ ow (pW r Γ ow m) s
 | n, s :: t :: rest => ob (sS r Γ ow (pW r Γ ow m) s) fun a => ob (bK4 r Γ ow fz m (n + 1) (t :: rest)) fun b => match fz.lookup n with
  | some i => some (bB a (bB (nK i) b))
  | none => some (bB a b)
section
variable {k : Nat} {r : Rc} {Γ : Ga} {X : Cx} {x : Str} {p pos : Pos} {e : Expr} {i : Nat}
theorem tR (G : dX k Γ X) (h : pV Γ x = some i) : X.N[i]? = some x /\ Loc X.env.scope x := by
 obtain ⟨h1, h2⟩ := gY h
 refine ⟨by rw [G.hN]; exact bJ3 h2, ?_⟩
 unfold L2.Loc
 rw [G.hS]
 revert h1
 cases Γ.nm.lookup x with
 | none => exact fun z => by cases z
 | some q => cases q <;> intro z <;> first | exact .inl rfl | exact .inr rfl | cases z
theorem cA1 (G : dX k Γ X) {elt : Expr} {gens : List Comprehension} {scope : Scope} {cp : Pos} {l : Nat} : swapsWith (.ListComp elt gens scope cp) (some (.Name x p)) l X.env = pure (swp Γ x p scope cp) := by
 show pure (X.env.blockKind == .function && X.env.kindOf x == some .local && p.line == cp.line && !(scope.names.any fun (n, k) => n == x && (k == .local || k == .cell))) = _
 unfold swp Env.blockKind Env.kindOf
 rw [G.hk, G.hS]
 rfl
theorem dL6 (R : jG k r) (G : dX k Γ X) (Z : rB X) {ow : Bool} {u : MS} (hi : pV Γ x = some i) (h : bK3 r Γ ow i x p e = some u) : IS X (.Assign [.Name x p] e pos) u := by
 obtain ⟨l1, l2⟩ := tR G hi
 have hf : X.fn x = true \/ X.env.scope.names.lookup x = some .local := .inl (Z.fn x)
 unfold bK3 at h
 split at h
 ·replace h := cF h
  obtain ⟨q, h1, h⟩ := h
  obtain ⟨tg, iter, ifs, os, caps, sp, gg, p', g, rfl, S, T, hit, hp, hg, ho⟩ := cA0 R G h1
  split at h
  ·rename_i hs
   cases h
   exact dC4 S T G.cm hit hp hg G.nd l1 l2 (by rw [cA1 G, hs]) (gK ho) hf
  ·rename_i hs
   cases h
   exact dH6 G.nd l1 l2 (by rw [cA1 G, hs]) hf (bU8 S T G.cm hit hp hg (gK ho))
 ·replace h := gY h
  obtain ⟨h0, h⟩ := h
  split at h
  ·cases h
   exact dG7 G.nd l1 l2 hf
  ·obtain ⟨f, h1, h⟩ := cF h
   cases h
   exact bV7 G.nd l1 l2 (nt h0) hf (R.E G h1)
theorem xO (R : jG k r) (G : dX k Γ X) (Z : rB X) {ow : List Str} {blk : List Stmt -> Option MS} (B : ∀ {l u}, blk l = some u -> gB X l u) {st : Stmt} {u : MS} (h : sS r Γ ow blk st = some u) : IS X st u := by
 unfold sS at h
 split at h
 ·obtain ⟨f, h1, h⟩ := cF h
  cases h
  exact cY3 (R.E G h1)
 ·obtain ⟨t, h0, h⟩ := cF h
  obtain ⟨u, h1, h⟩ := cF h
  obtain ⟨v, h2, h⟩ := cF h
  cases h
  exact fV (R.T G h0) (B h1) (B h2)
 ·obtain ⟨i, h1, h⟩ := cF h
  exact dL6 R G Z h1 h
 ·obtain ⟨i, hi, h⟩ := cF h
  obtain ⟨j, hj, h⟩ := cF h
  replace h := gY h
  obtain ⟨h0, h⟩ := h
  obtain ⟨f, h1, h⟩ := cF h
  cases h
  obtain ⟨a1, a2⟩ := tR G hi
  obtain ⟨b1, b2⟩ := tR G hj
  rename_i e _ _ _
  refine dF4 G.cm G.nd a1 a2 b1 b2 (.inl (Z.fn _)) (.inl (Z.fn _)) ?_ ?_ (R.E G h1)
  ·cases e <;> first | (exact Bool.noConfusion h0) | rfl
  ·cases e <;> first | (exact Bool.noConfusion h0) | rfl
 ·obtain ⟨i, hi, h⟩ := cF h
  replace h := gY h
  obtain ⟨h0, h⟩ := h
  obtain ⟨fl, h1, h⟩ := cF h
  obtain ⟨u, h2, h⟩ := cF h
  cases h
  obtain ⟨a1, a2⟩ := tR G hi
  exact kU G.cm Z.po (bA3 R G (fun z => by cases z) h1) (fY G.nd a1 a2 (.inl (Z.fn _))) (B h2) (gK h0)
 ·obtain ⟨i, hi, h⟩ := cF h
  obtain ⟨j, hj, h⟩ := cF h
  replace h := gY h
  obtain ⟨h0, h⟩ := h
  obtain ⟨fl, h1, h⟩ := cF h
  obtain ⟨u, h2, h⟩ := cF h
  cases h
  obtain ⟨a1, a2⟩ := tR G hi
  obtain ⟨b1, b2⟩ := tR G hj
  exact xA G.cm Z.po (bA3 R G (fun _ => ⟨_, _, _, rfl⟩) h1) (tE G.cm G.nd a1 a2 b1 b2 (.inl (Z.fn _)) (.inl (Z.fn _))) (B h2) (gK h0)
 ·split at h
  ·replace h := gY h
   obtain ⟨h0, h⟩ := h
   replace h := cF h
   obtain ⟨i, hi, h⟩ := h
   replace h := cF h
   obtain ⟨f, h1, h⟩ := h
   rw [Bool.and_eq_true, Bool.and_eq_true] at h0
   split at h
   ·rename_i en
    cases eq_of_beq en
    cases h
    exact dG8 (cU G hi) (nt h0.2.2) h0.2.1 rfl (R.E G h1)
   cases h
  ·cases h
 ·cases h
theorem rC (R : jG k r) (G : dX k Γ X) (Z : rB X) {ow : List Str} : ∀ (n : Nat) {l : List Stmt} {u : MS}, pW r Γ ow n l = some u -> gB X l u
 | 0, _, _, h => by cases h
 | n + 1, [], _, h => by cases h; exact fU
 | n + 1, [s], _, h => cW (xO R G Z (rC R G Z n) h)
 | n + 1, s :: t :: rest, _, h => by
  obtain ⟨a, h1, h⟩ := cF h
  obtain ⟨b, h2, h⟩ := cF h
  cases h
  exact bY (xO R G Z (rC R G Z n) h1) (rC R G Z n h2)
theorem cA2 (R : jG k r) (G : dX k Γ X) (Z : rB X) {ow : List Str} {fz : List (Nat × Nat)} {m : Nat} : ∀ {n : Nat} {l : List Stmt} {u : MS}, bK4 r Γ ow fz m n l = some u -> gB X l u
 | _, [], _, h => by cases h; exact fU
 | _, [s], _, h => cW (xO R G Z (rC R G Z m) h)
 | n, s :: t :: rest, _, h => by
  obtain ⟨a, h1, h⟩ := cF h
  obtain ⟨b, h2, h⟩ := cF h
  have i1 := xO R G Z (rC R G Z m) h1
  have i2 := cA2 R G Z h2
  split at h
  ·cases h; exact bY i1 (zR i2)
  ·cases h; exact bY i1 i2
end
structure pX (P : Program) (w : World) (K : W.Frag) (mg : Str -> Option Value) (base : Heap) (k : Nat) (fs : List (Str × (List D -> bD D))) (cs : List (Str × D)) (bs : List Str) : Prop where
 fs : ∀ x m, fs.lookup x = some m -> fN P w K mg base k x m
 cs : ∀ x d, cs.lookup x = some d -> qR K mg x d
 bs : ∀ x, bs.contains x = true -> mg x = none
theorem jZ {P : Program} {w : World} {K : W.Frag} {mg : Str -> Option Value} {base : Heap} {x qual : Str} {st : Stmt} {f : Addr} {fd : FuncData} {N ps : List Str} {k : Nat} {u : MS} {fs : List (Str × (List D -> bD D))} {cs : List (Str × D)} {bs : List Str}
 (F : bL K x qual st f fd) (S : dE N ps (cL st)) (T : pX P w K mg base k fs cs bs) (cp : List ((Nat × Nat) × List Str)) (ow : List Str) (fz : List (Nat × Nat))
 (h : bK4 (rc 40) ⟨N, (cL st).names, fs, cs, bs, cp⟩ ow fz 60 0 (lN st) = some u) : bS P w K mg base bT (k + 1) f fd ps (cS K (cV ps.length N.length u)) := by
 refine bT0 F S ?_
 intro cdv A outer s H E hr
 exact cA2 (k := k) (pU 40) ⟨rfl, rfl, S.kind, S.nd, rfl, T.fs, T.cs, T.bs, hr⟩ ⟨fun _ => rfl, PassesOwn.never⟩ h
noncomputable abbrev kv {α : Type} (x : Str) (a : α) : Str × α := (x, a)
theorem bK5 {α : Type} {P : Str -> α -> Prop} : ∀ x m, ([] : List (Str × α)).lookup x = some m -> P x m := fun _ _ h => by cases h
theorem gL {α : Type} {P : Str -> α -> Prop} {y : Str} {a : α} {l : List (Str × α)} (h : P y a) (t : ∀ x m, l.lookup x = some m -> P x m) : ∀ x m, ((y, a) :: l).lookup x = some m -> P x m := fun x m e => by
 rw [List.lookup_cons] at e
 split at e
 ·rename_i q; cases e; rw [eq_of_beq q]; exact h
 ·exact t x m e
theorem dL7 {P : Str -> Prop} : ∀ x, ([] : List Str).contains x = true -> P x := fun _ h => by cases h
theorem nP {P : Str -> Prop} {y : Str} {l : List Str} (h : P y) (t : ∀ x, l.contains x = true -> P x) : ∀ x, (y :: l).contains x = true -> P x := fun x e => by
 rw [List.contains_cons, Bool.or_eq_true] at e
 rcases e with q | q
 ·rw [eq_of_beq q]; exact h
 ·exact t x q
end R
end
section
namespace R
open PySem PySem.Spec PyProof.Rows L2
variable [bN]
theorem rE {P : Program} {w : World} {K : W.Frag} {mg : Str -> Option Value} {base : Heap} {j k : Nat} {fs : List (Str × (List D -> bD D))} {cs : List (Str × D)} {bs : List Str} (T : pX P w K mg base j fs cs bs) : pX P w K mg base k [] cs bs := ⟨bK5, T.cs, T.bs⟩
section
variable {P : Program} {w : World} {K : W.Frag} {mg : Str -> Option Value} {base : Heap} {x qual : Str} {st : Stmt} {f : Addr} {fd : FuncData} {N ps : List Str} {k : Nat} {g : MS} {fs : List (Str × (List D -> bD D))} {cs : List (Str × D)} {bs : List Str}
abbrev HyB (P : Program) (w : World) (K : W.Frag) (mg : Str -> Option Value) (base : Heap) (qual : Str) (st : Stmt) (f : Addr) (N : List Str) (k : Nat) (g : MS) (fs : List (Str × (List D -> bD D))) (cs : List (Str × D)) (bs : List Str) (cp : List ((Nat × Nat) × List Str)) : Prop :=
 ∀ (_ : Pd) (X : Cx), dX k ⟨N, (cL st).names, fs, cs, bs, cp⟩ X -> rB X -> dZ k X.A -> (∃ cdv A outer s H E, X = (lZ bT P w K mg base N qual (cL st) f cdv A outer s H E).nox) -> gB X (lN st) g
theorem xP (F : bL K x qual st f fd) (S : dE N ps (cL st)) (T : pX P w K mg base k fs cs bs) (cp : List ((Nat × Nat) × List Str)) (h : HyB P w K mg base qual st f N k g fs cs bs cp) : bS P w K mg base bT (k + 1) f fd ps (cS K (cV ps.length N.length g)) := by
 letI : Pd := ⟨0⟩
 refine bT0 F S fun cdv A outer s H E hr => h _ _ ⟨rfl, rfl, S.kind, S.nd, rfl, T.fs, T.cs, T.bs, hr⟩ ⟨fun _ => rfl, PassesOwn.never⟩ hr ⟨cdv, A, outer, s, H, E, rfl⟩
theorem tT (F : bL K x qual st f fd) (S : dE N ps (cL st)) (T : pX P w K mg base k fs cs bs) (cp : List ((Nat × Nat) × List Str)) (hN : ps.length <= N.length) (h : HyB P w K mg base qual st f N k g fs cs bs cp) : bS P w K mg base bT (k + 1) f fd ps (nL K (mM ps.length N.length g)) :=
 dI1 F S hN fun pd cdv A outer s H E hr => h pd _ ⟨rfl, rfl, S.kind, S.nd, rfl, T.fs, T.cs, T.bs, hr⟩ ⟨fun _ => rfl, PassesOwn.never⟩ hr ⟨cdv, A, outer, s, H, E, rfl⟩
theorem hyN (F : bL K x qual st f fd) (S : dE N ps (cL st)) (T : pX P w K mg base k fs cs bs) (cp : List ((Nat × Nat) × List Str)) (h : HyB P w K mg base qual st f N k g fs cs bs cp) : bS P w K mg base bT (k + 1) f fd ps (zV K (xI ps.length N.length g)) := by
 letI : Pd := ⟨0⟩
 exact dI4 F S fun cdv A outer s H E hr => h _ _ ⟨rfl, rfl, S.kind, S.nd, rfl, T.fs, T.cs, T.bs, hr⟩ ⟨fun _ => rfl, PassesOwn.never⟩ hr ⟨cdv, A, outer, s, H, E, rfl⟩
theorem hyP (F : bL K x qual st f fd) (S : dE N ps (cL st)) (T : pX P w K mg base k fs cs bs) (cp : List ((Nat × Nat) × List Str)) (hN : ps.length <= N.length) (h : HyB P w K mg base qual st f N k g fs cs bs cp) : bS P w K mg base bT (k + 1) f fd ps (nN K (mO ps.length N.length g)) := by
 letI : Pd := ⟨0⟩
 exact dI5 F S hN fun cdv A outer s H E hr => h _ _ ⟨rfl, rfl, S.kind, S.nd, rfl, T.fs, T.cs, T.bs, hr⟩ ⟨fun _ => rfl, PassesOwn.never⟩ hr ⟨cdv, A, outer, s, H, E, rfl⟩
end
section
variable [Pd] {k : Nat} {Γ : Ga} {X : Cx} {x : Str} {i : Nat} {e : Expr} {st : Stmt} {l : List Stmt} {f : ME} {t : MT} {u : MS} {ow : List Str}
theorem hE (G : dX k Γ X) (h : (rc 40).E Γ e = some f) : IE X e f := (pU 40).E G h
theorem hT (G : dX k Γ X) (h : (rc 40).T Γ e = some t) : IT X e t := (pU 40).T G h
theorem hS (G : dX k Γ X) (Z : rB X) (h : sS (rc 40) Γ ow (pW (rc 40) Γ ow 60) st = some u) : IS X st u := xO (pU 40) G Z (rC (pU 40) G Z 60) h
theorem hB (G : dX k Γ X) (Z : rB X) (h : pW (rc 40) Γ ow 60 l = some u) : gB X l u := rC (pU 40) G Z 60 h
theorem hL (G : dX k Γ X) (h : lk (Γ.nm.lookup x) = true) : Loc X.env.scope x := by
 unfold L2.Loc
 rw [G.hS]
 revert h
 cases Γ.nm.lookup x with
 | none => exact fun z => by cases z
 | some q => cases q <;> intro z <;> first | exact .inl rfl | exact .inr rfl | cases z
theorem hG (G : dX k Γ X) (h : gl Γ x = true) : X.env.scope.names.lookup x = some .globalImplicit := (tP G h).1
end
end R
end
section
namespace Jm
open PySem PySem.Spec PyProof.Rows L2 R
variable [bN]
noncomputable def fI (i : Nat) : Stmt := PySem.Challenge.pw_joinmill_k10_heads_of_units.main.body.getD i (.Pass ⟨0, 0, 0, 0⟩)
noncomputable abbrev s1 : Stmt := fI 7
noncomputable abbrev N1 : List Str := ["unit", "faces", "face", "top", "fault"]
noncomputable abbrev s2 : Stmt := fI 8
noncomputable abbrev N2 : List Str := ["face", "meanings", "name", "told"]
noncomputable abbrev s3 : Stmt := fI 9
noncomputable abbrev N3 : List Str := ["unit", "faces", "top", "source", "name", "told"]
noncomputable abbrev s4 : Stmt := fI 10
noncomputable abbrev N4 : List Str := ["unit", "top", "name"]
noncomputable abbrev s5 : Stmt := fI 11
noncomputable abbrev N5 : List Str := ["unit", "face", "top", "awaited", "deed", "name", "count"]
noncomputable abbrev s6 : Stmt := fI 12
noncomputable abbrev N6 : List Str := ["unit", "top", "deed", "meanings", "name", "fault"]
noncomputable abbrev s7 : Stmt := fI 13
noncomputable abbrev N7 : List Str := ["block", "meanings", "use", "fault"]
noncomputable abbrev s9 : Stmt := fI 15
noncomputable abbrev N9 : List Str := ["block", "uses", "statement"]
noncomputable abbrev tU : Stmt := fI 21
noncomputable abbrev N14 : List Str := ["_law_script", "_law_k"]
noncomputable abbrev tV : Stmt := fI 22
noncomputable abbrev N15 : List Str := ["_law_script", "_law_k", "_law_drawn_here"]
noncomputable abbrev tW : Stmt := fI 23
noncomputable abbrev N16 : List Str := ["_law_number", "_law_k", "_law_drawn_here"]
noncomputable abbrev tX : Stmt := fI 24
noncomputable abbrev N17 : List Str := ["_law_number", "_law_letters", "_law_found", "_law_k"]
noncomputable abbrev tY : Stmt := fI 25
noncomputable abbrev N18 : List Str := ["_law_number"]
noncomputable abbrev tZ : Stmt := fI 26
noncomputable abbrev N19 : List Str := ["_law_number", "_law_names", "_law_deeds", "_law_deep", "_law_kind", "_law_name", "_law_count", "_law_parts", "_law_left_here", "_law_right"]
noncomputable abbrev vA : Stmt := fI 27
noncomputable abbrev N20 : List Str := ["_law_number", "_law_names", "_law_deeds", "_law_plain", "_law_name", "_law_drawn_here", "_law_kind", "_law_called", "_law_count", "_law_parts"]
noncomputable abbrev vB : Stmt := fI 28
noncomputable abbrev N21 : List Str := ["_law_number", "_law_names", "_law_deeds", "_law_plain", "_law_deep", "_law_kind", "_law_asked", "_law_one", "_law_name"]
noncomputable abbrev vC : Stmt := fI 29
noncomputable abbrev N22 : List Str := ["_law_number", "_law_size", "_law_names", "_law_deeds", "_law_plain", "_law_deep", "_law_parts"]
noncomputable abbrev vD : Stmt := fI 30
noncomputable abbrev N23 : List Str := ["_law_stem_here", "_law_unit", "_law_k", "_law_letters"]
noncomputable abbrev vE : Stmt := fI 31
noncomputable abbrev N24 : List Str := ["_law_script", "_law_unit", "_law_stem_here", "_law_number", "_law_words", "_law_deeds"]
noncomputable abbrev vF : Stmt := fI 32
noncomputable abbrev N25 : List Str := ["_law_faces", "_law_name", "_law_number", "_law_found", "_law_k", "_law_face", "_law_some", "_law_pair"]
noncomputable abbrev vG : Stmt := fI 33
noncomputable abbrev N26 : List Str := ["_law_faces", "_law_takes_here", "_law_words", "_law_deeds", "_law_source", "_law_name", "_law_face"]
noncomputable abbrev vH : Stmt := fI 34
noncomputable abbrev N27 : List Str := ["_law_script", "_law_faces", "_law_unit", "_law_size", "_law_stem_here", "_law_number", "_law_name", "_law_takes_here", "_law_words", "_law_deeds", "_law_own", "_law_heads_here", "_law_made", "_law_k", "_law_head", "_law_params", "_law_plain", "_law_block_here"]
noncomputable abbrev vI : Stmt := fI 35
noncomputable abbrev N28 : List Str := ["_law_script", "_law_count", "_law_faces", "_law_size"]
noncomputable abbrev vJ : Stmt := fI 36
noncomputable abbrev N29 : List Str := ["_law_row", "_law_number", "_law_part", "_law_at"]
noncomputable abbrev vK : Stmt := fI 37
noncomputable abbrev N30 : List Str := ["_law_row", "_law_number", "_law_at"]
noncomputable abbrev vL : Stmt := fI 38
noncomputable abbrev N31 : List Str := ["_law_unit", "_law_face", "_law_other", "_law_number", "_law_name", "_law_takes_here", "_law_words", "_law_deeds", "_law_block_here", "_law_kind", "_law_some", "_law_one", "_law_source"]
noncomputable abbrev vM : Stmt := fI 39
noncomputable abbrev N32 : List Str := ["_law_unit", "_law_faces", "_law_face", "_law_told_here", "_law_word", "_law_deed", "_law_count", "_law_top", "_law_source", "_law_name", "_law_known", "_law_counts"]
noncomputable abbrev rF : Stmt := fI 40
noncomputable abbrev N33 : List Str := ["_law_unit", "_law_told_here", "_law_top", "_law_met", "_law_deed", "_law_name"]
noncomputable abbrev vN : Stmt := fI 41
noncomputable abbrev N34 : List Str := ["_law_script", "_law_made", "_law_at", "_law_other", "_law_face", "_law_unit", "_law_blank", "_law_faces", "_law_one", "_law_two", "_law_kept", "_law_found", "_law_due"]
noncomputable def gM : D := .tup [.str "WORD", .int 0]
inductive Fn where
 | q0 | q1 | q2 | q3 | q4 | q5 | q6 | q7 | q8 | q9 | q10 | q11 | q12 | q13 | q14 | q15 | q16 | q17 | q18 | q19 | q20 | law
noncomputable abbrev CT := Fn -> List D -> bD D
noncomputable def cA3 (C C' : CT) : MS := bB (qT 1) (bB (fA 2 (bV (gv 0)) (fun _ => .bad)) (bB (nK 1) (cC (gv 1))))
noncomputable def bA9 (C C' : CT) : MS := bB (bM (mB (m2 dH (gv 1) (mA cI (aC (gv 0) (bA))))) (cC (m2 bF (gv 0) (gv 1))) (bQ)) (cC (kc (.int 0)))
noncomputable def bB0 (C C' : CT) : MS := bB (bI 2 (m2 bP (m2 gJ (m2 bO (m2 bO (mA (C .q2) (aC (gv 0) (aC (gv 1) (bA)))) (m2 gJ (kc (.int 7919)) (gv 1))) (kc (.int 1))) (kc (.int 48271))) (kc (.int 2147483647)))) (cC (m2 bP (m2 bO (m2 bO (m2 gJ (gv 2) (gv 2)) (m2 gJ (kc (.int 7)) (gv 2))) (gv 1)) (kc (.int 2147483629))))
noncomputable def bB1 (C C' : CT) : MS := bB (bI 2 (m2 bP (m2 gJ (m2 bO (m2 bO (gv 0) (m2 gJ (kc (.int 104729)) (gv 1))) (kc (.int 17))) (kc (.int 69621))) (kc (.int 2147483647)))) (cC (m2 bP (m2 bO (m2 bO (m2 gJ (gv 2) (gv 2)) (m2 gJ (kc (.int 3)) (gv 2))) (gv 1)) (kc (.int 2147483629))))
noncomputable def bB2 (C C' : CT) : MS := bB (bI 1 (kc (.str "abcdefghijklmnopqrstuvwxyz"))) (bB (bI 2 (kc (.str ""))) (bB (fA 3 (fM (m2 bP (gv 0) (kc (.int 7)))) (bI 2 (m2 bO (gv 2) (m2 bF (gv 1) (m2 bP (m2 cE (gv 0) (m2 bO (kc (.int 7)) (m2 gJ (kc (.int 26)) (gv 3)))) (kc (.int 26))))))) (cC (gv 2))))
noncomputable def vO (C C' : CT) : MS := bB (bM (mB (m2 cD (m2 bP (gv 0) (kc (.int 9))) (kc (.int 4)))) (cC (m2 jF (m2 bP (m2 cE (gv 0) (kc (.int 9))) (kc (.int 1999999))) (kc (.int 999999)))) (bQ)) (cC (m2 jF (m2 bP (m2 cE (gv 0) (kc (.int 9))) (kc (.int 14))) (kc (.int 4))))
noncomputable def rG (C C' : CT) : MS := bB (bI 4 (m2 bP (gv 0) (kc (.int 9)))) (bB (bM (jE (mB (m2 cD (gv 3) (kc (.int 0)))) (mB (m2 dH (gv 4) (kc (.int 2))))) (cC (mA bK (aC (kc (.str "number")) (aC (mA (C .q6) (aC (m2 cE (gv 0) (kc (.int 9))) (bA))) (bA))))) (bQ)) (bB (bM (mB (m2 dH (gv 4) (kc (.int 5)))) (cC (mA bK (aC (kc (.str "name")) (aC (m2 bF (gv 1) (m2 bP (m2 cE (gv 0) (kc (.int 9))) (mA cI (aC (gv 1) (bA))))) (bA))))) (bQ)) (bB (bM (dM (mB (m2 cD (gv 4) (kc (.int 5)))) (mB (m2 kI (mA cI (aC (gv 2) (bA))) (kc (.int 0))))) (bB (kK 5 6 (m2 bF (gv 2) (m2 bP (m2 cE (gv 0) (kc (.int 9))) (mA cI (aC (gv 2) (bA)))))) (bB (gP 7 [1, 2, 0, 3] (fM (gv 6)) (fun _ => .ok true) (mA (C .q7) (aC (mA (C .q4) (aC (gv 3) (aC (gv 0) (bA)))) (aC (gv 1) (aC (gv 2) (aC (m2 jF (gv 4) (kc (.int 1))) (bA))))))) (cC (mA bK (aC (kc (.str "call")) (aC (gv 5) (aC (mA jL (aC (gv 7) (bA))) (bA)))))))) (bQ)) (bB (bI 8 (mA (C .q7) (aC (mA (C .q4) (aC (gv 0) (aC (kc (.int 5)) (bA)))) (aC (gv 1) (aC (gv 2) (aC (m2 jF (gv 3) (kc (.int 1))) (bA))))))) (bB (bI 9 (mA (C .q7) (aC (mA (C .q4) (aC (gv 0) (aC (kc (.int 6)) (bA)))) (aC (gv 1) (aC (gv 2) (aC (m2 jF (gv 3) (kc (.int 1))) (bA))))))) (cC (mA bK (aC (m2 bF (kc (.str "+-*<=")) (m2 bP (m2 cE (gv 0) (kc (.int 9))) (kc (.int 5)))) (aC (gv 8) (aC (gv 9) (bA)))))))))))
noncomputable def xQ (C C' : CT) : MS := bB (bI 4 (m2 bF (gv 1) (m2 bP (m2 cE (gv 0) (kc (.int 16))) (mA cI (aC (gv 1) (bA)))))) (bB (bI 5 (mA (C .q7) (aC (mA (C .q4) (aC (gv 0) (aC (kc (.int 1)) (bA)))) (aC (gv 1) (aC (gv 2) (aC (kc (.int 2)) (bA))))))) (bB (bI 6 (m2 bP (gv 0) (kc (.int 16)))) (bB (bM (mB (m2 dH (gv 6) (kc (.int 4)))) (cC (mA bK (aC (kc (.str "let")) (aC (gv 4) (aC (gv 5) (bA)))))) (bQ)) (bB (bM (mB (m2 dH (gv 6) (kc (.int 6)))) (cC (mA bK (aC (kc (.str "tell")) (aC (gv 5) (bA))))) (bQ)) (bB (bM (mB (m2 cD (gv 6) (kc (.int 6)))) (cC (mA bK (aC (kc (.str "get")) (aC (gv 4) (bA))))) (bQ)) (bB (bM (mB (m2 cD (gv 6) (kc (.int 7)))) (cC (mA bK (aC (kc (.str "give")) (aC (gv 5) (bA))))) (bQ)) (bB (bM (dM (mB (m2 cD (gv 6) (kc (.int 8)))) (mB (m2 kI (mA cI (aC (gv 3) (bA))) (kc (.int 0))))) (cC (mA bK (aC (kc (.str "new")) (aC (gv 4) (aC (m2 bF (gv 3) (m2 bP (m2 cE (gv 0) (kc (.int 256))) (mA cI (aC (gv 3) (bA))))) (bA)))))) (bQ)) (bB (bM (mB (m2 cD (gv 6) (kc (.int 9)))) (cC (mA bK (aC (kc (.str "hand")) (aC (gv 4) (aC (gv 5) (bA)))))) (bQ)) (bB (bM (mB (m2 cD (gv 6) (kc (.int 10)))) (cC (mA bK (aC (kc (.str "hand")) (aC (gv 4) (aC (mA bK (aC (kc (.str "number")) (aC (m2 bO (kc (.int 1)) (m2 bP (m2 cE (gv 0) (kc (.int 256))) (kc (.int 4)))) (bA)))) (bA)))))) (bQ)) (bB (bM (mB (m2 cD (gv 6) (kc (.int 11)))) (cC (mA bK (aC (kc (.str "await")) (aC (gv 4) (aC (m2 bF (gv 1) (m2 bP (m2 cE (gv 0) (kc (.int 256))) (mA cI (aC (gv 1) (bA))))) (bA)))))) (bQ)) (bB (bM (mB (m2 kI (mA cI (aC (gv 2) (bA))) (kc (.int 0)))) (bB (kK 7 8 (m2 bF (gv 2) (m2 bP (m2 cE (gv 0) (kc (.int 256))) (mA cI (aC (gv 2) (bA)))))) (bB (gP 9 [1, 2, 0] (fM (gv 8)) (fun _ => .ok true) (mA (C .q7) (aC (mA (C .q4) (aC (gv 3) (aC (m2 bO (gv 0) (kc (.int 2))) (bA)))) (aC (gv 1) (aC (gv 2) (aC (kc (.int 1)) (bA))))))) (cC (mA bK (aC (kc (.str "do")) (aC (gv 7) (aC (mA jL (aC (gv 9) (bA))) (bA)))))))) (bQ)) (cC (mA bK (aC (kc (.str "tell")) (aC (gv 5) (bA))))))))))))))))
noncomputable def xR (C C' : CT) : MS := bB (bI 5 (m2 bP (gv 0) (kc (.int 12)))) (bB (bM (jE (mB (m2 cD (gv 4) (kc (.int 0)))) (mB (m2 dH (gv 5) (kc (.int 9))))) (cC (mA (C .q8) (aC (m2 cE (gv 0) (kc (.int 12))) (aC (gv 1) (aC (gv 2) (aC (gv 3) (bA))))))) (bQ)) (bB (bI 6 (mA (C .q7) (aC (mA (C .q4) (aC (gv 0) (aC (kc (.int 1)) (bA)))) (aC (gv 1) (aC (gv 2) (aC (kc (.int 2)) (bA))))))) (bB (bI 7 (mA (C .q10) (aC (mA (C .q4) (aC (gv 0) (aC (kc (.int 2)) (bA)))) (aC (m2 bP (m2 cE (gv 0) (kc (.int 12))) (kc (.int 4))) (aC (gv 1) (aC (gv 2) (aC (gv 3) (aC (m2 jF (gv 4) (kc (.int 1))) (bA))))))))) (bB (bM (mB (m2 cD (gv 5) (kc (.int 9)))) (cC (mA bK (aC (kc (.str "while")) (aC (gv 6) (aC (gv 7) (bA)))))) (bQ)) (bB (bM (mB (m2 cD (gv 5) (kc (.int 10)))) (bB (bI 8 (m2 bF (gv 1) (m2 bP (m2 cE (gv 0) (kc (.int 48))) (mA cI (aC (gv 1) (bA)))))) (bB (bI 6 (mA bK (aC (kc (.str "<")) (aC (mA bK (aC (kc (.str "name")) (aC (gv 8) (bA)))) (aC (mA bK (aC (kc (.str "number")) (aC (m2 bP (m2 cE (gv 0) (kc (.int 960))) (kc (.int 9))) (bA)))) (bA)))))) (cC (mA bK (aC (kc (.str "while")) (aC (gv 6) (aC (m2 bO (gv 7) (mA bK (aC (mA bK (aC (kc (.str "let")) (aC (gv 8) (aC (mA bK (aC (kc (.str "+")) (aC (mA bK (aC (kc (.str "name")) (aC (gv 8) (bA)))) (aC (mA bK (aC (kc (.str "number")) (aC (kc (.int 1)) (bA)))) (bA))))) (bA))))) (bA)))) (bA)))))))) (bQ)) (cC (mA bK (aC (kc (.str "if")) (aC (gv 6) (aC (gv 7) (aC (mA (C .q10) (aC (mA (C .q4) (aC (gv 0) (aC (kc (.int 3)) (bA)))) (aC (m2 bP (m2 cE (gv 0) (kc (.int 48))) (kc (.int 3))) (aC (gv 1) (aC (gv 2) (aC (gv 3) (aC (m2 jF (gv 4) (kc (.int 1))) (bA)))))))) (bA))))))))))))
noncomputable def xS (C C' : CT) : MS := bB (gP 6 [2, 3, 4, 5, 0] (fM (gv 1)) (fun _ => .ok true) (mA (C .q9) (aC (mA (C .q4) (aC (gv 5) (aC (gv 0) (bA)))) (aC (gv 1) (aC (gv 2) (aC (gv 3) (aC (gv 4) (bA)))))))) (cC (mA jL (aC (gv 6) (bA))))
noncomputable def bB3 (C C' : CT) : MS := bB (bI 3 (kc (.str "abcdefghijklmnopqrstuvwxyz"))) (cC (m2 bO (m2 bO (m2 bO (gQ (mA (C .q5) (aC (gv 0) (bA))) (gU) (gW (kc (.int 5)))) (m2 bF (gv 3) (gv 1))) (m2 bF (gv 3) (gv 2))) (kc (.str "z"))))
noncomputable def bB4 (C C' : CT) : MS := bB (bI 2 (mA (C .q3) (aC (gv 0) (aC (kc (.int 0)) (bA))))) (bB (bI 3 (mA (C .q3) (aC (gv 0) (aC (m2 bO (kc (.int 1)) (gv 1)) (bA))))) (bB (bM (mB (m2 cD (m2 bP (gv 3) (kc (.int 6))) (kc (.int 5)))) (cC (kc .non)) (bQ)) (bB (gP 4 [2, 1] (fM (m2 bP (gv 3) (kc (.int 4)))) (fun _ => .ok true) (mA (C .q11) (aC (gv 1) (aC (gv 2) (aC (gv 0) (bA)))))) (bB (gP 5 [2, 1, 3] (fM (m2 bP (m2 cE (gv 3) (kc (.int 6))) (kc (.int 3)))) (fun _ => .ok true) (mA bK (aC (mA (C .q11) (aC (gv 1) (aC (gv 2) (aC (m2 bO (kc (.int 10)) (gv 0)) (bA))))) (aC (m2 bP (mA (C .q4) (aC (gv 3) (aC (gv 0) (bA)))) (kc (.int 4))) (bA))))) (cC (mA bK (aC (mA (C .q11) (aC (gv 2) (aC (gv 1) (aC (kc (.int 25)) (bA))))) (aC (mA jL (aC (gv 4) (bA))) (aC (mA jL (aC (gv 5) (bA))) (bA))))))))))
noncomputable def bB5 (C C' : CT) : MS := bB (qT 3) (bB (fA 4 (fM (m2 bP (gv 2) (kc (.int 7)))) (bB (bI 5 (m2 bF (gv 0) (m2 bP (mA (C .q4) (aC (gv 2) (aC (gv 4) (bA)))) (mA cI (aC (gv 0) (bA)))))) (bM (dM (mB (m2 (dO true) (gv 5) (kc .non))) (mB (m2 lF (m2 bF (gv 5) (kc (.int 0))) (gv 1)))) (bB (bI 6 (m2 bO (mA jW (aC (m2 bF (gv 5) (kc (.int 1))) (bA))) (dB [] (bV (m2 bF (gv 5) (kc (.int 2)))) (dJ (fun _ => .ok true)) (dJ (gv 0))))) (bM (mB (m2 kI (mA cI (aC (gv 6) (bA))) (kc (.int 0)))) (bB (bI 7 (mA bK (aC (m2 bF (gv 5) (kc (.int 0))) (aC (m2 bF (gv 6) (m2 bP (m2 cE (mA (C .q4) (aC (gv 2) (aC (gv 4) (bA)))) (kc (.int 7))) (mA cI (aC (gv 6) (bA))))) (bA))))) (bM (nO 3 (mB (m2 (gE true) (gv 7) (gv 3)))) (lG 3 (gv 7)) (bQ))) (bQ))) (bQ)))) (bB (nK 3) (cC (gv 3))))
noncomputable def bB6 (C C' : CT) : MS := bB (bI 2 (mA jU (bA))) (bB (bI 3 (mA jU (bA))) (bB (kM 4 5 (bV (gv 1)) (fA 6 (bV (gv 0)) (bM (dM (mB (m2 (dO true) (gv 6) (kc .non))) (mB (m2 cD (m2 bF (gv 6) (kc (.int 0))) (gv 4)))) (bB (bI 2 (m2 bO (gv 2) (dB [5] (bV (m2 bF (gv 6) (kc (.int 1)))) (mB (m2 cD (gv 0) (gv 1))) (gv 0)))) (bI 3 (m2 bO (gv 3) (dB [5] (bV (m2 bF (gv 6) (kc (.int 2)))) (mB (m2 cD (m2 bF (gv 0) (kc (.int 0))) (gv 1))) (gv 0))))) (bQ)))) (cC (mA bK (aC (gv 2) (aC (gv 3) (bA)))))))
noncomputable def xT (C C' : CT) : MS := bB (bI 4 (mA (C .q3) (aC (gv 0) (aC (kc (.int 0)) (bA))))) (bB (bI 5 (mA (C .q3) (aC (gv 0) (aC (m2 bO (kc (.int 5)) (gv 2)) (bA))))) (bB (bI 6 (mA (C .q11) (aC (gv 4) (aC (gv 2) (aC (kc (.int 25)) (bA)))))) (bB (bI 7 (mA (C .q13) (aC (gv 1) (aC (gv 6) (aC (m2 cE (gv 5) (kc (.int 3))) (bA)))))) (bB (kK 8 9 (mA (C .q14) (aC (gv 1) (aC (gv 7) (bA))))) (bB (gP 10 [4, 2] (fM (m2 bO (kc (.int 1)) (m2 bP (gv 5) (kc (.int 3))))) (fun _ => .ok true) (mA (C .q11) (aC (gv 1) (aC (gv 2) (aC (m2 bO (kc (.int 5)) (gv 0)) (bA)))))) (bB (gP 11 [4, 2, 5] (fM (m2 bP (m2 cE (gv 5) (kc (.int 21))) (kc (.int 3)))) (fun _ => .ok true) (mA bK (aC (mA (C .q11) (aC (gv 1) (aC (gv 2) (aC (m2 bO (kc (.int 13)) (gv 0)) (bA))))) (aC (m2 bP (mA (C .q4) (aC (gv 3) (aC (gv 0) (bA)))) (kc (.int 4))) (bA))))) (bB (bM (mB (m2 (dO true) (m2 bF (gv 1) (gv 2)) (kc .non))) (bB (bI 8 (m2 bO (gv 8) (mA jW (aC (m2 bF (m2 bF (gv 1) (gv 2)) (kc (.int 1))) (bA))))) (bI 11 (m2 bO (mA jW (aC (m2 bF (m2 bF (gv 1) (gv 2)) (kc (.int 2))) (bA))) (gv 11)))) (bQ)) (bB (bI 8 (m2 bO (gv 8) (gv 10))) (bB (bI 9 (m2 bO (gv 9) (gv 11))) (bB (qT 12) (bB (kM 13 14 (xB (gv 11)) (bB (gP 15 [4, 2] (fM (m2 bF (gv 14) (kc (.int 1)))) (fun _ => .ok true) (mA (C .q11) (aC (gv 1) (aC (gv 2) (aC (m2 bO (kc (.int 16)) (gv 0)) (bA)))))) (bB (bI 16 (dB [] (bV (gv 9)) (dJ (mB (m2 cD (gv 1) (kc (.int 0))))) (dJ (gv 0)))) (bB (bI 17 (mA (C .q10) (aC (mA (C .q4) (aC (gv 5) (aC (m2 bO (kc (.int 20)) (gv 13)) (bA)))) (aC (m2 bO (kc (.int 1)) (m2 bP (gv 5) (kc (.int 4)))) (aC (m2 bO (gv 8) (gv 15)) (aC (gv 9) (aC (gv 16) (aC (kc (.int 2)) (bA))))))))) (lG 12 (mA bK (aC (m2 bF (gv 14) (kc (.int 0))) (aC (mA jL (aC (gv 15) (bA))) (aC (mA bK (bA)) (aC (gv 17) (bA))))))))))) (bB (nK 12) (bB (bI 16 (dB [] (bV (gv 9)) (dJ (mB (m2 cD (gv 1) (kc (.int 0))))) (dJ (gv 0)))) (bB (gP 17 [8, 9, 16, 0, 2] (fM (gv 3)) (fun _ => .ok true) (mA (C .q9) (aC (mA (C .q3) (aC (gv 4) (aC (m2 bO (m2 bO (kc (.int 9)) (gv 5)) (m2 gJ (kc (.int 4)) (gv 0))) (bA)))) (aC (gv 1) (aC (gv 2) (aC (gv 3) (aC (kc (.int 2)) (bA)))))))) (cC (mA bK (aC (gv 6) (aC (mA jL (aC (gv 7) (bA))) (aC (mA jL (aC (gv 10) (bA))) (aC (mA jL (aC (gv 12) (bA))) (aC (mA jL (aC (gv 17) (bA))) (bA))))))))))))))))))))))
noncomputable def bB7 (C C' : CT) : MS := bB (bI 1 (m2 bO (kc (.int 1)) (m2 bP (m2 cE (mA (C .q3) (aC (gv 0) (aC (kc (.int 0)) (bA)))) (kc (.int 7))) (kc (.int 4))))) (bB (bI 2 (dB [0] (fM (gv 1)) (fun _ => .ok true) (mA (C .q12) (aC (gv 1) (aC (gv 0) (bA)))))) (bB (bI 3 (mA xC (aC (kc (.int 9)) (aC (mA tG (aC (kc (.int 1)) (aC (m2 cE (m2 jF (mA cI (aC (gv 0) (bA))) (kc (.int 9))) (kc (.int 4))) (bA)))) (bA))))) (cC (dB [2, 0, 3] (fM (gv 1)) (fun _ => .ok true) (mA bK (aC (m2 bF (gv 1) (gv 0)) (aC (mA (C .q15) (aC (gv 2) (aC (gv 1) (aC (gv 0) (aC (gv 3) (bA)))))) (bA))))))))
noncomputable def bB8 (C C' : CT) : MS := bB (bI 3 (m2 bP (gv 1) (m2 bO (mA cI (aC (gv 0) (bA))) (kc (.int 1))))) (cC (m2 bO (m2 bO (gQ (gv 0) (gU) (gW (gv 3))) (mA bK (aC (gv 2) (bA)))) (gQ (gv 0) (gW (gv 3)) (gU))))
noncomputable def bB9 (C C' : CT) : MS := bB (bI 2 (m2 bP (gv 1) (mA tG (aC (kc (.int 1)) (aC (mA cI (aC (gv 0) (bA))) (bA)))))) (cC (m2 bO (gQ (gv 0) (gU) (gW (gv 2))) (gQ (gv 0) (gW (m2 bO (gv 2) (kc (.int 1)))) (gU))))
noncomputable def bC0 (C C' : CT) : MS := bB (bZ1 4 5 6 7 8 (gv 0)) (bB (bI 9 (m2 bP (gv 3) (kc (.int 12)))) (bB (bI 3 (m2 cE (gv 3) (kc (.int 12)))) (bB (bI 10 (m2 bO (m2 bO (m2 bO (mA jW (aC (gv 6) (bA))) (dB [] (bV (gv 7)) (fun _ => .ok true) (m2 bF (gv 0) (kc (.int 0))))) (dB [] (bV (gv 5)) (dJ (fun _ => .ok true)) (dJ (gv 1)))) (mA jU (aC (kc (.str "zz")) (bA))))) (bB (bM (mB (m2 (dO true) (gv 1) (kc .non))) (bI 10 (m2 bO (gv 10) (mA jW (aC (m2 bF (gv 1) (kc (.int 1))) (bA))))) (bQ)) (bB (bI 11 (m2 bF (gv 10) (m2 bP (gv 3) (mA cI (aC (gv 10) (bA)))))) (bB (bM (mB (m2 dH (gv 9) (kc (.int 4)))) (bB (bI 12 (m2 bF (mA jU (aC (gv 2) (aC (gv 4) (aC (kc (.str "yy")) (aC (gv 2) (bA)))))) (gv 9))) (bI 5 (mA (C .q17) (aC (gv 5) (aC (m2 cE (gv 3) (kc (.int 7))) (aC (mA bK (aC (gv 12) (aC (gv 11) (bA)))) (bA))))))) (bM (dM (mB (m2 dH (gv 9) (kc (.int 6)))) (mB (m2 kI (mA cI (aC (gv 5) (bA))) (kc (.int 0))))) (bI 5 (mA (C .q17) (aC (gv 5) (aC (m2 cE (gv 3) (kc (.int 7))) (aC (m2 bF (gv 5) (m2 bP (gv 3) (mA cI (aC (gv 5) (bA))))) (bA)))))) (bM (dM (mB (m2 dH (gv 9) (kc (.int 8)))) (mB (m2 dH (mA cI (aC (gv 6) (bA))) (kc (.int 6))))) (bI 6 (mA (C .q17) (aC (gv 6) (aC (m2 cE (gv 3) (kc (.int 7))) (aC (gv 11) (bA)))))) (bM (dM (mB (m2 dH (gv 9) (kc (.int 10)))) (mB (m2 dH (mA cI (aC (gv 7) (bA))) (kc (.int 6))))) (bI 7 (mA (C .q17) (aC (gv 7) (aC (m2 cE (gv 3) (kc (.int 7))) (aC (mA bK (aC (gv 11) (aC (gQ (mA bK (aC (kc (.str "xx")) (aC (kc (.str "ww")) (bA)))) (gU) (gW (m2 bP (m2 cE (gv 3) (kc (.int 5))) (kc (.int 3))))) (aC (mA bK (bA)) (aC (mA bK (bA)) (bA)))))) (bA)))))) (bM (mB (m2 cD (gv 9) (kc (.int 10)))) (bI 7 (mA (C .q18) (aC (gv 7) (aC (m2 cE (gv 3) (kc (.int 7))) (bA))))) (bQ)))))) (cC (mA bK (aC (gv 4) (aC (gQ (gv 5) (gU) (gW (kc (.int 8)))) (aC (gQ (gv 6) (gU) (gW (kc (.int 6)))) (aC (gQ (gv 7) (gU) (gW (kc (.int 6)))) (aC (mA bK (bA)) (bA))))))))))))))
noncomputable def bC1 (C C' : CT) : MS := bB (bI 1 (mA (C .q16) (aC (gv 0) (bA)))) (bB (bI 2 (m2 bP (mA (C .q3) (aC (gv 0) (aC (kc (.int 4)) (bA)))) (mA cI (aC (gv 1) (bA))))) (bB (bI 3 (m2 bF (m2 bF (m2 bF (gv 1) (m2 bP (m2 cE (mA (C .q3) (aC (gv 0) (aC (kc (.int 4)) (bA)))) (kc (.int 4))) (mA cI (aC (gv 1) (bA))))) (kc (.int 1))) (kc (.int 0)))) (bB (kK 4 5 (m2 bF (gv 1) (gv 2))) (bB (bI 6 (mA jL (aC (dB [] (bV (m2 bF (gv 5) (kc (.int 3)))) (fun _ => .ok true) (mA bK (aC (m2 bF (gv 0) (kc (.int 0))) (aC (m2 bF (gv 0) (kc (.int 1))) (aC (m2 bF (gv 0) (kc (.int 2))) (aC (mA bK (bA)) (bA))))))) (bA)))) (bB (bI 5 (mA bK (aC (m2 bF (gv 5) (kc (.int 0))) (aC (m2 bF (gv 5) (kc (.int 1))) (aC (m2 bF (gv 5) (kc (.int 2))) (aC (gv 6) (aC (mA bK (bA)) (bA)))))))) (bB (bI 5 (mA (C .q19) (aC (gv 5) (aC (gv 4) (aC (gv 3) (aC (mA (C .q3) (aC (gv 0) (aC (kc (.int 3)) (bA)))) (bA))))))) (bB (xF 7) (bB (kM 8 9 (bV (gv 1)) (bM (mB (m2 (dO true) (gv 8) (kc .non))) (fH 7 (m2 bF (gv 8) (kc (.int 0))) (gv 8)) (bQ))) (bB (zX 7) (bB (tJ 10 7) (bB (bI 11 (mP (mR (C .q0)) (dS (gv 5) (kN 7 (dS (gv 4) (fK)))))) (bB (bI 12 (mA (C .q20) (aC (gv 5) (aC (dB [] (bV (gv 1)) (dJ (fun _ => .ok true)) (dJ (gv 0))) (aC (gv 4) (bA)))))) (bB (bM (jE (bA0 7 10) (mB (m2 bA1 (mP (mR (C .q0)) (dS (gv 5) (kN 7 (dS (gv 4) (fK))))) (gv 12)))) (cC (kc (.bl false))) (bQ)) (cC (pH (m2 cD (gv 11) (gv 12)) (vOr (m2 (dO false) (gv 11) (kc .non)) (pH (m1 (qQ "tuple") (gv 11)) (m2 cD (mA cI (aC (gv 11) (bA))) (kc (.int 2))))))))))))))))))))
noncomputable def bK6 (C : CT) : MS := bB (fA 2 (bV (mA (C .q1) (aC (gv 0) (bA)))) (bB (fun _ => .bad) (bM (mB (m2 (dO true) (gv 3) (kc .non))) (dQ 1 (gv 3)) (bQ)))) (dQ 1 (kc .non))
noncomputable def mS (C : CT) := mM 2 4 (bK6 C)
noncomputable def bK7 (C : CT) : MS := bB (fA 2 (bV (m2 bF (gv 0) (kc (.int 3)))) (bB (tJ 3 1) (bB (fA 4 (bV (m2 bO (m2 bF (gv 2) (kc (.int 1))) (m2 bF (gv 2) (kc (.int 2))))) (fH 3 (gv 4) (kc gM))) (bB (mN 5 3 (mS C) (dS (m2 bF (gv 2) (kc (.int 3))) (fK))) (bM (mB (m2 (dO true) (gv 5) (kc .non))) (dQ 1 (gv 5)) (bQ)))))) (xH 1 (mS C) (dS (m2 bF (gv 0) (kc (.int 4))) (fK)))
noncomputable def xU (C : CT) := mM 2 6 (bK7 C)
noncomputable def bK8 (C : CT) : MS := bB (tN 3 (mB (m2 (dO false) (gv 1) (kc .non))) (m2 bF (gv 1) (kc (.int 2)))) (bB (fA 4 (bV (m2 bF (gv 0) (kc (.int 3)))) (bB (bI 5 (m2 bF (gv 4) (kc (.int 0)))) (bB (bI 6 (mA cI (aC (m2 bF (gv 4) (kc (.int 1))) (bA)))) (bB (bM (dL false 3 (gv 5)) (xK 3 (gv 5) (gv 6) (dQ 2 (mA bK (aC (kc (.str "count")) (aC (gv 5) (bA)))))) (bM (dL false 2 (gv 5)) (dQ 2 (mA bK (aC (kc (.str "twice")) (aC (gv 5) (bA))))) (bQ))) (fH 2 (gv 5) (mA bK (aC (kc (.str "DEED")) (aC (gv 6) (bA))))))))) (bB (bM (mB (m2 kI (bI7 3) (kc (.int 0)))) (dQ 2 (mA bK (aC (kc (.str "lacks")) (aC (m2 bF (zZ 3) (kc (.int 0))) (bA))))) (bQ)) (dQ 2 (kc .non))))
noncomputable def xV (C : CT) := mM 3 7 (bK8 C)
noncomputable def dO1 (C : CT) : MS := bB (fA 2 (bV (m2 bF (gv 0) (kc (.int 2)))) (bB (bM (dL false 1 (gv 2)) (dQ 1 (mA bK (aC (kc (.str "twice")) (aC (gv 2) (bA))))) (bQ)) (fH 1 (gv 2) (kc gM)))) (dQ 1 (kc .non))
noncomputable def rH (C : CT) := mM 2 3 (dO1 C)
noncomputable def bK9 (C : CT) : MS := bB (xF 1) (bB (bM (mB (m2 (dO true) (gv 0) (kc .non))) (bB (fA 2 (bV (m2 bF (gv 0) (kc (.int 1)))) (fH 1 (gv 2) (kc gM))) (fA 3 (bV (m2 bF (gv 0) (kc (.int 2)))) (fH 1 (m2 bF (gv 3) (kc (.int 0))) (mA bK (aC (kc (.str "DEED")) (aC (m2 bF (gv 3) (kc (.int 1))) (bA))))))) (bQ)) (bI4 1))
noncomputable def nQ (C : CT) := xI 1 4 (bK9 C)
noncomputable def dO2 (C : CT) : MS := bB (kM 3 4 (bV (m2 bF (gv 0) (kc (.int 1)))) (bB (bM (jE (mB (m2 cD (gv 3) (m2 bF (gv 0) (kc (.int 0))))) (dL true 1 (gv 3))) (dQ 2 (mA bK (aC (kc (.str "noface")) (aC (gv 3) (bA))))) (bQ)) (bB (pS 5 (nQ C) (aC (jO 1 (gv 3)) (bA))) (bB (bM (dL true 5 (gv 4)) (dQ 2 (mA bK (aC (kc (.str "nottold")) (aC (gv 4) (bA))))) (bQ)) (bB (bM (dL false 2 (gv 4)) (dQ 2 (mA bK (aC (kc (.str "twice")) (aC (gv 4) (bA))))) (bQ)) (fH 2 (gv 4) (jO 5 (gv 4)))))))) (dQ 2 (kc .non))
noncomputable def rJ (C : CT) := mM 3 6 (dO2 C)
noncomputable def bL0 (C : CT) : MS := bB (qT 3) (bB (fA 4 (bV (m2 bF (gv 0) (kc (.int 3)))) (bB (bM (dM (dL false 2 (m2 bF (gv 4) (kc (.int 0)))) (jE (mB (m2 dH (pT 1 (m2 bF (gv 4) (kc (.int 0))) (m1 kH (kc (.int 1)))) (kc (.int 0)))) (nO 3 (mB (m2 (gE false) (m2 bF (gv 4) (kc (.int 0))) (gv 3)))))) (dQ 2 (mA bK (aC (kc (.str "twice")) (aC (m2 bF (gv 4) (kc (.int 0))) (bA))))) (bQ)) (bB (bM (dM (dL false 2 (m2 bF (gv 4) (kc (.int 0)))) (mB (m2 lF (jO 1 (m2 bF (gv 4) (kc (.int 0)))) (mA cI (aC (m2 bF (gv 4) (kc (.int 1))) (bA)))))) (dQ 2 (mA bK (aC (kc (.str "count")) (aC (m2 bF (gv 4) (kc (.int 0))) (bA))))) (bQ)) (bB (fH 2 (m2 bF (gv 4) (kc (.int 0))) (mA cI (aC (m2 bF (gv 4) (kc (.int 1))) (bA)))) (lG 3 (m2 bF (gv 4) (kc (.int 0)))))))) (bB (nK 3) (bB (fA 5 (xJ 1) (bM (dM (mB (m2 wT (jO 1 (gv 5)) (kc (.int 0)))) (mB (m2 (gE true) (gv 5) (gv 3)))) (dQ 2 (mA bK (aC (kc (.str "lacks")) (aC (gv 5) (bA))))) (bQ))) (dQ 2 (kc .non)))))
noncomputable def xW (C : CT) := mM 3 6 (bL0 C)
noncomputable def pY (C : CT) : MS := bB (pS 3 (nQ C) (aC (gv 2) (bA))) (bB (mN 4 3 (rJ C) (dS (gv 0) (kN 1 (fK)))) (bB (bM (mB (m2 (dO false) (gv 4) (kc .non))) (mN 4 3 (rH C) (dS (gv 0) (fK))) (bQ)) (bB (bM (mB (m2 (dO false) (gv 4) (kc .non))) (mN 4 3 (xV C) (dS (gv 0) (dS (gv 2) (fK)))) (bQ)) (bB (bM (mB (m2 (dO false) (gv 4) (kc .non))) (mN 4 3 (xU C) (dS (gv 0) (fK))) (bQ)) (cC (gv 4))))))
noncomputable def bC2 (C : CT) : List D -> bD D
 | [u, t, f] => match bA2 t with
  | some T => mO 3 5 (pY C) [.val u, .tab T, .val f]
  | none => .bad
 | _ => .bad
noncomputable def xX (C C' : CT) : MS := bB (xF 3) (bB (bM (mB (m2 (dO true) (gv 2) (kc .non))) (bB (fA 4 (bV (m2 bF (gv 2) (kc (.int 1)))) (fH 3 (gv 4) (m1 kH (kc (.int 1))))) (kM 5 6 (bV (m2 bF (gv 2) (kc (.int 2)))) (fH 3 (gv 5) (gv 6)))) (bQ)) (bB (tJ 7 3) (bB (zX 3) (bB (kM 8 9 (bV (m2 bF (gv 0) (kc (.int 1)))) (bB (gP 10 [8, 0] (bV (gv 1)) (dM (mB (m2 (dO true) (gv 0) (kc .non))) (dM (mB (m2 cD (m2 bF (gv 0) (kc (.int 0))) (gv 1))) (mB (m2 lF (gv 1) (m2 bF (gv 2) (kc (.int 0))))))) (gv 0)) (bB (bM (mB (m2 cD (gv 10) (mA jU (bA)))) (cC (mA bK (aC (kc (.str "noface")) (aC (gv 8) (bA))))) (bQ)) (bB (bI 11 (m2 bO (dB [9] (bV (m2 bF (m2 bF (gv 10) (kc (.int 0))) (kc (.int 1)))) (mB (m2 cD (gv 0) (gv 1))) (m1 kH (kc (.int 1)))) (dB [9] (bV (m2 bF (m2 bF (gv 10) (kc (.int 0))) (kc (.int 2)))) (mB (m2 cD (m2 bF (gv 0) (kc (.int 0))) (gv 1))) (m2 bF (gv 0) (kc (.int 1)))))) (bB (bM (mB (m2 cD (gv 11) (mA jU (bA)))) (cC (mA bK (aC (kc (.str "nottold")) (aC (gv 9) (bA))))) (bQ)) (bB (bM (dL false 7 (gv 9)) (cC (mA bK (aC (kc (.str "twice")) (aC (gv 9) (bA))))) (bQ)) (fH 7 (gv 9) (m2 bF (gv 11) (kc (.int 0)))))))))) (bB (fA 9 (bV (m2 bF (gv 0) (kc (.int 2)))) (bB (bM (dL false 7 (gv 9)) (cC (mA bK (aC (kc (.str "twice")) (aC (gv 9) (bA))))) (bQ)) (fH 7 (gv 9) (m1 kH (kc (.int 1)))))) (bJ2 7 (xW C) (dS (gv 0) (kN 3 (fK)))))))))
noncomputable def Ph : Nat -> CT
 | n + 3, i, ds => match i with
  | .q0 => (match n with
   | 0 => .bad
   | _ + 1 => bC2 (Ph n) ds)
  | .q1 => cV 1 3 (cA3 (Ph (n + 2)) (Ph n)) ds
  | .q2 => cV 2 2 (bA9 (Ph (n + 2)) (Ph n)) ds
  | .q3 => cV 2 3 (bB0 (Ph (n + 2)) (Ph n)) ds
  | .q4 => cV 2 3 (bB1 (Ph (n + 2)) (Ph n)) ds
  | .q5 => cV 1 4 (bB2 (Ph (n + 2)) (Ph n)) ds
  | .q6 => cV 1 1 (vO (Ph (n + 2)) (Ph n)) ds
  | .q7 => cV 4 10 (rG (Ph (n + 2)) (Ph n)) ds
  | .q8 => cV 4 10 (xQ (Ph (n + 2)) (Ph n)) ds
  | .q9 => cV 5 9 (xR (Ph (n + 2)) (Ph n)) ds
  | .q10 => cV 6 7 (xS (Ph (n + 2)) (Ph n)) ds
  | .q11 => cV 3 4 (bB3 (Ph (n + 2)) (Ph n)) ds
  | .q12 => cV 2 6 (bB4 (Ph (n + 2)) (Ph n)) ds
  | .q13 => cV 3 8 (bB5 (Ph (n + 2)) (Ph n)) ds
  | .q14 => cV 2 7 (bB6 (Ph (n + 2)) (Ph n)) ds
  | .q15 => cV 4 18 (xT (Ph (n + 2)) (Ph n)) ds
  | .q16 => cV 1 4 (bB7 (Ph (n + 2)) (Ph n)) ds
  | .q17 => cV 3 4 (bB8 (Ph (n + 2)) (Ph n)) ds
  | .q18 => cV 2 3 (bB9 (Ph (n + 2)) (Ph n)) ds
  | .q19 => cV 4 13 (bC0 (Ph (n + 2)) (Ph n)) ds
  | .q20 => cV 3 12 (xX (Ph (n + 2)) (Ph n)) ds
  | .law => cV 1 13 (bC1 (Ph (n + 2)) (Ph n)) ds
 | _, _, _ => .bad
structure Tab (P : Program) (w : World) (K : W.Frag) (mg : Str -> Option Value) (base : Heap) (n : Nat) (C : CT) : Prop where
 c1 : bX6 P w K mg base n "fault_of" (mR (C .q0))
 h1 : ∃ f fd, bL K "fault_of" "fault_of" s1 f fd /\ mg "fault_of" = some (.ref f) /\ cY K fd ["unit", "faces", "face"] []
 h2 : ∃ f fd, bL K "meanings_told" "meanings_told" s2 f fd /\ mg "meanings_told" = some (.ref f) /\ cY K fd ["face"] []
 h3 : ∃ f fd, bL K "fault_of_takes" "fault_of_takes" s3 f fd /\ mg "fault_of_takes" = some (.ref f) /\ cY K fd ["unit", "faces", "top"] []
 h4 : ∃ f fd, bL K "fault_of_words" "fault_of_words" s4 f fd /\ mg "fault_of_words" = some (.ref f) /\ cY K fd ["unit", "top"] []
 h5 : ∃ f fd, bL K "fault_of_deeds" "fault_of_deeds" s5 f fd /\ mg "fault_of_deeds" = some (.ref f) /\ cY K fd ["unit", "face", "top"] []
 h6 : ∃ f fd, bL K "fault_of_blocks" "fault_of_blocks" s6 f fd /\ mg "fault_of_blocks" = some (.ref f) /\ cY K fd ["unit", "top"] []
 h7 : ∃ f fd, bL K "fault_of_block" "fault_of_block" s7 f fd /\ mg "fault_of_block" = some (.ref f) /\ cY K fd ["block", "meanings"] []
 c9 : fN P w K mg base n "uses_of_block" (C .q1)
 c14 : fN P w K mg base n "_law_cell_at" (C .q2)
 c15 : fN P w K mg base n "_law_mixed" (C .q3)
 c16 : fN P w K mg base n "_law_drawn" (C .q4)
 c17 : fN P w K mg base n "_law_stem" (C .q5)
 c18 : fN P w K mg base n "_law_value" (C .q6)
 c19 : fN P w K mg base n "_law_expression" (C .q7)
 c20 : fN P w K mg base n "_law_short" (C .q8)
 c21 : fN P w K mg base n "_law_statement" (C .q9)
 c22 : fN P w K mg base n "_law_block" (C .q10)
 c23 : fN P w K mg base n "_law_said" (C .q11)
 c24 : fN P w K mg base n "_law_told" (C .q12)
 c25 : fN P w K mg base n "_law_takes" (C .q13)
 c26 : fN P w K mg base n "_law_sorts" (C .q14)
 c27 : fN P w K mg base n "_law_member" (C .q15)
 c28 : fN P w K mg base n "_law_set" (C .q16)
 c29 : fN P w K mg base n "_law_put_in" (C .q17)
 c30 : fN P w K mg base n "_law_left" (C .q18)
 c31 : fN P w K mg base n "_law_spoilt" (C .q19)
 c32 : fN P w K mg base n "_law_heads" (C .q20)
 h33 : ∃ f fd, bL K "_law_deeds_heads" "_law_deeds_heads" rF f fd /\ mg "_law_deeds_heads" = some (.ref f) /\ cY K fd ["_law_unit", "_law_told_here", "_law_top"] []
 c34 : fN P w K mg base n "law" (C .law)
 b_dict : mg "dict" = none
 b_enumerate : mg "enumerate" = none
 b_isinstance : mg "isinstance" = none
 b_len : mg "len" = none
 b_list : mg "list" = none
 b_max : mg "max" = none
 b_min : mg "min" = none
 b_range : mg "range" = none
 b_tuple : mg "tuple" = none
 gc_WORD : qR K mg "WORD" gM
noncomputable def fsL (C : CT) : List (Str × (List D -> bD D)) := [kv "uses_of_block" (C .q1), kv "_law_cell_at" (C .q2), kv "_law_mixed" (C .q3), kv "_law_drawn" (C .q4), kv "_law_stem" (C .q5), kv "_law_value" (C .q6), kv "_law_expression" (C .q7), kv "_law_short" (C .q8), kv "_law_statement" (C .q9), kv "_law_block" (C .q10), kv "_law_said" (C .q11), kv "_law_told" (C .q12), kv "_law_takes" (C .q13), kv "_law_sorts" (C .q14), kv "_law_member" (C .q15), kv "_law_set" (C .q16), kv "_law_put_in" (C .q17), kv "_law_left" (C .q18), kv "_law_spoilt" (C .q19), kv "_law_heads" (C .q20), kv "law" (C .law)]
noncomputable def csL : List (Str × D) := [kv "WORD" gM]
noncomputable def bsL : List Str := ["dict", "enumerate", "isinstance", "len", "list", "max", "min", "range", "tuple"]
theorem tok {P : Program} {w : World} {K : W.Frag} {mg : Str -> Option Value} {base : Heap} {n : Nat} {C : CT} (TT : Tab P w K mg base n C) : pX P w K mg base n (fsL C) csL bsL where
 fs := gL TT.c9 (gL TT.c14 (gL TT.c15 (gL TT.c16 (gL TT.c17 (gL TT.c18 (gL TT.c19 (gL TT.c20 (gL TT.c21 (gL TT.c22 (gL TT.c23 (gL TT.c24 (gL TT.c25 (gL TT.c26 (gL TT.c27 (gL TT.c28 (gL TT.c29 (gL TT.c30 (gL TT.c31 (gL TT.c32 (gL TT.c34 (bK5)))))))))))))))))))))
 cs := gL TT.gc_WORD (bK5)
 bs := nP TT.b_dict (nP TT.b_enumerate (nP TT.b_isinstance (nP TT.b_len (nP TT.b_list (nP TT.b_max (nP TT.b_min (nP TT.b_range (nP TT.b_tuple (dL7)))))))))
end Jm
end
section
namespace Jm
open PySem PySem.Spec PyProof.Rows L2 R
variable [bN]
theorem c2 {m : D -> D -> bD D} {f g : ME} {x y z : D} {ρ : bJ} (h1 : f ρ = .ok x) (h2 : g ρ = .ok y) (h3 : m x y = .ok z) : m2 m f g ρ = .ok z := by simp [m2, h1, h2, bD.bind, h3]
theorem cB {f : ME} {b : Bool} {ρ : bJ} (q : f ρ = .ok (.bl b)) : mB f ρ = .ok b := by simp [mB, q, bD.bind, qP]
theorem a1 {m : List D -> bD D} {f : ME} {x z : D} {ρ : bJ} (h1 : f ρ = .ok x) (h3 : m [x] = .ok z) : mA m (aC f (bA)) ρ = .ok z := by simp [mA, aC, bA, h1, bD.bind, h3]
theorem a2 {m : List D -> bD D} {f g : ME} {x y z : D} {ρ : bJ} (h1 : f ρ = .ok x) (h2 : g ρ = .ok y) (h3 : m [x, y] = .ok z) : mA m (aC f (aC g (bA))) ρ = .ok z := by simp [mA, aC, bA, h1, h2, bD.bind, h3]
theorem a3 {m : List D -> bD D} {f g h : ME} {x y u z : D} {ρ : bJ} (h1 : f ρ = .ok x) (h2 : g ρ = .ok y) (h2' : h ρ = .ok u) (h3 : m [x, y, u] = .ok z) : mA m (aC f (aC g (aC h (bA)))) ρ = .ok z := by simp [mA, aC, bA, h1, h2, h2', bD.bind, h3]
theorem a4 {m : List D -> bD D} {f g h i : ME} {x y u v z : D} {ρ : bJ} (h1 : f ρ = .ok x) (h2 : g ρ = .ok y) (h2' : h ρ = .ok u) (h2'' : i ρ = .ok v) (h3 : m [x, y, u, v] = .ok z) : mA m (aC f (aC g (aC h (aC i (bA))))) ρ = .ok z := by simp [mA, aC, bA, h1, h2, h2', h2'', bD.bind, h3]
theorem jA {c : MT} {A R : MS} {ρ : bJ} (h : c ρ = .ok false) : bB (bM c A bQ) R ρ = R ρ := by
 simp [bB, bM, h, bD.bind, bQ, mD]
theorem rK {c : MT} {A B R : MS} {ρ : bJ} (h : c ρ = .ok true) : bB (bM c A B) R ρ = bB A R ρ := by
 simp [bB, bM, h, bD.bind, mD]
theorem cX {i : Nat} {f : ME} {R : MS} {ρ : bJ} {d : D} (h : f ρ = .ok d) : bB (bI i f) R ρ = R (ρ.set i (.val d)) := by
 simp [bB, bI, h, bD.bind, mD]
theorem nR {f : ME} {ρ : bJ} {d : D} (h : f ρ = .ok d) : ((cC f ρ).bind bU) = .ok d := by
 simp [cC, h, bD.bind, bU]
theorem cA4 {f : ME} {R : MS} {ρ : bJ} {d : D} (h : f ρ = .ok d) : (bB (cC f) R ρ).bind bU = .ok d := by
 simp [bB, cC, h, bD.bind, mD, bU]
theorem cZ {A R : MS} {ρ ρ' : bJ} (h : A ρ = .ok (.nx ρ')) : bB A R ρ = R ρ' := by
 simp [bB, h, bD.bind, mD]
theorem cA5 {A B D : MS} {ρ : bJ} : bB (bB A B) D ρ = bB A (bB B D) ρ := by
 unfold bB
 cases A ρ with
 | ok fl => cases fl <;> rfl
 | _ => rfl
theorem cQ {xs : List D} (i : Nat) (x : D) (h : xs[i]? = some x) : bF (.tup xs) (.int (i : Int)) = .ok x := by
 have e : gG xs (i : Int) = some x := wI h
 simp only [bF, e]
theorem rM (a b : Str) : cD (.str a) (.str b) = .ok (.bl (a == b)) := by
 simp [cD, gD, fQ]
theorem line : (1000000 : Nat) <= sizeLine := by have := sizeLine_eq; omega
theorem bL1 {i : Nat} {f : ME} {ρ : bJ} {acc : List D} {d : D} (hi : ρ[i]? = some (.own acc)) (hf : f ρ = .ok d) (hz : acc.length < 1000000) : lG i f ρ = .ok (.nx (ρ.set i (.own (acc ++ [d])))) := by
 have := line
 unfold lG
 rw [hf]
 show (match ρ[i]? with
  | some (.own ds) => if ds.length < sizeLine then (bD.ok (Fl.nx (ρ.set i (.own (ds ++ [d])))) : bD Fl) else bD.bad
  | _ => bD.bad) = _
 rw [hi]
 exact if_pos bE
theorem lJ {i : Nat} {fl : ML} {body : MS} {ρ : bJ} {ds : List D} (h : fl ρ = .ok ds) : fA i fl body ρ = cP i body ds ρ := by
 unfold fA
 rw [h]; rfl
theorem vP {i j : Nat} {fl : ML} {body : MS} {ρ : bJ} {ds : List D} (h : fl ρ = .ok ds) : kM i j fl body ρ = dR i j body ds ρ := by
 unfold kM
 rw [h]; rfl
theorem mF {i : Nat} {body : MS} {d : D} {ds : List D} {ρ ρ' : bJ} (h : body (ρ.set i (.val d)) = .ok (.nx ρ')) : cP i body (d :: ds) ρ = cP i body ds ρ' := by
 rw [cP, h]; rfl
theorem rN {i j : Nat} {body : MS} {x y : D} {ds : List D} {ρ ρ' : bJ} (h : body ((ρ.set i (.val x)).set j (.val y)) = .ok (.nx ρ')) : dR i j body (.tup [x, y] :: ds) ρ = dR i j body ds ρ' := by
 rw [dR]
 show ((body ((ρ.set i (.val x)).set j (.val y))).bind _) = _
 rw [h]; rfl
theorem gZ {f : ME} {ρ : bJ} {xs : List D} (h : f ρ = .ok (.tup xs)) : bV f ρ = .ok xs := by unfold bV; rw [h]; rfl
theorem rP {f : ME} {ρ : bJ} {xs : List D} (h : f ρ = .ok (.lst xs)) : bV f ρ = .ok xs := by unfold bV; rw [h]; rfl
theorem bL2 {i : Nat} {R : MS} {ρ : bJ} {acc : List D} (hi : ρ[i]? = some (.own acc)) : bB (nK i) R ρ = R (ρ.set i (.val (.lst acc))) := by
 unfold bB nK
 rw [hi]; rfl
theorem lK {a b : List D} (h : a.length + b.length <= 1000000) : bO (.lst a) (.lst b) = .ok (.lst (a ++ b)) := by
 have := line
 simp only [bO]
 exact if_pos bE
noncomputable def non? : D -> Bool
 | .non => true
 | _ => false
theorem dO6 {d : D} (h : non? d = true) : d = .non := by cases d <;> first | rfl | cases h
theorem dO7 (d : D) : dO false d .non = .ok (.bl (non? d)) := by cases d <;> rfl
theorem xY {i j : Nat} {f : ME} {ρ : bJ} {d : D} {T : R.Tab} (h : f ρ = .ok d) (hi : ρ[i]? = some (.dic true T)) : (dQ i f ρ).bind (lI j) = .ok (d, T) := by
 unfold dQ
 rw [h]
 show bD.bind (match ρ[i]? with
  | some (.dic true T) => bD.ok (Fl.rd d T)
  | _ => bD.bad) (lI j) = _
 rw [hi]; rfl
theorem mU {i : Nat} {f : ME} {ρ : bJ} {d : D} {T : R.Tab} (h : f ρ = .ok d) (hi : ρ[i]? = some (.dic true T)) : dQ i f ρ = .ok (.rd d T) := by
 unfold dQ
 rw [h]
 show (match ρ[i]? with
  | some (.dic true T) => bD.ok (Fl.rd d T)
  | _ => bD.bad) = _
 rw [hi]
theorem kY {A Z : MS} {ρ : bJ} {d : D} {T : R.Tab} (h : A ρ = .ok (.rd d T)) : bB A Z ρ = .ok (.rd d T) := by
 unfold bB
 rw [h]; rfl
theorem ne_int (a b : Int) : lF (.int a) (.int b) = .ok (.bl (!(a == b))) := rfl
theorem ne_str (a b : Str) : lF (.str a) (.str b) = .ok (.bl (!(a == b))) := rfl
theorem rQ {j i : Nat} {m : List Slot -> R.Tab -> bD (D × R.Tab)} {fa : kX} {ρ : bJ} {p : Bool} {T T' : R.Tab} {sl : List Slot} {d : D} (hi : ρ[i]? = some (.dic p T)) (ha : fa ρ = .ok sl) (hm : m sl T = .ok (d, T')) : mN j i m fa ρ = .ok (.nx ((ρ.set i (.dic p T')).set j (.val d))) := by
 unfold mN
 rw [hi]
 show (((fa ρ).bind fun sl => m sl T).bind fun r => bD.ok (Fl.nx ((ρ.set i (.dic p r.2)).set j (.val r.1)))) = _
 rw [ha]
 show ((m sl T).bind fun r => bD.ok (Fl.nx ((ρ.set i (.dic p r.2)).set j (.val r.1)))) = _
 rw [hm]; rfl
theorem bL3 {f : ME} {ρ : bJ} {d : D} (h : f ρ = .ok d) : dS f fK ρ = .ok [.val d] := by
 unfold dS
 rw [h]; rfl
theorem rR {p : Str × D} {r : R.Tab} {k : Str} (e : p.1 = k) : dD (p :: r) k = some p.2 := by simp [dD, List.find?_cons, e]
theorem rS {p : Str × D} {r : R.Tab} {k : Str} (e : ¬ p.1 = k) : dD (p :: r) k = dD r k := by simp [dD, List.find?_cons, e]
theorem bL4 (k : Str) : ∀ T : R.Tab, (T.any fun p => decide (p.1 = k)) = (dD T k).isSome
 | [] => rfl
 | p :: r => by
  rw [List.any_cons]
  by_cases e : p.1 = k
  ·simp only [rR e, decide_eq_true e, Bool.true_or, Option.isSome_some]
  ·rw [rS e, decide_eq_false e, Bool.false_or]; exact bL4 k r
theorem rT (T : R.Tab) (k : Str) (y : D) : (dG T k y).length <= T.length + 1 := by
 unfold dG
 split
 ·rw [List.length_map]; omega
 ·rw [List.length_append, List.length_cons, List.length_nil]; omega
theorem mG {i : Nat} {f h : ME} {ρ : bJ} {p : Bool} {T : R.Tab} {k : Str} {v : D} (hf : f ρ = .ok (.str k)) (hg : h ρ = .ok v) (hi : ρ[i]? = some (.dic p T)) (hl : T.length <= 10000) : fH i f h ρ = .ok (.nx (ρ.set i (.dic p (dG T k v)))) := by
 have := line
 unfold fH
 rw [hg]
 show ((f ρ).bind fun dk => match ρ[i]? with
  | some (.dic p T) => (match dk with
   | .str k => if T.length < sizeLine then bD.ok (Fl.nx (ρ.set i (.dic p (dG T k v)))) else bD.bad
   | _ => bD.bad)
  | _ => bD.bad) = _
 rw [hf]
 show (match ρ[i]? with
  | some (.dic p T) => if T.length < sizeLine then bD.ok (Fl.nx (ρ.set i (.dic p (dG T k v)))) else bD.bad
  | _ => bD.bad) = _
 rw [hi]
 exact if_pos bE
theorem cA6 {c : MT} {A B Z : MS} {ρ : bJ} (h : c ρ = .ok false) : bB (bM c A B) Z ρ = bB B Z ρ := by
 simp [bB, bM, h, bD.bind, mD]
theorem xZ {a b : List D} (h : a.length + b.length <= 1000) : bO (.tup a) (.tup b) = .ok (.tup (a ++ b)) := by
 have := line
 simp only [bO]
 exact if_pos bE
theorem cA7 {i : Nat} {m : List D -> bD R.Tab} {fa : MA} {ρ : bJ} {ds : List D} {T : R.Tab} (ha : fa ρ = .ok ds) (hm : m ds = .ok T) : pS i m fa ρ = .ok (.nx (ρ.set i (.dic false T))) := by
 unfold pS
 rw [ha]
 show ((m ds).bind _) = _
 rw [hm]; rfl
noncomputable abbrev dW (ws : List Str) : D := .lst (ws.map .str)
noncomputable abbrev dP (p : Str × Int) : D := .tup [.str p.1, .int p.2]
noncomputable abbrev cJ (ds : List (Str × Int)) : D := .lst (ds.map dP)
theorem bC3 : ∀ ws : List Str, depL (ws.map D.str) = 0
 | [] => by simp [depL]
 | x :: r => by simp [depL, gD, bC3 r]
theorem bL5 (x : Str) : ∀ ws : List Str, nG (.str x) (ws.map .str) = decide (x ∈ ws)
 | [] => by simp [nG]
 | w :: r => by
  have ih := bL5 x r
  unfold nG at ih ⊢
  rw [List.map_cons, List.any_cons, ih, fQ]
  by_cases e : w = x
  ·subst e; simp
  ·have e' : ¬ x = w := fun z => e z.symm
   simp [e, e']
theorem dO8 (x : Str) (ws : List Str) : gE false (.str x) (dW ws) = .ok (.bl (decide (x ∈ ws))) := by
 simp only [gE]
 rw [if_pos (by rw [bC3]; omega), bL5]; rfl
theorem gR {js : List Nat} {fl : ML} {p : MT} {h : ME} {ρ : bJ} {xs ys : List D} (h1 : fl ρ = .ok xs) (hl : xs.length <= 1000000) (h2 : fS p h (fR js ρ) xs = .ok ys) : dB js fl p h ρ = .ok (.lst ys) := by
 have := line
 unfold dB
 rw [h1]
 show (if xs.length <= sizeLine then (fS p h (fR js ρ) xs).bind fun ys => bD.ok (D.lst ys) else bD.bad) = _
 rw [if_pos bE, h2]; rfl
theorem cA8 {l : List D} (hd : depL l <= 50) : cD (.lst l) (.lst []) = .ok (.bl l.isEmpty) := by
 unfold cD
 rw [if_pos (by simp only [gD]; omega)]
 cases l <;> rfl
theorem nS {xs : List D} (i : Nat) (x : D) (h : xs[i]? = some x) : bF (.lst xs) (.int (i : Int)) = .ok x := by
 have e : gG xs (i : Int) = some x := wI h
 simp only [bF, e]
theorem pZ {xs : List D} {lo hi : Option Int} {x : D} (h : x ∈ fG xs lo hi) : x ∈ xs := by
 unfold fG at h
 exact List.mem_of_mem_drop (List.mem_of_mem_take h)
theorem dO9 (x : Str) (ws : List Str) : gE true (.str x) (dW ws) = .ok (.bl (!decide (x ∈ ws))) := by
 simp only [gE]
 rw [if_pos (by rw [bC3]; omega), bL5]; rfl
end Jm
end
section
namespace Jm
open PySem PySem.Spec PyProof.Rows L2 R
local macro_rules | `(tactic| simp! [$xs,*]) => `(tactic| simp [bD.bind, gv, kc, m2, qP, aC, bA, mA, cC, mB, bU, bM, bB, mD, bQ, jE, mT, zD, m1, pH, qQ, zM, $xs,*])
variable [bN]
open PySem PySem.Spec PyProof.Rows L2 R
variable [bN]
theorem nT {d : Int} (h0 : 0 <= d) (h1 : d < 4611686018427387904) : gC d = true := by
 unfold gC
 exact decide_eq_true ⟨by omega, by omega⟩
theorem mV {a b : Int} (h : gC a = true \/ gC b = true) : gJ (.int a) (.int b) = .ok (.int (a * b)) := by
 simp only [gJ]
 rcases h with h | h <;> simp [h]
noncomputable def cR (ns : List Int) (k : Int) : Int :=
 let d := ((if k < (ns.length : Int) then ns.getD k.toNat 0 else 0) + 7919 * k + 1) * 48271 % 2147483647
 (d * d + 7 * d + k) % 2147483629
theorem bL6 {α : Type} {xs : List α} {k : Int} {v : α} (h0 : 0 <= k) (h : xs[k.toNat]? = some v) : gG xs k = some v := by
 have := wI h
 rwa [Int.toNat_of_nonneg h0] at this
theorem dP0 (n : Nat) (ns : List Int) (k : Int) (hk : 0 <= k) : Ph (n + 3) .q2 [.lst (ns.map .int), .int k] = .ok (.int (if k < (ns.length : Int) then ns.getD k.toNat 0 else 0)) := by
 show ((bA9 (Ph (n + 2)) (Ph n)) [.val (.lst (ns.map .int)), .val (.int k)]).bind bU = _
 unfold bA9
 by_cases h : k < (ns.length : Int)
 ·have hlt : k.toNat < ns.length := by omega
  have e : gG (ns.map D.int) k = some (.int ns[k.toNat]) := bL6 hk (by rw [List.getElem?_map, List.getElem?_eq_getElem hlt]; rfl)
  simp! [cI, dH, h, bF, e, hlt]
 ·simp! [cI, dH, h]
theorem vQ (n : Nat) (ns : List Int) (k : Int) (hk : 0 <= k) : Ph (n + 4) .q3 [.lst (ns.map .int), .int k] = .ok (.int (cR ns k)) := by
 show ((bB0 (Ph (n + 3)) (Ph (n + 1))) [.val (.lst (ns.map .int)), .val (.int k), .no]).bind bU = _
 unfold bB0
 have h1 : gC 7919 = true := by decide
 have h2 : gC 48271 = true := by decide
 have h3 : gC 7 = true := by decide
 generalize hc : (if k < (ns.length : Int) then ns.getD k.toNat 0 else 0) = c
 have hce := dP0 n ns k hk
 rw [hc] at hce
 have hd0 : 0 <= (c + 7919 * k + 1) * 48271 % 2147483647 := Int.emod_nonneg _ (by decide)
 have hd1 : (c + 7919 * k + 1) * 48271 % 2147483647 < 2147483647 := Int.emod_lt_of_pos _ (by decide)
 generalize hd : (c + 7919 * k + 1) * 48271 % 2147483647 = d at hd0 hd1
 have hs : gC d = true := nT hd0 bE
 simp! [bI, hce, bO, mV (.inl h1), mV (.inr h2), mV (.inl h3), mV (.inl hs), bP, dI, hd]
 simp only [cR, hc, hd]
noncomputable abbrev kA : Str := "abcdefghijklmnopqrstuvwxyz"
theorem cA9 : kA.cps.toList.length = 26 := by decide +kernel
theorem dP1 {i : Int} (h0 : 0 <= i) (h1 : i < 26) : ∃ c, gG kA.cps.toList i = some c := by
 have hl := cA9
 have hlt : i.toNat < kA.cps.toList.length := by omega
 exact ⟨kA.cps.toList[i.toNat], bL6 h0 (List.getElem?_eq_getElem hlt)⟩
theorem mW (c : Nat) : (⟨#[c]⟩ : Str).length = 1 := rfl
theorem add_str {x y : Str} (h : x.length + y.length <= 1000000) : bO (.str x) (.str y) = .ok (.str (x ++ y)) := by
 have hs := sizeLine_eq
 simp only [bO]
 rw [if_pos bE]
noncomputable abbrev dP2 : MS := bI 2 (m2 bO (gv 2) (m2 bF (gv 1) (m2 bP (m2 cE (gv 0) (m2 bO (kc (.int 7)) (m2 gJ (kc (.int 26)) (gv 3)))) (kc (.int 26)))))
theorem cB0 (nb : Int) : ∀ (ds : List D) (z : Str) (s : Slot), (∀ d ∈ ds, ∃ k : Int, d = .int k /\ 0 <= k /\ k <= 1000) -> z.length + ds.length <= 1000 ->
 ∃ z' s', cP 3 dP2 ds [.val (.int nb), .val (.str kA), .val (.str z), s] = .ok (.nx [.val (.int nb), .val (.str kA), .val (.str z'), s']) /\ z'.length = z.length + ds.length
 | [], z, s, _, _ => ⟨z, s, rfl, rfl⟩
 | d :: ds, z, s, hd, hz => by
  obtain ⟨k, rfl, k0, k1⟩ := hd d List.mem_cons_self
  have h26 : gC 26 = true := by decide
  have hj0 : (0 : Int) < 7 + 26 * k := by omega
  have hj1 : 7 + 26 * k < 1073741824 := by omega
  have hm0 : 0 <= nb / (7 + 26 * k) % 26 := Int.emod_nonneg _ (by decide)
  have hm1 : nb / (7 + 26 * k) % 26 < 26 := Int.emod_lt_of_pos _ (by decide)
  obtain ⟨c, hc⟩ := dP1 hm0 hm1
  rw [List.length_cons] at hz
  have hzl : z.length + (⟨#[c]⟩ : Str).length <= 1000000 := by rw [mW]; omega
  obtain ⟨z', s', e1, e2⟩ := cB0 nb ds (z ++ ⟨#[c]⟩) (.val (.int k)) (fun d hd' => hd d (List.mem_cons_of_mem _ hd')) (by rw [nF, mW]; omega)
  refine ⟨z', s', ?_, by rw [e2, nF, mW, List.length_cons]; omega⟩
  rw [cP]
  simp [bI, m2, gv, kc, bD.bind, mV (.inl h26), bO.eq_1, cE, dI, hj0, hj1, bP, bF, hc, add_str hzl]
  exact e1
theorem yA {m : Nat} {d : D} (h : d ∈ upTo 0 m) : ∃ k : Int, d = .int k /\ 0 <= k /\ k < m := by
 unfold R.upTo at h
 obtain ⟨k, hk, rfl⟩ := List.mem_map.mp h
 have := List.mem_range.mp hk
 exact ⟨_, rfl, by omega, by omega⟩
theorem kB (lo : Int) (m : Nat) : (upTo lo m).length = m := by unfold R.upTo; rw [List.length_map, List.length_range]
theorem dP3 (n : Nat) (nb : Int) : ∃ z, Ph (n + 3) .q5 [.int nb] = .ok (.str z) /\ z.length <= 6 := by
 have h0 : 0 <= nb % 7 := Int.emod_nonneg _ (by decide)
 have h1 : nb % 7 < 7 := Int.emod_lt_of_pos _ (by decide)
 have hl := kB 0 (nb % 7).toNat
 obtain ⟨z, s, e1, e2⟩ := cB0 nb (upTo 0 (nb % 7).toNat) "" .no (fun d hd => by
  obtain ⟨k, e, k0, k1⟩ := yA hd
  exact ⟨k, e, k0, by omega⟩) (by rw [hl]; show 0 + _ <= 1000; omega)
 refine ⟨z, ?_, by rw [e2, hl]; show 0 + _ <= 6; omega⟩
 show ((bB2 (Ph (n + 2)) (Ph n)) [.val (.int nb), .no, .no, .no]).bind bU = _
 unfold bB2
 have hr : -(2 ^ 62) <= nb % 7 /\ nb % 7 < 2 ^ 62 := ⟨by omega, by omega⟩
 have e1' : cP 3 (bI 2 (m2 bO (gv 2) (m2 bF (gv 1) (m2 bP (m2 cE (gv 0) (m2 bO (kc (.int 7)) (m2 gJ (kc (.int 26)) (gv 3)))) (kc (.int 26)))))) (upTo 0 (nb % 7).toNat) [.val (.int nb), .val (.str "abcdefghijklmnopqrstuvwxyz"), .val (.str ""), .no] = _ := e1
 have eR : kJ (.int (nb % 7)) = .ok (upTo 0 (nb % 7).toNat) := by simp only [kJ]; rw [if_pos hr]
 have eM : bP (.int nb) (.int 7) = .ok (.int (nb % 7)) := by simp [bP, dI]
 have eS : fA 3 (fM (m2 bP (gv 0) (kc (.int 7)))) (bI 2 (m2 bO (gv 2) (m2 bF (gv 1) (m2 bP (m2 cE (gv 0) (m2 bO (kc (.int 7)) (m2 gJ (kc (.int 26)) (gv 3)))) (kc (.int 26)))))) [.val (.int nb), .val (.str "abcdefghijklmnopqrstuvwxyz"), .val (.str ""), .no] =
  .ok (.nx [.val (.int nb), .val (.str kA), .val (.str z), s]) := by
  show ((bP (.int nb) (.int 7)).bind kJ).bind _ = _
  rw [eM]
  show (kJ (.int (nb % 7))).bind _ = _
  rw [eR]
  exact e1'
 show ((fA 3 _ _ [.val (.int nb), .val (.str "abcdefghijklmnopqrstuvwxyz"), .val (.str ""), .no]).bind (mD (cC (gv 2)))).bind bU = _
 rw [eS]
 rfl
theorem mX (a b : Int) : cD (.int a) (.int b) = .ok (.bl (a == b)) := by simp [cD, gD, fQ]
theorem dP4 (n : Nat) (nb : Int) : ∃ v : Int, Ph (n + 3) .q6 [.int nb] = .ok (.int v) /\ -1000000 <= v /\ v <= 1000000 := by
 have a0 : 0 <= nb / 9 % 1999999 := Int.emod_nonneg _ (by decide)
 have a1 : nb / 9 % 1999999 < 1999999 := Int.emod_lt_of_pos _ (by decide)
 have b0 : 0 <= nb / 9 % 14 := Int.emod_nonneg _ (by decide)
 have b1 : nb / 9 % 14 < 14 := Int.emod_lt_of_pos _ (by decide)
 by_cases h : (nb % 9 == 4) = true
 ·refine ⟨nb / 9 % 1999999 - 999999, ?_, by omega, by omega⟩
  show ((vO (Ph (n + 2)) (Ph n)) [.val (.int nb)]).bind bU = _
  unfold vO
  simp! [bP, cE, jF, dI, mX, h]
 ·have h' : (nb % 9 == 4) = false := by simpa using h
  refine ⟨nb / 9 % 14 - 4, ?_, by omega, by omega⟩
  show ((vO (Ph (n + 2)) (Ph n)) [.val (.int nb)]).bind bU = _
  unfold vO
  simp! [bP, cE, jF, dI, mX, h']
theorem vR (n : Nat) (nb k : Int) (hk : gC k = true) : ∃ v : Int, Ph (n + 3) .q4 [.int nb, .int k] = .ok (.int v) := by
 have h1 : gC 104729 = true := by decide
 have h2 : gC 69621 = true := by decide
 have h3 : gC 3 = true := by decide
 have c0 : 0 <= (nb + 104729 * k + 17) * 69621 % 2147483647 := Int.emod_nonneg _ (by decide)
 have c1 : (nb + 104729 * k + 17) * 69621 % 2147483647 < 2147483647 := Int.emod_lt_of_pos _ (by decide)
 have h4 : gC ((nb + 104729 * k + 17) * 69621 % 2147483647) = true := nT c0 bE
 refine ⟨((nb + 104729 * k + 17) * 69621 % 2147483647 * ((nb + 104729 * k + 17) * 69621 % 2147483647) + 3 * ((nb + 104729 * k + 17) * 69621 % 2147483647) + k) % 2147483629, ?_⟩
 show ((bB1 (Ph (n + 2)) (Ph n)) [.val (.int nb), .val (.int k), .no]).bind bU = _
 unfold bB1
 simp [bB, bI, m2, gv, kc, bD.bind, mV (.inl h1), mV (.inr h2), mV (.inl h3), mV (.inl h4), bO, bP, dI, mD, cC, bU]
def mH (xs : List D) : Prop := 0 < xs.length /\ xs.length <= 1000 /\ ∀ x ∈ xs, ∃ z : Str, x = .str z /\ z.length <= 9
def mI (xs : List D) : Prop := xs.length <= 1000 /\ ∀ x ∈ xs, ∃ (z : Str) (i : Int), x = .tup [.str z, .int i] /\ z.length <= 9 /\ 0 <= i /\ i <= 4
theorem nU {xs : List D} {i : Int} (h : 0 < xs.length) : ∃ x, gG xs (i % (xs.length : Int)) = some x /\ x ∈ xs := by
 have h0 : 0 <= i % (xs.length : Int) := Int.emod_nonneg _ bE
 have h1 : i % (xs.length : Int) < (xs.length : Int) := Int.emod_lt_of_pos _ bE
 obtain ⟨k, hk⟩ : ∃ k : Nat, i % (xs.length : Int) = (k : Int) := ⟨(i % (xs.length : Int)).toNat, by omega⟩
 have hlt : k < xs.length := by omega
 refine ⟨xs[k], ?_, List.getElem_mem hlt⟩
 rw [hk]
 exact wI (by rw [List.getElem?_eq_getElem hlt])
noncomputable abbrev SG : Str := "+-*<="
theorem dP5 (i : Int) : ∃ c, gG SG.cps.toList (i % 5) = some c := by
 have h0 : 0 <= i % 5 := Int.emod_nonneg _ (by decide)
 have h1 : i % 5 < 5 := Int.emod_lt_of_pos _ (by decide)
 have hl : SG.cps.toList.length = 5 := by decide +kernel
 obtain ⟨k, hk⟩ : ∃ k : Nat, i % 5 = (k : Int) := ⟨(i % 5).toNat, by omega⟩
 have hlt : k < SG.cps.toList.length := by omega
 exact ⟨SG.cps.toList[k], by rw [hk]; exact wI (by rw [List.getElem?_eq_getElem hlt])⟩
theorem yB {g : ME} {rest : bJ} {Pd : D -> Prop} : ∀ xs : List D, (∀ x ∈ xs, ∃ d, g (.val x :: rest) = .ok d /\ Pd d) -> ∃ ys, fS (fun _ => .ok true) g rest xs = .ok ys /\ ys.length = xs.length /\ ∀ y ∈ ys, Pd y
 | [], _ => ⟨[], rfl, rfl, fun y hy => by cases hy⟩
 | x :: r, h => by
  obtain ⟨d, e1, p1⟩ := h x List.mem_cons_self
  obtain ⟨ys, e2, l2, p2⟩ := yB r fun y hy => h y (List.mem_cons_of_mem _ hy)
  refine ⟨d :: ys, ?_, by rw [List.length_cons, l2, List.length_cons], fun y hy => ?_⟩
  ·rw [fS]
   show bD.bind (g (.val x :: rest)) _ = _
   rw [e1]
   show bD.bind (fS _ g rest r) _ = _
   rw [e2]; rfl
  ·rcases List.mem_cons.mp hy with z | z
   ·subst z; exact p1
   ·exact p2 y z
noncomputable def ch (k : Int) : Nat := kA.cps.toList.getD (k % 26).toNat 0
noncomputable def nm (z y : Str) (k : Int) : Str := (z ++ ⟨#[ch k]⟩) ++ y
theorem dP6 {z y : Str} (hz : z.length <= 7) (hy : y.length <= 1) (k : Int) : (nm z y k).length <= 9 := by
 unfold nm
 rw [nF, nF, mW]; omega
theorem dP7 : ∀ i j : Fin 26, kA.cps.toList.getD i.val 0 = kA.cps.toList.getD j.val 0 -> i = j := by decide +kernel
theorem cB1 {z y : Str} {j k : Int} (hj : 0 <= j /\ j < 26) (hk : 0 <= k /\ k < 26) (e : nm z y j = nm z y k) : j = k := by
 unfold nm at e
 have e1 : ((z ++ (⟨#[ch j]⟩ : Str)) ++ y).cps.toList = ((z ++ (⟨#[ch k]⟩ : Str)) ++ y).cps.toList := by rw [e]
 have f : ∀ c : Nat, ((z ++ (⟨#[c]⟩ : Str)) ++ y).cps.toList = (z.cps.toList ++ [c]) ++ y.cps.toList := fun c => by
  show ((z.cps ++ #[c]) ++ y.cps).toList = _
  simp
 rw [f, f] at e1
 have e2 := List.append_cancel_right e1
 have e3 := List.append_cancel_left e2
 have e4 : ch j = ch k := by simpa using e3
 unfold ch at e4
 have mj : j % 26 = j := Int.emod_eq_of_lt hj.1 hj.2
 have mk : k % 26 = k := Int.emod_eq_of_lt hk.1 hk.2
 rw [mj, mk] at e4
 have := dP7 ⟨j.toNat, by omega⟩ ⟨k.toNat, by omega⟩ e4
 have e5 : j.toNat = k.toNat := congrArg Fin.val this
 omega
end Jm
end
section
namespace Jm
open PySem PySem.Spec PyProof.Rows L2 R
local macro_rules | `(tactic| simp! [$xs,*]) => `(tactic| simp [bD.bind, gv, kc, m2, qP, aC, bA, mA, cC, mB, bU, bM, bB, mD, bQ, jE, mT, zD, m1, pH, qQ, zM, $xs,*])
variable [bN]
def XE (_ : Nat) (_ : D) : Prop := True
theorem dP8 (C C' : CT) (m : Nat) (M nb : Int) (ns es : List D) (hM : M = (m : Int)) (hn : mH ns) (he : mI es) (h14 : ∀ nb, ∃ v : Int, C .q6 [.int nb] = .ok (.int v) /\ -1000000 <= v /\ v <= 1000000) (h11 : ∀ (nb k : Int), gC k = true -> ∃ v : Int, C .q4 [.int nb, .int k] = .ok (.int v))
 (h15 : ∀ (m' : Nat), m = m' + 1 -> ∀ nb : Int, ∃ d, C .q7 [.int nb, .lst ns, .lst es, .int (m' : Int)] = .ok d /\ XE m' d) : ∃ d, ((rG C C') [.val (.int nb), .val (.lst ns), .val (.lst es), .val (.int M), .no, .no, .no, .no, .no, .no]).bind bU = .ok d /\ XE m d := by
 have hs := sizeLine_eq
 unfold rG
 cases hm : (M == 0) with
 | true =>
  obtain ⟨v, hv, v0, v1⟩ := h14 (nb / 9)
  refine ⟨.tup [.str "number", .int v], ?_, trivial⟩
  ·have ht : bK [.str "number", .int v] = .ok (.tup [.str "number", .int v]) := by unfold bK; rw [if_pos (by show 2 <= sizeLine; omega)]
   simp! [bI, bP, cE, dI, mX, hm, dH, hv, ht]
 | false =>
 by_cases h2 : nb % 9 < 2
 ·obtain ⟨v, hv, v0, v1⟩ := h14 (nb / 9)
  refine ⟨.tup [.str "number", .int v], ?_, trivial⟩
  ·have ht : bK [.str "number", .int v] = .ok (.tup [.str "number", .int v]) := by unfold bK; rw [if_pos (by show 2 <= sizeLine; omega)]
   simp! [bI, bP, cE, dI, mX, hm, h2, dH, hv, ht]
 obtain ⟨m', rfl⟩ : ∃ m', m = m' + 1 := by
  cases m with
  | zero => rw [hM] at hm; cases hm
  | succ m' => exact ⟨m', rfl⟩
 have hsub : jF (.int M) (.int 1) = .ok (.int (m' : Int)) := by
  have e : M - 1 = (m' : Int) := by omega
  show bD.ok (D.int (M - 1)) = _
  rw [e]
 have hn0 := hn.1
 have hn9 : (0 : Int) < (ns.length : Int) := by omega
 have rec_ := h15 m' rfl
 by_cases h5 : nb % 9 < 5
 ·obtain ⟨x, ex, mx⟩ := nU (xs := ns) (i := nb / 9) hn0
  obtain ⟨z, rfl, hz⟩ := hn.2.2 x mx
  refine ⟨.tup [.str "name", .str z], ?_, trivial⟩
  ·have ht : bK [.str "name", .str z] = .ok (.tup [.str "name", .str z]) := by unfold bK; rw [if_pos (by show 2 <= sizeLine; omega)]
   simp! [bI, bP, cE, dI, mX, hm, h2, h5, dH, cI, hn0, bF, ex, ht]
 have sgn : ((nb % 9 == 5) && decide (0 < es.length)) = false -> ∃ d, ((rG C C') [.val (.int nb), .val (.lst ns), .val (.lst es), .val (.int M), .no, .no, .no, .no, .no, .no]).bind bU = .ok d /\ XE (m' + 1) d := fun h6 => by
  unfold rG
  obtain ⟨v1, e1⟩ := h11 nb 5 (by decide)
  obtain ⟨v2, e2⟩ := h11 nb 6 (by decide)
  obtain ⟨d1, r1, _⟩ := rec_ v1
  obtain ⟨d2, r2, _⟩ := rec_ v2
  obtain ⟨c, hc⟩ := dP5 (nb / 9)
  refine ⟨.tup [.str ⟨#[c]⟩, d1, d2], ?_, trivial⟩
  ·have ht : bK [.str ⟨#[c]⟩, d1, d2] = .ok (.tup [.str ⟨#[c]⟩, d1, d2]) := by unfold bK; rw [if_pos (by show 3 <= sizeLine; omega)]
   have hx : bF (.str "+-*<=") (.int (nb / 9 % 5)) = .ok (.str ⟨#[c]⟩) := by
    simp only [bF]
    rw [show gG (Str.ofString "+-*<=").cps.toList (nb / 9 % 5) = some c from hc]
   cases q1 : (nb % 9 == 5) with
   | false => simp! [bI, dM, bP, cE, dI, mX, hm, h2, h5, q1, dH, e1, e2, r1, r2, hsub, hx, ht]
   | true =>
    have q2 : es = [] := by
     rw [q1, Bool.true_and] at h6
     have := of_decide_eq_false h6
     exact List.length_eq_zero_iff.mp bE
    subst q2
    simp! [bI, dM, bP, cE, dI, mX, hm, h2, h5, q1, dH, cI, kI, e1, e2, r1, r2, hsub, hx, ht]
 cases h6 : ((nb % 9 == 5) && decide (0 < es.length)) with
 | false => exact sgn h6
 | true =>
  rw [Bool.and_eq_true] at h6
  have hl0 : 0 < es.length := of_decide_eq_true h6.2
  obtain ⟨x, ex, mx⟩ := nU (xs := es) (i := nb / 9) hl0
  obtain ⟨z, i, rfl, hz, i0, i4⟩ := he.2 x mx
  have hr : kJ (.int i) = .ok (upTo 0 i.toNat) := by
   show (if _ then _ else _) = _
   rw [if_pos ⟨by omega, by omega⟩]
  obtain ⟨ys, hys, ly, py⟩ := yB (g := mA (C .q7) (aC (mA (C .q4) (aC (gv 3) (aC (gv 0) (bA)))) (aC (gv 1) (aC (gv 2) (aC (m2 jF (gv 4) (kc (.int 1))) (bA)))))) (rest := [.val (.lst ns), .val (.lst es), .val (.int nb), .val (.int M)]) (Pd := XE m') (upTo 0 i.toNat) fun x hx => by
   obtain ⟨k, rfl, k0, k1⟩ := yA hx
   obtain ⟨v, ev⟩ := h11 nb k (nT k0 bE)
   obtain ⟨d, ed, gdd⟩ := rec_ v
   exact ⟨d, by simp [mA, aC, bA, gv, kc, m2, bD.bind, ev, hsub, ed], gdd⟩
  rw [kB] at ly
  have hcm : dB [1, 2, 0, 3] (fM (gv 6)) (fun _ => .ok true) (mA (C .q7) (aC (mA (C .q4) (aC (gv 3) (aC (gv 0) (bA)))) (aC (gv 1) (aC (gv 2) (aC (m2 jF (gv 4) (kc (.int 1))) (bA)))))) [.val (.int nb), .val (.lst ns), .val (.lst es), .val (.int M), .val (.int (nb % 9)), .val (.str z), .val (.int i), .no, .no, .no] = .ok (.lst ys) := by
   show bD.bind (kJ (.int i)) _ = _
   rw [hr]
   show (if (upTo 0 i.toNat).length <= sizeLine then bD.bind (fS _ _ [.val (.lst ns), .val (.lst es), .val (.int nb), .val (.int M)] (upTo 0 i.toNat)) _ else .bad) = _
   rw [kB, if_pos bE, hys]; rfl
  refine ⟨.tup [.str "call", .str z, .tup ys], ?_, trivial⟩
  ·have ht : bK [.str "call", .str z, .tup ys] = .ok (.tup [.str "call", .str z, .tup ys]) := by unfold bK; rw [if_pos (by show 3 <= sizeLine; omega)]
   simp! [bI, kK, gP, dM, bP, cE, dI, mX, hm, h2, h5, h6.1, hl0, dH, cI, kI, bF, ex, hcm, jL, ht]
theorem cB2 : ∀ (m n : Nat) (nb : Int) (ns es : List D), mH ns -> mI es -> ∃ d, Ph (n + m + 5) .q7 [.int nb, .lst ns, .lst es, .int (m : Int)] = .ok d /\ XE m d
 | m, n, nb, ns, es, hn, he => by
  show ∃ d, ((rG (Ph (n + m + 4)) (Ph (n + m + 2))) [.val (.int nb), .val (.lst ns), .val (.lst es), .val (.int (m : Int)), .no, .no, .no, .no, .no, .no]).bind bU = .ok d /\ XE m d
  refine dP8 _ _ m _ nb ns es rfl hn he (fun nb => dP4 (n + m + 1) nb) (fun nb k hk => vR (n + m + 1) nb k hk) fun m' hm' nb' => ?_
  subst hm'
  exact cB2 m' n nb' ns es hn he
def Ex {α : Type} (r : bD α) (P : α -> Prop) : Prop := ∃ d, r = .ok d /\ P d
def kO (r : bD Fl) (P : D -> Prop) : Prop := ∃ d, r.bind bU = .ok d /\ P d
section
variable {f g : ME} {fa : MA} {c : MT} {A B R : MS} {ρ : bJ} {P Q : D -> Prop} {m k : Nat} {i : Nat} {b : Bool}
theorem bL7 (h : Ex (f ρ) P) : kO (cC f ρ) P := let ⟨d, e, p⟩ := h; ⟨d, nR e, p⟩
theorem lS (h : Ex (f ρ) P) : kO (bB (cC f) R ρ) P := let ⟨d, e, p⟩ := h; ⟨d, cA4 e, p⟩
theorem mY (h : Ex (f ρ) P) (k : ∀ d, P d -> kO (R (ρ.set i (.val d))) Q) : kO (bB (bI i f) R ρ) Q := by
 obtain ⟨d, e, p⟩ := h
 obtain ⟨d', e', p'⟩ := k d p
 exact ⟨d', by rw [cX e]; exact e', p'⟩
theorem lT (h : c ρ = .ok b) (h1 : b = true -> kO (bB A R ρ) P) (h2 : b = false -> kO (R ρ) P) : kO (bB (bM c A bQ) R ρ) P := by
 cases b with
 | true => obtain ⟨d, e, p⟩ := h1 rfl; exact ⟨d, by rw [rK h]; exact e, p⟩
 | false => obtain ⟨d, e, p⟩ := h2 rfl; exact ⟨d, by rw [jA h]; exact e, p⟩
theorem bC4 (h : kO (bB A (bB B R) ρ) P) : kO (bB (bB A B) R ρ) P := by
 obtain ⟨d, e, p⟩ := h
 exact ⟨d, by rw [cA5]; exact e, p⟩
end
def qA (xs : List D) : Prop := xs.length <= 1000 /\ ∀ x ∈ xs, ∃ z : Str, x = .str z /\ z.length <= 9
theorem bL8 {i : Nat} {xs : List D} {ρ : bJ} (h : gv i ρ = .ok (.lst xs)) : mA cI (aC (gv i) (bA)) ρ = .ok (.int (xs.length : Int)) := a1 h rfl
theorem yC {i : Nat} {xs : List D} {ρ : bJ} {f : ME} {v : Int} (h : gv i ρ = .ok (.lst xs)) (hf : f ρ = .ok (.int v)) (h0 : 0 < xs.length) : ∃ x, m2 bF (gv i) (m2 bP f (mA cI (aC (gv i) (bA)))) ρ = .ok x /\ x ∈ xs := by
 obtain ⟨x, ex, mx⟩ := nU (xs := xs) (i := v) h0
 obtain ⟨L, hL⟩ : ∃ L : Int, (xs.length : Int) = L := ⟨_, rfl⟩
 have hl := bL8 h
 rw [hL] at ex hl
 have hm : bP (.int v) (.int L) = .ok (.int (v % L)) := by
  have : 0 < L := by omega
  simp [bP, dI, this]
 refine ⟨x, c2 h (c2 hf hl hm) ?_, mx⟩
 simp only [bF, ex]
theorem hJ {i : Nat} {ρ : bJ} {v : Int} (k : Int) (hk : 0 < k /\ k < 1073741824) (h : gv i ρ = .ok (.int v)) : m2 cE (gv i) (kc (.int k)) ρ = .ok (.int (v / k)) := c2 h rfl (by simp [cE, dI, hk])
theorem jB {f : ME} {ρ : bJ} {v : Int} (k : Int) (hk : 0 < k) (h : f ρ = .ok (.int v)) : m2 bP f (kc (.int k)) ρ = .ok (.int (v % k)) := c2 h rfl (by simp [bP, dI, hk])
theorem nV {f : ME} {ρ : bJ} {v : Int} (k : Int) (h : f ρ = .ok (.int v)) : mB (m2 dH f (kc (.int k))) ρ = .ok (decide (v < k)) := cB (c2 h rfl rfl)
theorem gtv {f : ME} {ρ : bJ} {v : Int} (k : Int) (h : f ρ = .ok (.int v)) : mB (m2 kI f (kc (.int k))) ρ = .ok (decide (k < v)) := cB (c2 h rfl rfl)
theorem lU {f : ME} {ρ : bJ} {v : Int} (k : Int) (h : f ρ = .ok (.int v)) : mB (m2 cD f (kc (.int k))) ρ = .ok (v == k) := cB (c2 h rfl (mX v k))
end Jm
end
section
namespace Jm
open PySem PySem.Spec PyProof.Rows L2 R
variable [bN]
theorem cA {f g : MT} {x y : Bool} {ρ : bJ} (q1 : f ρ = .ok x) (q2 : x = true -> g ρ = .ok y) : dM f g ρ = .ok (x && y) := by
 cases x with
 | true => simp [dM, q1, q2 rfl, bD.bind]
 | false => simp [dM, q1, bD.bind]
theorem cO {f g : MT} {x y : Bool} {ρ : bJ} (q1 : f ρ = .ok x) (q2 : x = false -> g ρ = .ok y) : jE f g ρ = .ok (x || y) := by
 cases x with
 | false => simp [jE, q1, q2 rfl, bD.bind]
 | true => simp [jE, q1, bD.bind]
theorem mJ {f : ME} {ρ : bJ} {i : Int} (h : f ρ = .ok (.int i)) (h0 : 0 <= i) (h1 : i <= 100000) : fM f ρ = .ok (upTo 0 i.toNat) := by
 unfold fM
 rw [h]
 show kJ (.int i) = _
 simp only [kJ]
 rw [if_pos ⟨by omega, by omega⟩]
def XS (_ : Nat) (_ : D) : Prop := True
def XB (_ : Nat) (d : D) : Prop := ∃ ys, d = .tup ys /\ ys.length <= 5
section
variable (C C' : CT) (ns es ps : List D)
structure Mk (C : CT) (ns es : List D) : Prop where
 dr : ∀ (nb k : Int), gC k = true -> ∃ v : Int, C .q4 [.int nb, .int k] = .ok (.int v)
 ex : ∀ (m : Nat) (nb : Int), m <= 2 -> ∃ d, C .q7 [.int nb, .lst ns, .lst es, .int (m : Int)] = .ok d /\ XE m d
theorem dP9 (nb : Int) (hn : mH ns) (he : mI es) (hp : qA ps) (M : Mk C ns es) : kO ((xQ C C') [.val (.int nb), .val (.lst ns), .val (.lst es), .val (.lst ps), .no, .no, .no, .no, .no, .no]) (XS 0) := by
 unfold xQ
 obtain ⟨x, ex, mx⟩ := yC (i := 1) (xs := ns) (ρ := [.val (.int nb), .val (.lst ns), .val (.lst es), .val (.lst ps), .no, .no, .no, .no, .no, .no]) rfl (hJ (i := 0) (v := nb) 16 (by decide) rfl) hn.1
 obtain ⟨z, rfl, hz⟩ := hn.2.2 x mx
 refine mY ⟨.str z, ex, (rfl : D.str z = D.str z)⟩ fun d hd => ?_
 subst hd
 obtain ⟨v, hv⟩ := M.dr nb 1 (by decide)
 obtain ⟨e, hE, _⟩ := M.ex 2 v bE
 refine mY (P := fun d => e = d) ⟨e, a4 (a2 rfl rfl hv) rfl rfl rfl hE, rfl⟩ fun d hd => ?_
 subst hd
 refine mY (P := fun d => d = .int (nb % 16)) ⟨_, jB 16 (by decide) rfl, rfl⟩ fun d hd => ?_
 subst hd
 show kO (bB (bM _ _ bQ) _ [.val (.int nb), .val (.lst ns), .val (.lst es), .val (.lst ps), .val (.str z), .val e, .val (.int (nb % 16)), .no, .no, .no]) (XS 0)
 generalize hρ : ([.val (.int nb), .val (.lst ns), .val (.lst es), .val (.lst ps), .val (.str z), .val e, .val (.int (nb % 16)), .no, .no, .no] : bJ) = ρ
 have r0 : gv 0 ρ = .ok (.int nb) := by rw [<- hρ]; rfl
 have r1 : gv 1 ρ = .ok (.lst ns) := by rw [<- hρ]; rfl
 have r2 : gv 2 ρ = .ok (.lst es) := by rw [<- hρ]; rfl
 have r3 : gv 3 ρ = .ok (.lst ps) := by rw [<- hρ]; rfl
 have r4 : gv 4 ρ = .ok (.str z) := by rw [<- hρ]; rfl
 have r5 : gv 5 ρ = .ok e := by rw [<- hρ]; rfl
 have r6 : gv 6 ρ = .ok (.int (nb % 16)) := by rw [<- hρ]; rfl
 refine lT (nV 4 r6) (fun _ => lS ⟨_, a3 rfl r4 r5 rfl, trivial⟩) fun _ => ?_
 refine lT (nV 6 r6) (fun _ => lS ⟨_, a2 rfl r5 rfl, trivial⟩) fun _ => ?_
 refine lT (lU 6 r6) (fun _ => lS ⟨_, a2 rfl r4 rfl, trivial⟩) fun _ => ?_
 refine lT (lU 7 r6) (fun _ => lS ⟨_, a2 rfl r5 rfl, trivial⟩) fun _ => ?_
 refine lT (cA (lU 8 r6) fun _ => gtv 0 (bL8 r3)) (fun hc => ?_) fun _ => ?_
 ·rw [Bool.and_eq_true, decide_eq_true_eq] at hc
  obtain ⟨y, ey, my⟩ := yC r3 (hJ 256 (by decide) r0) bE
  obtain ⟨u, rfl, hu⟩ := hp.2 y my
  exact lS ⟨_, a3 rfl r4 ey rfl, trivial⟩
 refine lT (lU 9 r6) (fun _ => lS ⟨_, a3 rfl r4 r5 rfl, trivial⟩) fun _ => ?_
 refine lT (lU 10 r6) (fun _ => lS ⟨_, a3 rfl r4 (a2 rfl (c2 rfl (jB 4 (by decide) (hJ 256 (by decide) r0)) rfl) rfl) rfl, trivial⟩) fun _ => ?_
 refine lT (lU 11 r6) (fun _ => ?_) fun _ => ?_
 ·obtain ⟨y, ey, my⟩ := yC r1 (hJ 256 (by decide) r0) hn.1
  obtain ⟨u, rfl, hu⟩ := hn.2.2 y my
  exact lS ⟨_, a3 rfl r4 ey rfl, trivial⟩
 refine lT (gtv 0 (bL8 r2)) (fun hc => ?_) fun _ => bL7 ⟨_, a2 rfl r5 rfl, trivial⟩
 have hc' := of_decide_eq_true hc
 obtain ⟨y, ey, my⟩ := yC r2 (hJ 256 (by decide) r0) bE
 obtain ⟨u, i, rfl, hu, i0, i4⟩ := he.2 y my
 refine bC4 ?_
 have s2 : kK 7 8 (m2 bF (gv 2) (m2 bP (m2 cE (gv 0) (kc (.int 256))) (mA cI (aC (gv 2) (bA))))) ρ = .ok (.nx ((ρ.set 7 (.val (.str u))).set 8 (.val (.int i)))) := by
  unfold kK
  rw [ey]; rfl
 have st : ∀ R : MS, bB (kK 7 8 (m2 bF (gv 2) (m2 bP (m2 cE (gv 0) (kc (.int 256))) (mA cI (aC (gv 2) (bA)))))) R ρ = R [.val (.int nb), .val (.lst ns), .val (.lst es), .val (.lst ps), .val (.str z), .val e, .val (.int (nb % 16)), .val (.str u), .val (.int i), .no] := fun R => by
  unfold bB
  rw [s2, <- hρ]; rfl
 unfold kO
 rw [st]
 refine bC4 ?_
 obtain ⟨ys, hys, ly, py⟩ := yB (g := mA (C .q7) (aC (mA (C .q4) (aC (gv 3) (aC (m2 bO (gv 0) (kc (.int 2))) (bA)))) (aC (gv 1) (aC (gv 2) (aC (kc (.int 1)) (bA)))))) (rest := [.val (.lst ns), .val (.lst es), .val (.int nb)]) (Pd := XE 1) (upTo 0 i.toNat) fun x hx => by
  obtain ⟨k, rfl, k0, k1⟩ := yA hx
  obtain ⟨v, ev⟩ := M.dr nb (k + 2) (nT bE bE)
  obtain ⟨d, ed, gdd⟩ := M.ex 1 v bE
  exact ⟨d, a4 (a2 rfl (c2 rfl rfl rfl) ev) rfl rfl rfl ed, gdd⟩
 rw [kB] at ly
 refine mY (P := fun d => d = .lst ys) ⟨_, gR (mJ rfl i0 bE) (by rw [kB]; omega) hys, rfl⟩ fun d hd => ?_
 subst hd
 exact lS ⟨_, a3 rfl rfl (a1 rfl rfl) rfl, trivial⟩
theorem XS.mono {d : D} {j m : Nat} (_ : XS j d) (_ : j <= m) : XS m d := trivial
theorem a5 {mm : List D -> bD D} {f1 f2 f3 f4 f5 : ME} {x1 x2 x3 x4 x5 zz : D} {ρ : bJ} (h1 : f1 ρ = .ok x1) (h2 : f2 ρ = .ok x2) (h3 : f3 ρ = .ok x3) (h4 : f4 ρ = .ok x4) (h5 : f5 ρ = .ok x5) (h : mm [x1, x2, x3, x4, x5] = .ok zz) : mA mm (aC f1 (aC f2 (aC f3 (aC f4 (aC f5 (bA)))))) ρ = .ok zz := by simp [mA, aC, bA, h1, h2, h3, h4, h5, bD.bind, h]
theorem a6 {mm : List D -> bD D} {f1 f2 f3 f4 f5 f6 : ME} {x1 x2 x3 x4 x5 x6 zz : D} {ρ : bJ} (h1 : f1 ρ = .ok x1) (h2 : f2 ρ = .ok x2) (h3 : f3 ρ = .ok x3) (h4 : f4 ρ = .ok x4) (h5 : f5 ρ = .ok x5) (h6 : f6 ρ = .ok x6) (h : mm [x1, x2, x3, x4, x5, x6] = .ok zz) : mA mm (aC f1 (aC f2 (aC f3 (aC f4 (aC f5 (aC f6 (bA))))))) ρ = .ok zz := by simp [mA, aC, bA, h1, h2, h3, h4, h5, h6, bD.bind, h]
theorem dQ0 (m : Nat) (M nb : Int) (hM : M = (m : Int)) (hn : mH ns) (he : mI es) (hp : qA ps) (K : Mk C ns es) (hsh : ∀ nb : Int, ∃ d, C .q8 [.int nb, .lst ns, .lst es, .lst ps] = .ok d /\ XS 0 d)
 (hbl : ∀ m' : Nat, m = m' + 1 -> ∀ nb sz : Int, 0 <= sz -> sz <= 4 -> ∃ d, C .q10 [.int nb, .int sz, .lst ns, .lst es, .lst ps, .int (m' : Int)] = .ok d /\ XB m' d) :
 kO ((xR C C') [.val (.int nb), .val (.lst ns), .val (.lst es), .val (.lst ps), .val (.int M), .no, .no, .no, .no]) (XS m) := by
 unfold xR
 refine mY (P := fun d => d = .int (nb % 12)) ⟨_, jB 12 (by decide) rfl, rfl⟩ fun d hd => ?_
 subst hd
 refine lT (cO (lU (v := M) 0 rfl) fun _ => nV (v := nb % 12) 9 rfl) (fun _ => lS ?_) fun hc => ?_
 ·obtain ⟨d, ed, gdd⟩ := hsh (nb / 12)
  exact ⟨d, a4 (hJ (i := 0) (v := nb) 12 (by decide) rfl) rfl rfl rfl ed, gdd.mono bE⟩
 rw [Bool.or_eq_false_iff] at hc
 obtain ⟨m', rfl⟩ : ∃ m', m = m' + 1 := by
  cases m with
  | zero => rw [hM] at hc; exact absurd hc.1 (by decide)
  | succ m' => exact ⟨m', rfl⟩
 have hsub : jF (.int M) (.int 1) = .ok (.int (m' : Int)) := by
  have e : M - 1 = (m' : Int) := by omega
  show bD.ok (D.int (M - 1)) = _
  rw [e]
 obtain ⟨v1, e1⟩ := K.dr nb 1 (by decide)
 obtain ⟨v2, e2⟩ := K.dr nb 2 (by decide)
 obtain ⟨v3, e3⟩ := K.dr nb 3 (by decide)
 obtain ⟨e, hE, _⟩ := K.ex 2 v1 bE
 refine mY (P := fun d => e = d) ⟨e, a4 (a2 rfl rfl e1) rfl rfl rfl hE, rfl⟩ fun d hd => ?_
 subst hd
 have b0 : 0 <= nb / 12 % 4 := Int.emod_nonneg _ (by decide)
 have b1' : nb / 12 % 4 < 4 := Int.emod_lt_of_pos _ (by decide)
 obtain ⟨b1, hb1, xs, rfl, lx⟩ := hbl m' rfl v2 (nb / 12 % 4) b0 bE
 refine mY (P := fun d => d = .tup xs) ⟨_, a6 (a2 rfl rfl e2) (jB 4 (by decide) (hJ (i := 0) (v := nb) 12 (by decide) rfl)) rfl rfl rfl (c2 rfl rfl hsub) hb1, rfl⟩ fun d hd => ?_
 subst hd
 show kO (bB (bM _ _ bQ) _ [.val (.int nb), .val (.lst ns), .val (.lst es), .val (.lst ps), .val (.int M), .val (.int (nb % 12)), .val e, .val (.tup xs), .no]) _
 generalize hρ : ([.val (.int nb), .val (.lst ns), .val (.lst es), .val (.lst ps), .val (.int M), .val (.int (nb % 12)), .val e, .val (.tup xs), .no] : bJ) = ρ
 have r0 : gv 0 ρ = .ok (.int nb) := by rw [<- hρ]; rfl
 have r1 : gv 1 ρ = .ok (.lst ns) := by rw [<- hρ]; rfl
 have r2 : gv 2 ρ = .ok (.lst es) := by rw [<- hρ]; rfl
 have r3 : gv 3 ρ = .ok (.lst ps) := by rw [<- hρ]; rfl
 have r4 : gv 4 ρ = .ok (.int M) := by rw [<- hρ]; rfl
 have r5 : gv 5 ρ = .ok (.int (nb % 12)) := by rw [<- hρ]; rfl
 have r6 : gv 6 ρ = .ok e := by rw [<- hρ]; rfl
 have r7 : gv 7 ρ = .ok (.tup xs) := by rw [<- hρ]; rfl
 refine lT (lU 9 r5) (fun _ => lS ⟨_, a3 rfl r6 r7 rfl, trivial⟩) fun _ => ?_
 refine lT (lU 10 r5) (fun _ => ?_) fun _ => ?_
 ·refine bC4 ?_
  obtain ⟨x, ex, mx⟩ := yC r1 (hJ 48 (by decide) r0) hn.1
  obtain ⟨z, rfl, hz⟩ := hn.2.2 x mx
  refine mY (P := fun d => d = .str z) ⟨_, ex, rfl⟩ fun d hd => ?_
  subst hd
  refine bC4 ?_
  have w8 : gv 8 (ρ.set 8 (.val (.str z))) = .ok (.str z) := by rw [<- hρ]; rfl
  have w0 : gv 0 (ρ.set 8 (.val (.str z))) = .ok (.int nb) := by rw [<- hρ]; rfl
  refine mY (P := fun d => d = D.tup [.str "<", .tup [.str "name", .str z], .tup [.str "number", .int (nb / 960 % 9)]]) ⟨_, a3 rfl (a2 rfl w8 rfl) (a2 rfl (jB 9 (by decide) (hJ 960 (by decide) w0)) rfl) rfl, rfl⟩ fun q hq => ?_
  subst hq
  generalize hq : D.tup [.str "<", .tup [.str "name", .str z], .tup [.str "number", .int (nb / 960 % 9)]] = q
  have u6 : gv 6 ((ρ.set 8 (.val (.str z))).set 6 (.val q)) = .ok q := by rw [<- hρ]; rfl
  have u7 : gv 7 ((ρ.set 8 (.val (.str z))).set 6 (.val q)) = .ok (.tup xs) := by rw [<- hρ]; rfl
  have u8 : gv 8 ((ρ.set 8 (.val (.str z))).set 6 (.val q)) = .ok (.str z) := by rw [<- hρ]; rfl
  have el : mA bK (aC (kc (.str "let")) (aC (gv 8) (aC (mA bK (aC (kc (.str "+")) (aC (mA bK (aC (kc (.str "name")) (aC (gv 8) (bA)))) (aC (mA bK (aC (kc (.str "number")) (aC (kc (.int 1)) (bA)))) (bA))))) (bA)))) ((ρ.set 8 (.val (.str z))).set 6 (.val q)) = .ok (.tup [.str "let", .str z, .tup [.str "+", .tup [.str "name", .str z], .tup [.str "number", .int 1]]]) :=
   a3 rfl u8 (a3 rfl (a2 rfl u8 rfl) (a2 rfl rfl rfl) rfl) rfl
  exact lS ⟨_, a3 rfl u6 (c2 u7 (a1 el rfl) (xZ (by simp only [List.length_cons, List.length_nil]; omega))) rfl, trivial⟩
 ·have c0 : 0 <= nb / 48 % 3 := Int.emod_nonneg _ (by decide)
  have c1' : nb / 48 % 3 < 3 := Int.emod_lt_of_pos _ (by decide)
  obtain ⟨b2, hb2, ys, rfl, ly⟩ := hbl m' rfl v3 (nb / 48 % 3) c0 bE
  exact bL7 ⟨_, a4 rfl r6 r7 (a6 (a2 r0 rfl e3) (jB 3 (by decide) (hJ 48 (by decide) r0)) r1 r2 r3 (c2 r4 rfl hsub) hb2) rfl, trivial⟩
theorem dQ1 (m : Nat) (M nb sz : Int) (hM : M = (m : Int)) (h0 : 0 <= sz) (h4 : sz <= 4) (K : ∀ (nb k : Int), gC k = true -> ∃ v : Int, C .q4 [.int nb, .int k] = .ok (.int v))
 (hst : ∀ nb : Int, ∃ d, C .q9 [.int nb, .lst ns, .lst es, .lst ps, .int M] = .ok d /\ XS m d) : kO ((xS C C') [.val (.int nb), .val (.int sz), .val (.lst ns), .val (.lst es), .val (.lst ps), .val (.int M), .no]) (XB m) := by
 unfold xS
 obtain ⟨ys, hys, ly, py⟩ := yB (g := mA (C .q9) (aC (mA (C .q4) (aC (gv 5) (aC (gv 0) (bA)))) (aC (gv 1) (aC (gv 2) (aC (gv 3) (aC (gv 4) (bA))))))) (rest := [.val (.lst ns), .val (.lst es), .val (.lst ps), .val (.int M), .val (.int nb)]) (Pd := XS m) (upTo 0 sz.toNat) fun x hx => by
  obtain ⟨k, rfl, k0, k1⟩ := yA hx
  obtain ⟨v, ev⟩ := K nb k (nT k0 bE)
  obtain ⟨d, ed, gdd⟩ := hst v
  exact ⟨d, a5 (a2 rfl rfl ev) rfl rfl rfl rfl ed, gdd⟩
 rw [kB] at ly
 refine mY (P := fun d => d = .lst ys) ⟨_, gR (mJ rfl h0 bE) (by rw [kB]; omega) hys, rfl⟩ fun d hd => ?_
 subst hd
 exact bL7 ⟨.tup ys, a1 rfl rfl, ys, rfl, by omega⟩
end
theorem cB3 (n : Nat) {ns es : List D} (hn : mH ns) (he : mI es) : Mk (Ph (n + 7)) ns es :=
 ⟨fun nb k hk => vR (n + 4) nb k hk, fun m nb hm => by
  have e : n + 7 = (n + 2 - m) + m + 5 := by omega
  rw [e]
  exact cB2 m _ nb ns es hn he⟩
theorem dQ2 (n : Nat) (nb : Int) {ns es ps : List D} (hn : mH ns) (he : mI es) (hp : qA ps) : ∃ d, Ph (n + 8) .q8 [.int nb, .lst ns, .lst es, .lst ps] = .ok d /\ XS 0 d := by
 show ∃ d, ((xQ (Ph (n + 7)) (Ph (n + 5))) [.val (.int nb), .val (.lst ns), .val (.lst es), .val (.lst ps), .no, .no, .no, .no, .no, .no]).bind bU = .ok d /\ XS 0 d
 exact dP9 _ _ ns es ps nb hn he hp (cB3 n hn he)
mutual
theorem cB4 (m n : Nat) (nb : Int) {ns es ps : List D} (hn : mH ns) (he : mI es) (hp : qA ps) : ∃ d, Ph (n + 2 * m + 12) .q9 [.int nb, .lst ns, .lst es, .lst ps, .int (m : Int)] = .ok d /\ XS m d := by
 show ∃ d, ((xR (Ph (n + 2 * m + 11)) (Ph (n + 2 * m + 9))) [.val (.int nb), .val (.lst ns), .val (.lst es), .val (.lst ps), .val (.int (m : Int)), .no, .no, .no, .no]).bind bU = .ok d /\ _
 refine dQ0 _ _ ns es ps m _ nb rfl hn he hp (cB3 (n + 2 * m + 4) hn he) (fun nb => dQ2 (n + 2 * m + 3) nb hn he hp) fun m' hm nb sz h0 h4 => ?_
 subst hm
 exact block_made m' n nb sz h0 h4 hn he hp
theorem block_made (m n : Nat) (nb sz : Int) (h0 : 0 <= sz) (h4 : sz <= 4) {ns es ps : List D} (hn : mH ns) (he : mI es) (hp : qA ps) : ∃ d, Ph (n + 2 * m + 13) .q10 [.int nb, .int sz, .lst ns, .lst es, .lst ps, .int (m : Int)] = .ok d /\ XB m d := by
 show ∃ d, ((xS (Ph (n + 2 * m + 12)) (Ph (n + 2 * m + 10))) [.val (.int nb), .val (.int sz), .val (.lst ns), .val (.lst es), .val (.lst ps), .val (.int (m : Int)), .no]).bind bU = .ok d /\ _
 exact dQ1 _ _ ns es ps m _ nb sz rfl h0 h4 (fun nb k hk => vR (n + 2 * m + 9) nb k hk) fun nb => cB4 m n nb hn he hp
end
end Jm
end
section
namespace Jm
open PySem PySem.Spec PyProof.Rows L2 R
variable [bN]
structure Fc where
 nm : Str
 ws : List Str
 ds : List (Str × Int)
noncomputable def Fc.d (f : Fc) : D := .tup [.str f.nm, .tup (f.ws.map .str), .tup (f.ds.map dP)]
noncomputable def Fc.ks (f : Fc) : List Str := f.ws ++ f.ds.map (·.1)
noncomputable def oF : Option Fc -> D
 | none => .non
 | some f => f.d
noncomputable def kF : Option Fc -> List Str
 | none => []
 | some f => f.ks
noncomputable def dF : Option Fc -> List (Str × Int)
 | none => []
 | some f => f.ds
structure Fc.ok (f : Fc) : Prop where
 nd : f.ks.Nodup
 ln : ∀ x ∈ f.ks, x.length <= 9
 nl : f.nm.length <= 9
 lw : f.ws.length <= 3
 ld : f.ds.length <= 2
 dc : ∀ p ∈ f.ds, 0 <= p.2 /\ p.2 <= 3
structure Dh where
 nm : Str
 ps : List Str
noncomputable def Dh.d (x : Dh) : D := .tup [.str x.nm, .tup (x.ps.map .str), .tup [], .tup []]
noncomputable abbrev p2 (p : Str × Str) : D := .tup [.str p.1, .str p.2]
structure Un where
 nm : Str
 tk : List (Str × Str)
 ws : List Str
 ds : List Dh
noncomputable def Un.d (u : Un) : D := .tup [.str u.nm, .tup (u.tk.map p2), .tup (u.ws.map .str), .tup (u.ds.map Dh.d), .tup []]
structure Un.ok (u : Un) : Prop where
 lt : u.tk.length <= 9
 lw : u.ws.length <= 6
 ld : u.ds.length <= 6
 lp : ∀ x ∈ u.ds, x.ps.length <= 10
inductive An where
 | st (d : D) | go (ks : List Str)
noncomputable abbrev gS (w x : Str) : D := .tup [.str w, .str x]
noncomputable def nW (un : Str) (fs : List (Option Fc)) (s : Str) : Option Fc := if s = un then none else (fs.filterMap id).find? fun f => decide (f.nm = s)
noncomputable def jH (un : Str) (fs : List (Option Fc)) : List (Str × Str) -> List Str -> An
 | [], ks => .go ks
 | (s, n) :: r, ks => match nW un fs s with
  | none => .st (gS "noface" s)
  | some f => if n ∈ f.ks then (if n ∈ ks then .st (gS "twice" n) else jH un fs r (ks ++ [n])) else .st (gS "nottold" n)
noncomputable def hU : List Str -> List Str -> An
 | [], ks => .go ks
 | x :: r, ks => if x ∈ ks then .st (gS "twice" x) else hU r (ks ++ [x])
noncomputable def fW (aw : List (Str × Int)) : List Dh -> List Str -> D
 | [], _ => match aw with
  | [] => .non
  | p :: _ => gS "lacks" p.1
 | x :: r, ks => match aw.find? fun p => decide (p.1 = x.nm) with
  | some p => if p.2 = x.ps.length then fW (aw.filter fun p => decide (p.1 ≠ x.nm)) r (if x.nm ∈ ks then ks else ks ++ [x.nm]) else gS "count" x.nm
  | none => if x.nm ∈ ks then gS "twice" x.nm else fW aw r (ks ++ [x.nm])
noncomputable def mZ (u : Un) (fs : List (Option Fc)) (f : Option Fc) : D := match jH u.nm fs u.tk (kF f) with
 | .st d => d
 | .go ks => match hU u.ws ks with
  | .st d => d
  | .go ks => fW (dF f) u.ds ks
section
variable {i j : Nat} {body : MS} {d x y : D} {T : R.Tab} {ds : List D} {ρ ρ' : bJ}
theorem vS (h : body (ρ.set i (.val x)) = .ok (.rd d T)) : cP i body (x :: ds) ρ = .ok (.rd d T) := by
 rw [cP, h]; rfl
theorem dQ3 (h : body (ρ.set i (.val x)) = .ok (.rt d)) : cP i body (x :: ds) ρ = .ok (.rt d) := by
 rw [cP, h]; rfl
theorem bL9 (h : body ((ρ.set i (.val x)).set j (.val y)) = .ok (.rd d T)) : dR i j body (.tup [x, y] :: ds) ρ = .ok (.rd d T) := by
 rw [dR]
 show ((body ((ρ.set i (.val x)).set j (.val y))).bind _) = _
 rw [h]; rfl
theorem bM0 (h : body ((ρ.set i (.val x)).set j (.val y)) = .ok (.rt d)) : dR i j body (.tup [x, y] :: ds) ρ = .ok (.rt d) := by
 rw [dR]
 show ((body ((ρ.set i (.val x)).set j (.val y))).bind _) = _
 rw [h]; rfl
theorem vT {A Z : MS} (h : A ρ = .ok (.rt d)) : bB A Z ρ = .ok (.rt d) := by
 unfold bB; rw [h]; rfl
theorem fX {c : MT} {A B : MS} (h : c ρ = .ok true) : bM c A B ρ = A ρ := by unfold bM; rw [h]; rfl
theorem kC {c : MT} {A B : MS} (h : c ρ = .ok false) : bM c A B ρ = B ρ := by unfold bM; rw [h]; rfl
theorem bC6 {f : ME} (h : f ρ = .ok d) : cC f ρ = .ok (.rt d) := by unfold cC; rw [h]; rfl
end
noncomputable abbrev ks (T : R.Tab) : List Str := T.map (·.1)
theorem qB (k : Str) : ∀ T : R.Tab, (dD T k).isSome = decide (k ∈ ks T)
 | [] => rfl
 | p :: r => by
  by_cases e : p.1 = k
  ·rw [rR e]; simp [ks, e]
  ·rw [rS e, qB k r]
   have e' : ¬ k = p.1 := fun z => e z.symm
   simp [ks, e']
theorem qC (T : R.Tab) (k : Str) (v : D) : ks (dG T k v) = if k ∈ ks T then ks T else ks T ++ [k] := by
 unfold dG
 rw [bL4, qB]
 by_cases h : k ∈ ks T
 ·rw [if_pos (by simpa using h), if_pos h]
  show List.map _ (List.map _ T) = _
  rw [List.map_map]
  refine List.map_congr_left fun p _ => ?_
  show (if p.1 = k then (p.1, v) else p).1 = p.1
  split <;> rfl
 ·rw [if_neg (by simpa using h), if_neg h]
  show List.map _ (T ++ _) = _
  rw [List.map_append]; rfl
theorem bC7 {T : R.Tab} {k : Str} (v : D) (h : k ∉ ks T) : dG T k v = T ++ [(k, v)] := by
 unfold dG
 rw [bL4, qB, if_neg (by simpa using h)]
theorem lV {neg : Bool} {i : Nat} {f : ME} {ρ : bJ} {x : Str} {T : R.Tab} (h : f ρ = .ok (.str x)) (hi : gX ρ[i]? = some T) : dL neg i f ρ = .ok (neg != decide (x ∈ ks T)) := by
 unfold dL
 rw [h, hi]
 show bD.ok (neg != (dD T x).isSome) = _
 rw [qB]
theorem yD {i : Nat} {f : ME} {ρ : bJ} {x : Str} {T : R.Tab} {d : D} (h : f ρ = .ok (.str x)) (hi : gX ρ[i]? = some T) (hd : dD T x = some d) : jO i f ρ = .ok d := by
 unfold jO
 rw [h, hi]
 show bI1 (dD T x) = _
 rw [hd]; rfl
theorem bC8 {α : Type} {i j : Nat} {fk fv : ME} {key : α -> Str} {val dat : α -> D} (hij : j ≠ i) (hk : ∀ (ρ : bJ) x, i < ρ.length -> fk (ρ.set i (.val (dat x))) = .ok (.str (key x))) (hv : ∀ (ρ : bJ) x, i < ρ.length -> fv (ρ.set i (.val (dat x))) = .ok (val x)) :
 ∀ (xs : List α) (ρ : bJ) (p : Bool) (T : R.Tab), ρ[j]? = some (.dic p T) -> i < ρ.length -> (xs.map key).Nodup -> (∀ x ∈ xs, key x ∉ ks T) -> T.length + xs.length <= 1000 ->
   ∃ a, cP i (fH j fk fv) (xs.map dat) ρ = .ok (.nx ((ρ.set j (.dic p (T ++ xs.map fun x => (key x, val x)))).set i a))
 | [], ρ, p, T, h, hi, _, _, _ => by
  refine ⟨ρ[i]'hi, ?_⟩
  have hj : j < ρ.length := (List.getElem?_eq_some_iff.mp h).1
  have e1 : ρ.set j (.dic p (T ++ [])) = ρ := by
   rw [List.append_nil]
   obtain ⟨h1, h2⟩ := List.getElem?_eq_some_iff.mp h
   rw [<- h2]; exact List.set_getElem_self h1
  show bD.ok (Fl.nx ρ) = _
  show _ = bD.ok (Fl.nx (((ρ.set j (.dic p (T ++ []))).set i _)))
  rw [e1, List.set_getElem_self]
 | x :: r, ρ, p, T, h, hi, hd, hf, hl => by
  simp only [List.length_cons] at hl
  rw [List.map_cons] at hd
  have hj : j < ρ.length := (List.getElem?_eq_some_iff.mp h).1
  have hx := hf x List.mem_cons_self
  have h1 : (ρ.set i (.val (dat x)))[j]? = some (.dic p T) := by rw [List.getElem?_set_ne (Ne.symm hij)]; exact h
  have st := mG (i := j) (f := fk) (h := fv) (ρ := ρ.set i (.val (dat x))) (p := p) (T := T) (k := key x) (v := val x) (hk ρ x hi) (hv ρ x hi) h1 bE
  rw [bC7 _ hx] at st
  obtain ⟨a, ha⟩ := bC8 hij hk hv r ((ρ.set i (.val (dat x))).set j (.dic p (T ++ [(key x, val x)]))) p (T ++ [(key x, val x)]) (List.getElem?_set_self (by rw [List.length_set]; exact hj)) (by rw [List.length_set, List.length_set]; exact hi) (List.nodup_cons.mp hd).2 (fun y hy hm => by
   rw [ks, List.map_append, List.mem_append] at hm
   rcases hm with hm | hm
   ·exact hf y (List.mem_cons_of_mem _ hy) hm
   ·have e : key y = key x := by simpa using hm
    exact (List.nodup_cons.mp hd).1 (by rw [<- e]; exact List.mem_map_of_mem hy)) (by rw [List.length_append]; simp only [List.length_cons, List.length_nil]; omega)
  refine ⟨a, ?_⟩
  rw [List.map_cons, mF st, ha, List.set_set, List.append_assoc]
  congr 2
  show ((ρ.set i (.val (dat x))).set j _).set i a = _
  rw [List.set_comm _ _ hij, List.set_set]
  exact (List.set_comm _ _ hij).symm
end Jm
end
section
namespace Jm
open PySem PySem.Spec PyProof.Rows L2 R
variable [bN]
theorem yE {i : Nat} {ρ : bJ} {d : D} (h : i < ρ.length) : gv i (ρ.set i (.val d)) = .ok d := by
 unfold gv
 rw [List.getElem?_set_self h]
theorem dQ4 {T : R.Tab} {k : Str} (h : k ∈ ks T) : ∃ d, dD T k = some d := by
 have := qB k T
 rw [decide_eq_true h] at this
 exact Option.isSome_iff_exists.mp this
noncomputable def jI (g : Fc) : R.Tab := g.ws.map (fun x => (x, gM)) ++ g.ds.map fun p => (p.1, .tup [.str "DEED", .int p.2])
noncomputable def qD : Option Fc -> R.Tab
 | none => []
 | some g => jI g
theorem bM1 : ∀ f : Option Fc, ks (qD f) = kF f
 | none => rfl
 | some g => by
  show ks (jI g) = g.ks
  unfold ks jI Fc.ks
  rw [List.map_append, List.map_map, List.map_map]
  congr 1
  exact (List.map_congr_left fun _ _ => rfl).trans (List.map_id g.ws)
theorem cB5 {f : Option Fc} (hf : ∀ g, f = some g -> g.ok) : (qD f).length <= 5 := by
 cases f with
 | none => exact Nat.zero_le _
 | some g =>
  have h := hf g rfl
  have h1 := h.lw
  have h2 := h.ld
  show (jI g).length <= 5
  unfold jI
  rw [List.length_append, List.length_map, List.length_map]; omega
theorem cB6 (C : CT) : ∀ {f : Option Fc}, (∀ g, f = some g -> g.ok) -> nQ C [oF f] = .ok (qD f)
 | none, _ => rfl
 | some g, hf => by
  have h := hf g rfl
  have h1 := h.lw
  have h2 := h.ld
  have hnd := h.nd
  unfold Fc.ks at hnd
  rw [List.nodup_append] at hnd
  show ((bK9 C) [.val g.d, .no, .no, .no]).bind bX4 = _
  unfold bK9
  rw [cZ (ρ' := [.val g.d, .dic false [], .no, .no]) rfl, rK (cB (c2 (x := g.d) (y := .non) rfl rfl rfl)), cA5]
  obtain ⟨a, ha⟩ := bC8 (i := 2) (j := 1) (fk := gv 2) (fv := kc gM) (key := id) (val := fun _ => gM) (dat := D.str) (by decide) (fun ρ x hi => yE hi) (fun _ _ _ => rfl) g.ws [.val g.d, .dic false [], .no, .no] false [] rfl (by show 2 < 4; decide) (by rw [List.map_id]; exact hnd.1) (fun x _ => by simp) (by simp only [List.length_nil]; omega)
  rw [cZ (ρ' := [.val g.d, .dic false (g.ws.map fun x => (x, gM)), a, .no]) (by rw [lJ (gZ (xs := g.ws.map .str) (c2 (x := g.d) (y := .int 1) rfl rfl (cQ 1 _ rfl)))]; exact ha)]
  obtain ⟨b, hb⟩ := bC8 (i := 3) (j := 1) (fk := m2 bF (gv 3) (kc (.int 0))) (fv := mA bK (aC (kc (.str "DEED")) (aC (m2 bF (gv 3) (kc (.int 1))) (bA)))) (key := fun p : Str × Int => p.1) (val := fun p => .tup [.str "DEED", .int p.2]) (dat := dP) (by decide)
   (fun ρ x hi => c2 (yE hi) rfl (cQ 0 _ rfl)) (fun ρ x hi => a2 rfl (c2 (yE hi) rfl (cQ 1 _ rfl)) rfl) g.ds [.val g.d, .dic false (g.ws.map fun x => (x, gM)), a, .no] false (g.ws.map fun x => (x, gM)) rfl (by show 3 < 4; decide) hnd.2.1 (fun x hx hm => by
    have hm' : x.1 ∈ g.ws := by
     rw [ks, List.map_map] at hm
     obtain ⟨y, hy, e⟩ := List.mem_map.mp hm
     have e' : y = x.1 := e
     exact e' ▸ hy
    exact hnd.2.2 _ hm' _ (List.mem_map_of_mem hx) rfl) (by rw [List.length_map]; omega)
  rw [cZ (ρ' := [.val g.d, .dic false (jI g), a, b]) (by rw [lJ (gZ (xs := g.ds.map dP) (c2 (x := g.d) (y := .int 2) rfl rfl (cQ 2 _ rfl)))]; exact hb)]
  rfl
noncomputable abbrev rX : MS := bB (bM (dL false 1 (gv 2)) (dQ 1 (mA bK (aC (kc (.str "twice")) (aC (gv 2) (bA))))) (bQ)) (fH 1 (gv 2) (kc gM))
theorem cB7 {U : Slot} : ∀ (ws : List Str) (T : R.Tab) (a : Slot), T.length + ws.length <= 1000 -> (match hU ws (ks T) with
 | .st d => ∃ T', cP 2 rX (ws.map .str) [U, .dic true T, a] = .ok (.rd d T')
 | .go kk => ∃ T' a', cP 2 rX (ws.map .str) [U, .dic true T, a] = .ok (.nx [U, .dic true T', a']) /\ ks T' = kk /\ T'.length <= T.length + ws.length)
 | [], T, a, _ => ⟨T, a, rfl, rfl, Nat.le_refl _⟩
 | x :: r, T, a, hl => by
  simp only [List.length_cons] at hl
  rw [hU]
  by_cases h : x ∈ ks T
  ·rw [if_pos h]
   refine ⟨T, vS ?_⟩
   show bB _ _ [U, .dic true T, .val (.str x)] = _
   exact kY (by rw [fX (by rw [lV (x := x) (T := T) rfl rfl, decide_eq_true h]; rfl)]; exact mU (T := T) (a2 rfl rfl rfl) rfl)
  ·rw [if_neg h]
   have hl' := rT T x gM
   have ih := cB7 (U := U) r (dG T x gM) (.val (.str x)) bE
   rw [qC, if_neg h] at ih
   have st : cP 2 rX ((x :: r).map .str) [U, .dic true T, a] = cP 2 rX (r.map .str) [U, .dic true (dG T x gM), .val (.str x)] := by
    rw [List.map_cons, mF (ρ' := [U, .dic true (dG T x gM), .val (.str x)])]
    show bB _ _ [U, .dic true T, .val (.str x)] = _
    rw [jA (by rw [lV (x := x) (T := T) rfl rfl, decide_eq_false h]; rfl)]
    exact mG (k := x) (T := T) rfl rfl rfl bE
   rw [st]
   revert ih
   cases hU r (ks T ++ [x]) with
   | st d => exact fun ih => ih
   | go kk => exact fun ⟨T', a', h1, h2, h3⟩ => ⟨T', a', h1, h2, by simp only [List.length_cons]; omega⟩
theorem dQ5 (C : CT) (u : Un) {T : R.Tab} (hl : T.length + u.ws.length <= 1000) : match hU u.ws (ks T) with
 | .st d => ∃ T', rH C [.val u.d] T = .ok (d, T')
 | .go kk => ∃ T', rH C [.val u.d] T = .ok (.non, T') /\ ks T' = kk /\ T'.length <= T.length + u.ws.length := by
 have h := cB7 (U := .val u.d) u.ws T .no hl
 have e0 : rH C [.val u.d] T = (bB (fA 2 (bV (m2 bF (gv 0) (kc (.int 2)))) rX) (dQ 1 (kc .non)) [.val u.d, .dic true T, .no]).bind (lI 1) := rfl
 have e1 : fA 2 (bV (m2 bF (gv 0) (kc (.int 2)))) rX [.val u.d, .dic true T, .no] = cP 2 rX (u.ws.map .str) [.val u.d, .dic true T, .no] := lJ (gZ (c2 (x := u.d) (y := .int 2) rfl rfl (cQ 2 _ rfl)))
 rw [e0]
 revert h
 cases hU u.ws (ks T) with
 | st d =>
  rintro ⟨T', h⟩
  exact ⟨T', by rw [kY (e1.trans h)]; rfl⟩
 | go kk =>
  rintro ⟨T', a', h1, h2, h3⟩
  refine ⟨T', ?_, h2, h3⟩
  rw [cZ (e1.trans h1)]
  exact xY (T := T') rfl rfl
end Jm
end
section
namespace Jm
open PySem PySem.Spec PyProof.Rows L2 R
variable [bN]
noncomputable def fT (fs : List (Option Fc)) : R.Tab := (fs.filterMap id).map fun f => (f.nm, f.d)
theorem cB8 (s : Str) : ∀ fs : List Fc, dD (fs.map fun f => (f.nm, f.d)) s = (fs.find? fun f => decide (f.nm = s)).map Fc.d
 | [] => rfl
 | f :: r => by
  by_cases e : f.nm = s
  ·rw [List.map_cons, rR e, List.find?_cons_of_pos (by simpa using e)]; rfl
  ·rw [List.map_cons, rS e, cB8 s r, List.find?_cons_of_neg (by simpa using e)]
noncomputable abbrev rY (C : CT) : MS := bB (bM (jE (mB (m2 cD (gv 3) (m2 bF (gv 0) (kc (.int 0))))) (dL true 1 (gv 3))) (dQ 2 (mA bK (aC (kc (.str "noface")) (aC (gv 3) (bA))))) (bQ)) (bB (pS 5 (nQ C) (aC (jO 1 (gv 3)) (bA))) (bB (bM (dL true 5 (gv 4)) (dQ 2 (mA bK (aC (kc (.str "nottold")) (aC (gv 4) (bA))))) (bQ)) (bB (bM (dL false 2 (gv 4)) (dQ 2 (mA bK (aC (kc (.str "twice")) (aC (gv 4) (bA))))) (bQ)) (fH 2 (gv 4) (jO 5 (gv 4))))))
theorem cB9 (C : CT) (u : Un) {fs : List (Option Fc)} (hfs : ∀ g, some g ∈ fs -> g.ok) : ∀ (tk : List (Str × Str)) (T : R.Tab) (a b c : Slot), T.length + tk.length <= 1000 -> (match jH u.nm fs tk (ks T) with
 | .st d => ∃ T', dR 3 4 (rY C) (tk.map p2) [.val u.d, .tab (fT fs), .dic true T, a, b, c] = .ok (.rd d T')
 | .go kk => ∃ T' a' b' c', dR 3 4 (rY C) (tk.map p2) [.val u.d, .tab (fT fs), .dic true T, a, b, c] = .ok (.nx [.val u.d, .tab (fT fs), .dic true T', a', b', c']) /\ ks T' = kk /\ T'.length <= T.length + tk.length)
 | [], T, a, b, c, _ => ⟨T, a, b, c, rfl, rfl, Nat.le_refl _⟩
 | (s, n) :: r, T, a, b, c, hl => by
  simp only [List.length_cons] at hl
  rw [jH]
  have get := cB8 s (fs.filterMap id)
  have ed : m2 cD (gv 3) (m2 bF (gv 0) (kc (.int 0))) [.val u.d, .tab (fT fs), .dic true T, .val (.str s), .val (.str n), c] = .ok (.bl (s == u.nm)) := c2 rfl (c2 (x := u.d) (y := .int 0) rfl rfl (cQ 0 _ rfl)) (rM s u.nm)
  have ei : dL true 1 (gv 3) [.val u.d, .tab (fT fs), .dic true T, .val (.str s), .val (.str n), c] = .ok (true != decide (s ∈ ks (fT fs))) := lV (x := s) (T := fT fs) rfl rfl
  have no : nW u.nm fs s = none -> jE (mB (m2 cD (gv 3) (m2 bF (gv 0) (kc (.int 0))))) (dL true 1 (gv 3)) [.val u.d, .tab (fT fs), .dic true T, .val (.str s), .val (.str n), c] = .ok true := fun h => by
   rw [cO (cB ed) fun _ => ei]
   unfold nW at h
   by_cases e : s = u.nm
   ·have : (s == u.nm) = true := by simp [e]
    rw [this]; rfl
   ·rw [if_neg e] at h
    have h2 : dD (fT fs) s = none := by unfold fT; rw [get, h]; rfl
    have h3 := qB s (fT fs)
    rw [h2] at h3
    rw [<- h3]
    simp
  cases hf : nW u.nm fs s with
  | none =>
   refine ⟨T, bL9 ?_⟩
   show bB _ _ [.val u.d, .tab (fT fs), .dic true T, .val (.str s), .val (.str n), c] = _
   exact kY (by rw [fX (no hf)]; exact mU (T := T) (a2 rfl rfl rfl) rfl)
  | some f =>
   have hok : f.ok := by
    unfold nW at hf
    split at hf
    ·cases hf
    ·have hm := List.mem_of_find?_eq_some hf
     obtain ⟨g, hg, e⟩ := List.mem_filterMap.mp hm
     cases g with
     | none => cases e
     | some g => cases e; exact hfs _ hg
   have hne : (s == u.nm) = false := by
    unfold nW at hf
    split at hf
    ·cases hf
    ·rename_i e; simpa using e
   have hg : dD (fT fs) s = some f.d := by
    unfold nW at hf
    split at hf
    ·cases hf
    ·unfold fT; rw [get, hf]; rfl
   have hin : decide (s ∈ ks (fT fs)) = true := by rw [<- qB, hg]; rfl
   have go : jE (mB (m2 cD (gv 3) (m2 bF (gv 0) (kc (.int 0))))) (dL true 1 (gv 3)) [.val u.d, .tab (fT fs), .dic true T, .val (.str s), .val (.str n), c] = .ok false := by
    rw [cO (cB ed) fun _ => ei, hne, hin]; rfl
   have told := cB6 C (f := some f) fun g hg => by cases hg; exact hok
   have pre : ∀ R : MS, bB (bM (jE (mB (m2 cD (gv 3) (m2 bF (gv 0) (kc (.int 0))))) (dL true 1 (gv 3))) (dQ 2 (mA bK (aC (kc (.str "noface")) (aC (gv 3) (bA))))) (bQ)) (bB (pS 5 (nQ C) (aC (jO 1 (gv 3)) (bA))) R) [.val u.d, .tab (fT fs), .dic true T, .val (.str s), .val (.str n), c] = R [.val u.d, .tab (fT fs), .dic true T, .val (.str s), .val (.str n), .dic false (jI f)] := fun R => by
    rw [jA go, cZ (cA7 (ds := [f.d]) (T := jI f) (by
     have e := yD (i := 1) (f := gv 3) (ρ := [.val u.d, .tab (fT fs), .dic true T, .val (.str s), .val (.str n), c]) (x := s) (T := fT fs) rfl rfl hg
     unfold aC; rw [e]; rfl) told)]
    rfl
   have kt := bM1 (some f)
   have kt' : ks (jI f) = f.ks := kt
   show match (if n ∈ f.ks then _ else _ : An) with
    | .st d => _
    | .go kk => _
   by_cases h1 : n ∈ f.ks
   ·rw [if_pos h1]
    have t1 : dL true 5 (gv 4) [.val u.d, .tab (fT fs), .dic true T, .val (.str s), .val (.str n), .dic false (jI f)] = .ok false := by
     rw [lV (x := n) (T := jI f) rfl rfl, kt', decide_eq_true h1]; rfl
    have t2 : dL false 2 (gv 4) [.val u.d, .tab (fT fs), .dic true T, .val (.str s), .val (.str n), .dic false (jI f)] = .ok (false != decide (n ∈ ks T)) := lV (x := n) (T := T) rfl rfl
    by_cases h2 : n ∈ ks T
    ·rw [if_pos h2]
     refine ⟨T, bL9 ?_⟩
     show bB _ _ [.val u.d, .tab (fT fs), .dic true T, .val (.str s), .val (.str n), c] = _
     rw [pre, jA t1]
     exact kY (by rw [fX (by rw [t2, decide_eq_true h2]; rfl)]; exact mU (T := T) (a2 rfl rfl rfl) rfl)
    ·rw [if_neg h2]
     obtain ⟨d, hd⟩ := dQ4 (T := jI f) (k := n) (by rw [kt']; exact h1)
     have hl' := rT T n d
     have ih := cB9 C u hfs r (dG T n d) (.val (.str s)) (.val (.str n)) (.dic false (jI f)) bE
     rw [qC, if_neg h2] at ih
     have st : dR 3 4 (rY C) (((s, n) :: r).map p2) [.val u.d, .tab (fT fs), .dic true T, a, b, c] = dR 3 4 (rY C) (r.map p2) [.val u.d, .tab (fT fs), .dic true (dG T n d), .val (.str s), .val (.str n), .dic false (jI f)] := by
      rw [List.map_cons, rN (ρ' := [.val u.d, .tab (fT fs), .dic true (dG T n d), .val (.str s), .val (.str n), .dic false (jI f)])]
      show bB _ _ [.val u.d, .tab (fT fs), .dic true T, .val (.str s), .val (.str n), c] = _
      rw [pre, jA t1, jA (by rw [t2, decide_eq_false h2]; rfl)]
      exact mG (k := n) (T := T) rfl (yD (x := n) (T := jI f) rfl rfl hd) rfl bE
     rw [st]
     revert ih
     cases jH u.nm fs r (ks T ++ [n]) with
     | st d => exact fun ih => ih
     | go kk => exact fun ⟨T', a', b', c', g1, g2, g3⟩ => ⟨T', a', b', c', g1, g2, by simp only [List.length_cons]; omega⟩
   ·rw [if_neg h1]
    refine ⟨T, bL9 ?_⟩
    show bB _ _ [.val u.d, .tab (fT fs), .dic true T, .val (.str s), .val (.str n), c] = _
    rw [pre]
    exact kY (by rw [fX (by rw [lV (x := n) (T := jI f) rfl rfl, kt', decide_eq_false h1]; rfl)]; exact mU (T := T) (a2 rfl rfl rfl) rfl)
theorem dQ6 (C : CT) (u : Un) {fs : List (Option Fc)} (hfs : ∀ g, some g ∈ fs -> g.ok) {T : R.Tab} (hl : T.length + u.tk.length <= 1000) : match jH u.nm fs u.tk (ks T) with
 | .st d => ∃ T', rJ C [.val u.d, .tab (fT fs)] T = .ok (d, T')
 | .go kk => ∃ T', rJ C [.val u.d, .tab (fT fs)] T = .ok (.non, T') /\ ks T' = kk /\ T'.length <= T.length + u.tk.length := by
 have h := cB9 C u hfs u.tk T .no .no .no hl
 have e0 : rJ C [.val u.d, .tab (fT fs)] T = (bB (kM 3 4 (bV (m2 bF (gv 0) (kc (.int 1)))) (rY C)) (dQ 2 (kc .non)) [.val u.d, .tab (fT fs), .dic true T, .no, .no, .no]).bind (lI 2) := rfl
 have e1 : kM 3 4 (bV (m2 bF (gv 0) (kc (.int 1)))) (rY C) [.val u.d, .tab (fT fs), .dic true T, .no, .no, .no] = dR 3 4 (rY C) (u.tk.map p2) [.val u.d, .tab (fT fs), .dic true T, .no, .no, .no] := vP (gZ (c2 (x := u.d) (y := .int 1) rfl rfl (cQ 1 _ rfl)))
 rw [e0]
 revert h
 cases jH u.nm fs u.tk (ks T) with
 | st d =>
  rintro ⟨T', h⟩
  exact ⟨T', by rw [kY (e1.trans h)]; rfl⟩
 | go kk =>
  rintro ⟨T', a', b', c', h1, h2, h3⟩
  refine ⟨T', ?_, h2, h3⟩
  rw [cZ (e1.trans h1)]
  exact xY (T := T') rfl rfl
end Jm
end
section
namespace Jm
open PySem PySem.Spec PyProof.Rows L2 R
variable [bN]
noncomputable def wA (aw : List (Str × Int)) : R.Tab := aw.map fun p => (p.1, .int p.2)
theorem bC9 (s : Str) : ∀ aw : List (Str × Int), dD (wA aw) s = (aw.find? fun p => decide (p.1 = s)).map fun p => .int p.2
 | [] => rfl
 | p :: r => by
  unfold wA
  by_cases e : p.1 = s
  ·rw [List.map_cons, rR e, List.find?_cons_of_pos (by simpa using e)]; rfl
  ·rw [List.map_cons, rS e, List.find?_cons_of_neg (by simpa using e)]; exact bC9 s r
theorem dQ7 (s : Str) (aw : List (Str × Int)) : R.tDrop (wA aw) s = wA (aw.filter fun p => decide (p.1 ≠ s)) := by
 unfold R.tDrop wA
 rw [List.filter_map]; rfl
theorem cC0 (x : Dh) (ρ : bJ) {f : ME} (h : f ρ = .ok x.d) : mA cI (aC (m2 bF f (kc (.int 1))) (bA)) ρ = .ok (.int x.ps.length) := a1 (c2 (x := x.d) (y := .int 1) h rfl (cQ 1 _ rfl)) (by
 show bD.ok (D.int ((x.ps.map D.str).length : Int)) = _
 rw [List.length_map])
noncomputable abbrev qE : MS := bB (bI 5 (m2 bF (gv 4) (kc (.int 0)))) (bB (bI 6 (mA cI (aC (m2 bF (gv 4) (kc (.int 1))) (bA)))) (bB (bM (dL false 3 (gv 5)) (xK 3 (gv 5) (gv 6) (dQ 2 (mA bK (aC (kc (.str "count")) (aC (gv 5) (bA)))))) (bM (dL false 2 (gv 5)) (dQ 2 (mA bK (aC (kc (.str "twice")) (aC (gv 5) (bA))))) (bQ))) (fH 2 (gv 5) (mA bK (aC (kc (.str "DEED")) (aC (gv 6) (bA)))))))
theorem bM2 {U V : Slot} : ∀ (ds : List Dh) (T : R.Tab) (aw : List (Str × Int)) (a b c : Slot), T.length + ds.length <= 1000 ->
 (∃ T', cP 4 qE (ds.map Dh.d) [U, V, .dic true T, .dic false (wA aw), a, b, c] = .ok (.rd (fW aw ds (ks T)) T') /\ non? (fW aw ds (ks T)) = false) \/
 ∃ T' aw' a' b' c', cP 4 qE (ds.map Dh.d) [U, V, .dic true T, .dic false (wA aw), a, b, c] = .ok (.nx [U, V, .dic true T', .dic false (wA aw'), a', b', c']) /\ fW aw ds (ks T) = fW aw' [] [] /\ (∀ p ∈ aw', p ∈ aw) /\ aw'.length <= aw.length /\ T'.length <= T.length + ds.length
 | [], T, aw, a, b, c, _ => .inr ⟨T, aw, a, b, c, rfl, rfl, fun _ h => h, Nat.le_refl _, Nat.le_refl _⟩
 | x :: r, T, aw, a, b, c, hl => by
  simp only [List.length_cons] at hl
  have pre : ∀ R : MS, bB (bI 5 (m2 bF (gv 4) (kc (.int 0)))) (bB (bI 6 (mA cI (aC (m2 bF (gv 4) (kc (.int 1))) (bA)))) R) [U, V, .dic true T, .dic false (wA aw), .val x.d, b, c] = R [U, V, .dic true T, .dic false (wA aw), .val x.d, .val (.str x.nm), .val (.int x.ps.length)] := fun R => by
   rw [cX (c2 (x := x.d) (y := .int 0) rfl rfl (cQ 0 _ rfl))]
   show bB _ _ [U, V, .dic true T, .dic false (wA aw), .val x.d, .val (.str x.nm), c] = _
   rw [cX (cC0 x _ rfl)]; rfl
  have hin : dL false 3 (gv 5) [U, V, .dic true T, .dic false (wA aw), .val x.d, .val (.str x.nm), .val (.int x.ps.length)] = .ok (dD (wA aw) x.nm).isSome := by
   rw [lV (x := x.nm) (T := wA aw) rfl rfl, qB]; simp
  have hin2 : dL false 2 (gv 5) [U, V, .dic true T, .dic false (wA aw), .val x.d, .val (.str x.nm), .val (.int x.ps.length)] = .ok (false != decide (x.nm ∈ ks T)) := lV (x := x.nm) (T := T) rfl rfl
  have hg := bC9 x.nm aw
  have hl' := rT T x.nm (.tup [.str "DEED", .int x.ps.length])
  rw [fW]
  cases hf : aw.find? fun p => decide (p.1 = x.nm) with
  | some p =>
   rw [hf] at hg
   have hg' : dD (wA aw) x.nm = some (.int p.2) := hg
   show (∃ T', _ = bD.ok (Fl.rd (if p.2 = x.ps.length then _ else _) T') /\ non? (if p.2 = x.ps.length then _ else _) = false) \/ ∃ T' aw' a' b' c', _ /\ (if p.2 = x.ps.length then _ else _) = _ /\ _
   have pop : xK 3 (gv 5) (gv 6) (dQ 2 (mA bK (aC (kc (.str "count")) (aC (gv 5) (bA))))) [U, V, .dic true T, .dic false (wA aw), .val x.d, .val (.str x.nm), .val (.int x.ps.length)] = if p.2 = x.ps.length then .ok (.nx [U, V, .dic true T, .dic false (wA (aw.filter fun p => decide (p.1 ≠ x.nm))), .val x.d, .val (.str x.nm), .val (.int x.ps.length)]) else .ok (.rd (gS "count" x.nm) T) := by
    show bY8 3 (gv 6) _ _ false (wA aw) x.nm (dD (wA aw) x.nm) = _
    rw [hg']
    show (if p.2 = (x.ps.length : Int) then _ else _) = _
    split
    ·rw [<- dQ7]; rfl
    ·exact mU (T := T) (a2 rfl rfl rfl) rfl
   by_cases he : p.2 = x.ps.length
   ·rw [if_pos he] at pop ⊢
    have st : cP 4 qE ((x :: r).map Dh.d) [U, V, .dic true T, .dic false (wA aw), a, b, c] = cP 4 qE (r.map Dh.d) [U, V, .dic true (dG T x.nm (.tup [.str "DEED", .int x.ps.length])), .dic false (wA (aw.filter fun p => decide (p.1 ≠ x.nm))), .val x.d, .val (.str x.nm), .val (.int x.ps.length)] := by
     rw [List.map_cons, mF (ρ' := [U, V, .dic true (dG T x.nm (.tup [.str "DEED", .int x.ps.length])), .dic false (wA (aw.filter fun p => decide (p.1 ≠ x.nm))), .val x.d, .val (.str x.nm), .val (.int x.ps.length)])]
     show bB _ _ [U, V, .dic true T, .dic false (wA aw), .val x.d, b, c] = _
     rw [pre, rK (by rw [hin, hg']; rfl), cZ pop]
     exact mG (k := x.nm) (T := T) rfl rfl rfl bE
    rw [st]
    have ih := bM2 (U := U) (V := V) r (dG T x.nm (.tup [.str "DEED", .int x.ps.length])) (aw.filter fun p => decide (p.1 ≠ x.nm)) (.val x.d) (.val (.str x.nm)) (.val (.int x.ps.length)) bE
    rw [qC] at ih
    rcases ih with ih | ⟨T', aw', a', b', c', g1, g2, g3, g4, g5⟩
    ·exact .inl ih
    ·have := List.length_filter_le (fun p : Str × Int => decide (p.1 ≠ x.nm)) aw
     exact .inr ⟨T', aw', a', b', c', g1, g2, fun q hq => (List.mem_filter.mp (g3 q hq)).1, by omega, by simp only [List.length_cons]; omega⟩
   ·rw [if_neg he] at pop ⊢
    refine .inl ⟨T, vS ?_, rfl⟩
    show bB _ _ [U, V, .dic true T, .dic false (wA aw), .val x.d, b, c] = _
    rw [pre, rK (by rw [hin, hg']; rfl)]
    exact kY pop
  | none =>
   rw [hf] at hg
   have hg' : dD (wA aw) x.nm = none := hg
   show (∃ T', _ = bD.ok (Fl.rd (if x.nm ∈ ks T then _ else _) T') /\ non? (if x.nm ∈ ks T then _ else _) = false) \/ ∃ T' aw' a' b' c', _ /\ (if x.nm ∈ ks T then _ else _) = _ /\ _
   by_cases h2 : x.nm ∈ ks T
   ·rw [if_pos h2]
    refine .inl ⟨T, vS ?_, rfl⟩
    show bB _ _ [U, V, .dic true T, .dic false (wA aw), .val x.d, b, c] = _
    rw [pre, cA6 (by rw [hin, hg']; rfl)]
    exact kY (by rw [fX (by rw [hin2, decide_eq_true h2]; rfl)]; exact mU (T := T) (a2 rfl rfl rfl) rfl)
   ·rw [if_neg h2]
    have st : cP 4 qE ((x :: r).map Dh.d) [U, V, .dic true T, .dic false (wA aw), a, b, c] = cP 4 qE (r.map Dh.d) [U, V, .dic true (dG T x.nm (.tup [.str "DEED", .int x.ps.length])), .dic false (wA aw), .val x.d, .val (.str x.nm), .val (.int x.ps.length)] := by
     rw [List.map_cons, mF (ρ' := [U, V, .dic true (dG T x.nm (.tup [.str "DEED", .int x.ps.length])), .dic false (wA aw), .val x.d, .val (.str x.nm), .val (.int x.ps.length)])]
     show bB _ _ [U, V, .dic true T, .dic false (wA aw), .val x.d, b, c] = _
     rw [pre, cA6 (by rw [hin, hg']; rfl), jA (by rw [hin2, decide_eq_false h2]; rfl)]
     exact mG (k := x.nm) (T := T) rfl rfl rfl bE
    rw [st]
    have ih := bM2 (U := U) (V := V) r (dG T x.nm (.tup [.str "DEED", .int x.ps.length])) aw (.val x.d) (.val (.str x.nm)) (.val (.int x.ps.length)) bE
    rw [qC, if_neg h2] at ih
    rcases ih with ih | ⟨T', aw', a', b', c', g1, g2, g3, g4, g5⟩
    ·exact .inl ih
    ·exact .inr ⟨T', aw', a', b', c', g1, g2, g3, g4, by simp only [List.length_cons]; omega⟩
theorem cC1 : ∀ aw : List (Str × Int), R.pairsOf (aw.map dP) = some (wA aw)
 | [] => rfl
 | p :: r => by rw [List.map_cons, R.pairsOf, cC1 r]; rfl
theorem cC2 : ∀ (ps T : R.Tab), (ks ps).Nodup -> (∀ p ∈ ps, p.1 ∉ ks T) -> qY T ps = T ++ ps
 | [], T, _, _ => by rw [List.append_nil]; rfl
 | p :: r, T, hd, hf => by
  have hd' : (p.1 :: ks r).Nodup := hd
  show qY (dG T p.1 p.2) r = _
  rw [bC7 _ (hf p List.mem_cons_self), cC2 r _ (List.nodup_cons.mp hd').2 fun q hq hm => ?_, List.append_assoc]
  ·rfl
  ·rw [ks, List.map_append, List.mem_append] at hm
   rcases hm with hm | hm
   ·exact hf q (List.mem_cons_of_mem _ hq) hm
   ·have e : q.1 = p.1 := by simpa using hm
    exact (List.nodup_cons.mp hd').1 (by rw [<- e]; exact List.mem_map_of_mem hq)
theorem dQ8 (aw : List (Str × Int)) : ks (wA aw) = aw.map (·.1) := by
 unfold ks wA
 rw [List.map_map]; rfl
theorem dQ9 (C : CT) (u : Un) {f : Option Fc} (hf : ∀ g, f = some g -> g.ok) {T : R.Tab} (hl : T.length + u.ds.length <= 1000) :
 ∃ T', xV C [.val u.d, .val (oF f)] T = .ok (fW (dF f) u.ds (ks T), T') /\ (fW (dF f) u.ds (ks T) = .non -> T'.length <= T.length + u.ds.length) := by
 show ∃ T', ((bK8 C) [.val u.d, .val (oF f), .dic true T, .no, .no, .no, .no]).bind (lI 2) = _ /\ _
 unfold bK8
 have s0 : tN 3 (mB (m2 (dO false) (gv 1) (kc .non))) (m2 bF (gv 1) (kc (.int 2))) [.val u.d, .val (oF f), .dic true T, .no, .no, .no, .no] = .ok (.nx [.val u.d, .val (oF f), .dic true T, .dic false (wA (dF f)), .no, .no, .no]) := by
  cases f with
  | none => rfl
  | some g =>
   have h := hf g rfl
   have hnd := h.nd
   unfold Fc.ks at hnd
   rw [List.nodup_append] at hnd
   have h1 : m2 bF (gv 1) (kc (.int 2)) [.val u.d, .val g.d, .dic true T, .no, .no, .no, .no] = .ok (.tup (g.ds.map dP)) := c2 (x := g.d) (y := .int 2) rfl rfl (cQ 2 _ rfl)
   have c0 : mB (m2 (dO false) (gv 1) (kc .non)) [.val u.d, .val g.d, .dic true T, .no, .no, .no, .no] = .ok false := cB (c2 (x := g.d) (y := .non) rfl rfl rfl)
   show tN 3 _ _ [.val u.d, .val g.d, .dic true T, .no, .no, .no, .no] = _
   unfold tN
   rw [c0, h1]
   simp only [bD.bind, cC1]
   show (if (wA g.ds).length <= 1000 then bD.ok (Fl.nx (List.set _ 3 (.dic false (qY [] (wA g.ds))))) else .bad) = _
   rw [if_pos (by unfold wA; rw [List.length_map]; have := h.ld; omega), cC2 (wA g.ds) [] (by rw [dQ8]; exact hnd.2.1) (fun p _ => by simp)]
   rfl
 have e1 : fA 4 (bV (m2 bF (gv 0) (kc (.int 3)))) qE [.val u.d, .val (oF f), .dic true T, .dic false (wA (dF f)), .no, .no, .no] = cP 4 qE (u.ds.map Dh.d) [.val u.d, .val (oF f), .dic true T, .dic false (wA (dF f)), .no, .no, .no] := lJ (gZ (c2 (x := u.d) (y := .int 3) rfl rfl (cQ 3 _ rfl)))
 rw [cZ s0]
 rcases bM2 (U := .val u.d) (V := .val (oF f)) u.ds T (dF f) .no .no .no hl with ⟨T', h, hn⟩ | ⟨T', aw', a', b', c', g1, g2, g3, g4, g5⟩
 ·exact ⟨T', by rw [kY (e1.trans h)]; rfl, fun z => by rw [z] at hn; cases hn⟩
 ·rw [cZ (e1.trans g1), g2]
  cases aw' with
  | nil =>
   refine ⟨T', ?_, fun _ => g5⟩
   rw [jA (cB (c2 (x := .int 0) (y := .int 0) rfl rfl rfl))]
   exact xY (T := T') rfl rfl
  | cons p r =>
   refine ⟨T', ?_, fun z => by cases z⟩
   have hk : (List.all (wA (p :: r)) fun q => decide (q.1.length <= 1000)) = true := by
    rw [List.all_eq_true]
    intro q hq
    obtain ⟨y, hy, rfl⟩ := List.mem_map.mp hq
    have hy' := g3 y hy
    cases f with
    | none => cases hy'
    | some g =>
     have := (hf g rfl).ln y.1 (List.mem_append_right _ (List.mem_map_of_mem hy'))
     exact decide_eq_true (by show y.1.length <= 1000; omega)
   have hdl : zZ 3 [.val u.d, .val (oF f), .dic true T', .dic false (wA (p :: r)), a', b', c'] = .ok (.lst ((wA (p :: r)).map fun q => .str q.1)) := by
    show (mQ (wA (p :: r))).bind _ = _
    unfold mQ
    rw [if_pos hk]; rfl
   rw [rK (cB (c2 (x := .int ((wA (p :: r)).length : Int)) (y := .int 0) rfl rfl (by
    show bD.ok (D.bl (decide _)) = _
    rw [decide_eq_true (by show (0 : Int) < ((wA (p :: r)).length : Int); unfold wA; rw [List.length_map, List.length_cons]; omega)])))]
   rw [kY (mU (T := T') (d := gS "lacks" p.1) (a2 rfl (c2 hdl rfl (nS 0 _ rfl)) rfl) rfl)]
   rfl
end Jm
end
section
namespace Jm
open PySem PySem.Spec PyProof.Rows L2 R
variable [bN]
theorem dR0 (n : Nat) : Ph (n + 3) .q1 [.tup []] = .ok (.lst []) := rfl
theorem cC3 {C : CT} (hC : C .q1 [.tup []] = .ok (.lst [])) (T : R.Tab) : mS C [.val (.tup [])] T = .ok (.non, T) := by
 show ((bK6 C) [.val (.tup []), .dic true T, .no, .no]).bind (lI 1) = _
 unfold bK6
 rw [cZ (ρ' := [.val (.tup []), .dic true T, .no, .no]) (by rw [lJ (rP (xs := []) (a1 rfl hC))]; rfl)]
 exact xY (T := T) rfl rfl
noncomputable abbrev dR1 : MS := fH 3 (gv 4) (kc gM)
theorem cC4 {U V W Z : Slot} : ∀ (xs : List Str) (T : R.Tab) (a : Slot), T.length + xs.length <= 1000 ->
 ∃ T' a', cP 4 dR1 (xs.map .str) [U, V, W, .dic false T, a, Z] = .ok (.nx [U, V, W, .dic false T', a', Z])
 | [], T, a, _ => ⟨T, a, rfl⟩
 | x :: r, T, a, hl => by
  simp only [List.length_cons] at hl
  have hl' := rT T x gM
  obtain ⟨T', a', h⟩ := cC4 (U := U) (V := V) (W := W) (Z := Z) r (dG T x gM) (.val (.str x)) bE
  refine ⟨T', a', ?_⟩
  rw [List.map_cons, mF (ρ' := [U, V, W, .dic false (dG T x gM), .val (.str x), Z]), h]
  exact mG (k := x) (T := T) rfl rfl rfl bE
noncomputable abbrev dR2 (C : CT) : MS := bB (tJ 3 1) (bB (fA 4 (bV (m2 bO (m2 bF (gv 2) (kc (.int 1))) (m2 bF (gv 2) (kc (.int 2))))) (fH 3 (gv 4) (kc gM))) (bB (mN 5 3 (mS C) (dS (m2 bF (gv 2) (kc (.int 3))) (fK))) (bM (mB (m2 (dO true) (gv 5) (kc .non))) (dQ 1 (gv 5)) (bQ))))
theorem cC5 {C : CT} (hC : C .q1 [.tup []] = .ok (.lst [])) {U : Slot} {T : R.Tab} (hT : T.length <= 900) : ∀ (ds : List Dh) (a b c d : Slot), (∀ x ∈ ds, x.ps.length <= 10) -> ∃ a' b' c' d', cP 2 (dR2 C) (ds.map Dh.d) [U, .dic true T, a, b, c, d] = .ok (.nx [U, .dic true T, a', b', c', d'])
 | [], a, b, c, d, _ => ⟨a, b, c, d, rfl⟩
 | x :: r, a, b, c, d, hx => by
  have hp := hx x List.mem_cons_self
  obtain ⟨T', c', h⟩ := cC4 (U := U) (V := .dic true T) (W := .val x.d) (Z := d) x.ps T c bE
  obtain ⟨a'', b'', c'', d'', ih⟩ := cC5 hC (U := U) hT r (.val x.d) (.dic false T') c' (.val .non) fun y hy => hx y (List.mem_cons_of_mem _ hy)
  refine ⟨a'', b'', c'', d'', ?_⟩
  rw [List.map_cons, mF (ρ' := [U, .dic true T, .val x.d, .dic false T', c', .val .non]), ih]
  show bB _ _ [U, .dic true T, .val x.d, b, c, d] = _
  rw [cZ (ρ' := [U, .dic true T, .val x.d, .dic false T, c, d]) rfl,
   cZ (ρ' := [U, .dic true T, .val x.d, .dic false T', c', d]) (by
    rw [lJ (gZ (xs := x.ps.map .str) (c2 (c2 (x := x.d) (y := .int 1) rfl rfl (cQ 1 _ rfl)) (c2 (x := x.d) (y := .int 2) rfl rfl (cQ 2 _ rfl)) ?_))]
    ·exact h
    ·have := xZ (a := x.ps.map .str) (b := []) (by rw [List.length_map]; simp only [List.length_nil]; omega)
     rw [List.append_nil] at this
     exact this),
   cZ (rQ (p := false) (T := T') (T' := T') (sl := [.val (.tup [])]) (d := .non) rfl (bL3 (c2 (x := x.d) (y := .int 3) rfl rfl (cQ 3 _ rfl))) (cC3 hC T'))]
  show bM _ _ _ [U, .dic true T, .val x.d, .dic false T', c', .val .non] = _
  exact kC (cB (c2 (x := .non) (y := .non) rfl rfl rfl))
theorem dR3 {C : CT} (hC : C .q1 [.tup []] = .ok (.lst [])) (u : Un) (hu : ∀ x ∈ u.ds, x.ps.length <= 10) {T : R.Tab} (hT : T.length <= 900) : xU C [.val u.d] T = .ok (.non, T) := by
 obtain ⟨a, b, c, d, h⟩ := cC5 hC (U := .val u.d) hT u.ds .no .no .no .no hu
 show ((bK7 C) [.val u.d, .dic true T, .no, .no, .no, .no]).bind (lI 1) = _
 unfold bK7
 rw [cZ (ρ' := [.val u.d, .dic true T, a, b, c, d]) (by rw [lJ (gZ (c2 (x := u.d) (y := .int 3) rfl rfl (cQ 3 _ rfl)))]; exact h)]
 have h5 : dS (m2 bF (gv 0) (kc (.int 4))) fK [.val u.d, .dic true T, a, b, c, d] = .ok [.val (.tup [])] := bL3 (c2 (x := u.d) (y := .int 4) rfl rfl (cQ 4 _ rfl))
 show (xH 1 (mS C) (dS (m2 bF (gv 0) (kc (.int 4))) fK) [.val u.d, .dic true T, a, b, c, d]).bind (lI 1) = _
 unfold xH
 show ((((dS (m2 bF (gv 0) (kc (.int 4))) fK [.val u.d, .dic true T, a, b, c, d]).bind fun sl => mS C sl T).bind fun r => .ok (.rd r.1 r.2)).bind (lI 1)) = _
 rw [h5]
 show (((mS C [.val (.tup [])] T).bind fun r => .ok (.rd r.1 r.2)).bind (lI 1)) = _
 rw [cC3 hC]; rfl
theorem cC6 {un : Str} {fs : List (Option Fc)} {d : D} : ∀ {tk : List (Str × Str)} {ks : List Str}, jH un fs tk ks = .st d -> non? d = false
 | [], _, h => by cases h
 | (s, n) :: r, ks, h => by
  rw [jH] at h
  split at h
  ·cases h; rfl
  ·split at h
   ·split at h
    ·cases h; rfl
    ·exact cC6 h
   ·cases h; rfl
theorem cC7 {d : D} : ∀ {ws ks : List Str}, hU ws ks = .st d -> non? d = false
 | [], _, h => by cases h
 | x :: r, ks, h => by
  rw [hU] at h
  split at h
  ·cases h; rfl
  ·exact cC7 h
theorem qF {i : Nat} {A R : MS} {ρ : bJ} {d : D} (h : gv i ρ = .ok d) : bB (bM (mB (m2 (dO false) (gv i) (kc .non))) A bQ) R ρ = if non? d = true then bB A R ρ else R ρ := by
 have e : mB (m2 (dO false) (gv i) (kc .non)) ρ = .ok (non? d) := cB (c2 h rfl (dO7 d))
 cases hd : non? d with
 | true => rw [hd] at e; rw [rK e, if_pos rfl]
 | false => rw [hd] at e; rw [jA e, if_neg (by simp)]
theorem dR4 {C : CT} (hC : C .q1 [.tup []] = .ok (.lst [])) (u : Un) (hu : u.ok) {fs : List (Option Fc)} (hfs : ∀ g, some g ∈ fs -> g.ok) {f : Option Fc} (hf : ∀ g, f = some g -> g.ok) :
 mO 3 5 (pY C) [.val u.d, .tab (fT fs), .val (oF f)] = .ok (mZ u fs f) := by
 have l1 := hu.lt
 have l2 := hu.lw
 have l3 := hu.ld
 have l0 := cB5 hf
 show ((pY C) [.val u.d, .tab (fT fs), .val (oF f), .no, .no]).bind bU = _
 unfold pY
 rw [cZ (ρ' := [.val u.d, .tab (fT fs), .val (oF f), .dic false (qD f), .no]) (cA7 (ds := [oF f]) (T := qD f) rfl (cB6 C hf))]
 have tk := dQ6 C u hfs (T := qD f) bE
 rw [bM1] at tk
 unfold mZ
 cases ha : jH u.nm fs u.tk (kF f) with
 | st d =>
  rw [ha] at tk
  obtain ⟨T', h⟩ := tk
  have hn := cC6 ha
  rw [cZ (rQ (j := 4) (i := 3) (fa := dS (gv 0) (kN 1 fK)) (ρ := [.val u.d, .tab (fT fs), .val (oF f), .dic false (qD f), .no]) (p := false) rfl rfl h)]
  show (bB _ _ [.val u.d, .tab (fT fs), .val (oF f), .dic false T', .val d]).bind bU = _
  rw [qF (d := d) rfl, hn, if_neg (by simp), qF (d := d) rfl, hn, if_neg (by simp), qF (d := d) rfl, hn, if_neg (by simp)]
  rfl
 | go kk =>
  rw [ha] at tk
  obtain ⟨T1, h1, h2, h3⟩ := tk
  rw [cZ (rQ (j := 4) (i := 3) (fa := dS (gv 0) (kN 1 fK)) (ρ := [.val u.d, .tab (fT fs), .val (oF f), .dic false (qD f), .no]) (p := false) rfl rfl h1)]
  show (bB _ _ [.val u.d, .tab (fT fs), .val (oF f), .dic false T1, .val .non]).bind bU = _
  rw [qF (d := .non) rfl, if_pos (show non? D.non = true from rfl)]
  have wd := dQ5 C u (T := T1) bE
  rw [h2] at wd
  show _ = bD.ok (match hU u.ws kk with
   | .st d => d
   | .go ks => fW (dF f) u.ds ks)
  cases hb : hU u.ws kk with
  | st d =>
   rw [hb] at wd
   obtain ⟨T', h⟩ := wd
   have hn := cC7 hb
   rw [cZ (rQ (j := 4) (i := 3) (fa := dS (gv 0) fK) (ρ := [.val u.d, .tab (fT fs), .val (oF f), .dic false T1, .val .non]) (p := false) rfl rfl h)]
   show (bB _ _ [.val u.d, .tab (fT fs), .val (oF f), .dic false T', .val d]).bind bU = _
   rw [qF (d := d) rfl, hn, if_neg (by simp), qF (d := d) rfl, hn, if_neg (by simp)]
   rfl
  | go kk2 =>
   rw [hb] at wd
   obtain ⟨T2, g1, g2, g3⟩ := wd
   rw [cZ (rQ (j := 4) (i := 3) (fa := dS (gv 0) fK) (ρ := [.val u.d, .tab (fT fs), .val (oF f), .dic false T1, .val .non]) (p := false) rfl rfl g1)]
   show (bB _ _ [.val u.d, .tab (fT fs), .val (oF f), .dic false T2, .val .non]).bind bU = _
   rw [qF (d := .non) rfl, if_pos (show non? D.non = true from rfl)]
   obtain ⟨T3, k1, k2⟩ := dQ9 C u hf (T := T2) bE
   rw [g2] at k1 k2
   rw [cZ (rQ (j := 4) (i := 3) (fa := dS (gv 0) (dS (gv 2) fK)) (ρ := [.val u.d, .tab (fT fs), .val (oF f), .dic false T2, .val .non]) (p := false) rfl rfl k1)]
   show (bB _ _ [.val u.d, .tab (fT fs), .val (oF f), .dic false T3, .val (fW (dF f) u.ds kk2)]).bind bU = _
   rw [qF (d := fW (dF f) u.ds kk2) rfl]
   cases hn : non? (fW (dF f) u.ds kk2) with
   | false => rw [if_neg (by simp)]; rfl
   | true =>
    have e := dO6 hn
    rw [if_pos rfl, cZ (rQ (j := 4) (i := 3) (fa := dS (gv 0) fK) (ρ := [.val u.d, .tab (fT fs), .val (oF f), .dic false T3, .val (fW (dF f) u.ds kk2)]) (p := false) rfl rfl (dR3 hC u hu.lp (by have := k2 e; omega)))]
    show bD.ok D.non = bD.ok (fW (dF f) u.ds kk2)
    rw [e]
end Jm
end
section
namespace Jm
open PySem PySem.Spec PyProof.Rows L2 R
variable [bN]
theorem nX {α : Type} {p : MT} {g : ME} {rest : bJ} {dat val : α -> D} {q : α -> Bool} (hp : ∀ x, p (.val (dat x) :: rest) = .ok (q x)) (hg : ∀ x, q x = true -> g (.val (dat x) :: rest) = .ok (val x)) : ∀ xs : List α, fS p g rest (xs.map dat) = .ok ((xs.filter q).map val)
 | [] => rfl
 | x :: r => by
  rw [List.map_cons, fS, hp x, nX hp hg r]
  cases h : q x with
  | true =>
   rw [List.filter_cons_of_pos h]
   show (if true = true then (g (.val (dat x) :: rest)).bind (fun y => (bD.ok ((r.filter q).map val)).bind fun ys => .ok (y :: ys)) else bD.ok ((r.filter q).map val)) = _
   rw [if_pos rfl, hg x h]; rfl
  | false =>
   rw [List.filter_cons_of_neg (by simp [h])]
   rfl
noncomputable def nY (g : Fc) : R.Tab := g.ws.map (fun x => (x, .int (-1))) ++ wA g.ds
noncomputable def cN : Option Fc -> R.Tab
 | none => []
 | some g => nY g
theorem bM3 : ∀ f : Option Fc, ks (cN f) = kF f
 | none => rfl
 | some g => by
  show ks (nY g) = g.ks
  unfold ks nY Fc.ks wA
  rw [List.map_append, List.map_map, List.map_map]
  congr 1
  exact (List.map_congr_left fun _ _ => rfl).trans (List.map_id g.ws)
theorem dR5 {f : Option Fc} (hf : ∀ g, f = some g -> g.ok) : (cN f).length <= 5 := by
 have h := congrArg List.length (bM3 f)
 have h' := congrArg List.length (bM1 f)
 have := cB5 hf
 rw [ks, List.length_map] at h h'
 omega
noncomputable def kn (un : Str) (fs : List (Option Fc)) (s : Str) : List Fc := (fs.filterMap id).filter fun f => decide (f.nm = s) && !decide (s = un)
noncomputable abbrev vU : MT := dM (mB (m2 (dO true) (gv 0) (kc .non))) (dM (mB (m2 cD (m2 bF (gv 0) (kc (.int 0))) (gv 1))) (mB (m2 lF (gv 1) (m2 bF (gv 2) (kc (.int 0))))))
theorem bM4 (u : Un) (s : Str) : ∀ fs : List (Option Fc), fS vU (gv 0) [.val (.str s), .val u.d] (fs.map oF) = .ok ((kn u.nm fs s).map Fc.d)
 | [] => rfl
 | none :: r => by
  rw [List.map_cons, fS, bM4 u s r]
  rfl
 | some f :: r => by
  rw [List.map_cons, fS, bM4 u s r]
  have hc : vU [.val f.d, .val (.str s), .val u.d] = .ok ((f.nm == s) && !(s == u.nm)) := by
   have a1 : mB (m2 (dO true) (gv 0) (kc .non)) [.val f.d, .val (.str s), .val u.d] = .ok true := cB (c2 (x := f.d) (y := .non) rfl rfl rfl)
   have a2 : mB (m2 cD (m2 bF (gv 0) (kc (.int 0))) (gv 1)) [.val f.d, .val (.str s), .val u.d] = .ok (f.nm == s) := cB (c2 (c2 (x := f.d) (y := .int 0) rfl rfl (cQ 0 _ rfl)) rfl (rM f.nm s))
   have a3 : mB (m2 lF (gv 1) (m2 bF (gv 2) (kc (.int 0)))) [.val f.d, .val (.str s), .val u.d] = .ok (!(s == u.nm)) := cB (c2 rfl (c2 (x := u.d) (y := .int 0) rfl rfl (cQ 0 _ rfl)) (ne_str s u.nm))
   exact (cA a1 fun _ => cA a2 fun _ => a3).trans rfl
  show (vU [.val f.d, .val (.str s), .val u.d]).bind _ = _
  rw [hc]
  have e : ((f.nm == s) && !(s == u.nm)) = (decide (f.nm = s) && !decide (s = u.nm)) := rfl
  rw [e]
  have hk : kn u.nm (some f :: r) s = if (decide (f.nm = s) && !decide (s = u.nm)) = true then f :: kn u.nm r s else kn u.nm r s := by
   unfold kn
   have e0 : (some f :: r).filterMap id = f :: r.filterMap id := rfl
   rw [e0, List.filter_cons]
  rw [hk]
  cases (decide (f.nm = s) && !decide (s = u.nm)) with
  | true => rfl
  | false => rfl
theorem dR6 (un : Str) (fs : List (Option Fc)) (s : Str) : nW un fs s = (kn un fs s).head? := by
 unfold nW kn
 by_cases e : s = un
 ·rw [if_pos e]
  have : (List.filter (fun f : Fc => decide (f.nm = s) && !decide (s = un)) (fs.filterMap id)) = [] := by
   rw [List.filter_eq_nil_iff]; intro f _; simp [e]
  rw [this]; rfl
 ·rw [if_neg e]
  have : (fun f : Fc => decide (f.nm = s) && !decide (s = un)) = fun f => decide (f.nm = s) := by funext f; simp [e]
  rw [this, List.head?_filter]
theorem yF {n : Nat} : ∀ {xs : List D}, (∀ x ∈ xs, gD x <= n) -> depL xs <= n
 | [], _ => by simp [depL]
 | x :: r, h => by
  have h1 := h x List.mem_cons_self
  have h2 := yF fun y hy => h y (List.mem_cons_of_mem x hy)
  simp only [depL]; omega
theorem cC8 (f : Fc) : gD f.d <= 3 := by
 have h1 := bC3 f.ws
 have h2 : depL (f.ds.map dP) <= 1 := yF fun x hx => by
  obtain ⟨p, _, rfl⟩ := List.mem_map.mp hx
  simp [gD, depL]
 simp only [Fc.d, gD, depL, h1]
 omega
noncomputable def kZ (f : Fc) (n : Str) : List D := ((f.ws.filter fun x => x == n).map fun _ => .int (-1)) ++ (f.ds.filter fun p => p.1 == n).map fun p => .int p.2
theorem cC9 (f : Fc) (n : Str) : (kZ f n).isEmpty = !decide (n ∈ f.ks) := by
 unfold kZ Fc.ks
 by_cases h : n ∈ f.ws ++ f.ds.map (·.1)
 ·rw [decide_eq_true h]
  show _ = false
  rw [List.isEmpty_eq_false_iff]
  intro e
  rw [List.append_eq_nil_iff, List.map_eq_nil_iff, List.map_eq_nil_iff, List.filter_eq_nil_iff, List.filter_eq_nil_iff] at e
  rcases List.mem_append.mp h with h | h
  ·exact e.1 n h (by simp)
  ·obtain ⟨p, hp, rfl⟩ := List.mem_map.mp h
   exact e.2 p hp (by simp)
 ·rw [decide_eq_false h]
  show _ = true
  rw [List.isEmpty_iff, List.append_eq_nil_iff, List.map_eq_nil_iff, List.map_eq_nil_iff, List.filter_eq_nil_iff, List.filter_eq_nil_iff]
  refine ⟨fun x hx e => h (List.mem_append_left _ ?_), fun p hp e => h (List.mem_append_right _ ?_)⟩
  ·have : x = n := by simpa using e
   exact this ▸ hx
  ·have : p.1 = n := by simpa using e
   exact this ▸ List.mem_map_of_mem hp
theorem dR7 (f : Fc) (n : Str) : depL (kZ f n) <= 0 := yF fun x hx => by
 unfold kZ at hx
 rcases List.mem_append.mp hx with hx | hx
 ·obtain ⟨_, _, rfl⟩ := List.mem_map.mp hx; simp [gD]
 ·obtain ⟨_, _, rfl⟩ := List.mem_map.mp hx; simp [gD]
noncomputable abbrev c1M : ME := dB [9] (bV (m2 bF (m2 bF (gv 10) (kc (.int 0))) (kc (.int 1)))) (mB (m2 cD (gv 0) (gv 1))) (m1 kH (kc (.int 1)))
noncomputable abbrev c2M : ME := dB [9] (bV (m2 bF (m2 bF (gv 10) (kc (.int 0))) (kc (.int 2)))) (mB (m2 cD (m2 bF (gv 0) (kc (.int 0))) (gv 1))) (m2 bF (gv 0) (kc (.int 1)))
theorem dR8 {f : Fc} (hf : f.ok) {k : List Fc} (n : Str) {ρ : bJ} (h10 : gv 10 ρ = .ok (.lst ((f :: k).map Fc.d))) (h9 : fR [9] ρ = [.val (.str n)]) : m2 bO c1M c2M ρ = .ok (.lst (kZ f n)) := by
 have h1 := hf.lw
 have h2 := hf.ld
 have h0 : m2 bF (gv 10) (kc (.int 0)) ρ = .ok f.d := c2 h10 rfl (nS 0 _ rfl)
 have e1 : c1M ρ = .ok (.lst ((f.ws.filter fun x => x == n).map fun _ => .int (-1))) := gR (gZ (xs := f.ws.map .str) (c2 h0 rfl (cQ 1 _ rfl))) (by rw [List.length_map]; omega) (by
  rw [h9]
  exact nX (fun x => cB (c2 rfl rfl (rM x n))) (fun _ _ => rfl) f.ws)
 have e2 : c2M ρ = .ok (.lst ((f.ds.filter fun p => p.1 == n).map fun p => .int p.2)) := gR (gZ (xs := f.ds.map dP) (c2 h0 rfl (cQ 2 _ rfl))) (by rw [List.length_map]; omega) (by
  rw [h9]
  exact nX (fun p => cB (c2 (c2 (x := dP p) (y := .int 0) rfl rfl (cQ 0 _ rfl)) rfl (rM p.1 n))) (fun p _ => c2 (x := dP p) (y := .int 1) rfl rfl (cQ 1 _ rfl)) f.ds)
 refine c2 e1 e2 (lK ?_)
 rw [List.length_map, List.length_map]
 have h3 := List.length_filter_le (fun x => x == n) f.ws
 have h4 := List.length_filter_le (fun p : Str × Int => p.1 == n) f.ds
 omega
noncomputable abbrev nZ : MS := bB (gP 10 [8, 0] (bV (gv 1)) vU (gv 0)) (bB (bM (mB (m2 cD (gv 10) (mA jU (bA)))) (cC (mA bK (aC (kc (.str "noface")) (aC (gv 8) (bA))))) (bQ)) (bB (bI 11 (m2 bO c1M c2M)) (bB (bM (mB (m2 cD (gv 11) (mA jU (bA)))) (cC (mA bK (aC (kc (.str "nottold")) (aC (gv 9) (bA))))) (bQ)) (bB (bM (dL false 7 (gv 9)) (cC (mA bK (aC (kc (.str "twice")) (aC (gv 9) (bA))))) (bQ)) (fH 7 (gv 9) (m2 bF (gv 11) (kc (.int 0))))))))
theorem cD0 (u : Un) {fs : List (Option Fc)} (hl1 : fs.length <= 1000) (hfs : ∀ g, some g ∈ fs -> g.ok) {f tl s4 s5 s6 : Slot} : ∀ (tk : List (Str × Str)) (T : R.Tab) (a b c d : Slot), T.length + tk.length <= 1000 -> (match jH u.nm fs tk (ks T) with
 | .st x => dR 8 9 nZ (tk.map p2) [.val u.d, .val (.lst (fs.map oF)), f, tl, s4, s5, s6, .dic false T, a, b, c, d] = .ok (.rt x)
 | .go kk => ∃ T' a' b' c' d', dR 8 9 nZ (tk.map p2) [.val u.d, .val (.lst (fs.map oF)), f, tl, s4, s5, s6, .dic false T, a, b, c, d] = .ok (.nx [.val u.d, .val (.lst (fs.map oF)), f, tl, s4, s5, s6, .dic false T', a', b', c', d']) /\ ks T' = kk /\ T'.length <= T.length + tk.length)
 | [], T, a, b, c, d, _ => ⟨T, a, b, c, d, rfl, rfl, Nat.le_refl _⟩
 | (s, n) :: r, T, a, b, c, d, hl => by
  simp only [List.length_cons] at hl
  rw [jH, dR6]
  have pre : ∀ R : MS, bB (gP 10 [8, 0] (bV (gv 1)) vU (gv 0)) R [.val u.d, .val (.lst (fs.map oF)), f, tl, s4, s5, s6, .dic false T, .val (.str s), .val (.str n), c, d] = R [.val u.d, .val (.lst (fs.map oF)), f, tl, s4, s5, s6, .dic false T, .val (.str s), .val (.str n), .val (.lst ((kn u.nm fs s).map Fc.d)), d] := fun R => by
   unfold gP
   rw [cX (gR (ρ := [.val u.d, .val (.lst (fs.map oF)), f, tl, s4, s5, s6, .dic false T, .val (.str s), .val (.str n), c, d]) (xs := fs.map oF) (rP rfl) (by rw [List.length_map]; omega) (bM4 u s fs))]
   rfl
  have ek : mB (m2 cD (gv 10) (mA jU (bA))) [.val u.d, .val (.lst (fs.map oF)), f, tl, s4, s5, s6, .dic false T, .val (.str s), .val (.str n), .val (.lst ((kn u.nm fs s).map Fc.d)), d] = .ok (kn u.nm fs s).isEmpty := by
   have := cA8 (l := (kn u.nm fs s).map Fc.d) (Nat.le_trans (yF (n := 3) fun x hx => by obtain ⟨g, _, rfl⟩ := List.mem_map.mp hx; exact cC8 g) bE)
   rw [List.isEmpty_map] at this
   exact cB (c2 rfl rfl this)
  have hmem : ∀ g ∈ kn u.nm fs s, g.ok := fun g hg => by
   obtain ⟨h, e1, e2⟩ := List.mem_filterMap.mp (List.mem_filter.mp hg).1
   cases h with
   | none => cases e2
   | some h => cases e2; exact hfs _ e1
  generalize kn u.nm fs s = K at pre ek hmem
  cases K with
  | nil =>
   show dR 8 9 nZ (p2 (s, n) :: r.map p2) _ = _
   refine bM0 ?_
   show bB _ _ [.val u.d, .val (.lst (fs.map oF)), f, tl, s4, s5, s6, .dic false T, .val (.str s), .val (.str n), c, d] = _
   rw [pre]
   exact vT (by rw [fX ek]; exact bC6 (a2 rfl rfl rfl))
  | cons g K =>
   have hg := hmem g List.mem_cons_self
   have ec := dR8 hg (k := K) n (ρ := [.val u.d, .val (.lst (fs.map oF)), f, tl, s4, s5, s6, .dic false T, .val (.str s), .val (.str n), .val (.lst ((g :: K).map Fc.d)), d]) rfl rfl
   have pre2 : ∀ R : MS, bB (gP 10 [8, 0] (bV (gv 1)) vU (gv 0)) (bB (bM (mB (m2 cD (gv 10) (mA jU (bA)))) (cC (mA bK (aC (kc (.str "noface")) (aC (gv 8) (bA))))) (bQ)) (bB (bI 11 (m2 bO c1M c2M)) R)) [.val u.d, .val (.lst (fs.map oF)), f, tl, s4, s5, s6, .dic false T, .val (.str s), .val (.str n), c, d] = R [.val u.d, .val (.lst (fs.map oF)), f, tl, s4, s5, s6, .dic false T, .val (.str s), .val (.str n), .val (.lst ((g :: K).map Fc.d)), .val (.lst (kZ g n))] := fun R => by
    rw [pre, jA ek, cX ec]; rfl
   have e1 : mB (m2 cD (gv 11) (mA jU (bA))) [.val u.d, .val (.lst (fs.map oF)), f, tl, s4, s5, s6, .dic false T, .val (.str s), .val (.str n), .val (.lst ((g :: K).map Fc.d)), .val (.lst (kZ g n))] = .ok (!decide (n ∈ g.ks)) := by
    have := cA8 (l := kZ g n) (Nat.le_trans (dR7 g n) bE)
    rw [cC9] at this
    exact cB (c2 rfl rfl this)
   have e2 : dL false 7 (gv 9) [.val u.d, .val (.lst (fs.map oF)), f, tl, s4, s5, s6, .dic false T, .val (.str s), .val (.str n), .val (.lst ((g :: K).map Fc.d)), .val (.lst (kZ g n))] = .ok (false != decide (n ∈ ks T)) := lV (x := n) (T := T) rfl rfl
   show match (if n ∈ g.ks then _ else _ : An) with
    | .st x => _
    | .go kk => _
   by_cases h1 : n ∈ g.ks
   ·rw [if_pos h1]
    by_cases h2 : n ∈ ks T
    ·rw [if_pos h2]
     show dR 8 9 nZ (p2 (s, n) :: r.map p2) _ = _
     refine bM0 ?_
     show bB _ _ [.val u.d, .val (.lst (fs.map oF)), f, tl, s4, s5, s6, .dic false T, .val (.str s), .val (.str n), c, d] = _
     rw [pre2, jA (by rw [e1, decide_eq_true h1]; rfl)]
     exact vT (by rw [fX (by rw [e2, decide_eq_true h2]; rfl)]; exact bC6 (a2 rfl rfl rfl))
    ·rw [if_neg h2]
     obtain ⟨v, hv⟩ : ∃ v, (kZ g n)[0]? = some v := by
      have := cC9 g n
      rw [decide_eq_true h1] at this
      cases hc : kZ g n with
      | nil => rw [hc] at this; cases this
      | cons v r => exact ⟨v, rfl⟩
     have hl' := rT T n v
     have ih := cD0 u hl1 hfs (f := f) (tl := tl) (s4 := s4) (s5 := s5) (s6 := s6) r (dG T n v) (.val (.str s)) (.val (.str n)) (.val (.lst ((g :: K).map Fc.d))) (.val (.lst (kZ g n))) bE
     rw [qC, if_neg h2] at ih
     have st : dR 8 9 nZ (((s, n) :: r).map p2) [.val u.d, .val (.lst (fs.map oF)), f, tl, s4, s5, s6, .dic false T, a, b, c, d] = dR 8 9 nZ (r.map p2) [.val u.d, .val (.lst (fs.map oF)), f, tl, s4, s5, s6, .dic false (dG T n v), .val (.str s), .val (.str n), .val (.lst ((g :: K).map Fc.d)), .val (.lst (kZ g n))] := by
      rw [List.map_cons, rN (ρ' := [.val u.d, .val (.lst (fs.map oF)), f, tl, s4, s5, s6, .dic false (dG T n v), .val (.str s), .val (.str n), .val (.lst ((g :: K).map Fc.d)), .val (.lst (kZ g n))])]
      show bB _ _ [.val u.d, .val (.lst (fs.map oF)), f, tl, s4, s5, s6, .dic false T, .val (.str s), .val (.str n), c, d] = _
      rw [pre2, jA (by rw [e1, decide_eq_true h1]; rfl), jA (by rw [e2, decide_eq_false h2]; rfl)]
      exact mG (k := n) (T := T) rfl (c2 rfl rfl (nS 0 _ hv)) rfl bE
     rw [st]
     revert ih
     cases jH u.nm fs r (ks T ++ [n]) with
     | st d => exact fun ih => ih
     | go kk => exact fun ⟨T', a', b', c', d', g1, g2, g3⟩ => ⟨T', a', b', c', d', g1, g2, by simp only [List.length_cons]; omega⟩
   ·rw [if_neg h1]
    show dR 8 9 nZ (p2 (s, n) :: r.map p2) _ = _
    refine bM0 ?_
    show bB _ _ [.val u.d, .val (.lst (fs.map oF)), f, tl, s4, s5, s6, .dic false T, .val (.str s), .val (.str n), c, d] = _
    rw [pre2]
    exact vT (by rw [fX (by rw [e1, decide_eq_false h1]; rfl)]; exact bC6 (a2 rfl rfl rfl))
noncomputable abbrev rZ : MS := bB (bM (dL false 7 (gv 9)) (cC (mA bK (aC (kc (.str "twice")) (aC (gv 9) (bA))))) (bQ)) (fH 7 (gv 9) (m1 kH (kc (.int 1))))
theorem cD1 {u F f tl s4 s5 s6 s8 s10 s11 : Slot} : ∀ (ws : List Str) (T : R.Tab) (a : Slot), T.length + ws.length <= 1000 -> (match hU ws (ks T) with
 | .st d => cP 9 rZ (ws.map .str) [u, F, f, tl, s4, s5, s6, .dic false T, s8, a, s10, s11] = .ok (.rt d)
 | .go kk => ∃ T' a', cP 9 rZ (ws.map .str) [u, F, f, tl, s4, s5, s6, .dic false T, s8, a, s10, s11] = .ok (.nx [u, F, f, tl, s4, s5, s6, .dic false T', s8, a', s10, s11]) /\ ks T' = kk /\ T'.length <= T.length + ws.length)
 | [], T, a, _ => ⟨T, a, rfl, rfl, Nat.le_refl _⟩
 | x :: r, T, a, hl => by
  simp only [List.length_cons] at hl
  rw [hU]
  by_cases h : x ∈ ks T
  ·rw [if_pos h]
   show cP 9 rZ (.str x :: r.map .str) _ = _
   refine dQ3 ?_
   show bB _ _ [u, F, f, tl, s4, s5, s6, .dic false T, s8, .val (.str x), s10, s11] = _
   exact vT (by rw [fX (by rw [lV (x := x) (T := T) rfl rfl, decide_eq_true h]; rfl)]; exact bC6 (a2 rfl rfl rfl))
  ·rw [if_neg h]
   have hl' := rT T x (.int (-1))
   have ih := cD1 (u := u) (F := F) (f := f) (tl := tl) (s4 := s4) (s5 := s5) (s6 := s6) (s8 := s8) (s10 := s10) (s11 := s11) r (dG T x (.int (-1))) (.val (.str x)) bE
   rw [qC, if_neg h] at ih
   have st : cP 9 rZ ((x :: r).map .str) [u, F, f, tl, s4, s5, s6, .dic false T, s8, a, s10, s11] = cP 9 rZ (r.map .str) [u, F, f, tl, s4, s5, s6, .dic false (dG T x (.int (-1))), s8, .val (.str x), s10, s11] := by
    rw [List.map_cons, mF (ρ' := [u, F, f, tl, s4, s5, s6, .dic false (dG T x (.int (-1))), s8, .val (.str x), s10, s11])]
    show bB _ _ [u, F, f, tl, s4, s5, s6, .dic false T, s8, .val (.str x), s10, s11] = _
    rw [jA (by rw [lV (x := x) (T := T) rfl rfl, decide_eq_false h]; rfl)]
    exact mG (k := x) (T := T) rfl rfl rfl bE
   rw [st]
   revert ih
   cases hU r (ks T ++ [x]) with
   | st d => exact fun ih => ih
   | go kk => exact fun ⟨T', a', h1, h2, h3⟩ => ⟨T', a', h1, h2, by simp only [List.length_cons]; omega⟩
end Jm
end
section
namespace Jm
open PySem PySem.Spec PyProof.Rows L2 R
variable [bN]
theorem bM5 (k : Str) : ∀ A B : R.Tab, dD (A ++ B) k = (match dD A k with
 | some d => some d
 | none => dD B k)
 | [], B => rfl
 | p :: A, B => by
  by_cases e : p.1 = k
  ·rw [List.cons_append, rR e, rR e]
  ·rw [List.cons_append, rS e, rS e]; exact bM5 k A B
theorem bM6 (k : Str) : ∀ ws : List Str, dD (ws.map fun x => (x, D.int (-1))) k = if k ∈ ws then some (.int (-1)) else none
 | [] => rfl
 | x :: r => by
  by_cases e : x = k
  ·rw [List.map_cons, rR e, if_pos (by simp [e])]
  ·rw [List.map_cons, rS e, bM6 k r]
   have e' : ¬ k = x := fun z => e z.symm
   simp [e']
noncomputable def gI (f : Option Fc) (n : Str) : Int := match (dF f).find? fun p => decide (p.1 = n) with
 | some p => p.2
 | none => -1
theorem sA {n : Str} {l : List (Str × Int)} {p : Str × Int} (h : (l.find? fun p => decide (p.1 = n)) = some p) : p ∈ l /\ p.1 = n := ⟨List.mem_of_find?_eq_some h, by simpa using List.find?_some h⟩
theorem cD2 {n : Str} {l : List (Str × Int)} (h : (l.find? fun p => decide (p.1 = n)) = none) : n ∉ l.map (·.1) := fun hm => by
 obtain ⟨p, hp, e⟩ := List.mem_map.mp hm
 have := List.find?_eq_none.mp h p hp
 exact this (by simpa using e)
theorem bM7 {f : Option Fc} (hf : ∀ g, f = some g -> g.ok) (n : Str) : dD (cN f) n = if n ∈ kF f then some (.int (gI f n)) else none := by
 cases f with
 | none => rfl
 | some g =>
  have hnd := (hf g rfl).nd
  unfold Fc.ks at hnd
  rw [List.nodup_append] at hnd
  show dD (nY g) n = if n ∈ g.ks then some (.int (gI (some g) n)) else none
  unfold nY
  rw [bM5, bM6]
  unfold gI
  by_cases h : n ∈ g.ws
  ·rw [if_pos h, if_pos (show n ∈ g.ks from List.mem_append_left _ h)]
   cases hd : (dF (some g)).find? fun p => decide (p.1 = n) with
   | none => rfl
   | some p =>
    obtain ⟨h1, h2⟩ := sA hd
    exact absurd rfl (hnd.2.2 n h n (h2 ▸ List.mem_map_of_mem h1))
  ·rw [if_neg h]
   show dD (wA g.ds) n = _
   rw [bC9]
   show Option.map _ (g.ds.find? fun p => decide (p.1 = n)) = if n ∈ g.ks then some (D.int (match g.ds.find? fun p => decide (p.1 = n) with
    | some p => p.2
    | none => -1)) else none
   cases hd : g.ds.find? fun p => decide (p.1 = n) with
   | none =>
    rw [if_neg fun hm => ?_]
    ·rfl
    ·rcases List.mem_append.mp hm with hm | hm
     ·exact h hm
     ·exact cD2 hd hm
   | some p =>
    obtain ⟨h1, h2⟩ := sA hd
    rw [if_pos (show n ∈ g.ks from List.mem_append_right _ (h2 ▸ List.mem_map_of_mem h1))]
    rfl
theorem dR9 {f : Option Fc} (hf : ∀ g, f = some g -> g.ok) (n : Str) : decide (gI f n < 0) = ((dF f).find? fun p => decide (p.1 = n)).isNone := by
 unfold gI
 cases hd : (dF f).find? fun p => decide (p.1 = n) with
 | none => rfl
 | some p =>
  obtain ⟨h1, h2⟩ := sA hd
  cases f with
  | none => cases h1
  | some g =>
   have := ((hf g rfl).dc p h1).1
   exact decide_eq_false (by show ¬ p.2 < 0; omega)
noncomputable def kD (f : Option Fc) (met : List Str) : List (Str × Int) := (dF f).filter fun p => !decide (p.1 ∈ met)
theorem dS0 (f : Option Fc) (met : List Str) (n : Str) : ((kD f met).find? fun p => decide (p.1 = n)) = if n ∈ met then none else (dF f).find? fun p => decide (p.1 = n) := by
 unfold kD
 induction dF f with
 | nil => simp
 | cons p r ih =>
  rw [List.filter_cons]
  by_cases hm : p.1 ∈ met
  ·rw [if_neg (by simp [hm]), ih]
   by_cases e : p.1 = n
   ·rw [if_pos (e ▸ hm), if_pos (e ▸ hm)]
   ·rw [List.find?_cons_of_neg (by simpa using e)]
  ·rw [if_pos (by simp [hm])]
   by_cases e : p.1 = n
   ·rw [List.find?_cons_of_pos (by simpa using e), List.find?_cons_of_pos (by simpa using e), if_neg (e ▸ hm)]
   ·rw [List.find?_cons_of_neg (by simpa using e), List.find?_cons_of_neg (by simpa using e), ih]
theorem cD3 (f : Option Fc) (met : List Str) (n : Str) : kD f (met ++ [n]) = (kD f met).filter fun p => decide (p.1 ≠ n) := by
 unfold kD
 rw [List.filter_filter]
 congr 1
 funext p
 by_cases h1 : p.1 ∈ met <;> by_cases h2 : p.1 = n <;> simp [h1, h2]
theorem dS1 {f : Option Fc} {met : List Str} {n : Str} (h : ((kD f met).find? fun p => decide (p.1 = n)) = none) : kD f (met ++ [n]) = kD f met := by
 rw [cD3, List.filter_eq_self]
 intro p hp
 have := List.find?_eq_none.mp h p hp
 simpa using this
noncomputable abbrev kx : ME := m2 bF (gv 4) (kc (.int 0))
noncomputable abbrev sB : MS := bB (bM (dM (dL false 2 kx) (jE (mB (m2 dH (pT 1 kx (m1 kH (kc (.int 1)))) (kc (.int 0)))) (nO 3 (mB (m2 (gE false) kx (gv 3)))))) (dQ 2 (mA bK (aC (kc (.str "twice")) (aC kx (bA))))) (bQ)) (bB (bM (dM (dL false 2 kx) (mB (m2 lF (jO 1 kx) (mA cI (aC (m2 bF (gv 4) (kc (.int 1))) (bA)))))) (dQ 2 (mA bK (aC (kc (.str "count")) (aC kx (bA))))) (bQ)) (bB (fH 2 kx (mA cI (aC (m2 bF (gv 4) (kc (.int 1))) (bA)))) (lG 3 kx)))
theorem cD4 {U : Slot} {f : Option Fc} (hf : ∀ g, f = some g -> g.ok) : ∀ (ds : List Dh) (T : R.Tab) (met : List Str) (a b : Slot), T.length + ds.length <= 1000 -> met.length + ds.length <= 1000 -> (∀ x ∈ kF f, x ∈ ks T) ->
 (∃ T', cP 4 sB (ds.map Dh.d) [U, .tab (cN f), .dic true T, .own (met.map .str), a, b] = .ok (.rd (fW (kD f met) ds (ks T)) T')) \/
 ∃ T' met' a' b', cP 4 sB (ds.map Dh.d) [U, .tab (cN f), .dic true T, .own (met.map .str), a, b] = .ok (.nx [U, .tab (cN f), .dic true T', .own (met'.map .str), a', b']) /\ fW (kD f met) ds (ks T) = fW (kD f met') [] []
 | [], T, met, a, b, _, _, _ => .inr ⟨T, met, a, b, rfl, rfl⟩
 | x :: r, T, met, a, b, hl, hl2, hk => by
  simp only [List.length_cons] at hl hl2
  have e0 : kx [U, .tab (cN f), .dic true T, .own (met.map .str), .val x.d, b] = .ok (.str x.nm) := c2 (x := x.d) (y := .int 0) rfl rfl (cQ 0 _ rfl)
  have e0' : kx [U, .tab (cN f), .dic true T, .val (.lst (met.map .str)), .val x.d, b] = .ok (.str x.nm) := c2 (x := x.d) (y := .int 0) rfl rfl (cQ 0 _ rfl)
  have el : mA cI (aC (m2 bF (gv 4) (kc (.int 1))) (bA)) [U, .tab (cN f), .dic true T, .own (met.map .str), .val x.d, b] = .ok (.int x.ps.length) := cC0 x _ rfl
  have i2 : dL false 2 kx [U, .tab (cN f), .dic true T, .own (met.map .str), .val x.d, b] = .ok (decide (x.nm ∈ ks T)) := by rw [lV (T := T) e0 rfl]; simp
  have ig : mB (m2 dH (pT 1 kx (m1 kH (kc (.int 1)))) (kc (.int 0))) [U, .tab (cN f), .dic true T, .own (met.map .str), .val x.d, b] = .ok (decide (gI f x.nm < 0)) := by
   have e1 : pT 1 kx (m1 kH (kc (.int 1))) [U, .tab (cN f), .dic true T, .own (met.map .str), .val x.d, b] = .ok (.int (gI f x.nm)) := by
    unfold pT
    rw [e0]
    show bD.ok ((dD (cN f) x.nm).getD (.int (-1))) = _
    rw [bM7 hf]
    split
    ·rfl
    ·rename_i h
     have : (dF f).find? (fun p => decide (p.1 = x.nm)) = none := by
      cases hd : (dF f).find? fun p => decide (p.1 = x.nm) with
      | none => rfl
      | some p =>
       obtain ⟨h1, h2⟩ := sA hd
       cases f with
       | none => cases h1
       | some g => exact absurd (show x.nm ∈ g.ks from List.mem_append_right _ (h2 ▸ List.mem_map_of_mem h1)) h
     unfold gI
     rw [this]; rfl
   exact cB (c2 e1 rfl rfl)
  have im : nO 3 (mB (m2 (gE false) kx (gv 3))) [U, .tab (cN f), .dic true T, .own (met.map .str), .val x.d, b] = .ok (decide (x.nm ∈ met)) := by
   show mB (m2 (gE false) kx (gv 3)) [U, .tab (cN f), .dic true T, .val (.lst (met.map .str)), .val x.d, b] = _
   exact cB (c2 e0' rfl (dO8 x.nm met))
  have c1 := cA i2 fun _ => cO ig fun _ => im
  have af := dS0 f met x.nm
  have gn := dR9 hf x.nm
  have rest : ∀ (h : (x.nm ∈ ks T /\ ((dF f).find? fun p => decide (p.1 = x.nm)).isNone = false /\ x.nm ∉ met /\ gI f x.nm = x.ps.length) \/ x.nm ∉ ks T), cP 4 sB ((x :: r).map Dh.d) [U, .tab (cN f), .dic true T, .own (met.map .str), a, b] = cP 4 sB (r.map Dh.d) [U, .tab (cN f), .dic true (dG T x.nm (.int x.ps.length)), .own ((met ++ [x.nm]).map .str), .val x.d, b] := fun h => by
   rw [List.map_cons, mF (ρ' := [U, .tab (cN f), .dic true (dG T x.nm (.int x.ps.length)), .own ((met ++ [x.nm]).map .str), .val x.d, b])]
   show bB _ _ [U, .tab (cN f), .dic true T, .own (met.map .str), .val x.d, b] = _
   have s1 : dM (dL false 2 kx) (jE (mB (m2 dH (pT 1 kx (m1 kH (kc (.int 1)))) (kc (.int 0)))) (nO 3 (mB (m2 (gE false) kx (gv 3))))) [U, .tab (cN f), .dic true T, .own (met.map .str), .val x.d, b] = .ok false := by
    rw [c1, gn]
    rcases h with ⟨h1, h2, h3, _⟩ | h1
    ·rw [h2, decide_eq_false h3]; simp
    ·rw [decide_eq_false h1]; rfl
   have s2 : dM (dL false 2 kx) (mB (m2 lF (jO 1 kx) (mA cI (aC (m2 bF (gv 4) (kc (.int 1))) (bA))))) [U, .tab (cN f), .dic true T, .own (met.map .str), .val x.d, b] = .ok false := by
    rcases h with ⟨h1, h2, h3, h4⟩ | h1
    ·have hin : x.nm ∈ kF f := by
      cases hd : (dF f).find? fun p => decide (p.1 = x.nm) with
      | none => rw [hd] at h2; cases h2
      | some p =>
       obtain ⟨g1, g2⟩ := sA hd
       cases f with
       | none => cases g1
       | some g => exact List.mem_append_right _ (g2 ▸ List.mem_map_of_mem g1)
     have hg : jO 1 kx [U, .tab (cN f), .dic true T, .own (met.map .str), .val x.d, b] = .ok (.int x.ps.length) := yD (T := cN f) e0 rfl (by rw [bM7 hf, if_pos hin, h4])
     rw [cA i2 fun _ => cB (c2 hg el (ne_int _ _))]; simp
    ·rw [cA (y := false) i2 (fun z => by rw [decide_eq_false h1] at z; cases z)]; simp
   rw [jA s1, jA s2, cZ (mG (k := x.nm) (T := T) e0 el rfl bE)]
   show lG 3 kx [U, .tab (cN f), .dic true (dG T x.nm (.int x.ps.length)), .own (met.map .str), .val x.d, b] = _
   rw [bL1 (acc := met.map .str) (d := .str x.nm) rfl (c2 (x := x.d) (y := .int 0) rfl rfl (cQ 0 _ rfl)) (by rw [List.length_map]; omega), List.map_append]
   rfl
  have hl' := rT T x.nm (.int x.ps.length)
  have hk' : ∀ y ∈ kF f, y ∈ ks (dG T x.nm (.int x.ps.length)) := fun y hy => by
   rw [qC]
   split
   ·exact hk y hy
   ·exact List.mem_append_left _ (hk y hy)
  have ih := cD4 (U := U) hf r (dG T x.nm (.int x.ps.length)) (met ++ [x.nm]) (.val x.d) b bE (by rw [List.length_append]; simp only [List.length_cons, List.length_nil]; omega) hk'
  rw [qC] at ih
  rw [fW]
  have tw : x.nm ∈ ks T -> ((dF f).find? (fun p => decide (p.1 = x.nm))).isNone = true \/ x.nm ∈ met -> cP 4 sB ((x :: r).map Dh.d) [U, .tab (cN f), .dic true T, .own (met.map .str), a, b] = .ok (.rd (gS "twice" x.nm) T) := fun h1 h2 => by
   rw [List.map_cons]
   refine vS ?_
   show bB _ _ [U, .tab (cN f), .dic true T, .own (met.map .str), .val x.d, b] = _
   refine kY ?_
   rw [fX (by
    rw [c1, gn, decide_eq_true h1]
    rcases h2 with h2 | h2
    ·rw [h2]; rfl
    ·rw [decide_eq_true h2]; simp)]
   exact mU (T := T) (a2 rfl e0 rfl) rfl
  cases hn : (kD f met).find? fun p => decide (p.1 = x.nm) with
  | none =>
   have h2 : ((dF f).find? (fun p => decide (p.1 = x.nm))).isNone = true \/ x.nm ∈ met := by
    rw [hn] at af
    by_cases hm : x.nm ∈ met
    ·exact .inr hm
    ·rw [if_neg hm] at af; rw [<- af]; exact .inl rfl
   show (∃ T', _ = bD.ok (Fl.rd (if x.nm ∈ ks T then _ else _) T')) \/ ∃ T' met' a' b', _ /\ (if x.nm ∈ ks T then _ else _) = _
   by_cases h1 : x.nm ∈ ks T
   ·rw [if_pos h1]
    exact .inl ⟨T, tw h1 h2⟩
   ·rw [if_neg h1, rest (.inr h1)]
    rw [if_neg h1, dS1 hn] at ih
    exact ih
  | some p =>
   have hm : x.nm ∉ met := fun hm => by rw [hn, if_pos hm] at af; cases af
   rw [hn, if_neg hm] at af
   obtain ⟨g1, g2⟩ := sA af.symm
   have hin : x.nm ∈ kF f := by
    cases f with
    | none => cases g1
    | some g => exact List.mem_append_right _ (g2 ▸ List.mem_map_of_mem g1)
   have h1 := hk _ hin
   have hgI : gI f x.nm = p.2 := by unfold gI; rw [<- af]
   show (∃ T', _ = bD.ok (Fl.rd (if p.2 = x.ps.length then _ else _) T')) \/ ∃ T' met' a' b', _ /\ (if p.2 = x.ps.length then _ else _) = _
   by_cases he : p.2 = x.ps.length
   ·rw [if_pos he, if_pos h1, rest (.inl ⟨h1, by rw [<- af]; rfl, hm, by rw [hgI, he]⟩)]
    rw [if_pos h1, cD3] at ih
    exact ih
   ·rw [if_neg he]
    refine .inl ⟨T, ?_⟩
    rw [List.map_cons]
    refine vS ?_
    show bB _ _ [U, .tab (cN f), .dic true T, .own (met.map .str), .val x.d, b] = _
    rw [jA (by rw [c1, gn, <- af, decide_eq_false hm]; simp)]
    refine kY ?_
    have hg : jO 1 kx [U, .tab (cN f), .dic true T, .own (met.map .str), .val x.d, b] = .ok (.int p.2) := yD (T := cN f) e0 rfl (by rw [bM7 hf, if_pos hin, hgI])
    rw [fX (by rw [cA i2 fun _ => cB (c2 hg el (ne_int _ _)), decide_eq_true h1]; simp [he])]
    exact mU (T := T) (a2 rfl e0 rfl) rfl
end Jm
end
section
namespace Jm
open PySem PySem.Spec PyProof.Rows L2 R
variable [bN]
noncomputable abbrev sC : MS := bM (dM (mB (m2 wT (jO 1 (gv 5)) (kc (.int 0)))) (mB (m2 (gE true) (gv 5) (gv 3)))) (dQ 2 (mA bK (aC (kc (.str "lacks")) (aC (gv 5) (bA))))) (bQ)
theorem cD5 {U a : Slot} {tl T : R.Tab} {met : List Str} : ∀ (es : List (Str × Int)) (b : Slot), (∀ q ∈ es, dD tl q.1 = some (.int q.2)) -> (match es.find? fun q => decide (0 <= q.2) && !decide (q.1 ∈ met) with
 | some q => cP 5 sC (es.map fun q => .str q.1) [U, .tab tl, .dic true T, .val (dW met), a, b] = .ok (.rd (gS "lacks" q.1) T)
 | none => ∃ b', cP 5 sC (es.map fun q => .str q.1) [U, .tab tl, .dic true T, .val (dW met), a, b] = .ok (.nx [U, .tab tl, .dic true T, .val (dW met), a, b']))
 | [], b, _ => ⟨b, rfl⟩
 | q :: r, b, h => by
  have hg : jO 1 (gv 5) [U, .tab tl, .dic true T, .val (dW met), a, .val (.str q.1)] = .ok (.int q.2) := yD (T := tl) rfl rfl (h q List.mem_cons_self)
  have hc := cA (cB (c2 (ρ := [U, .tab tl, .dic true T, .val (dW met), a, .val (.str q.1)]) (m := wT) (g := kc (.int 0)) (y := .int 0) hg rfl rfl)) (fun _ => cB (c2 (ρ := [U, .tab tl, .dic true T, .val (dW met), a, .val (.str q.1)]) (f := gv 5) (g := gv 3) rfl rfl (dO9 q.1 met)))
  cases hq : (decide (0 <= q.2) && !decide (q.1 ∈ met)) with
  | true =>
   rw [List.find?_cons_of_pos (by simpa using hq)]
   show cP 5 sC (.str q.1 :: _) _ = _
   refine vS ?_
   show bM _ _ _ [U, .tab tl, .dic true T, .val (dW met), a, .val (.str q.1)] = _
   rw [fX (hc.trans (by rw [hq]))]
   exact mU (T := T) (a2 rfl rfl rfl) rfl
  | false =>
   rw [List.find?_cons_of_neg (by simpa using hq)]
   have ih := cD5 (U := U) (a := a) (T := T) (met := met) r (.val (.str q.1)) fun p hp => h p (List.mem_cons_of_mem _ hp)
   have st : cP 5 sC ((q :: r).map fun q => .str q.1) [U, .tab tl, .dic true T, .val (dW met), a, b] = cP 5 sC (r.map fun q => .str q.1) [U, .tab tl, .dic true T, .val (dW met), a, .val (.str q.1)] := by
    rw [List.map_cons, mF (ρ' := [U, .tab tl, .dic true T, .val (dW met), a, .val (.str q.1)])]
    show bM _ _ _ [U, .tab tl, .dic true T, .val (dW met), a, .val (.str q.1)] = _
    rw [kC (hc.trans (by rw [hq]))]; rfl
   rw [st]
   exact ih
noncomputable def vV : Option Fc -> List (Str × Int)
 | none => []
 | some g => g.ws.map (fun x => (x, -1)) ++ g.ds
theorem dS2 : ∀ f : Option Fc, cN f = (vV f).map fun q => (q.1, .int q.2)
 | none => rfl
 | some g => by
  show nY g = List.map _ (g.ws.map (fun x => (x, (-1 : Int))) ++ g.ds)
  unfold nY wA
  rw [List.map_append, List.map_map]; rfl
theorem cD6 : ∀ {l : List (Str × Int)}, (l.map (·.1)).Nodup -> ∀ {p q : Str × Int}, p ∈ l -> q ∈ l -> p.1 = q.1 -> p = q
 | [], _, _, _, h, _, _ => by cases h
 | x :: r, hn, p, q, hp, hq, e => by
  rw [List.map_cons, List.nodup_cons] at hn
  rcases List.mem_cons.mp hp with z1 | h1
  ·rcases List.mem_cons.mp hq with z2 | h2
   ·rw [z1, z2]
   ·exact absurd (by rw [<- z1, e]; exact List.mem_map_of_mem h2) hn.1
  ·rcases List.mem_cons.mp hq with z2 | h2
   ·exact absurd (by rw [<- z2, <- e]; exact List.mem_map_of_mem h1) hn.1
   ·exact cD6 hn.2 h1 h2 e
theorem dS3 {f : Option Fc} (hf : ∀ g, f = some g -> g.ok) : ∀ q ∈ vV f, dD (cN f) q.1 = some (.int q.2) := fun q hq => by
 cases f with
 | none => cases hq
 | some g =>
  have hnd := (hf g rfl).nd
  unfold Fc.ks at hnd
  rw [List.nodup_append] at hnd
  show dD (nY g) q.1 = _
  unfold nY
  rw [bM5, bM6]
  rcases List.mem_append.mp hq with hq | hq
  ·obtain ⟨x, hx, rfl⟩ := List.mem_map.mp hq
   rw [if_pos hx]
  ·rw [if_neg fun hw => hnd.2.2 _ hw _ (List.mem_map_of_mem hq) rfl]
   show dD (wA g.ds) q.1 = _
   rw [bC9]
   obtain ⟨p, hp⟩ : ∃ p, (g.ds.find? fun p => decide (p.1 = q.1)) = some p := by
    cases hd : g.ds.find? fun p => decide (p.1 = q.1) with
    | none => exact absurd (List.mem_map_of_mem hq) (cD2 hd)
    | some p => exact ⟨p, rfl⟩
   obtain ⟨h1, h2⟩ := sA hp
   have e : p = q := by
    exact cD6 hnd.2.1 h1 hq h2
   rw [hp, e]; rfl
theorem dS4 {f : Option Fc} (hf : ∀ g, f = some g -> g.ok) (met : List Str) : ((vV f).find? fun q => decide (0 <= q.2) && !decide (q.1 ∈ met)) = (kD f met).head? := by
 cases f with
 | none => rfl
 | some g =>
  show List.find? _ (g.ws.map (fun x => (x, (-1 : Int))) ++ g.ds) = (List.filter _ g.ds).head?
  rw [List.find?_append, List.find?_eq_none.mpr (fun q hq => by obtain ⟨x, _, rfl⟩ := List.mem_map.mp hq; simp), List.head?_filter]
  show List.find? _ g.ds = _
  have hd := (hf g rfl).dc
  generalize g.ds = l at hd
  induction l with
  | nil => rfl
  | cons p r ih =>
   have h0 := (hd p List.mem_cons_self).1
   have e : (decide (0 <= p.2) && !decide (p.1 ∈ met)) = !decide (p.1 ∈ met) := by rw [decide_eq_true h0]; rfl
   rw [List.find?_cons, List.find?_cons, e, ih fun q hq => hd q (List.mem_cons_of_mem _ hq)]
theorem dS5 (C : CT) (u : Un) {f : Option Fc} (hf : ∀ g, f = some g -> g.ok) {T : R.Tab} (hl : T.length + u.ds.length <= 1000) (hk : ∀ x ∈ kF f, x ∈ ks T) : ∃ T', xW C [.val u.d, .tab (cN f)] T = .ok (fW (dF f) u.ds (ks T), T') := by
 have a0 : kD f [] = dF f := by
  unfold kD
  rw [List.filter_eq_self]; intro p _; simp
 show ∃ T', ((bL0 C) [.val u.d, .tab (cN f), .dic true T, .no, .no, .no]).bind (lI 2) = _
 unfold bL0
 rw [cZ (ρ' := [.val u.d, .tab (cN f), .dic true T, .own [], .no, .no]) rfl]
 have e1 : fA 4 (bV (m2 bF (gv 0) (kc (.int 3)))) sB [.val u.d, .tab (cN f), .dic true T, .own [], .no, .no] = cP 4 sB (u.ds.map Dh.d) [.val u.d, .tab (cN f), .dic true T, .own [], .no, .no] := lJ (gZ (c2 (x := u.d) (y := .int 3) rfl rfl (cQ 3 _ rfl)))
 have h := cD4 (U := .val u.d) hf u.ds T [] .no .no hl (by simp only [List.length_nil]; omega) hk
 rw [a0] at h
 rcases h with ⟨T', h⟩ | ⟨T', met, a', b', h1, h2⟩
 ·exact ⟨T', by rw [kY (e1.trans h)]; rfl⟩
 ·rw [cZ (e1.trans h1), bL2 rfl, h2]
  show ∃ T'', (bB _ _ [.val u.d, .tab (cN f), .dic true T', .val (dW met), a', b']).bind (lI 2) = _
  have hkd : xJ 1 [.val u.d, .tab (cN f), .dic true T', .val (dW met), a', b'] = .ok ((vV f).map fun q => .str q.1) := by
   show mQ (cN f) = _
   unfold mQ
   rw [if_pos, dS2, List.map_map]
   ·rfl
   ·rw [List.all_eq_true]
    intro q hq
    have hq' : q.1 ∈ ks (cN f) := List.mem_map_of_mem hq
    rw [bM3] at hq'
    cases f with
    | none => cases hq'
    | some g =>
     have := (hf g rfl).ln _ hq'
     exact decide_eq_true bE
  have e2 : fA 5 (xJ 1) sC [.val u.d, .tab (cN f), .dic true T', .val (dW met), a', b'] = cP 5 sC ((vV f).map fun q => .str q.1) [.val u.d, .tab (cN f), .dic true T', .val (dW met), a', b'] := lJ hkd
  have hL := cD5 (U := .val u.d) (a := a') (T := T') (met := met) (vV f) b' (dS3 hf)
  rw [dS4 hf] at hL
  revert hL
  cases kD f met with
  | nil =>
   rintro ⟨b'', h3⟩
   refine ⟨T', ?_⟩
   rw [cZ (e2.trans h3)]
   exact xY (T := T') rfl rfl
  | cons q r =>
   intro h3
   exact ⟨T', by rw [kY (e2.trans h3)]; rfl⟩
theorem cD7 {i j : Nat} {l : Nat} {fk fv : ME} (hij : l ≠ i) (hjj : l ≠ j) (h12 : i ≠ j) (hk : ∀ (ρ : bJ) (p : Str × Int), i < ρ.length -> j < ρ.length -> fk ((ρ.set i (.val (.str p.1))).set j (.val (.int p.2))) = .ok (.str p.1)) (hv : ∀ (ρ : bJ) (p : Str × Int), i < ρ.length -> j < ρ.length -> fv ((ρ.set i (.val (.str p.1))).set j (.val (.int p.2))) = .ok (.int p.2)) :
 ∀ (xs : List (Str × Int)) (ρ : bJ) (p : Bool) (T : R.Tab), ρ[l]? = some (.dic p T) -> i < ρ.length -> j < ρ.length -> (xs.map (·.1)).Nodup -> (∀ x ∈ xs, x.1 ∉ ks T) -> T.length + xs.length <= 1000 ->
   ∃ a b, dR i j (fH l fk fv) (xs.map dP) ρ = .ok (.nx (((ρ.set l (.dic p (T ++ wA xs))).set i a).set j b))
 | [], ρ, p, T, h, hi, hj, _, _, _ => by
  refine ⟨ρ[i]'hi, ρ[j]'hj, ?_⟩
  have e1 : ρ.set l (.dic p (T ++ wA [])) = ρ := by
   have : T ++ wA [] = T := List.append_nil T
   rw [this]
   obtain ⟨h1, h2⟩ := List.getElem?_eq_some_iff.mp h
   rw [<- h2]; exact List.set_getElem_self h1
  show bD.ok (Fl.nx ρ) = _
  rw [e1, List.set_getElem_self, List.set_getElem_self]
 | x :: r, ρ, p, T, h, hi, hj, hd, hf, hl => by
  simp only [List.length_cons] at hl
  rw [List.map_cons] at hd
  have hl' : l < ρ.length := (List.getElem?_eq_some_iff.mp h).1
  have hx := hf x List.mem_cons_self
  have h1 : ((ρ.set i (.val (.str x.1))).set j (.val (.int x.2)))[l]? = some (.dic p T) := by rw [List.getElem?_set_ne (Ne.symm hjj), List.getElem?_set_ne (Ne.symm hij)]; exact h
  have st := mG (i := l) (f := fk) (h := fv) (ρ := (ρ.set i (.val (.str x.1))).set j (.val (.int x.2))) (p := p) (T := T) (k := x.1) (v := .int x.2) (hk ρ x hi hj) (hv ρ x hi hj) h1 bE
  rw [bC7 _ hx] at st
  obtain ⟨a, b, ha⟩ := cD7 hij hjj h12 hk hv r (((ρ.set i (.val (.str x.1))).set j (.val (.int x.2))).set l (.dic p (T ++ [(x.1, .int x.2)]))) p (T ++ [(x.1, .int x.2)]) (List.getElem?_set_self (by rw [List.length_set, List.length_set]; exact hl')) (by simp only [List.length_set]; exact hi) (by simp only [List.length_set]; exact hj) (List.nodup_cons.mp hd).2 (fun y hy hm => by
   rw [ks, List.map_append, List.mem_append] at hm
   rcases hm with hm | hm
   ·exact hf y (List.mem_cons_of_mem _ hy) hm
   ·have e : y.1 = x.1 := by simpa using hm
    exact (List.nodup_cons.mp hd).1 (by rw [<- e]; exact List.mem_map_of_mem hy)) (by rw [List.length_append]; simp only [List.length_cons, List.length_nil]; omega)
  refine ⟨a, b, ?_⟩
  rw [List.map_cons, rN st, ha, List.set_set, List.append_assoc]
  have e2 : [(x.1, D.int x.2)] ++ wA r = wA (x :: r) := rfl
  rw [e2]
  congr 2
  rw [List.set_comm _ _ hjj.symm, List.set_comm _ _ h12.symm, List.set_set, List.set_comm _ _ hij.symm, List.set_set]
theorem cD8 {un : Str} {fs : List (Option Fc)} {kk : List Str} : ∀ {tk : List (Str × Str)} {ks : List Str}, jH un fs tk ks = .go kk -> ∀ x ∈ ks, x ∈ kk
 | [], _, h => by cases h; exact fun _ h => h
 | (s, n) :: r, ks, h => by
  rw [jH] at h
  split at h
  ·cases h
  ·split at h
   ·split at h
    ·cases h
    ·exact fun x hx => cD8 h x (List.mem_append_left _ hx)
   ·cases h
theorem cD9 {kk : List Str} : ∀ {ws ks : List Str}, hU ws ks = .go kk -> ∀ x ∈ ks, x ∈ kk
 | [], _, h => by cases h; exact fun _ h => h
 | x :: r, ks, h => by
  rw [hU] at h
  split at h
  ·cases h
  ·exact fun y hy => cD9 h y (List.mem_append_left _ hy)
theorem dS6 {C C' : CT} (u : Un) (hu : u.ok) {fs : List (Option Fc)} (hl1 : fs.length <= 1000) (hfs : ∀ g, some g ∈ fs -> g.ok) {f : Option Fc} (hf : ∀ g, f = some g -> g.ok) :
 cV 3 12 (xX C C') [u.d, .lst (fs.map oF), oF f] = .ok (mZ u fs f) := by
 have l1 := hu.lt
 have l2 := hu.lw
 have l3 := hu.ld
 have l0 := dR5 hf
 show ((xX C C') [.val u.d, .val (.lst (fs.map oF)), .val (oF f), .no, .no, .no, .no, .no, .no, .no, .no, .no]).bind bU = _
 unfold xX
 rw [cZ (ρ' := [.val u.d, .val (.lst (fs.map oF)), .val (oF f), .dic false [], .no, .no, .no, .no, .no, .no, .no, .no]) rfl]
 obtain ⟨s4, s5, s6, told⟩ : ∃ s4 s5 s6, bM (mB (m2 (dO true) (gv 2) (kc .non))) (bB (fA 4 (bV (m2 bF (gv 2) (kc (.int 1)))) (fH 3 (gv 4) (m1 kH (kc (.int 1))))) (kM 5 6 (bV (m2 bF (gv 2) (kc (.int 2)))) (fH 3 (gv 5) (gv 6)))) (bQ) [.val u.d, .val (.lst (fs.map oF)), .val (oF f), .dic false [], .no, .no, .no, .no, .no, .no, .no, .no] =
  .ok (.nx [.val u.d, .val (.lst (fs.map oF)), .val (oF f), .dic false (cN f), s4, s5, s6, .no, .no, .no, .no, .no]) := by
  cases f with
  | none => exact ⟨.no, .no, .no, rfl⟩
  | some g =>
   have h := hf g rfl
   have h1 := h.lw
   have h2 := h.ld
   have hnd := h.nd
   unfold Fc.ks at hnd
   rw [List.nodup_append] at hnd
   obtain ⟨a, ha⟩ := bC8 (i := 4) (j := 3) (fk := gv 4) (fv := m1 kH (kc (.int 1))) (key := id) (val := fun _ => .int (-1)) (dat := D.str) (by decide) (fun ρ x hi => yE hi) (fun _ _ _ => rfl) g.ws [.val u.d, .val (.lst (fs.map oF)), .val g.d, .dic false [], .no, .no, .no, .no, .no, .no, .no, .no] false [] rfl (by show 4 < 12; decide) (by rw [List.map_id]; exact hnd.1) (fun x _ => by simp) (by simp only [List.length_nil]; omega)
   obtain ⟨b, c, hb⟩ := cD7 (i := 5) (j := 6) (l := 3) (fk := gv 5) (fv := gv 6) (by decide) (by decide) (by decide) (fun ρ p hi hj => by
    unfold gv
    rw [List.getElem?_set_ne (by decide), List.getElem?_set_self hi]) (fun ρ p hi hj => yE (by rw [List.length_set]; exact hj)) g.ds [.val u.d, .val (.lst (fs.map oF)), .val g.d, .dic false (g.ws.map fun x => (x, .int (-1))), a, .no, .no, .no, .no, .no, .no, .no] false (g.ws.map fun x => (x, .int (-1))) rfl (by show 5 < 12; decide) (by show 6 < 12; decide) hnd.2.1 (fun x hx hm => by
    have hm' : x.1 ∈ g.ws := by
     rw [ks, List.map_map] at hm
     obtain ⟨y, hy, e⟩ := List.mem_map.mp hm
     have e' : y = x.1 := e
     exact e' ▸ hy
    exact hnd.2.2 _ hm' _ (List.mem_map_of_mem hx) rfl) (by rw [List.length_map]; omega)
   refine ⟨a, b, c, ?_⟩
   rw [fX (cB (c2 (x := g.d) (y := .non) rfl rfl rfl)), cZ (ρ' := [.val u.d, .val (.lst (fs.map oF)), .val g.d, .dic false (g.ws.map fun x => (x, .int (-1))), a, .no, .no, .no, .no, .no, .no, .no]) (by rw [lJ (gZ (xs := g.ws.map .str) (c2 (x := g.d) (y := .int 1) rfl rfl (cQ 1 _ rfl)))]; exact ha),
    vP (gZ (xs := g.ds.map dP) (c2 (x := g.d) (y := .int 2) rfl rfl (cQ 2 _ rfl)))]
   exact hb
 rw [cZ told, cZ (ρ' := [.val u.d, .val (.lst (fs.map oF)), .val (oF f), .dic false (cN f), s4, s5, s6, .dic false (cN f), .no, .no, .no, .no]) rfl,
  cZ (ρ' := [.val u.d, .val (.lst (fs.map oF)), .val (oF f), .tab (cN f), s4, s5, s6, .dic false (cN f), .no, .no, .no, .no]) rfl]
 have tk := cD0 u hl1 hfs (f := .val (oF f)) (tl := .tab (cN f)) (s4 := s4) (s5 := s5) (s6 := s6) u.tk (cN f) .no .no .no .no bE
 have e1 : kM 8 9 (bV (m2 bF (gv 0) (kc (.int 1)))) nZ [.val u.d, .val (.lst (fs.map oF)), .val (oF f), .tab (cN f), s4, s5, s6, .dic false (cN f), .no, .no, .no, .no] = dR 8 9 nZ (u.tk.map p2) [.val u.d, .val (.lst (fs.map oF)), .val (oF f), .tab (cN f), s4, s5, s6, .dic false (cN f), .no, .no, .no, .no] := vP (gZ (c2 (x := u.d) (y := .int 1) rfl rfl (cQ 1 _ rfl)))
 rw [bM3] at tk
 unfold mZ
 cases ha : jH u.nm fs u.tk (kF f) with
 | st d =>
  rw [ha] at tk
  rw [vT (e1.trans tk)]; rfl
 | go kk =>
  rw [ha] at tk
  obtain ⟨T1, a, b, c, d, h1, h2, h3⟩ := tk
  rw [cZ (e1.trans h1)]
  have wd := cD1 (u := .val u.d) (F := .val (.lst (fs.map oF))) (f := .val (oF f)) (tl := .tab (cN f)) (s4 := s4) (s5 := s5) (s6 := s6) (s8 := a) (s10 := c) (s11 := d) u.ws T1 b bE
  have e2 : fA 9 (bV (m2 bF (gv 0) (kc (.int 2)))) rZ [.val u.d, .val (.lst (fs.map oF)), .val (oF f), .tab (cN f), s4, s5, s6, .dic false T1, a, b, c, d] = cP 9 rZ (u.ws.map .str) [.val u.d, .val (.lst (fs.map oF)), .val (oF f), .tab (cN f), s4, s5, s6, .dic false T1, a, b, c, d] := lJ (gZ (c2 (x := u.d) (y := .int 2) rfl rfl (cQ 2 _ rfl)))
  rw [h2] at wd
  have hkk : ∀ x ∈ kF f, x ∈ kk := cD8 ha
  show _ = bD.ok (match hU u.ws kk with
   | .st d => d
   | .go ks => fW (dF f) u.ds ks)
  cases hb : hU u.ws kk with
  | st x =>
   rw [hb] at wd
   rw [vT (e2.trans wd)]; rfl
  | go kk2 =>
   rw [hb] at wd
   obtain ⟨T2, b', g1, g2, g3⟩ := wd
   rw [cZ (e2.trans g1)]
   have hk2 := cD9 hb
   obtain ⟨T3, k1⟩ := dS5 C u hf (T := T2) bE (fun x hx => by rw [g2]; exact hk2 x (hkk x hx))
   rw [g2] at k1
   show ((((xW C [.val u.d, .tab (cN f)] T2)).bind fun r => bD.ok (Fl.rt r.1)).bind bU) = _
   rw [k1]; rfl
end Jm
end
section
namespace Jm
open PySem PySem.Spec PyProof.Rows L2 R
variable [bN]
noncomputable def sd (z : Str) (un k : Int) : Str := nm (z ++ ⟨#[ch un]⟩) "z" k
theorem vW {z : Str} (hz : z.length <= 6) (un k : Int) : (sd z un k).length <= 9 := dP6 (by rw [nF, mW]; omega) pA k
theorem cE0 {z : Str} {un j k : Int} (hj : 0 <= j /\ j < 26) (hk : 0 <= k /\ k < 26) (e : sd z un j = sd z un k) : j = k := cB1 hj hk e
theorem dS7 {z : Str} {i j k : Int} (hi : 0 <= i /\ i < 26) (hj : 0 <= j /\ j < 26) (e : sd z i k = sd z j k) : i = j := by
 have f : ∀ a : Int, sd z a k = nm z (⟨#[ch k]⟩ ++ "z") a := fun a => by
  unfold sd nm
  show (⟨((z.cps ++ #[ch a]) ++ #[ch k]) ++ ("z" : Str).cps⟩ : Str) = ⟨(z.cps ++ #[ch a]) ++ (#[ch k] ++ ("z" : Str).cps)⟩
  rw [Array.append_assoc]
 rw [f, f] at e
 exact cB1 hi hj e
theorem cE1 {k : Int} (h0 : 0 <= k) (h1 : k < 26) : bF (.str kA) (.int k) = .ok (.str ⟨#[ch k]⟩) := by
 have mk : k % 26 = k := Int.emod_eq_of_lt h0 h1
 have hlt : k.toNat < kA.cps.toList.length := by rw [cA9]; omega
 have hc : gG kA.cps.toList k = some (ch k) := bL6 h0 (by unfold ch; rw [mk, List.getElem?_eq_getElem hlt, List.getD_eq_getElem?_getD, List.getElem?_eq_getElem hlt]; rfl)
 simp only [bF, hc]
theorem dS8 (st : Int) : ∃ z : Str, z.length <= 6 /\ ∀ (n : Nat) (un k : Int), 0 <= un -> un < 26 -> 0 <= k -> k < 26 -> Ph (n + 4) .q11 [.int st, .int un, .int k] = .ok (.str (sd z un k)) := by
 obtain ⟨z, e0, hz⟩ := dP3 0 st
 have hc := bG9 z none (some 5)
 refine ⟨nH z none (some 5), by omega, fun n un k u0 u1 k0 k1 => ?_⟩
 have e : Ph (n + 3) .q5 [.int st] = .ok (.str z) := e0
 show ((bB3 (Ph (n + 3)) (Ph (n + 1))) [.val (.int st), .val (.int un), .val (.int k), .no]).bind bU = _
 unfold bB3
 rw [cX (d := .str kA) rfl]
 show (cC _ [.val (.int st), .val (.int un), .val (.int k), .val (.str kA)]).bind bU = _
 have h1 : gQ (mA (Ph (n + 3) .q5) (aC (gv 0) (bA))) (gU) (gW (kc (.int 5))) [.val (.int st), .val (.int un), .val (.int k), .val (.str kA)] = .ok (.str (nH z none (some 5))) := by
  unfold gQ
  rw [a1 rfl e]; rfl
 refine nR (c2 (c2 (c2 h1 (c2 rfl rfl (cE1 u0 u1)) (add_str ?_)) (c2 rfl rfl (cE1 k0 k1)) (add_str ?_)) rfl (add_str ?_))
 ·rw [mW]; omega
 ·rw [nF, mW, mW]; omega
 ·rw [nF, nF, mW, mW]
  have : ("z" : Str).length = 1 := by decide +kernel
  omega
theorem nA {α : Type} {g : ME} {rest : bJ} {dat val : α -> D} : ∀ xs : List α, (∀ x ∈ xs, g (.val (dat x) :: rest) = .ok (val x)) -> fS (fun _ => .ok true) g rest (xs.map dat) = .ok (xs.map val)
 | [], _ => rfl
 | x :: r, h => by
  rw [List.map_cons, fS, nA r fun y hy => h y (List.mem_cons_of_mem _ hy)]
  show ((g (.val (dat x) :: rest)).bind fun y => (bD.ok (r.map val)).bind fun ys => .ok (y :: ys)) = _
  rw [h x List.mem_cons_self]; rfl
theorem sD (m : Nat) : upTo 0 m = (List.range m).map fun j : Nat => D.int (0 + (j : Int)) := rfl
theorem kP {m j : Nat} (h : j ∈ List.range m) : j < m := List.mem_range.mp h
theorem cE2 {z : Str} {un : Int} (s m : Nat) (h : s + m <= 26) : ((List.range m).map fun j : Nat => sd z un ((s : Int) + (0 + (j : Int)))).Nodup := by
 rw [List.nodup_iff_pairwise_ne, List.pairwise_map]
 have := List.nodup_range (n := m)
 rw [List.nodup_iff_pairwise_ne] at this
 refine List.Pairwise.imp_of_mem (fun {a b} ha hb hab e => hab ?_) this
 have la := kP ha
 have lb := kP hb
 have := cE0 bE bE e
 omega
theorem dS9 (n : Nat) (ns : List Int) {z : Str} (hz : z.length <= 6) (hs : ∀ (n : Nat) (un k : Int), 0 <= un -> un < 26 -> 0 <= k -> k < 26 -> Ph (n + 4) .q11 [.int (cR ns 0), .int un, .int k] = .ok (.str (sd z un k))) (i : Nat) (hi : i < 4) :
 ∃ f : Option Fc, Ph (n + 6) .q12 [.lst (ns.map .int), .int i] = .ok (oF f) /\ ∀ g, f = some g -> g.ok /\ g.nm = sd z i 25 := by
 show ∃ f : Option Fc, ((bB4 (Ph (n + 5)) (Ph (n + 3))) [.val (.lst (ns.map .int)), .val (.int i), .no, .no, .no, .no]).bind bU = .ok (oF f) /\ _
 unfold bB4
 have hm1 := vQ (n + 1) ns (1 + i) bE
 generalize cR ns (1 + i) = m at hm1
 rw [cX (a2 rfl rfl (vQ (n + 1) ns 0 bE))]
 show ∃ f : Option Fc, (bB _ _ [.val (.lst (ns.map .int)), .val (.int i), .val (.int (cR ns 0)), .no, .no, .no]).bind bU = .ok (oF f) /\ _
 rw [cX (a2 rfl (c2 rfl rfl rfl) hm1)]
 show ∃ f : Option Fc, (bB _ _ [.val (.lst (ns.map .int)), .val (.int i), .val (.int (cR ns 0)), .val (.int m), .no, .no]).bind bU = .ok (oF f) /\ _
 cases h5 : (m % 6 == 5) with
 | true =>
  refine ⟨none, ?_, fun g hg => by cases hg⟩
  rw [rK ((lU (v := m % 6) 5 (jB 6 (by decide) rfl)).trans (by rw [h5]))]
  exact cA4 rfl
 | false =>
  rw [jA ((lU (v := m % 6) 5 (jB 6 (by decide) rfl)).trans (by rw [h5]))]
  have w0 : 0 <= m % 4 := Int.emod_nonneg _ (by decide)
  have w1 : m % 4 < 4 := Int.emod_lt_of_pos _ (by decide)
  have d0 : 0 <= m / 6 % 3 := Int.emod_nonneg _ (by decide)
  have d1 : m / 6 % 3 < 3 := Int.emod_lt_of_pos _ (by decide)
  have cw : dB [2, 1] (fM (m2 bP (gv 3) (kc (.int 4)))) (fun _ => .ok true) (mA (Ph (n + 5) .q11) (aC (gv 1) (aC (gv 2) (aC (gv 0) (bA))))) [.val (.lst (ns.map .int)), .val (.int i), .val (.int (cR ns 0)), .val (.int m), .no, .no] = .ok (.lst ((List.range (m % 4).toNat).map fun j : Nat => .str (sd z i ((0 : Nat) + (0 + (j : Int)))))) :=
   gR (mJ (jB 4 (by decide) rfl) w0 bE) (by rw [kB]; omega) (by
    rw [sD]
    refine nA _ fun j hj => a3 rfl rfl rfl ?_
    have := kP hj
    rw [hs (n + 1) i (0 + (j : Int)) bE bE bE bE]
    simp)
  unfold gP
  rw [cX cw]
  show ∃ f : Option Fc, (bB (bI 5 _) _ [.val (.lst (ns.map .int)), .val (.int i), .val (.int (cR ns 0)), .val (.int m), .val (.lst ((List.range (m % 4).toNat).map fun j : Nat => .str (sd z i ((0 : Nat) + (0 + (j : Int)))))), .no]).bind bU = .ok (oF f) /\ _
  have hd : ∀ j : Nat, ∃ c : Int, 0 <= c /\ c <= 3 /\ (j < 3 -> mA bK (aC (mA (Ph (n + 5) .q11) (aC (gv 1) (aC (gv 2) (aC (m2 bO (kc (.int 10)) (gv 0)) (bA))))) (aC (m2 bP (mA (Ph (n + 5) .q4) (aC (gv 3) (aC (gv 0) (bA)))) (kc (.int 4))) (bA))) [.val (.int (0 + (j : Int))), .val (.int (cR ns 0)), .val (.int i), .val (.int m)] = .ok (dP (sd z i ((10 : Nat) + (0 + (j : Int))), c))) := fun j => by
   by_cases hj : j < 3
   ·obtain ⟨v, hv⟩ := vR (n + 2) m (0 + (j : Int)) (nT bE bE)
    have v0 : 0 <= v % 4 := Int.emod_nonneg _ (by decide)
    have v1 : v % 4 < 4 := Int.emod_lt_of_pos _ (by decide)
    exact ⟨v % 4, v0, by omega, fun _ => a2 (a3 rfl rfl (c2 rfl rfl rfl) (hs (n + 1) i _ bE bE bE bE)) (jB 4 (by decide) (a2 rfl rfl hv)) rfl⟩
   ·exact ⟨0, by omega, by omega, fun z => absurd z hj⟩
  have cd : dB [2, 1, 3] (fM (m2 bP (m2 cE (gv 3) (kc (.int 6))) (kc (.int 3)))) (fun _ => .ok true) (mA bK (aC (mA (Ph (n + 5) .q11) (aC (gv 1) (aC (gv 2) (aC (m2 bO (kc (.int 10)) (gv 0)) (bA))))) (aC (m2 bP (mA (Ph (n + 5) .q4) (aC (gv 3) (aC (gv 0) (bA)))) (kc (.int 4))) (bA)))) [.val (.lst (ns.map .int)), .val (.int i), .val (.int (cR ns 0)), .val (.int m), .val (.lst ((List.range (m % 4).toNat).map fun j : Nat => .str (sd z i ((0 : Nat) + (0 + (j : Int)))))), .no] = .ok (.lst ((List.range (m / 6 % 3).toNat).map fun j : Nat => dP (sd z i ((10 : Nat) + (0 + (j : Int))), (hd j).choose))) :=
   gR (mJ (jB 3 (by decide) (hJ 6 (by decide) rfl)) d0 bE) (by rw [kB]; omega) (by
    rw [sD]
    refine nA _ fun j hj => ?_
    exact (hd j).choose_spec.2.2 (by have := kP hj; omega))
  rw [cX cd]
  let g : Fc := ⟨sd z i 25, (List.range (m % 4).toNat).map fun j : Nat => sd z i ((0 : Nat) + (0 + (j : Int))), (List.range (m / 6 % 3).toNat).map fun j : Nat => (sd z i ((10 : Nat) + (0 + (j : Int))), (hd j).choose)⟩
  refine ⟨some g, ?_, fun g' hg => ?_⟩
  ·refine nR (a3 (a3 rfl rfl rfl (hs (n + 1) i 25 bE bE bE bE)) (a1 rfl rfl) (a1 rfl rfl) ?_)
   show bD.ok _ = bD.ok g.d
   congr 2
   show [D.str (sd z i 25), D.tup _, D.tup _] = [D.str (sd z i 25), D.tup (g.ws.map .str), D.tup (g.ds.map dP)]
   rw [List.map_map, List.map_map]; rfl
  ·cases hg
   refine ⟨⟨?_, fun x hx => ?_, vW hz _ _, ?_, ?_, fun p hp => ?_⟩, rfl⟩
   ·show ((List.range (m % 4).toNat).map (fun j : Nat => sd z i ((0 : Nat) + (0 + (j : Int)))) ++ List.map (·.1) ((List.range (m / 6 % 3).toNat).map fun j : Nat => (sd z i ((10 : Nat) + (0 + (j : Int))), (hd j).choose))).Nodup
    rw [List.map_map, List.nodup_append]
    refine ⟨cE2 0 _ bE, cE2 10 _ bE, fun a ha b hb e => ?_⟩
    obtain ⟨j, hj, rfl⟩ := List.mem_map.mp ha
    obtain ⟨k, hk, rfl⟩ := List.mem_map.mp hb
    have lj := kP hj
    have lk := kP hk
    have := cE0 bE bE e
    omega
   ·rcases List.mem_append.mp hx with hx | hx
    ·obtain ⟨j, _, rfl⟩ := List.mem_map.mp hx; exact vW hz _ _
    ·obtain ⟨p, hp, rfl⟩ := List.mem_map.mp hx
     obtain ⟨j, _, rfl⟩ := List.mem_map.mp hp; exact vW hz _ _
   ·show (List.map _ _).length <= 3
    rw [List.length_map, List.length_range]; omega
   ·show (List.map _ _).length <= 2
    rw [List.length_map, List.length_range]; omega
   ·obtain ⟨j, _, rfl⟩ := List.mem_map.mp hp
    exact ⟨(hd j).choose_spec.1, (hd j).choose_spec.2.1⟩
end Jm
end
section
namespace Jm
open PySem PySem.Spec PyProof.Rows L2 R
variable [bN]
noncomputable abbrev cE3 (C : CT) : MS := bB (bI 5 (m2 bF (gv 0) (m2 bP (mA (C .q4) (aC (gv 2) (aC (gv 4) (bA)))) (mA cI (aC (gv 0) (bA)))))) (bM (dM (mB (m2 (dO true) (gv 5) (kc .non))) (mB (m2 lF (m2 bF (gv 5) (kc (.int 0))) (gv 1)))) (bB (bI 6 (m2 bO (mA jW (aC (m2 bF (gv 5) (kc (.int 1))) (bA))) (dB [] (bV (m2 bF (gv 5) (kc (.int 2)))) (dJ (fun _ => .ok true)) (dJ (gv 0))))) (bM (mB (m2 kI (mA cI (aC (gv 6) (bA))) (kc (.int 0)))) (bB (bI 7 (mA bK (aC (m2 bF (gv 5) (kc (.int 0))) (aC (m2 bF (gv 6) (m2 bP (m2 cE (mA (C .q4) (aC (gv 2) (aC (gv 4) (bA)))) (kc (.int 7))) (mA cI (aC (gv 6) (bA))))) (bA))))) (bM (nO 3 (mB (m2 (gE true) (gv 7) (gv 3)))) (lG 3 (gv 7)) (bQ))) (bQ))) (bQ))
theorem qG {v k : Int} (hk : 0 < k) : bP (.int v) (.int k) = .ok (.int (v % k)) := by simp [bP, dI, hk]
theorem dT0 (tk : List (Str × Str)) : depL (tk.map p2) <= 1 := yF fun x hx => by
 obtain ⟨p, _, rfl⟩ := List.mem_map.mp hx
 simp [gD, depL]
theorem dT1 (g : Fc) (hg : g.ok) {ρ : bJ} (h : gv 5 ρ = .ok g.d) (hc : fR [] ρ = []) : m2 bO (mA jW (aC (m2 bF (gv 5) (kc (.int 1))) (bA))) (dB [] (bV (m2 bF (gv 5) (kc (.int 2)))) (dJ (fun _ => .ok true)) (dJ (gv 0))) ρ = .ok (dW g.ks) := by
 have h1 := hg.lw
 have h2 := hg.ld
 have e1 : mA jW (aC (m2 bF (gv 5) (kc (.int 1))) (bA)) ρ = .ok (.lst (g.ws.map .str)) := a1 (c2 (x := g.d) (y := .int 1) h rfl (cQ 1 _ rfl)) rfl
 have e2 : dB [] (bV (m2 bF (gv 5) (kc (.int 2)))) (dJ (fun _ => .ok true)) (dJ (gv 0)) ρ = .ok (.lst (g.ds.map fun p => .str p.1)) := gR (gZ (xs := g.ds.map dP) (c2 (x := g.d) (y := .int 2) h rfl (cQ 2 _ rfl))) (by rw [List.length_map]; omega) (by
  rw [hc]
  have := nX (p := dJ (fun _ => .ok true)) (g := dJ (gv 0)) (rest := []) (dat := dP) (val := fun p : Str × Int => .str p.1) (q := fun _ => true) (fun _ => rfl) (fun _ _ => rfl) g.ds
  rw [List.filter_eq_self.mpr fun _ _ => rfl] at this
  exact this)
 have e3 := lK (a := g.ws.map .str) (b := g.ds.map fun p => .str p.1) (by rw [List.length_map, List.length_map]; omega)
 refine c2 e1 e2 (e3.trans ?_)
 show _ = bD.ok (D.lst ((g.ws ++ g.ds.map (·.1)).map .str))
 rw [List.map_append, List.map_map]; rfl
theorem dT2 {C : CT} (hdr : ∀ (nb k : Int), gC k = true -> ∃ v : Int, C .q4 [.int nb, .int k] = .ok (.int v)) {fs : List (Option Fc)} (h0 : 0 < fs.length) (hfs : ∀ g, some g ∈ fs -> g.ok) (nm : Str) (nb k : Int) (hk : gC k = true) (tk : List (Str × Str)) (hl : tk.length <= 1000) (b c d : Slot) :
 ∃ (tk' : List (Str × Str)) (b' c' d' : Slot), cE3 C [.val (.lst (fs.map oF)), .val (.str nm), .val (.int nb), .own (tk.map p2), .val (.int k), b, c, d] = .ok (.nx [.val (.lst (fs.map oF)), .val (.str nm), .val (.int nb), .own (tk'.map p2), .val (.int k), b', c', d']) /\ tk'.length <= tk.length + 1 := by
 obtain ⟨v, hv⟩ := hdr nb k hk
 have hlen : (fs.map oF).length = fs.length := List.length_map ..
 obtain ⟨x, ex, mx⟩ := nU (xs := fs.map oF) (i := v) (by rw [hlen]; exact h0)
 obtain ⟨f, hf, rfl⟩ := List.mem_map.mp mx
 have s1 : m2 bF (gv 0) (m2 bP (mA (C .q4) (aC (gv 2) (aC (gv 4) (bA)))) (mA cI (aC (gv 0) (bA)))) [.val (.lst (fs.map oF)), .val (.str nm), .val (.int nb), .own (tk.map p2), .val (.int k), b, c, d] = .ok (oF f) := by
  refine c2 (y := .int (v % ((fs.map oF).length : Int))) rfl (c2 (a2 rfl rfl hv) (a1 rfl rfl) ?_) (by simp only [bF, ex])
  exact qG (by rw [hlen]; omega)
 show ∃ (tk' : List (Str × Str)) (b' c' d' : Slot), bB (bI 5 _) _ [.val (.lst (fs.map oF)), .val (.str nm), .val (.int nb), .own (tk.map p2), .val (.int k), b, c, d] = _ /\ _
 rw [cX s1]
 show ∃ (tk' : List (Str × Str)) (b' c' d' : Slot), bM _ _ _ [.val (.lst (fs.map oF)), .val (.str nm), .val (.int nb), .own (tk.map p2), .val (.int k), .val (oF f), c, d] = _ /\ _
 cases f with
 | none =>
  refine ⟨tk, .val .non, c, d, ?_, by omega⟩
  rw [kC (cA (x := false) (y := false) (cB (c2 (x := .non) (y := .non) rfl rfl rfl)) fun z => by cases z)]; rfl
 | some g =>
  have hg := hfs g hf
  have c0 : dM (mB (m2 (dO true) (gv 5) (kc .non))) (mB (m2 lF (m2 bF (gv 5) (kc (.int 0))) (gv 1))) [.val (.lst (fs.map oF)), .val (.str nm), .val (.int nb), .own (tk.map p2), .val (.int k), .val g.d, c, d] = .ok (true && !(g.nm == nm)) := cA (cB (c2 (x := g.d) (y := .non) rfl rfl rfl)) fun _ => cB (c2 (c2 (x := g.d) (y := .int 0) rfl rfl (cQ 0 _ rfl)) rfl (ne_str g.nm nm))
  show ∃ (tk' : List (Str × Str)) (b' c' d' : Slot), bM _ _ _ [.val (.lst (fs.map oF)), .val (.str nm), .val (.int nb), .own (tk.map p2), .val (.int k), .val g.d, c, d] = _ /\ _
  cases hne : (g.nm == nm) with
  | true =>
   refine ⟨tk, .val g.d, c, d, ?_, by omega⟩
   rw [kC (c0.trans (by rw [hne]; rfl))]; rfl
  | false =>
   rw [fX (c0.trans (by rw [hne]; rfl)), cX (dT1 g hg (ρ := [.val (.lst (fs.map oF)), .val (.str nm), .val (.int nb), .own (tk.map p2), .val (.int k), .val g.d, c, d]) rfl rfl)]
   show ∃ (tk' : List (Str × Str)) (b' c' d' : Slot), bM _ _ _ [.val (.lst (fs.map oF)), .val (.str nm), .val (.int nb), .own (tk.map p2), .val (.int k), .val g.d, .val (dW g.ks), d] = _ /\ _
   have hln : (g.ks.map D.str).length = g.ks.length := List.length_map ..
   have c1 : mB (m2 kI (mA cI (aC (gv 6) (bA))) (kc (.int 0))) [.val (.lst (fs.map oF)), .val (.str nm), .val (.int nb), .own (tk.map p2), .val (.int k), .val g.d, .val (dW g.ks), d] = .ok (decide (0 < ((g.ks.map D.str).length : Int))) := gtv 0 (a1 rfl rfl)
   by_cases hp : 0 < g.ks.length
   ·rw [fX (c1.trans (by rw [decide_eq_true (by rw [hln]; omega)]))]
    obtain ⟨y, ey, my⟩ := nU (xs := g.ks.map .str) (i := v / 7) (by rw [hln]; exact hp)
    obtain ⟨w, _, rfl⟩ := List.mem_map.mp my
    have s2 : mA bK (aC (m2 bF (gv 5) (kc (.int 0))) (aC (m2 bF (gv 6) (m2 bP (m2 cE (mA (C .q4) (aC (gv 2) (aC (gv 4) (bA)))) (kc (.int 7))) (mA cI (aC (gv 6) (bA))))) (bA))) [.val (.lst (fs.map oF)), .val (.str nm), .val (.int nb), .own (tk.map p2), .val (.int k), .val g.d, .val (dW g.ks), d] = .ok (p2 (g.nm, w)) := by
     refine a2 (c2 (x := g.d) (y := .int 0) rfl rfl (cQ 0 _ rfl)) (c2 (x := dW g.ks) (y := .int (v / 7 % ((g.ks.map D.str).length : Int))) rfl (c2 (c2 (a2 rfl rfl hv) rfl (by simp [cE, dI]; rfl)) (a1 rfl rfl) ?_) (by simp only [bF, ey])) rfl
     exact qG (by rw [hln]; omega)
    rw [cX s2]
    show ∃ (tk' : List (Str × Str)) (b' c' d' : Slot), bM _ _ _ [.val (.lst (fs.map oF)), .val (.str nm), .val (.int nb), .own (tk.map p2), .val (.int k), .val g.d, .val (dW g.ks), .val (p2 (g.nm, w))] = _ /\ _
    obtain ⟨q, hq⟩ : ∃ q, nO 3 (mB (m2 (gE true) (gv 7) (gv 3))) [.val (.lst (fs.map oF)), .val (.str nm), .val (.int nb), .own (tk.map p2), .val (.int k), .val g.d, .val (dW g.ks), .val (p2 (g.nm, w))] = .ok q := by
     refine ⟨!nG (p2 (g.nm, w)) (tk.map p2), ?_⟩
     show mB (m2 (gE true) (gv 7) (gv 3)) [.val (.lst (fs.map oF)), .val (.str nm), .val (.int nb), .val (.lst (tk.map p2)), .val (.int k), .val g.d, .val (dW g.ks), .val (p2 (g.nm, w))] = _
     refine cB (c2 rfl rfl ?_)
     have := dT0 tk
     simp only [gE]
     rw [if_pos bE]; rfl
    cases q with
    | true =>
     refine ⟨tk ++ [(g.nm, w)], .val g.d, .val (dW g.ks), .val (p2 (g.nm, w)), ?_, by rw [List.length_append]; simp⟩
     rw [fX hq, bL1 (acc := tk.map p2) (d := p2 (g.nm, w)) rfl rfl (by rw [List.length_map]; omega), List.map_append]
     rfl
    | false =>
     refine ⟨tk, .val g.d, .val (dW g.ks), .val (p2 (g.nm, w)), ?_, by omega⟩
     rw [kC hq]; rfl
   ·refine ⟨tk, .val g.d, .val (dW g.ks), d, ?_, by omega⟩
    rw [kC (c1.trans (by rw [decide_eq_false (by rw [hln]; omega)]))]; rfl
theorem cE4 {C : CT} (hdr : ∀ (nb k : Int), gC k = true -> ∃ v : Int, C .q4 [.int nb, .int k] = .ok (.int v)) {fs : List (Option Fc)} (h0 : 0 < fs.length) (hfs : ∀ g, some g ∈ fs -> g.ok) (nm : Str) (nb : Int) : ∀ (js : List Nat) (tk : List (Str × Str)) (a b c d : Slot), tk.length + js.length <= 1000 -> (∀ j ∈ js, j <= 1000) ->
 ∃ (tk' : List (Str × Str)) (a' b' c' d' : Slot), cP 4 (cE3 C) (js.map fun j : Nat => .int (0 + (j : Int))) [.val (.lst (fs.map oF)), .val (.str nm), .val (.int nb), .own (tk.map p2), a, b, c, d] = .ok (.nx [.val (.lst (fs.map oF)), .val (.str nm), .val (.int nb), .own (tk'.map p2), a', b', c', d']) /\ tk'.length <= tk.length + js.length
 | [], tk, a, b, c, d, _, _ => ⟨tk, a, b, c, d, rfl, Nat.le_refl _⟩
 | j :: js, tk, a, b, c, d, hl, hj => by
  simp only [List.length_cons] at hl
  obtain ⟨tk1, b1, c1, d1, h1, l1⟩ := dT2 hdr h0 hfs nm nb (0 + (j : Int)) (nT bE (by have := hj j List.mem_cons_self; omega)) tk bE b c d
  obtain ⟨tk2, a2', b2, c2', d2, h2, l2⟩ := cE4 hdr h0 hfs nm nb js tk1 (.val (.int (0 + (j : Int)))) b1 c1 d1 bE fun k hk => hj k (List.mem_cons_of_mem _ hk)
  refine ⟨tk2, a2', b2, c2', d2, ?_, by simp only [List.length_cons]; omega⟩
  rw [List.map_cons, mF h1]
  exact h2
theorem dT3 (n : Nat) {fs : List (Option Fc)} (h0 : 0 < fs.length) (hfs : ∀ g, some g ∈ fs -> g.ok) (nm : Str) (nb : Int) : ∃ tk : List (Str × Str), Ph (n + 4) .q13 [.lst (fs.map oF), .str nm, .int nb] = .ok (.lst (tk.map p2)) /\ tk.length <= 6 := by
 have m0 : 0 <= nb % 7 := Int.emod_nonneg _ (by decide)
 have m1 : nb % 7 < 7 := Int.emod_lt_of_pos _ (by decide)
 obtain ⟨tk, a, b, c, d, h, l⟩ := cE4 (C := Ph (n + 3)) (fun nb k hk => vR n nb k hk) h0 hfs nm nb (List.range (nb % 7).toNat) [] .no .no .no .no (by rw [List.length_range]; simp only [List.length_nil]; omega) fun j hj => by have := kP hj; omega
 rw [List.length_range] at l
 refine ⟨tk, ?_, by simp only [List.length_nil] at l; omega⟩
 show ((bB5 (Ph (n + 3)) (Ph (n + 1))) [.val (.lst (fs.map oF)), .val (.str nm), .val (.int nb), .no, .no, .no, .no, .no]).bind bU = _
 unfold bB5
 rw [cZ (ρ' := [.val (.lst (fs.map oF)), .val (.str nm), .val (.int nb), .own [], .no, .no, .no, .no]) rfl,
  cZ (ρ' := [.val (.lst (fs.map oF)), .val (.str nm), .val (.int nb), .own (tk.map p2), a, b, c, d]) (by
   rw [lJ (mJ (jB 7 (by decide) rfl) m0 bE)]
   exact h), bL2 rfl]
 rfl
structure qH (W : List Str) (E : List (Str × Int)) (m : Nat) : Prop where
 w : ∀ x ∈ W, x.length <= 9
 e : ∀ p ∈ E, p.1.length <= 9 /\ 0 <= p.2 /\ p.2 <= 3
 lw : W.length <= m
 le : E.length <= m
noncomputable abbrev bM8 : MS := bM (dM (mB (m2 (dO true) (gv 6) (kc .non))) (mB (m2 cD (m2 bF (gv 6) (kc (.int 0))) (gv 4)))) (bB (bI 2 (m2 bO (gv 2) (dB [5] (bV (m2 bF (gv 6) (kc (.int 1)))) (mB (m2 cD (gv 0) (gv 1))) (gv 0)))) (bI 3 (m2 bO (gv 3) (dB [5] (bV (m2 bF (gv 6) (kc (.int 2)))) (mB (m2 cD (m2 bF (gv 0) (kc (.int 0))) (gv 1))) (gv 0))))) (bQ)
theorem cE5 {F K : Slot} {s n : Str} : ∀ (fs : List (Option Fc)), (∀ g, some g ∈ fs -> g.ok) -> ∀ (W : List Str) (E : List (Str × Int)) (m : Nat) (a : Slot), qH W E m -> m + 3 * fs.length <= 1000 ->
 ∃ W' E' a', cP 6 bM8 (fs.map oF) [F, K, .val (dW W), .val (cJ E), .val (.str s), .val (.str n), a] = .ok (.nx [F, K, .val (dW W'), .val (cJ E'), .val (.str s), .val (.str n), a']) /\ qH W' E' (m + 3 * fs.length)
 | [], _, W, E, m, a, h, _ => ⟨W, E, a, rfl, h⟩
 | f :: r, hfs, W, E, m, a, h, hl => by
  simp only [List.length_cons] at hl
  have step : ∃ W1 E1, bM8 [F, K, .val (dW W), .val (cJ E), .val (.str s), .val (.str n), .val (oF f)] = .ok (.nx [F, K, .val (dW W1), .val (cJ E1), .val (.str s), .val (.str n), .val (oF f)]) /\ qH W1 E1 (m + 3) := by
   cases f with
   | none =>
    refine ⟨W, E, ?_, h.w, h.e, by have := h.lw; omega, by have := h.le; omega⟩
    show bM _ _ _ [F, K, .val (dW W), .val (cJ E), .val (.str s), .val (.str n), .val .non] = _
    rw [kC (cA (x := false) (y := false) (cB (c2 (x := .non) (y := .non) rfl rfl rfl)) fun z => by cases z)]; rfl
   | some g =>
    have hg := hfs g List.mem_cons_self
    have w1 := hg.lw
    have w2 := hg.ld
    have c0 : dM (mB (m2 (dO true) (gv 6) (kc .non))) (mB (m2 cD (m2 bF (gv 6) (kc (.int 0))) (gv 4))) [F, K, .val (dW W), .val (cJ E), .val (.str s), .val (.str n), .val g.d] = .ok (true && (g.nm == s)) := cA (cB (c2 (x := g.d) (y := .non) rfl rfl rfl)) fun _ => cB (c2 (c2 (x := g.d) (y := .int 0) rfl rfl (cQ 0 _ rfl)) rfl (rM g.nm s))
    show ∃ W1 E1, bM _ _ _ [F, K, .val (dW W), .val (cJ E), .val (.str s), .val (.str n), .val g.d] = .ok (.nx [F, K, .val (dW W1), .val (cJ E1), .val (.str s), .val (.str n), .val g.d]) /\ _
    cases hs : (g.nm == s) with
    | false =>
     refine ⟨W, E, ?_, h.w, h.e, by have := h.lw; omega, by have := h.le; omega⟩
     rw [kC (c0.trans (by rw [hs]; rfl))]; rfl
    | true =>
     have f1 := List.length_filter_le (fun x => x == n) g.ws
     have f2 := List.length_filter_le (fun p : Str × Int => p.1 == n) g.ds
     have lw := h.lw
     have le := h.le
     have e1 : dB [5] (bV (m2 bF (gv 6) (kc (.int 1)))) (mB (m2 cD (gv 0) (gv 1))) (gv 0) [F, K, .val (dW W), .val (cJ E), .val (.str s), .val (.str n), .val g.d] = .ok (.lst ((g.ws.filter fun x => x == n).map .str)) := gR (gZ (xs := g.ws.map .str) (c2 (x := g.d) (y := .int 1) rfl rfl (cQ 1 _ rfl))) (by rw [List.length_map]; omega) (nX (rest := [.val (.str n)]) (fun x => cB (c2 rfl rfl (rM x n))) (fun _ _ => rfl) g.ws)
     have e2 : dB [5] (bV (m2 bF (gv 6) (kc (.int 2)))) (mB (m2 cD (m2 bF (gv 0) (kc (.int 0))) (gv 1))) (gv 0) [F, K, .val (dW (W ++ g.ws.filter fun x => x == n)), .val (cJ E), .val (.str s), .val (.str n), .val g.d] = .ok (.lst ((g.ds.filter fun p => p.1 == n).map dP)) := gR (gZ (xs := g.ds.map dP) (c2 (x := g.d) (y := .int 2) rfl rfl (cQ 2 _ rfl))) (by rw [List.length_map]; omega) (nX (rest := [.val (.str n)]) (fun p => cB (c2 (c2 (x := dP p) (y := .int 0) rfl rfl (cQ 0 _ rfl)) rfl (rM p.1 n))) (fun _ _ => rfl) g.ds)
     have a1 := lK (a := W.map .str) (b := (g.ws.filter fun x => x == n).map .str) (by rw [List.length_map, List.length_map]; omega)
     rw [<- List.map_append] at a1
     have a2 := lK (a := E.map dP) (b := (g.ds.filter fun p => p.1 == n).map dP) (by rw [List.length_map, List.length_map]; omega)
     rw [<- List.map_append] at a2
     refine ⟨W ++ g.ws.filter fun x => x == n, E ++ g.ds.filter fun p => p.1 == n, ?_, fun x hx => ?_, fun p hp => ?_, by rw [List.length_append]; omega, by rw [List.length_append]; omega⟩
     ·rw [fX (c0.trans (by rw [hs]; rfl)), cX (c2 rfl e1 a1)]
      show bI 3 _ [F, K, .val (dW (W ++ g.ws.filter fun x => x == n)), .val (cJ E), .val (.str s), .val (.str n), .val g.d] = _
      unfold bI
      rw [c2 rfl e2 a2]; rfl
     ·rcases List.mem_append.mp hx with hx | hx
      ·exact h.w x hx
      ·exact hg.ln x (List.mem_append_left _ (List.mem_filter.mp hx).1)
     ·rcases List.mem_append.mp hp with hp | hp
      ·exact h.e p hp
      ·have hp' := (List.mem_filter.mp hp).1
       exact ⟨hg.ln p.1 (List.mem_append_right _ (List.mem_map_of_mem hp')), hg.dc p hp'⟩
  obtain ⟨W1, E1, h1, o1⟩ := step
  obtain ⟨W2, E2, a', h2, o2⟩ := cE5 (F := F) (K := K) (s := s) (n := n) r (fun g hg => hfs g (List.mem_cons_of_mem _ hg)) W1 E1 (m + 3) (.val (oF f)) o1 bE
  refine ⟨W2, E2, a', ?_, ?_⟩
  ·rw [List.map_cons, mF h1]; exact h2
  ·have e : m + 3 + 3 * r.length = m + 3 * (f :: r).length := by rw [List.length_cons]; omega
   rw [<- e]; exact o2
theorem cE6 {fs : List (Option Fc)} (hfs : ∀ g, some g ∈ fs -> g.ok) (hl4 : fs.length <= 4) {K : Slot} : ∀ (tk : List (Str × Str)) (W : List Str) (E : List (Str × Int)) (m : Nat) (a b c : Slot), qH W E m -> m + 12 * tk.length <= 900 ->
 ∃ W' E' a' b' c', dR 4 5 (fA 6 (bV (gv 0)) bM8) (tk.map p2) [.val (.lst (fs.map oF)), K, .val (dW W), .val (cJ E), a, b, c] = .ok (.nx [.val (.lst (fs.map oF)), K, .val (dW W'), .val (cJ E'), a', b', c']) /\ qH W' E' (m + 12 * tk.length)
 | [], W, E, m, a, b, c, h, _ => ⟨W, E, a, b, c, rfl, h⟩
 | (s, n) :: r, W, E, m, a, b, c, h, hl => by
  simp only [List.length_cons] at hl
  obtain ⟨W1, E1, c1, h1, o1⟩ := cE5 (F := .val (.lst (fs.map oF))) (K := K) (s := s) (n := n) fs hfs W E m c h bE
  have o1' : qH W1 E1 (m + 12) := ⟨o1.w, o1.e, by have := o1.lw; omega, by have := o1.le; omega⟩
  obtain ⟨W2, E2, a', b', c', h2, o2⟩ := cE6 hfs hl4 (K := K) r W1 E1 (m + 12) (.val (.str s)) (.val (.str n)) c1 o1' bE
  refine ⟨W2, E2, a', b', c', ?_, ?_⟩
  ·rw [List.map_cons, rN (ρ' := [.val (.lst (fs.map oF)), K, .val (dW W1), .val (cJ E1), .val (.str s), .val (.str n), c1]) (by
    show fA 6 _ _ [.val (.lst (fs.map oF)), K, .val (dW W), .val (cJ E), .val (.str s), .val (.str n), c] = _
    rw [lJ (rP rfl)]; exact h1)]
   exact h2
  ·have e : m + 12 + 12 * r.length = m + 12 * ((s, n) :: r).length := by rw [List.length_cons]; omega
   rw [<- e]; exact o2
theorem dT4 (n : Nat) {fs : List (Option Fc)} (hfs : ∀ g, some g ∈ fs -> g.ok) (hl4 : fs.length <= 4) (tk : List (Str × Str)) (ht : tk.length <= 6) : ∃ W E, Ph (n + 3) .q14 [.lst (fs.map oF), .lst (tk.map p2)] = .ok (.tup [dW W, cJ E]) /\ qH W E 72 := by
 obtain ⟨W, E, a, b, c, h, o⟩ := cE6 hfs hl4 (K := .val (.lst (tk.map p2))) tk [] [] 0 .no .no .no ⟨(fun x hx => by cases hx), (fun x hx => by cases hx), Nat.le_refl _, Nat.le_refl _⟩ bE
 refine ⟨W, E, ?_, o.w, o.e, by have := o.lw; omega, by have := o.le; omega⟩
 show ((bB6 (Ph (n + 2)) (Ph n)) [.val (.lst (fs.map oF)), .val (.lst (tk.map p2)), .no, .no, .no, .no, .no]).bind bU = _
 unfold bB6
 rw [cX (d := .lst []) rfl]
 show (bB _ _ [.val (.lst (fs.map oF)), .val (.lst (tk.map p2)), .val (.lst []), .no, .no, .no, .no]).bind bU = _
 rw [cX (d := .lst []) rfl]
 show (bB _ _ [.val (.lst (fs.map oF)), .val (.lst (tk.map p2)), .val (.lst []), .val (.lst []), .no, .no, .no]).bind bU = _
 rw [cZ (ρ' := [.val (.lst (fs.map oF)), .val (.lst (tk.map p2)), .val (dW W), .val (cJ E), a, b, c]) (by rw [vP (rP rfl)]; exact h)]
 rfl
end Jm
end
section
namespace Jm
open PySem PySem.Spec PyProof.Rows L2 R
variable [bN]
structure Gn (C : CT) (ns : List Int) (z : Str) : Prop where
 mix : ∀ k : Int, 0 <= k -> C .q3 [.lst (ns.map .int), .int k] = .ok (.int (cR ns k))
 sai : ∀ un k : Int, 0 <= un -> un < 26 -> 0 <= k -> k < 26 -> C .q11 [.int (cR ns 0), .int un, .int k] = .ok (.str (sd z un k))
 dr : ∀ (nb k : Int), gC k = true -> ∃ v : Int, C .q4 [.int nb, .int k] = .ok (.int v)
 blk : ∀ (nb sz : Int), 0 <= sz -> sz <= 4 -> ∀ {xs es ps : List D}, mH xs -> mI es -> qA ps -> ∃ ys, C .q10 [.int nb, .int sz, .lst xs, .lst es, .lst ps, .int 2] = .ok (.tup ys)
 stm : ∀ (nb : Int) {xs es ps : List D}, mH xs -> mI es -> qA ps -> ∃ d, C .q9 [.int nb, .lst xs, .lst es, .lst ps, .int 2] = .ok d
 tks : ∀ {fs : List (Option Fc)}, 0 < fs.length -> (∀ g, some g ∈ fs -> g.ok) -> ∀ (nm : Str) (nb : Int), ∃ tk : List (Str × Str), C .q13 [.lst (fs.map oF), .str nm, .int nb] = .ok (.lst (tk.map p2)) /\ tk.length <= 6
 sor : ∀ {fs : List (Option Fc)}, (∀ g, some g ∈ fs -> g.ok) -> fs.length <= 4 -> ∀ tk : List (Str × Str), tk.length <= 6 -> ∃ W E, C .q14 [.lst (fs.map oF), .lst (tk.map p2)] = .ok (.tup [dW W, cJ E]) /\ qH W E 72
noncomputable abbrev fP (x : Str × List Str × D) : D := .tup [.str x.1, .tup (x.2.1.map .str), .tup [], x.2.2]
structure bD2 (z : Str) (i : Nat) (d : D) : Prop where
 ex : ∃ (tk : List (Str × Str)) (ow : List Str) (mk : List (Str × List Str × D)) (bl : List D), d = .tup [.str (sd z i 25), .tup (tk.map p2), .tup (ow.map .str), .tup (mk.map fP), .tup bl] /\ tk.length <= 6 /\ ow.length <= 3 /\ mk.length <= 4 /\ ∀ x ∈ mk, x.2.1.length <= 3
theorem cE7 {W : List Str} (h0 : 0 < W.length) (h1 : W.length <= 1000) (h : ∀ x ∈ W, x.length <= 9) : mH (W.map .str) := ⟨by rw [List.length_map]; exact h0, by rw [List.length_map]; exact h1, fun x hx => by
 obtain ⟨w, hw, rfl⟩ := List.mem_map.mp hx
 exact ⟨w, rfl, h w hw⟩⟩
theorem cE8 {E : List (Str × Int)} (h1 : E.length <= 1000) (h : ∀ p ∈ E, p.1.length <= 9 /\ 0 <= p.2 /\ p.2 <= 3) : mI (E.map dP) := ⟨by rw [List.length_map]; exact h1, fun x hx => by
 obtain ⟨w, hw, rfl⟩ := List.mem_map.mp hx
 have := h w hw
 exact ⟨w.1, w.2, rfl, this.1, this.2.1, by omega⟩⟩
theorem plain_of {E : List (Str × Int)} {ρ : bJ} (h1 : E.length <= 1000) (h : ∀ p ∈ E, p.1.length <= 9 /\ 0 <= p.2 /\ p.2 <= 3) (h9 : gv 9 ρ = .ok (cJ E)) (hc : fR [] ρ = []) : ∃ P, dB [] (bV (gv 9)) (dJ (mB (m2 cD (gv 1) (kc (.int 0))))) (dJ (gv 0)) ρ = .ok (.lst P) /\ qA P := by
 refine ⟨(E.filter fun p => p.2 == 0).map fun p => .str p.1, gR (rP h9) (by rw [List.length_map]; omega) (by
  rw [hc]
  exact nX (p := dJ (mB (m2 cD (gv 1) (kc (.int 0))))) (g := dJ (gv 0)) (rest := []) (dat := dP) (val := fun p : Str × Int => .str p.1) (q := fun p => p.2 == 0) (fun p => (cB (c2 rfl rfl (mX p.2 0)) : mB (m2 cD (gv 1) (kc (.int 0))) [.val (.str p.1), .val (.int p.2)] = _)) (fun _ _ => rfl) E), ?_, fun x hx => ?_⟩
 ·rw [List.length_map]
  exact Nat.le_trans (List.length_filter_le _ _) h1
 ·obtain ⟨p, hp, rfl⟩ := List.mem_map.mp hx
  exact ⟨p.1, rfl, (h p (List.mem_filter.mp hp).1).1⟩
noncomputable abbrev dT5 (C : CT) : MS := bB (gP 15 [4, 2] (fM (m2 bF (gv 14) (kc (.int 1)))) (fun _ => .ok true) (mA (C .q11) (aC (gv 1) (aC (gv 2) (aC (m2 bO (kc (.int 16)) (gv 0)) (bA)))))) (bB (bI 16 (dB [] (bV (gv 9)) (dJ (mB (m2 cD (gv 1) (kc (.int 0))))) (dJ (gv 0)))) (bB (bI 17 (mA (C .q10) (aC (mA (C .q4) (aC (gv 5) (aC (m2 bO (kc (.int 20)) (gv 13)) (bA)))) (aC (m2 bO (kc (.int 1)) (m2 bP (gv 5) (kc (.int 4)))) (aC (m2 bO (gv 8) (gv 15)) (aC (gv 9) (aC (gv 16) (aC (kc (.int 2)) (bA))))))))) (lG 12 (mA bK (aC (m2 bF (gv 14) (kc (.int 0))) (aC (mA jL (aC (gv 15) (bA))) (aC (mA bK (bA)) (aC (gv 17) (bA)))))))))
theorem cE9 {C : CT} {ns : List Int} {z : Str} (G : Gn C ns z) (hz : z.length <= 6) {i : Nat} (hi : i < 4) (m : Int) {W : List Str} {E : List (Str × Int)} (hW : ∀ x ∈ W, x.length <= 9) (hW0 : 0 < W.length) (hWl : W.length <= 500) (hE : ∀ p ∈ E, p.1.length <= 9 /\ 0 <= p.2 /\ p.2 <= 3) (hEl : E.length <= 500) {t0 t1 t3 t6 t7 t10 t11 : Slot} : ∀ (hh : List (Str × Int)) (s : Nat) (mk : List (Str × List Str × D)) (b13 b14 b15 b16 b17 : Slot), s + hh.length <= 100 -> mk.length + hh.length <= 100 -> (∀ p ∈ hh, 0 <= p.2 /\ p.2 <= 3) -> (∀ x ∈ mk, x.2.1.length <= 3) ->
 ∃ (mk' : List (Str × List Str × D)) (c13 c14 c15 c16 c17 : Slot), dR 13 14 (dT5 C) (R.pairD (upTo (s : Int) hh.length) (hh.map dP)) [t0, t1, .val (.int i), t3, .val (.int (cR ns 0)), .val (.int m), t6, t7, .val (dW W), .val (cJ E), t10, t11, .own (mk.map fP), b13, b14, b15, b16, b17] = .ok (.nx [t0, t1, .val (.int i), t3, .val (.int (cR ns 0)), .val (.int m), t6, t7, .val (dW W), .val (cJ E), t10, t11, .own (mk'.map fP), c13, c14, c15, c16, c17]) /\ mk'.length = mk.length + hh.length /\ ∀ x ∈ mk', x.2.1.length <= 3
 | [], s, mk, b13, b14, b15, b16, b17, _, _, _, hm => ⟨mk, b13, b14, b15, b16, b17, rfl, rfl, hm⟩
 | p :: r, s, mk, b13, b14, b15, b16, b17, hs, hl, hp, hm => by
  simp only [List.length_cons] at hs hl
  have hp0 := hp p List.mem_cons_self
  have e0 : R.pairD (upTo (s : Int) (p :: r).length) ((p :: r).map dP) = .tup [.int s, dP p] :: R.pairD (upTo ((s + 1 : Nat) : Int) r.length) (r.map dP) := by
   unfold R.pairD R.upTo
   rw [List.length_cons, List.range_succ_eq_map, List.map_cons, List.map_cons, List.zipWith_cons_cons, List.map_map]
   have e1 : ∀ l : List Nat, l.map ((fun n : Nat => D.int ((s : Int) + (n : Int))) ∘ Nat.succ) = l.map fun n : Nat => D.int (((s + 1 : Nat) : Int) + (n : Int)) := fun l => List.map_congr_left fun j _ => by
    show D.int ((s : Int) + ((j + 1 : Nat) : Int)) = D.int (((s + 1 : Nat) : Int) + (j : Int))
    congr 1
    omega
   rw [e1]
   congr 1
  let ps : List Str := (List.range p.2.toNat).map fun j : Nat => sd z i (16 + (0 + (j : Int)))
  have hpl : ps.length <= 3 := by show (List.map _ _).length <= 3; rw [List.length_map, List.length_range]; omega
  have hpn : ∀ x ∈ ps, x.length <= 9 := fun x hx => by obtain ⟨j, _, rfl⟩ := List.mem_map.mp hx; exact vW hz _ _
  have s1 : dB [4, 2] (fM (m2 bF (gv 14) (kc (.int 1)))) (fun _ => .ok true) (mA (C .q11) (aC (gv 1) (aC (gv 2) (aC (m2 bO (kc (.int 16)) (gv 0)) (bA))))) [t0, t1, .val (.int i), t3, .val (.int (cR ns 0)), .val (.int m), t6, t7, .val (dW W), .val (cJ E), t10, t11, .own (mk.map fP), .val (.int s), .val (dP p), b15, b16, b17] = .ok (dW ps) :=
   gR (mJ (c2 (x := dP p) (y := .int 1) rfl rfl (cQ 1 _ rfl)) hp0.1 bE) (by rw [kB]; omega) (by
    show _ = bD.ok (((List.range p.2.toNat).map fun j : Nat => sd z i (16 + (0 + (j : Int)))).map D.str)
    rw [sD, List.map_map]
    refine nA _ fun j hj => a3 rfl rfl (c2 rfl rfl rfl) ?_
    have := kP hj
    exact G.sai i _ bE bE bE bE)
  obtain ⟨P, hP, oP⟩ := plain_of (E := E) (ρ := [t0, t1, .val (.int i), t3, .val (.int (cR ns 0)), .val (.int m), t6, t7, .val (dW W), .val (cJ E), t10, t11, .own (mk.map fP), .val (.int s), .val (dP p), .val (dW ps), b16, b17]) bE hE rfl rfl
  obtain ⟨v, hv⟩ := G.dr m (20 + s) (nT bE bE)
  have m0 : 0 <= m % 4 := Int.emod_nonneg _ (by decide)
  have m1 : m % 4 < 4 := Int.emod_lt_of_pos _ (by decide)
  obtain ⟨ys, hys⟩ := G.blk v (1 + m % 4) bE bE (cE7 (W := W ++ ps) (by rw [List.length_append]; omega) (by rw [List.length_append]; omega) fun x hx => by
   rcases List.mem_append.mp hx with hx | hx
   ·exact hW x hx
   ·exact hpn x hx) (cE8 bE hE) oP
  have ad := lK (a := W.map .str) (b := ps.map .str) (by rw [List.length_map, List.length_map]; omega)
  rw [<- List.map_append] at ad
  obtain ⟨mk', c13, c14, c15, c16, c17, h1, h2, h3⟩ := cE9 G hz hi m hW hW0 hWl hE hEl (t0 := t0) (t1 := t1) (t3 := t3) (t6 := t6) (t7 := t7) (t10 := t10) (t11 := t11) r (s + 1) (mk ++ [(p.1, ps, D.tup ys)]) (.val (.int s)) (.val (dP p)) (.val (dW ps)) (.val (.lst P)) (.val (.tup ys)) bE (by rw [List.length_append]; simp only [List.length_cons, List.length_nil]; omega) (fun q hq => hp q (List.mem_cons_of_mem _ hq)) fun x hx => by
   rcases List.mem_append.mp hx with hx | hx
   ·exact hm x hx
   ·rw [List.mem_singleton.mp hx]; exact hpl
  refine ⟨mk', c13, c14, c15, c16, c17, ?_, by rw [h2, List.length_append]; simp only [List.length_cons, List.length_nil]; omega, h3⟩
  rw [e0, rN (ρ' := [t0, t1, .val (.int i), t3, .val (.int (cR ns 0)), .val (.int m), t6, t7, .val (dW W), .val (cJ E), t10, t11, .own ((mk ++ [(p.1, ps, D.tup ys)]).map fP), .val (.int s), .val (dP p), .val (dW ps), .val (.lst P), .val (.tup ys)]), h1]
  show bB (bI 15 _) _ [t0, t1, .val (.int i), t3, .val (.int (cR ns 0)), .val (.int m), t6, t7, .val (dW W), .val (cJ E), t10, t11, .own (mk.map fP), .val (.int s), .val (dP p), b15, b16, b17] = _
  rw [cX s1]
  show bB (bI 16 _) _ [t0, t1, .val (.int i), t3, .val (.int (cR ns 0)), .val (.int m), t6, t7, .val (dW W), .val (cJ E), t10, t11, .own (mk.map fP), .val (.int s), .val (dP p), .val (dW ps), b16, b17] = _
  rw [cX hP]
  show bB (bI 17 _) _ [t0, t1, .val (.int i), t3, .val (.int (cR ns 0)), .val (.int m), t6, t7, .val (dW W), .val (cJ E), t10, t11, .own (mk.map fP), .val (.int s), .val (dP p), .val (dW ps), .val (.lst P), b17] = _
  rw [cX (a6 (a2 rfl (c2 rfl rfl rfl) hv) (c2 rfl (jB 4 (by decide) rfl) rfl) (c2 rfl rfl ad) rfl rfl rfl hys)]
  show lG 12 _ [t0, t1, .val (.int i), t3, .val (.int (cR ns 0)), .val (.int m), t6, t7, .val (dW W), .val (cJ E), t10, t11, .own (mk.map fP), .val (.int s), .val (dP p), .val (dW ps), .val (.lst P), .val (.tup ys)] = _
  rw [bL1 (acc := mk.map fP) (d := fP (p.1, ps, D.tup ys)) rfl (a4 (c2 (x := dP p) (y := .int 0) rfl rfl (cQ 0 _ rfl)) (a1 rfl rfl) rfl rfl rfl) (by rw [List.length_map]; omega), List.map_append]
  rfl
end Jm
end
section
namespace Jm
open PySem PySem.Spec PyProof.Rows L2 R
variable [bN]
theorem dT6 {C C' : CT} {ns : List Int} {z : Str} (G : Gn C ns z) (hz : z.length <= 6) {fs : List (Option Fc)} (hfs : ∀ g, some g ∈ fs -> g.ok) (hl4 : fs.length <= 4) (i : Nat) (hi : i < fs.length) (sz : Int) (z0 : 0 <= sz) (z9 : sz <= 9) : ∃ d, cV 4 18 (xT C C') [.lst (ns.map .int), .lst (fs.map oF), .int i, .int sz] = .ok d /\ bD2 z i d := by
 show ∃ d, ((xT C C') [.val (.lst (ns.map .int)), .val (.lst (fs.map oF)), .val (.int i), .val (.int sz), .no, .no, .no, .no, .no, .no, .no, .no, .no, .no, .no, .no, .no, .no]).bind bU = .ok d /\ _
 unfold xT
 have hm5 := G.mix (5 + i) bE
 generalize cR ns (5 + i) = m at hm5
 rw [cX (a2 rfl rfl (G.mix 0 bE))]
 show ∃ d, (bB _ _ [.val (.lst (ns.map .int)), .val (.lst (fs.map oF)), .val (.int i), .val (.int sz), .val (.int (cR ns 0)), .no, .no, .no, .no, .no, .no, .no, .no, .no, .no, .no, .no, .no]).bind bU = .ok d /\ _
 rw [cX (a2 rfl (c2 rfl rfl rfl) hm5)]
 show ∃ d, (bB _ _ [.val (.lst (ns.map .int)), .val (.lst (fs.map oF)), .val (.int i), .val (.int sz), .val (.int (cR ns 0)), .val (.int m), .no, .no, .no, .no, .no, .no, .no, .no, .no, .no, .no, .no]).bind bU = .ok d /\ _
 rw [cX (a3 rfl rfl rfl (G.sai i 25 bE bE bE bE))]
 show ∃ d, (bB _ _ [.val (.lst (ns.map .int)), .val (.lst (fs.map oF)), .val (.int i), .val (.int sz), .val (.int (cR ns 0)), .val (.int m), .val (.str (sd z i 25)), .no, .no, .no, .no, .no, .no, .no, .no, .no, .no, .no]).bind bU = .ok d /\ _
 obtain ⟨tk, ht, lt⟩ := G.tks (fs := fs) bE hfs (sd z i 25) (m / 3)
 rw [cX (a3 rfl rfl (hJ 3 (by decide) rfl) ht)]
 show ∃ d, (bB _ _ [.val (.lst (ns.map .int)), .val (.lst (fs.map oF)), .val (.int i), .val (.int sz), .val (.int (cR ns 0)), .val (.int m), .val (.str (sd z i 25)), .val (.lst (tk.map p2)), .no, .no, .no, .no, .no, .no, .no, .no, .no, .no]).bind bU = .ok d /\ _
 obtain ⟨W, E, hs, o⟩ := G.sor hfs hl4 tk lt
 have s2 : kK 8 9 (mA (C .q14) (aC (gv 1) (aC (gv 7) (bA)))) [.val (.lst (ns.map .int)), .val (.lst (fs.map oF)), .val (.int i), .val (.int sz), .val (.int (cR ns 0)), .val (.int m), .val (.str (sd z i 25)), .val (.lst (tk.map p2)), .no, .no, .no, .no, .no, .no, .no, .no, .no, .no] = .ok (.nx [.val (.lst (ns.map .int)), .val (.lst (fs.map oF)), .val (.int i), .val (.int sz), .val (.int (cR ns 0)), .val (.int m), .val (.str (sd z i 25)), .val (.lst (tk.map p2)), .val (dW W), .val (cJ E), .no, .no, .no, .no, .no, .no, .no, .no]) := by
  unfold kK
  rw [a2 rfl rfl hs]; rfl
 rw [cZ s2]
 have m0 : 0 <= m % 3 := Int.emod_nonneg _ (by decide)
 have m1 : m % 3 < 3 := Int.emod_lt_of_pos _ (by decide)
 have q0 : 0 <= m / 21 % 3 := Int.emod_nonneg _ (by decide)
 have q1 : m / 21 % 3 < 3 := Int.emod_lt_of_pos _ (by decide)
 have cw : dB [4, 2] (fM (m2 bO (kc (.int 1)) (m2 bP (gv 5) (kc (.int 3))))) (fun _ => .ok true) (mA (C .q11) (aC (gv 1) (aC (gv 2) (aC (m2 bO (kc (.int 5)) (gv 0)) (bA))))) [.val (.lst (ns.map .int)), .val (.lst (fs.map oF)), .val (.int i), .val (.int sz), .val (.int (cR ns 0)), .val (.int m), .val (.str (sd z i 25)), .val (.lst (tk.map p2)), .val (dW W), .val (cJ E), .no, .no, .no, .no, .no, .no, .no, .no] = .ok (dW ((List.range (1 + m % 3).toNat).map fun j : Nat => sd z i (5 + (0 + (j : Int))))) :=
  gR (mJ (i := 1 + m % 3) (c2 rfl (jB 3 (by decide) rfl) rfl) bE bE) (by rw [kB]; omega) (by
   show _ = bD.ok (((List.range (1 + m % 3).toNat).map fun j : Nat => sd z i (5 + (0 + (j : Int)))).map D.str)
   rw [sD, List.map_map]
   refine nA _ fun j hj => a3 rfl rfl (c2 rfl rfl rfl) ?_
   have := kP hj
   exact G.sai i _ bE bE bE bE)
 unfold gP
 rw [cX cw]
 have hol : ((List.range (1 + m % 3).toNat).map fun j : Nat => sd z i (5 + (0 + (j : Int)))).length <= 3 /\ 0 < ((List.range (1 + m % 3).toNat).map fun j : Nat => sd z i (5 + (0 + (j : Int)))).length := by rw [List.length_map, List.length_range]; omega
 have hon : ∀ x ∈ ((List.range (1 + m % 3).toNat).map fun j : Nat => sd z i (5 + (0 + (j : Int)))), x.length <= 9 := fun x hx => by obtain ⟨j, _, rfl⟩ := List.mem_map.mp hx; exact vW hz _ _
 generalize ((List.range (1 + m % 3).toNat).map fun j : Nat => sd z i (5 + (0 + (j : Int)))) = ow at hol hon
 show ∃ d, (bB (bI 11 _) _ [.val (.lst (ns.map .int)), .val (.lst (fs.map oF)), .val (.int i), .val (.int sz), .val (.int (cR ns 0)), .val (.int m), .val (.str (sd z i 25)), .val (.lst (tk.map p2)), .val (dW W), .val (cJ E), .val (dW ow), .no, .no, .no, .no, .no, .no, .no]).bind bU = .ok d /\ _
 have hd : ∀ j : Nat, ∃ c : Int, 0 <= c /\ c <= 3 /\ (j < 3 -> mA bK (aC (mA (C .q11) (aC (gv 1) (aC (gv 2) (aC (m2 bO (kc (.int 13)) (gv 0)) (bA))))) (aC (m2 bP (mA (C .q4) (aC (gv 3) (aC (gv 0) (bA)))) (kc (.int 4))) (bA))) [.val (.int (0 + (j : Int))), .val (.int (cR ns 0)), .val (.int i), .val (.int m)] = .ok (dP (sd z i (13 + (0 + (j : Int))), c))) := fun j => by
  by_cases hj : j < 3
  ·obtain ⟨v, hv⟩ := G.dr m (0 + (j : Int)) (nT bE bE)
   have v0 : 0 <= v % 4 := Int.emod_nonneg _ (by decide)
   have v1 : v % 4 < 4 := Int.emod_lt_of_pos _ (by decide)
   exact ⟨v % 4, v0, by omega, fun _ => a2 (a3 rfl rfl (c2 rfl rfl rfl) (G.sai i _ bE bE bE bE)) (jB 4 (by decide) (a2 rfl rfl hv)) rfl⟩
  ·exact ⟨0, by omega, by omega, fun z => absurd z hj⟩
 have cd : dB [4, 2, 5] (fM (m2 bP (m2 cE (gv 5) (kc (.int 21))) (kc (.int 3)))) (fun _ => .ok true) (mA bK (aC (mA (C .q11) (aC (gv 1) (aC (gv 2) (aC (m2 bO (kc (.int 13)) (gv 0)) (bA))))) (aC (m2 bP (mA (C .q4) (aC (gv 3) (aC (gv 0) (bA)))) (kc (.int 4))) (bA)))) [.val (.lst (ns.map .int)), .val (.lst (fs.map oF)), .val (.int i), .val (.int sz), .val (.int (cR ns 0)), .val (.int m), .val (.str (sd z i 25)), .val (.lst (tk.map p2)), .val (dW W), .val (cJ E), .val (dW ow), .no, .no, .no, .no, .no, .no, .no] = .ok (cJ ((List.range (m / 21 % 3).toNat).map fun j : Nat => (sd z i (13 + (0 + (j : Int))), (hd j).choose))) :=
  gR (mJ (jB 3 (by decide) (hJ 21 (by decide) rfl)) q0 bE) (by rw [kB]; omega) (by
   rw [sD, List.map_map]
   refine nA _ fun j hj => ?_
   exact (hd j).choose_spec.2.2 (by have := kP hj; omega))
 rw [cX cd]
 have hhl : ((List.range (m / 21 % 3).toNat).map fun j : Nat => (sd z i (13 + (0 + (j : Int))), (hd j).choose)).length <= 2 := by rw [List.length_map, List.length_range]; omega
 have hhn : ∀ p ∈ (List.range (m / 21 % 3).toNat).map fun j : Nat => (sd z i (13 + (0 + (j : Int))), (hd j).choose), p.1.length <= 9 /\ 0 <= p.2 /\ p.2 <= 3 := fun p hp => by
  obtain ⟨j, _, rfl⟩ := List.mem_map.mp hp
  exact ⟨vW hz _ _, (hd j).choose_spec.1, (hd j).choose_spec.2.1⟩
 generalize ((List.range (m / 21 % 3).toNat).map fun j : Nat => (sd z i (13 + (0 + (j : Int))), (hd j).choose)) = hh at hhl hhn
 show ∃ d, (bB (bM _ _ bQ) _ [.val (.lst (ns.map .int)), .val (.lst (fs.map oF)), .val (.int i), .val (.int sz), .val (.int (cR ns 0)), .val (.int m), .val (.str (sd z i 25)), .val (.lst (tk.map p2)), .val (dW W), .val (cJ E), .val (dW ow), .val (cJ hh), .no, .no, .no, .no, .no, .no]).bind bU = .ok d /\ _
 have hgi : (fs.map oF)[i]? = some (oF fs[i]) := by rw [List.getElem?_map, List.getElem?_eq_getElem hi]; rfl
 have hix : bF (.lst (fs.map oF)) (.int i) = .ok (oF fs[i]) := nS i _ hgi
 obtain ⟨W1, hh1, hif, ow1, oh1, lw1, lh1⟩ : ∃ (W1 : List Str) (hh1 : List (Str × Int)), bM (mB (m2 (dO true) (m2 bF (gv 1) (gv 2)) (kc .non))) (bB (bI 8 (m2 bO (gv 8) (mA jW (aC (m2 bF (m2 bF (gv 1) (gv 2)) (kc (.int 1))) (bA))))) (bI 11 (m2 bO (mA jW (aC (m2 bF (m2 bF (gv 1) (gv 2)) (kc (.int 2))) (bA))) (gv 11)))) (bQ) [.val (.lst (ns.map .int)), .val (.lst (fs.map oF)), .val (.int i), .val (.int sz), .val (.int (cR ns 0)), .val (.int m), .val (.str (sd z i 25)), .val (.lst (tk.map p2)), .val (dW W), .val (cJ E), .val (dW ow), .val (cJ hh), .no, .no, .no, .no, .no, .no] = .ok (.nx [.val (.lst (ns.map .int)), .val (.lst (fs.map oF)), .val (.int i), .val (.int sz), .val (.int (cR ns 0)), .val (.int m), .val (.str (sd z i 25)), .val (.lst (tk.map p2)), .val (dW W1), .val (cJ E), .val (dW ow), .val (cJ hh1), .no, .no, .no, .no, .no, .no]) /\ (∀ x ∈ W1, x.length <= 9) /\ (∀ p ∈ hh1, p.1.length <= 9 /\ 0 <= p.2 /\ p.2 <= 3) /\ W1.length <= 75 /\ hh1.length <= 4 := by
  have lw := o.lw
  have hm : fs[i] ∈ fs := List.getElem_mem hi
  revert hix hm
  generalize fs[i] = f
  intro hix hm
  cases f with
  | none =>
   refine ⟨W, hh, ?_, o.w, hhn, by omega, by omega⟩
   rw [kC (cB (c2 (x := .non) (y := .non) (c2 rfl rfl hix) rfl rfl))]; rfl
  | some g =>
   have hg := hfs g hm
   have w1 := hg.lw
   have w2 := hg.ld
   have hx1 : ∀ ρ : bJ, gv 1 ρ = .ok (.lst (fs.map oF)) -> gv 2 ρ = .ok (.int i) -> m2 bF (gv 1) (gv 2) ρ = .ok g.d := fun ρ h1 h2 => c2 h1 h2 hix
   have ad1 := lK (a := W.map .str) (b := g.ws.map .str) (by rw [List.length_map, List.length_map]; omega)
   rw [<- List.map_append] at ad1
   have ad2 := lK (a := g.ds.map dP) (b := hh.map dP) (by rw [List.length_map, List.length_map]; omega)
   rw [<- List.map_append] at ad2
   refine ⟨W ++ g.ws, g.ds ++ hh, ?_, fun x hx => ?_, fun p hp => ?_, by rw [List.length_append]; omega, by rw [List.length_append]; omega⟩
   ·rw [fX (cB (c2 (x := g.d) (y := .non) (hx1 _ rfl rfl) rfl rfl)), cX (c2 rfl (a1 (c2 (x := g.d) (y := .int 1) (hx1 _ rfl rfl) rfl (cQ 1 _ rfl)) rfl) ad1)]
    show bI 11 _ [.val (.lst (ns.map .int)), .val (.lst (fs.map oF)), .val (.int i), .val (.int sz), .val (.int (cR ns 0)), .val (.int m), .val (.str (sd z i 25)), .val (.lst (tk.map p2)), .val (dW (W ++ g.ws)), .val (cJ E), .val (dW ow), .val (cJ hh), .no, .no, .no, .no, .no, .no] = _
    unfold bI
    rw [c2 (a1 (c2 (x := g.d) (y := .int 2) (hx1 _ rfl rfl) rfl (cQ 2 _ rfl)) rfl) rfl ad2]; rfl
   ·rcases List.mem_append.mp hx with hx | hx
    ·exact o.w x hx
    ·exact hg.ln x (List.mem_append_left _ hx)
   ·rcases List.mem_append.mp hp with hp | hp
    ·exact ⟨hg.ln p.1 (List.mem_append_right _ (List.mem_map_of_mem hp)), hg.dc p hp⟩
    ·exact hhn p hp
 rw [cZ hif]
 have le := o.le
 have ad1 := lK (a := W1.map .str) (b := ow.map .str) (by rw [List.length_map, List.length_map]; omega)
 rw [<- List.map_append] at ad1
 have ad2 := lK (a := E.map dP) (b := hh1.map dP) (by rw [List.length_map, List.length_map]; omega)
 rw [<- List.map_append] at ad2
 rw [cX (c2 rfl rfl ad1)]
 show ∃ d, (bB (bI 9 _) _ [.val (.lst (ns.map .int)), .val (.lst (fs.map oF)), .val (.int i), .val (.int sz), .val (.int (cR ns 0)), .val (.int m), .val (.str (sd z i 25)), .val (.lst (tk.map p2)), .val (dW (W1 ++ ow)), .val (cJ E), .val (dW ow), .val (cJ hh1), .no, .no, .no, .no, .no, .no]).bind bU = .ok d /\ _
 rw [cX (c2 rfl rfl ad2)]
 have hW : ∀ x ∈ W1 ++ ow, x.length <= 9 := fun x hx => by
  rcases List.mem_append.mp hx with hx | hx
  ·exact ow1 x hx
  ·exact hon x hx
 have hE : ∀ p ∈ E ++ hh1, p.1.length <= 9 /\ 0 <= p.2 /\ p.2 <= 3 := fun p hp => by
  rcases List.mem_append.mp hp with hp | hp
  ·exact o.e p hp
  ·exact oh1 p hp
 have hWl : (W1 ++ ow).length <= 500 /\ 0 < (W1 ++ ow).length := by rw [List.length_append]; omega
 have hEl : (E ++ hh1).length <= 500 := by rw [List.length_append]; omega
 generalize W1 ++ ow = W2 at hW hWl
 generalize E ++ hh1 = E2 at hE hEl
 show ∃ d, (bB (qT 12) _ [.val (.lst (ns.map .int)), .val (.lst (fs.map oF)), .val (.int i), .val (.int sz), .val (.int (cR ns 0)), .val (.int m), .val (.str (sd z i 25)), .val (.lst (tk.map p2)), .val (dW W2), .val (cJ E2), .val (dW ow), .val (cJ hh1), .no, .no, .no, .no, .no, .no]).bind bU = .ok d /\ _
 rw [cZ (ρ' := [.val (.lst (ns.map .int)), .val (.lst (fs.map oF)), .val (.int i), .val (.int sz), .val (.int (cR ns 0)), .val (.int m), .val (.str (sd z i 25)), .val (.lst (tk.map p2)), .val (dW W2), .val (cJ E2), .val (dW ow), .val (cJ hh1), .own [], .no, .no, .no, .no, .no]) rfl]
 obtain ⟨mk, c13, c14, c15, c16, c17, h1, h2, h3⟩ := cE9 G hz (i := i) bE m hW hWl.2 hWl.1 hE hEl (t0 := .val (.lst (ns.map .int))) (t1 := .val (.lst (fs.map oF))) (t3 := .val (.int sz)) (t6 := .val (.str (sd z i 25))) (t7 := .val (.lst (tk.map p2))) (t10 := .val (dW ow)) (t11 := .val (cJ hh1)) hh1 0 [] .no .no .no .no .no bE (by simp only [List.length_nil]; omega) (fun p hp => (oh1 p hp).2) fun x hx => by cases hx
 have hen : xB (gv 11) [.val (.lst (ns.map .int)), .val (.lst (fs.map oF)), .val (.int i), .val (.int sz), .val (.int (cR ns 0)), .val (.int m), .val (.str (sd z i 25)), .val (.lst (tk.map p2)), .val (dW W2), .val (cJ E2), .val (dW ow), .val (cJ hh1), .own [], .no, .no, .no, .no, .no] = .ok (R.pairD (upTo 0 hh1.length) (hh1.map dP)) := by
  show bD.ok (tF (hh1.map dP)) = _
  unfold tF
  rw [List.length_map]
 rw [cZ (ρ' := [.val (.lst (ns.map .int)), .val (.lst (fs.map oF)), .val (.int i), .val (.int sz), .val (.int (cR ns 0)), .val (.int m), .val (.str (sd z i 25)), .val (.lst (tk.map p2)), .val (dW W2), .val (cJ E2), .val (dW ow), .val (cJ hh1), .own (mk.map fP), c13, c14, c15, c16, c17]) (by rw [vP hen]; exact h1), bL2 rfl]
 show ∃ d, (bB (bI 16 _) _ [.val (.lst (ns.map .int)), .val (.lst (fs.map oF)), .val (.int i), .val (.int sz), .val (.int (cR ns 0)), .val (.int m), .val (.str (sd z i 25)), .val (.lst (tk.map p2)), .val (dW W2), .val (cJ E2), .val (dW ow), .val (cJ hh1), .val (.lst (mk.map fP)), c13, c14, c15, c16, c17]).bind bU = .ok d /\ _
 obtain ⟨P, hP, oP⟩ := plain_of (E := E2) (ρ := [.val (.lst (ns.map .int)), .val (.lst (fs.map oF)), .val (.int i), .val (.int sz), .val (.int (cR ns 0)), .val (.int m), .val (.str (sd z i 25)), .val (.lst (tk.map p2)), .val (dW W2), .val (cJ E2), .val (dW ow), .val (cJ hh1), .val (.lst (mk.map fP)), c13, c14, c15, c16, c17]) bE hE rfl rfl
 rw [cX hP]
 show ∃ d, (bB (bI 17 _) _ [.val (.lst (ns.map .int)), .val (.lst (fs.map oF)), .val (.int i), .val (.int sz), .val (.int (cR ns 0)), .val (.int m), .val (.str (sd z i 25)), .val (.lst (tk.map p2)), .val (dW W2), .val (cJ E2), .val (dW ow), .val (cJ hh1), .val (.lst (mk.map fP)), c13, c14, c15, .val (.lst P), c17]).bind bU = .ok d /\ _
 obtain ⟨ys, hys, ly, _⟩ := yB (g := mA (C .q9) (aC (mA (C .q3) (aC (gv 4) (aC (m2 bO (m2 bO (kc (.int 9)) (gv 5)) (m2 gJ (kc (.int 4)) (gv 0))) (bA)))) (aC (gv 1) (aC (gv 2) (aC (gv 3) (aC (kc (.int 2)) (bA))))))) (rest := [.val (dW W2), .val (cJ E2), .val (.lst P), .val (.lst (ns.map .int)), .val (.int i)]) (Pd := fun _ => True) (upTo 0 sz.toNat) fun x hx => by
  obtain ⟨k, rfl, k0, k1⟩ := yA hx
  obtain ⟨d, hd⟩ := G.stm (cR ns (9 + i + 4 * k)) (cE7 hWl.2 bE hW) (cE8 bE hE) oP
  refine ⟨d, a5 (a2 rfl (c2 (c2 rfl rfl rfl) (c2 rfl rfl (mV (.inl (by decide)))) rfl) (G.mix _ bE)) rfl rfl rfl rfl hd, trivial⟩
 rw [kB] at ly
 rw [cX (gR (ρ := [.val (.lst (ns.map .int)), .val (.lst (fs.map oF)), .val (.int i), .val (.int sz), .val (.int (cR ns 0)), .val (.int m), .val (.str (sd z i 25)), .val (.lst (tk.map p2)), .val (dW W2), .val (cJ E2), .val (dW ow), .val (cJ hh1), .val (.lst (mk.map fP)), c13, c14, c15, .val (.lst P), c17]) (mJ (i := sz) rfl z0 bE) (by rw [kB]; omega) hys)]
 refine ⟨_, nR (a5 rfl (a1 rfl rfl) (a1 rfl rfl) (a1 rfl rfl) (a1 rfl rfl) rfl), ⟨tk, ow, mk, ys, rfl, lt, hol.1, by rw [h2]; simp only [List.length_nil]; omega, h3⟩⟩
end Jm
end
section
namespace Jm
open PySem PySem.Spec PyProof.Rows L2 R
variable [bN]
theorem cF0 {f : ME} {ρ : bJ} {v : Int} (k : Int) (hk : 0 < k /\ k < 1073741824) (h : f ρ = .ok (.int v)) : m2 cE f (kc (.int k)) ρ = .ok (.int (v / k)) := c2 h rfl (by simp [cE, dI, hk])
noncomputable abbrev dU (x : Option Fc × D) : D := .tup [oF x.1, x.2]
structure dT7 (z : Str) (fm : List (Option Fc × D)) : Prop where
 l0 : 0 < fm.length
 l4 : fm.length <= 4
 ok : ∀ x ∈ fm, ∀ g, x.1 = some g -> g.ok
 mb : ∀ x ∈ fm, ∃ i, bD2 z i x.2
 nd : (((fm.map (·.1)).filterMap id).map Fc.nm).Nodup
theorem cF1 {z : Str} {F : Nat -> Option Fc} (hF : ∀ i, i < 4 -> ∀ g, F i = some g -> g.nm = sd z i 25) : ∀ (s c : Nat), s + c <= 4 -> ((((List.range' s c).map F).filterMap id).map Fc.nm).Nodup
 | s, 0, _ => by simp
 | s, c + 1, h => by
  rw [List.range'_succ, List.map_cons]
  have ih := cF1 hF (s + 1) c bE
  cases hs : F s with
  | none => exact ih
  | some g =>
   show (g.nm :: _).Nodup
   rw [List.nodup_cons]
   refine ⟨fun hm => ?_, ih⟩
   obtain ⟨g', hg', e⟩ := List.mem_map.mp hm
   obtain ⟨o, ho, e'⟩ := List.mem_filterMap.mp hg'
   obtain ⟨j, hj, rfl⟩ := List.mem_map.mp ho
   have hj' := List.mem_range'_1.mp hj
   have e1 := hF s bE g hs
   have e2 := hF j bE g' e'
   rw [e1, e2] at e
   have := dS7 bE bE e
   omega
theorem dT8 (n : Nat) (ns : List Int) {z : Str} (hs : ∀ (n : Nat) (un k : Int), 0 <= un -> un < 26 -> 0 <= k -> k < 26 -> Ph (n + 4) .q11 [.int (cR ns 0), .int un, .int k] = .ok (.str (sd z un k))) : Gn (Ph (n + 17)) ns z where
 mix := fun k hk => vQ (n + 13) ns k hk
 sai := fun un k a b c d => hs (n + 13) un k a b c d
 dr := fun nb k hk => vR (n + 14) nb k hk
 blk := fun nb sz h0 h4 _ _ _ hn he hp => let ⟨d, e, ys, h, _⟩ := block_made 2 n nb sz h0 h4 hn he hp; ⟨ys, h ▸ e⟩
 stm := fun nb _ _ _ hn he hp => let ⟨d, e, _⟩ := cB4 2 (n + 1) nb hn he hp; ⟨d, e⟩
 tks := fun h0 hfs nm nb => dT3 (n + 13) h0 hfs nm nb
 sor := fun hfs h4 tk ht => dT4 (n + 14) hfs h4 tk ht
theorem dT9 (n : Nat) (ns : List Int) : ∃ z fm, Ph (n + 19) .q16 [.lst (ns.map .int)] = .ok (.lst (fm.map dU)) /\ dT7 z fm := by
 obtain ⟨z, hz, hs⟩ := dS8 (cR ns 0)
 have c0 : 0 <= cR ns 0 / 7 % 4 := Int.emod_nonneg _ (by decide)
 have c1 : cR ns 0 / 7 % 4 < 4 := Int.emod_lt_of_pos _ (by decide)
 have hf : ∀ i : Nat, ∃ f : Option Fc, i < 4 -> Ph (n + 18) .q12 [.lst (ns.map .int), .int i] = .ok (oF f) /\ ∀ g, f = some g -> g.ok /\ g.nm = sd z i 25 := fun i => by
  by_cases hi : i < 4
  ·obtain ⟨f, h⟩ := dS9 (n + 12) ns hz hs i hi
   exact ⟨f, fun _ => h⟩
  ·exact ⟨none, fun z => absurd z hi⟩
 generalize hc : 1 + cR ns 0 / 7 % 4 = ci at *
 have hcr : 1 <= ci /\ ci <= 4 := by omega
 let F : Nat -> Option Fc := fun i => (hf i).choose
 have hF : ∀ i : Nat, i < 4 -> Ph (n + 18) .q12 [.lst (ns.map .int), .int i] = .ok (oF (F i)) /\ ∀ g, F i = some g -> g.ok /\ g.nm = sd z i 25 := fun i hi => (hf i).choose_spec hi
 let fs : List (Option Fc) := (List.range ci.toNat).map F
 have hfl : fs.length = ci.toNat := by show (List.map _ _).length = _; rw [List.length_map, List.length_range]
 have hfs : ∀ g, some g ∈ fs -> g.ok := fun g hg => by
  obtain ⟨j, hj, e⟩ := List.mem_map.mp hg
  have := kP hj
  exact ((hF j bE).2 g e).1
 obtain ⟨sz, hsz, z0, z9⟩ : ∃ sz : Int, mA xC (aC (kc (.int 9)) (aC (mA tG (aC (kc (.int 1)) (aC (m2 cE (m2 jF (mA cI (aC (gv 0) (bA))) (kc (.int 9))) (kc (.int 4))) (bA)))) (bA))) [.val (.lst (ns.map .int)), .val (.int ci), .val (.lst (fs.map oF)), .no] = .ok (.int sz) /\ 0 <= sz /\ sz <= 9 := by
  have h1 : m2 cE (m2 jF (mA cI (aC (gv 0) (bA))) (kc (.int 9))) (kc (.int 4)) [.val (.lst (ns.map .int)), .val (.int ci), .val (.lst (fs.map oF)), .no] = .ok (.int ((((ns.map D.int).length : Int) - 9) / 4)) := c2 (c2 (a1 rfl rfl) rfl rfl) rfl (by simp [cE, dI])
  generalize (((ns.map D.int).length : Int) - 9) / 4 = q at h1
  refine ⟨_, a2 rfl (a2 rfl h1 rfl) rfl, ?_, ?_⟩
  ·split <;> split <;> omega
  ·split <;> split <;> omega
 have hd : ∀ i : Nat, ∃ d, i < ci.toNat -> Ph (n + 18) .q15 [.lst (ns.map .int), .lst (fs.map oF), .int i, .int sz] = .ok d /\ bD2 z i d := fun i => by
  by_cases hi : i < ci.toNat
  ·obtain ⟨d, h⟩ := dT6 (C' := Ph (n + 15)) (dT8 n ns hs) hz hfs bE i bE sz z0 z9
   exact ⟨d, fun _ => h⟩
  ·exact ⟨.non, fun z => absurd z hi⟩
 let M : Nat -> D := fun i => (hd i).choose
 have hM : ∀ i : Nat, i < ci.toNat -> Ph (n + 18) .q15 [.lst (ns.map .int), .lst (fs.map oF), .int i, .int sz] = .ok (M i) /\ bD2 z i (M i) := fun i hi => (hd i).choose_spec hi
 refine ⟨z, (List.range ci.toNat).map fun j => (F j, M j), ?_, ?_⟩
 ·show ((bB7 (Ph (n + 18)) (Ph (n + 16))) [.val (.lst (ns.map .int)), .no, .no, .no]).bind bU = _
  unfold bB7
  rw [cX (d := .int ci) (c2 rfl (jB 4 (by decide) (cF0 7 (by decide) (a2 rfl rfl (vQ (n + 14) ns 0 bE)))) (by rw [<- hc]; rfl))]
  show (bB _ _ [.val (.lst (ns.map .int)), .val (.int ci), .no, .no]).bind bU = _
  rw [cX (d := .lst (fs.map oF)) (gR (mJ (i := ci) rfl bE bE) (by rw [kB]; omega) (by
   show _ = bD.ok (((List.range ci.toNat).map F).map oF)
   rw [sD, List.map_map]
   refine nA _ fun j hj => a2 rfl rfl ?_
   have := kP hj
   have h := (hF j bE).1
   simp only [Int.zero_add]
   exact h))]
  show (bB _ _ [.val (.lst (ns.map .int)), .val (.int ci), .val (.lst (fs.map oF)), .no]).bind bU = _
  rw [cX hsz]
  show (cC _ [.val (.lst (ns.map .int)), .val (.int ci), .val (.lst (fs.map oF)), .val (.int sz)]).bind bU = _
  refine nR (gR (mJ (i := ci) rfl bE bE) (by rw [kB]; omega) ?_)
  rw [sD]
  refine (nA (val := fun j => dU (F j, M j)) _ fun j hj => ?_).trans (by rw [List.map_map]; rfl)
  have hlt := kP hj
  have h := (hM j hlt).1
  simp only [Int.zero_add]
  refine a2 (c2 rfl rfl (nS j (oF (F j)) ?_)) (a4 rfl rfl rfl rfl h) rfl
  show (((List.range ci.toNat).map F).map oF)[j]? = _
  rw [List.getElem?_map, List.getElem?_map, List.getElem?_range hlt]; rfl
 ·refine ⟨?_, ?_, fun x hx => ?_, fun x hx => ?_, ?_⟩
  ·rw [List.length_map, List.length_range]; omega
  ·rw [List.length_map, List.length_range]; omega
  ·obtain ⟨j, hj, rfl⟩ := List.mem_map.mp hx
   have := kP hj
   exact fun g e => ((hF j bE).2 g e).1
  ·obtain ⟨j, hj, rfl⟩ := List.mem_map.mp hx
   exact ⟨j, (hM j (kP hj)).2⟩
  ·rw [List.map_map]
   have := cF1 (z := z) (F := F) (fun i hi g e => ((hF i hi).2 g e).2) 0 ci.toNat bE
   rw [<- List.range_eq_range'] at this
   exact this
end Jm
end
section
namespace Jm
open PySem PySem.Spec PyProof.Rows L2 R
variable [bN]
theorem vX {f g : ME} {ρ : bJ} {xs : List D} {k : Int} (h : f ρ = .ok (.tup xs)) (hg : g ρ = .ok (.int k)) : gQ f (gU) (gW g) ρ = .ok (.tup (fG xs none (some k))) := by
 simp [gQ, gU, gW, h, hg, bD.bind, bH0, sX]
theorem cF2 {f g : ME} {ρ : bJ} {xs : List D} {k : Int} (h : f ρ = .ok (.tup xs)) (hg : g ρ = .ok (.int k)) : gQ f (gW g) (gU) ρ = .ok (.tup (fG xs (some k) none)) := by
 simp [gQ, gU, gW, h, hg, bD.bind, bH0, sX]
theorem bM9 {xs : List D} (k : Nat) : (fG xs none (some (k : Int))).length <= k := by
 unfold fG
 rw [List.length_take, HT.sIx_nat, HT.sIx_none]
 omega
theorem bD3 (n : Nat) (xs : List D) (k : Int) (x : D) (h : xs.length <= 400) : ∃ ys, Ph (n + 3) .q17 [.tup xs, .int k, x] = .ok (.tup ys) /\ (∀ y ∈ ys, y ∈ xs \/ y = x) /\ ys.length <= 2 * xs.length + 1 := by
 have l1 := sW xs none (some (k % ((xs.length : Int) + 1)))
 have l2 := sW xs (some (k % ((xs.length : Int) + 1))) none
 refine ⟨(fG xs none (some (k % ((xs.length : Int) + 1))) ++ [x]) ++ fG xs (some (k % ((xs.length : Int) + 1))) none, ?_, fun y hy => ?_, ?_⟩
 ·show ((bB8 (Ph (n + 2)) (Ph n)) [.val (.tup xs), .val (.int k), .val x, .no]).bind bU = _
  unfold bB8
  rw [cX (c2 rfl (c2 (a1 rfl rfl) rfl rfl) (qG bE))]
  show (cC _ [.val (.tup xs), .val (.int k), .val x, .val (.int (k % ((xs.length : Int) + 1)))]).bind bU = _
  refine nR (c2 (c2 (vX rfl rfl) (a1 rfl rfl) (xZ (by simp only [List.length_cons, List.length_nil]; omega))) (cF2 rfl rfl) (xZ (by rw [List.length_append]; simp only [List.length_cons, List.length_nil]; omega)))
 ·rcases List.mem_append.mp hy with hy | hy
  ·rcases List.mem_append.mp hy with hy | hy
   ·exact .inl (pZ hy)
   ·exact .inr (List.mem_singleton.mp hy)
  ·exact .inl (pZ hy)
 ·rw [List.length_append, List.length_append]; simp only [List.length_cons, List.length_nil]; omega
theorem dU0 (n : Nat) (xs : List D) (k : Int) (h : xs.length <= 400) : ∃ ys, Ph (n + 3) .q18 [.tup xs, .int k] = .ok (.tup ys) /\ (∀ y ∈ ys, y ∈ xs) /\ ys.length <= 2 * xs.length := by
 let w : Int := if (xs.length : Int) > 1 then (xs.length : Int) else 1
 have hw : 0 < w := by show 0 < (if (xs.length : Int) > 1 then (xs.length : Int) else 1); split <;> omega
 have l1 := sW xs none (some (k % w))
 have l2 := sW xs (some (k % w + 1)) none
 refine ⟨fG xs none (some (k % w)) ++ fG xs (some (k % w + 1)) none, ?_, fun y hy => ?_, by rw [List.length_append]; omega⟩
 ·show ((bB9 (Ph (n + 2)) (Ph n)) [.val (.tup xs), .val (.int k), .no]).bind bU = _
  unfold bB9
  rw [cX (d := .int (k % w)) (c2 rfl (a2 rfl (a1 rfl rfl) rfl) (qG hw))]
  show (cC _ [.val (.tup xs), .val (.int k), .val (.int (k % w))]).bind bU = _
  exact nR (c2 (vX rfl rfl) (cF2 rfl (c2 rfl rfl rfl)) (xZ bE))
 ·rcases List.mem_append.mp hy with hy | hy
  ·exact pZ hy
  ·exact pZ hy
theorem yG {α : Type} {dat : α -> D} {Q : α -> Prop} : ∀ ys : List D, (∀ y ∈ ys, ∃ x, y = dat x /\ Q x) -> ∃ xs : List α, ys = xs.map dat /\ ∀ x ∈ xs, Q x
 | [], _ => ⟨[], rfl, fun x hx => by cases hx⟩
 | y :: r, h => by
  obtain ⟨x, rfl, hx⟩ := h y List.mem_cons_self
  obtain ⟨xs, rfl, hr⟩ := yG r fun z hz => h z (List.mem_cons_of_mem _ hz)
  exact ⟨x :: xs, rfl, fun z hz => by
   rcases List.mem_cons.mp hz with rfl | hz
   ·exact hx
   ·exact hr z hz⟩
def Pk (y : D) : Prop := ∃ p : Str × Str, y = p2 p /\ True
def Sk (y : D) : Prop := ∃ s : Str, y = .str s /\ True
def Dk (y : D) : Prop := ∃ x : Dh, y = x.d /\ x.ps.length <= 10
noncomputable abbrev bN0 (C : CT) : MS := bM (mB (m2 dH (gv 9) (kc (.int 4)))) (bB (bI 12 (m2 bF (mA jU (aC (gv 2) (aC (gv 4) (aC (kc (.str "yy")) (aC (gv 2) (bA)))))) (gv 9))) (bI 5 (mA (C .q17) (aC (gv 5) (aC (m2 cE (gv 3) (kc (.int 7))) (aC (mA bK (aC (gv 12) (aC (gv 11) (bA)))) (bA))))))) (bM (dM (mB (m2 dH (gv 9) (kc (.int 6)))) (mB (m2 kI (mA cI (aC (gv 5) (bA))) (kc (.int 0))))) (bI 5 (mA (C .q17) (aC (gv 5) (aC (m2 cE (gv 3) (kc (.int 7))) (aC (m2 bF (gv 5) (m2 bP (gv 3) (mA cI (aC (gv 5) (bA))))) (bA)))))) (bM (dM (mB (m2 dH (gv 9) (kc (.int 8)))) (mB (m2 dH (mA cI (aC (gv 6) (bA))) (kc (.int 6))))) (bI 6 (mA (C .q17) (aC (gv 6) (aC (m2 cE (gv 3) (kc (.int 7))) (aC (gv 11) (bA)))))) (bM (dM (mB (m2 dH (gv 9) (kc (.int 10)))) (mB (m2 dH (mA cI (aC (gv 7) (bA))) (kc (.int 6))))) (bI 7 (mA (C .q17) (aC (gv 7) (aC (m2 cE (gv 3) (kc (.int 7))) (aC (mA bK (aC (gv 11) (aC (gQ (mA bK (aC (kc (.str "xx")) (aC (kc (.str "ww")) (bA)))) (gU) (gW (m2 bP (m2 cE (gv 3) (kc (.int 5))) (kc (.int 3))))) (aC (mA bK (bA)) (aC (mA bK (bA)) (bA)))))) (bA)))))) (bM (mB (m2 cD (gv 9) (kc (.int 10)))) (bI 7 (mA (C .q18) (aC (gv 7) (aC (m2 cE (gv 3) (kc (.int 7))) (bA))))) (bQ)))))
theorem vY {i : Nat} {f : ME} {ρ : bJ} {d : D} (h : f ρ = .ok d) : bI i f ρ = .ok (.nx (ρ.set i (.val d))) := by
 unfold bI; rw [h]; rfl
theorem dU1 (n : Nat) {U F b10 : Slot} (other nm one : Str) (q kd : Int) (k0 : 0 <= kd) (TK WS DS : List D) (l1 : TK.length <= 10) (l2 : WS.length <= 10) (l3 : DS.length <= 10) (h1 : ∀ y ∈ TK, Pk y) (h2 : ∀ y ∈ WS, Sk y) (h3 : ∀ y ∈ DS, Dk y) :
 ∃ (TK' WS' DS' : List D) (b12 : Slot), bN0 (Ph (n + 3)) [U, F, .val (.str other), .val (.int q), .val (.str nm), .val (.tup TK), .val (.tup WS), .val (.tup DS), .val (.tup []), .val (.int kd), b10, .val (.str one), .no] = .ok (.nx [U, F, .val (.str other), .val (.int q), .val (.str nm), .val (.tup TK'), .val (.tup WS'), .val (.tup DS'), .val (.tup []), .val (.int kd), b10, .val (.str one), b12]) /\ (∀ y ∈ TK', Pk y) /\ (∀ y ∈ WS', Sk y) /\ (∀ y ∈ DS', Dk y) := by
 have t1 : mB (m2 dH (gv 9) (kc (.int 4))) [U, F, .val (.str other), .val (.int q), .val (.str nm), .val (.tup TK), .val (.tup WS), .val (.tup DS), .val (.tup []), .val (.int kd), b10, .val (.str one), .no] = .ok (decide (kd < 4)) := nV 4 rfl
 unfold bN0
 by_cases c1 : kd < 4
 ·rw [fX (t1.trans (by rw [decide_eq_true c1]))]
  obtain ⟨s, hs⟩ : ∃ s : Str, bF (.lst [.str other, .str nm, .str "yy", .str other]) (.int kd) = .ok (.str s) := by
   have : kd = 0 \/ kd = 1 \/ kd = 2 \/ kd = 3 := by omega
   rcases this with rfl | rfl | rfl | rfl
   ·exact ⟨_, nS 0 _ rfl⟩
   ·exact ⟨_, nS 1 _ rfl⟩
   ·exact ⟨_, nS 2 _ rfl⟩
   ·exact ⟨_, nS 3 _ rfl⟩
  rw [cX (c2 (a4 rfl rfl rfl rfl rfl) rfl hs)]
  obtain ⟨ys, e, hy, _⟩ := bD3 n TK (q / 7) (p2 (s, one)) bE
  refine ⟨ys, WS, DS, .val (.str s), (vY (a3 rfl (hJ 7 (by decide) rfl) (a2 rfl rfl rfl) e)).trans rfl, fun y hy' => ?_, h2, h3⟩
  rcases hy y hy' with h | h
  ·exact h1 y h
  ·exact ⟨(s, one), h, trivial⟩
 rw [kC (t1.trans (by rw [decide_eq_false c1]))]
 have t2 : dM (mB (m2 dH (gv 9) (kc (.int 6)))) (mB (m2 kI (mA cI (aC (gv 5) (bA))) (kc (.int 0)))) [U, F, .val (.str other), .val (.int q), .val (.str nm), .val (.tup TK), .val (.tup WS), .val (.tup DS), .val (.tup []), .val (.int kd), b10, .val (.str one), .no] = .ok (decide (kd < 6) && decide ((0 : Int) < (TK.length : Int))) := cA (nV 6 rfl) fun _ => gtv 0 (a1 rfl rfl)
 cases c2' : (decide (kd < 6) && decide ((0 : Int) < (TK.length : Int))) with
 | true =>
  rw [fX (t2.trans (by rw [c2']))]
  rw [Bool.and_eq_true, decide_eq_true_eq, decide_eq_true_eq] at c2'
  obtain ⟨x, ex, mx⟩ := nU (xs := TK) (i := q) bE
  obtain ⟨ys, e, hy, _⟩ := bD3 n TK (q / 7) x bE
  refine ⟨ys, WS, DS, .no, (vY (a3 rfl (hJ 7 (by decide) rfl) (c2 (y := .int (q % (TK.length : Int))) rfl (c2 rfl (a1 rfl rfl) (qG bE)) (by simp only [bF, ex])) e)).trans rfl, fun y hy' => ?_, h2, h3⟩
  rcases hy y hy' with h | h
  ·exact h1 y h
  ·rw [h]; exact h1 x mx
 | false =>
  rw [kC (t2.trans (by rw [c2']))]
  have t3 : dM (mB (m2 dH (gv 9) (kc (.int 8)))) (mB (m2 dH (mA cI (aC (gv 6) (bA))) (kc (.int 6)))) [U, F, .val (.str other), .val (.int q), .val (.str nm), .val (.tup TK), .val (.tup WS), .val (.tup DS), .val (.tup []), .val (.int kd), b10, .val (.str one), .no] = .ok (decide (kd < 8) && decide ((WS.length : Int) < 6)) := cA (nV 8 rfl) fun _ => nV 6 (a1 rfl rfl)
  cases c3 : (decide (kd < 8) && decide ((WS.length : Int) < 6)) with
  | true =>
   rw [fX (t3.trans (by rw [c3]))]
   obtain ⟨ys, e, hy, _⟩ := bD3 n WS (q / 7) (.str one) bE
   refine ⟨TK, ys, DS, .no, (vY (a3 rfl (hJ 7 (by decide) rfl) rfl e)).trans rfl, h1, fun y hy' => ?_, h3⟩
   rcases hy y hy' with h | h
   ·exact h2 y h
   ·exact ⟨one, h, trivial⟩
  | false =>
   rw [kC (t3.trans (by rw [c3]))]
   have t4 : dM (mB (m2 dH (gv 9) (kc (.int 10)))) (mB (m2 dH (mA cI (aC (gv 7) (bA))) (kc (.int 6)))) [U, F, .val (.str other), .val (.int q), .val (.str nm), .val (.tup TK), .val (.tup WS), .val (.tup DS), .val (.tup []), .val (.int kd), b10, .val (.str one), .no] = .ok (decide (kd < 10) && decide ((DS.length : Int) < 6)) := cA (nV 10 rfl) fun _ => nV 6 (a1 rfl rfl)
   cases c4 : (decide (kd < 10) && decide ((DS.length : Int) < 6)) with
   | true =>
    rw [fX (t4.trans (by rw [c4]))]
    obtain ⟨ps, hps, lps⟩ := yG (dat := D.str) (Q := fun _ => True) (fG [.str "xx", .str "ww"] none (some (q / 5 % 3))) fun y hy => by
     have := pZ hy
     simp only [List.mem_cons, List.not_mem_nil, or_false] at this
     rcases this with rfl | rfl
     ·exact ⟨_, rfl, trivial⟩
     ·exact ⟨_, rfl, trivial⟩
    have lp : ps.length <= 2 := by
     have := sW [D.str "xx", .str "ww"] none (some (q / 5 % 3))
     rw [hps, List.length_map] at this
     exact this
    obtain ⟨ys, e, hy, _⟩ := bD3 n DS (q / 7) (Dh.mk one ps).d bE
    refine ⟨TK, WS, ys, .no, (vY (a3 rfl (hJ 7 (by decide) rfl) (a4 rfl ((vX (a2 rfl rfl rfl) (jB 3 (by decide) (hJ 5 (by decide) rfl))).trans (by rw [hps])) rfl rfl rfl) e)).trans rfl, h1, h2, fun y hy' => ?_⟩
    rcases hy y hy' with h | h
    ·exact h3 y h
    ·exact ⟨_, h, by show ps.length <= 10; omega⟩
   | false =>
    rw [kC (t4.trans (by rw [c4]))]
    have t5 : mB (m2 cD (gv 9) (kc (.int 10))) [U, F, .val (.str other), .val (.int q), .val (.str nm), .val (.tup TK), .val (.tup WS), .val (.tup DS), .val (.tup []), .val (.int kd), b10, .val (.str one), .no] = .ok (kd == 10) := lU 10 rfl
    cases c5 : (kd == 10) with
    | true =>
     rw [fX (t5.trans (by rw [c5]))]
     obtain ⟨ys, e, hy, _⟩ := dU0 n DS (q / 7) bE
     exact ⟨TK, WS, ys, .no, (vY (a2 rfl (hJ 7 (by decide) rfl) e)).trans rfl, h1, h2, fun y hy' => h3 y (hy y hy')⟩
    | false =>
     rw [kC (t5.trans (by rw [c5]))]
     exact ⟨TK, WS, DS, .no, rfl, h1, h2, h3⟩
theorem dU2 (n : Nat) (u0 : Un) (f : Option Fc) (hf : ∀ g, f = some g -> g.ok) (other : Str) (nb : Int) (lt : u0.tk.length <= 6) (lw : u0.ws.length <= 3) (ld : u0.ds.length <= 4) (lp : ∀ x ∈ u0.ds, x.ps.length <= 3) : ∃ u : Un, Ph (n + 4) .q19 [u0.d, oF f, .str other, .int nb] = .ok u.d /\ u.ok := by
 show ∃ u : Un, ((bC0 (Ph (n + 3)) (Ph (n + 1))) [.val u0.d, .val (oF f), .val (.str other), .val (.int nb), .no, .no, .no, .no, .no, .no, .no, .no, .no]).bind bU = .ok u.d /\ _
 unfold bC0
 rw [cZ (ρ' := [.val u0.d, .val (oF f), .val (.str other), .val (.int nb), .val (.str u0.nm), .val (.tup (u0.tk.map p2)), .val (.tup (u0.ws.map .str)), .val (.tup (u0.ds.map Dh.d)), .val (.tup []), .no, .no, .no, .no]) rfl,
  cX (jB 12 (by decide) rfl)]
 show ∃ u : Un, (bB (bI 3 _) _ [.val u0.d, .val (oF f), .val (.str other), .val (.int nb), .val (.str u0.nm), .val (.tup (u0.tk.map p2)), .val (.tup (u0.ws.map .str)), .val (.tup (u0.ds.map Dh.d)), .val (.tup []), .val (.int (nb % 12)), .no, .no, .no]).bind bU = .ok u.d /\ _
 rw [cX (hJ 12 (by decide) rfl)]
 have e1 : mA jW (aC (gv 6) (bA)) [.val u0.d, .val (oF f), .val (.str other), .val (.int (nb / 12)), .val (.str u0.nm), .val (.tup (u0.tk.map p2)), .val (.tup (u0.ws.map .str)), .val (.tup (u0.ds.map Dh.d)), .val (.tup []), .val (.int (nb % 12)), .no, .no, .no] = .ok (.lst (u0.ws.map .str)) := a1 rfl rfl
 have e2 : dB [] (bV (gv 7)) (fun _ => .ok true) (m2 bF (gv 0) (kc (.int 0))) [.val u0.d, .val (oF f), .val (.str other), .val (.int (nb / 12)), .val (.str u0.nm), .val (.tup (u0.tk.map p2)), .val (.tup (u0.ws.map .str)), .val (.tup (u0.ds.map Dh.d)), .val (.tup []), .val (.int (nb % 12)), .no, .no, .no] = .ok (.lst (u0.ds.map fun x => .str x.nm)) := gR (gZ rfl) (by rw [List.length_map]; omega) (nA _ fun x _ => c2 (x := x.d) (y := .int 0) rfl rfl (cQ 0 _ rfl))
 have e3 : dB [] (bV (gv 5)) (dJ (fun _ => .ok true)) (dJ (gv 1)) [.val u0.d, .val (oF f), .val (.str other), .val (.int (nb / 12)), .val (.str u0.nm), .val (.tup (u0.tk.map p2)), .val (.tup (u0.ws.map .str)), .val (.tup (u0.ds.map Dh.d)), .val (.tup []), .val (.int (nb % 12)), .no, .no, .no] = .ok (.lst (u0.tk.map fun p => .str p.2)) := gR (gZ rfl) (by rw [List.length_map]; omega) (by
  have := nX (p := dJ (fun _ => .ok true)) (g := dJ (gv 1)) (rest := []) (dat := p2) (val := fun p : Str × Str => .str p.2) (q := fun _ => true) (fun _ => rfl) (fun _ _ => rfl) u0.tk
  rw [List.filter_eq_self.mpr fun _ _ => rfl] at this
  exact this)
 obtain ⟨L, eL, L0, Ls, Ll⟩ : ∃ L : List D, m2 bO (m2 bO (m2 bO (mA jW (aC (gv 6) (bA))) (dB [] (bV (gv 7)) (fun _ => .ok true) (m2 bF (gv 0) (kc (.int 0))))) (dB [] (bV (gv 5)) (dJ (fun _ => .ok true)) (dJ (gv 1)))) (mA jU (aC (kc (.str "zz")) (bA))) [.val u0.d, .val (oF f), .val (.str other), .val (.int (nb / 12)), .val (.str u0.nm), .val (.tup (u0.tk.map p2)), .val (.tup (u0.ws.map .str)), .val (.tup (u0.ds.map Dh.d)), .val (.tup []), .val (.int (nb % 12)), .no, .no, .no] = .ok (.lst L) /\ 0 < L.length /\ (∀ y ∈ L, Sk y) /\ L.length <= 20 := by
  refine ⟨_, c2 (c2 (c2 e1 e2 (lK ?_)) e3 (lK ?_)) (a1 rfl rfl) (lK ?_), ?_, fun y hy => ?_, ?_⟩
  ·simp only [List.length_map]; omega
  ·simp only [List.length_append, List.length_map]; omega
  ·simp only [List.length_append, List.length_map, List.length_cons, List.length_nil]; omega
  ·simp only [List.length_append, List.length_cons]; omega
  ·rcases List.mem_append.mp hy with hy | hy
   ·rcases List.mem_append.mp hy with hy | hy
    ·rcases List.mem_append.mp hy with hy | hy
     ·obtain ⟨x, _, rfl⟩ := List.mem_map.mp hy; exact ⟨_, rfl, trivial⟩
     ·obtain ⟨x, _, rfl⟩ := List.mem_map.mp hy; exact ⟨_, rfl, trivial⟩
    ·obtain ⟨x, _, rfl⟩ := List.mem_map.mp hy; exact ⟨_, rfl, trivial⟩
   ·exact ⟨_, List.mem_singleton.mp hy, trivial⟩
  ·simp only [List.length_append, List.length_map, List.length_cons, List.length_nil]; omega
 show ∃ u : Un, (bB (bI 10 _) _ [.val u0.d, .val (oF f), .val (.str other), .val (.int (nb / 12)), .val (.str u0.nm), .val (.tup (u0.tk.map p2)), .val (.tup (u0.ws.map .str)), .val (.tup (u0.ds.map Dh.d)), .val (.tup []), .val (.int (nb % 12)), .no, .no, .no]).bind bU = .ok u.d /\ _
 rw [cX eL]
 obtain ⟨L2, eI, M0, Ms⟩ : ∃ L2 : List D, bM (mB (m2 (dO true) (gv 1) (kc .non))) (bI 10 (m2 bO (gv 10) (mA jW (aC (m2 bF (gv 1) (kc (.int 1))) (bA))))) (bQ) [.val u0.d, .val (oF f), .val (.str other), .val (.int (nb / 12)), .val (.str u0.nm), .val (.tup (u0.tk.map p2)), .val (.tup (u0.ws.map .str)), .val (.tup (u0.ds.map Dh.d)), .val (.tup []), .val (.int (nb % 12)), .val (.lst L), .no, .no] = .ok (.nx [.val u0.d, .val (oF f), .val (.str other), .val (.int (nb / 12)), .val (.str u0.nm), .val (.tup (u0.tk.map p2)), .val (.tup (u0.ws.map .str)), .val (.tup (u0.ds.map Dh.d)), .val (.tup []), .val (.int (nb % 12)), .val (.lst L2), .no, .no]) /\ 0 < L2.length /\ ∀ y ∈ L2, Sk y := by
  cases f with
  | none => exact ⟨L, by rw [kC (cB (c2 (x := .non) (y := .non) rfl rfl rfl))]; rfl, L0, Ls⟩
  | some g =>
   have w1 := (hf g rfl).lw
   refine ⟨L ++ g.ws.map .str, ?_, by rw [List.length_append]; omega, fun y hy => ?_⟩
   ·rw [fX (cB (c2 (x := g.d) (y := .non) rfl rfl rfl))]
    exact (vY (c2 rfl (a1 (c2 (x := g.d) (y := .int 1) rfl rfl (cQ 1 _ rfl)) rfl) (lK (by rw [List.length_map]; omega)))).trans rfl
   ·rcases List.mem_append.mp hy with hy | hy
    ·exact Ls y hy
    ·obtain ⟨x, _, rfl⟩ := List.mem_map.mp hy; exact ⟨_, rfl, trivial⟩
 show ∃ u : Un, (bB (bM _ _ bQ) _ [.val u0.d, .val (oF f), .val (.str other), .val (.int (nb / 12)), .val (.str u0.nm), .val (.tup (u0.tk.map p2)), .val (.tup (u0.ws.map .str)), .val (.tup (u0.ds.map Dh.d)), .val (.tup []), .val (.int (nb % 12)), .val (.lst L), .no, .no]).bind bU = .ok u.d /\ _
 rw [cZ eI]
 obtain ⟨x, ex, mx⟩ := nU (xs := L2) (i := nb / 12) M0
 obtain ⟨one, rfl, _⟩ := Ms x mx
 rw [cX (d := .str one) (c2 (y := .int (nb / 12 % (L2.length : Int))) rfl (c2 rfl (a1 rfl rfl) (qG bE)) (by simp only [bF, ex]))]
 obtain ⟨TK, WS, DS, b12, hc, g1, g2, g3⟩ := dU1 n (U := .val u0.d) (F := .val (oF f)) (b10 := .val (.lst L2)) other u0.nm one (nb / 12) (nb % 12) (Int.emod_nonneg _ (by decide)) (u0.tk.map p2) (u0.ws.map .str) (u0.ds.map Dh.d) (by rw [List.length_map]; omega) (by rw [List.length_map]; omega) (by rw [List.length_map]; omega)
  (fun y hy => by obtain ⟨x, _, rfl⟩ := List.mem_map.mp hy; exact ⟨_, rfl, trivial⟩) (fun y hy => by obtain ⟨x, _, rfl⟩ := List.mem_map.mp hy; exact ⟨_, rfl, trivial⟩) (fun y hy => by obtain ⟨x, hx, rfl⟩ := List.mem_map.mp hy; exact ⟨_, rfl, by have := lp x hx; omega⟩)
 show ∃ u : Un, (bB (bN0 (Ph (n + 3))) _ [.val u0.d, .val (oF f), .val (.str other), .val (.int (nb / 12)), .val (.str u0.nm), .val (.tup (u0.tk.map p2)), .val (.tup (u0.ws.map .str)), .val (.tup (u0.ds.map Dh.d)), .val (.tup []), .val (.int (nb % 12)), .val (.lst L2), .val (.str one), .no]).bind bU = .ok u.d /\ _
 rw [cZ hc]
 obtain ⟨tk, q1, _⟩ := yG (dat := p2) (Q := fun _ => True) (fG TK none (some 8)) fun y hy => g1 y (pZ hy)
 obtain ⟨ws, q2, _⟩ := yG (dat := D.str) (Q := fun _ => True) (fG WS none (some 6)) fun y hy => g2 y (pZ hy)
 obtain ⟨ds, q3, r3⟩ := yG (dat := Dh.d) (Q := fun x => x.ps.length <= 10) (fG DS none (some 6)) fun y hy => g3 y (pZ hy)
 have n1 := bM9 (xs := TK) 8
 have n2 := bM9 (xs := WS) 6
 have n3 := bM9 (xs := DS) 6
 have v1 : gQ (gv 5) (gU) (gW (kc (.int 8))) [.val u0.d, .val (oF f), .val (.str other), .val (.int (nb / 12)), .val (.str u0.nm), .val (.tup TK), .val (.tup WS), .val (.tup DS), .val (.tup []), .val (.int (nb % 12)), .val (.lst L2), .val (.str one), b12] = .ok (.tup (tk.map p2)) := by rw [vX (xs := TK) (k := 8) rfl rfl, q1]
 have v2 : gQ (gv 6) (gU) (gW (kc (.int 6))) [.val u0.d, .val (oF f), .val (.str other), .val (.int (nb / 12)), .val (.str u0.nm), .val (.tup TK), .val (.tup WS), .val (.tup DS), .val (.tup []), .val (.int (nb % 12)), .val (.lst L2), .val (.str one), b12] = .ok (.tup (ws.map .str)) := by rw [vX (xs := WS) (k := 6) rfl rfl, q2]
 have v3 : gQ (gv 7) (gU) (gW (kc (.int 6))) [.val u0.d, .val (oF f), .val (.str other), .val (.int (nb / 12)), .val (.str u0.nm), .val (.tup TK), .val (.tup WS), .val (.tup DS), .val (.tup []), .val (.int (nb % 12)), .val (.lst L2), .val (.str one), b12] = .ok (.tup (ds.map Dh.d)) := by rw [vX (xs := DS) (k := 6) rfl rfl, q3]
 refine ⟨⟨u0.nm, tk, ws, ds⟩, nR (a5 rfl v1 v2 v3 rfl rfl), ?_, ?_, ?_, r3⟩
 ·have e := congrArg List.length q1
  rw [List.length_map] at e
  show tk.length <= 9
  have : (fG TK none (some (8 : Int))).length <= 8 := n1
  omega
 ·have e := congrArg List.length q2
  rw [List.length_map] at e
  show ws.length <= 6
  have : (fG WS none (some (6 : Int))).length <= 6 := n2
  omega
 ·have e := congrArg List.length q3
  rw [List.length_map] at e
  show ds.length <= 6
  have : (fG DS none (some (6 : Int))).length <= 6 := n3
  omega
end Jm
end
section
namespace Jm
open PySem PySem.Spec PyProof.Rows L2 R
variable [bN]
noncomputable abbrev bN1 : MS := bM (mB (m2 (dO true) (gv 8) (kc .non))) (fH 7 (m2 bF (gv 8) (kc (.int 0))) (gv 8)) (bQ)
theorem bN2 {s0 s1 s2 s3 s4 s5 s6 s10 s11 s12 : Slot} : ∀ (fm : List (Option Fc × D)) (T : R.Tab) (a b : Slot), (((fm.map (·.1)).filterMap id).map Fc.nm).Nodup -> (∀ g ∈ (fm.map (·.1)).filterMap id, g.nm ∉ ks T) -> T.length + fm.length <= 1000 ->
 ∃ a' b', dR 8 9 bN1 (fm.map dU) [s0, s1, s2, s3, s4, s5, s6, .dic false T, a, b, s10, s11, s12] = .ok (.nx [s0, s1, s2, s3, s4, s5, s6, .dic false (T ++ fT (fm.map (·.1))), a', b', s10, s11, s12])
 | [], T, a, b, _, _, _ => ⟨a, b, by
  show bD.ok _ = bD.ok (Fl.nx [s0, s1, s2, s3, s4, s5, s6, .dic false (T ++ []), a, b, s10, s11, s12])
  rw [List.append_nil]⟩
 | (none, d) :: r, T, a, b, hn, hf, hl => by
  simp only [List.length_cons] at hl
  obtain ⟨a', b', h⟩ := bN2 (s0 := s0) (s1 := s1) (s2 := s2) (s3 := s3) (s4 := s4) (s5 := s5) (s6 := s6) (s10 := s10) (s11 := s11) (s12 := s12) r T (.val .non) (.val d) hn hf bE
  refine ⟨a', b', ?_⟩
  rw [List.map_cons, rN (ρ' := [s0, s1, s2, s3, s4, s5, s6, .dic false T, .val .non, .val d, s10, s11, s12])]
  ·exact h
  ·exact kC (cB (c2 (x := .non) (y := .non) rfl rfl rfl))
 | (some g, d) :: r, T, a, b, hn, hf, hl => by
  simp only [List.length_cons] at hl
  have hn' : (g.nm :: ((r.map (·.1)).filterMap id).map Fc.nm).Nodup := hn
  have hg : g.nm ∉ ks T := hf g (List.mem_cons_self ..)
  obtain ⟨a', b', h⟩ := bN2 (s0 := s0) (s1 := s1) (s2 := s2) (s3 := s3) (s4 := s4) (s5 := s5) (s6 := s6) (s10 := s10) (s11 := s11) (s12 := s12) r (T ++ [(g.nm, g.d)]) (.val g.d) (.val d) (List.nodup_cons.mp hn').2 (fun g' hg' hm => by
   rw [ks, List.map_append, List.mem_append] at hm
   rcases hm with hm | hm
   ·exact hf g' (List.mem_cons_of_mem _ hg') hm
   ·have e : g'.nm = g.nm := by simpa using hm
    exact (List.nodup_cons.mp hn').1 (by rw [<- e]; exact List.mem_map_of_mem hg')) (by rw [List.length_append]; simp only [List.length_cons, List.length_nil]; omega)
  refine ⟨a', b', ?_⟩
  rw [List.map_cons, rN (ρ' := [s0, s1, s2, s3, s4, s5, s6, .dic false (T ++ [(g.nm, g.d)]), .val g.d, .val d, s10, s11, s12]), h, List.append_assoc]
  ·rfl
  ·show bN1 [s0, s1, s2, s3, s4, s5, s6, .dic false T, .val g.d, .val d, s10, s11, s12] = _
   unfold bN1
   rw [fX (cB (c2 (x := g.d) (y := .non) rfl rfl rfl)), mG (k := g.nm) (T := T) (v := g.d) (c2 (x := g.d) (y := .int 0) rfl rfl (cQ 0 _ rfl)) rfl rfl bE, bC7 _ hg]
   rfl
theorem cF3 : ∀ T : R.Tab, (∀ p ∈ T, gD p.2 <= 50) -> R.eqT T T = true
 | [], _ => rfl
 | p :: r, h => by
  unfold R.eqT
  rw [cF3 r fun q hq => h q (List.mem_cons_of_mem _ hq), wU, decide_eq_true (h p List.mem_cons_self)]
  simp
theorem bN3 : ∀ (ds : List Dh) (aw : List (Str × Int)) (ks : List Str), fW aw ds ks = .non \/ ∃ w x, fW aw ds ks = gS w x
 | [], aw, ks => by
  cases aw with
  | nil => exact .inl rfl
  | cons p r => exact .inr ⟨_, _, rfl⟩
 | x :: r, aw, ks => by
  rw [fW]
  split
  ·split
   ·exact bN3 r _ _
   ·exact .inr ⟨_, _, rfl⟩
  ·split
   ·exact .inr ⟨_, _, rfl⟩
   ·exact bN3 r _ _
theorem cF4 {d : D} : ∀ {ws ks : List Str}, hU ws ks = .st d -> ∃ w x, d = gS w x
 | [], _, h => by cases h
 | x :: r, ks, h => by
  rw [hU] at h
  split at h
  ·cases h; exact ⟨_, _, rfl⟩
  ·exact cF4 h
theorem cF5 {un : Str} {fs : List (Option Fc)} {d : D} : ∀ {tk : List (Str × Str)} {ks : List Str}, jH un fs tk ks = .st d -> ∃ w x, d = gS w x
 | [], _, h => by cases h
 | (s, n) :: r, ks, h => by
  rw [jH] at h
  split at h
  ·cases h; exact ⟨_, _, rfl⟩
  ·split at h
   ·split at h
    ·cases h; exact ⟨_, _, rfl⟩
    ·exact cF5 h
   ·cases h; exact ⟨_, _, rfl⟩
theorem dU3 (u : Un) (fs : List (Option Fc)) (f : Option Fc) : mZ u fs f = .non \/ ∃ w x, mZ u fs f = gS w x := by
 unfold mZ
 split
 ·rename_i d h; exact .inr (cF5 h)
 ·split
  ·rename_i d h; exact .inr (cF4 h)
  ·exact bN3 _ _ _
theorem dU4 (n : Nat) (ns : List Int) : Ph (n + 20) .law [.lst (ns.map .int)] = .ok (.bl true) := by
 obtain ⟨z, fm, hset, S⟩ := dT9 n ns
 have l0 := S.l0
 have l4 := S.l4
 have hlen : (fm.map dU).length = fm.length := List.length_map ..
 show ((bC1 (Ph (n + 19)) (Ph (n + 17))) [.val (.lst (ns.map .int)), .no, .no, .no, .no, .no, .no, .no, .no, .no, .no, .no, .no]).bind bU = _
 unfold bC1
 rw [cX (a1 rfl hset)]
 show (bB _ _ [.val (.lst (ns.map .int)), .val (.lst (fm.map dU)), .no, .no, .no, .no, .no, .no, .no, .no, .no, .no, .no]).bind bU = _
 have hm4 := vQ (n + 15) ns 4 bE
 have hm3 := vQ (n + 15) ns 3 bE
 generalize cR ns 4 = m4 at hm4
 generalize cR ns 3 = m3 at hm3
 generalize ha : m4 % ((fm.map dU).length : Int) = a
 rw [cX (d := .int a) (c2 (a2 rfl rfl hm4) (a1 rfl rfl) ((qG (by rw [hlen]; omega)).trans (by rw [ha])))]
 show (bB _ _ [.val (.lst (ns.map .int)), .val (.lst (fm.map dU)), .val (.int a), .no, .no, .no, .no, .no, .no, .no, .no, .no, .no]).bind bU = _
 obtain ⟨y, ey, my⟩ := nU (xs := fm.map dU) (i := m4 / 4) (by rw [hlen]; exact l0)
 obtain ⟨y0, hy0, rfl⟩ := List.mem_map.mp my
 obtain ⟨j, ⟨tk', ow', mk', bl', ey2, _⟩⟩ := S.mb y0 hy0
 generalize hoth : sd z j 25 = other at ey2
 rw [cX (d := .str other) (c2 (c2 (x := dU y0) (y := .int 1) (c2 (y := .int (m4 / 4 % ((fm.map dU).length : Int))) rfl (c2 (cF0 4 (by decide) (a2 rfl rfl hm4)) (a1 rfl rfl) (qG (by rw [hlen]; omega))) (by simp only [bF, ey])) rfl (cQ 1 _ rfl)) rfl (by rw [ey2]; exact cQ 0 _ rfl))]
 show (bB _ _ [.val (.lst (ns.map .int)), .val (.lst (fm.map dU)), .val (.int a), .val (.str other), .no, .no, .no, .no, .no, .no, .no, .no, .no]).bind bU = _
 obtain ⟨x, ex, mx⟩ := nU (xs := fm.map dU) (i := m4) (by rw [hlen]; exact l0)
 rw [ha] at ex
 obtain ⟨⟨f, mb⟩, hx0, rfl⟩ := List.mem_map.mp mx
 have hf : ∀ g, f = some g -> g.ok := S.ok _ hx0
 obtain ⟨i, ⟨tk, ow, mk, bl, emb, q1, q2, q3, q4⟩⟩ := S.mb _ hx0
 have emb' : mb = .tup [.str (sd z i 25), .tup (tk.map p2), .tup (ow.map .str), .tup (mk.map fP), .tup bl] := emb
 subst emb'
 have s2 : kK 4 5 (m2 bF (gv 1) (gv 2)) [.val (.lst (ns.map .int)), .val (.lst (fm.map dU)), .val (.int a), .val (.str other), .no, .no, .no, .no, .no, .no, .no, .no, .no] = .ok (.nx [.val (.lst (ns.map .int)), .val (.lst (fm.map dU)), .val (.int a), .val (.str other), .val (oF f), .val (.tup [.str (sd z i 25), .tup (tk.map p2), .tup (ow.map .str), .tup (mk.map fP), .tup bl]), .no, .no, .no, .no, .no, .no, .no]) := by
  unfold kK
  rw [c2 (x := .lst (fm.map dU)) (y := .int a) (z := dU (f, (.tup [.str (sd z i 25), .tup (tk.map p2), .tup (ow.map .str), .tup (mk.map fP), .tup bl]))) rfl rfl (by simp only [bF, ex])]
  rfl
 rw [cZ s2]
 let u0 : Un := ⟨sd z i 25, tk, ow, mk.map fun x => ⟨x.1, x.2.1⟩⟩
 have s6 : mA jL (aC (dB [] (bV (m2 bF (gv 5) (kc (.int 3)))) (fun _ => .ok true) (mA bK (aC (m2 bF (gv 0) (kc (.int 0))) (aC (m2 bF (gv 0) (kc (.int 1))) (aC (m2 bF (gv 0) (kc (.int 2))) (aC (mA bK (bA)) (bA))))))) (bA)) [.val (.lst (ns.map .int)), .val (.lst (fm.map dU)), .val (.int a), .val (.str other), .val (oF f), .val (.tup [.str (sd z i 25), .tup (tk.map p2), .tup (ow.map .str), .tup (mk.map fP), .tup bl]), .no, .no, .no, .no, .no, .no, .no] = .ok (.tup (u0.ds.map Dh.d)) := by
  have e : dB [] (bV (m2 bF (gv 5) (kc (.int 3)))) (fun _ => .ok true) (mA bK (aC (m2 bF (gv 0) (kc (.int 0))) (aC (m2 bF (gv 0) (kc (.int 1))) (aC (m2 bF (gv 0) (kc (.int 2))) (aC (mA bK (bA)) (bA)))))) [.val (.lst (ns.map .int)), .val (.lst (fm.map dU)), .val (.int a), .val (.str other), .val (oF f), .val (.tup [.str (sd z i 25), .tup (tk.map p2), .tup (ow.map .str), .tup (mk.map fP), .tup bl]), .no, .no, .no, .no, .no, .no, .no] = .ok (.lst (u0.ds.map Dh.d)) := gR (gZ (xs := mk.map fP) (c2 (y := .int 3) rfl rfl (cQ 3 _ rfl))) (by rw [List.length_map]; omega) (by
   refine (nA (val := fun x : Str × List Str × D => (Dh.mk x.1 x.2.1).d) _ fun x _ => ?_).trans (by
    show _ = bD.ok ((mk.map fun x => Dh.mk x.1 x.2.1).map Dh.d)
    rw [List.map_map]; rfl)
   exact a4 (c2 (x := fP x) (y := .int 0) rfl rfl (cQ 0 _ rfl)) (c2 (x := fP x) (y := .int 1) rfl rfl (cQ 1 _ rfl)) (c2 (x := fP x) (y := .int 2) rfl rfl (cQ 2 _ rfl)) rfl rfl)
  exact a1 e rfl
 rw [cX s6]
 show (bB (bI 5 _) _ [.val (.lst (ns.map .int)), .val (.lst (fm.map dU)), .val (.int a), .val (.str other), .val (oF f), .val (.tup [.str (sd z i 25), .tup (tk.map p2), .tup (ow.map .str), .tup (mk.map fP), .tup bl]), .val (.tup (u0.ds.map Dh.d)), .no, .no, .no, .no, .no, .no]).bind bU = _
 rw [cX (d := u0.d) (a5 (c2 (y := .int 0) rfl rfl (cQ 0 _ rfl)) (c2 (y := .int 1) rfl rfl (cQ 1 _ rfl)) (c2 (y := .int 2) rfl rfl (cQ 2 _ rfl)) rfl rfl rfl)]
 show (bB (bI 5 _) _ [.val (.lst (ns.map .int)), .val (.lst (fm.map dU)), .val (.int a), .val (.str other), .val (oF f), .val u0.d, .val (.tup (u0.ds.map Dh.d)), .no, .no, .no, .no, .no, .no]).bind bU = _
 obtain ⟨u, hu, uok⟩ := dU2 (n + 15) u0 f hf other m3 q1 q2 (by show (List.map _ _).length <= 4; rw [List.length_map]; exact q3) (fun y hy => by obtain ⟨w, hw, rfl⟩ := List.mem_map.mp hy; exact q4 w hw)
 rw [cX (a4 rfl rfl rfl (a2 rfl rfl hm3) hu)]
 show (bB (xF 7) _ [.val (.lst (ns.map .int)), .val (.lst (fm.map dU)), .val (.int a), .val (.str other), .val (oF f), .val u.d, .val (.tup (u0.ds.map Dh.d)), .no, .no, .no, .no, .no, .no]).bind bU = _
 rw [cZ (ρ' := [.val (.lst (ns.map .int)), .val (.lst (fm.map dU)), .val (.int a), .val (.str other), .val (oF f), .val u.d, .val (.tup (u0.ds.map Dh.d)), .dic false [], .no, .no, .no, .no, .no]) rfl]
 obtain ⟨b8, b9, hfc⟩ := bN2 (s0 := .val (.lst (ns.map .int))) (s1 := .val (.lst (fm.map dU))) (s2 := .val (.int a)) (s3 := .val (.str other)) (s4 := .val (oF f)) (s5 := .val u.d) (s6 := .val (.tup (u0.ds.map Dh.d))) (s10 := .no) (s11 := .no) (s12 := .no) fm [] .no .no S.nd (fun g _ h => by cases h) (by simp only [List.length_nil]; omega)
 rw [cZ (ρ' := [.val (.lst (ns.map .int)), .val (.lst (fm.map dU)), .val (.int a), .val (.str other), .val (oF f), .val u.d, .val (.tup (u0.ds.map Dh.d)), .dic false (fT (fm.map (·.1))), b8, b9, .no, .no, .no]) (by rw [vP (rP rfl)]; exact hfc), cZ (ρ' := [.val (.lst (ns.map .int)), .val (.lst (fm.map dU)), .val (.int a), .val (.str other), .val (oF f), .val u.d, .val (.tup (u0.ds.map Dh.d)), .tab (fT (fm.map (·.1))), b8, b9, .no, .no, .no]) rfl, cZ (ρ' := [.val (.lst (ns.map .int)), .val (.lst (fm.map dU)), .val (.int a), .val (.str other), .val (oF f), .val u.d, .val (.tup (u0.ds.map Dh.d)), .tab (fT (fm.map (·.1))), b8, b9, .dic false (fT (fm.map (·.1))), .no, .no]) rfl]
 have hfs : ∀ g, some g ∈ fm.map (·.1) -> g.ok := fun g hg => by
  obtain ⟨w, hw, e⟩ := List.mem_map.mp hg
  exact S.ok w hw g e
 have hfault : Ph (n + 19) .q0 [u.d, qZ (fT (fm.map (·.1))), oF f] = .ok (mZ u (fm.map (·.1)) f) := by
  show bC2 (Ph (n + 16)) [u.d, qZ (fT (fm.map (·.1))), oF f] = _
  show (match bA2 (qZ (fT (fm.map (·.1)))) with
   | some T => mO 3 5 (pY (Ph (n + 16))) [.val u.d, .tab T, .val (oF f)]
   | none => .bad) = _
  rw [bZ2]
  exact dR4 (dR0 (n + 13)) u uok hfs hf
 have hheads : Ph (n + 19) .q20 [u.d, .lst ((fm.map (·.1)).map oF), oF f] = .ok (mZ u (fm.map (·.1)) f) := dS6 (C := Ph (n + 18)) (C' := Ph (n + 16)) u uok (by rw [List.length_map]; omega) hfs hf
 have af := dU3 u (fm.map (·.1)) f
 generalize mZ u (fm.map (·.1)) f = A at hfault hheads af
 have c7 : ∀ ρ : bJ, gv 5 ρ = .ok u.d -> ρ[7]? = some (.tab (fT (fm.map (·.1)))) -> gv 4 ρ = .ok (oF f) -> mP (mR (Ph (n + 19) .q0)) (dS (gv 5) (kN 7 (dS (gv 4) (fK)))) ρ = .ok A := fun ρ h5 h7 h4 => by
  have e1 : dS (gv 4) fK ρ = .ok [.val (oF f)] := bL3 h4
  have e2 : kN 7 (dS (gv 4) fK) ρ = .ok [.tab (fT (fm.map (·.1))), .val (oF f)] := by
   unfold kN
   rw [h7]
   show (dS (gv 4) fK ρ).bind _ = _
   rw [e1]; rfl
  have e3 : dS (gv 5) (kN 7 (dS (gv 4) fK)) ρ = .ok [.val u.d, .tab (fT (fm.map (·.1))), .val (oF f)] := by
   show (gv 5 ρ).bind _ = _
   rw [h5]
   show (kN 7 (dS (gv 4) fK) ρ).bind _ = _
   rw [e2]; rfl
  unfold mP
  rw [e3]
  exact hfault
 rw [cX (c7 [.val (.lst (ns.map .int)), .val (.lst (fm.map dU)), .val (.int a), .val (.str other), .val (oF f), .val u.d, .val (.tup (u0.ds.map Dh.d)), .tab (fT (fm.map (·.1))), b8, b9, .dic false (fT (fm.map (·.1))), .no, .no] rfl rfl rfl)]
 show (bB (bI 12 _) _ [.val (.lst (ns.map .int)), .val (.lst (fm.map dU)), .val (.int a), .val (.str other), .val (oF f), .val u.d, .val (.tup (u0.ds.map Dh.d)), .tab (fT (fm.map (·.1))), b8, b9, .dic false (fT (fm.map (·.1))), .val A, .no]).bind bU = _
 have hcomp : dB [] (bV (gv 1)) (dJ (fun _ => .ok true)) (dJ (gv 0)) [.val (.lst (ns.map .int)), .val (.lst (fm.map dU)), .val (.int a), .val (.str other), .val (oF f), .val u.d, .val (.tup (u0.ds.map Dh.d)), .tab (fT (fm.map (·.1))), b8, b9, .dic false (fT (fm.map (·.1))), .val A, .no] = .ok (.lst ((fm.map (·.1)).map oF)) := gR (rP rfl) (by rw [hlen]; omega) (by
  have := nX (p := dJ (fun _ => .ok true)) (g := dJ (gv 0)) (rest := []) (dat := dU) (val := fun x : Option Fc × D => oF x.1) (q := fun _ => true) (fun _ => rfl) (fun _ _ => rfl) fm
  rw [List.filter_eq_self.mpr fun _ _ => rfl] at this
  have e : fm.map (fun x => oF x.1) = (fm.map (·.1)).map oF := by rw [List.map_map]; rfl
  rw [e] at this
  exact this)
 rw [cX (a3 rfl hcomp rfl hheads)]
 show (bB (bM _ _ bQ) _ [.val (.lst (ns.map .int)), .val (.lst (fm.map dU)), .val (.int a), .val (.str other), .val (oF f), .val u.d, .val (.tup (u0.ds.map Dh.d)), .tab (fT (fm.map (·.1))), b8, b9, .dic false (fT (fm.map (·.1))), .val A, .val A]).bind bU = _
 have hne : bA0 7 10 [.val (.lst (ns.map .int)), .val (.lst (fm.map dU)), .val (.int a), .val (.str other), .val (oF f), .val u.d, .val (.tup (u0.ds.map Dh.d)), .tab (fT (fm.map (·.1))), b8, b9, .dic false (fT (fm.map (·.1))), .val A, .val A] = .ok false := by
  show (if R.eqT (fT (fm.map (·.1))) (fT (fm.map (·.1))) = true then bD.ok false else .bad) = _
  rw [if_pos (cF3 _ fun p hp => by
   obtain ⟨g, _, rfl⟩ := List.mem_map.mp hp
   have := cC8 g
   show gD g.d <= 50
   omega)]
 have hn2 : bA1 A A = .ok (.bl false) := by
  rcases af with rfl | ⟨w, x, rfl⟩
  ·rfl
  ·show bD.ok (D.bl (!(w == w && x == x))) = _
   simp
 rw [jA (cO hne fun _ => cB (c2 (c7 [.val (.lst (ns.map .int)), .val (.lst (fm.map dU)), .val (.int a), .val (.str other), .val (oF f), .val u.d, .val (.tup (u0.ds.map Dh.d)), .tab (fT (fm.map (·.1))), b8, b9, .dic false (fT (fm.map (·.1))), .val A, .val A] rfl rfl rfl) rfl hn2))]
 refine nR ?_
 rcases af with rfl | ⟨w, x, rfl⟩
 ·rfl
 ·have he : cD (gS w x) (gS w x) = .ok (.bl true) := by
   unfold cD
   rw [if_pos (by simp [gD, depL]), wU]
  have hi : m2 cD (gv 11) (gv 12) [.val (.lst (ns.map .int)), .val (.lst (fm.map dU)), .val (.int a), .val (.str other), .val (oF f), .val u.d, .val (.tup (u0.ds.map Dh.d)), .tab (fT (fm.map (·.1))), b8, b9, .dic false (fT (fm.map (·.1))), .val (gS w x), .val (gS w x)] = .ok (.bl true) := c2 rfl rfl he
  show pH (m2 cD (gv 11) (gv 12)) _ [.val (.lst (ns.map .int)), .val (.lst (fm.map dU)), .val (.int a), .val (.str other), .val (oF f), .val u.d, .val (.tup (u0.ds.map Dh.d)), .tab (fT (fm.map (·.1))), b8, b9, .dic false (fT (fm.map (·.1))), .val (gS w x), .val (gS w x)] = _
  unfold pH
  rw [hi]
  rfl
end Jm
end
section
namespace Jm
open PySem PySem.Spec PyProof.Rows L2 R
variable [bN]
section
variable {P : Program} {w : World} {K : W.Frag} {mg : Str -> Option Value} {base : Heap} {f : Addr} {fd : FuncData} {n : Nat} {C C' : CT}
theorem vZ : dE N1 ["unit", "faces", "face"] (cL s1) := ⟨rfl, rfl, rfl, by decide +kernel, rfl, by decide +kernel, by decide +kernel⟩
theorem ok1 {n0 : Nat} {C0 : CT} (F : bL K "fault_of" "fault_of" s1 f fd) (TT : Tab P w K mg base n0 C0) (cm_fault_of_blocks : lR P w K mg base n "fault_of_blocks" (xU C)) (cm_fault_of_deeds : lR P w K mg base n "fault_of_deeds" (xV C)) (cm_fault_of_words : lR P w K mg base n "fault_of_words" (rH C)) (cm_meanings_told : qX P w K mg base n "meanings_told" (nQ C)) (cm_fault_of_takes : lR P w K mg base n "fault_of_takes" (rJ C)) : bS P w K mg base bT (n + 1) f fd ["unit", "faces", "face"] (nN K (mO 3 5 (pY C))) := by
 refine hyP F vZ (rE (tok TT)) [] (by decide) ?_
 rintro pd X G Z hr ⟨cdv, A, outer, s, H, E, rfl⟩
 refine bY ?_ ?_
 ·refine bX5 (i := 3) vZ.nd ?_ ((hL G ?_)) (.inl rfl) cm_meanings_told hr (hG G ?_) ?_ ?_
  ·rfl
  ·kernel_rfl
  ·kernel_rfl
  ·refine wZ ?_ ?_ ?_
   ·rfl
   ·exact hE G bG
   ·exact wR
  ·rfl
 ·refine bY ?_ ?_
  ·refine xG (j := 4) vZ.nd ?_ ((hL G ?_)) (.inl rfl) (qW cm_fault_of_takes hr (hG G ?_) ?_) ?_
   ·rfl
   ·kernel_rfl
   ·kernel_rfl
   ·refine pR ?_ ?_
    ·exact hE G bG
    ·refine bX3 (cU G ?_) ?_
     ·kernel_rfl
     ·refine qV (cU G ?_)
      kernel_rfl
   ·rfl
  ·refine bY ?_ ?_
   ·refine fV ?_ ?_ ?_
    ·exact hT G bG
    ·refine cW ?_
     refine xG (j := 4) vZ.nd ?_ ((hL G ?_)) (.inl rfl) (qW cm_fault_of_words hr (hG G ?_) ?_) ?_
     ·rfl
     ·kernel_rfl
     ·kernel_rfl
     ·refine pR ?_ ?_
      ·exact hE G bG
      ·refine qV (cU G ?_)
       kernel_rfl
     ·rfl
    ·exact fU
   ·refine bY ?_ ?_
    ·refine fV ?_ ?_ ?_
     ·exact hT G bG
     ·refine cW ?_
      refine xG (j := 4) vZ.nd ?_ ((hL G ?_)) (.inl rfl) (qW cm_fault_of_deeds hr (hG G ?_) ?_) ?_
      ·rfl
      ·kernel_rfl
      ·kernel_rfl
      ·refine pR ?_ ?_
       ·exact hE G bG
       ·refine pR ?_ ?_
        ·exact hE G bG
        ·refine qV (cU G ?_)
         kernel_rfl
      ·rfl
     ·exact fU
    ·refine bY ?_ ?_
     ·refine fV ?_ ?_ ?_
      ·exact hT G bG
      ·refine cW ?_
       refine xG (j := 4) vZ.nd ?_ ((hL G ?_)) (.inl rfl) (qW cm_fault_of_blocks hr (hG G ?_) ?_) ?_
       ·rfl
       ·kernel_rfl
       ·kernel_rfl
       ·refine pR ?_ ?_
        ·exact hE G bG
        ·refine qV (cU G ?_)
         kernel_rfl
       ·rfl
      ·exact fU
     ·exact hB (ow := []) G Z bG
end
end Jm
end
section
namespace Jm
open PySem PySem.Spec PyProof.Rows L2 R
variable [bN]
section
variable {P : Program} {w : World} {K : W.Frag} {mg : Str -> Option Value} {base : Heap} {f : Addr} {fd : FuncData} {n : Nat} {C C' : CT}
theorem sc2 : dE N2 ["face"] (cL s2) := ⟨rfl, rfl, rfl, by decide +kernel, rfl, by decide +kernel, by decide +kernel⟩
theorem ok2 {n0 : Nat} {C0 : CT} (F : bL K "meanings_told" "meanings_told" s2 f fd) (TT : Tab P w K mg base n0 C0) : bS P w K mg base bT (n + 1) f fd ["face"] (zV K (nQ C)) := by
 refine hyN F sc2 (rE (tok TT)) [] ?_
 rintro pd X G Z hr ⟨cdv, A, outer, s, H, E, rfl⟩
 refine bY ?_ ?_
 ·refine bI2 (i := 1) sc2.nd ?_ ((hL G ?_)) (.inl rfl)
  ·rfl
  ·kernel_rfl
 ·refine bY ?_ ?_
  ·refine fV ?_ ?_ ?_
   ·exact hT G bG
   ·refine bY ?_ ?_
    ·refine kU rfl PassesOwn.never ?_ (fY (i := 2) sc2.nd ?_ ((hL G ?_)) (.inl rfl)) ?_ (gK ?_)
     ·refine jM ?_
      exact hE G bG
     ·rfl
     ·kernel_rfl
     ·refine cW ?_
      refine lQ (fO hr) (cU G ?_) ?_ ?_ ?_
      ·kernel_rfl
      ·exact hE G bG
      ·exact hE G bG
      ·rfl
     ·rfl
    ·refine cW ?_
     refine kU rfl PassesOwn.never ?_ (fY (i := 3) sc2.nd ?_ ((hL G ?_)) (.inl rfl)) ?_ (gK ?_)
     ·refine jM ?_
      exact hE G bG
     ·rfl
     ·kernel_rfl
     ·refine cW ?_
      refine lQ (fO hr) (cU G ?_) ?_ ?_ ?_
      ·kernel_rfl
      ·exact hE G bG
      ·exact hE G bG
      ·rfl
     ·rfl
   ·exact fU
  ·refine cW ?_
   refine dH9 (cU G ?_)
   kernel_rfl
end
end Jm
end
section
namespace Jm
open PySem PySem.Spec PyProof.Rows L2 R
variable [bN]
section
variable {P : Program} {w : World} {K : W.Frag} {mg : Str -> Option Value} {base : Heap} {f : Addr} {fd : FuncData} {n : Nat} {C C' : CT}
theorem sc3 : dE N3 ["unit", "faces", "top"] (cL s3) := ⟨rfl, rfl, rfl, by decide +kernel, rfl, by decide +kernel, by decide +kernel⟩
theorem ok3 {n0 : Nat} {C0 : CT} (F : bL K "fault_of_takes" "fault_of_takes" s3 f fd) (TT : Tab P w K mg base n0 C0) (cm_meanings_told : qX P w K mg base n "meanings_told" (nQ C)) : bS P w K mg base bT (n + 1) f fd ["unit", "faces", "top"] (nL K (rJ C)) := by
 refine tT F sc3 (rE (tok TT)) [] (by decide) ?_
 rintro pd X G Z hr ⟨cdv, A, outer, s, H, E, rfl⟩
 refine bY ?_ ?_
 ·refine xA rfl PassesOwn.never ?_ (tE (i := 3) (j := 4) rfl sc3.nd ?_ ((hL G ?_)) ?_ ((hL G ?_)) (.inl rfl) (.inl rfl)) ?_ (gK ?_)
  ·refine jM ?_
   exact hE G bG
  ·rfl
  ·kernel_rfl
  ·rfl
  ·kernel_rfl
  ·refine bY ?_ ?_
   ·refine fV ?_ ?_ ?_
    ·refine IW.it ?_
     refine zH ?_ ?_
     ·exact hT G bG
     ·refine zF ?_
      refine bW9 (fO hr) (cU G ?_) ?_ ?_
      ·kernel_rfl
      ·exact hE G bG
      ·with_unfolding_all rfl
    ·refine cW ?_
     refine jP ?_
     exact hE G bG
    ·exact fU
   ·refine bY ?_ ?_
    ·refine bX5 (i := 5) sc3.nd ?_ ((hL G ?_)) (.inl rfl) cm_meanings_told hr (hG G ?_) ?_ ?_
     ·rfl
     ·kernel_rfl
     ·kernel_rfl
     ·refine wZ ?_ ?_ ?_
      ·rfl
      ·refine zU (fO hr) (cU G ?_) ?_ (fun _ _ => rfl)
       ·kernel_rfl
       ·exact hE G bG
      ·exact wR
     ·rfl
    ·refine bY ?_ ?_
     ·refine fV ?_ ?_ ?_
      ·refine bW9 (fO hr) (cU G ?_) ?_ ?_
       ·kernel_rfl
       ·exact hE G bG
       ·with_unfolding_all rfl
      ·refine cW ?_
       refine jP ?_
       exact hE G bG
      ·exact fU
     ·refine bY ?_ ?_
      ·refine fV ?_ ?_ ?_
       ·refine pP (fO hr) (cU G ?_) ?_ ?_
        ·kernel_rfl
        ·exact hE G bG
        ·with_unfolding_all rfl
       ·refine cW ?_
        refine jP ?_
        exact hE G bG
       ·exact fU
      ·refine cW ?_
       refine lQ (fO hr) (cU G ?_) ?_ ?_ ?_
       ·kernel_rfl
       ·exact hE G bG
       ·refine zU (fO hr) (cU G ?_) ?_ (fun _ _ => rfl)
        ·kernel_rfl
        ·exact hE G bG
       ·rfl
  ·rfl
 ·refine cW ?_
  refine jP ?_
  exact hE G bG
end
end Jm
end
section
namespace Jm
open PySem PySem.Spec PyProof.Rows L2 R
variable [bN]
section
variable {P : Program} {w : World} {K : W.Frag} {mg : Str -> Option Value} {base : Heap} {f : Addr} {fd : FuncData} {n : Nat} {C C' : CT}
theorem sc4 : dE N4 ["unit", "top"] (cL s4) := ⟨rfl, rfl, rfl, by decide +kernel, rfl, by decide +kernel, by decide +kernel⟩
theorem ok4 {n0 : Nat} {C0 : CT} (F : bL K "fault_of_words" "fault_of_words" s4 f fd) (TT : Tab P w K mg base n0 C0) : bS P w K mg base bT (n + 1) f fd ["unit", "top"] (nL K (rH C)) := by
 refine tT F sc4 (rE (tok TT)) [] (by decide) ?_
 rintro pd X G Z hr ⟨cdv, A, outer, s, H, E, rfl⟩
 refine bY ?_ ?_
 ·refine kU rfl PassesOwn.never ?_ (fY (i := 2) sc4.nd ?_ ((hL G ?_)) (.inl rfl)) ?_ (gK ?_)
  ·refine jM ?_
   exact hE G bG
  ·rfl
  ·kernel_rfl
  ·refine bY ?_ ?_
   ·refine fV ?_ ?_ ?_
    ·refine pP (fO hr) (cU G ?_) ?_ ?_
     ·kernel_rfl
     ·exact hE G bG
     ·with_unfolding_all rfl
    ·refine cW ?_
     refine jP ?_
     exact hE G bG
    ·exact fU
   ·refine cW ?_
    refine lQ (fO hr) (cU G ?_) ?_ ?_ ?_
    ·kernel_rfl
    ·exact hE G bG
    ·exact hE G bG
    ·rfl
  ·rfl
 ·refine cW ?_
  refine jP ?_
  exact hE G bG
end
end Jm
end
section
namespace Jm
open PySem PySem.Spec PyProof.Rows L2 R
variable [bN]
section
variable {P : Program} {w : World} {K : W.Frag} {mg : Str -> Option Value} {base : Heap} {f : Addr} {fd : FuncData} {n : Nat} {C C' : CT}
theorem sc5 : dE N5 ["unit", "face", "top"] (cL s5) := ⟨rfl, rfl, rfl, by decide +kernel, rfl, by decide +kernel, by decide +kernel⟩
theorem ok5 {n0 : Nat} {C0 : CT} (F : bL K "fault_of_deeds" "fault_of_deeds" s5 f fd) (TT : Tab P w K mg base n0 C0) : bS P w K mg base bT (n + 1) f fd ["unit", "face", "top"] (nL K (xV C)) := by
 refine tT F sc5 (rE (tok TT)) [] (by decide) ?_
 rintro pd X G Z hr ⟨cdv, A, outer, s, H, E, rfl⟩
 refine bY ?_ ?_
 ·refine dK0 rfl (i := 3) sc5.nd ?_ ((hL G ?_)) (.inl rfl) ?_ (hG G ?_) TT.b_dict ?_ ?_ ?_
  ·rfl
  ·kernel_rfl
  ·exact hT G bG
  ·kernel_rfl
  ·rfl
  ·exact hE G bG
  ·rfl
 ·refine bY ?_ ?_
  ·refine kU rfl PassesOwn.never ?_ (fY (i := 4) sc5.nd ?_ ((hL G ?_)) (.inl rfl)) ?_ (gK ?_)
   ·refine jM ?_
    exact hE G bG
   ·rfl
   ·kernel_rfl
   ·refine bY ?_ ?_
    ·exact hS (ow := []) G Z bG
    ·refine bY ?_ ?_
     ·exact hS (ow := []) G Z bG
     ·refine bY ?_ ?_
      ·refine fV ?_ ?_ ?_
       ·refine pP (fO hr) (cU G ?_) ?_ ?_
        ·kernel_rfl
        ·exact hE G bG
        ·with_unfolding_all rfl
       ·refine cW ?_
        refine dK1 (cU G ?_) ?_ ?_ ?_ ?_
        ·kernel_rfl
        ·exact hE G bG
        ·exact hE G bG
        ·refine cW ?_
         refine jP ?_
         exact hE G bG
        ·exact ⟨rfl, rfl, rfl, rfl⟩
       ·refine cW ?_
        refine fV ?_ ?_ ?_
        ·refine pP (fO hr) (cU G ?_) ?_ ?_
         ·kernel_rfl
         ·exact hE G bG
         ·with_unfolding_all rfl
        ·refine cW ?_
         refine jP ?_
         exact hE G bG
        ·exact fU
      ·refine cW ?_
       refine lQ (fO hr) (cU G ?_) ?_ ?_ ?_
       ·kernel_rfl
       ·exact hE G bG
       ·exact hE G bG
       ·rfl
   ·rfl
  ·refine bY ?_ ?_
   ·refine fV ?_ ?_ ?_
    ·refine pJ bT6 ?_ ?_ (qK _)
     ·refine dI7 (cU G ?_) (hG G ?_) TT.b_len
      ·kernel_rfl
      ·kernel_rfl
     ·exact hE G bG
    ·refine cW ?_
     refine jP ?_
     refine bS2 ?_
     refine wZ ?_ ?_ ?_
     ·rfl
     ·exact hE G bG
     ·refine wZ ?_ ?_ ?_
      ·rfl
      ·refine bV9 ?_ ?_ ?_
       ·rfl
       ·refine dJ4 rfl (cU G ?_) (hG G ?_) TT.b_list
        ·kernel_rfl
        ·kernel_rfl
       ·exact hE G bG
      ·exact wR
    ·exact fU
   ·refine cW ?_
    refine jP ?_
    exact hE G bG
end
end Jm
end
section
namespace Jm
open PySem PySem.Spec PyProof.Rows L2 R
variable [bN]
section
variable {P : Program} {w : World} {K : W.Frag} {mg : Str -> Option Value} {base : Heap} {f : Addr} {fd : FuncData} {n : Nat} {C C' : CT}
theorem yH : dE N6 ["unit", "top"] (cL s6) := ⟨rfl, rfl, rfl, by decide +kernel, rfl, by decide +kernel, by decide +kernel⟩
theorem ok6 {n0 : Nat} {C0 : CT} (F : bL K "fault_of_blocks" "fault_of_blocks" s6 f fd) (TT : Tab P w K mg base n0 C0) (cm_fault_of_block : lR P w K mg base n "fault_of_block" (mS C)) : bS P w K mg base bT (n + 1) f fd ["unit", "top"] (nL K (xU C)) := by
 refine tT F yH (rE (tok TT)) [] (by decide) ?_
 rintro pd X G Z hr ⟨cdv, A, outer, s, H, E, rfl⟩
 refine bY ?_ ?_
 ·refine kU rfl PassesOwn.never ?_ (fY (i := 2) yH.nd ?_ ((hL G ?_)) (.inl rfl)) ?_ (gK ?_)
  ·refine jM ?_
   exact hE G bG
  ·rfl
  ·kernel_rfl
  ·refine bY ?_ ?_
   ·refine bI3 (j := 3) yH.nd ?_ ((hL G ?_)) (.inl rfl) (cU G ?_) (hG G ?_) TT.b_dict ?_
    ·rfl
    ·kernel_rfl
    ·kernel_rfl
    ·kernel_rfl
    ·rfl
   ·refine bY ?_ ?_
    ·refine kU rfl PassesOwn.never ?_ (fY (i := 4) yH.nd ?_ ((hL G ?_)) (.inl rfl)) ?_ (gK ?_)
     ·refine jM ?_
      exact hE G bG
     ·rfl
     ·kernel_rfl
     ·refine cW ?_
      refine lQ (fO hr) (cU G ?_) ?_ ?_ ?_
      ·kernel_rfl
      ·exact hE G bG
      ·exact hE G bG
      ·rfl
     ·rfl
    ·refine bY ?_ ?_
     ·refine xG (j := 5) yH.nd ?_ ((hL G ?_)) (.inl rfl) (qW cm_fault_of_block hr (hG G ?_) ?_) ?_
      ·rfl
      ·kernel_rfl
      ·kernel_rfl
      ·refine pR ?_ ?_
       ·exact hE G bG
       ·refine qV (cU G ?_)
        kernel_rfl
      ·rfl
     ·refine cW ?_
      refine fV ?_ ?_ ?_
      ·exact hT G bG
      ·refine cW ?_
       refine jP ?_
       exact hE G bG
      ·exact fU
  ·rfl
 ·refine cW ?_
  refine dI2 (qW cm_fault_of_block hr (hG G ?_) ?_)
  ·kernel_rfl
  ·refine pR ?_ ?_
   ·exact hE G bG
   ·refine qV (cU G ?_)
    kernel_rfl
end
end Jm
end
section
namespace Jm
open PySem PySem.Spec PyProof.Rows L2 R
variable [bN]
section
variable {P : Program} {w : World} {K : W.Frag} {mg : Str -> Option Value} {base : Heap} {f : Addr} {fd : FuncData} {n : Nat} {C C' : CT}
theorem sc7 : dE N7 ["block", "meanings"] (cL s7) := ⟨rfl, rfl, rfl, by decide +kernel, rfl, by decide +kernel, by decide +kernel⟩
theorem ok7 {n0 : Nat} {C0 : CT} (F : bL K "fault_of_block" "fault_of_block" s7 f fd) (TT : Tab P w K mg base n C) : bS P w K mg base bT (n + 1) f fd ["block", "meanings"] (nL K (mS C)) := by
 refine tT F sc7 (tok TT) [] (by decide) ?_
 rintro pd X G Z hr ⟨cdv, A, outer, s, H, E, rfl⟩
 refine bY ?_ ?_
 ·refine kU rfl PassesOwn.never ?_ (fY (i := 2) sc7.nd ?_ ((hL G ?_)) (.inl rfl)) ?_ (gK ?_)
  ·refine jM ?_
   exact hE G bG
  ·rfl
  ·kernel_rfl
  ·refine bY ?_ ?_
   ·exact bV8
   ·refine cW ?_
    refine fV ?_ ?_ ?_
    ·exact hT G bG
    ·refine cW ?_
     refine jP ?_
     exact hE G bG
    ·exact fU
  ·rfl
 ·refine cW ?_
  refine jP ?_
  exact hE G bG
end
end Jm
end
section
namespace Jm
open PySem PySem.Spec PyProof.Rows L2 R
variable [bN]
section
variable {P : Program} {w : World} {K : W.Frag} {mg : Str -> Option Value} {base : Heap} {f : Addr} {fd : FuncData} {n : Nat} {C C' : CT}
theorem sc9 : dE N9 ["block"] (cL s9) := ⟨rfl, rfl, rfl, by decide +kernel, rfl, by decide +kernel, by decide +kernel⟩
theorem ok9 (F : bL K "uses_of_block" "uses_of_block" s9 f fd) (TT : Tab P w K mg base n C) : bS P w K mg base bT (n + 1) f fd ["block"] (cS K (cV 1 3 (cA3 C C'))) := by
 refine xP F sc9 (tok TT) [] ?_
 rintro pd X G Z hr ⟨cdv, A, outer, s, H, E, rfl⟩
 refine bY ?_ ?_
 ·exact hS (ow := ["uses"]) G Z bG
 ·refine bY ?_ ?_
  ·refine kU rfl PassesOwn.never ?_ (fY (i := 2) sc9.nd ?_ ((hL G ?_)) (.inl rfl)) ?_ (gK ?_)
   ·refine jM ?_
    exact hE G bG
   ·rfl
   ·kernel_rfl
   ·refine cW ?_
    exact bV8
   ·rfl
  ·refine zR ?_
   exact hB (ow := ["uses"]) G Z bG
end
end Jm
end
section
namespace Jm
open PySem PySem.Spec PyProof.Rows L2 R
variable [bN]
section
variable {P : Program} {w : World} {K : W.Frag} {mg : Str -> Option Value} {base : Heap} {f : Addr} {fd : FuncData} {n : Nat} {C C' : CT}
theorem dV3 : dE N14 ["_law_script", "_law_k"] (cL tU) := ⟨rfl, rfl, rfl, by decide +kernel, rfl, by decide +kernel, by decide +kernel⟩
theorem dV4 (F : bL K "_law_cell_at" "_law_cell_at" tU f fd) (TT : Tab P w K mg base n C) : bS P w K mg base bT (n + 1) f fd ["_law_script", "_law_k"] (cS K (cV 2 2 (bA9 C C'))) :=
 jZ F dV3 (tok TT) [] [] [] bG
end
end Jm
end
section
namespace Jm
open PySem PySem.Spec PyProof.Rows L2 R
variable [bN]
section
variable {P : Program} {w : World} {K : W.Frag} {mg : Str -> Option Value} {base : Heap} {f : Addr} {fd : FuncData} {n : Nat} {C C' : CT}
theorem dV5 : dE N15 ["_law_script", "_law_k"] (cL tV) := ⟨rfl, rfl, rfl, by decide +kernel, rfl, by decide +kernel, by decide +kernel⟩
theorem dV6 (F : bL K "_law_mixed" "_law_mixed" tV f fd) (TT : Tab P w K mg base n C) : bS P w K mg base bT (n + 1) f fd ["_law_script", "_law_k"] (cS K (cV 2 3 (bB0 C C'))) :=
 jZ F dV5 (tok TT) [] [] [] bG
end
end Jm
end
section
namespace Jm
open PySem PySem.Spec PyProof.Rows L2 R
variable [bN]
section
variable {P : Program} {w : World} {K : W.Frag} {mg : Str -> Option Value} {base : Heap} {f : Addr} {fd : FuncData} {n : Nat} {C C' : CT}
theorem dV7 : dE N16 ["_law_number", "_law_k"] (cL tW) := ⟨rfl, rfl, rfl, by decide +kernel, rfl, by decide +kernel, by decide +kernel⟩
theorem dV8 (F : bL K "_law_drawn" "_law_drawn" tW f fd) (TT : Tab P w K mg base n C) : bS P w K mg base bT (n + 1) f fd ["_law_number", "_law_k"] (cS K (cV 2 3 (bB1 C C'))) :=
 jZ F dV7 (tok TT) [] [] [] bG
end
end Jm
end
section
namespace Jm
open PySem PySem.Spec PyProof.Rows L2 R
variable [bN]
section
variable {P : Program} {w : World} {K : W.Frag} {mg : Str -> Option Value} {base : Heap} {f : Addr} {fd : FuncData} {n : Nat} {C C' : CT}
theorem dV9 : dE N17 ["_law_number"] (cL tX) := ⟨rfl, rfl, rfl, by decide +kernel, rfl, by decide +kernel, by decide +kernel⟩
theorem dW0 (F : bL K "_law_stem" "_law_stem" tX f fd) (TT : Tab P w K mg base n C) : bS P w K mg base bT (n + 1) f fd ["_law_number"] (cS K (cV 1 4 (bB2 C C'))) :=
 jZ F dV9 (tok TT) [] [] [] bG
end
end Jm
end
section
namespace Jm
open PySem PySem.Spec PyProof.Rows L2 R
variable [bN]
section
variable {P : Program} {w : World} {K : W.Frag} {mg : Str -> Option Value} {base : Heap} {f : Addr} {fd : FuncData} {n : Nat} {C C' : CT}
theorem dW1 : dE N18 ["_law_number"] (cL tY) := ⟨rfl, rfl, rfl, by decide +kernel, rfl, by decide +kernel, by decide +kernel⟩
theorem dW2 (F : bL K "_law_value" "_law_value" tY f fd) (TT : Tab P w K mg base n C) : bS P w K mg base bT (n + 1) f fd ["_law_number"] (cS K (cV 1 1 (vO C C'))) :=
 jZ F dW1 (tok TT) [] [] [] bG
end
end Jm
end
section
namespace Jm
open PySem PySem.Spec PyProof.Rows L2 R
variable [bN]
section
variable {P : Program} {w : World} {K : W.Frag} {mg : Str -> Option Value} {base : Heap} {f : Addr} {fd : FuncData} {n : Nat} {C C' : CT}
theorem dW3 : dE N19 ["_law_number", "_law_names", "_law_deeds", "_law_deep"] (cL tZ) := ⟨rfl, rfl, rfl, by decide +kernel, rfl, by decide +kernel, by decide +kernel⟩
theorem dW4 (F : bL K "_law_expression" "_law_expression" tZ f fd) (TT : Tab P w K mg base n C) : bS P w K mg base bT (n + 1) f fd ["_law_number", "_law_names", "_law_deeds", "_law_deep"] (cS K (cV 4 10 (rG C C'))) :=
 jZ F dW3 (tok TT) [((148, 21), ["_law_names", "_law_deeds", "_law_number", "_law_deep"])] [] [] bG
end
end Jm
end
section
namespace Jm
open PySem PySem.Spec PyProof.Rows L2 R
variable [bN]
section
variable {P : Program} {w : World} {K : W.Frag} {mg : Str -> Option Value} {base : Heap} {f : Addr} {fd : FuncData} {n : Nat} {C C' : CT}
theorem dW5 : dE N20 ["_law_number", "_law_names", "_law_deeds", "_law_plain"] (cL vA) := ⟨rfl, rfl, rfl, by decide +kernel, rfl, by decide +kernel, by decide +kernel⟩
theorem dW6 (F : bL K "_law_short" "_law_short" vA f fd) (TT : Tab P w K mg base n C) : bS P w K mg base bT (n + 1) f fd ["_law_number", "_law_names", "_law_deeds", "_law_plain"] (cS K (cV 4 10 (xQ C C'))) :=
 jZ F dW5 (tok TT) [((175, 21), ["_law_names", "_law_deeds", "_law_number"])] [] [] bG
end
end Jm
end
section
namespace Jm
open PySem PySem.Spec PyProof.Rows L2 R
variable [bN]
section
variable {P : Program} {w : World} {K : W.Frag} {mg : Str -> Option Value} {base : Heap} {f : Addr} {fd : FuncData} {n : Nat} {C C' : CT}
theorem dW7 : dE N21 ["_law_number", "_law_names", "_law_deeds", "_law_plain", "_law_deep"] (cL vB) := ⟨rfl, rfl, rfl, by decide +kernel, rfl, by decide +kernel, by decide +kernel⟩
theorem dW8 (F : bL K "_law_statement" "_law_statement" vB f fd) (TT : Tab P w K mg base n C) : bS P w K mg base bT (n + 1) f fd ["_law_number", "_law_names", "_law_deeds", "_law_plain", "_law_deep"] (cS K (cV 5 9 (xR C C'))) :=
 jZ F dW7 (tok TT) [] [] [] bG
end
end Jm
end
section
namespace Jm
open PySem PySem.Spec PyProof.Rows L2 R
variable [bN]
section
variable {P : Program} {w : World} {K : W.Frag} {mg : Str -> Option Value} {base : Heap} {f : Addr} {fd : FuncData} {n : Nat} {C C' : CT}
theorem dW9 : dE N22 ["_law_number", "_law_size", "_law_names", "_law_deeds", "_law_plain", "_law_deep"] (cL vC) := ⟨rfl, rfl, rfl, by decide +kernel, rfl, by decide +kernel, by decide +kernel⟩
theorem dX0 (F : bL K "_law_block" "_law_block" vC f fd) (TT : Tab P w K mg base n C) : bS P w K mg base bT (n + 1) f fd ["_law_number", "_law_size", "_law_names", "_law_deeds", "_law_plain", "_law_deep"] (cS K (cV 6 7 (xS C C'))) :=
 jZ F dW9 (tok TT) [((192, 17), ["_law_names", "_law_deeds", "_law_plain", "_law_deep", "_law_number"])] [] [] bG
end
end Jm
end
section
namespace Jm
open PySem PySem.Spec PyProof.Rows L2 R
variable [bN]
section
variable {P : Program} {w : World} {K : W.Frag} {mg : Str -> Option Value} {base : Heap} {f : Addr} {fd : FuncData} {n : Nat} {C C' : CT}
theorem dX1 : dE N23 ["_law_stem_here", "_law_unit", "_law_k"] (cL vD) := ⟨rfl, rfl, rfl, by decide +kernel, rfl, by decide +kernel, by decide +kernel⟩
theorem dX2 (F : bL K "_law_said" "_law_said" vD f fd) (TT : Tab P w K mg base n C) : bS P w K mg base bT (n + 1) f fd ["_law_stem_here", "_law_unit", "_law_k"] (cS K (cV 3 4 (bB3 C C'))) :=
 jZ F dX1 (tok TT) [] [] [] bG
end
end Jm
end
section
namespace Jm
open PySem PySem.Spec PyProof.Rows L2 R
variable [bN]
section
variable {P : Program} {w : World} {K : W.Frag} {mg : Str -> Option Value} {base : Heap} {f : Addr} {fd : FuncData} {n : Nat} {C C' : CT}
theorem dX3 : dE N24 ["_law_script", "_law_unit"] (cL vE) := ⟨rfl, rfl, rfl, by decide +kernel, rfl, by decide +kernel, by decide +kernel⟩
theorem dX4 (F : bL K "_law_told" "_law_told" vE f fd) (TT : Tab P w K mg base n C) : bS P w K mg base bT (n + 1) f fd ["_law_script", "_law_unit"] (cS K (cV 2 6 (bB4 C C'))) :=
 jZ F dX3 (tok TT) [((202, 17), ["_law_stem_here", "_law_unit"]), ((203, 17), ["_law_stem_here", "_law_unit", "_law_number"])] [] [] bG
end
end Jm
end
section
namespace Jm
open PySem PySem.Spec PyProof.Rows L2 R
variable [bN]
section
variable {P : Program} {w : World} {K : W.Frag} {mg : Str -> Option Value} {base : Heap} {f : Addr} {fd : FuncData} {n : Nat} {C C' : CT}
theorem cF9 : dE N25 ["_law_faces", "_law_name", "_law_number"] (cL vF) := ⟨rfl, rfl, rfl, by decide +kernel, rfl, by decide +kernel, by decide +kernel⟩
theorem dX5 (F : bL K "_law_takes" "_law_takes" vF f fd) (TT : Tab P w K mg base n C) : bS P w K mg base bT (n + 1) f fd ["_law_faces", "_law_name", "_law_number"] (cS K (cV 3 8 (bB5 C C'))) := by
 refine xP F cF9 (tok TT) [((210, 45), [])] ?_
 rintro pd X G Z hr ⟨cdv, A, outer, s, H, E, rfl⟩
 refine bY ?_ ?_
 ·exact hS (ow := ["_law_found"]) G Z bG
 ·refine bY ?_ ?_
  ·refine kU rfl PassesOwn.never ?_ (fY (i := 4) cF9.nd ?_ ((hL G ?_)) (.inl rfl)) ?_ (gK ?_)
   ·refine bV6 (hG G ?_) TT.b_range ?_ ?_
    ·kernel_rfl
    ·rfl
    ·exact hE G bG
   ·rfl
   ·kernel_rfl
   ·refine bY ?_ ?_
    ·exact hS (ow := ["_law_found"]) G Z bG
    ·refine cW ?_
     refine fV ?_ ?_ ?_
     ·exact hT G bG
     ·refine bY ?_ ?_
      ·exact hS (ow := ["_law_found"]) G Z bG
      ·refine cW ?_
       refine fV ?_ ?_ ?_
       ·exact hT G bG
       ·refine bY ?_ ?_
        ·exact hS (ow := ["_law_found"]) G Z bG
        ·refine cW ?_
         refine fV ?_ ?_ ?_
         ·refine bY0 (i := 3) ?_
          refine pJ (bV3 (zN hr)) ?_ ?_ ?_
          ·exact hE G bG
          ·exact hE G bG
          ·with_unfolding_all rfl
         ·exact hB (ow := ["_law_found"]) G Z bG
         ·exact fU
       ·exact fU
     ·exact fU
   ·rfl
  ·refine zR ?_
   exact hB (ow := ["_law_found"]) G Z bG
end
end Jm
end
section
namespace Jm
open PySem PySem.Spec PyProof.Rows L2 R
variable [bN]
section
variable {P : Program} {w : World} {K : W.Frag} {mg : Str -> Option Value} {base : Heap} {f : Addr} {fd : FuncData} {n : Nat} {C C' : CT}
theorem dX6 : dE N26 ["_law_faces", "_law_takes_here"] (cL vG) := ⟨rfl, rfl, rfl, by decide +kernel, rfl, by decide +kernel, by decide +kernel⟩
theorem dX7 (F : bL K "_law_sorts" "_law_sorts" vG f fd) (TT : Tab P w K mg base n C) : bS P w K mg base bT (n + 1) f fd ["_law_faces", "_law_takes_here"] (cS K (cV 2 7 (bB6 C C'))) :=
 jZ F dX6 (tok TT) [((222, 42), ["_law_name"]), ((223, 42), ["_law_name"])] [] [] bG
end
end Jm
end
section
namespace Jm
open PySem PySem.Spec PyProof.Rows L2 R
variable [bN]
section
variable {P : Program} {w : World} {K : W.Frag} {mg : Str -> Option Value} {base : Heap} {f : Addr} {fd : FuncData} {n : Nat} {C C' : CT}
theorem dX8 : dE N27 ["_law_script", "_law_faces", "_law_unit", "_law_size"] (cL vH) := ⟨rfl, rfl, rfl, by decide +kernel, rfl, by decide +kernel, by decide +kernel⟩
theorem dX9 (F : bL K "_law_member" "_law_member" vH f fd) (TT : Tab P w K mg base n C) : bS P w K mg base bT (n + 1) f fd ["_law_script", "_law_faces", "_law_unit", "_law_size"] (cS K (cV 4 18 (xT C C'))) :=
 jZ F dX8 (tok TT) [((231, 15), ["_law_stem_here", "_law_unit"]), ((232, 22), ["_law_stem_here", "_law_unit", "_law_number"]), ((240, 22), ["_law_stem_here", "_law_unit"]), ((241, 21), []), ((244, 17), []), ((245, 22), ["_law_words", "_law_deeds", "_law_plain", "_law_script", "_law_unit"])] ["_law_made"] [(11, 12)] bG
end
end Jm
end
section
namespace Jm
open PySem PySem.Spec PyProof.Rows L2 R
variable [bN]
section
variable {P : Program} {w : World} {K : W.Frag} {mg : Str -> Option Value} {base : Heap} {f : Addr} {fd : FuncData} {n : Nat} {C C' : CT}
theorem dY0 : dE N28 ["_law_script"] (cL vI) := ⟨rfl, rfl, rfl, by decide +kernel, rfl, by decide +kernel, by decide +kernel⟩
theorem dY1 (F : bL K "_law_set" "_law_set" vI f fd) (TT : Tab P w K mg base n C) : bS P w K mg base bT (n + 1) f fd ["_law_script"] (cS K (cV 1 4 (bB7 C C'))) :=
 jZ F dY0 (tok TT) [((249, 17), ["_law_script"]), ((251, 11), ["_law_faces", "_law_script", "_law_size"])] [] [] bG
end
end Jm
end
section
namespace Jm
open PySem PySem.Spec PyProof.Rows L2 R
variable [bN]
section
variable {P : Program} {w : World} {K : W.Frag} {mg : Str -> Option Value} {base : Heap} {f : Addr} {fd : FuncData} {n : Nat} {C C' : CT}
theorem dY2 : dE N29 ["_law_row", "_law_number", "_law_part"] (cL vJ) := ⟨rfl, rfl, rfl, by decide +kernel, rfl, by decide +kernel, by decide +kernel⟩
theorem dY3 (F : bL K "_law_put_in" "_law_put_in" vJ f fd) (TT : Tab P w K mg base n C) : bS P w K mg base bT (n + 1) f fd ["_law_row", "_law_number", "_law_part"] (cS K (cV 3 4 (bB8 C C'))) :=
 jZ F dY2 (tok TT) [] [] [] bG
end
end Jm
end
section
namespace Jm
open PySem PySem.Spec PyProof.Rows L2 R
variable [bN]
section
variable {P : Program} {w : World} {K : W.Frag} {mg : Str -> Option Value} {base : Heap} {f : Addr} {fd : FuncData} {n : Nat} {C C' : CT}
theorem dY4 : dE N30 ["_law_row", "_law_number"] (cL vK) := ⟨rfl, rfl, rfl, by decide +kernel, rfl, by decide +kernel, by decide +kernel⟩
theorem dY5 (F : bL K "_law_left" "_law_left" vK f fd) (TT : Tab P w K mg base n C) : bS P w K mg base bT (n + 1) f fd ["_law_row", "_law_number"] (cS K (cV 2 3 (bB9 C C'))) :=
 jZ F dY4 (tok TT) [] [] [] bG
end
end Jm
end
section
namespace Jm
open PySem PySem.Spec PyProof.Rows L2 R
variable [bN]
section
variable {P : Program} {w : World} {K : W.Frag} {mg : Str -> Option Value} {base : Heap} {f : Addr} {fd : FuncData} {n : Nat} {C C' : CT}
theorem cG0 : dE N31 ["_law_unit", "_law_face", "_law_other", "_law_number"] (cL vL) := ⟨rfl, rfl, rfl, by decide +kernel, rfl, by decide +kernel, by decide +kernel⟩
theorem dY6 (F : bL K "_law_spoilt" "_law_spoilt" vL f fd) (TT : Tab P w K mg base n C) : bS P w K mg base bT (n + 1) f fd ["_law_unit", "_law_face", "_law_other", "_law_number"] (cS K (cV 4 13 (bC0 C C'))) := by
 refine xP F cG0 (tok TT) [((262, 35), []), ((262, 80), [])] ?_
 rintro pd X G Z hr ⟨cdv, A, outer, s, H, E, rfl⟩
 refine bY ?_ ?_
 ·refine dK6 (i1 := 4) (i2 := 5) (i3 := 6) (i4 := 7) (i5 := 8) rfl cG0.nd ?_ ((hL G ?_)) ?_ ((hL G ?_)) ?_ ((hL G ?_)) ?_ ((hL G ?_)) ?_ ((hL G ?_)) (fun _ => rfl) ?_ ?_ ?_
  ·rfl
  ·kernel_rfl
  ·rfl
  ·kernel_rfl
  ·rfl
  ·kernel_rfl
  ·rfl
  ·kernel_rfl
  ·rfl
  ·kernel_rfl
  ·rfl
  ·rfl
  ·exact hE G bG
 ·exact hB (ow := []) G Z bG
end
end Jm
end
section
namespace Jm
open PySem PySem.Spec PyProof.Rows L2 R
variable [bN]
section
variable {P : Program} {w : World} {K : W.Frag} {mg : Str -> Option Value} {base : Heap} {f : Addr} {fd : FuncData} {n : Nat} {C C' : CT}
theorem sG : dE N32 ["_law_unit", "_law_faces", "_law_face"] (cL vM) := ⟨rfl, rfl, rfl, by decide +kernel, rfl, by decide +kernel, by decide +kernel⟩
theorem dY7 (F : bL K "_law_heads" "_law_heads" vM f fd) (TT : Tab P w K mg base n C) (cm__law_deeds_heads : lR P w K mg base n "_law_deeds_heads" (xW C)) : bS P w K mg base bT (n + 1) f fd ["_law_unit", "_law_faces", "_law_face"] (cS K (cV 3 12 (xX C C'))) := by
 refine xP F sG (tok TT) [((287, 21), ["_law_source", "_law_unit"]), ((290, 22), ["_law_name"]), ((290, 89), ["_law_name"])] ?_
 rintro pd X G Z hr ⟨cdv, A, outer, s, H, E, rfl⟩
 refine bY ?_ ?_
 ·refine bI2 (i := 3) sG.nd ?_ ((hL G ?_)) (.inl rfl)
  ·rfl
  ·kernel_rfl
 ·refine bY ?_ ?_
  ·refine fV ?_ ?_ ?_
   ·exact hT G bG
   ·refine bY ?_ ?_
    ·refine kU rfl PassesOwn.never ?_ (fY (i := 4) sG.nd ?_ ((hL G ?_)) (.inl rfl)) ?_ (gK ?_)
     ·refine jM ?_
      exact hE G bG
     ·rfl
     ·kernel_rfl
     ·refine cW ?_
      refine lQ (fO hr) (cU G ?_) ?_ ?_ ?_
      ·kernel_rfl
      ·exact hE G bG
      ·exact hE G bG
      ·rfl
     ·rfl
    ·refine cW ?_
     refine xA rfl PassesOwn.never ?_ (tE (i := 5) (j := 6) rfl sG.nd ?_ ((hL G ?_)) ?_ ((hL G ?_)) (.inl rfl) (.inl rfl)) ?_ (gK ?_)
     ·refine jM ?_
      exact hE G bG
     ·rfl
     ·kernel_rfl
     ·rfl
     ·kernel_rfl
     ·refine cW ?_
      refine lQ (fO hr) (cU G ?_) ?_ ?_ ?_
      ·kernel_rfl
      ·exact hE G bG
      ·exact hE G bG
      ·rfl
     ·rfl
   ·exact fU
  ·refine bY ?_ ?_
   ·refine bI3 (j := 7) sG.nd ?_ ((hL G ?_)) (.inl rfl) (cU G ?_) (hG G ?_) TT.b_dict ?_
    ·rfl
    ·kernel_rfl
    ·kernel_rfl
    ·kernel_rfl
    ·rfl
   ·refine bY1 ?_
    refine bY ?_ ?_
    ·refine xA rfl PassesOwn.never ?_ (tE (i := 8) (j := 9) rfl sG.nd ?_ ((hL G ?_)) ?_ ((hL G ?_)) (.inl rfl) (.inl rfl)) ?_ (gK ?_)
     ·refine jM ?_
      exact hE G bG
     ·rfl
     ·kernel_rfl
     ·rfl
     ·kernel_rfl
     ·refine bY ?_ ?_
      ·exact hS (ow := []) G Z bG
      ·refine bY ?_ ?_
       ·exact hS (ow := []) G Z bG
       ·refine bY ?_ ?_
        ·exact hS (ow := []) G Z bG
        ·refine bY ?_ ?_
         ·exact hS (ow := []) G Z bG
         ·refine bY ?_ ?_
          ·refine fV ?_ ?_ ?_
           ·refine pP (fO hr) (cU G ?_) ?_ ?_
            ·kernel_rfl
            ·exact hE G bG
            ·with_unfolding_all rfl
           ·exact hB (ow := []) G Z bG
           ·exact fU
          ·refine cW ?_
           refine lQ (fO hr) (cU G ?_) ?_ ?_ ?_
           ·kernel_rfl
           ·exact hE G bG
           ·exact hE G bG
           ·rfl
     ·rfl
    ·refine bY ?_ ?_
     ·refine kU rfl PassesOwn.never ?_ (fY (i := 9) sG.nd ?_ ((hL G ?_)) (.inl rfl)) ?_ (gK ?_)
      ·refine jM ?_
       exact hE G bG
      ·rfl
      ·kernel_rfl
      ·refine bY ?_ ?_
       ·refine fV ?_ ?_ ?_
        ·refine pP (fO hr) (cU G ?_) ?_ ?_
         ·kernel_rfl
         ·exact hE G bG
         ·with_unfolding_all rfl
        ·exact hB (ow := []) G Z bG
        ·exact fU
       ·refine cW ?_
        refine lQ (fO hr) (cU G ?_) ?_ ?_ ?_
        ·kernel_rfl
        ·exact hE G bG
        ·exact hE G bG
        ·rfl
      ·rfl
     ·refine cW ?_
      refine dK2 (qW cm__law_deeds_heads hr (hG G ?_) ?_)
      ·kernel_rfl
      ·refine pR ?_ ?_
       ·exact hE G bG
       ·refine bX3 (cU G ?_) ?_
        ·kernel_rfl
        ·refine qV (cU G ?_)
         kernel_rfl
end
end Jm
end
section
namespace Jm
open PySem PySem.Spec PyProof.Rows L2 R
variable [bN]
section
variable {P : Program} {w : World} {K : W.Frag} {mg : Str -> Option Value} {base : Heap} {f : Addr} {fd : FuncData} {n : Nat} {C C' : CT}
theorem bN6 : dE N33 ["_law_unit", "_law_told_here", "_law_top"] (cL rF) := ⟨rfl, rfl, rfl, by decide +kernel, rfl, by decide +kernel, by decide +kernel⟩
theorem dY8 {n0 : Nat} {C0 : CT} (F : bL K "_law_deeds_heads" "_law_deeds_heads" rF f fd) (TT : Tab P w K mg base n0 C0) : bS P w K mg base bT (n + 1) f fd ["_law_unit", "_law_told_here", "_law_top"] (nL K (xW C)) := by
 refine tT F bN6 (rE (tok TT)) [] (by decide) ?_
 rintro pd X G Z hr ⟨cdv, A, outer, s, H, E, rfl⟩
 refine bY ?_ ?_
 ·exact hS (ow := ["_law_met"]) G Z bG
 ·refine bY ?_ ?_
  ·refine kU rfl PassesOwn.never ?_ (fY (i := 4) bN6.nd ?_ ((hL G ?_)) (.inl rfl)) ?_ (gK ?_)
   ·refine jM ?_
    exact hE G bG
   ·rfl
   ·kernel_rfl
   ·refine bY ?_ ?_
    ·refine fV ?_ ?_ ?_
     ·refine IW.it ?_
      refine zG ?_ ?_
      ·refine pP (fO hr) (cU G ?_) ?_ ?_
       ·kernel_rfl
       ·exact hE G bG
       ·with_unfolding_all rfl
      ·refine zE ?_
       refine IW.it ?_
       refine zH ?_ ?_
       ·refine pJ bT5 ?_ ?_ (qK _)
        ·refine dJ2 (fO hr) (cU G ?_) ?_ ?_ ?_
         ·kernel_rfl
         ·exact hE G bG
         ·exact hE G bG
         ·exact ⟨rfl, rfl, rfl, rfl⟩
        ·exact hE G bG
       ·refine zF ?_
        refine bY0 (i := 3) ?_
        refine pJ (bV2 (zN hr)) ?_ ?_ ?_
        ·exact hE G bG
        ·exact hE G bG
        ·with_unfolding_all rfl
     ·refine cW ?_
      refine jP ?_
      exact hE G bG
     ·exact fU
    ·refine bY ?_ ?_
     ·refine fV ?_ ?_ ?_
      ·refine IW.it ?_
       refine zG ?_ ?_
       ·refine pP (fO hr) (cU G ?_) ?_ ?_
        ·kernel_rfl
        ·exact hE G bG
        ·with_unfolding_all rfl
       ·refine zE ?_
        refine pJ bW0 ?_ ?_ (qK _)
        ·refine zU (fO hr) (cU G ?_) ?_ (fun _ _ => rfl)
         ·kernel_rfl
         ·exact hE G bG
        ·exact hE G bG
      ·refine cW ?_
       refine jP ?_
       exact hE G bG
      ·exact fU
     ·refine bY ?_ ?_
      ·refine lQ (fO hr) (cU G ?_) ?_ ?_ ?_
       ·kernel_rfl
       ·exact hE G bG
       ·exact hE G bG
       ·rfl
      ·exact hB (ow := ["_law_met"]) G Z bG
   ·rfl
  ·refine zR ?_
   refine bY ?_ ?_
   ·refine kU rfl PassesOwn.never ?_ (fY (i := 5) bN6.nd ?_ ((hL G ?_)) (.inl rfl)) ?_ (gK ?_)
    ·refine dJ8 (cU G ?_)
     kernel_rfl
    ·rfl
    ·kernel_rfl
    ·refine cW ?_
     refine fV ?_ ?_ ?_
     ·refine IW.it ?_
      refine zG ?_ ?_
      ·refine pJ bT7 ?_ ?_ (qK _)
       ·refine zU (fO hr) (cU G ?_) ?_ (fun _ _ => rfl)
        ·kernel_rfl
        ·exact hE G bG
       ·exact hE G bG
      ·refine zE ?_
       exact hT G bG
     ·refine cW ?_
      refine jP ?_
      exact hE G bG
     ·exact fU
    ·rfl
   ·refine cW ?_
    refine jP ?_
    exact hE G bG
end
end Jm
end
section
namespace Jm
open PySem PySem.Spec PyProof.Rows L2 R
variable [bN]
section
variable {P : Program} {w : World} {K : W.Frag} {mg : Str -> Option Value} {base : Heap} {f : Addr} {fd : FuncData} {n : Nat} {C C' : CT}
theorem yI : dE N34 ["_law_script"] (cL vN) := ⟨rfl, rfl, rfl, by decide +kernel, rfl, by decide +kernel, by decide +kernel⟩
theorem dY9 (F : bL K "law" "law" vN f fd) (TT : Tab P w K mg base n C) : bS P w K mg base bT (n + 1) f fd ["_law_script"] (cS K (cV 1 13 (bC1 C C'))) := by
 refine xP F yI (tok TT) [((319, 23), []), ((328, 37), [])] ?_
 rintro pd X G Z hr ⟨cdv, A, outer, s, H, E, rfl⟩
 refine bY ?_ ?_
 ·exact hS (ow := []) G Z bG
 ·refine bY ?_ ?_
  ·exact hS (ow := []) G Z bG
  ·refine bY ?_ ?_
   ·exact hS (ow := []) G Z bG
   ·refine bY ?_ ?_
    ·exact hS (ow := []) G Z bG
    ·refine bY ?_ ?_
     ·exact hS (ow := []) G Z bG
     ·refine bY ?_ ?_
      ·exact hS (ow := []) G Z bG
      ·refine bY ?_ ?_
       ·exact hS (ow := []) G Z bG
       ·refine bY ?_ ?_
        ·refine bI2 (i := 7) yI.nd ?_ ((hL G ?_)) (.inl rfl)
         ·rfl
         ·kernel_rfl
        ·refine bY ?_ ?_
         ·refine xA rfl PassesOwn.never ?_ (tE (i := 8) (j := 9) rfl yI.nd ?_ ((hL G ?_)) ?_ ((hL G ?_)) (.inl rfl) (.inl rfl)) ?_ (gK ?_)
          ·refine jM ?_
           exact hE G bG
          ·rfl
          ·kernel_rfl
          ·rfl
          ·kernel_rfl
          ·refine cW ?_
           refine fV ?_ ?_ ?_
           ·exact hT G bG
           ·refine cW ?_
            refine lQ (fO hr) (cU G ?_) ?_ ?_ ?_
            ·kernel_rfl
            ·exact hE G bG
            ·exact hE G bG
            ·rfl
           ·exact fU
          ·rfl
         ·refine bY1 ?_
          refine bY ?_ ?_
          ·refine bI3 (j := 10) yI.nd ?_ ((hL G ?_)) (.inl rfl) (cU G ?_) (hG G ?_) TT.b_dict ?_
           ·rfl
           ·kernel_rfl
           ·kernel_rfl
           ·kernel_rfl
           ·rfl
          ·refine bY ?_ ?_
           ·refine bV7 (i := 11) yI.nd ?_ ((hL G ?_)) ?_ (.inl rfl) ?_
            ·rfl
            ·kernel_rfl
            ·rfl
            ·refine bX9 TT.c1 hr (hG G ?_) (zW ?_ (bX8 (cU G ?_) (zW ?_ bX7)))
             ·kernel_rfl
             ·exact hE G bG
             ·kernel_rfl
             ·exact hE G bG
           ·refine bY ?_ ?_
            ·exact hS (ow := []) G Z bG
            ·refine bY ?_ ?_
             ·refine fV ?_ ?_ ?_
              ·refine IW.it ?_
               refine zH ?_ ?_
               ·refine dK4 (bH1 hr) (cU G ?_) (cU G ?_)
                ·kernel_rfl
                ·kernel_rfl
               ·refine zF ?_
                refine pJ (dK5 (bH1 hr)) ?_ ?_ (qK _)
                ·refine bX9 TT.c1 hr (hG G ?_) (zW ?_ (bX8 (cU G ?_) (zW ?_ bX7)))
                 ·kernel_rfl
                 ·exact hE G bG
                 ·kernel_rfl
                 ·exact hE G bG
                ·exact hE G bG
              ·exact hB (ow := []) G Z bG
              ·exact fU
             ·exact hB (ow := []) G Z bG
end
end Jm
end
section
namespace Jm
open PySem PySem.Spec PyProof.Rows L2 R
section
variable [bN]
noncomputable def wiB : List Value -> Str -> Int -> Bool
 | [.str x _, .int j _], s, i => x == s && j == i
 | _, _, _ => false
theorem dZ0 {K : W.Frag} {mg : Str -> Option Value} {x : Str} {p : Addr} {sl : Array (Option Value)} {its : Array Value} {n : Nat} {s : Str} {i : Int} (hm : mg x = some (.ref p)) (hk : K.lookup p = some ⟨.type "tuple", none, .seq its n, sl⟩) (hs : s.length <= 1000) (hv : wiB its.toList s i = true) : qR K mg x (.tup [.str s, .int i]) := by
 obtain ⟨l⟩ := its
 replace hv : wiB l s i = true := hv
 unfold wiB at hv
 split at hv
 ·rename_i y t j u
  rw [Bool.and_eq_true] at hv
  cases eq_of_beq hv.1
  cases eq_of_beq hv.2
  refine ⟨.ref p, .ref p, hm, rfl, fun F => ?_⟩
  have hz := sizeLine_eq
  simp only [bC]
  refine ⟨p, [V.str s, V.int i], rfl, .inr ⟨_, _, _, hk, ⟨rfl, rfl⟩, rfl, by show 2 <= sizeLine; omega, .cons ⟨t, rfl⟩ (.cons ⟨u, rfl⟩ .nil)⟩, DatL.cons ?_ (DatL.cons ?_ DatL.nil)⟩
  ·simp only [bC]; exact ⟨trivial, by omega⟩
  ·simp only [bC]
 ·cases hv
theorem bD6 {P : Program} {w : World} {K : W.Frag} {mg : Str -> Option Value} {base : Heap} {k : Nat} {f : Addr} {fd : FuncData} {ps : List Str} {m : List Slot -> bD D} (hm : ∀ sl, m sl = .bad) : bS P w K mg base bT k f fd ps (nN K m) := by
 have no : ∀ vs H Q E, ¬ nN K m vs H Q E := fun vs H Q E h => by
  obtain ⟨F, sl, _, _, _, q⟩ := h
  rw [hm sl] at q
  exact q
 exact ⟨fun vs H Q E h => absurd h (no vs H Q E), fun A outer s H args us vs Q E _ _ _ _ h => absurd h (no vs H Q E)⟩
theorem bD7 (sl : List Slot) : mR (fun _ => .bad) sl = .bad := by
 unfold mR
 split <;> rfl
theorem okF {P : Program} {w : World} {K : W.Frag} {mg : Str -> Option Value} {base : Heap} {f : Addr} {fd : FuncData} {n : Nat} {C : CT} (F : bL K "fault_of" "fault_of" s1 f fd) (TT : Tab P w K mg base (n + 1) C) : bS P w K mg base bT (n + 4) f fd ["unit", "faces", "face"] (nN K (mR (bC2 C))) := by
 obtain ⟨f2, d2, F2, m2, u2⟩ := TT.h2
 obtain ⟨f3, d3, F3, m3, u3⟩ := TT.h3
 obtain ⟨f4, d4, F4, m4, u4⟩ := TT.h4
 obtain ⟨f5, d5, F5, m5, u5⟩ := TT.h5
 obtain ⟨f6, d6, F6, m6, u6⟩ := TT.h6
 obtain ⟨f7, d7, F7, m7, u7⟩ := TT.h7
 have c7 : lR P w K mg base (n + 2) "fault_of_block" (mS C) := ⟨⟨f7, d7, _, ok7 (n0 := 0) (C0 := C) (n := n + 1) F7 TT, m7, F7.kp, u7⟩⟩
 have c6 : lR P w K mg base (n + 3) "fault_of_blocks" (xU C) := ⟨⟨f6, d6, _, ok6 (n := n + 2) F6 TT c7, m6, F6.kp, u6⟩⟩
 have c5 : lR P w K mg base (n + 3) "fault_of_deeds" (xV C) := ⟨⟨f5, d5, _, ok5 (n := n + 2) F5 TT, m5, F5.kp, u5⟩⟩
 have c4 : lR P w K mg base (n + 3) "fault_of_words" (rH C) := ⟨⟨f4, d4, _, ok4 (n := n + 2) F4 TT, m4, F4.kp, u4⟩⟩
 have c2 : qX P w K mg base (n + 2) "meanings_told" (nQ C) := ⟨⟨f2, d2, _, ok2 (n := n + 1) F2 TT, m2, F2.kp, u2⟩⟩
 have c3 : lR P w K mg base (n + 3) "fault_of_takes" (rJ C) := ⟨⟨f3, d3, _, ok3 (n := n + 2) F3 TT c2, m3, F3.kp, u3⟩⟩
 refine (ok1 (n := n + 3) F TT c6 c5 c4 (c2.mono (Nat.le_succ _)) c3).imp fun vs H Q E h => ?_
 obtain ⟨F, sl, a, b, c, q⟩ := h
 unfold mR at q
 split at q
 ·rename_i u T f
  have e : bC2 C [u, qZ T, f] = mO 3 5 (pY C) [.val u, .tab T, .val f] := by
   show (match bA2 (qZ T) with
    | some T => mO 3 5 (pY C) [.val u, .tab T, .val f]
    | none => .bad) = _
   rw [bZ2]
  rw [e] at q
  exact ⟨F, _, a, b, c, q⟩
 ·exact q.elim
variable {P : Program} {w : World} {K : W.Frag} {mg : Str -> Option Value} {base : Heap}
structure Adr where
 f1 : Addr
 d1 : FuncData
 f2 : Addr
 d2 : FuncData
 f3 : Addr
 d3 : FuncData
 f4 : Addr
 d4 : FuncData
 f5 : Addr
 d5 : FuncData
 f6 : Addr
 d6 : FuncData
 f7 : Addr
 d7 : FuncData
 f9 : Addr
 d9 : FuncData
 f14 : Addr
 d14 : FuncData
 f15 : Addr
 d15 : FuncData
 f16 : Addr
 d16 : FuncData
 f17 : Addr
 d17 : FuncData
 f18 : Addr
 d18 : FuncData
 f19 : Addr
 d19 : FuncData
 f20 : Addr
 d20 : FuncData
 f21 : Addr
 d21 : FuncData
 f22 : Addr
 d22 : FuncData
 f23 : Addr
 d23 : FuncData
 f24 : Addr
 d24 : FuncData
 f25 : Addr
 d25 : FuncData
 f26 : Addr
 d26 : FuncData
 f27 : Addr
 d27 : FuncData
 f28 : Addr
 d28 : FuncData
 f29 : Addr
 d29 : FuncData
 f30 : Addr
 d30 : FuncData
 f31 : Addr
 d31 : FuncData
 f32 : Addr
 d32 : FuncData
 f33 : Addr
 d33 : FuncData
 f34 : Addr
 d34 : FuncData
structure Std (w : World) (K : W.Frag) (mg : Str -> Option Value) (t : Adr) : Prop where
 F1 : bL K "fault_of" "fault_of" s1 t.f1 t.d1
 m1 : mg "fault_of" = some (.ref t.f1)
 u1 : cY K t.d1 ["unit", "faces", "face"] []
 F2 : bL K "meanings_told" "meanings_told" s2 t.f2 t.d2
 m2 : mg "meanings_told" = some (.ref t.f2)
 u2 : cY K t.d2 ["face"] []
 F3 : bL K "fault_of_takes" "fault_of_takes" s3 t.f3 t.d3
 m3 : mg "fault_of_takes" = some (.ref t.f3)
 u3 : cY K t.d3 ["unit", "faces", "top"] []
 F4 : bL K "fault_of_words" "fault_of_words" s4 t.f4 t.d4
 m4 : mg "fault_of_words" = some (.ref t.f4)
 u4 : cY K t.d4 ["unit", "top"] []
 F5 : bL K "fault_of_deeds" "fault_of_deeds" s5 t.f5 t.d5
 m5 : mg "fault_of_deeds" = some (.ref t.f5)
 u5 : cY K t.d5 ["unit", "face", "top"] []
 F6 : bL K "fault_of_blocks" "fault_of_blocks" s6 t.f6 t.d6
 m6 : mg "fault_of_blocks" = some (.ref t.f6)
 u6 : cY K t.d6 ["unit", "top"] []
 F7 : bL K "fault_of_block" "fault_of_block" s7 t.f7 t.d7
 m7 : mg "fault_of_block" = some (.ref t.f7)
 u7 : cY K t.d7 ["block", "meanings"] []
 F9 : bL K "uses_of_block" "uses_of_block" s9 t.f9 t.d9
 m9 : mg "uses_of_block" = some (.ref t.f9)
 u9 : cY K t.d9 ["block"] []
 F14 : bL K "_law_cell_at" "_law_cell_at" tU t.f14 t.d14
 m14 : mg "_law_cell_at" = some (.ref t.f14)
 u14 : cY K t.d14 ["_law_script", "_law_k"] []
 F15 : bL K "_law_mixed" "_law_mixed" tV t.f15 t.d15
 m15 : mg "_law_mixed" = some (.ref t.f15)
 u15 : cY K t.d15 ["_law_script", "_law_k"] []
 F16 : bL K "_law_drawn" "_law_drawn" tW t.f16 t.d16
 m16 : mg "_law_drawn" = some (.ref t.f16)
 u16 : cY K t.d16 ["_law_number", "_law_k"] []
 F17 : bL K "_law_stem" "_law_stem" tX t.f17 t.d17
 m17 : mg "_law_stem" = some (.ref t.f17)
 u17 : cY K t.d17 ["_law_number"] []
 F18 : bL K "_law_value" "_law_value" tY t.f18 t.d18
 m18 : mg "_law_value" = some (.ref t.f18)
 u18 : cY K t.d18 ["_law_number"] []
 F19 : bL K "_law_expression" "_law_expression" tZ t.f19 t.d19
 m19 : mg "_law_expression" = some (.ref t.f19)
 u19 : cY K t.d19 ["_law_number", "_law_names", "_law_deeds", "_law_deep"] []
 F20 : bL K "_law_short" "_law_short" vA t.f20 t.d20
 m20 : mg "_law_short" = some (.ref t.f20)
 u20 : cY K t.d20 ["_law_number", "_law_names", "_law_deeds", "_law_plain"] []
 F21 : bL K "_law_statement" "_law_statement" vB t.f21 t.d21
 m21 : mg "_law_statement" = some (.ref t.f21)
 u21 : cY K t.d21 ["_law_number", "_law_names", "_law_deeds", "_law_plain", "_law_deep"] []
 F22 : bL K "_law_block" "_law_block" vC t.f22 t.d22
 m22 : mg "_law_block" = some (.ref t.f22)
 u22 : cY K t.d22 ["_law_number", "_law_size", "_law_names", "_law_deeds", "_law_plain", "_law_deep"] []
 F23 : bL K "_law_said" "_law_said" vD t.f23 t.d23
 m23 : mg "_law_said" = some (.ref t.f23)
 u23 : cY K t.d23 ["_law_stem_here", "_law_unit", "_law_k"] []
 F24 : bL K "_law_told" "_law_told" vE t.f24 t.d24
 m24 : mg "_law_told" = some (.ref t.f24)
 u24 : cY K t.d24 ["_law_script", "_law_unit"] []
 F25 : bL K "_law_takes" "_law_takes" vF t.f25 t.d25
 m25 : mg "_law_takes" = some (.ref t.f25)
 u25 : cY K t.d25 ["_law_faces", "_law_name", "_law_number"] []
 F26 : bL K "_law_sorts" "_law_sorts" vG t.f26 t.d26
 m26 : mg "_law_sorts" = some (.ref t.f26)
 u26 : cY K t.d26 ["_law_faces", "_law_takes_here"] []
 F27 : bL K "_law_member" "_law_member" vH t.f27 t.d27
 m27 : mg "_law_member" = some (.ref t.f27)
 u27 : cY K t.d27 ["_law_script", "_law_faces", "_law_unit", "_law_size"] []
 F28 : bL K "_law_set" "_law_set" vI t.f28 t.d28
 m28 : mg "_law_set" = some (.ref t.f28)
 u28 : cY K t.d28 ["_law_script"] []
 F29 : bL K "_law_put_in" "_law_put_in" vJ t.f29 t.d29
 m29 : mg "_law_put_in" = some (.ref t.f29)
 u29 : cY K t.d29 ["_law_row", "_law_number", "_law_part"] []
 F30 : bL K "_law_left" "_law_left" vK t.f30 t.d30
 m30 : mg "_law_left" = some (.ref t.f30)
 u30 : cY K t.d30 ["_law_row", "_law_number"] []
 F31 : bL K "_law_spoilt" "_law_spoilt" vL t.f31 t.d31
 m31 : mg "_law_spoilt" = some (.ref t.f31)
 u31 : cY K t.d31 ["_law_unit", "_law_face", "_law_other", "_law_number"] []
 F32 : bL K "_law_heads" "_law_heads" vM t.f32 t.d32
 m32 : mg "_law_heads" = some (.ref t.f32)
 u32 : cY K t.d32 ["_law_unit", "_law_faces", "_law_face"] []
 F33 : bL K "_law_deeds_heads" "_law_deeds_heads" rF t.f33 t.d33
 m33 : mg "_law_deeds_heads" = some (.ref t.f33)
 u33 : cY K t.d33 ["_law_unit", "_law_told_here", "_law_top"] []
 F34 : bL K "law" "law" vN t.f34 t.d34
 m34 : mg "law" = some (.ref t.f34)
 u34 : cY K t.d34 ["_law_script"] []
 b_dict : mg "dict" = none
 b_enumerate : mg "enumerate" = none
 b_isinstance : mg "isinstance" = none
 b_len : mg "len" = none
 b_list : mg "list" = none
 b_max : mg "max" = none
 b_min : mg "min" = none
 b_range : mg "range" = none
 b_tuple : mg "tuple" = none
 gc_WORD : qR K mg "WORD" gM
structure Oks (P : Program) (w : World) (K : W.Frag) (mg : Str -> Option Value) (base : Heap) (t : Adr) (n : Nat) (C : CT) : Prop where
 o9 : bS P w K mg base bT n t.f9 t.d9 ["block"] (cS K (C .q1))
 o14 : bS P w K mg base bT n t.f14 t.d14 ["_law_script", "_law_k"] (cS K (C .q2))
 o15 : bS P w K mg base bT n t.f15 t.d15 ["_law_script", "_law_k"] (cS K (C .q3))
 o16 : bS P w K mg base bT n t.f16 t.d16 ["_law_number", "_law_k"] (cS K (C .q4))
 o17 : bS P w K mg base bT n t.f17 t.d17 ["_law_number"] (cS K (C .q5))
 o18 : bS P w K mg base bT n t.f18 t.d18 ["_law_number"] (cS K (C .q6))
 o19 : bS P w K mg base bT n t.f19 t.d19 ["_law_number", "_law_names", "_law_deeds", "_law_deep"] (cS K (C .q7))
 o20 : bS P w K mg base bT n t.f20 t.d20 ["_law_number", "_law_names", "_law_deeds", "_law_plain"] (cS K (C .q8))
 o21 : bS P w K mg base bT n t.f21 t.d21 ["_law_number", "_law_names", "_law_deeds", "_law_plain", "_law_deep"] (cS K (C .q9))
 o22 : bS P w K mg base bT n t.f22 t.d22 ["_law_number", "_law_size", "_law_names", "_law_deeds", "_law_plain", "_law_deep"] (cS K (C .q10))
 o23 : bS P w K mg base bT n t.f23 t.d23 ["_law_stem_here", "_law_unit", "_law_k"] (cS K (C .q11))
 o24 : bS P w K mg base bT n t.f24 t.d24 ["_law_script", "_law_unit"] (cS K (C .q12))
 o25 : bS P w K mg base bT n t.f25 t.d25 ["_law_faces", "_law_name", "_law_number"] (cS K (C .q13))
 o26 : bS P w K mg base bT n t.f26 t.d26 ["_law_faces", "_law_takes_here"] (cS K (C .q14))
 o27 : bS P w K mg base bT n t.f27 t.d27 ["_law_script", "_law_faces", "_law_unit", "_law_size"] (cS K (C .q15))
 o28 : bS P w K mg base bT n t.f28 t.d28 ["_law_script"] (cS K (C .q16))
 o29 : bS P w K mg base bT n t.f29 t.d29 ["_law_row", "_law_number", "_law_part"] (cS K (C .q17))
 o30 : bS P w K mg base bT n t.f30 t.d30 ["_law_row", "_law_number"] (cS K (C .q18))
 o31 : bS P w K mg base bT n t.f31 t.d31 ["_law_unit", "_law_face", "_law_other", "_law_number"] (cS K (C .q19))
 o32 : bS P w K mg base bT n t.f32 t.d32 ["_law_unit", "_law_faces", "_law_face"] (cS K (C .q20))
 o34 : bS P w K mg base bT n t.f34 t.d34 ["_law_script"] (cS K (C .law))
 o1 : bS P w K mg base bT n t.f1 t.d1 ["unit", "faces", "face"] (nN K (mR (C .q0)))
theorem cG2 {t : Adr} {n : Nat} {C : CT} (S : Std w K mg t) (O : Oks P w K mg base t n C) : Tab P w K mg base n C where
 c9 := ⟨⟨t.f9, t.d9, _, O.o9, S.m9, S.F9.kp, S.u9⟩⟩
 c14 := ⟨⟨t.f14, t.d14, _, O.o14, S.m14, S.F14.kp, S.u14⟩⟩
 c15 := ⟨⟨t.f15, t.d15, _, O.o15, S.m15, S.F15.kp, S.u15⟩⟩
 c16 := ⟨⟨t.f16, t.d16, _, O.o16, S.m16, S.F16.kp, S.u16⟩⟩
 c17 := ⟨⟨t.f17, t.d17, _, O.o17, S.m17, S.F17.kp, S.u17⟩⟩
 c18 := ⟨⟨t.f18, t.d18, _, O.o18, S.m18, S.F18.kp, S.u18⟩⟩
 c19 := ⟨⟨t.f19, t.d19, _, O.o19, S.m19, S.F19.kp, S.u19⟩⟩
 c20 := ⟨⟨t.f20, t.d20, _, O.o20, S.m20, S.F20.kp, S.u20⟩⟩
 c21 := ⟨⟨t.f21, t.d21, _, O.o21, S.m21, S.F21.kp, S.u21⟩⟩
 c22 := ⟨⟨t.f22, t.d22, _, O.o22, S.m22, S.F22.kp, S.u22⟩⟩
 c23 := ⟨⟨t.f23, t.d23, _, O.o23, S.m23, S.F23.kp, S.u23⟩⟩
 c24 := ⟨⟨t.f24, t.d24, _, O.o24, S.m24, S.F24.kp, S.u24⟩⟩
 c25 := ⟨⟨t.f25, t.d25, _, O.o25, S.m25, S.F25.kp, S.u25⟩⟩
 c26 := ⟨⟨t.f26, t.d26, _, O.o26, S.m26, S.F26.kp, S.u26⟩⟩
 c27 := ⟨⟨t.f27, t.d27, _, O.o27, S.m27, S.F27.kp, S.u27⟩⟩
 c28 := ⟨⟨t.f28, t.d28, _, O.o28, S.m28, S.F28.kp, S.u28⟩⟩
 c29 := ⟨⟨t.f29, t.d29, _, O.o29, S.m29, S.F29.kp, S.u29⟩⟩
 c30 := ⟨⟨t.f30, t.d30, _, O.o30, S.m30, S.F30.kp, S.u30⟩⟩
 c31 := ⟨⟨t.f31, t.d31, _, O.o31, S.m31, S.F31.kp, S.u31⟩⟩
 c32 := ⟨⟨t.f32, t.d32, _, O.o32, S.m32, S.F32.kp, S.u32⟩⟩
 c34 := ⟨⟨t.f34, t.d34, _, O.o34, S.m34, S.F34.kp, S.u34⟩⟩
 c1 := ⟨⟨t.f1, t.d1, _, O.o1, S.m1, S.F1.kp, S.u1⟩⟩
 h1 := ⟨t.f1, t.d1, S.F1, S.m1, S.u1⟩
 h2 := ⟨t.f2, t.d2, S.F2, S.m2, S.u2⟩
 h3 := ⟨t.f3, t.d3, S.F3, S.m3, S.u3⟩
 h4 := ⟨t.f4, t.d4, S.F4, S.m4, S.u4⟩
 h5 := ⟨t.f5, t.d5, S.F5, S.m5, S.u5⟩
 h6 := ⟨t.f6, t.d6, S.F6, S.m6, S.u6⟩
 h7 := ⟨t.f7, t.d7, S.F7, S.m7, S.u7⟩
 h33 := ⟨t.f33, t.d33, S.F33, S.m33, S.u33⟩
 b_dict := S.b_dict
 b_enumerate := S.b_enumerate
 b_isinstance := S.b_isinstance
 b_len := S.b_len
 b_list := S.b_list
 b_max := S.b_max
 b_min := S.b_min
 b_range := S.b_range
 b_tuple := S.b_tuple
 gc_WORD := S.gc_WORD
theorem bN8 {t : Adr} (S : Std w K mg t) : ∀ (n : Nat) (base : Heap), Oks P w K mg base t n (Ph n)
 | 0, _ => by constructor <;> first | exact bH2 fun _ => rfl | exact bD6 bD7
 | 1, _ => by constructor <;> first | exact bH2 fun _ => rfl | exact bD6 bD7
 | 2, _ => by constructor <;> first | exact bH2 fun _ => rfl | exact bD6 bD7
 | n + 3, base => by
  have T : ∀ b : Heap, Tab P w K mg b (n + 2) (Ph (n + 2)) := fun b => cG2 S (bN8 S (n + 2) b)
  have T0 : ∀ b : Heap, Tab P w K mg b n (Ph n) := fun b => cG2 S (bN8 S n b)
  have oF : bS P w K mg base bT (n + 3) t.f1 t.d1 ["unit", "faces", "face"] (nN K (mR (Ph (n + 3) .q0))) := by
   cases n with
   | zero => exact bD6 bD7
   | succ m => exact okF S.F1 (T0 base)
  exact ⟨ok9 (C' := Ph n) S.F9 (T base), dV4 (C' := Ph n) S.F14 (T base), dV6 (C' := Ph n) S.F15 (T base), dV8 (C' := Ph n) S.F16 (T base), dW0 (C' := Ph n) S.F17 (T base), dW2 (C' := Ph n) S.F18 (T base), dW4 (C' := Ph n) S.F19 (T base), dW6 (C' := Ph n) S.F20 (T base), dW8 (C' := Ph n) S.F21 (T base), dX0 (C' := Ph n) S.F22 (T base), dX2 (C' := Ph n) S.F23 (T base), dX4 (C' := Ph n) S.F24 (T base), dX5 (C' := Ph n) S.F25 (T base), dX7 (C' := Ph n) S.F26 (T base), dX9 (C' := Ph n) S.F27 (T base), dY1 (C' := Ph n) S.F28 (T base), dY3 (C' := Ph n) S.F29 (T base), dY5 (C' := Ph n) S.F30 (T base), dY6 (C' := Ph n) S.F31 (T base), dY7 (C' := Ph n) S.F32 (T base) ⟨⟨t.f33, t.d33, _, dY8 (n := n + 1) S.F33 (T0 base), S.m33, S.F33.kp, S.u33⟩⟩, dY9 (C' := Ph n) S.F34 (T base), oF⟩
end
noncomputable abbrev Fd (x : Str) (s : Stmt) (kV dc pm : Value) (an : Option Addr) (cd ct : Value) : FuncData := W.fnOf x x (wJ s) (lN s) (cL s) .none kV dc pm an cd ct
noncomputable abbrev Ob (oc : Value) (od : Option Addr) (d : FuncData) (sl : Array (Option Value)) : Obj := ⟨oc, od, .func d, sl⟩
theorem all_mk {l : W.OpenLaw} {w : World} {K : W.Frag} {h : Heap} {mg : Str -> Option Value} {fa : Addr} (X : K.In h) (G : h.Ns mainGlobals mg) (hfa : mg "law" = some (.ref fa))
 (hbm : ∃ bm ob, mg "__builtins__" = some (.ref bm) /\ bm ≠ builtinsNs /\ h.get? bm = some ob /\ ob.cls = .type "module" /\ ob.dict = some builtinsNs /\ ob.data = .plain)
 (a1 : W.nsIn K mainGlobals "fault_of" = some (some (.ref f1))) (l1 : K.lookup f1 = some (Ob oc1 od1 (Fd "fault_of" s1 kV1 dc1 pm1 an1 cd1 ct1) sl1)) (c1 : W.codeIn K cd1 "fault_of" = true) (k1 : W.keepIn K (.ref f1) = true)
 (a2 : W.nsIn K mainGlobals "meanings_told" = some (some (.ref f2))) (l2 : K.lookup f2 = some (Ob oc2 od2 (Fd "meanings_told" s2 kV2 dc2 pm2 an2 cd2 ct2) sl2)) (c2 : W.codeIn K cd2 "meanings_told" = true) (k2 : W.keepIn K (.ref f2) = true)
 (a3 : W.nsIn K mainGlobals "fault_of_takes" = some (some (.ref f3))) (l3 : K.lookup f3 = some (Ob oc3 od3 (Fd "fault_of_takes" s3 kV3 dc3 pm3 an3 cd3 ct3) sl3)) (c3 : W.codeIn K cd3 "fault_of_takes" = true) (k3 : W.keepIn K (.ref f3) = true)
 (a4 : W.nsIn K mainGlobals "fault_of_words" = some (some (.ref f4))) (l4 : K.lookup f4 = some (Ob oc4 od4 (Fd "fault_of_words" s4 kV4 dc4 pm4 an4 cd4 ct4) sl4)) (c4 : W.codeIn K cd4 "fault_of_words" = true) (k4 : W.keepIn K (.ref f4) = true)
 (a5 : W.nsIn K mainGlobals "fault_of_deeds" = some (some (.ref f5))) (l5 : K.lookup f5 = some (Ob oc5 od5 (Fd "fault_of_deeds" s5 kV5 dc5 pm5 an5 cd5 ct5) sl5)) (c5 : W.codeIn K cd5 "fault_of_deeds" = true) (k5 : W.keepIn K (.ref f5) = true)
 (a6 : W.nsIn K mainGlobals "fault_of_blocks" = some (some (.ref f6))) (l6 : K.lookup f6 = some (Ob oc6 od6 (Fd "fault_of_blocks" s6 kV6 dc6 pm6 an6 cd6 ct6) sl6)) (c6 : W.codeIn K cd6 "fault_of_blocks" = true) (k6 : W.keepIn K (.ref f6) = true)
 (a7 : W.nsIn K mainGlobals "fault_of_block" = some (some (.ref f7))) (l7 : K.lookup f7 = some (Ob oc7 od7 (Fd "fault_of_block" s7 kV7 dc7 pm7 an7 cd7 ct7) sl7)) (c7 : W.codeIn K cd7 "fault_of_block" = true) (k7 : W.keepIn K (.ref f7) = true)
 (a9 : W.nsIn K mainGlobals "uses_of_block" = some (some (.ref f9))) (l9 : K.lookup f9 = some (Ob oc9 od9 (Fd "uses_of_block" s9 kV9 dc9 pm9 an9 cd9 ct9) sl9)) (c9 : W.codeIn K cd9 "uses_of_block" = true) (k9 : W.keepIn K (.ref f9) = true)
 (a14 : W.nsIn K mainGlobals "_law_cell_at" = some (some (.ref f14))) (l14 : K.lookup f14 = some (Ob oc14 od14 (Fd "_law_cell_at" tU kV14 dc14 pm14 an14 cd14 ct14) sl14)) (c14 : W.codeIn K cd14 "_law_cell_at" = true) (k14 : W.keepIn K (.ref f14) = true)
 (a15 : W.nsIn K mainGlobals "_law_mixed" = some (some (.ref f15))) (l15 : K.lookup f15 = some (Ob oc15 od15 (Fd "_law_mixed" tV kV15 dc15 pm15 an15 cd15 ct15) sl15)) (c15 : W.codeIn K cd15 "_law_mixed" = true) (k15 : W.keepIn K (.ref f15) = true)
 (a16 : W.nsIn K mainGlobals "_law_drawn" = some (some (.ref f16))) (l16 : K.lookup f16 = some (Ob oc16 od16 (Fd "_law_drawn" tW kV16 dc16 pm16 an16 cd16 ct16) sl16)) (c16 : W.codeIn K cd16 "_law_drawn" = true) (k16 : W.keepIn K (.ref f16) = true)
 (a17 : W.nsIn K mainGlobals "_law_stem" = some (some (.ref f17))) (l17 : K.lookup f17 = some (Ob oc17 od17 (Fd "_law_stem" tX kV17 dc17 pm17 an17 cd17 ct17) sl17)) (c17 : W.codeIn K cd17 "_law_stem" = true) (k17 : W.keepIn K (.ref f17) = true)
 (a18 : W.nsIn K mainGlobals "_law_value" = some (some (.ref f18))) (l18 : K.lookup f18 = some (Ob oc18 od18 (Fd "_law_value" tY kV18 dc18 pm18 an18 cd18 ct18) sl18)) (c18 : W.codeIn K cd18 "_law_value" = true) (k18 : W.keepIn K (.ref f18) = true)
 (a19 : W.nsIn K mainGlobals "_law_expression" = some (some (.ref f19))) (l19 : K.lookup f19 = some (Ob oc19 od19 (Fd "_law_expression" tZ kV19 dc19 pm19 an19 cd19 ct19) sl19)) (c19 : W.codeIn K cd19 "_law_expression" = true) (k19 : W.keepIn K (.ref f19) = true)
 (a20 : W.nsIn K mainGlobals "_law_short" = some (some (.ref f20))) (l20 : K.lookup f20 = some (Ob oc20 od20 (Fd "_law_short" vA kV20 dc20 pm20 an20 cd20 ct20) sl20)) (c20 : W.codeIn K cd20 "_law_short" = true) (k20 : W.keepIn K (.ref f20) = true)
 (a21 : W.nsIn K mainGlobals "_law_statement" = some (some (.ref f21))) (l21 : K.lookup f21 = some (Ob oc21 od21 (Fd "_law_statement" vB kV21 dc21 pm21 an21 cd21 ct21) sl21)) (c21 : W.codeIn K cd21 "_law_statement" = true) (k21 : W.keepIn K (.ref f21) = true)
 (a22 : W.nsIn K mainGlobals "_law_block" = some (some (.ref f22))) (l22 : K.lookup f22 = some (Ob oc22 od22 (Fd "_law_block" vC kV22 dc22 pm22 an22 cd22 ct22) sl22)) (c22 : W.codeIn K cd22 "_law_block" = true) (k22 : W.keepIn K (.ref f22) = true)
 (a23 : W.nsIn K mainGlobals "_law_said" = some (some (.ref f23))) (l23 : K.lookup f23 = some (Ob oc23 od23 (Fd "_law_said" vD kV23 dc23 pm23 an23 cd23 ct23) sl23)) (c23 : W.codeIn K cd23 "_law_said" = true) (k23 : W.keepIn K (.ref f23) = true)
 (a24 : W.nsIn K mainGlobals "_law_told" = some (some (.ref f24))) (l24 : K.lookup f24 = some (Ob oc24 od24 (Fd "_law_told" vE kV24 dc24 pm24 an24 cd24 ct24) sl24)) (c24 : W.codeIn K cd24 "_law_told" = true) (k24 : W.keepIn K (.ref f24) = true)
 (a25 : W.nsIn K mainGlobals "_law_takes" = some (some (.ref f25))) (l25 : K.lookup f25 = some (Ob oc25 od25 (Fd "_law_takes" vF kV25 dc25 pm25 an25 cd25 ct25) sl25)) (c25 : W.codeIn K cd25 "_law_takes" = true) (k25 : W.keepIn K (.ref f25) = true)
 (a26 : W.nsIn K mainGlobals "_law_sorts" = some (some (.ref f26))) (l26 : K.lookup f26 = some (Ob oc26 od26 (Fd "_law_sorts" vG kV26 dc26 pm26 an26 cd26 ct26) sl26)) (c26 : W.codeIn K cd26 "_law_sorts" = true) (k26 : W.keepIn K (.ref f26) = true)
 (a27 : W.nsIn K mainGlobals "_law_member" = some (some (.ref f27))) (l27 : K.lookup f27 = some (Ob oc27 od27 (Fd "_law_member" vH kV27 dc27 pm27 an27 cd27 ct27) sl27)) (c27 : W.codeIn K cd27 "_law_member" = true) (k27 : W.keepIn K (.ref f27) = true)
 (a28 : W.nsIn K mainGlobals "_law_set" = some (some (.ref f28))) (l28 : K.lookup f28 = some (Ob oc28 od28 (Fd "_law_set" vI kV28 dc28 pm28 an28 cd28 ct28) sl28)) (c28 : W.codeIn K cd28 "_law_set" = true) (k28 : W.keepIn K (.ref f28) = true)
 (a29 : W.nsIn K mainGlobals "_law_put_in" = some (some (.ref f29))) (l29 : K.lookup f29 = some (Ob oc29 od29 (Fd "_law_put_in" vJ kV29 dc29 pm29 an29 cd29 ct29) sl29)) (c29 : W.codeIn K cd29 "_law_put_in" = true) (k29 : W.keepIn K (.ref f29) = true)
 (a30 : W.nsIn K mainGlobals "_law_left" = some (some (.ref f30))) (l30 : K.lookup f30 = some (Ob oc30 od30 (Fd "_law_left" vK kV30 dc30 pm30 an30 cd30 ct30) sl30)) (c30 : W.codeIn K cd30 "_law_left" = true) (k30 : W.keepIn K (.ref f30) = true)
 (a31 : W.nsIn K mainGlobals "_law_spoilt" = some (some (.ref f31))) (l31 : K.lookup f31 = some (Ob oc31 od31 (Fd "_law_spoilt" vL kV31 dc31 pm31 an31 cd31 ct31) sl31)) (c31 : W.codeIn K cd31 "_law_spoilt" = true) (k31 : W.keepIn K (.ref f31) = true)
 (a32 : W.nsIn K mainGlobals "_law_heads" = some (some (.ref f32))) (l32 : K.lookup f32 = some (Ob oc32 od32 (Fd "_law_heads" vM kV32 dc32 pm32 an32 cd32 ct32) sl32)) (c32 : W.codeIn K cd32 "_law_heads" = true) (k32 : W.keepIn K (.ref f32) = true)
 (a33 : W.nsIn K mainGlobals "_law_deeds_heads" = some (some (.ref f33))) (l33 : K.lookup f33 = some (Ob oc33 od33 (Fd "_law_deeds_heads" rF kV33 dc33 pm33 an33 cd33 ct33) sl33)) (c33 : W.codeIn K cd33 "_law_deeds_heads" = true) (k33 : W.keepIn K (.ref f33) = true)
 (a34 : W.nsIn K mainGlobals "law" = some (some (.ref f34))) (l34 : K.lookup f34 = some (Ob oc34 od34 (Fd "law" vN kV34 dc34 pm34 an34 cd34 ct34) sl34)) (c34 : W.codeIn K cd34 "law" = true) (k34 : W.keepIn K (.ref f34) = true)
 (z_dict : W.nsIn K mainGlobals "dict" = some none)
 (z_enumerate : W.nsIn K mainGlobals "enumerate" = some none)
 (z_isinstance : W.nsIn K mainGlobals "isinstance" = some none)
 (z_len : W.nsIn K mainGlobals "len" = some none)
 (z_list : W.nsIn K mainGlobals "list" = some none)
 (z_max : W.nsIn K mainGlobals "max" = some none)
 (z_min : W.nsIn K mainGlobals "min" = some none)
 (z_range : W.nsIn K mainGlobals "range" = some none)
 (z_tuple : W.nsIn K mainGlobals "tuple" = some none)
 (e_WORD : W.nsIn K mainGlobals "WORD" = some (some (.ref p_WORD))) (l_WORD : K.lookup p_WORD = some ⟨.type "tuple", none, .seq its_WORD n_WORD, sl_WORD⟩) (t_WORD : wiB its_WORD.toList "WORD" 0 = true)
 : ∃ (T : bN) (K' : W.Frag) (fd : FuncData), K'.In h /\ (∀ t ∈ T.L, (∃ c, h.TableAt c t.1 #[]) /\ K'.lookup t.1 = none) /\ (∀ (s : Shared) (u : Value), BindsTo s fd ⟨[u], []⟩ [("_law_script", u)]) /\
   ∀ base : Heap, K'.In base -> base.Ns mainGlobals mg -> bS l.prog w K' mg base bT 20 fa fd ["_law_script"] (zO K') := by
 have e := hfa.symm.trans (W.mg_of X G a34)
 cases e
 obtain ⟨bm, ob, hm1, hm2, hm3, hm4, hm5, hm6⟩ := hbm
 have U : nJ K [] bm ob h := ⟨X, hm3, hm6, fun P hP => by cases hP⟩
 have hbg : bm ≠ mainGlobals := fun z => by
  obtain ⟨o, es, ep, e1, e2, _⟩ := G
  rw [<- z, hm3] at e1; cases e1; rw [hm6] at e2; cases e2
 letI T : bN := ⟨[], fun t ht => by cases ht⟩
 have F1 := U.fn (fF (st := s1) l1 c1 k1)
 have F2 := U.fn (fF (st := s2) l2 c2 k2)
 have F3 := U.fn (fF (st := s3) l3 c3 k3)
 have F4 := U.fn (fF (st := s4) l4 c4 k4)
 have F5 := U.fn (fF (st := s5) l5 c5 k5)
 have F6 := U.fn (fF (st := s6) l6 c6 k6)
 have F7 := U.fn (fF (st := s7) l7 c7 k7)
 have F9 := U.fn (fF (st := s9) l9 c9 k9)
 have F14 := U.fn (fF (st := tU) l14 c14 k14)
 have F15 := U.fn (fF (st := tV) l15 c15 k15)
 have F16 := U.fn (fF (st := tW) l16 c16 k16)
 have F17 := U.fn (fF (st := tX) l17 c17 k17)
 have F18 := U.fn (fF (st := tY) l18 c18 k18)
 have F19 := U.fn (fF (st := tZ) l19 c19 k19)
 have F20 := U.fn (fF (st := vA) l20 c20 k20)
 have F21 := U.fn (fF (st := vB) l21 c21 k21)
 have F22 := U.fn (fF (st := vC) l22 c22 k22)
 have F23 := U.fn (fF (st := vD) l23 c23 k23)
 have F24 := U.fn (fF (st := vE) l24 c24 k24)
 have F25 := U.fn (fF (st := vF) l25 c25 k25)
 have F26 := U.fn (fF (st := vG) l26 c26 k26)
 have F27 := U.fn (fF (st := vH) l27 c27 k27)
 have F28 := U.fn (fF (st := vI) l28 c28 k28)
 have F29 := U.fn (fF (st := vJ) l29 c29 k29)
 have F30 := U.fn (fF (st := vK) l30 c30 k30)
 have F31 := U.fn (fF (st := vL) l31 c31 k31)
 have F32 := U.fn (fF (st := vM) l32 c32 k32)
 have F33 := U.fn (fF (st := rF) l33 c33 k33)
 have F34 := U.fn (fF (st := vN) l34 c34 k34)
 have S : Std w (pM K [] bm ob) mg ⟨f1, Fd "fault_of" s1 kV1 dc1 pm1 an1 cd1 ct1, f2, Fd "meanings_told" s2 kV2 dc2 pm2 an2 cd2 ct2, f3, Fd "fault_of_takes" s3 kV3 dc3 pm3 an3 cd3 ct3, f4, Fd "fault_of_words" s4 kV4 dc4 pm4 an4 cd4 ct4, f5, Fd "fault_of_deeds" s5 kV5 dc5 pm5 an5 cd5 ct5, f6, Fd "fault_of_blocks" s6 kV6 dc6 pm6 an6 cd6 ct6, f7, Fd "fault_of_block" s7 kV7 dc7 pm7 an7 cd7 ct7, f9, Fd "uses_of_block" s9 kV9 dc9 pm9 an9 cd9 ct9, f14, Fd "_law_cell_at" tU kV14 dc14 pm14 an14 cd14 ct14, f15, Fd "_law_mixed" tV kV15 dc15 pm15 an15 cd15 ct15, f16, Fd "_law_drawn" tW kV16 dc16 pm16 an16 cd16 ct16, f17, Fd "_law_stem" tX kV17 dc17 pm17 an17 cd17 ct17, f18, Fd "_law_value" tY kV18 dc18 pm18 an18 cd18 ct18, f19, Fd "_law_expression" tZ kV19 dc19 pm19 an19 cd19 ct19, f20, Fd "_law_short" vA kV20 dc20 pm20 an20 cd20 ct20, f21, Fd "_law_statement" vB kV21 dc21 pm21 an21 cd21 ct21, f22, Fd "_law_block" vC kV22 dc22 pm22 an22 cd22 ct22, f23, Fd "_law_said" vD kV23 dc23 pm23 an23 cd23 ct23, f24, Fd "_law_told" vE kV24 dc24 pm24 an24 cd24 ct24, f25, Fd "_law_takes" vF kV25 dc25 pm25 an25 cd25 ct25, f26, Fd "_law_sorts" vG kV26 dc26 pm26 an26 cd26 ct26, f27, Fd "_law_member" vH kV27 dc27 pm27 an27 cd27 ct27, f28, Fd "_law_set" vI kV28 dc28 pm28 an28 cd28 ct28, f29, Fd "_law_put_in" vJ kV29 dc29 pm29 an29 cd29 ct29, f30, Fd "_law_left" vK kV30 dc30 pm30 an30 cd30 ct30, f31, Fd "_law_spoilt" vL kV31 dc31 pm31 an31 cd31 ct31, f32, Fd "_law_heads" vM kV32 dc32 pm32 an32 cd32 ct32, f33, Fd "_law_deeds_heads" rF kV33 dc33 pm33 an33 cd33 ct33, f34, Fd "law" vN kV34 dc34 pm34 an34 cd34 ct34⟩ := by
  refine ⟨F1, W.mg_of X G a1, bL.binds F1 fun _ _ _ _ _ _ us hl => match us, hl with | [_, _, _], _ => rfl, F2, W.mg_of X G a2, bL.binds F2 fun _ _ _ _ _ _ us hl => match us, hl with | [_], _ => rfl, F3, W.mg_of X G a3, bL.binds F3 fun _ _ _ _ _ _ us hl => match us, hl with | [_, _, _], _ => rfl, F4, W.mg_of X G a4, bL.binds F4 fun _ _ _ _ _ _ us hl => match us, hl with | [_, _], _ => rfl, F5, W.mg_of X G a5, bL.binds F5 fun _ _ _ _ _ _ us hl => match us, hl with | [_, _, _], _ => rfl, F6, W.mg_of X G a6, bL.binds F6 fun _ _ _ _ _ _ us hl => match us, hl with | [_, _], _ => rfl, F7, W.mg_of X G a7, bL.binds F7 fun _ _ _ _ _ _ us hl => match us, hl with | [_, _], _ => rfl, F9, W.mg_of X G a9, bL.binds F9 fun _ _ _ _ _ _ us hl => match us, hl with | [_], _ => rfl, F14, W.mg_of X G a14, bL.binds F14 fun _ _ _ _ _ _ us hl => match us, hl with | [_, _], _ => rfl, F15, W.mg_of X G a15, bL.binds F15 fun _ _ _ _ _ _ us hl => match us, hl with | [_, _], _ => rfl, F16, W.mg_of X G a16, bL.binds F16 fun _ _ _ _ _ _ us hl => match us, hl with | [_, _], _ => rfl, F17, W.mg_of X G a17, bL.binds F17 fun _ _ _ _ _ _ us hl => match us, hl with | [_], _ => rfl, F18, W.mg_of X G a18, bL.binds F18 fun _ _ _ _ _ _ us hl => match us, hl with | [_], _ => rfl, F19, W.mg_of X G a19, bL.binds F19 fun _ _ _ _ _ _ us hl => match us, hl with | [_, _, _, _], _ => rfl, F20, W.mg_of X G a20, bL.binds F20 fun _ _ _ _ _ _ us hl => match us, hl with | [_, _, _, _], _ => rfl, F21, W.mg_of X G a21, bL.binds F21 fun _ _ _ _ _ _ us hl => match us, hl with | [_, _, _, _, _], _ => rfl, F22, W.mg_of X G a22, bL.binds F22 fun _ _ _ _ _ _ us hl => match us, hl with | [_, _, _, _, _, _], _ => rfl, F23, W.mg_of X G a23, bL.binds F23 fun _ _ _ _ _ _ us hl => match us, hl with | [_, _, _], _ => rfl, F24, W.mg_of X G a24, bL.binds F24 fun _ _ _ _ _ _ us hl => match us, hl with | [_, _], _ => rfl, F25, W.mg_of X G a25, bL.binds F25 fun _ _ _ _ _ _ us hl => match us, hl with | [_, _, _], _ => rfl, F26, W.mg_of X G a26, bL.binds F26 fun _ _ _ _ _ _ us hl => match us, hl with | [_, _], _ => rfl, F27, W.mg_of X G a27, bL.binds F27 fun _ _ _ _ _ _ us hl => match us, hl with | [_, _, _, _], _ => rfl, F28, W.mg_of X G a28, bL.binds F28 fun _ _ _ _ _ _ us hl => match us, hl with | [_], _ => rfl, F29, W.mg_of X G a29, bL.binds F29 fun _ _ _ _ _ _ us hl => match us, hl with | [_, _, _], _ => rfl, F30, W.mg_of X G a30, bL.binds F30 fun _ _ _ _ _ _ us hl => match us, hl with | [_, _], _ => rfl, F31, W.mg_of X G a31, bL.binds F31 fun _ _ _ _ _ _ us hl => match us, hl with | [_, _, _, _], _ => rfl, F32, W.mg_of X G a32, bL.binds F32 fun _ _ _ _ _ _ us hl => match us, hl with | [_, _, _], _ => rfl, F33, W.mg_of X G a33, bL.binds F33 fun _ _ _ _ _ _ us hl => match us, hl with | [_, _, _], _ => rfl, F34, W.mg_of X G a34, bL.binds F34 fun _ _ _ _ _ _ us hl => match us, hl with | [_], _ => rfl, W.mg_none_of X G z_dict, W.mg_none_of X G z_enumerate, W.mg_none_of X G z_isinstance, W.mg_none_of X G z_len, W.mg_none_of X G z_list, W.mg_none_of X G z_max, W.mg_none_of X G z_min, W.mg_none_of X G z_range, W.mg_none_of X G z_tuple, dZ0 (W.mg_of X G e_WORD) (U.up l_WORD fun z => by cases z) pA t_WORD⟩
 refine ⟨T, pM K [] bm ob, _, U.isIn, fun t ht => ?_, fun s v => ?_, fun base _ _ => dE2 (bN8 S 20 base).o34 ?_⟩
 ·cases ht
 ·exact .of_eq rfl
 ·intro ns _
  exact dU4 0 ns
end Jm
end
section
set_option Elab.async false
set_option linter.all false
open PySem PySem.W PyProof.Rows
namespace Jm
open PySem PySem.W PyProof.Rows
set_option maxRecDepth 100000
set_option maxHeartbeats 0
local macro_rules | `(tactic| o_head $H) => `(tactic| assumption)
theorem pre (h : PySem.Challenge.rw_joinmill_k10_heads_of_units.row.Holds) : PySem.Challenge.rw_joinmill_k10_heads_of_units.row.Holds := by k_head
abbrev rr := PySem.Challenge.rw_joinmill_k10_heads_of_units.row
noncomputable def vw : Program := { PySem.Challenge.pw_joinmill_k10_heads_of_units with main := { PySem.Challenge.pw_joinmill_k10_heads_of_units.main with body := (((PySem.Challenge.pw_joinmill_k10_heads_of_units.main.body.eraseIdx 20).eraseIdx 5).eraseIdx 0) } }
noncomputable def lv : List (Str × WData) := []
noncomputable def ad : List Addr := [2,3,15,16,17,18,19,20,21,22,23,24,25,26,27,28,31,32,33,34,36,37,39,40,41,43,44,46,47,48,50,51,53,54,55,57,58,60,61,62,64,65,67,68,69,71,72,74,75,76,78,79,81,82,83,85,86,88,89,90,92,93,95,96,97,99,100,102,103,104,106,107,109,110,111,113,114,116,117,118,120,121,123,124,125,127,128,130,131,132,134,135,137,138,139,141,142,144,145,146,148,149,151,152,153,155,156,158,159,160,163,164,165,168,169,170,172,173,175,176,177,180,181,182,184,185,187,188,189,192,193,194,197,198,199,202,203,204,207,208,209,212,213,214,216,217,219,220,221,223,224,226,227,228,231,232,233,236,237,238,240,241,243,244,245,248,249]
noncomputable abbrev xt (s : Shared) : Bool := xlAt vw lv s && recOk rr.records s
noncomputable abbrev hk : Hook := kHook pre.heap_1 ad (fun _ => by kernel_rfl)
theorem sn0 (w : World) : (openEnds treeTable rr.prog (w.withFollow "special-get-raises" false) 2748).map (openSeen vw ["STATEMENT_FORMS"] (importedModules rr.prog.main.body) xt true) = some (openGood vw ["STATEMENT_FORMS"]) := by kernel_rfl
theorem sn1 (w : World) : (openEnds treeTable rr.prog (w.withFollow "special-get-raises" true) 2748).map (openSeen vw ["STATEMENT_FORMS"] (importedModules rr.prog.main.body) xt true) = some (openGood vw ["STATEMENT_FORMS"]) := by kernel_rfl
theorem ob0 (w : World) : (openEnds treeTable rr.prog (w.withFollow "special-get-raises" false) 2748).map hk.obs = some (hk.val (w.withFollow "special-get-raises" false)) := by kernel_rfl
theorem ob1 (w : World) : (openEnds treeTable rr.prog (w.withFollow "special-get-raises" true) 2748).map hk.obs = some (hk.val (w.withFollow "special-get-raises" true)) := by kernel_rfl
theorem bo {α β γ : Type} {o : Option γ} {f : γ -> α} {g : γ -> β} {x : α} {y : β} (a : o.map f = some x) (b : o.map g = some y) : o.map (fun s => (f s, g s)) = some (x, y) := by
 cases o with
 | none => cases a
 | some s => cases a; cases b; rfl
theorem le : LeftO rr.prog vw ["STATEMENT_FORMS"] xt hk.obs hk.val 2748 := fun w => byRow2 "special-get-raises" (P := fun w => Option.map (fun s => (openSeen vw ["STATEMENT_FORMS"] (importedModules rr.prog.main.body) xt true s, hk.obs s)) (openEnds treeTable rr.prog w 2748) = some (openGood vw ["STATEMENT_FORMS"], hk.val w)) (fun w => bo (sn0 w) (ob0 w)) (fun w => bo (sn1 w) (ob1 w)) w
theorem hd {d : DefRec} {kwd : List (Str × Expr)} (a : defOf vw rr.name = some (d, kwd)) (b : rr.prog.theDef rr.name = some (d.params, d.body, d.scope))
 (c : kwWritten? d.params.kwonlyargs d.params.kw_defaults = some kwd) (e : (!rr.writes || List.isEmpty rr.records) = true) (f : rr.wellSaid = true)
 (g : (chainsOk vw && opensWell rr.prog && (frees rr.toRowW && rr.within.isEmpty)) = true) (B : rr.prog.bare)
 (hw : rr.promised) (hc : WalkO vw ["STATEMENT_FORMS"] (XL vw lv) hk.says rr.toRowW d kwd fun f vs => call f vs) : rr.Holds :=
 holds_open le (Hook.of hk) (Hook.keeps hk) (fun s z => xl_of s (Bool.and_eq_true_iff.mp z).1) XL.keeps a b c (fun s z => recFacts_of (Bool.and_eq_true_iff.mp z).2) e f g B hw hc
end Jm
open PySem PySem.W PyProof.Rows
set_option maxRecDepth 100000 in
set_option maxHeartbeats 0 in
theorem PySem.Challenge.cw_joinmill_k10_heads_of_units_holds : PySem.Challenge.rw_joinmill_k10_heads_of_units.Holds := by
 w_on; o_law; refine Jm.hd rfl rfl rfl rfl (by assumption) pA ⟨rfl, rfl, rfl, rfl, rfl, by decide +kernel⟩ ?_ ?_
 ·w_witness2
 k_fill
 refine R.walk_ofU (l := PySem.Challenge.rw_joinmill_k10_heads_of_units) (k := 20) (x := "_law_script") rfl rfl ⟨rfl, by decide, by decide⟩ (ts := []) (fun w h Y => W.kIn_of Y) (fun w h Y P hP => by cases hP) ?F
 case F =>
  intro w mg fa h KX G hmg hT hbm
  refine' Jm.all_mk KX G hmg hbm ?a1 ?l1 ?c1 ?k1 ?a2 ?l2 ?c2 ?k2 ?a3 ?l3 ?c3 ?k3 ?a4 ?l4 ?c4 ?k4 ?a5 ?l5 ?c5 ?k5 ?a6 ?l6 ?c6 ?k6 ?a7 ?l7 ?c7 ?k7 ?a9 ?l9 ?c9 ?k9 ?a14 ?l14 ?c14 ?k14 ?a15 ?l15 ?c15 ?k15 ?a16 ?l16 ?c16 ?k16 ?a17 ?l17 ?c17 ?k17 ?a18 ?l18 ?c18 ?k18 ?a19 ?l19 ?c19 ?k19 ?a20 ?l20 ?c20 ?k20 ?a21 ?l21 ?c21 ?k21 ?a22 ?l22 ?c22 ?k22 ?a23 ?l23 ?c23 ?k23 ?a24 ?l24 ?c24 ?k24 ?a25 ?l25 ?c25 ?k25 ?a26 ?l26 ?c26 ?k26 ?a27 ?l27 ?c27 ?k27 ?a28 ?l28 ?c28 ?k28 ?a29 ?l29 ?c29 ?k29 ?a30 ?l30 ?c30 ?k30 ?a31 ?l31 ?c31 ?k31 ?a32 ?l32 ?c32 ?k32 ?a33 ?l33 ?c33 ?k33 ?a34 ?l34 ?c34 ?k34 ?z_dict ?z_enumerate ?z_isinstance ?z_len ?z_list ?z_max ?z_min ?z_range ?z_tuple ?e_WORD ?l_WORD ?t_WORD
  case a1 | l1 | c1 | k1 | a2 | l2 | c2 | k2 | a3 | l3 | c3 | k3 | a4 | l4 | c4 | k4 | a5 | l5 | c5 | k5 | a6 | l6 | c6 | k6 | a7 | l7 | c7 | k7 | a9 | l9 | c9 | k9 | a14 | l14 | c14 | k14 | a15 | l15 | c15 | k15 | a16 | l16 | c16 | k16 | a17 | l17 | c17 | k17 | a18 | l18 | c18 | k18 | a19 | l19 | c19 | k19 | a20 | l20 | c20 | k20 | a21 | l21 | c21 | k21 | a22 | l22 | c22 | k22 | a23 | l23 | c23 | k23 | a24 | l24 | c24 | k24 | a25 | l25 | c25 | k25 | a26 | l26 | c26 | k26 | a27 | l27 | c27 | k27 | a28 | l28 | c28 | k28 | a29 | l29 | c29 | k29 | a30 | l30 | c30 | k30 | a31 | l31 | c31 | k31 | a32 | l32 | c32 | k32 | a33 | l33 | c33 | k33 | a34 | l34 | c34 | k34 | z_dict | z_enumerate | z_isinstance | z_len | z_list | z_max | z_min | z_range | z_tuple | e_WORD | l_WORD => k_is
  case t_WORD => rfl
#print axioms PySem.Challenge.cw_joinmill_k10_heads_of_units_holds
end

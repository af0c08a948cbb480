import PyProof.Rows.All
import Wide.All
import Wide.FinOn
import Lean
import PyProof.EqAt
import PyProof.EqKinds
import PyProof.TupleCall
import PyProof.ListMulRoad
import PyProof.ListMulAny
import PyProof.Rows.ListMulArg
import KE.KLam
import PyProof.ZipIter
import PyProof.EnumMake
import PySem.Challenge.RW_joinmill_k11_blocks_of_units
import OpenK.KLine
import KE.KIsAll
import KE.KNestM
import KE.KDictOf
set_option Elab.async false
set_option linter.all false
set_option maxRecDepth 100000
set_option maxHeartbeats 8000000
theorem bF {p : Prop} (h : p := by omega) : p := h
theorem kL {p : Prop} (h : p := by decide +kernel) : p := h
section
namespace L2
open PySem PySem.Spec PyProof.Rows
abbrev cQ := Sum Int Str
def rB : cQ -> Value -> Bool
 | .inl k, v => Value.isInt k v
 | .inr x, v => Value.isStrOf x v
def cT4 (w : World) : cQ -> Int
 | .inl k => hashInt k
 | .inr x => hashStr w x
theorem nN : ∀ {k : cQ} {v : Value}, rB k v = true -> (∃ i t, k = Sum.inl i /\ v = Value.int i t) \/ (∃ x t, k = Sum.inr x /\ v = Value.str x t)
 | .inl i, v, h => by
  obtain ⟨t, e⟩ := Value.isInt_shape (k := i) (v := v) h
  exact .inl ⟨i, t, rfl, e⟩
 | .inr x, v, h => by
  obtain ⟨t, e⟩ := Value.isStrOf_shape (x := x) (v := v) h
  exact .inr ⟨x, t, rfl, e⟩
theorem cT5 (i : Int) (t : Tok) : rB (.inl i) (.int i t) = true := by simp [rB, Value.isInt]
theorem cT6 (x : Str) (t : Tok) : rB (.inr x) (.str x t) = true := by simp [rB, Value.isStrOf]
theorem cT7 (a b : Int) : decide ((Sum.inl a : cQ) = Sum.inl b) = (a == b) := by
 by_cases e : a = b
 ·subst e; simp
 ·have h : ¬ (Sum.inl a : cQ) = Sum.inl b := fun q => e (Sum.inl.inj q)
  rw [decide_eq_false h]
  exact (beq_eq_false_iff_ne.mpr e).symm
theorem cT8 (a b : Str) : decide ((Sum.inr a : cQ) = Sum.inr b) = decide (a = b) := by
 by_cases e : a = b
 ·subst e; simp
 ·have h : ¬ (Sum.inr a : cQ) = Sum.inr b := fun q => e (Sum.inr.inj q)
  rw [decide_eq_false h, decide_eq_false e]
theorem cT9 (a : Int) (b : Str) : decide ((Sum.inl a : cQ) = Sum.inr b) = false := decide_eq_false (fun q => nomatch q)
theorem cU0 (a : Str) (b : Int) : decide ((Sum.inr a : cQ) = Sum.inl b) = false := decide_eq_false (fun q => nomatch q)
def fW (prog : Program) (w : World) : PySem.KeyKind prog w cQ where
 is := rB
 hash := cT4 w
 inj := fun v a b ha hb => by
  rcases nN ha with ⟨i, t, rfl, rfl⟩ | ⟨x, t, rfl, rfl⟩
  ·rcases nN hb with ⟨j, u, rfl, e⟩ | ⟨y, u, rfl, e⟩
   ·injection e with e1 _; rw [e1]
   ·exact nomatch e
  ·rcases nN hb with ⟨j, u, rfl, e⟩ | ⟨y, u, rfl, e⟩
   ·exact nomatch e
   ·injection e with e1 _; rw [e1]
 byValue := fun k v h => by
  rcases nN h with ⟨i, t, rfl, rfl⟩ | ⟨x, t, rfl, rfl⟩ <;> rfl
 pyHash := fun hv h => by
  rcases nN hv with ⟨i, t, rfl, rfl⟩ | ⟨x, t, rfl, rfl⟩
  ·exact wpAny_pyHash_int h
  ·exact wpAny_pyHash_str h
 eqBool := fun hu hv h => by
  rcases nN hu with ⟨i, t, rfl, rfl⟩ | ⟨x, t, rfl, rfl⟩
  ·rcases nN hv with ⟨j, u, rfl, rfl⟩ | ⟨y, u, rfl, rfl⟩
   ·rw [cT7] at h; exact wpAny_eqBool_int h
   ·rw [cT9] at h; exact SeqAt.EqAt.int_str i t y u _ _ _ _ h
  ·rcases nN hv with ⟨j, u, rfl, rfl⟩ | ⟨y, u, rfl, rfl⟩
   ·rw [cU0] at h; exact SeqAt.EqAt.str_int x t j u _ _ _ _ h
   ·rw [cT8] at h; exact wpAny_eqBool_str h
 «strs» := fun k x t v h => by
  rcases nN h with ⟨i, u, rfl, e⟩ | ⟨y, u, rfl, e⟩
  ·exact nomatch e
  ·injection e with e1 _
   subst e1
   cases v <;> rfl
theorem cU1 (prog : Program) (w : World) (i : Int) (t : Tok) : (fW prog w).is (.inl i) (.int i t) = true := cT5 i t
theorem pY (prog : Program) (w : World) (x : Str) (t : Tok) : (fW prog w).is (.inr x) (.str x t) = true := cT6 x t
end L2
namespace L2
open PySem PySem.Spec PyProof.Rows
inductive V where
 | non | bl (b : Bool) | int (i : Int) | str (x : Str) | byt (b : Array UInt8) | flt (b : UInt64) | ref (a : Addr) | ty (n : String)
 deriving DecidableEq
def cJ : V -> Value -> Prop
 | .non, u => u = Value.none
 | .bl b, u => u = Value.bool b
 | .int i, u => ∃ t, u = Value.int i t
 | .str x, u => ∃ t, u = Value.str x t
 | .byt b, u => ∃ t, u = Value.bytes b t
 | .flt b, u => ∃ t, u = Value.float b t
 | .ref a, u => u = Value.ref a
 | .ty n, u => u = Value.type n
abbrev cE : List V -> List Value -> Prop := Paired cJ
theorem cE.length {xs : List V} {us : List Value} (r : cE xs us) : xs.length = us.length := Paired.length r
theorem cE.get : ∀ {xs : List V} {us : List Value} {i : Nat} {x : V}, cE xs us -> xs[i]? = some x -> ∃ u, us[i]? = some u /\ cJ x u
 | _, _, _, _, .nil, e => by simp at e
 | _, _, 0, _, .cons r _, e => by simp at e; subst e; exact ⟨_, rfl, r⟩
 | _, _, i + 1, x, .cons _ t, e => by
  obtain ⟨u, h1, h2⟩ := cE.get (i := i) (x := x) t (by simpa using e)
  exact ⟨u, by simpa using h1, h2⟩
theorem cE.append : ∀ {xs ys : List V} {us ws : List Value}, cE xs us -> cE ys ws -> cE (xs ++ ys) (us ++ ws)
 | _, _, _, _, .nil, s => s
 | _, _, _, _, .cons r t, s => .cons r (cE.append t s)
theorem cE.take : ∀ {xs : List V} {us : List Value} (n : Nat), cE xs us -> cE (xs.take n) (us.take n)
 | _, _, 0, _ => .nil
 | _, _, _ + 1, .nil => .nil
 | _, _, n + 1, .cons r t => .cons r (cE.take n t)
theorem cE.drop : ∀ {xs : List V} {us : List Value} (n : Nat), cE xs us -> cE (xs.drop n) (us.drop n)
 | _, _, 0, r => r
 | _, _, _ + 1, .nil => .nil
 | _, _, n + 1, .cons _ t => cE.drop n t
def RelO : Option V -> Option Value -> Prop
 | some v, some u => cJ v u
 | none, none => True
 | _, _ => False
def KV {κ : Type} : List (κ × V) -> List (κ × Value) -> Prop := Paired fun (p : κ × V) (q : κ × Value) => p.1 = q.1 /\ cJ p.2 q.2
def kV : cQ -> V
 | .inl i => .int i
 | .inr x => .str x
inductive HO where
 | lst (xs : List V)
 | tup (xs : List V)
 | dK (kvs : List (cQ × V)) | dT (kvs : List (List cQ × V))
 | set (S : Int -> Bool) (n : Nat)
 | ins (C dx : Addr) (fs : List (Str × V))
 | own (x : Addr)
 | xd (fs : List (Str × V))
 | met (f x : Addr)
 | rng (lo hi : Int)
 | frz (o : Obj) (u : HO)
 | tbl (ps : Array Value)
 | ext (φ : Heap -> Prop)
abbrev Hp := Addr -> Option HO
def upd (H : Hp) (a : Addr) (o : HO) : Hp := fun b => if b = a then some o else H b
theorem fY {H : Hp} {a : Addr} {o : HO} : upd H a o a = some o := by unfold upd; rw [if_pos rfl]
theorem dD {H : Hp} {a b : Addr} {o : HO} (h : b ≠ a) : upd H a o b = H b := by unfold upd; rw [if_neg h]
theorem rC {H : Hp} {a b : Addr} {o u : HO} (h : H a = some o) (h' : H b = some u) (d : o ≠ u) : a ≠ b := by
 intro e; subst e; rw [h] at h'; exact d (Option.some.inj h')
theorem lZ {H : Hp} {a b : Addr} {o : HO} (h : H a = some o) (h' : H b = none) : a ≠ b := by
 intro e; subst e; rw [h] at h'; cases h'
section
variable (P : Program) (w : World)
def gO (H : Hp) (h : Heap) (a : Addr) : HO -> Prop
 | .lst xs => xs.length <= sizeLine /\ ∃ (its : List Value) (n : Nat), cE xs its /\ h.get? a = some { cls := .type "list", data := .seq its.toArray n }
 | .tup xs => xs.length <= sizeLine /\ ∃ its : List Value, cE xs its /\ IsTup h a its.toArray
 | .dK kvs => kvs.length <= sizeLine /\ (a == sysModules) = false /\ ∃ vs, KV kvs vs /\ h.DictOf (fW P w) a vs
 | .dT kvs => kvs.length <= sizeLine /\ (a == sysModules) = false /\ ∃ xs : List (List cQ × Addr × Value),
  Paired (fun (p : List cQ × V) (q : List cQ × Addr × Value) => p.1 = q.1 /\ H q.2.1 = some (.tup (p.1.map kV)) /\ cJ p.2 q.2.2) kvs xs /\
  ∃ o es ep, h.get? a = some o /\ o.ExactDict /\ o.data = .dict es ep /\ es.toList = xs.map (entryOfKey (tupleKind (fW P w))) /\ (xs.map (·.1)).Nodup
 | .set S n => h.SetOf (intKind P w) a S n
 | .ins C dx fs => H dx = some (.own a) /\ fs.length <= 1000 /\ dx ≠ a /\ h.get? a = some (W.instObj C dx) /\
  ∃ mA, h.Ns1 dx mA /\ (∀ f, RelO (fs.lookup f) (mA f)) /\ PySem.Within mA (fs.map (·.1))
 | .own _ => ∃ o, h.get? a = some o
 | .xd fs => ∃ mA, h.Ns1 a mA /\ ∀ f, RelO (fs.lookup f) (mA f)
 | .rng lo hi => ∃ t u v, h.get? a = some { cls := .type "range", data := .fields #[.int lo t, .int hi u, .int 1 v] }
 | .frz o u => h.get? a = some o /\ gO H h a u
 | .tbl ps => h.get? a = some { cls := .none, data := .fields ps }
 | .met f x => h.get? a = some (W.methodObj (.ref f) (.ref x))
 | .ext φ => φ h /\ (∃ o, h.get? a = some o) /\ ∀ h1 h2 : Heap, φ h1 -> (∀ o, h1.get? a = some o -> h2.get? a = some o) -> φ h2
def fF (H : Hp) (h : Heap) : Prop := ∀ a o, H a = some o -> gO P w H h a o
end
section
variable {P : Program} {w : World} {H H' : Hp} {h h' : Heap} {a : Addr} {o : HO}
theorem gO.lt (x : gO P w H h a o) : a < h.objs.size := by
 cases o with
 | lst xs => obtain ⟨_, _, _, _, e⟩ := x; exact Heap.lt_size e
 | tup xs => obtain ⟨_, _, _, p⟩ := x; exact p.lt
 | dK kvs => obtain ⟨_, _, _, _, o, _, _, e, _⟩ := x; exact Heap.lt_size e
 | dT kvs => obtain ⟨_, _, _, _, o, _, _, e, _⟩ := x; exact Heap.lt_size e
 | set S n => obtain ⟨o, _, _, _, e, _⟩ := x; exact Heap.lt_size e
 | ins C dx fs => obtain ⟨_, _, _, e, _⟩ := x; exact Heap.lt_size e
 | own y => obtain ⟨_, e⟩ := x; exact Heap.lt_size e
 | xd fs => obtain ⟨_, ⟨_, _, _, e, _⟩, _⟩ := x; exact Heap.lt_size e
 | rng lo hi => obtain ⟨_, _, _, e⟩ := x; exact Heap.lt_size e
 | frz ob u => obtain ⟨e, _⟩ := x; exact Heap.lt_size e
 | tbl ps => exact Heap.lt_size (show h.get? a = some _ from x)
 | met f y => exact Heap.lt_size (show h.get? a = some _ from x)
 | ext φ => obtain ⟨_, ⟨_, e⟩, _⟩ := x; exact Heap.lt_size e
theorem Paired.mapP {α β : Type} {F G : α -> β -> Prop} : ∀ {l₁ : List α} {l₂ : List β}, Paired F l₁ l₂ -> (∀ a b, F a b -> G a b) -> Paired G l₁ l₂
 | _, _, .nil, _ => .nil
 | _, _, .cons r t, f => .cons (f _ _ r) (Paired.mapP t f)
theorem gO.stay (x : gO P w H h a o) (k : ∀ b u, (b = a \/ H b = some (.own a)) -> h.get? b = some u -> h'.get? b = some u)
 (ho : ∀ b, H b = some (.own a) -> H' b = some (.own a)) (ht : ∀ b xs, H b = some (.tup xs) -> H' b = some (.tup xs)) : gO P w H' h' a o := by
 induction o with
 | lst xs => obtain ⟨z, its, n, r, e⟩ := x; exact ⟨z, its, n, r, k _ _ (.inl rfl) e⟩
 | tup xs => obtain ⟨z, its, r, ob, e, c⟩ := x; exact ⟨z, its, r, ob, k _ _ (.inl rfl) e, c⟩
 | dK kvs => obtain ⟨z, y, vs, r, ob, es, ep, e, c⟩ := x; exact ⟨z, y, vs, r, ob, es, ep, k _ _ (.inl rfl) e, c⟩
 | dT kvs =>
  obtain ⟨z, y, xs, r, ob, es, ep, e, c⟩ := x
  exact ⟨z, y, xs, Paired.mapP r fun p q z => ⟨z.1, ht _ _ z.2.1, z.2.2⟩, ob, es, ep, k _ _ (.inl rfl) e, c⟩
 | set S n => obtain ⟨ob, es, ep, t, e, c⟩ := x; exact ⟨ob, es, ep, t, k _ _ (.inl rfl) e, c⟩
 | ins C dx fs =>
  obtain ⟨d, z, ne, e, mA, ⟨od, es, ep, e2, c⟩, r⟩ := x
  exact ⟨ho _ d, z, ne, k _ _ (.inl rfl) e, mA, ⟨od, es, ep, k _ _ (.inr d) e2, c⟩, r⟩
 | own y => obtain ⟨ob, e⟩ := x; exact ⟨ob, k _ _ (.inl rfl) e⟩
 | xd fs => obtain ⟨mA, ⟨od, es, ep, e, c⟩, r⟩ := x; exact ⟨mA, ⟨od, es, ep, k _ _ (.inl rfl) e, c⟩, r⟩
 | rng lo hi => obtain ⟨t, u, v, e⟩ := x; exact ⟨t, u, v, k _ _ (.inl rfl) e⟩
 | frz ob u ih => obtain ⟨e, q⟩ := x; exact ⟨k _ _ (.inl rfl) e, ih q⟩
 | tbl ps =>
  have e : h.get? a = some { cls := .none, data := .fields ps } := x
  show h'.get? a = some { cls := .none, data := .fields ps }
  exact k a _ (.inl rfl) e
 | met f y =>
  have e : h.get? a = some (W.methodObj (.ref f) (.ref y)) := x
  show h'.get? a = some (W.methodObj (.ref f) (.ref y))
  exact k a _ (.inl rfl) e
 | ext φ => obtain ⟨p, ⟨o, e⟩, st⟩ := x; exact ⟨st _ _ p fun o q => k _ _ (.inl rfl) q, ⟨o, k _ _ (.inl rfl) e⟩, st⟩
theorem fF.lt (x : fF P w H h) (e : H a = some o) : a < h.objs.size := (x a o e).lt
theorem fF.fresh (x : fF P w H h) (e : h.objs.size <= a) : H a = none := by
 cases q : H a with
 | none => rfl
 | some u => exact absurd (Nat.lt_of_lt_of_le (x.lt q) e) (Nat.lt_irrefl _)
theorem fF.kept (x : fF P w H h) (k : ∀ b u, h.get? b = some u -> h'.get? b = some u) : fF P w H h' := fun a o e =>
 (x a o e).stay (fun b u _ q => k b u q) (fun _ q => q) fun _ _ q => q
theorem fF.laid (x : fF P w H h) (k : ∀ b u, h.get? b = some u -> h'.get? b = some u) (hp : h.objs.size <= a) (new : gO P w (upd H a o) h' a o) : fF P w (upd H a o) h' := fun b u e => by
 have hn := x.fresh hp
 by_cases hb : b = a
 ·subst hb; rw [fY] at e; cases e; exact new
 ·rw [dD hb] at e
  exact (x b u e).stay (fun c v _ q => k c v q) (fun c q => by rw [dD (lZ q hn)]; exact q) fun c xs q => by rw [dD (lZ q hn)]; exact q
end
def Rd (H : Hp) (a : Addr) (u : HO) : Prop := H a = some u \/ ∃ o, H a = some (.frz o u)
theorem Rd.ok {P : Program} {w : World} {H : Hp} {h : Heap} {a : Addr} {u : HO} (r : Rd H a u) (x : fF P w H h) : gO P w H h a u := by
 rcases r with r | ⟨o, r⟩
 ·exact x a u r
 ·obtain ⟨_, q⟩ := x a _ r
  exact q
def vN : Option HO -> Prop
 | some (.lst _) => True
 | some (.dK _) => True
 | some (.dT _) => True
 | some (.set _ _) => True
 | some (.ins _ _ _) => True
 | some (.ext _) => True
 | _ => False
section
variable {P : Program} {w : World} {H : Hp} {h h' : Heap} {x e : Addr} {o' : HO}
theorem fF.write (ok : fF P w H h) (mu : vN (H x)) (he : e = x \/ H e = some (.own x)) (k : ∀ b u, b ≠ e -> h.get? b = some u -> h'.get? b = some u) (heo : ∃ u, h'.get? e = some u)
 (new : gO P w (upd H x o') h' x o') : fF P w (upd H x o') h' := fun b u q => by
 have nown : ∀ c y, H c = some (.own y) -> c ≠ x := fun c y r z => by subst z; rw [r] at mu; exact mu
 have ntup : ∀ c xs, H c = some (.tup xs) -> c ≠ x := fun c xs r z => by subst z; rw [r] at mu; exact mu
 by_cases hb : b = x
 ·subst hb; rw [fY] at q; cases q; exact new
 ·rw [dD hb] at q
  by_cases hbe : b = e
  ·have q' : H b = some (.own x) := by
    rcases he with z | z
    ·exact absurd (hbe.trans z) hb
    ·rw [hbe]; exact z
   rw [q] at q'; cases q'
   obtain ⟨v, hv⟩ := heo
   exact ⟨v, by rw [hbe]; exact hv⟩
  ·refine (ok b u q).stay (fun c v hc r => k c v ?_ r) (fun c r => by rw [dD (nown c b r)]; exact r) fun c xs r => by rw [dD (ntup c xs r)]; exact r
   rcases hc with rfl | hc
   ·exact hbe
   ·rintro rfl
    rcases he with z | z
    ·exact nown c b hc z
    ·rw [hc] at z; cases z; exact hb rfl
end
structure Un (fs ex : List Addr) (H H' : Hp) (h h' : Heap) : Prop where
 keep : ∀ b o, h.get? b = some o -> H b = none -> b ∉ fs -> b ∉ ex -> h'.get? b = some o
 slot : ∀ b o, h.get? b = some o -> H b = none -> b ∈ fs -> b ∉ ex -> ∃ sl, h'.get? b = some { o with slots := sl }
 free : ∀ b o, h.get? b = some o -> H b = none -> b ∉ ex -> H' b = none
 there : ∀ b o, h.get? b = some o -> b ∉ ex -> ∃ o', h'.get? b = some o'
 tups : ∀ b xs, H b = some (.tup xs) -> H' b = some (.tup xs)
 frzs : ∀ b o u, H b = some (.frz o u) -> H' b = some (.frz o u)
 tbls : ∀ b ps, H b = some (.tbl ps) -> ∃ more, H' b = some (.tbl (ps ++ more))
section
variable {fs fs' ex ex' : List Addr} {H H1 H2 : Hp} {h h1 h2 h' : Heap} {a x e : Addr} {o : HO}
theorem Un.any (u : Un fs ex H H1 h h1) {b : Addr} {ob : Obj} (q : h.get? b = some ob) (n : H b = none) (hx : b ∉ ex) : ∃ sl, h1.get? b = some { ob with slots := sl } := by
 by_cases hb : b ∈ fs
 ·exact u.slot b ob q n hb hx
 ·exact ⟨ob.slots, u.keep b ob q n hb hx⟩
theorem Un.trans (a : Un fs ex H H1 h h1) (b : Un fs ex H1 H2 h1 h2) : Un fs ex H H2 h h2 where
 keep := fun c ob q n hc hx => b.keep c ob (a.keep c ob q n hc hx) (a.free c ob q n hx) hc hx
 slot := fun c ob q n hc hx => by
  obtain ⟨sl, e1⟩ := a.slot c ob q n hc hx
  obtain ⟨sl', e2⟩ := b.slot c _ e1 (a.free c ob q n hx) hc hx
  exact ⟨sl', e2⟩
 free := fun c ob q n hx => by
  obtain ⟨o', e1⟩ := a.there c ob q hx
  exact b.free c o' e1 (a.free c ob q n hx) hx
 there := fun c ob q hx => by
  obtain ⟨o', e1⟩ := a.there c ob q hx
  exact b.there c o' e1 hx
 tups := fun c xs q => b.tups c xs (a.tups c xs q)
 frzs := fun c ob xs q => b.frzs c ob xs (a.frzs c ob xs q)
 tbls := fun c ps q => by
  obtain ⟨m1, e1⟩ := a.tbls c ps q
  obtain ⟨m2, e2⟩ := b.tbls c _ e1
  exact ⟨m1 ++ m2, by rw [e2, Array.append_assoc]⟩
theorem Un.kept (k : ∀ b u, h.get? b = some u -> h'.get? b = some u) : Un fs ex H H h h' :=
 ⟨fun b ob q _ _ _ => k b ob q, fun b ob q _ _ _ => ⟨ob.slots, k b ob q⟩, fun _ _ _ n _ => n, fun b ob q _ => ⟨ob, k b ob q⟩, fun _ _ q => q, fun _ _ _ q => q, fun _ ps q => ⟨#[], by rw [q]; simp⟩⟩
theorem Un.refl : Un fs ex H H h h := Un.kept fun _ _ q => q
theorem Un.laid (k : ∀ b u, h.get? b = some u -> h'.get? b = some u) (hp : h.objs.size <= a) (hn : H a = none) : Un fs ex H (upd H a o) h h' where
 keep := fun b u q _ _ _ => k b u q
 slot := fun b u q _ _ _ => ⟨u.slots, k b u q⟩
 free := fun b u q n _ => by rw [dD (Nat.ne_of_lt (Nat.lt_of_lt_of_le (Heap.lt_size q) hp))]; exact n
 there := fun b u q _ => ⟨u, k b u q⟩
 tups := fun b xs q => by rw [dD (lZ q hn)]; exact q
 frzs := fun b u xs q => by rw [dD (lZ q hn)]; exact q
 tbls := fun b ps q => ⟨#[], by rw [dD (lZ q hn), q]; simp⟩
theorem Un.write (mu : vN (H x)) (he : e = x \/ H e = some (.own x)) (k : ∀ b u, b ≠ e -> h.get? b = some u -> h'.get? b = some u) (heo : ∃ u, h'.get? e = some u) : Un fs ex H (upd H x o) h h' := by
 have hx : ∀ b, H b = none -> b ≠ x := fun b n z => by subst z; rw [n] at mu; exact mu
 have hb : ∀ b, H b = none -> b ≠ e := fun b n z => by
  subst z
  rcases he with r | r
  ·exact hx b n r
  ·rw [n] at r; cases r
 have hm : ∀ b u, H b = some u -> ¬ vN (some u) -> b ≠ x := fun b u q nm z => by subst z; rw [q] at mu; exact nm mu
 refine ⟨fun b u q n _ _ => k b u (hb b n) q, fun b u q n _ _ => ⟨u.slots, k b u (hb b n) q⟩, fun b u q n _ => by rw [dD (hx b n)]; exact n, fun b u q _ => ?_,
  fun b xs q => by rw [dD (hm b _ q fun z => z)]; exact q, fun b u xs q => by rw [dD (hm b _ q fun z => z)]; exact q, fun b ps q => ⟨#[], by rw [dD (hm b _ q fun z => z), q]; simp⟩⟩
 by_cases hbe : b = e
 ·subst hbe; exact heo
 ·exact ⟨u, k b u hbe q⟩
end
def yH (h : Heap) (H : Hp) : List Addr := (List.range h.objs.size).filter fun a => (H a).isSome
def nO (h : Heap) (H : Hp) : Heap := W.hideAll h (yH h H)
theorem cU2 (h : Heap) (H : Hp) : (nO h H).objs.size = h.objs.size := W.hideAll_size _ _
theorem cU3 {h : Heap} {H : Hp} {b : Addr} {o : Obj} (e : h.get? b = some o) (n : H b = none) : (nO h H).get? b = some o :=
 W.hideAll_get _ e fun hm => by
  have q : (H b).isSome = true := (List.mem_filter.mp hm).2
  rw [n] at q; simp at q
theorem cU4 {h : Heap} {H : Hp} {b : Addr} {o : Obj} (e : (nO h H).get? b = some o) : h.get? b = some o /\ H b = none := by
 have e' : h.get? b = some o := W.of_hideAll (yH h H) e
 refine ⟨e', ?_⟩
 cases q : H b with
 | none => rfl
 | some x =>
  have hm : b ∈ yH h H := List.mem_filter.mpr ⟨List.mem_range.mpr (Heap.lt_size e'), by simp [q]⟩
  have z : (nO h H).get? b = none := W.hideAll_none (yH h H) hm
  rw [z] at e; cases e
end L2
namespace L2
open PySem PySem.Spec PyProof.Rows
structure Mod (K : W.Frag) (mg : Str -> Option Value) (base : Heap) : Prop where
 kin : K.In base
 glob : base.Ns mainGlobals mg
 blt : ∃ mb, base.Ns builtinsNs mb /\ ∀ x : Str, x ≠ "__name__" -> mb x = bootBuiltins x
 nolimit : base.NoLimit
structure Cx where
 prog : Program
 w : World
 K : W.Frag
 mg : Str -> Option Value
 base : Heap
 A : Around
 N : List Str
 s₀ : Shared
 H₀ : Hp
 env : Env
 outer : List Env
 stack : List Env
 ex : List Addr
 fn : Str -> Bool
 calm : Bool
 pn : List (Addr × Obj)
 xe : Value -> Shared -> Prop
def kM (l : List Env) : List Addr := l.filterMap (·.frame)
abbrev Cx.fs (X : Cx) : List Addr := kM X.outer
def Vis (sc : Scope) (x : Str) : Prop := sc.names.lookup x = some .local \/ sc.names.lookup x = some .cell \/ sc.names.lookup x = some .free
def Loc (sc : Scope) (x : Str) : Prop := sc.names.lookup x = some .local \/ sc.names.lookup x = some .cell
def cU5 (env : Env) (h : Heap) (m : Str -> Option Value) (x : Str) (u : Value) : Prop :=
 (env.kindOf x = some .local /\ m x = some u) \/ ((env.kindOf x = some .cell \/ env.kindOf x = some .free) /\ ∃ c, env.cells.lookup x = some c /\ h.IsCell c (some u))
structure Cx.Ok (X : Cx) : Prop where
 mod : Mod X.K X.mg X.base
 kind : X.env.scope.kind = .function
 glob : X.env.globals = mainGlobals
 blt : X.env.builtins = builtinsNs
 above : X.s₀.heap.objs.size <= X.env.locals
 inj : ∀ x y c, X.env.cells.lookup x = some c -> X.env.cells.lookup y = some c -> x = y
 has : ∀ x, (X.env.kindOf x = some .cell \/ X.env.kindOf x = some .free) -> ∃ c, X.env.cells.lookup x = some c
 cab : ∀ x c, X.fn x = true -> X.env.cells.lookup x = some c -> X.s₀.heap.objs.size <= c
 hd : X.calm = true -> X.A.handled = none
 frames : X.A.frames = some X.stack
 stk : X.stack = X.outer \/ (X.stack = X.env :: X.outer /\ X.env.frame = some X.env.locals)
 exf : ∀ b ∈ X.ex, b ≠ X.env.locals /\ ∀ x c, X.env.cells.lookup x = some c -> c ≠ b
 bs : ∀ b o, X.base.get? b = some o -> X.s₀.heap.get? b = some o /\ X.H₀ b = none
 bsz : X.base.objs.size <= X.s₀.heap.objs.size
 noex : ∀ b o, X.base.get? b = some o -> b ∉ X.ex
 exfs : ∀ b ∈ X.ex, b ∉ X.fs
 funs : X.s₀.heap.FunFrames X.base X.outer
 frf : ∀ b ∈ X.fs, X.H₀ b = none
structure bE (X : Cx) (pins : List (Addr × Obj)) (σ : List (Option V)) (H : Hp) (s : Shared) : Prop where
 ok : X.Ok
 os : s.os = X.s₀.os
 bare : AllBare s.gens
 base : Un X.fs X.ex X.H₀ H X.s₀.heap s.heap
 loc : ∃ m, s.heap.Ns X.env.locals m /\ ∀ (i : Nat) (x : Str) (v : V), X.N[i]? = some x -> σ[i]? = some (some v) -> Vis X.env.scope x -> ∃ u, cJ v u /\ cU5 X.env s.heap m x u
 cell : ∀ x c, X.env.cells.lookup x = some c -> ∃ v, s.heap.IsCell c v
 free : H X.env.locals = none
 freeC : ∀ x c, X.env.cells.lookup x = some c -> H c = none
 pin : ∀ p ∈ X.pn ++ pins, s.heap.get? p.1 = some p.2 /\ H p.1 = none /\ p.1 ≠ X.env.locals /\ p.1 ∉ X.fs /\ ∀ v, p.2.data ≠ .cell v
 hok : fF X.prog X.w H s.heap
 len : σ.length = X.N.length
section
variable {X : Cx} {pins : List (Addr × Obj)} {σ : List (Option V)} {H H' : Hp} {s : Shared} {h' : Heap}
theorem Cx.Ok.nofr (ok : X.Ok) {b : Addr} {o : Obj} (e : X.base.get? b = some o) : b ∉ X.fs := fun hb => by
 have := (ok.funs.mem hb).1
 rw [e] at this; cases this
theorem bE.bs (I : bE X pins σ H s) : ∀ b o, X.base.get? b = some o -> s.heap.get? b = some o /\ H b = none := fun b o e =>
 ⟨I.base.keep b o (I.ok.bs b o e).1 (I.ok.bs b o e).2 (I.ok.nofr e) (I.ok.noex b o e), I.base.free b o (I.ok.bs b o e).1 (I.ok.bs b o e).2 (I.ok.noex b o e)⟩
theorem bE.bk (I : bE X pins σ H s) : ∀ b o, X.base.get? b = some o -> s.heap.get? b = some o := fun b o e => (I.bs b o e).1
theorem bE.mod (I : bE X pins σ H s) : Mod X.K X.mg X.base := I.ok.mod
theorem bE.kIn (I : bE X pins σ H s) : X.K.In s.heap := I.ok.mod.kin.keeps I.bk
theorem bE.nolimit (I : bE X pins σ H s) : s.heap.NoLimit := I.ok.mod.nolimit.keeps I.bk
theorem bE.lt (I : bE X pins σ H s) : X.env.locals < s.heap.objs.size := let ⟨_, hn, _⟩ := I.loc; hn.lt
theorem bE.sz (I : bE X pins σ H s) : X.s₀.heap.objs.size <= s.heap.objs.size := Nat.le_trans I.ok.above (Nat.le_of_lt I.lt)
theorem bE.nofs (I : bE X pins σ H s) {a : Addr} (h : s.heap.objs.size <= a) : a ∉ X.fs := fun hb => by
 obtain ⟨_, o, ho, _⟩ := I.ok.funs.mem hb
 exact absurd (Nat.lt_of_lt_of_le (Heap.lt_size ho) (Nat.le_trans I.sz h)) (Nat.lt_irrefl _)
theorem bE.cne (I : bE X pins σ H s) : ∀ x c, X.env.cells.lookup x = some c -> c ≠ X.env.locals := fun x c e z => by
 obtain ⟨v, o, ho, hd⟩ := I.cell x c e
 obtain ⟨m, ⟨o', es, ep, ho', hd', _⟩, _⟩ := I.loc
 rw [z, ho'] at ho; cases ho; rw [hd'] at hd; cases hd
theorem bE.funs (I : bE X pins σ H s) : s.heap.FunFrames X.base X.outer := by
 have all : ∀ (l : List Env), (∀ b ∈ kM l, b ∈ X.fs) -> X.s₀.heap.FunFrames X.base l -> s.heap.FunFrames X.base l := by
  intro l
  induction l with
  | nil => intro _ _; trivial
  | cons env r ih =>
   intro hs hl
   obtain ⟨hk, ⟨L, o, hf, hn, ho, hd⟩, hr⟩ := hl
   have hL : L ∈ X.fs := hs L (by unfold kM; rw [List.filterMap_cons, hf]; exact List.mem_cons_self)
   obtain ⟨sl, e⟩ := I.base.slot L o ho (I.ok.frf L hL) hL fun z => I.ok.exfs L z hL
   exact ⟨hk, ⟨L, _, hf, hn, e, hd⟩, ih (fun b hb => hs b (by unfold kM; rw [List.filterMap_cons, hf]; exact List.mem_cons_of_mem _ hb)) hr⟩
 exact all X.outer (fun _ hb => hb) I.ok.funs
theorem bE.stack (I : bE X pins σ H s) : s.heap.FunFrames X.base X.stack := by
 rcases I.ok.stk with e | ⟨e, hf⟩
 ·rw [e]; exact I.funs
 ·rw [e]
  obtain ⟨m, hn, _⟩ := I.loc
  refine .cons (by rw [I.ok.kind]; decide) hf hn ?_ I.funs
  exact Heap.get?_none_of_le (Nat.le_trans I.ok.bsz I.ok.above)
theorem bE.stkSub (I : bE X pins σ H s) : ∀ b ∈ kM X.stack, b ∈ X.env.locals :: X.fs := fun b hb => by
 rcases I.ok.stk with e | ⟨e, hf⟩
 ·rw [e] at hb; exact List.mem_cons_of_mem _ hb
 ·rw [e] at hb
  unfold kM at hb
  rw [List.filterMap_cons, hf] at hb
  exact hb
theorem bE.stkFree (I : bE X pins σ H s) : ∀ b ∈ kM X.stack, H b = none := fun b hb => by
 rcases List.mem_cons.mp (I.stkSub b hb) with e | hb
 ·rw [e]; exact I.free
 ·obtain ⟨_, o, ho, _⟩ := I.ok.funs.mem hb
  exact I.base.free b o ho (I.ok.frf b hb) fun z => I.ok.exfs b z hb
theorem bE.step {g' : Array GenState} {t' : Nat} {d' : Drawn} {ch : List Addr} (I : bE X pins σ H s)
 (hch : ∀ b ∈ ch, (b ∈ X.ex \/ X.s₀.heap.objs.size <= b) /\ b ≠ X.env.locals /\ (∀ x c, X.env.cells.lookup x = some c -> c ≠ b) /\ ∀ p ∈ X.pn ++ pins, p.1 ≠ b)
 (keep : ∀ b o, b ≠ X.env.locals -> b ∉ X.fs -> b ∉ ch -> s.heap.get? b = some o -> H b = none -> h'.get? b = some o)
 (slot : ∀ b o, b ≠ X.env.locals -> b ∈ X.fs -> b ∉ ch -> s.heap.get? b = some o -> H b = none -> ∃ sl, h'.get? b = some { o with slots := sl }) (free : ∀ b o, b ∉ ch -> s.heap.get? b = some o -> H b = none -> H' b = none)
 (there : ∀ b o, b ∉ ch -> s.heap.get? b = some o -> ∃ o', h'.get? b = some o')
 (tups : ∀ b xs, H b = some (.tup xs) -> H' b = some (.tup xs)) (frzs : ∀ b o u, H b = some (.frz o u) -> H' b = some (.frz o u)) (tbls : ∀ b ps, H b = some (.tbl ps) -> ∃ more, H' b = some (.tbl (ps ++ more)))
 (ns : ∀ m, s.heap.Ns X.env.locals m -> h'.Ns X.env.locals m) (hok : fF X.prog X.w H' h') (hg : AllBare g') :
 bE X pins σ H' { s with heap := h', gens := g', drawn := d', toks := t' } := by
 have neL : ∀ b o, X.s₀.heap.get? b = some o -> b ≠ X.env.locals := fun b o e => Nat.ne_of_lt (Nat.lt_of_lt_of_le (Heap.lt_size e) I.ok.above)
 have neC : ∀ b o, X.s₀.heap.get? b = some o -> b ∉ X.ex -> b ∉ ch := fun b o e hx hb => by
  rcases (hch b hb).1 with z | z
  ·exact hx z
  ·exact absurd (Nat.lt_of_lt_of_le (Heap.lt_size e) z) (Nat.lt_irrefl _)
 have cellK : ∀ x c, X.env.cells.lookup x = some c -> ∀ v, s.heap.IsCell c v -> h'.IsCell c v := fun x c e v ⟨o, ho, hd⟩ => by
  have nch : c ∉ ch := fun z => (hch c z).2.2.1 x c e rfl
  by_cases hc : c ∈ X.fs
  ·obtain ⟨sl, q⟩ := slot c o (I.cne x c e) hc nch ho (I.freeC x c e)
   exact ⟨_, q, hd⟩
  ·exact ⟨o, keep c o (I.cne x c e) hc nch ho (I.freeC x c e), hd⟩
 refine ⟨I.ok, I.os, hg, ⟨fun b o e n hb hx => ?_, fun b o e n hb hx => ?_, fun b o e n hx => ?_, fun b o e hx => ?_, fun b xs e => tups b xs (I.base.tups b xs e), fun b o xs e => frzs b o xs (I.base.frzs b o xs e), fun b ps e => ?_⟩, ?_, fun x c e => ?_, ?_, fun x c e => ?_, fun p hp => ?_, hok, I.len⟩
 ·exact keep b o (neL b o e) hb (neC b o e hx) (I.base.keep b o e n hb hx) (I.base.free b o e n hx)
 ·obtain ⟨sl, e1⟩ := I.base.slot b o e n hb hx
  obtain ⟨sl', e2⟩ := slot b _ (neL b o e) hb (neC b o e hx) e1 (I.base.free b o e n hx)
  exact ⟨sl', e2⟩
 ·obtain ⟨o', e1⟩ := I.base.there b o e hx
  exact free b o' (neC b o e hx) e1 (I.base.free b o e n hx)
 ·obtain ⟨o', e1⟩ := I.base.there b o e hx
  exact there b o' (neC b o e hx) e1
 ·obtain ⟨m1, e1⟩ := I.base.tbls b ps e
  obtain ⟨m2, e2⟩ := tbls b _ e1
  exact ⟨m1 ++ m2, by rw [e2, Array.append_assoc]⟩
 ·obtain ⟨m, hn, hl⟩ := I.loc
  refine ⟨m, ns m hn, fun i x v e1 e2 e3 => ?_⟩
  obtain ⟨u, r, l⟩ := hl i x v e1 e2 e3
  refine ⟨u, r, ?_⟩
  rcases l with l | ⟨k, c, e, z⟩
  ·exact .inl l
  ·exact .inr ⟨k, c, e, cellK x c e _ z⟩
 ·obtain ⟨v, z⟩ := I.cell x c e
  exact ⟨v, cellK x c e v z⟩
 ·obtain ⟨m, ⟨o, _, _, ho, _⟩, _⟩ := I.loc
  exact free _ o (fun z => (hch _ z).2.1 rfl) ho I.free
 ·obtain ⟨v, o, ho, hd⟩ := I.cell x c e
  exact free c o (fun z => (hch c z).2.2.1 x c e rfl) ho (I.freeC x c e)
 ·obtain ⟨e, n, ne, nf, d⟩ := I.pin p hp
  have nch : p.1 ∉ ch := fun z => (hch p.1 z).2.2.2 p hp rfl
  exact ⟨keep p.1 p.2 ne nf nch e n, free p.1 p.2 nch e n, ne, nf, d⟩
theorem bE.un {t' : Nat} (I : bE X pins σ H s) (u : Un X.fs [] H H' s.heap h') (hok : fF X.prog X.w H' h') : bE X pins σ H' { s with heap := h', toks := t' } := by
 obtain ⟨m, ⟨o, es, ep, ho, r⟩, _⟩ := id I.loc
 obtain ⟨sl, hL⟩ := u.any ho I.free (by simp)
 exact I.step (g' := s.gens) (d' := s.drawn) (ch := []) (fun _ z => nomatch z) (fun b o _ hb _ e n => u.keep b o e n hb (by simp)) (fun b o _ hb _ e n => u.slot b o e n hb (by simp)) (fun b o _ e n => u.free b o e n (by simp)) (fun b o _ e => u.there b o e (by simp)) u.tups u.frzs u.tbls (fun m' hm => by
  obtain ⟨o', es', ep', ho', r'⟩ := hm
  rw [ho] at ho'; cases ho'
  exact ⟨_, es', ep', hL, r'⟩) hok I.bare
theorem bE.call {g' : Array GenState} {t' : Nat} {d' : Drawn} {ch : List Addr} (I : bE X pins σ H s) (u : Un (kM X.stack) ch H H' s.heap h') (hok : fF X.prog X.w H' h') (hg : AllBare g')
 (hch : ∀ b ∈ ch, (b ∈ X.ex \/ X.s₀.heap.objs.size <= b) /\ b ≠ X.env.locals /\ (∀ x c, X.env.cells.lookup x = some c -> c ≠ b) /\ ∀ p ∈ X.pn ++ pins, p.1 ≠ b) :
 bE X pins σ H' { s with heap := h', gens := g', drawn := d', toks := t' } := by
 obtain ⟨m, ⟨o, es, ep, ho, r⟩, _⟩ := id I.loc
 obtain ⟨sl, hL⟩ := u.any ho I.free fun z => (hch _ z).2.1 rfl
 exact I.step (ch := ch) hch (fun b o hL hb hc e n => u.keep b o e n (fun z => (List.mem_cons.mp (I.stkSub b z)).elim hL hb) hc) (fun b o _ _ hc e n => u.any e n hc) (fun b o hc e n => u.free b o e n hc) (fun b o hc e => u.there b o e hc) u.tups u.frzs u.tbls (fun m' hm => by
  obtain ⟨o', es', ep', ho', r'⟩ := hm
  rw [ho] at ho'; cases ho'
  exact ⟨_, es', ep', hL, r'⟩) hok hg
theorem bE.turned {t' : Nat} {it : Addr} (I : bE X pins σ H s) (k : ∀ b o, b ≠ it -> s.heap.get? b = some o -> h'.get? b = some o) (hn : H it = none) (hL : it ≠ X.env.locals)
 (h1 : it ∈ X.ex \/ X.s₀.heap.objs.size <= it) (h2 : ∀ x c, X.env.cells.lookup x = some c -> c ≠ it) (h3 : ∀ p ∈ X.pn ++ pins, p.1 ≠ it) : bE X pins σ H { s with heap := h', toks := t' } := by
 have nit : ∀ b u, H b = some u -> b ≠ it := fun b u e z => by rw [z, hn] at e; cases e
 refine I.step (g' := s.gens) (d' := s.drawn) (ch := [it]) (fun b hb => ?_) (fun b o _ _ hc e _ => k b o (fun z => hc (by simp [z])) e) (fun b o _ _ hc e _ => ⟨o.slots, k b o (fun z => hc (by simp [z])) e⟩) (fun _ _ _ _ n => n)
  (fun b o hc e => ⟨o, k b o (fun z => hc (by simp [z])) e⟩) (fun _ _ e => e) (fun _ _ _ e => e) (fun b ps e => ⟨#[], by rw [e]; simp⟩) (fun m hm => ?_) (fun b u e => ?_) I.bare
 ·have e : b = it := by simpa using hb
  subst e
  exact ⟨h1, hL, h2, h3⟩
 ·obtain ⟨o, es, ep, ho, r⟩ := hm
  exact ⟨o, es, ep, k _ o (Ne.symm hL) ho, r⟩
 ·refine (I.hok b u e).stay (fun c v hc q => k c v ?_ q) (fun _ q => q) fun _ _ q => q
  rcases hc with z | z
  ·rw [z]; exact nit b u e
  ·exact nit c _ z
theorem bE.tok (I : bE X pins σ H s) (t : Nat) : bE X pins σ H { s with toks := t } := I.un (h' := s.heap) (t' := t) Un.refl I.hok
theorem bE.kept {t' : Nat} (I : bE X pins σ H s) (k : ∀ b u, s.heap.get? b = some u -> h'.get? b = some u) : bE X pins σ H { s with heap := h', toks := t' } := I.un (Un.kept k) (I.hok.kept k)
theorem bE.laid {a : Addr} {o : HO} {t' : Nat} (I : bE X pins σ H s) (k : ∀ b u, s.heap.get? b = some u -> h'.get? b = some u) (hp : s.heap.objs.size <= a) (new : gO X.prog X.w (upd H a o) h' a o) :
 bE X pins σ (upd H a o) { s with heap := h', toks := t' } := I.un (Un.laid k hp (I.hok.fresh hp)) (I.hok.laid k hp new)
theorem bE.write {x e : Addr} {o : HO} {t' : Nat} (I : bE X pins σ H s) (mu : vN (H x)) (he : e = x \/ H e = some (.own x)) (k : ∀ b u, b ≠ e -> s.heap.get? b = some u -> h'.get? b = some u) (heo : ∃ u, h'.get? e = some u)
 (new : gO X.prog X.w (upd H x o) h' x o) : bE X pins σ (upd H x o) { s with heap := h', toks := t' } := I.un (Un.write mu he k heo) (I.hok.write mu he k heo new)
theorem bE.pins_of {pins' : List (Addr × Obj)} (I : bE X pins σ H s) (h : ∀ p ∈ pins', s.heap.get? p.1 = some p.2 /\ H p.1 = none /\ p.1 ≠ X.env.locals /\ p.1 ∉ X.fs /\ ∀ v, p.2.data ≠ .cell v) : bE X pins' σ H s :=
 ⟨I.ok, I.os, I.bare, I.base, I.loc, I.cell, I.free, I.freeC, fun p hp => (List.mem_append.mp hp).elim (fun z => I.pin p (List.mem_append_left _ z)) (h p), I.hok, I.len⟩
theorem bV3 {N : List Str} (hN : N.Nodup) {i j : Nat} {x : Str} (a : N[i]? = some x) (b : N[j]? = some x) : i = j := by
 obtain ⟨h1, e1⟩ := List.getElem?_eq_some_iff.mp a
 obtain ⟨h2, e2⟩ := List.getElem?_eq_some_iff.mp b
 exact (List.getElem_inj hN).mp (e1.trans e2.symm)
theorem bV4 {M : Model} {A : Around} {E : Value -> Shared -> Prop} {i : Nat} {x : Str} {v : V} {u : Value} {Q : Unit -> Shared -> Prop} (I : bE X pins σ H s) (hN : X.N.Nodup) (hi : X.N[i]? = some x) (hx : Loc X.env.scope x) (r : cJ v u)
 (h : ∀ s', bE X pins (σ.set i (some v)) H s' -> (∃ a, Heap.SameBut a s.heap s'.heap /\ (a = X.env.locals \/ X.env.cells.lookup x = some a)) -> Q () s') (hf : X.fn x = true \/ X.env.scope.names.lookup x = some .local := by first | exact .inl rfl | exact .inr rfl | assumption) : wpAny M A (storeName X.env x u) Q E s := by
 obtain ⟨m, hn, hl⟩ := id I.loc
 have hcls : (X.env.scope.kind == .class || (X.env.scope.kind == .module && X.env.locals != X.env.globals)) = false := by rw [I.ok.kind]; rfl
 have hiσ : i < σ.length := by rw [I.len]; exact (List.getElem?_eq_some_iff.mp hi).1
 have cne := I.cne
 have tracked : ∀ {a : Addr} {h' : Heap}, (∃ o, s.heap.get? a = some o /\ H a = none) -> Heap.SameBut a s.heap h' -> fF X.prog X.w H h' := fun {a h'} ha hs b ob e => by
  obtain ⟨_, _, hfree⟩ := ha
  refine (I.hok b ob e).stay (fun c w' hc q => (hs.2 c ?_).trans q) (fun _ q => q) fun _ _ q => q
  rintro rfl
  rcases hc with rfl | hc
  ·rw [hfree] at e; cases e
  ·rw [hfree] at hc; cases hc
 rcases hx with hk | hk
 ·refine wpAny_storeName_local hk hn (fun h' hn' hs => ?_) hcls
  obtain ⟨oL, _, _, hoL, _⟩ := id hn
  refine h _ ⟨I.ok, I.os, I.bare, ⟨fun b o e n hb hx => ?_, fun b o e n hb hx => ?_, I.base.free, fun b o e hx => ?_, I.base.tups, I.base.frzs, I.base.tbls⟩, ⟨_, hn', fun j y v' e1 e2 e3 => ?_⟩, fun y c e => ?_, I.free, I.freeC, fun p hp => ?_, tracked ⟨oL, hoL, I.free⟩ hs, by simpa using I.len⟩ ⟨_, hs, .inl rfl⟩
  ·exact (hs.2 b (Nat.ne_of_lt (Nat.lt_of_lt_of_le (Heap.lt_size e) I.ok.above))).trans (I.base.keep b o e n hb hx)
  ·obtain ⟨sl, e1⟩ := I.base.slot b o e n hb hx
   exact ⟨sl, (hs.2 b (Nat.ne_of_lt (Nat.lt_of_lt_of_le (Heap.lt_size e) I.ok.above))).trans e1⟩
  ·obtain ⟨o', e1⟩ := I.base.there b o e hx
   exact ⟨o', (hs.2 b (Nat.ne_of_lt (Nat.lt_of_lt_of_le (Heap.lt_size e) I.ok.above))).trans e1⟩
  ·by_cases hj : j = i
   ·subst hj
    rw [hi] at e1; cases e1
    rw [List.getElem?_set_self hiσ] at e2
    cases e2
    exact ⟨u, r, .inl ⟨hk, by simp⟩⟩
   ·rw [List.getElem?_set_ne (Ne.symm hj)] at e2
    obtain ⟨u', r', q⟩ := hl j y v' e1 e2 e3
    refine ⟨u', r', ?_⟩
    rcases q with ⟨k, e⟩ | ⟨k, c, e, z⟩
    ·refine .inl ⟨k, ?_⟩
     have : y ≠ x := fun e => hj (bV3 hN e1 (e ▸ hi))
     simp [this, e]
    ·exact .inr ⟨k, c, e, z.sameBut hs (cne y c e)⟩
  ·obtain ⟨w', z⟩ := I.cell y c e
   exact ⟨w', z.sameBut hs (cne y c e)⟩
  ·obtain ⟨e, n, ne, nf, d⟩ := I.pin p hp
   exact ⟨(hs.2 p.1 ne).trans e, n, ne, nf, d⟩
 ·have hfn : X.fn x = true := by
   rcases hf with z | z
   ·exact z
   ·rw [z] at hk; cases hk
  obtain ⟨c, hc⟩ := I.ok.has x (.inl hk)
  obtain ⟨w', z⟩ := I.cell x c hc
  refine wpAny_storeName_cell I.ok.kind hk hc z (fun h' hc' hs => ?_)
  obtain ⟨oc, hoc, hocd⟩ := id z
  refine h { s with heap := h' } ⟨I.ok, I.os, I.bare, ⟨fun b o e n hb hx => ?_, fun b o e n hb hx => ?_, I.base.free, fun b o e hx => ?_, I.base.tups, I.base.frzs, I.base.tbls⟩, ⟨m, hn.sameBut hs (Ne.symm (cne x c hc)), fun j y v' e1 e2 e3 => ?_⟩, fun y c' e => ?_, I.free, I.freeC, fun p hp => ?_, tracked ⟨oc, hoc, I.freeC x c hc⟩ hs, by simpa using I.len⟩ ⟨c, hs, .inr hc⟩
  ·exact (hs.2 b (Nat.ne_of_lt (Nat.lt_of_lt_of_le (Heap.lt_size e) (I.ok.cab x c hfn hc)))).trans (I.base.keep b o e n hb hx)
  ·obtain ⟨sl, e1⟩ := I.base.slot b o e n hb hx
   exact ⟨sl, (hs.2 b (Nat.ne_of_lt (Nat.lt_of_lt_of_le (Heap.lt_size e) (I.ok.cab x c hfn hc)))).trans e1⟩
  ·obtain ⟨o', e1⟩ := I.base.there b o e hx
   exact ⟨o', (hs.2 b (Nat.ne_of_lt (Nat.lt_of_lt_of_le (Heap.lt_size e) (I.ok.cab x c hfn hc)))).trans e1⟩
  ·by_cases hj : j = i
   ·subst hj
    rw [hi] at e1; cases e1
    rw [List.getElem?_set_self hiσ] at e2
    cases e2
    exact ⟨u, r, .inr ⟨.inl hk, c, hc, hc'⟩⟩
   ·rw [List.getElem?_set_ne (Ne.symm hj)] at e2
    obtain ⟨u', r', q⟩ := hl j y v' e1 e2 e3
    refine ⟨u', r', ?_⟩
    rcases q with q | ⟨k, c', e, z'⟩
    ·exact .inl q
    ·refine .inr ⟨k, c', e, z'.sameBut hs ?_⟩
     rintro rfl
     exact hj (bV3 hN e1 (I.ok.inj _ _ _ e hc ▸ hi))
  ·by_cases hcc : c' = c
   ·subst hcc; exact ⟨_, hc'⟩
   ·obtain ⟨w2, z2⟩ := I.cell y c' e
    exact ⟨w2, z2.sameBut hs hcc⟩
  ·obtain ⟨e, n, ne, nf, d⟩ := I.pin p hp
   refine ⟨(hs.2 p.1 ?_).trans e, n, ne, nf, d⟩
   intro q
   rw [q, hoc] at e
   have q' : oc = p.2 := Option.some.inj e
   exact d w' (by rw [<- q']; exact hocd)
theorem bG6 {M : Model} {A : Around} {E : Value -> Shared -> Prop} {i : Nat} {x : Str} {v : V} {u : Value} {Q : Unit -> Shared -> Prop} (I : bE X pins σ H s) (hN : X.N.Nodup) (hi : X.N[i]? = some x) (hx : Loc X.env.scope x) (r : cJ v u)
 (h : ∀ s', bE X pins (σ.set i (some v)) H s' -> Q () s') (hf : X.fn x = true \/ X.env.scope.names.lookup x = some .local := by first | exact .inl rfl | exact .inr rfl | assumption) : wpAny M A (storeName X.env x u) Q E s :=
 bV4 I hN hi hx r (fun s' I' _ => h s' I') hf
theorem bE.call' {s' : Shared} {ch : List Addr} (I : bE X pins σ H s) (ho : s'.os = s.os) (u : Un (kM X.stack) ch H H' s.heap s'.heap) (hok : fF X.prog X.w H' s'.heap) (hg : AllBare s'.gens)
 (hch : ∀ b ∈ ch, (b ∈ X.ex \/ X.s₀.heap.objs.size <= b) /\ b ≠ X.env.locals /\ (∀ x c, X.env.cells.lookup x = some c -> c ≠ b) /\ ∀ p ∈ X.pn ++ pins, p.1 ≠ b) : bE X pins σ H' s' := by
 obtain ⟨h', g', d', t', o'⟩ := s'
 have e : o' = s.os := ho
 subst e
 exact I.call (g' := g') (t' := t') (d' := d') u hok hg hch
end
abbrev XK := Value -> Option Addr -> Hp -> Prop
abbrev St := List (Option V)
abbrev VK := V -> Hp -> Prop
abbrev TE := St -> Hp -> VK -> Prop
abbrev TT := St -> Hp -> (Bool -> Hp -> Prop) -> Prop
abbrev TA := St -> Hp -> (List V -> Hp -> Prop) -> Prop
structure lK where
 nx : St -> Hp -> Prop
 rt : VK
 bk : St -> Hp -> Prop := fun _ _ => False
 ct : St -> Hp -> Prop := fun _ _ => False
abbrev TS := lK -> St -> Hp -> Prop
def EP (X : Cx) (pins : List (Addr × Obj)) (σ : St) (Q : VK) (u : Value) (s' : Shared) : Prop := ∃ v H', bE X pins σ H' s' /\ cJ v u /\ Q v H'
def TP (X : Cx) (pins : List (Addr × Obj)) (σ : St) (Q : Bool -> Hp -> Prop) (b : Bool) (s' : Shared) : Prop := ∃ H', bE X pins σ H' s' /\ Q b H'
def AP (X : Cx) (pins : List (Addr × Obj)) (σ : St) (Q : List V -> Hp -> Prop) (us : List Value) (s' : Shared) : Prop := ∃ vs H', bE X pins σ H' s' /\ cE vs us /\ Q vs H'
def SP (X : Cx) (pins : List (Addr × Obj)) (D : lK) (f : Flow) (s' : Shared) : Prop :=
 match f with
 | .next => ∃ σ' H', bE X pins σ' H' s' /\ D.nx σ' H'
 | .brk => ∃ σ' H', bE X pins σ' H' s' /\ D.bk σ' H'
 | .cont => ∃ σ' H', bE X pins σ' H' s' /\ D.ct σ' H'
 | .ret u => ∃ v σ' H', bE X pins σ' H' s' /\ cJ v u /\ D.rt v H'
def PE (X : Cx) (e : Expr) (t : TE) : Prop :=
 ∀ (pins : List (Addr × Obj)) (s : Shared) (σ : St) (H : Hp) (Q : VK), bE X pins σ H s -> t σ H Q -> wpAny (model X.prog X.w) X.A (eval e X.env) (EP X pins σ Q) X.xe s
def PT (X : Cx) (e : Expr) (t : TT) : Prop :=
 ∀ (pins : List (Addr × Obj)) (s : Shared) (σ : St) (H : Hp) (Q : Bool -> Hp -> Prop), bE X pins σ H s -> t σ H Q -> wpAny (model X.prog X.w) X.A (isTrue e X.env (eval e X.env)) (TP X pins σ Q) X.xe s
def PW (X : Cx) (e : Expr) (t : TT) : Prop :=
 ∀ (whole : Sem Value) (pins : List (Addr × Obj)) (s : Shared) (σ : St) (H : Hp) (Q : Bool -> Hp -> Prop), bE X pins σ H s -> t σ H Q -> wpAny (model X.prog X.w) X.A (isTrue e X.env whole) (TP X pins σ Q) X.xe s
theorem PW.pt {X : Cx} {e : Expr} {t : TT} (h : PW X e t) : PT X e t := h _
def PA (X : Cx) (es : List Expr) (t : TA) : Prop :=
 ∀ (pos : Pos) (pins : List (Addr × Obj)) (s : Shared) (σ : St) (H : Hp) (Q : List V -> Hp -> Prop), bE X pins σ H s -> t σ H Q -> wpAny (model X.prog X.w) X.A (spliced (backTo pos (starEach es X.env))) (AP X pins σ Q) X.xe s
def PS (X : Cx) (st : Stmt) (t : TS) : Prop :=
 ∀ (pins : List (Addr × Obj)) (s : Shared) (σ : St) (H : Hp) (D : lK), bE X pins σ H s -> t D σ H -> wpAny (model X.prog X.w) X.A (exec st X.env) (SP X pins D) X.xe s
def jS (X : Cx) (st : List Stmt) (t : TS) : Prop :=
 ∀ (pins : List (Addr × Obj)) (s : Shared) (σ : St) (H : Hp) (D : lK), bE X pins σ H s -> t D σ H -> wpAny (model X.prog X.w) X.A (execs st X.env) (SP X pins D) X.xe s
theorem cC {α : Type} {t : Sem α} {Q Q' : α -> Shared -> Prop} {M : Model} {A : Around} {E : Value -> Shared -> Prop} {s : Shared} (h : wpAny M A t Q E s) (hQ : ∀ a s, Q a s -> Q' a s) : wpAny M A t Q' E s := wpAny_mono h hQ fun _ _ x => x
end L2
namespace L2
open PySem PySem.Spec PyProof.Rows
section
variable {X : Cx}
def bG7 (i : Nat) : TE := fun σ H Q => ∃ v, σ[i]? = some (some v) /\ Q v H
def tC (v : V) : TE := fun _ H Q => Q v H
theorem lL {i : Nat} {x : Str} {pos : Pos} (hN : X.N[i]? = some x) (hv : Vis X.env.scope x) (hd : (x == ("__debug__" : Str)) = false := by decide) (hcd : (x == ("__classdict__" : Str)) = false := by decide) : PE X (.Name x pos) (bG7 i) := by
 intro pins s σ H Q I h
 obtain ⟨v, e, h⟩ := h
 obtain ⟨m, hn, hl⟩ := I.loc
 obtain ⟨u, r, l⟩ := hl i x v hN e hv
 have fin : EP X pins σ Q u s := ⟨v, H, I, r, h⟩
 rcases l with ⟨hk, hm⟩ | ⟨hk, c, hc, hcell⟩
 ·exact wpAny_Name (wpAny_loadName_local I.ok.kind hk hn hm fin) hd
 ·rcases hk with hk | hk
  ·exact wpAny_Name (wpAny_loadName_cell I.ok.kind hk hc hcell fin) hd
  ·exact wpAny_Name (wpAny_loadName_free I.ok.kind hk hc hcell fin hcd) hd
theorem cU6 {i j pos} : PE X (.Constant (.int i) j pos) (tC (.int i)) := fun _ _ _ H _ I h => wpAny_Constant_int ⟨.int i, H, I.tok _, ⟨_, rfl⟩, h⟩
theorem cU7 {b j pos} : PE X (.Constant (.bool b) j pos) (tC (.bl b)) := fun _ _ _ H _ I h => Constant_bool ⟨.bl b, H, I, rfl, h⟩
theorem cU8 {j pos} : PE X (.Constant .none j pos) (tC .non) := fun _ _ _ H _ I h => Constant_none ⟨.non, H, I, rfl, h⟩
theorem cU9 {x j pos} : PE X (.Constant (.str x) j pos) (tC (.str x)) := fun _ _ _ H _ I h => Calls.Constant_str ⟨.str x, H, I.tok _, ⟨_, rfl⟩, h⟩
def Gl (X : Cx) (x : Str) : Prop := X.env.kindOf x = some .globalImplicit
theorem bV5 {E : Value -> Shared -> Prop} {pins : List (Addr × Obj)} {s : Shared} {σ : St} {H : Hp} {x : Str} {u : Value} {pos : Pos} {Q : Value -> Shared -> Prop} (I : bE X pins σ H s) (hg : Gl X x) (hm : X.mg x = some u) (h : Q u s)
 (hd : (x == ("__debug__" : Str)) = false := by decide) : wpAny (model X.prog X.w) X.A (eval (.Name x pos) X.env) Q E s :=
 Calls.Name_function_global I.ok.kind hg (Calls.loadGlobal_global (by rw [I.ok.glob]; exact I.mod.glob.keeps I.bk) hm h) hd
theorem rE {E : Value -> Shared -> Prop} {pins : List (Addr × Obj)} {s : Shared} {σ : St} {H : Hp} {x : Str} {u : Value} {pos : Pos} {Q : Value -> Shared -> Prop} (I : bE X pins σ H s) (hg : Gl X x) (hm : X.mg x = none) (hv : bootBuiltins x = some u) (h : Q u s)
 (hn : x ≠ "__name__" := by decide) (hd : (x == ("__debug__" : Str)) = false := by decide) : wpAny (model X.prog X.w) X.A (eval (.Name x pos) X.env) Q E s := by
 obtain ⟨mb, h1, h2⟩ := I.mod.blt
 exact Calls.Name_function_global I.ok.kind hg (Calls.loadGlobal_builtin (by rw [I.ok.glob]; exact I.mod.glob.keeps I.bk) hm (by rw [I.ok.blt]; exact h1.keeps I.bk) ((h2 x hn).trans hv) h) hd
theorem yI {x : Str} {v : V} {u : Value} {pos : Pos} (hg : Gl X x) (hm : X.mg x = some u) (r : cJ v u) (hd : (x == ("__debug__" : Str)) = false := by decide) : PE X (.Name x pos) (tC v) :=
 fun _ _ _ H _ I h => bV5 I hg hm ⟨v, H, I, r, h⟩ hd
theorem cV0 {x : Str} {v : V} {u : Value} {pos : Pos} (hg : Gl X x) (hm : X.mg x = none) (hv : bootBuiltins x = some u) (r : cJ v u) (hn : x ≠ "__name__" := by decide) (hd : (x == ("__debug__" : Str)) = false := by decide) : PE X (.Name x pos) (tC v) :=
 fun _ _ _ H _ I h => rE I hg hm hv ⟨v, H, I, r, h⟩ hn hd
variable {a b : Expr} {ta tb : TE} {pos : Pos}
def PC (X : Cx) (op : CmpOp) (a b : Expr) (t : TE) : Prop :=
 ∀ (pins : List (Addr × Obj)) (s : Shared) (σ : St) (H : Hp) (Q : VK), bE X pins σ H s -> t σ H Q ->
   wpAny (model X.prog X.w) X.A (eval a X.env) (fun v s₁ => wpAny (model X.prog X.w) X.A (eval b X.env) (fun u s₂ => wpAny (model X.prog X.w) X.A (compareOp op v u) (EP X pins σ Q) X.xe s₂) X.xe s₁) X.xe s
theorem cV1 (b : Expr) {op : CmpOp} (h : op ≠ .In) (h2 : op ≠ .NotIn) : behindInMarks op b = false := by
 have e1 : (op == CmpOp.In) = false := by cases op <;> first | rfl | exact absurd rfl h
 have e2 : (op == CmpOp.NotIn) = false := by cases op <;> first | rfl | exact absurd rfl h2
 cases b <;> simp [behindInMarks, e1, e2]
def tB (t : TE) : TT := fun σ H Q => t σ H fun x H1 => ∃ c, x = .bl c /\ Q c H1
theorem bV6 {op : CmpOp} {t : TE} (h : PC X op a b t) (h1 : behindInMarks op b = false := by first | exact cV1 _ (by decide) (by decide) | rfl) : PT X (.Compare a [op] [b] pos) (tB t) := by
 intro pins s σ H Q I hw
 refine wpAny_isTrue_Compare1 (cC (h pins s σ H _ I hw) fun v s1 h1 => cC h1 fun u s2 h2 => cC h2 fun c s3 ⟨x, H1, I1, r1, q1⟩ => ?_) h1
 obtain ⟨d, rfl, q⟩ := q1
 cases r1
 exact wpAny_truthy_bool ⟨H1, I1, q⟩
variable {tA tB' : TT} {rest : List Expr}
def cV2 (t u : TT) : TT := fun σ H Q => t σ H fun c H1 => if c = true then u σ H1 Q else Q false H1
def tOr (t u : TT) : TT := fun σ H Q => t σ H fun c H1 => if c = true then Q true H1 else u σ H1 Q
def cV4 (t : TT) : TT := fun σ H Q => t σ H fun c H1 => Q (!c) H1
theorem cV5 (ha : PT X a tA) : PW X (.BoolOp .And [a] pos) tA := by
 intro wh pins s σ H Q I h
 refine isTrue_and (cC (ha pins s σ H Q I h) fun c s1 e => ?_)
 cases c with
 | true => exact isTrue_and_nil e
 | false => exact e
theorem cV6 (ha : PT X a tA) : PW X (.BoolOp .Or [a] pos) tA := by
 intro wh pins s σ H Q I h
 refine isTrue_or (cC (ha pins s σ H Q I h) fun c s1 e => ?_)
 cases c with
 | false => exact isTrue_or_nil e
 | true => exact e
theorem cV7 (ha : PT X a tA) (hb : PW X (.BoolOp .And (b :: rest) pos) tB') : PW X (.BoolOp .And (a :: b :: rest) pos) (cV2 tA tB') := by
 intro wh pins s σ H Q I h
 refine isTrue_and (cC (ha pins s σ H _ I h) fun c s1 ⟨H1, I1, q1⟩ => ?_)
 cases c with
 | true => exact hb wh pins s1 σ H1 Q I1 q1
 | false => exact ⟨H1, I1, q1⟩
theorem cV8 (ha : PT X a tA) (hb : PW X (.BoolOp .Or (b :: rest) pos) tB') : PW X (.BoolOp .Or (a :: b :: rest) pos) (tOr tA tB') := by
 intro wh pins s σ H Q I h
 refine isTrue_or (cC (ha pins s σ H _ I h) fun c s1 ⟨H1, I1, q1⟩ => ?_)
 cases c with
 | true => exact ⟨H1, I1, q1⟩
 | false => exact hb wh pins s1 σ H1 Q I1 q1
theorem cV9 (ha : PT X a tA) : PT X (.UnaryOp .Not a pos) (cV4 tA) := by
 intro pins s σ H Q I h
 exact isTrue_not (ha pins s σ H (fun c H1 => Q (!c) H1) I h)
def cW0 (ta tb : TE) : TE := fun σ H Q => ta σ H fun x H1 => ∃ c, x = .bl c /\ if c = true then tb σ H1 Q else Q (.bl false) H1
def cW1 (ta tb : TE) : TE := fun σ H Q => ta σ H fun x H1 => ∃ c, x = .bl c /\ if c = true then Q (.bl true) H1 else tb σ H1 Q
def cW2 (ta : TE) : TE := fun σ H Q => ta σ H fun x H1 => ∃ c, x = .bl c /\ Q (.bl (!c)) H1
theorem cW3 {op} {t : TE} (h : PE X a t) : PE X (.BoolOp op [a] pos) t := fun pins s σ H Q I hw => BoolOp_one (h pins s σ H Q I hw)
theorem cW4 (ha : PE X a ta) (hb : PE X (.BoolOp .And (b :: rest) pos) tb) : PE X (.BoolOp .And (a :: b :: rest) pos) (cW0 ta tb) := by
 intro pins s σ H Q I h
 refine BoolOp_and (cC (ha pins s σ H _ I h) fun v s1 ⟨x, H1, I1, r1, q1⟩ => ?_)
 obtain ⟨c, rfl, q1⟩ := q1
 cases r1
 refine wpAny_truthy_bool ?_
 cases c with
 | true => exact hb pins s1 σ H1 Q I1 q1
 | false => exact ⟨.bl false, H1, I1, rfl, q1⟩
theorem cW5 (ha : PE X a ta) (hb : PE X (.BoolOp .Or (b :: rest) pos) tb) : PE X (.BoolOp .Or (a :: b :: rest) pos) (cW1 ta tb) := by
 intro pins s σ H Q I h
 refine BoolOp_or (cC (ha pins s σ H _ I h) fun v s1 ⟨x, H1, I1, r1, q1⟩ => ?_)
 obtain ⟨c, rfl, q1⟩ := q1
 cases r1
 refine wpAny_truthy_bool ?_
 cases c with
 | false => exact hb pins s1 σ H1 Q I1 q1
 | true => exact ⟨.bl true, H1, I1, rfl, q1⟩
theorem cW6 (ha : PE X a ta) : PE X (.UnaryOp .Not a pos) (cW2 ta) := by
 intro pins s σ H Q I h
 refine UnaryOp_ (cC (ha pins s σ H _ I h) fun v s1 ⟨x, H1, I1, r1, q1⟩ => ?_)
 obtain ⟨c, rfl, q1⟩ := q1
 cases r1
 exact not_of (wpAny_truthy_bool ⟨.bl (!c), H1, I1, rfl, q1⟩)
def tIf (t : TT) (ta tb : TE) : TE := fun σ H Q => t σ H fun c H1 => if c = true then ta σ H1 Q else tb σ H1 Q
theorem bV7 {c : Expr} (hc : PT X c tA) (ha : PE X a ta) (hb : PE X b tb) : PE X (.IfExp c a b pos) (tIf tA ta tb) := by
 intro pins s σ H Q I h
 refine wpAny_IfExp (cC (hc pins s σ H _ I h) fun d s1 ⟨H1, I1, q1⟩ => ?_)
 cases d with
 | true => exact ha pins s1 σ H1 Q I1 q1
 | false => exact hb pins s1 σ H1 Q I1 q1
end
end L2
namespace L2
open PySem PySem.Spec PyProof.Rows
def dF (K : W.Frag) (H : Hp) (a : Addr) (xs : List V) : Prop :=
 Rd H a (.lst xs) \/
  ∃ (o : Obj) (its : Array Value) (n : Nat), K.lookup a = some o /\ o.cls = .type "list" /\ o.dict = none /\ o.data = .seq its n /\ its.size <= sizeLine /\ cE xs its.toList
def fK (K : W.Frag) (H : Hp) (a : Addr) (xs : List V) : Prop :=
 Rd H a (.tup xs) \/
  ∃ (o : Obj) (its : Array Value) (n : Nat), K.lookup a = some o /\ o.cls = .type "tuple" /\ o.data = .seq its n /\ its.size <= sizeLine /\ cE xs its.toList
def cW8 : Value -> Option V
 | .none => some .non
 | .bool b => some (.bl b)
 | .int i _ => some (.int i)
 | .str x _ => some (.str x)
 | .bytes b _ => some (.byt b)
 | .float b _ => some (.flt b)
 | .ref a => some (.ref a)
 | .type n => some (.ty n)
 | _ => none
theorem cJ.abs {x : V} {u : Value} (r : cJ x u) : cW8 u = some x := by
 cases x with
 | non => cases r; rfl
 | bl _ => cases r; rfl
 | int _ => obtain ⟨t, rfl⟩ := r; rfl
 | str _ => obtain ⟨t, rfl⟩ := r; rfl
 | byt _ => obtain ⟨t, rfl⟩ := r; rfl
 | flt _ => obtain ⟨t, rfl⟩ := r; rfl
 | ref _ => cases r; rfl
 | ty _ => cases r; rfl
theorem cJ.inj {x y : V} {u : Value} (r : cJ x u) (q : cJ y u) : x = y := Option.some.inj (r.abs.symm.trans q.abs)
theorem cE.inj : ∀ {xs ys : List V} {us : List Value}, cE xs us -> cE ys us -> xs = ys
 | _, _, _, .nil, .nil => rfl
 | _, _, _, .cons r t, .cons r' t' => by rw [r.inj r', cE.inj t t']
section
variable {X : Cx} {pins : List (Addr × Obj)} {σ : St} {H : Hp} {s : Shared} {a : Addr} {xs ys : List V}
theorem dF.of {K : W.Frag} (h : H a = some (.lst xs)) : dF K H a xs := .inl (.inl h)
theorem fK.of {K : W.Frag} (h : H a = some (.tup xs)) : fK K H a xs := .inl (.inl h)
theorem bE.list (I : bE X pins σ H s) (h : dF X.K H a xs) : ∃ its : List Value, cE xs its /\ PlainL s.heap a its.toArray /\ xs.length <= sizeLine := by
 rcases h with h | ⟨o, its, n, hk, hc, hd, hs, hz, r⟩
 ·obtain ⟨z, its, n, r, e⟩ := h.ok I.hok
  exact ⟨its, r, ⟨_, n, e, rfl, rfl, rfl⟩, z⟩
 ·refine ⟨its.toList, r, ⟨o, n, I.kIn a o hk, hc, hd, by simpa using hs⟩, ?_⟩
  have e := r.length
  simp only [Array.length_toList] at e
  omega
theorem bE.tuple (I : bE X pins σ H s) (h : fK X.K H a xs) : ∃ its : List Value, cE xs its /\ IsTup s.heap a its.toArray /\ xs.length <= sizeLine := by
 rcases h with h | ⟨o, its, n, hk, hc, hs, hz, r⟩
 ·obtain ⟨z, its, r, p⟩ := h.ok I.hok
  exact ⟨its, r, p, z⟩
 ·refine ⟨its.toList, r, ⟨o, I.kIn a o hk, hc, n, by simpa using hs⟩, ?_⟩
  have e := r.length
  simp only [Array.length_toList] at e
  omega
theorem bE.list_inj (I : bE X pins σ H s) (h : dF X.K H a xs) (h' : dF X.K H a ys) : xs = ys := by
 obtain ⟨its, r, ⟨o, n, e, _, _, d⟩, _⟩ := I.list h
 obtain ⟨its', r', ⟨o', n', e', _, _, d'⟩, _⟩ := I.list h'
 rw [e] at e'; cases e'
 rw [d] at d'
 injection d' with d1 _
 have : its = its' := by simpa using congrArg Array.toList d1
 subst this
 exact r.inj r'
theorem bE.tuple_inj (I : bE X pins σ H s) (h : fK X.K H a xs) (h' : fK X.K H a ys) : xs = ys := by
 obtain ⟨its, r, ⟨o, e, _, n, d⟩, _⟩ := I.tuple h
 obtain ⟨its', r', ⟨o', e', _, n', d'⟩, _⟩ := I.tuple h'
 rw [e] at e'; cases e'
 rw [d] at d'
 injection d' with d1 _
 have : its = its' := by simpa using congrArg Array.toList d1
 subst this
 exact r.inj r'
end
abbrev Cx.wish (X : Cx) (E : Value -> Shared -> Prop) : Cx := { X with xe := E }
abbrev Cx.nox (X : Cx) : Cx := X.wish fun _ _ => False
theorem Cx.Ok.wish {X : Cx} (ok : X.Ok) (E : Value -> Shared -> Prop) : (X.wish E).Ok :=
 ⟨ok.mod, ok.kind, ok.glob, ok.blt, ok.above, ok.inj, ok.has, ok.cab, ok.hd, ok.frames, ok.stk, ok.exf, ok.bs, ok.bsz, ok.noex, ok.exfs, ok.funs, ok.frf⟩
theorem Cx.Ok.unwish {X : Cx} {E : Value -> Shared -> Prop} (ok : (X.wish E).Ok) : X.Ok :=
 ⟨ok.mod, ok.kind, ok.glob, ok.blt, ok.above, ok.inj, ok.has, ok.cab, ok.hd, ok.frames, ok.stk, ok.exf, ok.bs, ok.bsz, ok.noex, ok.exfs, ok.funs, ok.frf⟩
section
variable {X : Cx} {pins : List (Addr × Obj)} {σ : St} {H : Hp} {s : Shared} {E : Value -> Shared -> Prop}
theorem bE.wish (I : bE X pins σ H s) (E : Value -> Shared -> Prop) : bE (X.wish E) pins σ H s := ⟨I.ok.wish E, I.os, I.bare, I.base, I.loc, I.cell, I.free, I.freeC, I.pin, I.hok, I.len⟩
theorem bE.unwish (I : bE (X.wish E) pins σ H s) : bE X pins σ H s := ⟨I.ok.unwish, I.os, I.bare, I.base, I.loc, I.cell, I.free, I.freeC, I.pin, I.hok, I.len⟩
theorem SP.unwish {D : lK} {f : Flow} {s' : Shared} (h : SP (X.wish E) pins D f s') : SP X pins D f s' := by
 cases f with
 | next => obtain ⟨σ', H', I, q⟩ := h; exact ⟨σ', H', I.unwish, q⟩
 | brk => obtain ⟨σ', H', I, q⟩ := h; exact ⟨σ', H', I.unwish, q⟩
 | cont => obtain ⟨σ', H', I, q⟩ := h; exact ⟨σ', H', I.unwish, q⟩
 | ret u => obtain ⟨v, σ', H', I, r, q⟩ := h; exact ⟨v, σ', H', I.unwish, r, q⟩
theorem jS.nox {st : List Stmt} {t : TS} (h : jS X.nox st t) : jS X st t := fun pins s σ H D I hw =>
 wpAny_mono (h pins s σ H D (I.wish _) hw) (fun _ _ q => q.unwish) fun _ _ z => False.elim z
end
section
variable {X : Cx} {st : Stmt} {rest : List Stmt} {t u : TS} {e : Expr} {te : TE} {pos : Pos}
def bV8 : TS := fun D σ H => D.nx σ H
def cW9 (t u : TS) : TS := fun D σ H => t { D with nx := u D } σ H
theorem cX0 : jS X [] bV8 := fun _ _ σ H _ I h => wpAny_execs_nil ⟨σ, H, I, h⟩
theorem cX1 (h1 : PS X st t) (h2 : jS X rest u) : jS X (st :: rest) (cW9 t u) := by
 intro pins s σ H D I h
 refine wpAny_execs_cons (cC (h1 pins s σ H { D with nx := u D } I h) fun f s1 q => ?_)
 cases f with
 | next =>
  obtain ⟨σ', H', I', q⟩ := q
  exact h2 pins s1 σ' H' D I' q
 | ret v => exact q
 | brk => exact q
 | cont => exact q
theorem cX2 (h1 : PS X st t) : jS X [st] t := by
 intro pins s σ H D I h
 refine wpAny_execs_cons (cC (h1 pins s σ H D I h) fun f s1 q => ?_)
 cases f with
 | next => exact wpAny_execs_nil q
 | ret v => exact q
 | brk => exact q
 | cont => exact q
def cX3 : TS := fun D σ H => D.bk σ H
def cX4 : TS := fun D σ H => D.ct σ H
theorem cX5 : PS X (.Pass pos) bV8 := fun _ _ σ H _ I h => wpAny_Pass ⟨σ, H, I, h⟩
theorem cX6 : PS X (.Break pos) cX3 := fun _ _ σ H _ I h => wpAny_Break ⟨σ, H, I, h⟩
theorem cX7 : PS X (.Continue pos) cX4 := fun _ _ σ H _ I h => wpAny_Continue ⟨σ, H, I, h⟩
theorem bE.quiet {pins : List (Addr × Obj)} {σ : St} {H : Hp} {s : Shared} (I : bE X pins σ H s) : interactive X.env = false := by simp [interactive, I.ok.kind]
def cX8 (te : TE) : TS := fun D σ H => te σ H fun _ H1 => D.nx σ H1
theorem bG8 (he : PE X e te) (hs : swapsWith e none pos.line X.env = pure false := by rfl) : PS X (.Expr e pos) (cX8 te) := by
 intro pins s σ H D I h
 exact wpAny_Expr_any (cC (he pins s σ H _ I h) fun v s1 ⟨x, H1, I1, r1, q1⟩ => ⟨σ, H1, I1, q1⟩) I.quiet hs
def cX9 (te : TE) : TS := fun D σ H => te σ H D.rt
theorem yJ (he : PE X e te) : PS X (.Return (some e) pos) (cX9 te) := by
 intro pins s σ H D I h
 exact wpAny_Return_some (cC (he pins s σ H _ I h) fun v s1 ⟨x, H1, I1, r1, q1⟩ => ⟨x, σ, H1, I1, r1, q1⟩)
def cY0 : TS := fun D _ H => D.rt .non H
theorem cY1 : PS X (.Return none pos) cY0 := fun _ _ σ H _ I h => wpAny_Return_none ⟨.non, σ, H, I, rfl, h⟩
def cY2 (c : TT) (t u : TS) : TS := fun D σ H => c σ H fun b H1 => if b = true then t D σ H1 else u D σ H1
theorem cY3 {c : Expr} {a b : List Stmt} {tc : TT} (hc : PT X c tc) (ha : jS X a t) (hb : jS X b u) : PS X (.If c a b pos) (cY2 tc t u) := by
 intro pins s σ H D I h
 refine wpAny_If (cC (hc pins s σ H _ I h) fun d s1 ⟨H1, I1, q1⟩ => ?_)
 cases d with
 | true => exact ha pins s1 σ H1 D I1 q1
 | false => exact hb pins s1 σ H1 D I1 q1
end
abbrev TG := V -> St -> Hp -> (St -> Hp -> Prop) -> Prop
abbrev pZ := List V -> St -> Hp -> (St -> Hp -> Prop) -> Prop
def PG (X : Cx) (target : Expr) (t : TG) : Prop :=
 ∀ (pins : List (Addr × Obj)) (s : Shared) (σ : St) (H : Hp) (v : V) (u : Value) (Q : St -> Hp -> Prop), bE X pins σ H s -> cJ v u -> t v σ H Q ->
   wpAny (model X.prog X.w) X.A (assign target X.env u) (fun _ s' => ∃ σ' H', bE X pins σ' H' s' /\ Q σ' H') X.xe s
def yK (X : Cx) (ts : List Expr) (t : pZ) : Prop :=
 ∀ (pins : List (Addr × Obj)) (s : Shared) (σ : St) (H : Hp) (vs : List V) (us : List Value) (Q : St -> Hp -> Prop), bE X pins σ H s -> cE vs us -> t vs σ H Q ->
   wpAny (model X.prog X.w) X.A (assignInOrder ((assignEach ts X.env).map (·.2)) us) (fun _ s' => ∃ σ' H', bE X pins σ' H' s' /\ Q σ' H') X.xe s
abbrev TIp := V -> V -> Hp -> VK -> Prop
def PIp (X : Cx) (op : Operator) (t : TIp) : Prop :=
 ∀ (pins : List (Addr × Obj)) (s : Shared) (σ : St) (H : Hp) (x y : V) (v u : Value) (Q : VK), bE X pins σ H s -> cJ x v -> cJ y u -> t x y H Q ->
   wpAny (model X.prog X.w) X.A (inplaceOp op v u) (EP X pins σ Q) X.xe s
section
variable {X : Cx} {pos : Pos}
def kD (i : Nat) : TG := fun v σ H Q => Q (σ.set i (some v)) H
theorem jB {i : Nat} {x : Str} (hN : X.N.Nodup) (hi : X.N[i]? = some x) (hx : Loc X.env.scope x) (hf : X.fn x = true \/ X.env.scope.names.lookup x = some .local := by first | exact .inl rfl | exact .inr rfl | assumption) : PG X (.Name x pos) (kD i) := by
 intro pins s σ H v u Q I r h
 exact wpAny_assign_Name (bG6 I hN hi hx r (fun s' I' => ⟨_, H, I', h⟩) hf)
def rF : pZ := fun vs σ H Q => vs = [] /\ Q σ H
def mC (t : TG) (u : pZ) : pZ := fun vs σ H Q => ∃ v r, vs = v :: r /\ t v σ H fun σ' H' => u r σ' H' Q
theorem bH0 : yK X [] rF := by
 intro pins s σ H vs us Q I r h
 obtain ⟨e, h⟩ := h
 subst e
 cases r
 exact assignInOrder_nil ⟨σ, H, I, h⟩
theorem qA {e : Expr} {es : List Expr} {t : TG} {u : pZ} (h1 : PG X e t) (h2 : yK X es u)
 (hs : (assignEach (e :: es) X.env).map (·.2) = assign e X.env :: (assignEach es X.env).map (·.2) := by rfl) : yK X (e :: es) (mC t u) := by
 intro pins s σ H vs us Q I r h
 obtain ⟨v, vr, e1, h⟩ := h
 subst e1
 cases r with
 | cons r rr =>
  rw [hs]
  refine assignInOrder_cons (cC (h1 pins s σ H _ _ _ I r h) fun _ s1 ⟨σ1, H1, I1, q1⟩ => ?_)
  exact h2 pins s1 σ1 H1 _ _ Q I1 rr q1
def rG (K : W.Frag) (n : Nat) (t : pZ) : TG := fun v σ H Q => ∃ a xs, v = .ref a /\ fK K H a xs /\ xs.length = n /\ t xs σ H Q
theorem bH1 {es : List Expr} {k : Nat} {t : pZ} {n : Nat} (hc : X.calm = true) (h : yK X es t)
 (hn : (assignEach es X.env).length = n := by rfl) (hst : (assignEach es X.env).findIdx? (·.1) = none := by rfl) : PG X (.Tuple es k pos) (rG X.K n t) := by
 intro pins s σ H v u Q I r hw
 obtain ⟨a, xs, e1, hq, hl, hw⟩ := hw
 subst e1
 cases r
 obtain ⟨its, rv, ht, hz⟩ := I.tuple hq
 refine assign_Tuple_tuple (I.ok.hd hc) ht (by simp [hn, <- hl, rv.length]) hst fun h' hx => ?_
 have I1 : bE X pins σ H { s with heap := h' } := I.kept (t' := s.toks) fun b o e => hx b o (Nat.ne_of_lt (Heap.lt_size e)) e
 exact h pins _ σ H xs _ Q I1 (by simpa using rv) hw
def vO (te : TE) (g : TG) : TS := fun D σ H => te σ H fun x H1 => g x σ H1 D.nx
theorem bW0 {tg e : Expr} {te : TE} {g : TG} (he : PE X e te) (hg : PG X tg g) (hs : swapsWithSole [tg] e pos.line X.env = pure false := by rfl) (hw : swappedStores [tg] e X.env = pure none := by rfl)
 (h1 : (assignEach [tg] X.env).map (·.2) = [assign tg X.env] := by rfl) : PS X (.Assign [tg] e pos) (vO te g) := by
 intro pins s σ H D I h
 refine wpAny_Assign_stores (cC (he pins s σ H _ I h) fun v s1 ⟨x, H1, I1, r1, q1⟩ => ?_) hs hw
 rw [h1]
 exact cC (hg pins s1 σ H1 x v _ I1 r1 q1) fun _ s2 q => q
theorem mS {i : Nat} {x : Str} {e : Expr} {te : TE} {pos' : Pos} (hN : X.N.Nodup) (hi : X.N[i]? = some x) (hx : Loc X.env.scope x) (he : PE X e te) (hs : swapsWith e (some (.Name x pos')) pos.line X.env = pure false := by rfl) (hf : X.fn x = true \/ X.env.scope.names.lookup x = some .local := by first | exact .inl rfl | exact .inr rfl | assumption) :
 PS X (.Assign [.Name x pos'] e pos) (vO te (kD i)) := by
 intro pins s σ H D I h
 refine wpAny_Assign_Name (cC (he pins s σ H _ I h) fun v s1 ⟨y, H1, I1, r1, q1⟩ => ?_) hs
 exact bG6 I1 hN hi hx r1 (fun s2 I2 => ⟨_, H1, I2, q1⟩) hf
def cY4 (i : Nat) (te : TE) (ti : TIp) : TS := fun D σ H => ∃ x, σ[i]? = some (some x) /\ te σ H fun y H1 => ti x y H1 fun z H2 => D.nx (σ.set i (some z)) H2
theorem cY5 {i : Nat} {x : Str} {e : Expr} {te : TE} {op : Operator} {ti : TIp} {pos' : Pos} (hN : X.N.Nodup) (hi : X.N[i]? = some x) (hx : Loc X.env.scope x) (he : PE X e te) (ho : PIp X op ti) (hf : X.fn x = true \/ X.env.scope.names.lookup x = some .local := by first | exact .inl rfl | exact .inr rfl | assumption) :
 PS X (.AugAssign (.Name x pos') op e pos) (cY4 i te ti) := by
 intro pins s σ H D I h
 obtain ⟨v, e1, h⟩ := h
 obtain ⟨m, hn, hl⟩ := I.loc
 have vis : Vis X.env.scope x := by rcases hx with k | k; exact .inl k; exact .inr (.inl k)
 obtain ⟨u, r, l⟩ := hl i x v hi e1 vis
 refine wpAny_AugAssign_Name ?_
 have go : wpAny (model X.prog X.w) X.A (eval e X.env) (fun w s₂ => wpAny (model X.prog X.w) X.A (inplaceOp op u w) (fun r s₃ => wpAny (model X.prog X.w) X.A (storeName X.env x r) (fun _ => SP X pins D .next) X.xe s₃) X.xe s₂) X.xe s := by
  refine cC (he pins s σ H _ I h) fun w s1 ⟨y, H1, I1, r1, q1⟩ => ?_
  refine cC (ho pins s1 σ H1 v y u w _ I1 r r1 q1) fun z s2 ⟨zv, H2, I2, r2, q2⟩ => ?_
  exact bG6 I2 hN hi hx r2 (fun s3 I3 => ⟨_, H2, I3, q2⟩) hf
 rcases l with ⟨hk, hm⟩ | ⟨hk, c, hc, hcell⟩
 ·exact wpAny_loadName_local I.ok.kind hk hn hm go
 ·rcases hk with hk | hk
  ·exact wpAny_loadName_cell I.ok.kind hk hc hcell go
  ·rcases hx with k | k
   ·have : X.env.scope.names.lookup x = some .free := hk
    rw [k] at this; cases this
   ·have : X.env.scope.names.lookup x = some .free := hk
    rw [k] at this; cases this
end
section
variable {X : Cx} {pos : Pos}
end
structure It where
 go : Nat -> Hp -> Prop
 yld : Nat -> Hp -> V -> Hp -> Prop
 stop : Nat -> Hp -> Prop
def jC (X : Cx) (pins : List (Addr × Obj)) (H : Hp) (b : Addr) : Prop :=
 H b = none /\ b ≠ X.env.locals /\ b ∉ X.fs /\ (b ∈ X.ex \/ X.s₀.heap.objs.size <= b) /\ (∀ x c, X.env.cells.lookup x = some c -> c ≠ b) /\ ∀ p ∈ X.pn ++ pins, p.1 ≠ b
theorem bE.fpOk {X : Cx} {pins : List (Addr × Obj)} {σ : St} {H H' : Hp} {s : Shared} {b : Addr} (I : bE X pins σ H s) (hb : s.heap.objs.size <= b) (hn : H' b = none) : jC X pins H' b := by
 refine ⟨hn, Nat.ne_of_gt (Nat.lt_of_lt_of_le I.lt hb), I.nofs hb, .inr (Nat.le_trans I.sz hb), fun x c e z => ?_, fun p hp z => ?_⟩
 ·obtain ⟨v, q⟩ := I.cell x c e
  exact absurd (Nat.lt_of_lt_of_le q.lt (by rw [z]; exact hb)) (Nat.lt_irrefl _)
 ·exact absurd (Nat.lt_of_lt_of_le (Heap.lt_size (I.pin p hp).1) (by rw [z]; exact hb)) (Nat.lt_irrefl _)
structure nP (P : Program) (w : World) (K : W.Frag) (tg : Expr) (J : It) (fp : List Addr) (it : Addr) (tn : Nat -> Heap -> Prop) : Prop where
 mem : it ∈ fp
 obj : ∀ i h, tn i h -> ∀ b ∈ fp, ∃ o, h.get? b = some o /\ ∀ v, o.data ≠ .cell v
 keep : ∀ i h h', tn i h -> (∀ b ∈ fp, ∀ o, h.get? b = some o -> h'.get? b = some o) -> tn i h'
 item : ∀ (X : Cx), X.prog = P -> X.w = w -> X.K = K -> X.calm = true -> ∀ (i : Nat) (pins : List (Addr × Obj)) (s : Shared) (σ : St) (H : Hp) (E : Value -> Shared -> Prop), bE X pins σ H s -> (∀ b ∈ fp, jC X pins H b) -> tn i s.heap -> J.go i H ->
  wpAny (model P w) X.A (pyNext (.ref it)) (fun r s1 => ∃ u, r = some u /\
   wpAny (model P w) X.A (letOwnedTupleGo tg (.ref it) u) (fun _ s2 => ∃ x H', bE X pins σ H' s2 /\ cJ x u /\ J.yld i H x H' /\ tn (i + 1) s2.heap /\ ∀ b ∈ fp, H' b = none) E s1) E s
 done : ∀ (X : Cx), X.prog = P -> X.w = w -> X.K = K -> X.calm = true -> ∀ (i : Nat) (pins : List (Addr × Obj)) (s : Shared) (σ : St) (H : Hp) (E : Value -> Shared -> Prop), bE X pins σ H s -> (∀ b ∈ fp, jC X pins H b) -> tn i s.heap -> J.stop i H ->
  wpAny (model P w) X.A (pyNext (.ref it)) (fun r s1 => r = none /\ bE X pins σ H s1) E s
 self : ∀ (A : Around) (i : Nat) (s : Shared) (Q : Value -> Shared -> Prop) (E : Value -> Shared -> Prop), tn i s.heap -> Q (.ref it) s -> wpAny (model P w) A (pyIter (.ref it)) Q E s
abbrev TI := St -> Hp -> (It -> Hp -> Prop) -> Prop
def PIE (X : Cx) (pins : List (Addr × Obj)) (σ : St) (tg : Expr) (R : It -> Hp -> Prop) (itv : Value) (s2 : Shared) : Prop :=
 ∃ (it : Addr) (fp : List Addr) (tn : Nat -> Heap -> Prop) (J : It) (H' : Hp), itv = .ref it /\ bE X pins σ H' s2 /\ nP X.prog X.w X.K tg J fp it tn /\ tn 0 s2.heap /\ (∀ b ∈ fp, jC X pins H' b) /\ R J H'
def PI (X : Cx) (tg iter : Expr) (wi : TI) : Prop :=
 ∀ (pins : List (Addr × Obj)) (s : Shared) (σ : St) (H : Hp) (R : It -> Hp -> Prop), bE X pins σ H s -> wi σ H R ->
   wpAny (model X.prog X.w) X.A (eval iter X.env) (fun v s1 => wpAny (model X.prog X.w) X.A (pyIter v) (PIE X pins σ tg R) X.xe s1) X.xe s
theorem vP {M : Model} {A : Around} {E : Value -> Shared -> Prop} {s : Shared} {tg : Expr} {it : Addr} {u : Value} {o : Obj} {n : String} {vs : Array Value} {Q : Unit -> Shared -> Prop} (ho : s.heap.get? it = some o) (hc : o.cls = .type n) (hd : o.data = .fields vs)
 (hn : ["enumerate", "zip", "dict_itemiterator", "dict_reverseitemiterator", "odict_iterator", "itertools.zip_longest", "itertools.pairwise"].contains n = false) (hQ : Q () s) : wpAny M A (letOwnedTupleGo tg (.ref it) u) Q E s := by
 unfold letOwnedTupleGo
 cases tg <;> first
  | exact wpAny_pure hQ
  | (cases u <;> first
      | exact wpAny_pure hQ
      | (refine wpAny_bind (wpAny_load ho ?_)
         rw [hc, hd]
         show wpAny M A (if (["enumerate", "zip", "dict_itemiterator", "dict_reverseitemiterator", "odict_iterator", "itertools.zip_longest", "itertools.pairwise"].contains n && vs[0]? == some (rawInt _)) = true then _ else _) Q E s
         rw [if_neg (by intro h; rw [hn, Bool.false_and] at h; cases h)]
         exact wpAny_pure hQ))
def Itl (K : W.Frag) (a : Addr) : It :=
 ⟨fun i H => ∃ xs x, dF K H a xs /\ xs[i]? = some x, fun i H x H' => H' = H /\ ∀ xs, dF K H a xs -> xs[i]? = some x, fun i H => ∃ xs, dF K H a xs /\ xs.length <= i⟩
def Itt (K : W.Frag) (a : Addr) : It :=
 ⟨fun i H => ∃ xs x, fK K H a xs /\ xs[i]? = some x, fun i H x H' => H' = H /\ ∀ xs, fK K H a xs -> xs[i]? = some x, fun i H => ∃ xs, fK K H a xs /\ xs.length <= i⟩
def yL (lo : Int) (n : Nat) : It := ⟨fun i _ => i < n, fun i H x H' => H' = H /\ x = .int (lo + i), fun i _ => n <= i⟩
theorem cY6 {P : Program} {w : World} {K : W.Frag} {tg : Expr} (a it : Addr) : nP P w K tg (Itl K a) [it] it (fun i h => h.IsListIter it a i) where
 mem := by simp
 obj := fun i h st b hb => by
  have e : b = it := by simpa using hb
  subst e
  obtain ⟨o, e, c, d⟩ := st
  exact ⟨o, e, fun v z => by rw [d] at z; cases z⟩
 keep := fun i h h' st k => st.at fun o e => k it (by simp) o e
 item := by
  intro X hP hw hK hc i pins s σ H E I hf st hg
  subst hP hw hK
  obtain ⟨xs, x, hq, hx⟩ := hg
  obtain ⟨its, rv, p, hz⟩ := I.list hq
  obtain ⟨u, hu, ru⟩ := rv.get hx
  obtain ⟨f0, f1, f2, f3, f4, f5⟩ := hf it (by simp)
  refine wpAny_pyNext_list_item st p.isList (x := u) (by simpa using hu) fun h' st' sb => ?_
  have I1 : bE X pins σ H { s with heap := h' } := I.turned (t' := s.toks) (fun b o hb e => (sb.2 b hb).trans e) f0 f1 f3 f4 f5
  obtain ⟨o, e, c, d⟩ := id st'
  exact ⟨u, rfl, vP (s := { s with heap := h' }) e c d (by decide) ⟨x, H, I1, ru, ⟨rfl, fun ys hy => by rw [I.list_inj hy hq]; exact hx⟩, st', fun b hb => (hf b hb).1⟩⟩
 done := by
  intro X hP hw hK hc i pins s σ H E I hf st hg
  subst hP hw hK
  obtain ⟨xs, hq, hx⟩ := hg
  obtain ⟨its, rv, p, hz⟩ := I.list hq
  obtain ⟨f0, f1, f2, f3, f4, f5⟩ := hf it (by simp)
  have hl := rv.length
  exact wpAny_pyNext_list_end (I.ok.hd hc) st p.isList (by simp; omega) fun h' eb => ⟨rfl, I.turned (t' := s.toks) (fun b o hb e => eb b o hb e) f0 f1 f3 f4 f5⟩
 self := fun _ _ _ _ _ st h => wpAny_pyIter_listiter st h
theorem cY7 {P : Program} {w : World} {K : W.Frag} {tg : Expr} (a it : Addr) : nP P w K tg (Itt K a) [it] it (fun i h => h.IsTupleIter it a i) where
 mem := by simp
 obj := fun i h st b hb => by
  have e : b = it := by simpa using hb
  subst e
  obtain ⟨o, e, c, d⟩ := st
  exact ⟨o, e, fun v z => by rw [d] at z; cases z⟩
 keep := fun i h h' st k => st.at fun o e => k it (by simp) o e
 item := by
  intro X hP hw hK hc i pins s σ H E I hf st hg
  subst hP hw hK
  obtain ⟨xs, x, hq, hx⟩ := hg
  obtain ⟨its, rv, p, hz⟩ := I.tuple hq
  obtain ⟨u, hu, ru⟩ := rv.get hx
  obtain ⟨f0, f1, f2, f3, f4, f5⟩ := hf it (by simp)
  refine wpAny_pyNext_tuple_item st (show s.heap.IsTuple a its.toArray from p) (x := u) (by simpa using hu) fun h' st' sb => ?_
  have I1 : bE X pins σ H { s with heap := h' } := I.turned (t' := s.toks) (fun b o hb e => (sb.2 b hb).trans e) f0 f1 f3 f4 f5
  obtain ⟨o, e, c, d⟩ := id st'
  exact ⟨u, rfl, vP (s := { s with heap := h' }) e c d (by decide) ⟨x, H, I1, ru, ⟨rfl, fun ys hy => by rw [I.tuple_inj hy hq]; exact hx⟩, st', fun b hb => (hf b hb).1⟩⟩
 done := by
  intro X hP hw hK hc i pins s σ H E I hf st hg
  subst hP hw hK
  obtain ⟨xs, hq, hx⟩ := hg
  obtain ⟨its, rv, p, hz⟩ := I.tuple hq
  obtain ⟨f0, f1, f2, f3, f4, f5⟩ := hf it (by simp)
  have hl := rv.length
  exact wpAny_pyNext_tuple_end (I.ok.hd hc) st (show s.heap.IsTuple a its.toArray from p) (by simp; omega) fun h' eb => ⟨rfl, I.turned (t' := s.toks) (fun b o hb e => eb b o hb e) f0 f1 f3 f4 f5⟩
 self := fun _ _ _ _ _ st h => wpAny_pyIter_tupleiter st h
theorem cY8 {P : Program} {w : World} {K : W.Frag} {tg : Expr} (it : Addr) (lo : Int) (n : Nat) : nP P w K tg (yL lo n) [it] it (fun i h => IsRangeIter h it (lo + (i : Nat) * 1) ((n : Int) - (i : Nat)) 1) where
 mem := by simp
 obj := fun i h st b hb => by
  have e : b = it := by simpa using hb
  subst e
  exact ⟨_, st, fun v z => by
   have z' : Data.fields _ = Data.cell v := z
   cases z'⟩
 keep := fun i h h' st k => k it (by simp) _ st
 item := by
  intro X hP hw hK hc i pins s σ H E I hf st hg
  subst hP hw hK
  obtain ⟨f0, f1, f2, f3, f4, f5⟩ := hf it (by simp)
  have W := Walks.range (prog := X.prog) (w := X.w) (I.ok.hd hc) it lo 1 n
  refine W.item i s _ _ hg st fun v h' tk hv st' kk => ?_
  obtain ⟨t, rfl⟩ := hv
  have I1 : bE X pins σ H { s with heap := h', toks := tk } := I.turned (fun b o hb e => kk b o (by simpa using hb) e) f0 f1 f3 f4 f5
  refine ⟨_, rfl, vP (s := { s with heap := h', toks := tk }) (n := "range_iterator") st' rfl rfl (by decide) ⟨.int (lo + i), H, I1, ⟨t, ?_⟩, ⟨rfl, rfl⟩, st', fun b hb => (hf b hb).1⟩⟩
  rw [Int.mul_one]
 done := by
  intro X hP hw hK hc i pins s σ H E I hf st hg
  subst hP hw hK
  obtain ⟨f0, f1, f2, f3, f4, f5⟩ := hf it (by simp)
  exact wpAny_pyNext_range_end (I.ok.hd hc) st (by have : n <= i := hg; omega) fun h' eb => ⟨rfl, I.turned (t' := s.toks) (fun b o hb e => eb b o hb e) f0 f1 f3 f4 f5⟩
 self := fun _ _ _ _ _ st h => wpAny_pyIter_rangeiter st h
end L2
namespace L2
open PySem PySem.Spec PyProof.Rows
section
variable {X : Cx} {tg : Expr}
theorem cY9 {pins : List (Addr × Obj)} {σ : St} {H : Hp} {s : Shared} {R : It -> Hp -> Prop} {E : Value -> Shared -> Prop} {lo hi : Int} {t u v : Tok} {tk : Nat} (I : bE X pins σ H s) (h1 : -(2 ^ 62) <= lo) (h2 : lo < 2 ^ 62) (h3 : -(2 ^ 62) <= hi) (h4 : hi < 2 ^ 62)
 (q : R (yL lo (hi - lo).toNat) H) : wpAny (model X.prog X.w) X.A (pyIter (.ref s.heap.objs.size)) (PIE X pins σ tg R) E { s with heap := s.heap.push { cls := .type "range", data := .fields #[.int lo t, .int hi u, .int 1 v] }, toks := tk } := by
 refine wpAny_pyIter_range (IsRange.new ..) (small_one h1 h2 h3 h4) ?_
 have I1 : bE X pins σ H { s with heap := s.heap.push { cls := .type "range", data := .fields #[.int lo t, .int hi u, .int 1 v] }, toks := tk } := I.kept fun b o e => Heap.get?_push_of_some _ e
 refine ⟨(s.heap.push { cls := .type "range", data := .fields #[.int lo t, .int hi u, .int 1 v] }).objs.size, [(s.heap.push { cls := .type "range", data := .fields #[.int lo t, .int hi u, .int 1 v] }).objs.size], _, _, H, rfl,
  I1.kept (t' := tk) fun b o e => Heap.get?_push_of_some _ e, cY8 _ lo (hi - lo).toNat, ?_, fun b hb => ?_, q⟩
 ·have e1 : lo + ((0 : Nat) : Int) * 1 = lo := by simp
  have e2 : (((hi - lo).toNat : Nat) : Int) - ((0 : Nat) : Int) = Builtin.Range.rangeSize lo hi 1 := by rw [rangeSize_one]; split <;> omega
  show IsRangeIter _ _ (lo + ((0 : Nat) : Int) * 1) ((((hi - lo).toNat : Nat) : Int) - ((0 : Nat) : Int)) 1
  rw [e1, e2]
  exact Heap.get?_push_size _ rfl
 ·have e : b = (s.heap.push { cls := .type "range", data := .fields #[.int lo t, .int hi u, .int 1 v] }).objs.size := by simpa using hb
  subst e
  exact I1.fpOk (Nat.le_refl _) (I1.hok.fresh (Nat.le_refl _))
def cZ0 (ta : TA) : TI := fun σ H R => ta σ H fun vs H1 => ∃ j : Int, vs = [.int j] /\ -(2 ^ 62) <= j /\ j < 2 ^ 62 /\ R (yL 0 j.toNat) H1
theorem cZ1 {a : Expr} {ta : TA} {p pos : Pos} (hg : Gl X "range") (hm : X.mg "range" = none) (ha : PA X [a] ta) (hs : starEach [a] X.env = [(false, eval a X.env)] := by rfl) : PI X tg (.Call (.Name "range" p) [a] [] pos) (cZ0 ta) := by
 intro pins s σ H R I h
 refine Call_ (rE I hg hm boot_range (PyProof.Rows.callWith_type1 (cC (ha pos pins s σ H _ I h) fun us s1 ⟨vs, H1, I1, r1, q1⟩ => ?_) hs rfl))
 obtain ⟨j, e, q1, q2, q⟩ := q1
 subst e
 cases r1 with
 | cons r rr =>
  cases rr
  obtain ⟨t, rfl⟩ := r
  exact call_range_1 (cY9 I1 bF bF q1 q2 (by simpa using q))
def cZ2 (wi : TI) (g : TG) (tb : TS) : TS := fun D σ H => wi σ H fun J H1 => ∃ W : Nat -> Nat -> St -> Hp -> Prop, (∃ m, W 0 m σ H1) /\ ∀ i m σ H, W i m σ H ->
 (J.stop i H /\ D.nx σ H) \/ (J.go i H /\ ∃ N : St -> Hp -> Prop, (∀ σ' H', N σ' H' -> ∃ m', m' < m /\ W (i + 1) m' σ' H') /\ ∀ x H', J.yld i H x H' -> g x σ H' fun σ2 H2 => tb { D with nx := N, ct := N, bk := D.nx } σ2 H2)
def vQ (fp : List Addr) (h : Heap) : List (Addr × Obj) := fp.filterMap fun b => (h.get? b).map fun o => (b, o)
theorem yM {fp : List Addr} {h : Heap} {b : Addr} {o : Obj} (hb : b ∈ fp) (e : h.get? b = some o) : (b, o) ∈ vQ fp h := List.mem_filterMap.mpr ⟨b, hb, by rw [e]; rfl⟩
theorem cZ3 {fp : List Addr} {h : Heap} {p : Addr × Obj} (hp : p ∈ vQ fp h) : p.1 ∈ fp /\ h.get? p.1 = some p.2 := by
 obtain ⟨b, hb, e⟩ := List.mem_filterMap.mp hp
 cases q : h.get? b with
 | none => rw [q] at e; cases e
 | some o =>
  rw [q] at e
  have e' : (b, o) = p := Option.some.inj e
  subst e'
  exact ⟨hb, q⟩
theorem bE.pinned {pins : List (Addr × Obj)} {σ : St} {H : Hp} {s : Shared} {fp : List Addr} (I : bE X pins σ H s) (hf : ∀ b ∈ fp, jC X pins H b) (ho : ∀ b ∈ fp, ∃ o, s.heap.get? b = some o /\ ∀ v, o.data ≠ .cell v) : bE X (pins ++ vQ fp s.heap) σ H s :=
 I.pins_of fun p hp => (List.mem_append.mp hp).elim (fun z => I.pin p (List.mem_append_right _ z)) fun z => by
  obtain ⟨hb, e⟩ := cZ3 z
  obtain ⟨f0, f1, f2, _⟩ := hf p.1 hb
  obtain ⟨o, e', d⟩ := ho p.1 hb
  rw [e] at e'; cases e'
  exact ⟨e, f0, f1, f2, d⟩
theorem bE.unpinned {pins pl : List (Addr × Obj)} {σ : St} {H : Hp} {s : Shared} (I : bE X (pins ++ pl) σ H s) : bE X pins σ H s := I.pins_of fun p hp => I.pin p (List.mem_append_right _ (List.mem_append_left _ hp))
theorem bW4 {iter : Expr} {body : List Stmt} {wi : TI} {g : TG} {tb : TS} {pos : Pos} (hp : PassesOwn (model X.prog X.w) X.A X.env X.xe) (hc : X.calm = true) (hi : PI X tg iter wi) (hg : PG X tg g) (hb : jS X body tb)
 (hs : ∀ x, foldedSetIterable iter X.env x = pure x := by intro _; rfl) : PS X (.For tg iter body [] pos) (cZ2 wi g tb) := by
 intro pins s σ H D I h
 refine wpAny_For (cC (hi pins s σ H _ I h) fun v s1 h1 => cC h1 fun itv s2 h2 => ?_) hs
 obtain ⟨it, fp, tn, J, H2, e, I2, T, st2, f2, W, ⟨m0, w0⟩, turn⟩ := h2
 subst e
 have stat : ∀ {H' : Hp}, (∀ b ∈ fp, H' b = none) -> ∀ b ∈ fp, jC X pins H' b := fun hn b hb => ⟨hn b hb, (f2 b hb).2⟩
 refine codeAny_forLoop_any (fun n s' => ∃ i σ' H', bE X pins σ' H' s' /\ tn i s'.heap /\ (∀ b ∈ fp, H' b = none) /\ W i n σ' H') ?_ m0 ⟨0, σ, H2, I2, st2, fun b hb => (f2 b hb).1, w0⟩
 rintro n s3 ⟨i, σ3, H3, I3, st3, fr3, w3⟩
 rcases turn i n σ3 H3 w3 with ⟨stop, qn⟩ | ⟨go, N, hN, step⟩
 ·refine wpAny_passesOwn hp (cC (T.done X rfl rfl rfl hc i pins s3 σ3 H3 X.xe I3 (stat fr3) st3 stop) fun r s4 ⟨hr, I4⟩ => ?_)
  subst hr
  exact wpAny_execs_nil ⟨σ3, H3, I4, qn⟩
 ·refine wpAny_passesOwn hp (cC (T.item X rfl rfl rfl hc i pins s3 σ3 H3 X.xe I3 (stat fr3) st3 go) fun r s4 ⟨u, hr, h4⟩ => ?_)
  subst hr
  refine wpAny_passesOwn hp (cC h4 fun _ s5 ⟨x, H5, I5, r5, y5, st5, fr5⟩ => ?_)
  have I5' := I5.pinned (stat fr5) (T.obj _ _ st5)
  refine wpAny_passesOwn hp (cC (hg _ s5 σ3 H5 x u _ I5' r5 (step x H5 y5)) fun _ s6 ⟨σ6, H6, I6, q6⟩ => ?_)
  refine wpAny_passesOwn hp (cC (hb _ s6 σ6 H6 _ I6 q6) fun f s7 q7 => ?_)
  have again : ∀ {σ7 : St} {H7 : Hp}, bE X (pins ++ vQ fp s5.heap) σ7 H7 s7 -> N σ7 H7 -> ∃ m, m < n /\ ∃ i σ' H', bE X pins σ' H' s7 /\ tn i s7.heap /\ (∀ b ∈ fp, H' b = none) /\ W i m σ' H' := fun {σ7 H7} I7 n7 => by
   obtain ⟨m', hm, w7⟩ := hN σ7 H7 n7
   refine ⟨m', hm, i + 1, σ7, H7, I7.unpinned, T.keep _ _ _ st5 fun b hb o e => (I7.pin (b, o) (List.mem_append_right _ (List.mem_append_right _ (yM hb e)))).1, fun b hb => ?_, w7⟩
   obtain ⟨o, e, d⟩ := T.obj _ _ st5 b hb
   exact (I7.pin (b, o) (List.mem_append_right _ (List.mem_append_right _ (yM hb e)))).2.1
  cases f with
  | next => obtain ⟨σ7, H7, I7, n7⟩ := q7; exact again I7 n7
  | cont => obtain ⟨σ7, H7, I7, n7⟩ := q7; exact again I7 n7
  | brk => obtain ⟨σ7, H7, I7, q7⟩ := q7; exact ⟨σ7, H7, I7.unpinned, q7⟩
  | ret v => obtain ⟨x7, σ7, H7, I7, r7, q7⟩ := q7; exact ⟨x7, σ7, H7, I7.unpinned, r7, q7⟩
end
end L2
namespace L2
open PySem PySem.Spec PyProof.Rows
abbrev R2 := V -> V -> Hp -> VK -> Prop
def cI (X : Cx) (f : Value -> Value -> Sem Value) (r : R2) : Prop :=
 ∀ (pins : List (Addr × Obj)) (s : Shared) (σ : St) (H : Hp) (x y : V) (v u : Value) (Q : VK), bE X pins σ H s -> cJ x v -> cJ y u -> r x y H Q ->
   wpAny (model X.prog X.w) X.A (f v u) (EP X pins σ Q) X.xe s
def vR (X : Cx) (f : Value -> Sem Value) (r : V -> Hp -> VK -> Prop) : Prop :=
 ∀ (pins : List (Addr × Obj)) (s : Shared) (σ : St) (H : Hp) (x : V) (v : Value) (Q : VK), bE X pins σ H s -> cJ x v -> r x H Q ->
   wpAny (model X.prog X.w) X.A (f v) (EP X pins σ Q) X.xe s
def fG (X : Cx) (f : Value) (r : List V -> Hp -> VK -> Prop) : Prop :=
 ∀ (pins : List (Addr × Obj)) (s : Shared) (σ : St) (H : Hp) (xs : List V) (us : List Value) (Q : VK), bE X pins σ H s -> cE xs us -> r xs H Q ->
   wpAny (model X.prog X.w) X.A (call f us) (EP X pins σ Q) X.xe s
def cZ4 (X : Cx) (r : V -> Hp -> (Bool -> Hp -> Prop) -> Prop) : Prop :=
 ∀ (pins : List (Addr × Obj)) (s : Shared) (σ : St) (H : Hp) (x : V) (v : Value) (Q : Bool -> Hp -> Prop), bE X pins σ H s -> cJ x v -> r x H Q ->
   wpAny (model X.prog X.w) X.A (truthy v) (TP X pins σ Q) X.xe s
def vS (r : R2) (ta tb : TE) : TE := fun σ H Q => ta σ H fun x H1 => tb σ H1 fun y H2 => r x y H2 Q
def tUn (r : V -> Hp -> VK -> Prop) (ta : TE) : TE := fun σ H Q => ta σ H fun x H1 => r x H1 Q
def rI (C : Int -> Int -> Prop) (g : Int -> Int -> V) : R2 := fun x y H Q => ∃ i j, x = .int i /\ y = .int j /\ C i j /\ Q (g i j) H
def mU (g : Int -> Int -> V) : R2 := fun x y H Q => ∃ i j, x = .int i /\ y = .int j /\ Q (g i j) H
def rU (g : Int -> V) : V -> Hp -> VK -> Prop := fun x H Q => ∃ i, x = .int i /\ Q (g i) H
section
variable {X : Cx} {a b c : Expr} {ta tb tc : TE} {pos : Pos}
theorem bH2 (ha : PE X a ta) (hb : PE X b tb) {pins : List (Addr × Obj)} {s : Shared} {σ : St} {H : Hp} {R : V -> V -> Hp -> Prop} (I : bE X pins σ H s)
 (h : ta σ H fun x H1 => tb σ H1 fun y H2 => R x y H2) {Q : Value -> Shared -> Prop} {f : Value -> Value -> Sem Value}
 (hf : ∀ v u s2 x y H2, bE X pins σ H2 s2 -> cJ x v -> cJ y u -> R x y H2 -> wpAny (model X.prog X.w) X.A (f v u) Q X.xe s2) :
 wpAny (model X.prog X.w) X.A (eval a X.env) (fun v s₁ => wpAny (model X.prog X.w) X.A (eval b X.env) (fun u s₂ => wpAny (model X.prog X.w) X.A (f v u) Q X.xe s₂) X.xe s₁) X.xe s := by
 refine cC (ha pins s σ H _ I h) fun v s1 ⟨x, H1, I1, r1, q1⟩ => ?_
 refine cC (hb pins s1 σ H1 _ I1 q1) fun u s2 ⟨y, H2, I2, r2, q2⟩ => ?_
 exact hf v u s2 x y H2 I2 r1 r2 q2
theorem bW5 {op : Operator} {r : R2} (ho : cI X (binaryOp op) r) (ha : PE X a ta) (hb : PE X b tb) : PE X (.BinOp a op b pos) (vS r ta tb) := by
 intro pins s σ H Q I h
 exact wpAny_BinOp (bH2 ha hb I h fun v u s2 x y H2 I2 rx ry q => ho pins s2 σ H2 x y v u Q I2 rx ry q)
theorem cZ6 {op : UnaryOp} {r : V -> Hp -> VK -> Prop} (ho : vR X (unaryOp op) r) (ha : PE X a ta) : PE X (.UnaryOp op a pos) (tUn r ta) := by
 intro pins s σ H Q I h
 exact UnaryOp_ (cC (ha pins s σ H _ I h) fun v s1 ⟨x, H1, I1, r1, q1⟩ => ho pins s1 σ H1 x v Q I1 r1 q1)
theorem yN {f : Value -> Value -> Sem Value} {C : Int -> Int -> Prop} {g : Int -> Int -> Int}
 (rule : ∀ (i j : Int) (t u : Tok) (s : Shared) (Q : Value -> Shared -> Prop) (E : Value -> Shared -> Prop), C i j -> Q (.int (g i j) s.toks) { s with toks := s.toks + 1 } -> wpAny (model X.prog X.w) X.A (f (.int i t) (.int j u)) Q E s) :
 cI X f (rI C fun i j => .int (g i j)) := by
 intro pins s σ H x y v u Q I rx ry h
 obtain ⟨i, j, rfl, rfl, hc, q⟩ := h
 obtain ⟨t, rfl⟩ := rx
 obtain ⟨t', rfl⟩ := ry
 exact rule i j t t' s _ _ hc ⟨.int (g i j), H, I.tok _, ⟨_, rfl⟩, q⟩
theorem bH3 {f : Value -> Value -> Sem Value} {g : Int -> Int -> Int}
 (rule : ∀ (i j : Int) (t u : Tok) (s : Shared) (Q : Value -> Shared -> Prop) (E : Value -> Shared -> Prop), Q (.int (g i j) s.toks) { s with toks := s.toks + 1 } -> wpAny (model X.prog X.w) X.A (f (.int i t) (.int j u)) Q E s) :
 cI X f (mU fun i j => .int (g i j)) := by
 intro pins s σ H x y v u Q I rx ry h
 obtain ⟨i, j, rfl, rfl, q⟩ := h
 obtain ⟨t, rfl⟩ := rx
 obtain ⟨t', rfl⟩ := ry
 exact rule i j t t' s _ _ ⟨.int (g i j), H, I.tok _, ⟨_, rfl⟩, q⟩
theorem yO {f : Value -> Value -> Sem Value} {g : Int -> Int -> Bool}
 (rule : ∀ (i j : Int) (t u : Tok) (s : Shared) (Q : Value -> Shared -> Prop) (E : Value -> Shared -> Prop), Q (.bool (g i j)) s -> wpAny (model X.prog X.w) X.A (f (.int i t) (.int j u)) Q E s) :
 cI X f (mU fun i j => .bl (g i j)) := by
 intro pins s σ H x y v u Q I rx ry h
 obtain ⟨i, j, rfl, rfl, q⟩ := h
 obtain ⟨t, rfl⟩ := rx
 obtain ⟨t', rfl⟩ := ry
 exact rule i j t t' s _ _ ⟨.bl (g i j), H, I, rfl, q⟩
def cZ7 (i j : Int) : Prop := 0 < j /\ j < 1073741824
def cZ8 (i j : Int) : Prop := 0 <= j /\ j <= 1000000 /\ i.natAbs < 2 ^ 64
def bH4 (i j : Int) : Prop := (-(2 ^ 64) < i /\ i < 2 ^ 64) \/ (-(2 ^ 64) < j /\ j < 2 ^ 64)
theorem bH4.ok {i j : Int} (h : bH4 i j) : IntMulOk i j := by
 rcases h with ⟨h1, h2⟩ | ⟨h1, h2⟩
 ·exact .of_left (intBits_le_64 h1 h2)
 ·exact .of_right (intBits_le_64 h1 h2)
theorem cZ9 : cI X (binaryOp .Add) (mU fun i j => .int (i + j)) := bH3 fun _ _ _ _ _ _ _ q => add_int q
theorem dA0 : cI X (binaryOp .Sub) (mU fun i j => .int (i - j)) := bH3 fun _ _ _ _ _ _ _ q => sub_int q
theorem dA1 : cI X (binaryOp .Mult) (rI bH4 fun i j => .int (i * j)) := yN fun _ _ _ _ _ _ _ hc q => mul_int q hc.ok
theorem dA2 : cI X (binaryOp .FloorDiv) (rI cZ7 fun i j => .int (i / j)) := yN fun i j _ _ _ _ _ hc q => by
 have h1 : (0 : Int) < j := hc.1
 have h2 : j < 1073741824 := hc.2
 exact floordiv_int bF (by rw [Int.fdiv_eq_ediv_of_nonneg i bF]; exact q) (.inl (PyProof.noPylong_small bF))
theorem dA3 : cI X (binaryOp .Mod) (rI (fun _ j => 0 < j) fun i j => .int (i % j)) := yN fun i j _ _ _ _ _ hc q => by
 have h1 : (0 : Int) < j := hc
 exact mod_int' bF (by rw [Int.fmod_eq_emod_of_nonneg i bF]; exact q)
theorem dA4 : cI X (binaryOp .Pow) (rI cZ8 fun i j => .int (i ^ j.toNat)) := yN fun _ _ _ _ _ _ _ hc q => pow_int_small hc.1 hc.2.1 hc.2.2 q
theorem dA5 : cI X (inplaceOp .Add) (mU fun i j => .int (i + j)) := bH3 fun _ _ _ _ _ _ _ q => iadd_int q
theorem unI {f : Value -> Sem Value} {g : Int -> Int}
 (rule : ∀ (i : Int) (t : Tok) (s : Shared) (Q : Value -> Shared -> Prop) (E : Value -> Shared -> Prop), Q (.int (g i) s.toks) { s with toks := s.toks + 1 } -> wpAny (model X.prog X.w) X.A (f (.int i t)) Q E s) :
 vR X f (rU fun i => .int (g i)) := by
 intro pins s σ H x v Q I rx h
 obtain ⟨i, rfl, q⟩ := h
 obtain ⟨t, rfl⟩ := rx
 exact rule i t s _ _ ⟨.int (g i), H, I.tok _, ⟨_, rfl⟩, q⟩
theorem dA7 : vR X (unaryOp .USub) (rU fun i => .int (-i)) := unI fun _ _ _ _ _ q => neg_int q
end
def dA8 : V -> V -> Bool
 | .non, .non => true | .non, .int _ => true | .int _, .non => true | .non, .bl _ => true | .bl _, .non => true | .non, .str _ => true | .str _, .non => true
 | .int _, .int _ => true | .bl _, .bl _ => true | .str _, .str _ => true | .byt _, .byt _ => true
 | .int _, .str _ => true | .str _, .int _ => true | .bl _, .str _ => true | .str _, .bl _ => true
 | _, _ => false
def rNe : R2 := fun x y H Q => dA8 x y = true /\ Q (.bl (!decide (x = y))) H
theorem dB0 {i j : Int} : decide (V.int i = V.int j) = (i == j) := by
 rw [Bool.eq_iff_iff]
 simp
theorem dB1 {i j : Bool} : decide (V.bl i = V.bl j) = (i == j) := by
 rw [Bool.eq_iff_iff]
 simp
theorem dB2 {i j : Str} : decide (V.str i = V.str j) = (i == j) := by
 rw [Bool.eq_iff_iff]
 simp
theorem dB3 {i j : Array UInt8} : decide (V.byt i = V.byt j) = (i.toList == j.toList) := by
 rw [Bool.eq_iff_iff]
 cases i
 cases j
 simp
section
variable {X : Cx} {a b c : Expr} {ta tb tc : TE} {pos : Pos}
theorem gZ {pins : List (Addr × Obj)} {σ : St} {H : Hp} {s : Shared} {Q : VK} {k k' : Bool} (I : bE X pins σ H s) (q : Q (.bl k) H) (e : k = k') : EP X pins σ Q (.bool k') s := by
 subst e
 exact ⟨.bl k, H, I, rfl, q⟩
theorem bW6 : cI X (compareOp .NotEq) rNe := by
 intro pins s σ H x y v u Q I rx ry h
 obtain ⟨hs, q⟩ := h
 cases x with
 | non =>
  cases rx
  cases y with
  | non => cases ry; exact PySem.EqNone.ne_none_none (gZ I q (by simp))
  | bl j => cases ry; exact PySem.EqNone.ne_none_bool (gZ I q (by simp))
  | int j => obtain ⟨t', rfl⟩ := ry; exact PySem.EqNone.ne_none_int (gZ I q (by simp))
  | str j => obtain ⟨t', rfl⟩ := ry; exact PySem.EqNone.ne_none_str (gZ I q (by simp))
  | _ => exact absurd (show false = true from hs) Bool.false_ne_true
 | bl i =>
  cases rx
  cases y with
  | non => cases ry; exact PySem.EqNone.ne_bool_none (gZ I q (by simp))
  | bl j => cases ry; exact ne_bool (gZ I q (congrArg not dB1))
  | str j => obtain ⟨t', rfl⟩ := ry; exact PySem.EqMixed.ne_bool_str (gZ I q (by simp))
  | _ => exact absurd (show false = true from hs) Bool.false_ne_true
 | int i =>
  obtain ⟨t, rfl⟩ := rx
  cases y with
  | non => cases ry; exact PySem.EqNone.ne_int_none (gZ I q (by simp))
  | int j => obtain ⟨t', rfl⟩ := ry; exact ne_int (gZ I q (congrArg not dB0))
  | str j => obtain ⟨t', rfl⟩ := ry; exact PySem.EqMixed.ne_int_str (gZ I q (by simp))
  | _ => exact absurd (show false = true from hs) Bool.false_ne_true
 | str i =>
  obtain ⟨t, rfl⟩ := rx
  cases y with
  | non => cases ry; exact PySem.EqNone.ne_str_none (gZ I q (by simp))
  | bl j => cases ry; exact PySem.EqMixed.ne_str_bool (gZ I q (by simp))
  | int j => obtain ⟨t', rfl⟩ := ry; exact PySem.EqMixed.ne_str_int (gZ I q (by simp))
  | str j => obtain ⟨t', rfl⟩ := ry; exact ne_str (gZ I q (congrArg not dB2))
  | _ => exact absurd (show false = true from hs) Bool.false_ne_true
 | byt i =>
  obtain ⟨t, rfl⟩ := rx
  cases y with
  | byt j => obtain ⟨t', rfl⟩ := ry; exact W.ne_bytes (gZ I q (congrArg not dB3))
  | _ => exact absurd (show false = true from hs) Bool.false_ne_true
 | _ => cases y <;> exact absurd (show false = true from hs) Bool.false_ne_true
theorem dB4 : cI X (compareOp .Lt) (mU fun i j => .bl (decide (i < j))) := yO fun _ _ _ _ _ _ _ q => lt_int q
theorem dB5 : cI X (compareOp .LtE) (mU fun i j => .bl (decide (i <= j))) := yO fun _ _ _ _ _ _ _ q => le_int q
theorem dB6 : cI X (compareOp .Gt) (mU fun i j => .bl (decide (j < i))) := yO fun _ _ _ _ _ _ _ q => gt_int q
theorem dB7 : cI X (compareOp .GtE) (mU fun i j => .bl (decide (j <= i))) := yO fun _ _ _ _ _ _ _ q => ge_int q
theorem dB8 : cI X (compareOp .Lt) (fun x y H Q => ∃ i j, x = .str i /\ y = .str j /\ Q (.bl (decide (i.cps.toList < j.cps.toList))) H) := by
 intro pins s σ H x y v u Q I rx ry h
 obtain ⟨i, j, rfl, rfl, q⟩ := h
 obtain ⟨t, rfl⟩ := rx
 obtain ⟨t', rfl⟩ := ry
 exact lt_str (gZ I q rfl)
theorem dB9 : cI X (compareOp .Is) (fun x y H Q => y = .non /\ Q (.bl (decide (x = .non))) H) := by
 intro pins s σ H x y v u Q I rx ry h
 obtain ⟨rfl, q⟩ := h
 cases ry
 refine is_none_gen (gZ I q ?_)
 cases x <;> first
  | (cases rx; rfl)
  | (obtain ⟨t, rfl⟩ := rx; rfl)
theorem dC0 : cI X (compareOp .IsNot) (fun x y H Q => y = .non /\ Q (.bl (!decide (x = .non))) H) := by
 intro pins s σ H x y v u Q I rx ry h
 obtain ⟨rfl, q⟩ := h
 cases ry
 refine isnot_none_gen (gZ I q ?_)
 cases x <;> first
  | (cases rx; rfl)
  | (obtain ⟨t, rfl⟩ := rx; rfl)
theorem kE (b : Expr) {op : CmpOp} (h : op ≠ .In := by decide) (h2 : op ≠ .NotIn := by decide) : behindInMarks op b = false := by
 have e1 : (op == CmpOp.In) = false := by cases op <;> first | rfl | exact absurd rfl h
 have e2 : (op == CmpOp.NotIn) = false := by cases op <;> first | rfl | exact absurd rfl h2
 cases b <;> simp [behindInMarks, e1, e2]
theorem bW7 {op : CmpOp} {r : R2} (ho : cI X (compareOp op) r) (ha : PE X a ta) (hb : PE X b tb) (hm : behindInMarks op b = false) : PE X (.Compare a [op] [b] pos) (vS r ta tb) := by
 intro pins s σ H Q I h
 exact wpAny_Compare1 (bH2 ha hb I h fun v u s2 x y H2 I2 rx ry q => ho pins s2 σ H2 x y v u Q I2 rx ry q) hm
def bW8 (t : TE) : TT := fun σ H Q => t σ H fun x H' => ∃ k, x = .bl k /\ Q k H'
theorem bW9 {op : CmpOp} {r : R2} (ho : cI X (compareOp op) r) (ha : PE X a ta) (hb : PE X b tb) (hm : behindInMarks op b = false) : PT X (.Compare a [op] [b] pos) (bW8 (vS r ta tb)) := by
 intro pins s σ H Q I h
 refine wpAny_isTrue_Compare1 (cC (ha pins s σ H _ I h) fun v s1 ⟨x, H1, I1, r1, q1⟩ => cC (hb pins s1 σ H1 _ I1 q1) fun u s2 ⟨y, H2, I2, r2, q2⟩ =>
  cC (ho pins s2 σ H2 x y v u _ I2 r1 r2 q2) fun c s3 ⟨z, H3, I3, r3, k, e, q3⟩ => ?_) hm
 subst e
 cases r3
 exact wpAny_truthy_bool ⟨H3, I3, q3⟩
def bH5 (r r' : R2) (ta tb tc : TE) : TE := fun σ H Q => ta σ H fun x H1 => tb σ H1 fun y H2 => r x y H2 fun z H3 => ∃ k, z = .bl k /\
 (if k = true then tc σ H3 fun w' H4 => r' y w' H4 Q else Q (.bl false) H3)
theorem dC1 {op op' : CmpOp} {r r' : R2} (ho : cI X (compareOp op) r) (ho' : cI X (compareOp op') r') (ha : PE X a ta) (hb : PE X b tb) (hc : PE X c tc)
 (hm : lastMarks [op, op'] [b, c] = false := by with_unfolding_all rfl) : PE X (.Compare a [op, op'] [b, c] pos) (bH5 r r' ta tb tc) := by
 intro pins s σ H Q I h
 refine Compare_chain (cC (ha pins s σ H _ I h) fun v s1 ⟨x, H1, I1, r1, q1⟩ => chain_link (cC (hb pins s1 σ H1 _ I1 q1) fun u s2 ⟨y, H2, I2, r2, q2⟩ =>
  cC (ho pins s2 σ H2 x y v u _ I2 r1 r2 q2) fun d s3 ⟨z, H3, I3, r3, k, e, q3⟩ => ?_)) hm
 subst e
 cases r3
 refine wpAny_truthy_bool ?_
 cases k with
 | false => exact ite_ff ⟨.bl false, H3, I3, rfl, q3⟩
 | true => exact ite_tt (chain_last (cC (hc pins s3 σ H3 _ I3 q3) fun w' s4 ⟨z', H4, I4, r4, q4⟩ => ho' pins s4 σ H4 y z' u w' Q I4 r2 r4 q4))
theorem dC2 {op op' : CmpOp} {r r' : R2} (ho : cI X (compareOp op) r) (ho' : cI X (compareOp op') r') (ha : PE X a ta) (hb : PE X b tb) (hc : PE X c tc)
 (hm : lastMarks [op, op'] [b, c] = false := by with_unfolding_all rfl) : PT X (.Compare a [op, op'] [b, c] pos) (bW8 (bH5 r r' ta tb tc)) := by
 intro pins s σ H Q I h
 refine isTrue_chain (cC (ha pins s σ H _ I h) fun v s1 ⟨x, H1, I1, r1, q1⟩ => test_link (cC (hb pins s1 σ H1 _ I1 q1) fun u s2 ⟨y, H2, I2, r2, q2⟩ =>
  cC (ho pins s2 σ H2 x y v u _ I2 r1 r2 q2) fun d s3 ⟨z, H3, I3, r3, k, e, q3⟩ => ?_)) hm
 subst e
 cases r3
 refine wpAny_truthy_bool ?_
 cases k with
 | false =>
  obtain ⟨k', e', q'⟩ := q3
  cases e'
  exact ite_ff ⟨H3, I3, q'⟩
 | true =>
  refine ite_tt (test_last (cC (hc pins s3 σ H3 _ I3 q3) fun w' s4 ⟨z', H4, I4, r4, q4⟩ => cC (ho' pins s4 σ H4 y z' u w' _ I4 r2 r4 q4) fun d' s5 ⟨z2, H5, I5, r5, k2, e2, q5⟩ => ?_))
  subst e2
  cases r5
  exact wpAny_truthy_bool ⟨H5, I5, q5⟩
def bH6 (K : W.Frag) (x : V) (H : Hp) (k : Bool) : Prop :=
 match x with
 | .non => k = false
 | .bl b => k = b
 | .int i => k = (i != 0)
 | .str y => y.length <= sizeLine /\ k = ((y.length : Int) != 0)
 | .byt y => y.size <= sizeLine /\ k = ((y.size : Int) != 0)
 | .ref p => (∃ xs, dF K H p xs /\ k = !xs.isEmpty) \/ (∃ xs, fK K H p xs /\ k = !xs.isEmpty) \/ ∃ kvs, H p = some (.dK kvs) /\ k = !kvs.isEmpty
 | _ => False
theorem dC3 {κ : Type} {kvs : List (κ × V)} {vs : List (κ × Value)} (r : KV kvs vs) : (!vs.isEmpty) = !kvs.isEmpty := by
 cases r <;> rfl
theorem bX0 {xs : List V} {its : List Value} (r : cE xs its) : (!its.toArray.isEmpty) = !xs.isEmpty := by
 cases r <;> simp
theorem rH : (sizeLine : Nat) < 2 ^ 63 := by rw [sizeLine_eq]; decide
theorem dC4 : cZ4 X (fun x H Q => ∃ k, bH6 X.K x H k /\ Q k H) := by
 intro pins s σ H x v Q I rx h
 obtain ⟨k, e, q⟩ := h
 have hl := rH
 have hs : sizeLine = 16777216 := sizeLine_eq
 cases x with
 | non =>
  cases rx
  have e' : k = false := e
  subst e'
  exact truthy_none ⟨H, I, q⟩
 | bl b =>
  cases rx
  have e' : k = b := e
  subst e'
  exact wpAny_truthy_bool ⟨H, I, q⟩
 | int i =>
  obtain ⟨t, rfl⟩ := rx
  have e' : k = (i != 0) := e
  subst e'
  exact PySem.P.truthy_int ⟨H, I, q⟩
 | str y =>
  obtain ⟨t, rfl⟩ := rx
  obtain ⟨hy, e'⟩ : y.length <= sizeLine /\ k = ((y.length : Int) != 0) := e
  subst e'
  exact PySem.P.truthy_str bF ⟨H, I.tok _, q⟩
 | byt y =>
  obtain ⟨t, rfl⟩ := rx
  obtain ⟨hy, e'⟩ : y.size <= sizeLine /\ k = ((y.size : Int) != 0) := e
  subst e'
  exact W.truthy_bytes bF ⟨H, I.tok _, q⟩
 | ref p =>
  cases rx
  have e' : (∃ xs, dF X.K H p xs /\ k = !xs.isEmpty) \/ (∃ xs, fK X.K H p xs /\ k = !xs.isEmpty) \/ ∃ kvs, H p = some (.dK kvs) /\ k = !kvs.isEmpty := e
  rcases e' with ⟨xs, hx, e'⟩ | ⟨xs, hx, e'⟩ | ⟨kvs, hx, e'⟩
  ·subst e'
   obtain ⟨its, r, pl, hz⟩ := I.list hx
   have hlen := r.length
   exact wpAny_truthy_list pl.isList (by simp only [List.size_toArray]; omega) ⟨H, I.tok _, by rw [bX0 r]; exact q⟩
  ·subst e'
   obtain ⟨its, r, pl, hz⟩ := I.tuple hx
   have hlen := r.length
   exact truthy_tuple pl (by simp only [List.size_toArray]; omega) ⟨H, I.tok _, by rw [bX0 r]; exact q⟩
  ·subst e'
   obtain ⟨hz, hS, vs, r, m⟩ : kvs.length <= sizeLine /\ (p == sysModules) = false /\ ∃ vs, KV kvs vs /\ s.heap.DictOf (fW X.prog X.w) p vs := I.hok p _ hx
   have hlen : kvs.length = vs.length := Paired.length r
   exact wpAny_truthy_dict hS m bF ⟨H, I.tok _, by rw [dC3 r]; exact q⟩
 | _ => exact (show False from e).elim
theorem dC5 (ha : PE X a ta) (he : ∀ whole, isTrue a X.env whole = (do let v <- whole; standAt a.pos; holding [v] (truthy v))) :
 PT X a (fun σ H Q => ta σ H fun x H' => ∃ k, bH6 X.K x H' k /\ Q k H') := by
 intro pins s σ H Q I h
 exact isTrue_plain (cC (ha pins s σ H _ I h) fun v s1 ⟨x, H1, I1, r1, q1⟩ => dC4 pins s1 σ H1 x v Q I1 r1 q1) (he _)
theorem dC6 : cI X (binaryOp .Add) (fun x y H Q => ∃ i j, x = .str i /\ y = .str j /\ i.length + j.length <= sizeLine /\ Q (.str (i ++ j)) H) := by
 intro pins s σ H x y v u Q I rx ry h
 obtain ⟨i, j, rfl, rfl, hz, q⟩ := h
 obtain ⟨t, rfl⟩ := rx
 obtain ⟨t', rfl⟩ := ry
 exact add_str (fun t' tk => ⟨.str (i ++ j), H, I.tok _, ⟨_, rfl⟩, q⟩) hz
theorem kN {x : V} {us : List Value} (r : cE [x] us) : ∃ u, us = [u] /\ cJ x u := by
 cases r with
 | cons r1 r2 => cases r2; exact ⟨_, rfl, r1⟩
theorem bH7 {x y : V} {us : List Value} (r : cE [x, y] us) : ∃ u w', us = [u, w'] /\ cJ x u /\ cJ y w' := by
 cases r with
 | cons r1 r2 =>
  cases r2 with
  | cons r3 r4 => cases r4; exact ⟨_, _, rfl, r1, r3⟩
theorem dC7 : fG X (.builtin "abs") (fun xs H Q => ∃ i, xs = [.int i] /\ Q (.int (if i < 0 then -i else i)) H) := by
 intro pins s σ H xs us Q I r h
 obtain ⟨i, rfl, q⟩ := h
 obtain ⟨u, rfl, t, rfl⟩ := kN r
 exact call_abs_int fun u tk => ⟨.int (if i < 0 then -i else i), H, I.tok _, ⟨_, rfl⟩, q⟩
theorem dC8 (hc : X.calm = true) : fG X (.builtin "max") (fun xs H Q => ∃ i j, xs = [.int i, .int j] /\ Q (.int (if j > i then j else i)) H) := by
 intro pins s σ H xs us Q I r h
 obtain ⟨i, j, rfl, q⟩ := h
 obtain ⟨u, w', rfl, ⟨t, rfl⟩, ⟨t', rfl⟩⟩ := bH7 r
 refine max_two_ints (I.ok.hd hc) fun h' tk k => ⟨_, H, I.kept k, ?_, q⟩
 by_cases hj : j > i
 ·rw [if_pos hj, if_pos hj]; exact ⟨_, rfl⟩
 ·rw [if_neg hj, if_neg hj]; exact ⟨_, rfl⟩
theorem dC9 (hc : X.calm = true) : fG X (.builtin "min") (fun xs H Q => ∃ i j, xs = [.int i, .int j] /\ Q (.int (if j < i then j else i)) H) := by
 intro pins s σ H xs us Q I r h
 obtain ⟨i, j, rfl, q⟩ := h
 obtain ⟨u, w', rfl, ⟨t, rfl⟩, ⟨t', rfl⟩⟩ := bH7 r
 refine min_two_ints (I.ok.hd hc) fun h' tk k => ⟨_, H, I.kept k, ?_, q⟩
 by_cases hj : j < i
 ·rw [if_pos hj, if_pos hj]; exact ⟨_, rfl⟩
 ·rw [if_neg hj, if_neg hj]; exact ⟨_, rfl⟩
theorem bX1 : fG X (.type "int") (fun xs H Q => (∃ i, xs = [.int i] /\ Q (.int i) H) \/ ∃ k, xs = [.bl k] /\ Q (.int (if k then 1 else 0)) H) := by
 intro pins s σ H xs us Q I r h
 rcases h with ⟨i, rfl, q⟩ | ⟨k, rfl, q⟩
 ·obtain ⟨u, rfl, t, rfl⟩ := kN r
  exact call_int_int ⟨.int i, H, I, ⟨_, rfl⟩, q⟩
 ·obtain ⟨u, rfl, r1⟩ := kN r
  cases r1
  exact call_int_bool ⟨.int (if k then 1 else 0), H, I.tok _, ⟨_, rfl⟩, q⟩
theorem dD0 : fG X (.type "str") (fun xs H Q => ∃ i, xs = [.int i] /\ i.natAbs.log2 < 1920 /\ Q (.str (toString i)) H) := by
 intro pins s σ H xs us Q I r h
 obtain ⟨i, rfl, hz, q⟩ := h
 obtain ⟨u, rfl, t, rfl⟩ := kN r
 exact PySem.P.str_of_int hz ⟨.str _, H, I.tok _, ⟨_, rfl⟩, q⟩
end
end L2
namespace L2
open PySem PySem.Spec PyProof.Rows
section
variable {prog : Program} {w : World} {A : Around} {E : Value -> Shared -> Prop} {s : Shared} {K : W.Frag} {x dx C f : Addr} {mA : Str -> Option Value} {name : Str} {v : Value}
end
theorem RelO.some_of {v : V} {o : Option Value} (r : RelO (some v) o) : ∃ u, o = some u /\ cJ v u := by
 cases o with
 | none => exact (show False from r).elim
 | some u => exact ⟨u, rfl, r⟩
section
variable {P : Program} {w : World} {H H' : Hp} {h h' : Heap} {a C dx : Addr} {fs fs' : List (Str × V)}
end
structure Con (K : W.Frag) (C : Addr) (f : Str) (v : V) (u : Value) : Prop where
 at_ : W.findIn K (.ref C) f = some (some u)
 rel : cJ v u
 get : W.specialIn K u "__get__" = some none
 cp : W.copiedNames.contains f = false
structure fT9 (K : W.Frag) (C : Addr) (m : Str) (f : Addr) : Prop where
 at_ : W.findIn K (.ref C) m = some (some (.ref f))
 fn : W.isFn K (.ref f) = true
 kp : W.keepIn K (.ref f) = true
section
variable {X : Cx} {pins : List (Addr × Obj)} {σ : St} {H : Hp} {s : Shared} {a C dx : Addr} {fs : List (Str × V)} {f : Str} {v : V} {A : Around} {E : Value -> Shared -> Prop}
end
section
variable {X : Cx} {o e value : Expr} {f : Str} {pos pos' tpos : Pos} {ta tv : TE}
end
section
variable {X : Cx} {pins : List (Addr × Obj)} {σ : St} {H : Hp} {s : Shared} {A : Around} {E : Value -> Shared -> Prop} {Q : Value -> Shared -> Prop} {c : Value} {b : Bool}
end
end L2
namespace L2
open PySem PySem.Spec PyProof.Rows
structure dR (k : Nat) (A : Around) : Prop where
 hd : A.handled = none
 dp : A.depth + 3 * k + 5 < recursionLimit
 un : A.units + 16 * k + 200 < cLine
theorem dR.mono {j k : Nat} {A : Around} (r : dR k A) (h : j <= k) : dR j A := ⟨r.hd, by have := r.dp; omega, by have := r.un; omega⟩
theorem dR.deeper {k : Nat} {A : Around} (r : dR (k + 1) A) (env : Env) : dR k (A.deeper env) :=
 ⟨r.hd, by have := r.dp; show A.depth + 1 + 3 * k + 5 < _; omega, by have := r.un; show A.units + 3 + 16 * k + 200 < _; omega⟩
theorem dR.depth {k : Nat} {A : Around} (r : dR k A) : A.depth < recursionLimit := by have := r.dp; omega
theorem dR.units {k : Nat} {A : Around} (r : dR k A) : A.units + 64 < cLine := by have := r.un; omega
def dD1 : TA := fun _ H Q => Q [] H
def dD2 (ta : TE) (tr : TA) : TA := fun σ H Q => ta σ H fun x H1 => tr σ H1 fun xs H2 => Q (x :: xs) H2
section
variable {X : Cx} {e : Expr} {es : List Expr} {te : TE} {t : TA} {pos : Pos}
theorem mD : PA X [] dD1 := fun _ _ _ _ H Q I h => Calls.spliced_nil ⟨[], H, I, .nil, h⟩
theorem kO (ha : PE X e te) (hr : PA X es t) (hs : starEach (e :: es) X.env = (false, eval e X.env) :: starEach es X.env := by rfl) : PA X (e :: es) (dD2 te t) := by
 intro pos pins s σ H Q I h
 rw [hs]
 show wpAny _ _ (spliced ((false, eval e X.env) :: backTo pos (starEach es X.env))) _ _ s
 refine Calls.spliced_cons (cC (ha pins s σ H _ I h) fun u s1 ⟨x, H1, I1, r1, q1⟩ => ?_)
 exact cC (hr pos pins s1 σ H1 _ I1 q1) fun us s2 ⟨xs, H2, I2, r2, q2⟩ => ⟨x :: xs, H2, I2, .cons r1 r2, q2⟩
def dD3 (t : TA) : TE := fun σ H Q => t σ H fun xs H1 => xs.length <= sizeLine /\ ∀ p, H1 p = none -> Q (.ref p) (upd H1 p (.tup xs))
def dD4 (t : TA) : TE := fun σ H Q => t σ H fun xs H1 => xs.length <= sizeLine /\ ∀ p, H1 p = none -> Q (.ref p) (upd H1 p (.lst xs))
theorem dD5 {x1} (h : PA X es t) : PE X (.Tuple es x1 pos) (dD3 t) := by
 intro pins s σ H Q I hq
 refine wpAny_Tuple_spliced (cC (h pos pins s σ H _ I hq) fun us s1 ⟨xs, H1, I1, r, z, q⟩ => ⟨by rw [<- r.length]; exact z, ?_⟩)
 have hf : H1 s1.heap.objs.size = none := I1.hok.fresh (Nat.le_refl _)
 refine ⟨.ref s1.heap.objs.size, upd H1 s1.heap.objs.size (.tup xs), I1.laid (t' := s1.toks) (fun b u e => Heap.get?_push_of_some _ e) (Nat.le_refl _) ?_, rfl, q _ hf⟩
 exact ⟨z, us, r, ⟨_, Heap.get?_push_size _ rfl, rfl, _, rfl⟩⟩
theorem bH8 (h : PA X es t) : PE X (.List es pos) (dD4 t) := by
 intro pins s σ H Q I hq
 refine wpAny_List_spliced (cC (h pos pins s σ H _ I hq) fun us s1 ⟨xs, H1, I1, r, z, q⟩ => ⟨by rw [<- r.length]; exact z, ?_⟩)
 have hf : H1 s1.heap.objs.size = none := I1.hok.fresh (Nat.le_refl _)
 refine ⟨.ref s1.heap.objs.size, upd H1 s1.heap.objs.size (.lst xs), I1.laid (t' := s1.toks) (fun b u e => Heap.get?_push_of_some _ e) (Nat.le_refl _) ?_, rfl, q _ hf⟩
 exact ⟨z, us, 0, r, Heap.get?_push_size _ rfl⟩
end
abbrev Sp := List V -> Hp -> VK -> XK -> Prop
abbrev mE := List Env -> Hp -> Shared -> XK -> Value -> Shared -> Prop
structure yP (P : Program) (w : World) (K : W.Frag) (mg : Str -> Option Value) (base : Heap) (A : Around) (outer : List Env) (s : Shared) (H : Hp) : Prop where
 frames : A.frames = some outer
 mod : Mod K mg base
 bs : ∀ b o, base.get? b = some o -> s.heap.get? b = some o /\ H b = none
 bsz : base.objs.size <= s.heap.objs.size
 funs : s.heap.FunFrames base outer
 frf : ∀ b ∈ kM outer, H b = none
 hok : fF P w H s.heap
 bare : AllBare s.gens
def CE (outer : List Env) (P : Program) (w : World) (H : Hp) (s : Shared) (Q : VK) (u : Value) (s' : Shared) : Prop :=
 ∃ v H', s'.os = s.os /\ AllBare s'.gens /\ Un (kM outer) [] H H' s.heap s'.heap /\ fF P w H' s'.heap /\ cJ v u /\ Q v H'
def CR (CX : mE) (outer : List Env) (P : Program) (w : World) (H : Hp) (s : Shared) (Q : VK) (E : XK) (r : Result) (s' : Shared) : Prop :=
 match r with
 | .ok (.ret u) => CE outer P w H s Q u s'
 | .ok _ => False
 | .error e => CX outer H s E e s'
structure bS (P : Program) (w : World) (K : W.Frag) (mg : Str -> Option Value) (base : Heap) (CX : mE) (k : Nat) (f : Addr) (fd : FuncData) (ps : List Str) (sp : Sp) : Prop where
 len : ∀ vs H Q E, sp vs H Q E -> vs.length = ps.length
 run : ∀ (A : Around) (outer : List Env) (s : Shared) (H : Hp) (args : Args) (us : List Value) (vs : List V) (Q : VK) (E : XK), dR k A -> yP P w K mg base A outer s H -> BindsTo s fd args (ps.zip us) -> cE vs us -> sp vs H Q E ->
  codeAny (model P w) A (.call (.ref f) args) (CR CX outer P w H s Q E) s
theorem bS.mono {P : Program} {w : World} {K : W.Frag} {mg : Str -> Option Value} {base : Heap} {CX : mE} {j k : Nat} {f : Addr} {fd : FuncData} {ps : List Str} {sp : Sp} (F : bS P w K mg base CX j f fd ps sp) (h : j <= k) :
 bS P w K mg base CX k f fd ps sp := ⟨F.len, fun A outer s H args us vs Q E hr => F.run A outer s H args us vs Q E (hr.mono h)⟩
theorem bS.imp {P : Program} {w : World} {K : W.Frag} {mg : Str -> Option Value} {base : Heap} {CX : mE} {k : Nat} {f : Addr} {fd : FuncData} {ps : List Str} {sp sp' : Sp} (F : bS P w K mg base CX k f fd ps sp)
 (h : ∀ vs H Q E, sp' vs H Q E -> sp vs H Q E) : bS P w K mg base CX k f fd ps sp' :=
 ⟨fun vs H Q E q => F.len vs H Q E (h _ _ _ _ q), fun A outer s H args us vs Q E hr he hb hv hs => F.run A outer s H args us vs Q E hr he hb hv (h _ _ _ _ hs)⟩
section
variable {X : Cx} {pins : List (Addr × Obj)} {σ : St} {H : Hp} {s s' : Shared}
theorem bE.env0 (I : bE X pins σ H s) : yP X.prog X.w X.K X.mg X.base X.A X.stack s H :=
 ⟨I.ok.frames, I.ok.mod, I.bs, Nat.le_trans I.ok.bsz I.sz, I.stack, I.stkFree, I.hok, I.bare⟩
theorem bE.after {Q : VK} {u : Value} (I : bE X pins σ H s) (h : CE X.stack X.prog X.w H s Q u s') : EP X pins σ Q u s' := by
 obtain ⟨v, H', os, bare, un, hok, r, q⟩ := h
 obtain ⟨hh, g, d, t, os'⟩ := s'
 obtain rfl : os' = s.os := os
 exact ⟨v, H', I.call (h' := hh) (g' := g) (d' := d) (t' := t) (ch := []) un hok bare (fun b z => absurd z (by simp)), r, q⟩
end
def dD6 (sp : Sp) (dvs : List V) (E : XK) (t : TA) : TE := fun σ H Q => t σ H fun vs H1 => sp (vs ++ dvs) H1 Q E
def cS (K : W.Frag) (fd : FuncData) (ps : List Str) (ds : List Value) : Prop :=
 ∀ (s : Shared) (us : List Value), K.In s.heap -> (us ++ ds).length = ps.length -> BindsTo s fd ⟨us, []⟩ (ps.zip (us ++ ds))
theorem cS.all {K : W.Frag} {fd : FuncData} {ps : List Str} (h : ∀ us : List Value, us.length = ps.length -> bindArgs fd ⟨us, []⟩ = pure (ps.zip us)) : cS K fd ps [] := fun s us _ hl => by
 rw [List.append_nil] at hl ⊢
 exact .of_eq (h us hl)
def bH9 (CX : mE) (X : Cx) (E : XK) : Prop := ∀ (pins : List (Addr × Obj)) (σ : St) (H : Hp) (s : Shared) (e : Value) (s' : Shared), bE X pins σ H s -> CX X.stack H s E e s' -> X.xe e s'
section
variable {X : Cx} {CX : mE} {k : Nat} {f C : Addr} {fd : FuncData} {ps : List Str} {sp : Sp} {dvs : List V} {ds : List Value} {E : XK} {x m : Str} {p pos apos : Pos} {e o : Expr} {es : List Expr} {ta : TE} {t : TA}
theorem dD7 {pins : List (Addr × Obj)} {σ : St} {H : Hp} {s : Shared} {Q : VK} {us : List Value} {vs : List V} (F : bS X.prog X.w X.K X.mg X.base CX k f fd ps sp) (hr : dR k X.A) (hb : cS X.K fd ps ds) (hd : cE dvs ds) (hx : bH9 CX X E)
 (I : bE X pins σ H s) (r : cE vs us) (h : sp (vs ++ dvs) H Q E) : wpAny (model X.prog X.w) X.A (call (.ref f) us) (EP X pins σ Q) X.xe s := by
 have r2 : cE (vs ++ dvs) (us ++ ds) := r.append hd
 have hl : (us ++ ds).length = ps.length := by rw [<- r2.length]; exact F.len _ _ _ _ h
 refine wpAny_call (codeAny_mono (F.run X.A X.stack s H ⟨us, []⟩ (us ++ ds) (vs ++ dvs) Q E hr I.env0 (hb s us I.kIn hl) r2 h) fun r s' hq => ?_)
 cases r with
 | error e => exact hx pins σ H s e s' I hq
 | ok fl =>
  cases fl with
  | ret u => exact I.after hq
  | next => exact False.elim hq
  | brk => exact False.elim hq
  | cont => exact False.elim hq
theorem yQ (F : bS X.prog X.w X.K X.mg X.base CX k f fd ps sp) (hr : dR k X.A) (hg : Gl X x) (hm : X.mg x = some (.ref f)) (hk : W.keepIn X.K (.ref f) = true) (hb : cS X.K fd ps ds) (hd : cE dvs ds) (hx : bH9 CX X E)
 (ha : PA X (e :: es) t) (hdb : (x == ("__debug__" : Str)) = false := by decide) (he : starEach (e :: es) X.env = (false, eval e X.env) :: starEach es X.env := by rfl) (hpl : (backTo pos (starEach es X.env)).any (·.1) = false := by rfl) :
 PE X (.Call (.Name x p) (e :: es) [] pos) (dD6 sp dvs E t) := by
 intro pins s σ H Q I h
 refine wpAny_Call_Name_kw (bV5 I hg hm ?_ hdb)
 refine W.callWith_K (h₀ := X.base) I.ok.mod.kin hk (cC (ha pos pins s σ H _ I h) fun us s1 ⟨vs, H1, I1, r, q⟩ => ⟨I1.kIn, ?_⟩) he hpl
 exact dD7 F hr hb hd hx I1 r q
structure Mk (K : W.Frag) (C f : Addr) : Prop where
 makes : W.makesIn K C = true
 init : W.findIn K (.ref C) "__init__" = some (some (.ref f))
 fn : W.isFn K (.ref f) = true
 kp : W.keepIn K (.ref C) = true
end
section
variable {X : Cx} {CX : mE} {k : Nat} {f C : Addr} {fd : FuncData} {ps ks : List Str} {sp : Sp} {E : XK} {x m : Str} {p pos apos kpos : Pos} {e o : Expr} {es : List Expr} {kws : List Keyword} {te ta : TE} {t tk : TA} {nm : Option Str}
variable {g : List Value -> List Value -> List Value} {gV : List V -> List V -> List V}
end
structure dE (N P : List Str) (sc : Scope) : Prop where
 kind : sc.kind = .function
 co : sc.isCoroutine = false
 gen : sc.isGenerator = false
 nd : N.Nodup
 pre : N.take P.length = P
 par : ∀ x ∈ P, sc.names.lookup x = some .local \/ sc.names.lookup x = some .cell
 nofree : ∀ y ∈ sc.names, y.2 ≠ .free
theorem bX2 {kindOf : Str -> Option NameKind} {x : Str} : ∀ {binds : List (Str × Value)} {m : Str -> Option Value}, (∀ v, (x, v) ∉ binds) -> bindL kindOf binds m x = m x
 | [], _, _ => rfl
 | (n, v) :: r, m, h => by
  unfold bindL
  rw [bX2 fun w hw => h w (List.mem_cons_of_mem _ hw)]
  split
  ·have : x ≠ n := by rintro rfl; exact h v List.mem_cons_self
   simp [this]
  ·rfl
theorem bX3 {kindOf : Str -> Option NameKind} {x : Str} : ∀ {binds : List (Str × Value)} {m : Str -> Option Value}, (∀ v, (x, v) ∉ binds) -> bindC kindOf binds m x = m x
 | [], _, _ => rfl
 | (n, v) :: r, m, h => by
  unfold bindC
  rw [bX3 fun w hw => h w (List.mem_cons_of_mem _ hw)]
  split
  ·rfl
  ·have : x ≠ n := by rintro rfl; exact h v List.mem_cons_self
   simp [this]
theorem bX4 {kindOf : Str -> Option NameKind} {x : Str} {v : Value} : ∀ {P : List Str} {vs : List Value} {i : Nat} {m : Str -> Option Value}, P.Nodup -> P[i]? = some x -> vs[i]? = some v -> kindOf x = some .local ->
 bindL kindOf (P.zip vs) m x = some v
 | [], _, _, _, _, h, _, _ => by simp at h
 | _ :: _, [], _, _, _, _, h, _ => by simp at h
 | p :: P, w :: vs, 0, m, nd, h1, h2, hk => by
  simp at h1 h2; subst h1; subst h2
  show bindL kindOf ((p, w) :: P.zip vs) m p = _
  unfold bindL
  rw [bX2 fun v hv => (List.nodup_cons.mp nd).1 (List.of_mem_zip hv).1, if_pos hk]
  simp
 | p :: P, w :: vs, i + 1, m, nd, h1, h2, hk => by
  show bindL kindOf ((p, w) :: P.zip vs) m x = _
  unfold bindL
  exact bX4 (i := i) (List.nodup_cons.mp nd).2 (by simpa using h1) (by simpa using h2) hk
theorem bX5 {kindOf : Str -> Option NameKind} {x : Str} {v : Value} : ∀ {P : List Str} {vs : List Value} {i : Nat} {m : Str -> Option Value}, P.Nodup -> P[i]? = some x -> vs[i]? = some v -> kindOf x ≠ some .local ->
 bindC kindOf (P.zip vs) m x = some v
 | [], _, _, _, _, h, _, _ => by simp at h
 | _ :: _, [], _, _, _, _, h, _ => by simp at h
 | p :: P, w :: vs, 0, m, nd, h1, h2, hk => by
  simp at h1 h2; subst h1; subst h2
  show bindC kindOf ((p, w) :: P.zip vs) m p = _
  unfold bindC
  rw [bX3 fun v hv => (List.nodup_cons.mp nd).1 (List.of_mem_zip hv).1, if_neg hk]
  simp
 | p :: P, w :: vs, i + 1, m, nd, h1, h2, hk => by
  show bindC kindOf ((p, w) :: P.zip vs) m x = _
  unfold bindC
  exact bX5 (i := i) (List.nodup_cons.mp nd).2 (by simpa using h1) (by simpa using h2) hk
def start (N : List Str) (vs : List V) : St := vs.map some ++ List.replicate (N.length - vs.length) none
def mV (CX : mE) (P : Program) (w : World) (K : W.Frag) (mg : Str -> Option Value) (base : Heap) (N : List Str) (qual : Str) (scope : Scope) (f : Addr) (cd : Value) (A : Around) (outer : List Env) (s : Shared) (H : Hp) (E : XK) : Cx where
 prog := P
 w := w
 K := K
 mg := mg
 base := base
 A := A.deeper (envOfC qual scope s.heap.objs.size f cd)
 N := N
 s₀ := s
 H₀ := H
 env := envOfC qual scope s.heap.objs.size f cd
 outer := outer
 stack := envOfC qual scope s.heap.objs.size f cd :: outer
 ex := []
 calm := true
 fn := fun _ => true
 pn := []
 xe := fun e s' => wpAny (model P w) (A.deeper (envOfC qual scope s.heap.objs.size f cd)) (leaving (envOfC qual scope s.heap.objs.size f cd) e) (fun _ s'' => CX outer H s E e s'') (fun e' s'' => CX outer H s E e' s'') s'
theorem bX6 {sc : Scope} {n : Nat} {x : Str} (h : sc.names.lookup x = some .cell) : ∃ c, (cellsFrom n sc.names []).lookup x = some c := by
 have q := W.cellsFrom_some sc.names n [] (.inl h)
 exact Option.isSome_iff_exists.mp q
theorem dD8 {CX : mE} {P : Program} {w : World} {K : W.Frag} {mg : Str -> Option Value} {base : Heap} {N ps : List Str} {qual : Str} {scope : Scope} {f : Addr} {cd : Value} {A : Around} {outer : List Env} {s s1 : Shared} {H : Hp} {E : XK} {us : List Value} {vs : List V}
 (S : dE N ps scope) (hd : A.handled = none) (e0 : yP P w K mg base A outer s H) (hl : vs.length = ps.length) (r : cE vs us)
 (x : InCallC s s.heap.objs.size (bindL (envOfC qual scope s.heap.objs.size f cd).kindOf (ps.zip us) fun _ => none) (cellsFrom (s.heap.objs.size + 1) scope.names []) (bindC (envOfC qual scope s.heap.objs.size f cd).kindOf (ps.zip us) fun _ => none) s1) :
 bE (mV CX P w K mg base N qual scope f cd A outer s H E) [] (start N vs) H s1 := by
 have hpl : ps.length <= N.length := by have := congrArg List.length S.pre; rw [List.length_take] at this; omega
 obtain ⟨h1, tk, rfl, hk⟩ := x.done
 have noA : ∀ b : Addr, b ∉ (mV CX P w K mg base N qual scope f cd A outer s H E).ex := fun b z => absurd (show b ∈ ([] : List Addr) from z) (by simp)
 refine ⟨⟨e0.mod, S.kind, rfl, rfl, Nat.le_refl _, fun y z c h1 h2 => ?_, fun y hy => ?_, fun y c _ h => ?_, fun _ => hd, Around.frames_deeper e0.frames, .inr ⟨rfl, rfl⟩, fun b z => absurd z (noA b), e0.bs, e0.bsz, fun b _ _ => noA b, fun b z => absurd z (noA b), e0.funs, e0.frf⟩,
  rfl, e0.bare, Un.kept hk, ⟨_, x.toInCall.ns, fun i y v h1 h2 h3 => ?_⟩, fun y c h => ⟨_, x.cell y c h⟩, e0.hok.fresh (Nat.le_refl _), fun y c h => ?_, fun p hp => absurd (show p ∈ ([] : List (Addr × Obj)) from hp) (by simp), e0.hok.kept hk, ?_⟩
 ·exact name_of_addr x.apart (PySem.mem_of_lookup h1) (PySem.mem_of_lookup h2)
 ·have hy : scope.names.lookup y = some .cell \/ scope.names.lookup y = some .free := hy
  rcases hy with hy | hy
  ·exact bX6 hy
  ·exact absurd rfl (S.nofree _ (PySem.mem_of_lookup hy))
 ·exact Nat.le_of_lt (x.above y c (PySem.mem_of_lookup h))
 ·have hi : i < vs.length := by
   unfold start at h2
   by_cases hi : i < vs.length
   ·exact hi
   ·rw [List.getElem?_append_right (by simpa using hi)] at h2
    rw [List.getElem?_replicate] at h2
    split at h2 <;> cases h2
  have ha : vs[i]? = some v := by
   unfold start at h2
   rw [List.getElem?_append_left (by simpa using hi), List.getElem?_map] at h2
   cases e : vs[i]? with
   | none => rw [e] at h2; cases h2
   | some a => rw [e] at h2; cases h2; rfl
  obtain ⟨u, hu, rv⟩ := r.get ha
  have hp : ps[i]? = some y := by
   rw [<- S.pre, List.getElem?_take_of_lt bF]; exact h1
  have ndP : ps.Nodup := by rw [<- S.pre]; exact S.nd.sublist (List.take_sublist _ _)
  refine ⟨u, rv, ?_⟩
  rcases S.par y (List.mem_of_getElem? hp) with k | k
  ·exact .inl ⟨k, bX4 ndP hp hu k⟩
  ·obtain ⟨c, e⟩ := bX6 (n := s.heap.objs.size + 1) k
   refine .inr ⟨.inl k, c, e, ?_⟩
   have q := x.cell y c e
   rw [bX5 ndP hp hu (by show scope.names.lookup y ≠ _; rw [k]; decide)] at q
   exact q
 ·exact e0.hok.fresh (Nat.le_of_lt (x.above y c (PySem.mem_of_lookup h)))
 ·unfold start
  show _ = N.length
  rw [List.length_append, List.length_map, List.length_replicate]
  omega
theorem dD9 {CX : mE} {P : Program} {w : World} {K : W.Frag} {mg : Str -> Option Value} {base : Heap} {k : Nat} {f : Addr} {name qual : Str} {params : Arguments} {body : List Stmt} {scope : Scope} {dV kV doc pm cdv ct oc : Value} {an od : Option Addr}
 {osl : Array (Option Value)} {N ps : List Str} {sp : Sp} (lk : K.lookup f = some ⟨oc, od, .func (W.fnOf name qual params body scope dV kV doc pm an cdv ct), osl⟩) (hcd : W.codeIn K cdv qual = true) (S : dE N ps scope)
 (len : ∀ vs H Q E, sp vs H Q E -> vs.length = ps.length)
 (hbody : ∀ (A : Around) (outer : List Env) (s : Shared) (H : Hp) (vs : List V) (Q : VK) (E : XK), dR k (A.deeper (envOfC qual scope s.heap.objs.size f cdv)) -> sp vs H Q E ->
   ∃ t, jS (mV CX P w K mg base N qual scope f cdv A outer s H E) body t /\ t { nx := fun _ H' => Q .non H', rt := Q } (start N vs) H) :
 bS P w K mg base CX (k + 1) f (W.fnOf name qual params body scope dV kV doc pm an cdv ct) ps sp := by
 refine ⟨len, fun A outer s H args us vs Q E hr e0 hb r hsp => ?_⟩
 have hl := len _ _ _ _ hsp
 have KX : K.In s.heap := e0.mod.kin.keeps fun b o e => (e0.bs b o e).1
 have lim : s.heap.NoLimit := e0.mod.nolimit.keeps fun b o e => (e0.bs b o e).1
 have hkind : ∀ y ∈ ps.zip us, scope.names.lookup y.1 = some .local \/ (scope.names.lookup y.1 = some .cell /\ ((cellsFrom (s.heap.objs.size + 1) scope.names []).lookup y.1).isSome = true) := fun ⟨n, v⟩ hy => by
  rcases S.par n (List.of_mem_zip hy).1 with q | q
  ·exact .inl q
  ·exact .inr ⟨q, W.cellsFrom_some _ _ _ (.inl q)⟩
 refine codeAny_call_function hr.depth (KX _ _ lk) rfl S.co S.gen rfl (W.codeRec_of KX hcd) (hb _ _ _ _ ?_)
 refine wpAny_newFunctionEnv_cells S.kind hkind fun env he s1 x => ?_
 subst he
 refine ⟨lim.keeps x.toInCall.keep, codeAny_func ?_⟩
 obtain ⟨t, ht, hq⟩ := hbody A outer s H vs Q E (hr.deeper _) hsp
 have I : bE (mV CX P w K mg base N qual scope f cdv A outer s H E) [] (start N vs) H s1 := dD8 S hr.hd e0 hl r x
 refine wpAny_mono (ht [] s1 (start N vs) H _ I hq) (fun fl s' hs => ?_) fun e s' hs => hs
 have fin : ∀ {σ' : St} {H' : Hp} {v : V} {u : Value}, bE (mV CX P w K mg base N qual scope f cdv A outer s H E) [] σ' H' s' -> cJ v u -> Q v H' -> CE outer P w H s Q u s' :=
  fun {σ' H' v u} J rv q => ⟨v, H', J.os, J.bare, J.base, J.hok, rv, q⟩
 cases fl with
 | ret u =>
  obtain ⟨v, σ', H', J, rv, q⟩ := hs
  exact fin J rv q
 | next =>
  obtain ⟨σ', H', J, q⟩ := hs
  exact fin (v := V.non) (u := Value.none) J rfl q
 | brk =>
  obtain ⟨_, _, _, q⟩ := hs
  exact False.elim q
 | cont =>
  obtain ⟨_, _, _, q⟩ := hs
  exact False.elim q
end L2
namespace L2
open PySem PySem.Spec PyProof.Rows
section
variable {X : Cx} {x : Str} {p pos : Pos} {e : Expr} {es : List Expr} {t : TA} {id T : String} {r : List V -> Hp -> VK -> Prop}
def tCB (r : List V -> Hp -> VK -> Prop) (t : TA) : TE := fun σ H Q => t σ H fun vs H1 => r vs H1 Q
theorem bI0 (hc : fG X (.builtin id) r) (hg : Gl X x) (hm : X.mg x = none) (hv : bootBuiltins x = some (.builtin id)) (ha : PA X (e :: es) t) (hn : x ≠ "__name__" := by decide) (hdb : (x == ("__debug__" : Str)) = false := by decide)
 (he : starEach (e :: es) X.env = (false, eval e X.env) :: starEach es X.env := by rfl) (hpl : (backTo pos (starEach es X.env)).any (·.1) = false := by rfl) : PE X (.Call (.Name x p) (e :: es) [] pos) (tCB r t) := by
 intro pins s σ H Q I h
 refine wpAny_Call_Name_kw (rE I hg hm hv ?_ hn hdb)
 exact PyProof.Rows.callWith_builtin1 (cC (ha pos pins s σ H _ I h) fun us s1 ⟨vs, H1, I1, r1, q1⟩ => hc pins s1 σ H1 vs us Q I1 r1 q1) he hpl
theorem bI1 (hc : fG X (.type T) r) (hg : Gl X x) (hm : X.mg x = none) (hv : bootBuiltins x = some (.type T)) (ha : PA X (e :: es) t) (hn : x ≠ "__name__" := by decide) (hdb : (x == ("__debug__" : Str)) = false := by decide)
 (he : starEach (e :: es) X.env = (false, eval e X.env) :: starEach es X.env := by rfl) (hpl : (backTo pos (starEach es X.env)).any (·.1) = false := by rfl) : PE X (.Call (.Name x p) (e :: es) [] pos) (tCB r t) := by
 intro pins s σ H Q I h
 refine wpAny_Call_Name_kw (rE I hg hm hv ?_ hn hdb)
 exact PyProof.Rows.callWith_type1 (cC (ha pos pins s σ H _ I h) fun us s1 ⟨vs, H1, I1, r1, q1⟩ => hc pins s1 σ H1 vs us Q I1 r1 q1) he hpl
end
end L2
namespace HT
open PySem PyProof.Rows
section
open PySem.SeqAt
open PySem.AutoSeq1 (wpAny_loadPart')
open PySem.MeetsSeq PySem.MeetsSeq2 PySem.MeetsSeq3
end
section
variable {prog : Program} {w : World} {A : Around} {E : Value -> Shared -> Prop} {s : Shared}
theorem cat_tup {t b : Addr} {vs ws : List Value} {Q : Value -> Shared -> Prop} (ht : IsTup s.heap t vs.toArray) (hb : IsTup s.heap b ws.toArray) (hv : vs ≠ [])
 (h1 : ws = [] -> Q (.ref t) s) (h2 : ws ≠ [] -> Q (.ref s.heap.objs.size) { s with heap := s.heap.push { cls := .type "tuple", data := .seq (vs ++ ws).toArray } })
 (hsz : vs.length + ws.length <= sizeLine) : wpAny (model prog w) A (binaryOp .Add (.ref t) (.ref b)) Q E s := by
 obtain ⟨⟨cls, dd, data, sl⟩, ho, hc, n, hd⟩ := id ht
 obtain ⟨⟨cls2, dd2, data2, sl2⟩, ho2, hc2, n2, hd2⟩ := id hb
 simp only at hc hd hc2 hd2
 subst hc hd hc2 hd2
 have e : vs.toArray ++ ws.toArray = (vs ++ ws).toArray := by simp
 by_cases hw : ws = []
 ·exact concat_meets ⟨_, ho, rfl⟩ ⟨_, ho2, rfl⟩ noFill_tuple_add seq_tuple_add PySem.F.slot_tuple_add PySem.F.entry_tuple_add (PySem.F.args_tuple_add_2 _ _)
   (tuple_addW1 t b vs.toArray ws.toArray n n2 dd dd2 sl sl2 (by simpa using hv) (by simp [hw])) ⟨ho, ho2, h1 hw⟩
 ·refine concat_meets ⟨_, ho, rfl⟩ ⟨_, ho2, rfl⟩ noFill_tuple_add seq_tuple_add PySem.F.slot_tuple_add PySem.F.entry_tuple_add (PySem.F.args_tuple_add_2 _ _)
   (tuple_addW2 t b vs.toArray ws.toArray n n2 dd dd2 sl sl2 (by simpa using hv) (by simpa using hw) (by rw [List.size_toArray, List.size_toArray]; exact hsz)) ⟨ho, ho2, ?_⟩
  rw [e]
  exact h2 hw
def sIx (n d : Nat) : Option Int -> Nat
 | none => d
 | some v => if v < 0 then (v + (n : Int)).toNat else min v.toNat n
theorem sIx_le (n d : Nat) (hd : d <= n) (o : Option Int) : sIx n d o <= n := by
 cases o with
 | none => exact hd
 | some v =>
  show (if v < 0 then (v + (n : Int)).toNat else min v.toNat n) <= n
  by_cases hv : v < 0
  ·rw [if_pos hv]; omega
  ·rw [if_neg hv]; exact Nat.min_le_right _ _
theorem bX8 (v : Int) (n d : Nat) : (if v < 0 then max (v + (n : Int)) 0 else min v (n : Int)) = ((sIx n d (some v) : Nat) : Int) := by
 show (if v < 0 then max (v + (n : Int)) 0 else min v (n : Int)) = (((if v < 0 then (v + (n : Int)).toNat else min v.toNat n) : Nat) : Int)
 by_cases hv : v < 0
 ·simp only [if_pos hv]; omega
 ·simp only [if_neg hv]; omega
theorem dE0 (lo hi : Option Int) (n : Nat) : Builtin.Slice.sliceAdjust lo hi 1 (n : Int) = (((sIx n 0 lo : Nat) : Int), ((sIx n n hi : Nat) : Int)) := by
 have h1 : ¬ ((1 : Int) < 0) := by omega
 unfold Builtin.Slice.sliceAdjust
 simp only [h1, if_false]
 refine Prod.ext ?_ ?_
 ·cases lo with
  | none => rfl
  | some v => exact bX8 v n 0
 ·cases hi with
  | none => rfl
  | some v => exact bX8 v n n
theorem dE1 (i j : Nat) : Builtin.Slice.slicePlaces (i : Int) (j : Int) 1 = j - i := by
 unfold Builtin.Slice.slicePlaces
 have h1 : (1 : Int) > 0 := by omega
 simp only [h1, if_true, Int.ediv_one]
 split <;> omega
theorem bX9 {v : Value} {o : Option Int} {Q : Option Int -> Shared -> Prop} (p : IsPart v o) (h : Q o s) : wpAny (model prog w) A (Builtin.Slice.slicePartIndex v) Q E s := by
 cases p with
 | none => exact slicePart_none h
 | int i t => exact slicePart_int h
theorem sliceApplied_gen {sl : Addr} {vl vu : Value} {lo hi : Option Int} {n : Nat} {Q : Int × Int × Nat -> Shared -> Prop} (hs : s.heap.IsSliceOf sl vl vu .none) (pl : IsPart vl lo) (pu : IsPart vu hi)
 (h : Q (((sIx n 0 lo : Nat) : Int), 1, sIx n n hi - sIx n 0 lo) s) : wpAny (model prog w) A (Builtin.Slice.sliceApplied (.ref sl) (pure (n : Int))) Q E s := by
 obtain ⟨os, hos, hcs, hds⟩ := id hs
 unfold Builtin.Slice.sliceApplied Builtin.Slice.sliceFields
 refine wpAny_bind (wpAny_bind (wpAny_field hos hds (x := vl) rfl (wpAny_bind (wpAny_field hos hds (x := vu) rfl (wpAny_bind (wpAny_field hos hds (x := .none) rfl (wpAny_pure ?_)))))))
 refine wpAny_bind (slicePart_none ?_)
 show wpAny _ _ (if ((1 : Int) == 0) = true then _ else _) _ _ s
 rw [if_neg (by decide)]
 refine wpAny_bind (bX9 pl (wpAny_bind (bX9 pu (wpAny_bind (wpAny_pure ?_)))))
 show wpAny _ _ (match Builtin.Slice.sliceAdjust lo hi 1 (n : Int) with | (lo, hi) => pure (lo, (1 : Int), Builtin.Slice.slicePlaces lo hi 1)) _ _ s
 rw [dE0 lo hi n]
 show wpAny _ _ (pure (((sIx n 0 lo : Nat) : Int), (1 : Int), Builtin.Slice.slicePlaces ((sIx n 0 lo : Nat) : Int) ((sIx n n hi : Nat) : Int) 1)) _ _ s
 rw [dE1]
 exact wpAny_pure h
theorem dE2 (xs : Array Value) (i k : Nat) : ((List.range k).filterMap fun (m : Nat) => xs[((i : Int) + (m : Int) * 1).toNat]?).toArray = ((xs.toList.drop i).take k).toArray := by
 have e : (fun (m : Nat) => xs[((i : Int) + (m : Int) * 1).toNat]?) = fun m => xs[i + m]? := by
  funext m
  have : ((i : Int) + (m : Int) * 1).toNat = i + m := by omega
  rw [this]
 rw [e]
 have := pick_run xs i k
 rw [List.filterMap_map] at this
 have e2 : ((fun x => xs[x]?) ∘ fun x => i + x) = fun m => xs[i + m]? := rfl
 rw [e2] at this
 rw [this]
theorem getItem_tuple_cut {t sl : Addr} {items : Array Value} {vl vu : Value} {lo hi : Option Int} {Q : Value -> Shared -> Prop} (ht : IsTup s.heap t items) (hs : s.heap.IsSliceOf sl vl vu .none) (pl : IsPart vl lo) (pu : IsPart vu hi)
 (hw : ¬ (sIx items.size 0 lo = 0 /\ sIx items.size items.size hi = items.size))
 (h : Q (.ref s.heap.objs.size) { s with heap := s.heap.push { cls := .type "tuple", data := .seq ((items.toList.drop (sIx items.size 0 lo)).take (sIx items.size items.size hi - sIx items.size 0 lo)).toArray } })
 (hsz : items.size <= sizeLine) : wpAny (model prog w) A (getItem (.ref t) (.ref sl)) Q E s := by
 have htake : sizeOk (.seq ((items.toList.drop (sIx items.size 0 lo)).take (sIx items.size items.size hi - sIx items.size 0 lo)).toArray) := by
  show ((items.toList.drop (sIx items.size 0 lo)).take (sIx items.size items.size hi - sIx items.size 0 lo)).toArray.size <= sizeLine
  rw [List.size_toArray, List.length_take, List.length_drop, Array.length_toList]
  omega
 have hj : sIx items.size items.size hi <= items.size := sIx_le _ _ (Nat.le_refl _) hi
 obtain ⟨os, hos, hcs, hds⟩ := id hs
 have hTs : s.TypeIs (.ref sl) "slice" := ⟨os, hos, hcs⟩
 unfold getItem
 try with_reducible refine wpAny_holding ?_
 first | refine wpAny_bind (wpAny_pure ?_) | skip
 refine wpAny_bind (wpAny_sequenceKey ht.typeIs (by decide) ?_)
 refine wpAny_bind (wpAny_callSpecial?_slot (name := Str.ofString "__getitem__") ht.typeIs PyProof.Rows.slot_tuple_getitem
  (wpAny_call_entry PyProof.Rows.slot_tuple_getitem ht.typeIs entry_tuple_getitem ?_ (args_tuple_getitem _ _)))
 show wpAny _ _ (Builtin.Tuple.tupleItemsOf (.ref t) >>= _) _ _ s
 refine wpAny_bind (tupleItemsOf_ ht ?_)
 refine wpAny_bind (wpAny_typeOf hTs ?_)
 rw [if_pos (by decide)]
 refine wpAny_bind (sliceApplied_gen hs pl pu ?_)
 have hno : ¬ ((((sIx items.size 0 lo : Nat) : Int) == 0 && (1 : Int) == 1 && (sIx items.size items.size hi - sIx items.size 0 lo) == items.size) = true) := by
  intro q
  rw [Bool.and_eq_true, Bool.and_eq_true] at q
  have q1 : ((sIx items.size 0 lo : Nat) : Int) = 0 := eq_of_beq q.1.1
  have q2 : sIx items.size items.size hi - sIx items.size 0 lo = items.size := eq_of_beq q.2
  exact hw ⟨by omega, by omega⟩
 show wpAny _ _ (if (((sIx items.size 0 lo : Nat) : Int) == 0 && (1 : Int) == 1 && (sIx items.size items.size hi - sIx items.size 0 lo) == items.size) = true then _ else _) _ _ s
 rw [if_neg hno, dE2]
 first
  | exact wpAny_bind (m := Builtin.Tuple.tupleExact _) (wpAny_newObj_type (wpAny_pure ⟨_, rfl, wpAny_pure h⟩) htake)
  | exact wpAny_bind (m := Builtin.Tuple.tupleExact _) (wpAny_newObj_type (wpAny_bind (wpAny_pure (wpAny_pure ⟨_, rfl, wpAny_pure h⟩))) htake)
  | exact wpAny_bind (wpAny_bind (m := Builtin.Tuple.tupleExact _) (wpAny_newObj_type (wpAny_pure (wpAny_pure ⟨_, rfl, wpAny_pure h⟩)) htake))
  | exact wpAny_bind (wpAny_bind (m := Builtin.Tuple.tupleExact _) (wpAny_newObj_type (wpAny_pure ⟨_, rfl, wpAny_pure h⟩) htake))
end
end HT
namespace L2
open PySem PySem.Spec PyProof.Rows
abbrev TO := St -> Hp -> (Option Int -> Hp -> Prop) -> Prop
def PO (X : Cx) (e : Option Expr) (t : TO) : Prop :=
 ∀ (pins : List (Addr × Obj)) (s : Shared) (σ : St) (H : Hp) (Q : Option Int -> Hp -> Prop), bE X pins σ H s -> t σ H Q ->
   wpAny (model X.prog X.w) X.A (evalPart e X.env) (fun u s' => ∃ o H', bE X pins σ H' s' /\ IsPart u o /\ Q o H') X.xe s
def dE3 : TO := fun _ H Q => Q none H
def dE4 (t : TE) : TO := fun σ H Q => t σ H fun x H1 => ∃ i, x = .int i /\ Q (some i) H1
section
variable {X : Cx} {e : Expr} {te : TE} {lo hi : Option Expr} {tl th : TO} {pos p2 : Pos}
theorem dE5 : PO X none dE3 := by
 intro pins s σ H Q I h
 rw [evalPart_none]
 exact wpAny_pure ⟨none, H, I, .none, h⟩
theorem dE6 (h : PE X e te) : PO X (some e) (dE4 te) := by
 intro pins s σ H Q I hw
 rw [evalPart_some]
 refine cC (h pins s σ H _ I hw) fun u s1 ⟨x, H1, I1, r1, q1⟩ => ?_
 obtain ⟨i, rfl, q⟩ := q1
 obtain ⟨t, rfl⟩ := r1
 exact ⟨some i, H1, I1, .int i t, q⟩
def yR (X : Cx) (r : V -> Option Int -> Option Int -> Hp -> VK -> Prop) : Prop :=
 ∀ (pins : List (Addr × Obj)) (s : Shared) (σ : St) (H : Hp) (x : V) (v vl vu : Value) (lo hi : Option Int) (sl : Addr) (Q : VK), bE X pins σ H s -> cJ x v -> s.heap.IsSliceOf sl vl vu .none -> IsPart vl lo -> IsPart vu hi -> r x lo hi H Q ->
   ∃ T id, typeLookup (.type T) "__getitem__" = pure (some (.builtin id)) /\ s.TypeIs v T /\ wpAny (model X.prog X.w) X.A (getItem v (.ref sl)) (EP X pins σ Q) X.xe s
def tSl (r : V -> Option Int -> Option Int -> Hp -> VK -> Prop) (te : TE) (tl th : TO) : TE := fun σ H Q => te σ H fun x H1 => tl σ H1 fun l H2 => th σ H2 fun u H3 => r x l u H3 Q
theorem dE8 {r : V -> Option Int -> Option Int -> Hp -> VK -> Prop} (hr : yR X r) (he : PE X e te) (hl : PO X lo tl) (hu : PO X hi th) : PE X (.Subscript e (.Slice lo hi none p2) pos) (tSl r te tl th) := by
 intro pins s σ H Q I h
 refine Subscript_ (cC (he pins s σ H _ I h) fun v s1 ⟨x, H1, I1, r1, q1⟩ => ?_)
 refine wpAny_Slice (cC (hl pins s1 σ H1 _ I1 q1) fun vl s2 ⟨l, H2, I2, pl, q2⟩ => cC (hu pins s2 σ H2 _ I2 q2) fun vu s3 ⟨u, H3, I3, pu, q3⟩ => ?_)
 rw [evalPart_none]
 refine wpAny_pure ?_
 have I4 : bE X pins σ H3 { s3 with heap := s3.heap.push { cls := .type "slice", data := .fields #[vl, vu, .none] } } := I3.kept (t' := s3.toks) fun b ob q => Heap.get?_push_of_some _ q
 obtain ⟨T, id, hT, ht, hg⟩ := hr pins { s3 with heap := s3.heap.push { cls := .type "slice", data := .fields #[vl, vu, .none] } } σ H3 x v vl vu l u s3.heap.objs.size Q I4 r1 (Heap.IsSliceOf.new ..) pl pu q3
 show wpAny (model X.prog X.w) X.A (subscriptTail e (.Slice lo hi none p2) v (.ref s3.heap.objs.size)) (EP X pins σ Q) X.xe { s3 with heap := s3.heap.push { cls := .type "slice", data := .fields #[vl, vu, .none] } }
 exact tail_any (ops := [.ref s3.heap.objs.size, v]) ht hT hg (by with_unfolding_all rfl)
def pM (xs : List V) (lo hi : Option Int) : List V := (xs.drop (HT.sIx xs.length 0 lo)).take (HT.sIx xs.length xs.length hi - HT.sIx xs.length 0 lo)
theorem bY0 (xs : List V) (lo hi : Option Int) : (pM xs lo hi).length <= xs.length := by
 unfold pM
 rw [List.length_take, List.length_drop]
 omega
def dE9 (K : W.Frag) : V -> Option Int -> Option Int -> Hp -> VK -> Prop := fun x lo hi H Q => ∃ a xs, x = .ref a /\ fK K H a xs /\
 ¬ (HT.sIx xs.length 0 lo = 0 /\ HT.sIx xs.length xs.length hi = xs.length) /\ ∀ p, H p = none -> Q (.ref p) (upd H p (.tup (pM xs lo hi)))
theorem dF0 : yR X (dE9 X.K) := by
 intro pins s σ H x v vl vu lo hi sl Q I rx hs pl pu h
 obtain ⟨a, xs, rfl, hx, hw, q⟩ := h
 cases rx
 obtain ⟨its, r, ht, hz⟩ := I.tuple hx
 have hlen : its.toArray.size = xs.length := by rw [List.size_toArray]; exact r.length.symm
 refine ⟨"tuple", _, PyProof.Rows.slot_tuple_getitem.lookup, ht.typeIs, ?_⟩
 refine HT.getItem_tuple_cut ht hs pl pu (by rw [hlen]; exact hw) ?_ (by rw [hlen]; exact hz)
 rw [hlen]
 refine ⟨.ref s.heap.objs.size, _, I.laid (t' := s.toks) (o := .tup (pM xs lo hi)) (fun b ob q => Heap.get?_push_of_some _ q) (Nat.le_refl _) ?_, rfl, q _ (I.hok.fresh (Nat.le_refl _))⟩
 exact ⟨Nat.le_trans (bY0 xs lo hi) hz, _, (r.drop (HT.sIx xs.length 0 lo)).take (HT.sIx xs.length xs.length hi - HT.sIx xs.length 0 lo), IsTup.new _ _⟩
def dF1 (K : W.Frag) : R2 := fun x y H Q => ∃ a b xs ys, x = .ref a /\ y = .ref b /\ fK K H a xs /\ fK K H b ys /\ xs ≠ [] /\ xs.length + ys.length <= sizeLine /\
 (ys = [] -> Q (.ref a) H) /\ (ys ≠ [] -> ∀ p, H p = none -> Q (.ref p) (upd H p (.tup (xs ++ ys))))
theorem cE.nil_iff {xs : List V} {us : List Value} (r : cE xs us) : us = [] ↔ xs = [] := by
 cases r with
 | nil => simp
 | cons _ _ => simp
theorem dF2 : cI X (binaryOp .Add) (dF1 X.K) := by
 intro pins s σ H x y v u Q I rx ry h
 obtain ⟨a, b, xs, ys, rfl, rfl, ha, hb, hx, hz, q1, q2⟩ := h
 cases rx
 cases ry
 obtain ⟨its, r1, p1, _⟩ := I.tuple ha
 obtain ⟨its2, r2, p2, _⟩ := I.tuple hb
 refine HT.cat_tup p1 p2 (fun z => hx (r1.nil_iff.mp z)) (fun z => ⟨.ref a, H, I, rfl, q1 (r2.nil_iff.mp z)⟩) (fun z => ?_) (by rw [<- r1.length, <- r2.length]; exact hz)
 refine ⟨.ref s.heap.objs.size, _, I.laid (t' := s.toks) (o := .tup (xs ++ ys)) (fun b ob q => Heap.get?_push_of_some _ q) (Nat.le_refl _) ?_, rfl, q2 (fun w => z (r2.nil_iff.mpr w)) _ (I.hok.fresh (Nat.le_refl _))⟩
 exact ⟨by rw [List.length_append]; exact hz, _, r1.append r2, IsTup.new _ _⟩
end
end L2
namespace L2
open PySem PySem.Spec PyProof.Rows
def qB (n : Nat) (i : Int) : Option Nat := if 0 <= i then (if i < n then some i.toNat else none) else if -(n : Int) <= i then some (i + n).toNat else none
def gC {α : Type} (xs : List α) (i : Int) : Option α := (qB xs.length i).bind fun j => xs[j]?
theorem dF3 {n : Nat} {i : Int} {j : Nat} (h : qB n i = some j) : seqIndex? i n = some j /\ j < n /\ -(n : Int) <= i /\ i < n := by
 unfold qB at h
 by_cases h0 : 0 <= i
 ·rw [if_pos h0] at h
  by_cases h1 : i < n
  ·rw [if_pos h1] at h
   have e : i.toNat = j := Option.some.inj h
   exact ⟨by rw [seqIndex_of h0 h1, e], by omega, by omega, h1⟩
  ·rw [if_neg h1] at h; cases h
 ·rw [if_neg h0] at h
  by_cases h1 : -(n : Int) <= i
  ·rw [if_pos h1] at h
   have e : (i + n).toNat = j := Option.some.inj h
   exact ⟨by rw [seqIndex_neg bF h1, e], by omega, h1, by omega⟩
  ·rw [if_neg h1] at h; cases h
theorem bI2 {α : Type} {xs : List α} {i : Int} {v : α} (h : gC xs i = some v) : ∃ j, seqIndex? i xs.length = some j /\ xs[j]? = some v /\ j < xs.length /\ -(xs.length : Int) <= i /\ i < xs.length := by
 unfold gC at h
 cases e : qB xs.length i with
 | none => rw [e] at h; cases h
 | some j =>
  rw [e] at h
  obtain ⟨h1, h2, h3, h4⟩ := dF3 e
  exact ⟨j, h1, h, h2, h3, h4⟩
theorem vT {α : Type} {xs : List α} {j : Nat} {v : α} (h : xs[j]? = some v) : gC xs (j : Int) = some v := by
 have hj : j < xs.length := (List.getElem?_eq_some_iff.mp h).1
 have e : qB xs.length (j : Int) = some j := by
  unfold qB
  rw [if_pos bF, if_pos bF]; simp
 unfold gC; rw [e]; exact h
def yS (b : Expr) : Prop := ∀ o i, subscripted b false o i = operate [o, i] (getItem o i)
def qC (X : Cx) (r : R2) : Prop :=
 ∀ (value slice : Expr) (pins : List (Addr × Obj)) (s : Shared) (σ : St) (H : Hp) (x y : V) (v u : Value) (Q : VK), bE X pins σ H s -> cJ x v -> cJ y u -> r x y H Q ->
   subscripted slice false v u = operate [v, u] (getItem v u) -> wpAny (model X.prog X.w) X.A (subscriptTail value slice v u) (EP X pins σ Q) X.xe s
def lM (X : Cx) (id : String) (r : V -> List V -> Hp -> VK -> Prop) : Prop :=
 ∀ (pins : List (Addr × Obj)) (s : Shared) (σ : St) (H : Hp) (x : V) (xs : List V) (v : Value) (us : List Value) (Q : VK), bE X pins σ H s -> cJ x v -> cE xs us -> r x xs H Q ->
   wpAny (model X.prog X.w) X.A (call (.builtin id) (v :: us)) (EP X pins σ Q) X.xe s
section
variable {X : Cx} {a b : Expr} {ta tb : TE} {pos : Pos}
theorem bY1 {r : R2} (hr : qC X r) (ha : PE X a ta) (hb : PE X b tb) (hs : yS b) : PE X (.Subscript a b pos) (vS r ta tb) := by
 intro pins s σ H Q I h
 exact Subscript_ (bH2 ha hb I h fun v u s2 x y H2 I2 rx ry q => hr a b pins s2 σ H2 x y v u Q I2 rx ry q (hs _ _))
def dF4 (K : W.Frag) : R2 := fun x y H Q => ∃ p xs i v, x = .ref p /\ y = .int i /\ dF K H p xs /\ gC xs i = some v /\ Q v H
def dF5 (K : W.Frag) : R2 := fun x y H Q => ∃ p xs i v, x = .ref p /\ y = .int i /\ fK K H p xs /\ gC xs i = some v /\ Q v H
def dF6 : R2 := fun x y H Q => ∃ z i c, x = .str z /\ y = .int i /\ z.length <= sizeLine /\ gC z.cps.toList i = some c /\ Q (.str ⟨#[c]⟩) H
theorem dF7 : qC X (dF4 X.K) := by
 intro value slice pins s σ H x y v u Q I rx ry h hs
 obtain ⟨p, xs, i, z, rfl, rfl, hq, he, q⟩ := h
 cases rx
 obtain ⟨t, rfl⟩ := ry
 obtain ⟨its, r, pl, hz⟩ := I.list hq
 obtain ⟨j, h1, h2, h3, h4, h5⟩ := bI2 he
 obtain ⟨w, ew, rw'⟩ := r.get h2
 have hl := r.length
 have hn := rH
 have fin : EP X pins σ Q w s := ⟨z, H, I, rw', q⟩
 by_cases h0 : 0 <= i
 ·have hj : i.toNat = j := by
   rw [seqIndex_of h0 h5] at h1
   exact Option.some.inj h1
  exact item_listR pl.isList h0 bF (by rw [hj]; simpa using ew) fin hs
 ·have hj : (i + (its.toArray.size : Int)).toNat = j := by
   rw [seqIndex_neg bF h4] at h1
   rw [List.size_toArray, <- hl]
   exact Option.some.inj h1
  exact subscriptTail_builtinR (x := w) pl.isList.typeIs slot_list_getitem.lookup
   (wpAny_getItem_list_neg (Q := fun r s' => r = w /\ EP X pins σ Q r s') pl.isList bF (by rw [List.size_toArray] <;> omega) bF (by rw [hj]; simpa using ew) ⟨rfl, fin⟩) hs
theorem dF8 : qC X (dF5 X.K) := by
 intro value slice pins s σ H x y v u Q I rx ry h hs
 obtain ⟨p, xs, i, z, rfl, rfl, hq, he, q⟩ := h
 cases rx
 obtain ⟨t, rfl⟩ := ry
 obtain ⟨its, r, pl, hz⟩ := I.tuple hq
 obtain ⟨j, h1, h2, h3, h4, h5⟩ := bI2 he
 obtain ⟨w, ew, rw'⟩ := r.get h2
 have hl := r.length
 have hn := rH
 have fin : EP X pins σ Q w s := ⟨z, H, I, rw', q⟩
 exact subscriptTail_builtinR (x := w) pl.typeIs slot_tuple_getitem.lookup
  (getItem_tuple (j := j) (Q := fun r s' => r = w /\ EP X pins σ Q r s') pl bF bF (by rw [List.size_toArray, <- hl]; exact h1) (by simpa using ew) ⟨rfl, fin⟩) hs
theorem dF9 : qC X dF6 := by
 intro value slice pins s σ H x y v u Q I rx ry h hs
 obtain ⟨z, i, c, rfl, rfl, hz, he, q⟩ := h
 obtain ⟨t, rfl⟩ := rx
 obtain ⟨t', rfl⟩ := ry
 obtain ⟨j, h1, h2, h3, h4, h5⟩ := bI2 he
 have hl : z.cps.toList.length = z.length := by simp [Str.length]
 rw [hl] at h1 h4 h5
 have hn := rH
 exact tail_any (typeIs_str s z t) slot_str_getitem.lookup (getItem_str (c := c) (by
  have e1 : decide (i < -(2 ^ 63 : Int)) = false := decide_eq_false bF
  have e2 : decide (i ≥ 2 ^ 63) = false := decide_eq_false bF
  rw [e1, e2, Bool.or_false]) (by rw [h1]; simpa using h2) ⟨.str ⟨#[c]⟩, H, I.tok _, ⟨_, rfl⟩, q⟩) hs
theorem dG0 (lo hi : Option Int) (n : Nat) : (sliceBounds lo hi none n).1 = ((HT.sIx n 0 lo : Nat) : Int) /\ (sliceBounds lo hi none n).2.1 = ((HT.sIx n n hi : Nat) : Int) /\ (sliceBounds lo hi none n).2.2 = 1 := by
 refine ⟨?_, ?_, rfl⟩
 ·cases lo with
  | none => simp [sliceBounds, HT.sIx]
  | some i =>
   simp only [sliceBounds, HT.sIx, Option.getD_none, show (1 : Int) > 0 by decide, if_true]
   by_cases h : i < 0
   ·simp only [h, if_true] <;> omega
   ·simp only [h, if_false] <;> omega
 ·cases hi with
  | none => simp [sliceBounds, HT.sIx]
  | some i =>
   simp only [sliceBounds, HT.sIx, Option.getD_none, show (1 : Int) > 0 by decide, if_true]
   by_cases h : i < 0
   ·simp only [h, if_true] <;> omega
   ·simp only [h, if_false] <;> omega
theorem dG1 (its : List Value) (lo hi : Option Int) : slicePick its.toArray lo hi none = ((its.drop (HT.sIx its.length 0 lo)).take (HT.sIx its.length its.length hi - HT.sIx its.length 0 lo)).toArray := by
 obtain ⟨h1, h2, h3⟩ := dG0 lo hi its.toArray.size
 unfold slicePick
 rw [h1, h2, h3]
 simp only [sliceRange_one, pick_run, List.size_toArray] <;> rfl
def dG2 (K : W.Frag) : V -> Option Int -> Option Int -> Hp -> VK -> Prop := fun x lo hi H Q => ∃ a xs, x = .ref a /\ dF K H a xs /\ ∀ p, H p = none -> Q (.ref p) (upd H p (.lst (pM xs lo hi)))
theorem dG3 : yR X (dG2 X.K) := by
 intro pins s σ H x v vl vu lo hi sl Q I rx hs pl pu h
 obtain ⟨a, xs, rfl, hx, q⟩ := h
 cases rx
 obtain ⟨its, r, ht, hz⟩ := I.list hx
 have hlen := r.length
 refine ⟨"list", _, slot_list_getitem.lookup, ht.isList.typeIs, ?_⟩
 refine wpAny_getItem_list_slice ht.isList hs pl pu .none (by simp) ?_ (by rw [List.size_toArray] <;> omega)
 rw [dG1, <- hlen]
 refine ⟨.ref s.heap.objs.size, _, I.laid (t' := s.toks) (o := .lst (pM xs lo hi)) (fun b ob q => Heap.get?_push_of_some _ q) (Nat.le_refl _) ?_, rfl, q _ (I.hok.fresh (Nat.le_refl _))⟩
 exact ⟨Nat.le_trans (bY0 xs lo hi) hz, _, 0, (r.drop (HT.sIx xs.length 0 lo)).take (HT.sIx xs.length xs.length hi - HT.sIx xs.length 0 lo), Heap.get?_push_size _ rfl⟩
theorem bY2 : fG X (.builtin "len") (fun xs H Q => ∃ p ys, xs = [.ref p] /\ (dF X.K H p ys \/ fK X.K H p ys) /\ Q (.int ys.length) H) := by
 intro pins s σ H xs us Q I r h
 obtain ⟨p, ys, rfl, hq, q⟩ := h
 obtain ⟨u, rfl, rx⟩ := kN r
 cases rx
 have hn := rH
 rcases hq with hq | hq
 ·obtain ⟨its, r', pl, hz⟩ := I.list hq
  have hlen := r'.length
  exact Calls.call_len_list pl.isList (by simp only [List.size_toArray] <;> omega) ⟨.int ys.length, H, I.tok _, ⟨s.toks + 1, by rw [List.size_toArray, hlen]⟩, q⟩
 ·obtain ⟨its, r', pl, hz⟩ := I.tuple hq
  have hlen := r'.length
  exact len_tuple pl (by simp only [List.size_toArray] <;> omega) ⟨.int ys.length, H, I.tok _, ⟨s.toks + 1, by rw [List.size_toArray, hlen]⟩, q⟩
theorem dG4 : fG X (.builtin "len") (fun xs H Q => ∃ z, xs = [.str z] /\ z.length <= sizeLine /\ Q (.int z.length) H) := by
 intro pins s σ H xs us Q I r h
 obtain ⟨z, rfl, hz, q⟩ := h
 obtain ⟨u, rfl, t, rfl⟩ := kN r
 have hn := rH
 exact len_str bF ⟨.int z.length, H, I.tok _, ⟨_, rfl⟩, q⟩
theorem bI3 : fG X (.type "list") (fun xs H Q => ∃ p ys, xs = [.ref p] /\ (dF X.K H p ys \/ fK X.K H p ys) /\ ∀ l, H l = none -> Q (.ref l) (upd H l (.lst ys))) := by
 intro pins s σ H xs us Q I r h
 obtain ⟨p, ys, rfl, hq, q⟩ := h
 obtain ⟨u, rfl, rx⟩ := kN r
 cases rx
 have fin : ∀ (its : List Value), cE ys its -> ys.length <= sizeLine -> ∀ (h' : Heap) (c' : Nat), (∀ b o', s.heap.get? b = some o' -> h'.get? b = some o') ->
  h'.get? s.heap.objs.size = some { cls := .type "list", dict := none, data := .seq its.toArray c', slots := #[] } -> EP X pins σ Q (.ref s.heap.objs.size) { s with heap := h' } := fun its r' hz h' c' kp e =>
  ⟨.ref s.heap.objs.size, _, I.laid (t' := s.toks) kp (Nat.le_refl _) (show gO X.prog X.w _ h' _ (.lst ys) from ⟨hz, its, c', r', e⟩), rfl, q _ (I.hok.fresh (Nat.le_refl _))⟩
 rcases hq with hq | hq
 ·obtain ⟨its, r', pl, hz⟩ := I.list hq
  have hlen := r'.length
  obtain ⟨o, ho, hc, n, hd⟩ := pl.isList
  exact call_list_seq p (.inl rfl) ho hc hd (fun h' c' kp e => fin its r' hz h' c' kp e) (by simp only [List.size_toArray] <;> omega)
 ·obtain ⟨its, r', pl, hz⟩ := I.tuple hq
  have hlen := r'.length
  obtain ⟨o, ho, hc, n, hd⟩ := pl
  exact call_list_seq p (.inr rfl) ho hc hd (fun h' c' kp e => fin its r' hz h' c' kp e) (by simp only [List.size_toArray] <;> omega)
theorem bY3 : fG X (.type "tuple") (fun xs H Q => ∃ p ys, xs = [.ref p] /\ ((dF X.K H p ys /\ ∀ l, H l = none -> Q (.ref l) (upd H l (.tup ys))) \/ (fK X.K H p ys /\ Q (.ref p) H))) := by
 intro pins s σ H xs us Q I r h
 obtain ⟨p, ys, rfl, h⟩ := h
 obtain ⟨u, rfl, rx⟩ := kN r
 cases rx
 rcases h with ⟨hq, q⟩ | ⟨hq, q⟩
 ·obtain ⟨its, r', pl, hz⟩ := I.list hq
  have hlen := r'.length
  refine call_tuple_list pl.isList (fun h' kp => ?_) (by simp only [List.size_toArray] <;> omega)
  have I1 : bE X pins σ H { s with heap := h' } := I.kept (t' := s.toks) kp
  have I2 : bE X pins σ (upd H h'.objs.size (.tup ys)) { s with heap := h'.push { cls := .type "tuple", data := .seq its.toArray } } :=
   I1.laid (t' := s.toks) (fun b o e => Heap.get?_push_of_some _ e) (Nat.le_refl _) (show gO X.prog X.w _ _ _ (.tup ys) from ⟨hz, its, r', IsTup.new _ _⟩)
  exact ⟨.ref h'.objs.size, _, I2, rfl, q _ (I1.hok.fresh (Nat.le_refl _))⟩
 ·obtain ⟨its, r', pl, hz⟩ := I.tuple hq
  exact call_tuple_same pl ⟨.ref p, H, I, rfl, q⟩
def tyV (K : W.Frag) (T : String) (x : V) (H : Hp) : Prop := match x with
 | .str _ => T = "str"
 | .int _ => T = "int"
 | .ref p => (T = "list" /\ ∃ xs, dF K H p xs) \/ (T = "tuple" /\ ∃ o, K.lookup p = some o /\ o.cls = .type "tuple" /\ o.dict = none) \/
  (T = "dict" /\ ((∃ kvs, H p = some (.dK kvs)) \/ ∃ kvs, H p = some (.dT kvs))) \/ (T = "set" /\ ∃ S n, H p = some (.set S n))
 | _ => False
theorem bY4 {pins : List (Addr × Obj)} {σ : St} {H : Hp} {s : Shared} {T : String} {x : V} {v : Value} (I : bE X pins σ H s) (r : cJ x v) (ty : tyV X.K T x H) :
 s.TypeIs v T /\ ∀ a, v = .ref a -> ∃ ob, s.heap.get? a = some ob /\ ob.dict = none := by
 cases x with
 | str z =>
  obtain ⟨t, rfl⟩ := r
  cases (show T = "str" from ty)
  exact ⟨typeIs_str s z t, fun _ e => nomatch e⟩
 | int i =>
  obtain ⟨t, rfl⟩ := r
  cases (show T = "int" from ty)
  exact ⟨typeIs_int s i t, fun _ e => nomatch e⟩
 | ref p =>
  cases r
  rcases ty with ⟨rfl, xs, hq⟩ | ⟨rfl, o, hk, hc, hd⟩ | ⟨rfl, hk⟩ | ⟨rfl, S, n, hk⟩
  ·obtain ⟨its, _, pl, _⟩ := I.list hq
   refine ⟨pl.isList.typeIs, fun a e => ?_⟩
   cases e
   obtain ⟨o, n, e, c, hd, _⟩ := pl
   exact ⟨o, e, hd⟩
  ·refine ⟨⟨o, I.kIn p o hk, hc⟩, fun a e => ?_⟩
   cases e
   exact ⟨o, I.kIn _ o hk, hd⟩
  ·have z : ∃ o, s.heap.get? p = some o /\ o.ExactDict := by
    rcases hk with ⟨kvs, hk⟩ | ⟨kvs, hk⟩
    ·obtain ⟨_, _, _, _, o, _, _, e, ex, _⟩ := I.hok p _ hk
     exact ⟨o, e, ex⟩
    ·obtain ⟨_, _, _, _, o, _, _, e, ex, _⟩ := I.hok p _ hk
     exact ⟨o, e, ex⟩
   obtain ⟨o, e, ex⟩ := z
   refine ⟨⟨o, e, ex.1⟩, fun a e2 => ?_⟩
   cases e2
   exact ⟨o, e, ex.2.1⟩
  ·obtain ⟨o, _, _, _, e, ex, _⟩ := I.hok p _ hk
   refine ⟨⟨o, e, ex.1⟩, fun a e2 => ?_⟩
   cases e2
   exact ⟨o, e, ex.2.1⟩
 | _ => exact False.elim ty
def dG5 (K : W.Frag) (T : String) (r : V -> List V -> Hp -> VK -> Prop) (to : TE) : TE := fun σ H Q => to σ H fun x H1 => tyV K T x H1 /\ r x [] H1 Q
def tBM (K : W.Frag) (T : String) (r : V -> List V -> Hp -> VK -> Prop) (to : TE) (t : TA) : TE := fun σ H Q => to σ H fun x H1 => tyV K T x H1 /\ t σ H1 fun xs H2 => r x xs H2 Q
variable {o e : Expr} {es : List Expr} {to : TE} {t : TA} {name : Str} {apos cpos : Pos} {T id : String} {r : V -> List V -> Hp -> VK -> Prop}
theorem dG7 (pa : PlainAttrs T) (slot : Slot T name id) (hty : typeOf (.builtin id) = pure (.type "method_descriptor")) (hm : lM X id r) (ho : PE X o to)
 (hbase : attributeBase o name X.env (eval o X.env) = eval o X.env := by rfl) (hline : (apos.endLine == cpos.line) = true := by rfl) : PE X (.Call (.Attribute o name apos) [] [] cpos) (dG5 X.K T r to) := by
 intro pins s σ H Q I h
 refine wpAny_Call_method0_late hbase hline (cC (ho pins s σ H _ I h) fun v s1 ⟨x, H1, I1, r1, ty, q1⟩ => ?_)
 obtain ⟨h1, h2⟩ := bY4 I1 r1 ty
 exact ⟨T, id, pa, slot, hty, h1, h2, Calls.callWith_builtin rfl (PySem.evalArgs_none (hm pins s1 σ H1 x [] v [] Q I1 r1 .nil q1))⟩
theorem bI5 (pa : PlainAttrs T) (slot : Slot T name id) (hty : typeOf (.builtin id) = pure (.type "method_descriptor")) (hm : lM X id r) (ho : PE X o to) (ha : PA X (e :: es) t)
 (hbase : attributeBase o name X.env (eval o X.env) = eval o X.env := by rfl)
 (hfew : ((backTo cpos (starEach (e :: es) X.env)).all (fun x => !x.1) && (backToKw cpos (keywordEach [] X.env)).all (fun x => x.1.isSome)
   && decide ((e :: es).length + ([] : List Keyword).length + (if ([] : List Keyword).isEmpty then 0 else 1) < 30)) = true := by rfl)
 (hline : (apos.endLine == cpos.line) = true := by rfl) (hs : starEach (e :: es) X.env = (false, eval e X.env) :: starEach es X.env := by rfl) (hplain : (backTo cpos (starEach es X.env)).any (·.1) = false := by rfl) :
 PE X (.Call (.Attribute o name apos) (e :: es) [] cpos) (tBM X.K T r to t) := by
 intro pins s σ H Q I h
 refine wpAny_Call_method_late hbase hfew hline rfl (cC (ho pins s σ H _ I h) fun v s1 ⟨x, H1, I1, r1, ty, q1⟩ => ?_)
 obtain ⟨h1, h2⟩ := bY4 I1 r1 ty
 refine ⟨T, id, pa, slot, hty, h1, h2, ?_⟩
 have hA := ha cpos pins s1 σ H1 _ I1 q1
 rw [hs] at hA ⊢
 refine Calls.callWith_builtin (by show (false || (backTo cpos (starEach es X.env)).any (·.1)) = false; rw [hplain] <;> rfl) (Calls.evalArgs_plain ?_)
 exact cC hA fun us s2 ⟨vs, H2, I2, r2, q2⟩ => hm pins s2 σ H2 x vs v us Q I2 r1 r2 q2
/- xs.append(e), list.index on a module's tuple .. are lM facts of 06m -/
end
end L2
namespace L2
open PySem PySem.Spec PyProof.Rows
def MtM (X : Cx) (id : String) (r : V -> List V -> Hp -> VK -> Prop) : Prop :=
 ∀ (pins : List (Addr × Obj)) (s : Shared) (σ : St) (H : Hp) (x : V) (xs : List V) (v : Value) (us : List Value) (Q : VK), bE X pins σ H s -> cJ x v -> cE xs us -> r x xs H Q ->
   wpAny (model X.prog X.w) X.A (call (.builtin id) (v :: us)) (EP X pins σ Q) X.xe s
theorem cE.one : ∀ {x : V} {us : List Value}, cE [x] us -> ∃ u, us = [u] /\ cJ x u
 | _, _, .cons r .nil => ⟨_, rfl, r⟩
theorem cE.eraseIdx : ∀ {xs : List V} {us : List Value} (i : Nat), cE xs us -> cE (xs.eraseIdx i) (us.eraseIdx i)
 | _, _, _, .nil => .nil
 | _, _, 0, .cons _ t => t
 | _, _, i + 1, .cons r t => .cons r (cE.eraseIdx i t)
theorem cE.reverse {xs : List V} {us : List Value} (h : cE xs us) : cE xs.reverse us.reverse := by
 induction h with
 | nil => exact .nil
 | cons r t ih => rw [List.reverse_cons, List.reverse_cons]; exact cE.append ih (.cons r .nil)
section
variable {X : Cx} {pins : List (Addr × Obj)} {σ : St} {H : Hp} {s : Shared} {l b : Addr} {xs ys zs : List V}
theorem bE.lset {its its' : List Value} {n : Nat} {f : Array Value -> Array Value} {t' : Nat} (I : bE X pins σ H s) (hH : H l = some (.lst xs))
 (e : s.heap.get? l = some { cls := .type "list", data := .seq its.toArray n }) (hf : f its.toArray = its'.toArray) (hv : cE ys its') (hz : ys.length <= sizeLine) :
 bE X pins σ (upd H l (.lst ys)) { s with heap := s.heap.update l (Obj.mapSeq f), toks := t' } := by
 have q := PySem.IsL.update e f
 rw [hf] at q
 refine I.write (x := l) (e := l) (by rw [hH]; exact trivial) (.inl rfl) (fun b' u hb hu => (Heap.get?_update_other s.heap (Obj.mapSeq f) (Ne.symm hb)).trans hu) ⟨_, q⟩ ?_
 exact ⟨hz, its', _, hv, q⟩
theorem bE.lnew {its : List Value} {t' : Nat} (I : bE X pins σ H s) (hv : cE ys its) (hz : ys.length <= sizeLine) :
 bE X pins σ (upd H s.heap.objs.size (.lst ys)) { s with heap := s.heap.push { cls := .type "list", data := .seq its.toArray }, toks := t' } :=
 I.laid (fun _ _ q => Heap.get?_push_of_some _ q) (Nat.le_refl _) ⟨hz, its, 0, hv, Heap.get?_push_size _ rfl⟩
theorem bE.fresh (I : bE X pins σ H s) : H s.heap.objs.size = none := I.hok.fresh (Nat.le_refl _)
theorem bE.lstM (I : bE X pins σ H s) (hH : H l = some (.lst xs)) : xs.length <= sizeLine /\ ∃ (its : List Value) (n : Nat), cE xs its /\ xs.length = its.length /\ s.heap.get? l = some { cls := .type "list", data := .seq its.toArray n } := by
 obtain ⟨z, its, n, r, e⟩ := I.hok l _ hH
 exact ⟨z, its, n, r, r.length, e⟩
theorem bY6 {n : Nat} (h : n <= sizeLine) : Builtin.List.listTooLong n = false := by
 unfold Builtin.List.listTooLong
 exact decide_eq_false bF
end
section
variable {X : Cx}
def dG8 : V -> List V -> Hp -> VK -> Prop := fun x vs H Q => ∃ l xs y, x = .ref l /\ vs = [y] /\ H l = some (.lst xs) /\ xs.length < sizeLine /\ Q .non (upd H l (.lst (xs ++ [y])))
theorem bY7 : MtM X "list.append" dG8 := by
 intro pins s σ H x vs v us Q I rx rv h
 obtain ⟨l, xs, y, rfl, rfl, hH, hz, q⟩ := h
 cases rx
 obtain ⟨u, rfl, ru⟩ := rv.one
 obtain ⟨z, its, n, r, hl, e⟩ := I.lstM hH
 refine call_meets F.slot_list_append ⟨_, e, rfl⟩ F.entry_list_append (F.args_list_append_2 _ _) (PySem.list_append l its.toArray n u (by rw [List.size_toArray]; omega)) ⟨e, ?_⟩
 refine ⟨.non, _, I.lset (its' := its ++ [u]) hH e (by simp) (r.append (.cons ru .nil)) ?_, rfl, q⟩
 rw [List.length_append, List.length_singleton]
 omega
end
section
variable {prog : Program} {w : World} {A : Around} {E : Value -> Shared -> Prop} {s : Shared}
set_option maxRecDepth 100000 in
end
section
variable {X : Cx}
end
end L2
namespace Att
open PySem PySem.W PySem.Calls PyProof.Rows
theorem dG9 {P : Params} {h : Heap} : ∀ (ns : List Int) (vs : List Value), WellAll P h vs (ns.map WData.int) -> IntsAre vs ns := by
 intro ns
 induction ns with
 | nil =>
  intro vs w
  rw [List.map_nil] at w
  cases w
  exact .nil
 | cons n ns ih =>
  intro vs w
  rw [List.map_cons] at w
  cases w with
  | cons a b =>
   cases a
   exact .cons _ _ (ih _ b)
theorem dH0 {l : OpenLaw} {n : Nat} (hn : l.most = some n) {P : Params} {h : Heap} {args : List WData} {vals : List Value}
 (hpre : l.row.toRowW.claim.pre args = true) (hwl : WellAll P h vals args) :
 ∃ a vs ns, vals = [Value.ref a] /\ args = [WData.list (ns.map WData.int)] /\ h.get? a = some { cls := .type "list", data := .seq vs.toArray } /\ IntsAre vs ns /\ ns.length <= n := by
 have hsh : WShape.hasAll [] args [.list .int] = true := (pre_splitW hpre).1
 have hc : l.pre.holds [] { args := args } = true := (pre_splitW hpre).2
 obtain ⟨d, r, rfl, h1, h2⟩ := hasAllW_cons hsh
 obtain rfl := hasAllW_nil h2
 obtain ⟨xs, rfl, h3⟩ := hasW_list h1
 obtain ⟨ns, rfl⟩ := items_int h3
 have hlen : ns.length <= n := by
  unfold OpenLaw.pre at hc
  have h4 : (WTm.not (.lt (.lit (.int (n : Int))) (.len (.arg 0)))).holds [] { args := [.list (ns.map .int)] } = true := by
   have h4 := (holds_andW hc).1
   rw [hn] at h4
   exact h4
  have h5 := condW_of h4 (w_not (w_lt w_lit (w_len_list (w_arg rfl))))
  rw [List.length_map] at h5
  refine Nat.le_of_not_lt fun q => ?_
  have q' : (n : Int) < ((ns.length : Nat) : Int) := by omega
  first
   | (rw [decide_eq_true q'] at h5; exact absurd h5 (by decide))
   | (simp at h5; omega)
 cases hwl with
 | cons w1 w2 =>
  cases w2
  cases w1 with
  | list ho hall => exact ⟨_, _, ns, rfl, rfl, ho, dG9 ns _ hall, hlen⟩
theorem dH1 (l : OpenLaw) (args : List WData) : l.row.toRowW.claim.post args (.bool true) args = true :=
 postW_of (r := l.row.toRowW) (X := (true == true))
  (show WShape.has [] (.bool true) .bool = true by first | rfl | decide | simp [WShape.has, WShape.arms, WShape.armsAll])
  (show (WTm.eq .res (.lit (.bool true))).value [] { args := args, res := some (.bool true), after := args } = some (.bool (true == true)) from w_eq_bool (w_res rfl) w_lit) rfl
theorem attach_call {l : OpenLaw} {n : Nat} {q : Program} {loose : List Str} {XP : (Str -> Option Value) -> Heap -> Prop} {YP : World -> Heap -> Prop} {d : DefRec}
 (hn : l.most = some n) (hdf : d.params.defaults = [])
 (call : ∀ (w : World) (s₀ s₁ : Shared) (mg mb : Str -> Option Value) (fa : Addr) (o : Obj) (pm cd doc : Value) (a : Addr) (vs : List Value) (ns : List Int),
   Ground q loose [] XP w s₀ mg mb s₁.heap -> YP w s₁.heap ->
   s₁.heap.get? fa = some o -> o.data = .func (docDef d.name d.params d.body d.scope pm cd doc) -> s₁.heap.CodeRec cd d.name -> mg d.name = some (.ref fa) ->
   s₁.heap.get? a = some { cls := .type "list", data := .seq vs.toArray } -> IntsAre vs ns -> ns.length <= n -> s₁.gens = #[] ->
   codeAny (model l.prog w) callerA (.call (.ref fa) ⟨[.ref a], []⟩) (fun r s' => r = .ok (.ret (.bool true)) /\ OldK s₁.heap s'.heap /\ s'.os = s₁.os /\ AllBare s'.gens) s₁) :
 WalkO q loose XP YP l.row.toRowW d [] (fun f vs => PySem.call f vs) := by
 intro w s₀ s₁ mg mb G Y fa o pm cd doc dV kV ho hd hcd hD hmg hg args vals as hpre hlay hrd hwl hlo
 obtain rfl : dV = .none := Dflts.none hD hdf
 obtain rfl : kV = .none := Dflts.noKw hD
 obtain ⟨a, vs, ns, rfl, rfl, hobj, hints, hlen⟩ := dH0 hn hpre hwl
 refine enter_call (codeAny_mono (call w s₀ s₁ mg mb fa o pm cd doc a vs ns G Y ho (fd_plain hd) hcd hmg hobj hints hlen hg) fun r s' hq => ?_)
 obtain ⟨rfl, h2, h3, h4⟩ := hq
 exact ⟨.inl ⟨.bool true, .bool true, [], rfl, fun _ => rfl, .bool true, dH1 l _, fun _ => ⟨List.Pairwise.nil, fun _ hm => (nomatch hm)⟩⟩, h2, h3, h4⟩
section
variable {prog : Program} {w : World} {A : Around} {E : Value -> Shared -> Prop} {s : Shared} {K : Frag}
def fU0 (h : Heap) (L d : Addr) : List (Addr × Obj) := (List.range h.objs.size).filterMap fun a => if a = L \/ a = d then none else (h.get? a).map fun o => (a, o)
end
end Att
namespace L2
open PySem PySem.Spec PyProof.Rows
theorem bY8 : ∀ {vs : List Value} {ns : List Int}, IntsAre vs ns -> cE (ns.map V.int) vs
 | _, _, .nil => .nil
 | _, _, .cons n t h => .cons ⟨t, rfl⟩ (bY8 h)
end L2
namespace L2
open PySem PySem.Spec PyProof.Rows
abbrev KOf {K : W.Frag} {h : Heap} (_ : K.In h) : W.Frag := K
end L2
/- THE LAST THEOREM (shape; LID, My.* are yours):
   My.Adr: a structure of the addresses that your layer names (classes, functions); My.Txt K t: a structure (Prop) of the equations over K;
   My.txt_mk : {K} {implicit addresses ..} (e1 : nsIn K mainGlobals "law" = some (some (.ref f))) (e2 : K.lookup f = some ⟨oc, od, .func (fnOf "law" "law" params body scope dV kV doc pm an cdv ct), sl⟩) (e3 : codeIn K cdv "law" = true) .. : ∃ t, My.Txt K t
set_option maxRecDepth 100000 in
set_option maxHeartbeats 0 in
theorem PySem.Challenge.cw_LID_holds : PySem.Challenge.rw_LID.Holds := by
 w_on; o_law; k_head; (case hw => w_witness2)
 k_fill
 refine L2.walk_of (l := PySem.Challenge.rw_LID) (n := 63) (k := 40) (x := "script") (CX := fun w => ..) (sp := fun _ => My.sp_law) rfl (by decide) rfl ⟨rfl, by decide, by decide⟩ (fun w h Y => W.kIn_of Y) ?F ?S ?C
 case F =>
  intro w mg fa h KX G hmg
  have T : ∃ t, My.Txt (L2.KOf KX) t := by
   dsimp only [L2.KOf]                          -- K must stand as «<heap const> w.params» for k_is
   refine' My.txt_mk ?e1 ?e2 ?e3 ..
   (case e1 => W.k_is)                    -- in the order: a name -> its address -> its object -> its parts
   (case e2 => W.k_is)
   ..
  obtain ⟨t, T⟩ := T
  have e0 := hmg.symm.trans (W.mg_of KX G T.law)
  cases e0                                       -- fa is the law's own address
  exact ⟨_, fun s u => .of_eq rfl, fun base kb nb => My.law_fn T kb nb⟩     -- if «.of_eq rfl» comes too early: refine' ⟨_, ?b, fun base kb nb => My.law_fn T kb nb⟩; exact fun s u => .of_eq rfl
 case S => exact fun w H a ns hl hO hS => ..
 case C => exact ..
(the tactic k_is has no namespace: write k_is) -/
namespace L2
open PySem PySem.Spec PyProof.Rows
def vU (s : Stmt) : Arguments := match s with
 | .FunctionDef _ a _ _ _ _ _ _ _ _ => a
 | _ => { posonlyargs := [], args := [], vararg := none, kwonlyargs := [], kw_defaults := [], kwarg := none, defaults := [] }
def mF (s : Stmt) : List Stmt := match s with
 | .FunctionDef _ _ b _ _ _ _ _ _ _ => b
 | _ => []
def bH (s : Stmt) : Scope := match s with
 | .FunctionDef _ _ _ _ _ _ sc _ _ _ => sc
 | _ => { kind := .function, names := [], isGenerator := false, isCoroutine := false }
abbrev bU : mE := fun _ _ _ _ _ _ => False
abbrev E0 : XK := fun _ _ _ => False
theorem yT {X : Cx} : bH9 bU X E0 := fun _ _ _ _ _ _ _ h => h.elim
structure bK (K : W.Frag) (x qual : Str) (st : Stmt) (f : Addr) (fd : FuncData) : Prop where
 ex : ∃ (oc : Value) (od : Option Addr) (kV doc pm : Value) (an : Option Addr) (cdv ct : Value) (osl : Array (Option Value)),
  fd = W.fnOf x qual (vU st) (mF st) (bH st) .none kV doc pm an cdv ct /\ K.lookup f = some ⟨oc, od, .func fd, osl⟩ /\ W.codeIn K cdv qual = true
 kp : W.keepIn K (.ref f) = true
section
variable {P : Program} {w : World} {K : W.Frag} {mg : Str -> Option Value} {base : Heap}
theorem bK.ok {x qual : Str} {st : Stmt} {f : Addr} {fd : FuncData} {N ps : List Str} {k : Nat} {sp : Sp} (F : bK K x qual st f fd) (S : dE N ps (bH st)) (len : ∀ vs H Q E, sp vs H Q E -> vs.length = ps.length)
 (hbody : ∀ (cdv : Value) (A : Around) (outer : List Env) (s : Shared) (H : Hp) (vs : List V) (Q : VK) (E : XK), dR k (A.deeper (envOfC qual (bH st) s.heap.objs.size f cdv)) -> sp vs H Q E ->
   ∃ t, jS (mV bU P w K mg base N qual (bH st) f cdv A outer s H E).nox (mF st) t /\ t { nx := fun _ H' => Q .non H', rt := Q } (start N vs) H) : bS P w K mg base bU (k + 1) f fd ps sp := by
 obtain ⟨oc, od, kV, doc, pm, an, cdv, ct, osl, rfl, lk, hcd⟩ := F.ex
 refine dD9 lk hcd S len fun A outer s H vs Q E hr hsp => ?_
 obtain ⟨t, h, q⟩ := hbody cdv A outer s H vs Q E hr hsp
 exact ⟨t, h.nox, q⟩
theorem bK.binds {x qual : Str} {st : Stmt} {f : Addr} {fd : FuncData} {ps : List Str} (F : bK K x qual st f fd)
 (h : ∀ (kV doc pm : Value) (an : Option Addr) (cdv ct : Value) (us : List Value), us.length = ps.length -> bindArgs (W.fnOf x qual (vU st) (mF st) (bH st) .none kV doc pm an cdv ct) ⟨us, []⟩ = pure (ps.zip us)) : cS K fd ps [] := by
 obtain ⟨oc, od, kV, doc, pm, an, cdv, ct, osl, rfl, lk, hcd⟩ := F.ex
 exact .all (h kV doc pm an cdv ct)
theorem dM {x qual : Str} {st : Stmt} {f : Addr} {oc : Value} {od an : Option Addr} {osl : Array (Option Value)} {kV doc pm cdv ct : Value} (l : K.lookup f = some ⟨oc, od, .func (W.fnOf x qual (vU st) (mF st) (bH st) .none kV doc pm an cdv ct), osl⟩)
 (c : W.codeIn K cdv qual = true) (k : W.keepIn K (.ref f) = true) : bK K x qual st f (W.fnOf x qual (vU st) (mF st) (bH st) .none kV doc pm an cdv ct) := ⟨⟨oc, od, kV, doc, pm, an, cdv, ct, osl, rfl, l, c⟩, k⟩
end
theorem bY9 {n : Nat} (h : n <= 1000) : n < sizeLine := Nat.lt_of_le_of_lt h (by decide)
section
variable {X : Cx}
end
theorem pN {A B : Prop} (h : B) : if false = true then A else B := by
 rw [if_neg Bool.false_ne_true]
 exact h
theorem nQ {A B : Prop} (h : A) : if true = true then A else B := by
 rw [if_pos rfl]
 exact h
def bG (H H' : Hp) : Prop := ∀ b o, H b = some o -> H' b = some o
theorem bG.refl (H : Hp) : bG H H := fun _ _ h => h
theorem bG.trans {H H1 H2 : Hp} (a : bG H H1) (b : bG H1 H2) : bG H H2 := fun c o h => b c o (a c o h)
theorem bG.free {H H' : Hp} (e : bG H H') {l : Addr} (h : H' l = Option.none) : H l = Option.none := by
 cases q : H l with
 | none => rfl
 | some o =>
  rw [e l o q] at h
  cases h
theorem bG.seq {K : W.Frag} {H H' : Hp} {a : Addr} {xs : List V} (e : bG H H') (h : dF K H a xs) : dF K H' a xs := by
 rcases h with (h | ⟨o, h⟩) | h
 ·exact .inl (.inl (e _ _ h))
 ·exact .inl (.inr ⟨o, e _ _ h⟩)
 ·exact .inr h
end L2
end
section
namespace L2
open PySem PySem.Spec PyProof.Rows
end L2
namespace L2
open PySem PySem.Spec PyProof.Rows
section
variable {κ : Type} [DecidableEq κ]
def kF (kvs : List (κ × V)) (k : κ) : Option V := (kvs.find? fun kv => decide (kv.1 = k)).map (·.2)
def lB (kvs : List (κ × V)) (k : κ) (v : V) : List (κ × V) :=
 if (kvs.any fun kv => decide (kv.1 = k)) = true then kvs.map (fun kv => if kv.1 = k then (kv.1, v) else kv) else kvs ++ [(k, v)]
theorem yU {p : κ × V} {r : List (κ × V)} {k : κ} (e : p.1 = k) : kF (p :: r) k = some p.2 := by simp [kF, List.find?_cons, e]
theorem yV {p : κ × V} {r : List (κ × V)} {k : κ} (e : ¬ p.1 = k) : kF (p :: r) k = kF r k := by simp [kF, List.find?_cons, e]
theorem bZ0 (k : κ) : ∀ kvs : List (κ × V), (kvs.any fun kv => decide (kv.1 = k)) = (kF kvs k).isSome
 | [] => rfl
 | p :: r => by
  rw [List.any_cons]
  by_cases e : p.1 = k
  ·simp only [yU e, decide_eq_true e, Bool.true_or, Option.isSome_some]
  ·rw [yV e, decide_eq_false e, Bool.false_or]; exact bZ0 k r
theorem bZ1 (kvs : List (κ × V)) (k : κ) (v : V) : (lB kvs k v).length <= kvs.length + 1 := by
 unfold lB
 split
 ·rw [List.length_map]; omega
 ·rw [List.length_append, List.length_cons, List.length_nil]; omega
theorem RelO.isSome_eq {o : Option V} {u : Option Value} (r : RelO o u) : o.isSome = u.isSome := by
 cases o with
 | none => cases u with
  | none => rfl
  | some _ => exact (show False from r).elim
 | some _ => cases u with
  | none => exact (show False from r).elim
  | some _ => rfl
theorem KV.val {kvs : List (κ × V)} {vs : List (κ × Value)} (r : KV kvs vs) (k : κ) : RelO (kF kvs k) (valueAt vs k) := by
 unfold KV at r
 induction r with
 | nil => exact True.intro
 | @cons p q ps qs h t ih =>
  obtain ⟨h1, h2⟩ := h
  by_cases e : p.1 = k
  ·have e' : q.1 = k := h1.symm.trans e
   have b : valueAt (q :: qs) k = some q.2 := by simp [valueAt, List.find?_cons, e']
   rw [yU e, b]; exact h2
  ·have e' : ¬ q.1 = k := fun z => e (h1.trans z)
   have b : valueAt (q :: qs) k = valueAt qs k := by simp [valueAt, List.find?_cons, e']
   rw [yV e, b]; exact ih
theorem KV.any {kvs : List (κ × V)} {vs : List (κ × Value)} (r : KV kvs vs) (k : κ) : (kvs.any fun kv => decide (kv.1 = k)) = vs.any fun kv => decide (kv.1 = k) := by
 unfold KV at r
 induction r with
 | nil => rfl
 | cons h t ih => rw [List.any_cons, List.any_cons, ih, h.1]
theorem KV.repl {kvs : List (κ × V)} {vs : List (κ × Value)} (r : KV kvs vs) (k : κ) {y : V} {u : Value} (ry : cJ y u) :
 KV (kvs.map fun kv => if kv.1 = k then (kv.1, y) else kv) (vs.map fun kv => if kv.1 = k then (kv.1, u) else kv) := by
 unfold KV at r ⊢
 induction r with
 | nil => exact .nil
 | @cons p q ps qs h t ih =>
  rw [List.map_cons, List.map_cons]
  refine .cons ?_ ih
  obtain ⟨h1, h2⟩ := h
  by_cases e : p.1 = k
  ·rw [if_pos e, if_pos (h1.symm.trans e)]; exact ⟨h1, ry⟩
  ·rw [if_neg e, if_neg (fun z => e (h1.trans z))]; exact ⟨h1, h2⟩
theorem KV.put {kvs : List (κ × V)} {vs : List (κ × Value)} (r : KV kvs vs) (k : κ) {y : V} {u : Value} (ry : cJ y u) : KV (lB kvs k y) (stored vs k u) := by
 unfold lB stored
 rw [r.any k]
 by_cases e : (vs.any fun kv => decide (kv.1 = k)) = true
 ·rw [if_pos e, if_pos e]; exact r.repl k ry
 ·rw [if_neg e, if_neg e]; exact Paired.snoc r ⟨rfl, ry⟩
theorem KV.length {kvs : List (κ × V)} {vs : List (κ × Value)} (r : KV kvs vs) : kvs.length = vs.length := Paired.length r
end
theorem vV {P : Program} {w : World} {k : cQ} {u : Value} (r : cJ (kV k) u) : (fW P w).is k u = true := by
 cases k with
 | inl i => obtain ⟨t, e⟩ := (show ∃ t, u = Value.int i t from r); subst e; exact cU1 P w i t
 | inr x => obtain ⟨t, e⟩ := (show ∃ t, u = Value.str x t from r); subst e; exact pY P w x t
theorem bZ2 {P : Program} {w : World} : ∀ {ks : List cQ} {us : List Value}, cE (ks.map kV) us -> ItemsAre (fW P w) ks us
 | [], _, r => by rw [List.map_nil] at r; cases r; exact .nil
 | k :: ks, _, r => by
  rw [List.map_cons] at r
  cases r with
  | cons h t => exact .cons (vV h) (bZ2 t)
abbrev KT (H : Hp) : List (List cQ × V) -> List (List cQ × Addr × Value) -> Prop := Paired fun p q => p.1 = q.1 /\ H q.2.1 = some (.tup (p.1.map kV)) /\ cJ p.2 q.2.2
theorem KT.val {H : Hp} {kvs : List (List cQ × V)} {xs : List (List cQ × Addr × Value)} (r : KT H kvs xs) (k : List cQ) : RelO (kF kvs k) ((atKey xs k).map (·.2)) := by
 induction r with
 | nil => exact True.intro
 | @cons p q ps qs h t ih =>
  obtain ⟨h1, _, h2⟩ := h
  by_cases e : p.1 = k
  ·have e' : q.1 = k := h1.symm.trans e
   have b : atKey (q :: qs) k = some q.2 := by simp [atKey, List.find?_cons, e']
   rw [yU e, b]; exact h2
  ·have e' : ¬ q.1 = k := fun z => e (h1.trans z)
   have b : atKey (q :: qs) k = atKey qs k := by simp [atKey, List.find?_cons, e']
   rw [yV e, b]; exact ih
theorem KT.repl {H : Hp} {kvs : List (List cQ × V)} {xs : List (List cQ × Addr × Value)} (r : KT H kvs xs) (k : List cQ) {y : V} {u : Value} (ry : cJ y u) :
 KT H (kvs.map fun kv => if kv.1 = k then (kv.1, y) else kv) (xs.map (putAt k u)) := by
 induction r with
 | nil => exact .nil
 | @cons p q ps qs h t ih =>
  rw [List.map_cons, List.map_cons]
  refine .cons ?_ ih
  obtain ⟨h1, h2, h3⟩ := h
  unfold putAt
  by_cases e : p.1 = k
  ·rw [if_pos e, if_pos (h1.symm.trans e)]; exact ⟨h1, h2, ry⟩
  ·rw [if_neg e, if_neg (fun z => e (h1.trans z))]; exact ⟨h1, h2, h3⟩
theorem KT.put {H : Hp} {kvs : List (List cQ × V)} {xs : List (List cQ × Addr × Value)} (r : KT H kvs xs) (k : List cQ) {b : Addr} {y : V} {u : Value} (hb : H b = some (.tup (k.map kV))) (ry : cJ y u) :
 KT H (lB kvs k y) (storedH xs k b u) := by
 have e : (kvs.any fun kv => decide (kv.1 = k)) = (atKey xs k).isSome := by
  rw [bZ0, (r.val k).isSome_eq, Option.isSome_map]
 unfold lB storedH
 rw [e]
 by_cases q : (atKey xs k).isSome = true
 ·rw [if_pos q, if_pos q]; exact r.repl k ry
 ·rw [if_neg q, if_neg q]; exact Paired.snoc r ⟨rfl, hb, ry⟩
theorem KT.keeps {H H' : Hp} {kvs : List (List cQ × V)} {xs : List (List cQ × Addr × Value)} (r : KT H kvs xs) (ht : ∀ b ys, H b = some (.tup ys) -> H' b = some (.tup ys)) : KT H' kvs xs :=
 Paired.mapP r fun _ _ z => ⟨z.1, ht _ _ z.2.1, z.2.2⟩
section
variable {P : Program} {w : World} {H : Hp} {h : Heap} {a : Addr}
theorem rd_of {u : HO} (ok : fF P w H h) (e : Rd H a u) : gO P w H h a u := e.ok ok
theorem qD {kvs : List (cQ × V)} (ok : fF P w H h) (e : Rd H a (.dK kvs)) : kvs.length <= sizeLine /\ (a == sysModules) = false /\ ∃ vs, KV kvs vs /\ h.DictOf (fW P w) a vs :=
 show gO P w H h a (.dK kvs) from rd_of ok e
theorem dH2 {kvs : List (cQ × V)} (ok : fF P w H h) (e : H a = some (.dK kvs)) : kvs.length <= sizeLine /\ (a == sysModules) = false /\ ∃ vs, KV kvs vs /\ h.DictOf (fW P w) a vs := qD ok (.inl e)
theorem vW {ks : List cQ} (ok : fF P w H h) (e : H a = some (.tup (ks.map kV))) : (tupleKind (fW P w)).is h ks a := by
 obtain ⟨_, its, r, o, h1, h2, n, h3⟩ := (show gO P w H h a (.tup (ks.map kV)) from ok a _ e)
 exact ⟨o, its.toArray, n, h1, h2, h3, by simpa using bZ2 r⟩
theorem vX {kvs : List (List cQ × V)} (ok : fF P w H h) (e : Rd H a (.dT kvs)) : kvs.length <= sizeLine /\ (a == sysModules) = false /\
 ∃ xs, KT H kvs xs /\ h.DictOfH (tupleKind (fW P w)) a xs := by
 obtain ⟨z, y, xs, r, o, es, ep, h1, h2, h3, h4, h5⟩ := (show gO P w H h a (.dT kvs) from rd_of ok e)
 refine ⟨z, y, xs, r, o, es, ep, h1, h2, h3, h4, fun x hx => ?_, h5⟩
 have all : ∀ {l : List (List cQ × V)} {m : List (List cQ × Addr × Value)}, KT H l m -> ∀ x ∈ m, (tupleKind (fW P w)).is h x.1 x.2.1 := by
  intro l m q
  induction q with
  | nil => intro x hx; exact nomatch hx
  | @cons p q ps qs hq t ih =>
   intro x hx
   rcases List.mem_cons.mp hx with e | hx
   ·subst e
    exact vW ok (by rw [<- hq.1]; exact hq.2.1)
   ·exact ih x hx
 exact all r x hx
theorem dH3 {kvs : List (List cQ × V)} (ok : fF P w H h) (e : H a = some (.dT kvs)) : kvs.length <= sizeLine /\ (a == sysModules) = false /\
 ∃ xs, KT H kvs xs /\ h.DictOfH (tupleKind (fW P w)) a xs := vX ok (.inl e)
end
def lN (H : Hp) (a : Addr) (y : V) (r : Option V) : Prop :=
 (∃ kvs k, Rd H a (.dK kvs) /\ y = kV k /\ r = kF kvs k) \/ ∃ kvs k b, Rd H a (.dT kvs) /\ y = .ref b /\ H b = some (.tup (k.map kV)) /\ r = kF kvs k
def vY (H : Hp) (a : Addr) (y v : V) (H' : Hp) : Prop :=
 (∃ kvs k, H a = some (.dK kvs) /\ y = kV k /\ kvs.length < sizeLine /\ H' = upd H a (.dK (lB kvs k v))) \/
 ∃ kvs k b, H a = some (.dT kvs) /\ y = .ref b /\ H b = some (.tup (k.map kV)) /\ kvs.length < sizeLine /\ H' = upd H a (.dT (lB kvs k v))
theorem lN.k {H : Hp} {a : Addr} {kvs : List (cQ × V)} {k : cQ} (e : H a = some (.dK kvs)) : lN H a (kV k) (kF kvs k) := .inl ⟨kvs, k, .inl e, rfl, rfl⟩
theorem vY.k {H : Hp} {a : Addr} {kvs : List (cQ × V)} {k : cQ} {v : V} (e : H a = some (.dK kvs)) (hl : kvs.length < sizeLine) : vY H a (kV k) v (upd H a (.dK (lB kvs k v))) := .inl ⟨kvs, k, e, rfl, hl, rfl⟩
section
variable {X : Cx} {pins : List (Addr × Obj)} {σ : St} {H : Hp} {s : Shared} {a : Addr} {y v : V} {u r : Value} {o : Option V} {A : Around} {E : Value -> Shared -> Prop}
theorem bE.big (I : bE X pins σ H s) : sysModules < s.heap.objs.size := by
 have h : mainGlobals < s.heap.objs.size := (I.mod.glob.keeps I.bk).lt
 exact Nat.lt_trans (by decide) h
theorem dH4 {Q : Value -> Shared -> Prop} (hu : A.units + 1 < cLine) (I : bE X pins σ H s) (g : lN H a y (some v)) (ry : cJ y u) (h : ∀ w' s', bE X pins σ H s' -> cJ v w' -> Q w' s') :
 wpAny (model X.prog X.w) A (getItem (.ref a) u) Q E s := by
 rcases g with ⟨kvs, k, e, ey, l⟩ | ⟨kvs, k, b, e, ey, eb, l⟩
 ·subst ey
  obtain ⟨z, hd, vs, rel, dd⟩ := qD I.hok e
  obtain ⟨w', hw, rw'⟩ := RelO.some_of (v := v) (o := valueAt vs k) (by rw [l]; exact rel.val k)
  exact wpAny_getItem_of (vV ry) dd.mapOf hw (h w' _ (I.tok _) rw')
 ·subst ey
  cases (show u = Value.ref b from ry)
  obtain ⟨z, hd, xs, rel, dd⟩ := vX I.hok e
  obtain ⟨w', hw, rw'⟩ := RelO.some_of (v := v) (o := (atKey xs k).map (·.2)) (by rw [l]; exact rel.val k)
  obtain ⟨p, hp, hp2⟩ := Option.map_eq_some_iff.mp hw
  refine wpAny_getItem_heap (tupleKind_room_in1 hu) (vW I.hok eb) dd hp ?_
  rw [hp2]
  exact h w' _ (I.tok _) rw'
theorem dH5 {Q : Value -> Shared -> Prop} (hu : A.units + 1 < cLine) (I : bE X pins σ H s) (g : lN H a y o) (ry : cJ y u) (h : ∀ s', bE X pins σ H s' -> Q (.bool o.isSome) s') :
 wpAny (model X.prog X.w) A (compareOp .In u (.ref a)) Q E s := by
 rcases g with ⟨kvs, k, e, ey, l⟩ | ⟨kvs, k, b, e, ey, eb, l⟩
 ·subst ey
  obtain ⟨z, hd, vs, rel, dd⟩ := qD I.hok e
  refine wpAny_in_of (vV ry) hd dd.mapOf ?_
  rw [<- (rel.val k).isSome_eq, <- l]
  exact h _ (I.tok _)
 ·subst ey
  cases (show u = Value.ref b from ry)
  obtain ⟨z, hd, xs, rel, dd⟩ := vX I.hok e
  refine wpAny_in_heap (tupleKind_room_in1 hu) (vW I.hok eb) hd dd ?_
  have q := (rel.val k).isSome_eq
  rw [Option.isSome_map] at q
  rw [<- q, <- l]
  exact h _ (I.tok _)
theorem dH6 {Q : Value -> Shared -> Prop} (hu : A.units + 1 < cLine) (I : bE X pins σ H s) (g : lN H a y o) (ry : cJ y u) (h : ∀ s', bE X pins σ H s' -> Q (.bool (!o.isSome)) s') :
 wpAny (model X.prog X.w) A (compareOp .NotIn u (.ref a)) Q E s := by
 rcases g with ⟨kvs, k, e, ey, l⟩ | ⟨kvs, k, b, e, ey, eb, l⟩
 ·subst ey
  obtain ⟨z, hd, vs, rel, dd⟩ := qD I.hok e
  refine wpAny_notIn_of (vV ry) hd dd.mapOf ?_
  rw [<- (rel.val k).isSome_eq, <- l]
  exact h _ (I.tok _)
 ·subst ey
  cases (show u = Value.ref b from ry)
  obtain ⟨z, hd, xs, rel, dd⟩ := vX I.hok e
  refine wpAny_notIn_heap (tupleKind_room_in1 hu) (vW I.hok eb) hd dd ?_
  have q := (rel.val k).isSome_eq
  rw [Option.isSome_map] at q
  rw [<- q, <- l]
  exact h _ (I.tok _)
theorem bZ3 {h' : Heap} {t' : Nat} {ob : HO} (I : bE X pins σ H s) (mu : vN (H a)) (hs : Heap.SameBut a s.heap h') (he : ∃ q, h'.get? a = some q) (new : gO X.prog X.w (upd H a ob) h' a ob) :
 bE X pins σ (upd H a ob) { s with heap := h', toks := t' } :=
 I.write (x := a) (e := a) mu (.inl rfl) (fun b q hb z => (hs.2 b hb).trans z) he new
theorem bZ4 {P : Program} {w : World} {H' : Hp} {h' : Heap} {kvs : List (cQ × V)} {vs : List (cQ × Value)} (z : kvs.length <= sizeLine) (hd : (a == sysModules) = false) (rel : KV kvs vs) (dd : h'.DictOf (fW P w) a vs) :
 gO P w H' h' a (.dK kvs) := ⟨z, hd, vs, rel, dd⟩
theorem dH7 {H' : Hp} {Q : Unit -> Shared -> Prop} (hu : A.units + 1 < cLine) (I : bE X pins σ H s) (g : vY H a y v H') (ry : cJ y u) (rv : cJ v r) (h : ∀ s', bE X pins σ H' s' -> Q () s') :
 wpAny (model X.prog X.w) A (setItem (.ref a) u r) Q E s := by
 rcases g with ⟨kvs, k, e, ey, l, eH⟩ | ⟨kvs, k, b, e, ey, eb, l, eH⟩
 ·subst ey eH
  obtain ⟨z, hd, vs, rel, dd⟩ := dH2 I.hok e
  have hz : vs.length <= sizeLine := by rw [<- rel.length]; exact z
  have hl : (lB kvs k v).length <= sizeLine := by have := bZ1 kvs k v; omega
  refine wpAny_setItem_pairs (hsz := hz) (vV ry) dd fun h' dd' hs => h _ ?_
  have he : ∃ q, h'.get? a = some q := let ⟨q, _, _, hq, _⟩ := dd'; ⟨q, hq⟩
  exact bZ3 I (by rw [e]; exact True.intro) hs he (bZ4 hl hd (rel.put k rv) dd')
 ·subst ey eH
  cases (show u = Value.ref b from ry)
  obtain ⟨z, hd, xs, rel, dd⟩ := dH3 I.hok e
  have hz : xs.length <= sizeLine := by rw [<- Paired.length rel]; exact z
  have hl : (lB kvs k v).length <= sizeLine := by have := bZ1 kvs k v; omega
  refine wpAny_setItem_heap (hsz := hz) (tupleKind_room_in1 hu) (vW I.hok eb) dd fun h' dd' hs => h _ ?_
  obtain ⟨q, es, ep, hq, h2, h3, h4, _, h5⟩ := dd'
  refine bZ3 I (by rw [e]; exact True.intro) hs ⟨q, hq⟩ ⟨hl, hd, _, (rel.put k eb rv).keeps fun c ys ec => ?_, q, es, ep, hq, h2, h3, h4, h5⟩
  rw [dD (rC ec e (fun z => nomatch z))]
  exact ec
end
section
variable {X : Cx} {pins : List (Addr × Obj)} {σ : St} {H : Hp} {s : Shared} {a : Addr} {kvs : List (cQ × V)} {k : cQ} {u : Value} {A : Around} {E : Value -> Shared -> Prop}
theorem dH8 {Q : Value -> Shared -> Prop} (I : bE X pins σ H s) (e : Rd H a (.dK kvs)) (h : ∀ t s', bE X pins σ H s' -> Q (.int kvs.length t) s') : wpAny (model X.prog X.w) A (call (.builtin "len") [.ref a]) Q E s := by
 obtain ⟨z, hd, vs, rel, dd⟩ := qD I.hok e
 refine call_len_dict hd dd (by rw [<- rel.length]; rw [sizeLine_eq] at z; omega) ?_
 rw [<- rel.length]
 exact h _ _ (I.tok _)
end
def bI6 (i : Expr) : Prop := ∀ ov iv, subscripted i false ov iv = operate [ov, iv] (getItem ov iv)
theorem dH9 {prog : Program} {w : World} {A : Around} {E : Value -> Shared -> Prop} {s : Shared} {env : Env} {value slice : Expr} {pos : Pos} {T id : String} {Q : Value -> Shared -> Prop}
 (hl : typeLookup (.type T) "__getitem__" = pure (some (.builtin id))) (hs : bI6 slice)
 (h : wpAny (model prog w) A (eval value env) (fun o s₁ => wpAny (model prog w) A (eval slice env) (fun i s₂ => s₂.TypeIs o T /\ wpAny (model prog w) A (getItem o i) Q E s₂) E s₁) E s) :
 wpAny (model prog w) A (eval (.Subscript value slice pos) env) Q E s := by
 refine Subscript_ (wpAny_mono h (fun o s₁ h₁ => wpAny_mono h₁ (fun i s₂ h₂ => ?_) fun _ _ x => x) fun _ _ x => x)
 obtain ⟨hT, h₂⟩ := h₂
 unfold subscriptTail
 refine wpAny_bind ?_
 rw [getitemInPython_of_ne hT.not_modules]
 refine wpAny_bind (wpAny_specialOf hT hl ?_)
 have fin : wpAny (model prog w) A (subscripted slice false o i) (fun r s₃ => wpAny (model prog w) A (letTemporaryGo value o r >>= fun _ => pure r) Q E s₃) E s₂ := by
  rw [hs o i]
  exact wpAny_operating (wpAny_mono h₂ (fun r s₃ h₃ => wpAny_bind (wpAny_letTemporaryGo (wpAny_pure h₃))) fun _ _ x => x)
 first
  | exact wpAny_pure (wpAny_bind fin)
  | exact wpAny_bind (wpAny_pure (wpAny_bind fin))
  | exact wpAny_bind fin
theorem dI0 {X : Cx} {pins : List (Addr × Obj)} {σ : St} {H : Hp} {s : Shared} {a : Addr} {y : V} {o : Option V} (I : bE X pins σ H s) (g : lN H a y o) : s.TypeIs (.ref a) "dict" := by
 rcases g with ⟨kvs, k, e, _, _⟩ | ⟨kvs, k, b, e, _, _, _⟩
 ·obtain ⟨_, _, vs, _, dd⟩ := qD I.hok e
  exact dd.typeIs
 ·obtain ⟨_, _, xs, _, dd⟩ := vX I.hok e
  exact dd.typeIs
def dI1 (td ty : TE) : TE := fun σ H Q => td σ H fun x H1 => ty σ H1 fun y H2 => ∃ a v, x = .ref a /\ lN H2 a y (some v) /\ Q v H2
def dI2 (ty td : TE) : TE := fun σ H Q => ty σ H fun y H1 => td σ H1 fun x H2 => ∃ a o, x = .ref a /\ lN H2 a y o /\ Q (.bl o.isSome) H2
def dI3 (ty td : TE) : TE := fun σ H Q => ty σ H fun y H1 => td σ H1 fun x H2 => ∃ a o, x = .ref a /\ lN H2 a y o /\ Q (.bl (!o.isSome)) H2
def dI4 (td ty tv : TE) : TS := fun D σ H => tv σ H fun v H1 => td σ H1 fun x H2 => ty σ H2 fun y H3 => ∃ a H4, x = .ref a /\ vY H3 a y v H4 /\ D.nx σ H4
section
variable {X : Cx} {o i e value : Expr} {pos pos' tpos : Pos} {td ty tv : TE}
theorem dI5 (hu : X.A.units + 1 < cLine) (ho : PE X o td) (hi : PE X i ty) (hs : bI6 i) : PE X (.Subscript o i pos) (dI1 td ty) := by
 intro pins s σ H Q I h
 refine dH9 PySem.F.slot_dict_getitem.lookup hs (cC (ho pins s σ H _ I h) fun u s1 ⟨x, H1, I1, rx, q1⟩ => cC (hi pins s1 σ H1 _ I1 q1) fun iv s2 ⟨y, H2, I2, ry, a, v, ex, g, q2⟩ => ?_)
 subst ex
 obtain rfl : u = Value.ref a := rx
 exact ⟨dI0 I2 g, dH4 hu I2 g ry fun w' s3 I3 rw' => ⟨v, H2, I3, rw', q2⟩⟩
theorem dI6 (hu : X.A.units + 1 < cLine) (hi : PE X i ty) (ho : PE X o td) : PC X .In i o (dI2 ty td) := by
 intro pins s σ H Q I h
 refine cC (hi pins s σ H _ I h) fun iv s1 ⟨y, H1, I1, ry, q1⟩ => cC (ho pins s1 σ H1 _ I1 q1) fun u s2 ⟨x, H2, I2, rx, a, ov, ex, g, q2⟩ => ?_
 subst ex
 obtain rfl : u = Value.ref a := rx
 exact dH5 hu I2 g ry fun s3 I3 => ⟨.bl ov.isSome, H2, I3, rfl, q2⟩
theorem dI7 (hu : X.A.units + 1 < cLine) (hi : PE X i ty) (ho : PE X o td) : PC X .NotIn i o (dI3 ty td) := by
 intro pins s σ H Q I h
 refine cC (hi pins s σ H _ I h) fun iv s1 ⟨y, H1, I1, ry, q1⟩ => cC (ho pins s1 σ H1 _ I1 q1) fun u s2 ⟨x, H2, I2, rx, a, ov, ex, g, q2⟩ => ?_
 subst ex
 obtain rfl : u = Value.ref a := rx
 exact dH6 hu I2 g ry fun s3 I3 => ⟨.bl (!ov.isSome), H2, I3, rfl, q2⟩
theorem dI8 (hu : X.A.units + 1 < cLine) (ho : PE X o td) (hi : PE X i ty) (hv : PE X value tv) (hs : swapsWith value (some (.Subscript o i pos')) pos.line X.env = pure false) :
 PS X (.Assign [.Subscript o i pos'] value pos) (dI4 td ty tv) := by
 intro pins s σ H D I h
 refine wpAny_Assign_Subscript (cC (hv pins s σ H _ I h) fun r s1 ⟨v, H1, I1, rv, q1⟩ => cC (ho pins s1 σ H1 _ I1 q1) fun u s2 ⟨x, H2, I2, rx, q2⟩ => cC (hi pins s2 σ H2 _ I2 q2) fun iv s3 ⟨y, H3, I3, ry, a, H4, ex, g, q3⟩ => ?_) hs
 subst ex
 obtain rfl : u = Value.ref a := rx
 exact dH7 hu I3 g ry rv fun s4 I4 => ⟨σ, H4, I4, q3⟩
end
theorem dI9 {P : Program} {w : World} {H : Hp} (h : Heap) (hb : sysModules < h.objs.size) : gO P w H (h.push { cls := .type "dict", data := .dict #[] }) h.objs.size (.dK []) :=
 ⟨Nat.zero_le _, beq_eq_false_iff_ne.mpr (Ne.symm (Nat.ne_of_lt hb)), [], .nil, Heap.DictOf.new h⟩
def dJ0 : TE := fun _ H Q => ∀ p, H p = none -> Q (.ref p) (upd H p (.dK []))
section
variable {X : Cx} {pos : Pos}
theorem bI7 : PE X (.Dict [] [] pos) dJ0 := fun pins s σ H Q I h =>
 wpAny_Dict_empty ⟨.ref s.heap.objs.size, _, I.laid (a := s.heap.objs.size) (o := .dK []) (t' := s.toks) (fun _ _ q => Heap.get?_push_of_some _ q) (Nat.le_refl _) (dI9 s.heap I.big), rfl, h _ (I.hok.fresh (Nat.le_refl _))⟩
end
section
variable {X : Cx} {pins : List (Addr × Obj)} {σ : St} {H : Hp} {s : Shared} {a : Addr} {y d : V} {u r : Value} {o : Option V} {A : Around} {E : Value -> Shared -> Prop}
end
section
variable {X : Cx} {o e f : Expr} {apos cpos : Pos} {td ty tx : TE}
end
section
variable {X : Cx} {pins : List (Addr × Obj)} {σ : St} {H : Hp} {s : Shared} {a : Addr} {kvs : List (cQ × V)} {A : Around} {E : Value -> Shared -> Prop}
theorem dJ1 {Q : Value -> Shared -> Prop} (I : bE X pins σ H s) (e : Rd H a (.dK kvs)) (h : ∀ p s', H p = none -> bE X pins σ (upd H p (.dK kvs)) s' -> Q (.ref p) s') : wpAny (model X.prog X.w) A (call (.type "dict") [.ref a]) Q E s := by
 obtain ⟨z, hd, vs, rel, dd⟩ := qD I.hok e
 refine kt_call_dict hd dd (by rw [<- rel.length]; exact z) fun h' dd' hs => ?_
 refine h _ _ (I.hok.fresh (Nat.le_refl _)) (I.laid (a := s.heap.objs.size) (o := .dK kvs) (t' := s.toks) (fun b q hq => ?_) (Nat.le_refl _) (bZ4 z (beq_eq_false_iff_ne.mpr (Ne.symm (Nat.ne_of_lt I.big))) rel dd'))
 exact (hs.2 b (Nat.ne_of_lt (Heap.lt_size hq))).trans (Heap.get?_push_of_some _ hq)
end
section
variable {X : Cx} {pins : List (Addr × Obj)} {σ : St} {H : Hp} {s : Shared} {a : Addr} {y : V} {u : Value} {A : Around} {E : Value -> Shared -> Prop}
end
end L2
/- THE LAST THEOREM (shape; LID, My.* are yours):
   My.Adr: a structure of the addresses that your layer names (classes, functions); My.Txt K t: a structure (Prop) of the equations over K;
   My.txt_mk : {K} {implicit addresses ..} (e1 : nsIn K mainGlobals "law" = some (some (.ref f))) (e2 : K.lookup f = some ⟨oc, od, .func (fnOf "law" "law" params body scope dV kV doc pm an cdv ct), sl⟩) (e3 : codeIn K cdv "law" = true) .. : ∃ t, My.Txt K t
(the tactic k_is has no namespace: write k_is) -/
namespace L2
open PySem PySem.Spec PyProof.Rows
section
variable {X : Cx}
theorem dJ2 : fG X (.builtin "len") (fun xs H Q => ∃ a kvs, xs = [V.ref a] /\ H a = some (.dK kvs) /\ Q (.int kvs.length) H) := by
 intro pins s σ H xs us Q I r h
 obtain ⟨a, kvs, rfl, ha, q⟩ := h
 obtain ⟨u, rfl, ru⟩ := kN r
 cases ru
 exact dH8 I (.inl ha) fun t s' I' => ⟨.int kvs.length, H, I', ⟨t, rfl⟩, q⟩
end
section
variable {κ : Type} [DecidableEq κ]
end
end L2
end
section
namespace R
open PySem PySem.Spec PyProof.Rows L2
abbrev St := L2.St
inductive D where
 | non | bl (b : Bool) | int (i : Int) | str (x : Str) | tup (xs : List D) | lst (xs : List D)
inductive bC (α : Type) where
 | ok (a : α) | ex (c : Nat) | bad
def bC.bind {α β : Type} (r : bC α) (f : α -> bC β) : bC β := match r with
 | .ok a => f a
 | .ex c => .ex c
 | .bad => .bad
mutual
def bA (K : W.Frag) (F : Hp) : D -> V -> Prop
 | .non, v => v = .non
 | .bl b, v => v = .bl b
 | .int i, v => v = .int i
 | .str x, v => v = .str x /\ x.length <= sizeLine
 | .tup ds, v => ∃ a xs, v = .ref a /\ fK K F a xs /\ DatL K F ds xs
 | .lst ds, v => ∃ a xs, v = .ref a /\ dF K F a xs /\ DatL K F ds xs
def DatL (K : W.Frag) (F : Hp) : List D -> List V -> Prop
 | [], xs => xs = []
 | d :: ds, xs => ∃ x r, xs = x :: r /\ bA K F d x /\ DatL K F ds r
end
theorem bG.seqT {K : W.Frag} {H H' : Hp} {a : Addr} {xs : List V} (e : bG H H') (h : fK K H a xs) : fK K H' a xs := by
 rcases h with (h | ⟨o, h⟩) | h
 ·exact .inl (.inl (e _ _ h))
 ·exact .inl (.inr ⟨o, e _ _ h⟩)
 ·exact .inr h
mutual
theorem bA.mono {K : W.Frag} {F F' : Hp} (e : bG F F') : ∀ {d : D} {v : V}, bA K F d v -> bA K F' d v
 | .non, _, h => by simp only [bA] at h ⊢; exact h
 | .bl _, _, h => by simp only [bA] at h ⊢; exact h
 | .int _, _, h => by simp only [bA] at h ⊢; exact h
 | .str _, _, h => by simp only [bA] at h ⊢; exact h
 | .tup ds, _, h => by
  simp only [bA] at h ⊢
  obtain ⟨a, xs, h1, h2, h3⟩ := h
  exact ⟨a, xs, h1, bG.seqT e h2, DatL.mono e h3⟩
 | .lst ds, _, h => by
  simp only [bA] at h ⊢
  obtain ⟨a, xs, h1, h2, h3⟩ := h
  exact ⟨a, xs, h1, bG.seq e h2, DatL.mono e h3⟩
theorem DatL.mono {K : W.Frag} {F F' : Hp} (e : bG F F') : ∀ {ds : List D} {xs : List V}, DatL K F ds xs -> DatL K F' ds xs
 | [], _, h => by simp only [DatL] at h ⊢; exact h
 | d :: ds, _, h => by
  simp only [DatL] at h ⊢
  obtain ⟨x, r, h1, h2, h3⟩ := h
  exact ⟨x, r, h1, bA.mono e h2, DatL.mono e h3⟩
end
section
variable {K : W.Frag} {F : Hp}
theorem DatL.nil : DatL K F [] [] := by simp only [DatL]
theorem DatL.cons {d : D} {ds : List D} {x : V} {xs : List V} (h : bA K F d x) (t : DatL K F ds xs) : DatL K F (d :: ds) (x :: xs) := by
 simp only [DatL]; exact ⟨x, xs, rfl, h, t⟩
theorem DatL.paired : ∀ {ds : List D} {xs : List V}, DatL K F ds xs -> Paired (bA K F) ds xs
 | [], _, h => by simp only [DatL] at h; subst h; exact .nil
 | d :: ds, _, h => by
  simp only [DatL] at h
  obtain ⟨x, r, rfl, h2, h3⟩ := h
  exact .cons h2 (DatL.paired h3)
theorem DatL.of : ∀ {ds : List D} {xs : List V}, Paired (bA K F) ds xs -> DatL K F ds xs
 | _, _, .nil => DatL.nil
 | _, _, .cons h t => DatL.cons h (DatL.of t)
theorem DatL.length {ds : List D} {xs : List V} (h : DatL K F ds xs) : ds.length = xs.length := Paired.length h.paired
end
section
variable {α β : Type} {G : α -> β -> Prop}
theorem mW : ∀ {a c : List α} {b d : List β}, Paired G a b -> Paired G c d -> Paired G (a ++ c) (b ++ d)
 | _, _, _, _, .nil, s => s
 | _, _, _, _, .cons r t, s => .cons r (mW t s)
theorem bI8 : ∀ {a : List α} {b : List β} (n : Nat), Paired G a b -> Paired G (a.take n) (b.take n)
 | _, _, 0, _ => .nil
 | _, _, _ + 1, .nil => .nil
 | _, _, n + 1, .cons r t => .cons r (bI8 n t)
theorem bI9 : ∀ {a : List α} {b : List β} (n : Nat), Paired G a b -> Paired G (a.drop n) (b.drop n)
 | _, _, 0, r => r
 | _, _, _ + 1, .nil => .nil
 | _, _, n + 1, .cons _ t => bI9 n t
theorem jT : ∀ {a : List α} {b : List β} {i : Nat} {x : α}, Paired G a b -> a[i]? = some x -> ∃ y, b[i]? = some y /\ G x y
 | _, _, _, _, .nil, e => by simp at e
 | _, _, 0, _, .cons r _, e => by simp at e; subst e; exact ⟨_, rfl, r⟩
 | _, _, i + 1, x, .cons _ t, e => by
  obtain ⟨u, h1, h2⟩ := jT (i := i) (x := x) t (by simpa using e)
  exact ⟨u, by simpa using h1, h2⟩
theorem vZ : ∀ {a : List α} {b : List β} {i : Nat} {y : β}, Paired G a b -> b[i]? = some y -> ∃ x, a[i]? = some x /\ G x y
 | _, _, _, _, .nil, e => by simp at e
 | _, _, 0, _, .cons r _, e => by simp at e; subst e; exact ⟨_, rfl, r⟩
 | _, _, i + 1, y, .cons _ t, e => by
  obtain ⟨u, h1, h2⟩ := vZ (i := i) (y := y) t (by simpa using e)
  exact ⟨u, by simpa using h1, h2⟩
theorem bZ5 {a : List α} {b : List β} (h : Paired G a b) : Paired G a.reverse b.reverse := by
 induction h with
 | nil => exact .nil
 | cons r t ih => rw [List.reverse_cons, List.reverse_cons]; exact mW ih (.cons r .nil)
end
class bP where
 L : List (Addr × Pos × Str)
 ap : ∀ t ∈ L, ∀ u ∈ L, t.1 = u.1 -> t = u
class Pd where
 pd : Addr
variable [bP] [Pd]
def yW : HO -> Bool
 | .tbl _ => false
 | _ => true
def TOk (H : Hp) (t : Addr × Pos × Str) : Prop := ∃ ps, H t.1 = some (.tbl ps) /\ PySem.TriplesOk ps.toList /\
 (codeAmong t.2.1 ps.toList = none \/ ∃ c', codeAmong t.2.1 ps.toList = some (.ref c') /\ H c' = some (.ext fun h => h.CodeRec (.ref c') t.2.2))
def mX (H : Hp) : Prop := ∀ t ∈ bP.L, TOk H t
def yX (F : Hp) : Prop := ∀ b ps, F b ≠ some (.tbl ps)
def lO (F H : Hp) : Prop := mX H /\ yX F
theorem yX.upd {F : Hp} (h : yX F) (p : Addr) {o : HO} (ho : yW o = true) : yX (upd F p o) := fun b ps e => by
 by_cases z : b = p
 ·subst z; rw [fY] at e; cases e; cases ho
 ·rw [dD z] at e; exact h b ps e
def dJ4 (H H' : Hp) : Prop := ∀ b u, yW u = true -> H b = some u -> H' b = some u
structure cD (F H F' H' : Hp) : Prop where
 same : dJ4 H H'
 more : ∀ b, H b ≠ none -> H' b ≠ none
 tk : lO F H -> lO F' H'
 fs : bG F F'
 sub : bG F' H'
 new : ∀ b, F b = none -> H b ≠ none -> F' b = none
theorem cD.refl {F H : Hp} (s : bG F H) : cD F H F H := ⟨fun _ _ _ q => q, fun _ h => h, fun h => h, bG.refl _, s, fun _ h _ => h⟩
theorem mX.same {H H' : Hp} (h : mX H) (s : bG H H') : mX H' := fun t ht => by
 obtain ⟨ps, e, o, q⟩ := h t ht
 refine ⟨ps, s _ _ e, o, ?_⟩
 rcases q with q | ⟨c', q1, q2⟩
 ·exact .inl q
 ·exact .inr ⟨c', q1, s _ _ q2⟩
theorem bZ6 {H H' : Hp} (s : bG H H') : ∀ b, H b ≠ none -> H' b ≠ none := fun b h => by
 cases q : H b with
 | none => exact absurd q h
 | some o => rw [s b o q]; simp
theorem cD.trans {F H F1 H1 F2 H2 : Hp} (a : cD F H F1 H1) (b : cD F1 H1 F2 H2) : cD F H F2 H2 where
 same := fun c u n q => b.same c u n (a.same c u n q)
 more := fun c h => b.more c (a.more c h)
 tk := fun h => b.tk (a.tk h)
 fs := a.fs.trans b.fs
 sub := b.sub
 new := fun c h n => b.new c (a.new c h n) (a.more c n)
theorem jK {H : Hp} {p : Addr} (h : H p = none) (o : HO) : bG H (upd H p o) := fun b u q => by rw [dD (lZ q h)]; exact q
theorem dJ5 {F H : Hp} (s : bG F H) (p : Addr) (o : HO) : bG (upd F p o) (upd H p o) := fun b u q => by
 by_cases e : b = p
 ·subst e; rw [fY] at q ⊢; exact q
 ·rw [dD e] at q ⊢; exact s b u q
theorem wA {F H : Hp} (s : bG F H) {p : Addr} (h : F p = none) (o : HO) : bG F (upd H p o) := fun b u q => by
 rw [dD (lZ q h)]; exact s b u q
theorem cD.laid {F H : Hp} (s : bG F H) {p : Addr} (h : H p = none) (o : HO) (ho : yW o = true := by rfl) : cD F H (upd F p o) (upd H p o) where
 same := fun b u _ q => jK h o b u q
 more := bZ6 (jK h o)
 tk := fun t => ⟨t.1.same (jK h o), t.2.upd p ho⟩
 fs := jK (bG.free s h) o
 sub := dJ5 s p o
 new := fun b hb n => by
  have e : b ≠ p := fun e => n (e ▸ h)
  rw [dD e]; exact hb
theorem cD.laidN {F H : Hp} (s : bG F H) {p : Addr} (h : H p = none) (o : HO) : cD F H F (upd H p o) where
 same := fun b u _ q => jK h o b u q
 more := bZ6 (jK h o)
 tk := fun t => ⟨t.1.same (jK h o), t.2⟩
 fs := bG.refl _
 sub := wA s (bG.free s h) o
 new := fun b hb n => hb
theorem cD.free {F H F' H' : Hp} (g : cD F H F' H') {b : Addr} (h : H' b = none) : H b = none := by
 cases q : H b with
 | none => rfl
 | some o => exact absurd h (g.more b (by rw [q]; simp))
theorem mX.updL {H : Hp} {p : Addr} {xs : List V} (h : mX H) (e : H p = some (.lst xs)) (ys : List V) : mX (upd H p (.lst ys)) := fun t ht => by
 obtain ⟨ps, e1, o, q⟩ := h t ht
 have n1 : t.1 ≠ p := fun z => by rw [z, e] at e1; cases e1
 refine ⟨ps, by rw [dD n1]; exact e1, o, ?_⟩
 rcases q with q | ⟨c', q1, q2⟩
 ·exact .inl q
 ·have n2 : c' ≠ p := fun z => by rw [z, e] at q2; cases q2
  exact .inr ⟨c', q1, by rw [dD n2]; exact q2⟩
theorem bZ7 {H H' : Hp} (m : ∀ b, H b ≠ none -> H' b ≠ none) (p : Addr) (o : HO) : ∀ b, H b ≠ none -> upd H' p o b ≠ none := fun b h => by
 by_cases z : b = p
 ·subst z; rw [fY]; simp
 ·rw [dD z]; exact m b h
abbrev Tab := List (Str × D)
def fQ (K : W.Frag) (F : Hp) : Tab -> List (cQ × V) -> Prop := Paired fun p q => q.1 = .inr p.1 /\ bA K F p.2 q.2
theorem fQ.mono {K : W.Frag} {F F' : Hp} (e : bG F F') {T : Tab} {kvs : List (cQ × V)} (h : fQ K F T kvs) : fQ K F' T kvs := Paired.mapP h fun _ _ z => ⟨z.1, z.2.mono e⟩
inductive Slot where
 | no | val (d : D) | own (ds : List D) | is (v : V) (c : List (Addr × HO)) | dic (p : Bool) (T : Tab) | tab (T : Tab)
abbrev bM := List Slot
def wB (K : W.Frag) (F H : Hp) : Slot -> Option V -> Prop
 | .no, _ => True
 | .val d, o => ∃ v, o = some v /\ bA K F d v
 | .own ds, o => ∃ a xs, o = some (.ref a) /\ H a = some (.lst xs) /\ F a = none /\ DatL K F ds xs
 | .is v c, o => o = some v /\ ∀ p ∈ c, F p.1 = some p.2
 | .dic p T, o => ∃ a kvs, o = some (.ref a) /\ (p = true -> a = Pd.pd) /\ H a = some (.dK kvs) /\ F a = none /\ fQ K F T kvs
 | .tab T, o => ∃ a kvs, o = some (.ref a) /\ F a = some (.dK kvs) /\ fQ K F T kvs
structure gD (K : W.Frag) (F H : Hp) (ρ : bM) (σ : St) : Prop where
 tb : lO F H
 sub : bG F H
 len : ρ.length = σ.length
 at_ : ∀ (i : Nat) s, ρ[i]? = some s -> ∃ o, σ[i]? = some o /\ wB K F H s o
 apart : ∀ (i j : Nat) ds es a, i ≠ j -> ρ[i]? = some (.own ds) -> ρ[j]? = some (.own es) -> σ[i]? = some (some (.ref a)) -> σ[j]? ≠ some (some (.ref a))
theorem wB.grow {K : W.Frag} {F H F' H' : Hp} (g : cD F H F' H') {s : Slot} {o : Option V} (h : wB K F H s o) : wB K F' H' s o := by
 cases s with
 | no => trivial
 | val d => obtain ⟨v, e, h⟩ := h; exact ⟨v, e, h.mono g.fs⟩
 | own ds =>
  obtain ⟨a, xs, e, h1, h2, h3⟩ := h
  exact ⟨a, xs, e, g.same _ _ rfl h1, g.new _ h2 (by rw [h1]; simp), h3.mono g.fs⟩
 | is v c => exact ⟨h.1, fun p hp => g.fs _ _ (h.2 p hp)⟩
 | dic p T =>
  obtain ⟨a, xs, e, h0, h1, h2, h3⟩ := h
  exact ⟨a, xs, e, h0, g.same _ _ rfl h1, g.new _ h2 (by rw [h1]; simp), h3.mono g.fs⟩
 | tab T =>
  obtain ⟨a, xs, e, h1, h3⟩ := h
  exact ⟨a, xs, e, g.fs _ _ h1, h3.mono g.fs⟩
theorem gD.grow {K : W.Frag} {F H F' H' : Hp} {ρ : bM} {σ : St} (h : gD K F H ρ σ) (g : cD F H F' H') : gD K F' H' ρ σ :=
 ⟨g.tk h.tb, g.sub, h.len, fun i s e => let ⟨o, e1, r⟩ := h.at_ i s e; ⟨o, e1, r.grow g⟩, h.apart⟩
theorem gD.set {K : W.Frag} {F H : Hp} {ρ : bM} {σ : St} (h : gD K F H ρ σ) {d : D} {v : V} (i : Nat) (hd : bA K F d v) : gD K F H (ρ.set i (.val d)) (σ.set i (some v)) := by
 refine ⟨h.tb, h.sub, by rw [List.length_set, List.length_set]; exact h.len, fun j s e => ?_, fun j k ds es a n e1 e2 e3 => ?_⟩
 ·by_cases q : i = j
  ·subst q
   by_cases hl : i < ρ.length
   ·rw [List.getElem?_set_self hl] at e
    cases e
    exact ⟨some v, List.getElem?_set_self (by rw [<- h.len]; exact hl), v, rfl, hd⟩
   ·rw [List.getElem?_eq_none (by rw [List.length_set]; omega)] at e; cases e
  ·rw [List.getElem?_set_ne q] at e ⊢; exact h.at_ j s e
 ·have q1 : i ≠ j := by
   rintro rfl
   by_cases hl : i < ρ.length
   ·rw [List.getElem?_set_self hl] at e1; cases e1
   ·rw [List.getElem?_eq_none (by rw [List.length_set]; omega)] at e1; cases e1
  have q2 : i ≠ k := by
   rintro rfl
   by_cases hl : i < ρ.length
   ·rw [List.getElem?_set_self hl] at e2; cases e2
   ·rw [List.getElem?_eq_none (by rw [List.length_set]; omega)] at e2; cases e2
  rw [List.getElem?_set_ne q1] at e1 e3
  rw [List.getElem?_set_ne q2] at e2 ⊢
  exact h.apart j k ds es a n e1 e2 e3
def dA {α β : Type} (Rel : Hp -> α -> β -> Prop) (F H : Hp) (r : bC α) (Q : β -> Hp -> Prop) : Prop := match r with
 | .ok a => ∀ b F' H', cD F H F' H' -> Rel F' a b -> Q b H'
 | .ex _ => False
 | .bad => False
theorem dA.grow {α β : Type} {Rel : Hp -> α -> β -> Prop} {F H F1 H1 : Hp} {r : bC α} {Q : β -> Hp -> Prop} (h : dA Rel F H r Q) (g : cD F H F1 H1) : dA Rel F1 H1 r Q := by
 cases r with
 | ok a => exact fun b F' H' g' r' => h b F' H' (g.trans g') r'
 | ex _ => exact h
 | bad => exact h
theorem fA {α β γ δ : Type} {R1 : Hp -> α -> β -> Prop} {R2 : Hp -> γ -> δ -> Prop} {F H : Hp} {r : bC α} {g : α -> bC γ} {Q : δ -> Hp -> Prop} (h : dA R2 F H (r.bind g) Q) :
 dA R1 F H r fun b H1 => ∃ F1 a, cD F H F1 H1 /\ R1 F1 a b /\ dA R2 F1 H1 (g a) Q := by
 cases r with
 | ok a => exact fun b F' H' g' r' => ⟨F', a, g', r', dA.grow (show dA R2 F H (g a) Q from h) g'⟩
 | ex _ => exact h
 | bad => exact h
theorem cF {α β : Type} {Rel : Hp -> α -> β -> Prop} {F H : Hp} {a : α} {Q : β -> Hp -> Prop} (h : dA Rel F H (.ok a) Q) (s : bG F H) {b : β} (r : Rel F a b) : Q b H := h b F H (.refl s) r
theorem rJ {K : W.Frag} {F H : Hp} {ds : List D} {xs : List V} {Q : V -> Hp -> Prop} (h : dA (bA K) F H (.ok (.tup ds)) Q) (s : bG F H) (r : DatL K F ds xs) {p : Addr} (hp : H p = none) : Q (.ref p) (upd H p (.tup xs)) := by
 refine h _ _ _ (cD.laid s hp _) ?_
 simp only [bA]
 exact ⟨p, xs, rfl, fK.of fY, r.mono (jK (bG.free s hp) _)⟩
theorem qE {K : W.Frag} {F H : Hp} {ds : List D} {xs : List V} {Q : V -> Hp -> Prop} (h : dA (bA K) F H (.ok (.lst ds)) Q) (s : bG F H) (r : DatL K F ds xs) {p : Addr} (hp : H p = none) : Q (.ref p) (upd H p (.lst xs)) := by
 refine h _ _ _ (cD.laid s hp _) ?_
 simp only [bA]
 exact ⟨p, xs, rfl, dF.of fY, r.mono (jK (bG.free s hp) _)⟩
abbrev ME := bM -> bC D
abbrev MT := bM -> bC Bool
abbrev MA := bM -> bC (List D)
def wC : Hp -> Bool -> Bool -> Prop := fun _ a b => a = b
def RelO : Hp -> Option Int -> Option Int -> Prop := fun _ a b => a = b
def tD (X : Cx) (f : ME) : TE := fun σ H Q => ∃ ρ F, gD X.K F H ρ σ /\ dA (bA X.K) F H (f ρ) Q
def mG (X : Cx) (f : MT) : TT := fun σ H Q => ∃ ρ F, gD X.K F H ρ σ /\ dA wC F H (f ρ) Q
def wD (X : Cx) (f : MA) : TA := fun σ H Q => ∃ ρ F, gD X.K F H ρ σ /\ dA (DatL X.K) F H (f ρ) Q
def IE (X : Cx) (e : Expr) (f : ME) : Prop := PE X e (tD X f)
def IT (X : Cx) (e : Expr) (f : MT) : Prop := PT X e (mG X f)
def IW (X : Cx) (e : Expr) (f : MT) : Prop := PW X e (mG X f)
def IA (X : Cx) (es : List Expr) (f : MA) : Prop := PA X es (wD X f)
theorem fL {X : Cx} {e : Expr} {t t' : TE} (h : PE X e t) (i : ∀ σ H Q, t' σ H Q -> t σ H Q) : PE X e t' := fun pins s σ H Q I hq => h pins s σ H Q I (i σ H Q hq)
theorem qF {X : Cx} {e : Expr} {t t' : TT} (h : PT X e t) (i : ∀ σ H Q, t' σ H Q -> t σ H Q) : PT X e t' := fun pins s σ H Q I hq => h pins s σ H Q I (i σ H Q hq)
theorem bZ8 {X : Cx} {e : Expr} {t t' : TT} (h : PW X e t) (i : ∀ σ H Q, t' σ H Q -> t σ H Q) : PW X e t' := fun wh pins s σ H Q I hq => h wh pins s σ H Q I (i σ H Q hq)
theorem pO {X : Cx} {e : List Expr} {t t' : TA} (h : PA X e t) (i : ∀ σ H Q, t' σ H Q -> t σ H Q) : PA X e t' := fun p pins s σ H Q I hq => h p pins s σ H Q I (i σ H Q hq)
theorem fR {X : Cx} {e : Stmt} {t t' : TS} (h : PS X e t) (i : ∀ E σ H, t' E σ H -> t E σ H) : PS X e t' := fun pins s σ H E I hq => h pins s σ H E I (i E σ H hq)
theorem bJ0 {X : Cx} {e : List Stmt} {t t' : TS} (h : jS X e t) (i : ∀ E σ H, t' E σ H -> t E σ H) : jS X e t' := fun pins s σ H E I hq => h pins s σ H E I (i E σ H hq)
def gv (i : Nat) : ME := fun ρ => match ρ[i]? with
 | some (.val d) => .ok d
 | _ => .bad
def kc (d : D) : ME := fun _ => .ok d
section
variable {X : Cx} {a b c e : Expr} {es : List Expr} {f g h : ME} {pos : Pos}
theorem dJ6 (i : Nat) {x : Str} (hp : PE X (.Name x pos) (bG7 i)) : IE X (.Name x pos) (gv i) := fL hp fun σ H Q ⟨ρ, F, E, q⟩ => by
 unfold gv at q
 split at q
 ·rename_i d e
  obtain ⟨o, e1, v, rfl, hd⟩ := E.at_ i _ e
  exact ⟨v, e1, cF q E.sub hd⟩
 ·exact q.elim
theorem wE {t : TE} {v : V} {d : D} (hp : PE X e (tC v)) (hd : ∀ F, bA X.K F d v) : IE X e (kc d) := fL hp fun σ H Q ⟨ρ, F, E, q⟩ => cF q E.sub (hd F)
theorem cY {i j} : IE X (.Constant (.int i) j pos) (kc (.int i)) := wE (t := tC (.int i)) cU6 fun F => by simp only [bA]
theorem dJ7 {i j} : IE X (.Constant (.bool i) j pos) (kc (.bl i)) := wE (t := tC (.bl i)) cU7 fun F => by simp only [bA]
theorem jU {j} : IE X (.Constant .none j pos) (kc .non) := wE (t := tC .non) cU8 fun F => by simp only [bA]
theorem dJ8 {x j} (hx : x.length <= sizeLine := by decide) : IE X (.Constant (.str x) j pos) (kc (.str x)) := wE (t := tC (.str x)) cU9 fun F => by simp only [bA]; exact ⟨trivial, hx⟩
def m1 (m : D -> bC D) (f : ME) : ME := fun ρ => (f ρ).bind m
def m2 (m : D -> D -> bC D) (f g : ME) : ME := fun ρ => (f ρ).bind fun x => (g ρ).bind fun y => m x y
def rK (X : Cx) (r : R2) (m : D -> D -> bC D) : Prop := ∀ F H d1 d2 v1 v2 Q, bG F H -> bA X.K F d1 v1 -> bA X.K F d2 v2 -> dA (bA X.K) F H (m d1 d2) Q -> r v1 v2 H Q
def wF (X : Cx) (r : V -> Hp -> VK -> Prop) (m : D -> bC D) : Prop := ∀ F H d v Q, bG F H -> bA X.K F d v -> dA (bA X.K) F H (m d) Q -> r v H Q
def rM (X : Cx) (r : List V -> Hp -> VK -> Prop) (m : List D -> bC D) : Prop := ∀ F H ds vs Q, bG F H -> DatL X.K F ds vs -> dA (bA X.K) F H (m ds) Q -> r vs H Q
theorem wG {r : R2} {m : D -> D -> bC D} (hd : rK X r m) {σ : St} {H : Hp} {Q : VK} (q : tD X (m2 m f g) σ H Q) : vS r (tD X f) (tD X g) σ H Q := by
 obtain ⟨ρ, F, E, q⟩ := q
 refine ⟨ρ, F, E, ?_⟩
 have q1 := fA (R1 := bA X.K) q
 refine (by
  revert q1
  cases f ρ with
  | ok d =>
   intro q1 v F1 H1 g1 d1
   obtain ⟨F2, d', g2, d2, q2⟩ := q1 v F1 H1 g1 d1
   refine ⟨ρ, F2, E.grow g2, ?_⟩
   have q3 := fA (R1 := bA X.K) q2
   revert q3
   cases g ρ with
   | ok y =>
    intro q3 v' F3 H3 g3 d3
    obtain ⟨F4, y', g4, d4, q4⟩ := q3 v' F3 H3 g3 d3
    exact hd F4 H3 d' y' v v' Q g4.sub (d2.mono g4.fs) d4 q4
   | ex _ => intro q3; exact q3
   | bad => intro q3; exact q3
  | ex _ => intro q1; exact q1
  | bad => intro q1; exact q1)
theorem dJ9 {op : Operator} {r : R2} {m : D -> D -> bC D} (ho : cI X (binaryOp op) r) (hd : rK X r m) (ha : IE X a f) (hb : IE X b g) : IE X (.BinOp a op b pos) (m2 m f g) :=
 fL (bW5 ho ha hb) fun _ _ _ q => wG hd q
theorem dK0 {op : CmpOp} {r : R2} {m : D -> D -> bC D} (ho : cI X (compareOp op) r) (hd : rK X r m) (ha : IE X a f) (hb : IE X b g) (hm : behindInMarks op b = false) : IE X (.Compare a [op] [b] pos) (m2 m f g) :=
 fL (bW7 ho ha hb hm) fun _ _ _ q => wG hd q
theorem dK1 {r : R2} {m : D -> D -> bC D} (ho : qC X r) (hd : rK X r m) (ha : IE X a f) (hb : IE X b g) (hs : yS b) : IE X (.Subscript a b pos) (m2 m f g) :=
 fL (bY1 ho ha hb hs) fun _ _ _ q => wG hd q
theorem dK2 {op : UnaryOp} {r : V -> Hp -> VK -> Prop} {m : D -> bC D} (ho : vR X (unaryOp op) r) (hd : wF X r m) (ha : IE X a f) : IE X (.UnaryOp op a pos) (m1 m f) :=
 fL (cZ6 ho ha) fun σ H Q ⟨ρ, F, E, q⟩ => ⟨ρ, F, E, by
  have q1 := fA (R1 := bA X.K) q
  revert q1
  cases f ρ with
  | ok d => exact fun q1 v F1 H1 g1 d1 => let ⟨F2, d', g2, d2, q2⟩ := q1 v F1 H1 g1 d1; hd F2 H1 d' v Q g2.sub d2 q2
  | ex _ => exact fun q1 => q1
  | bad => exact fun q1 => q1⟩
def bB : MA := fun _ => .ok []
def aC (f : ME) (r : MA) : MA := fun ρ => (f ρ).bind fun x => (r ρ).bind fun xs => .ok (x :: xs)
theorem cT : IA X [] bB := pO mD fun σ H Q ⟨ρ, F, E, q⟩ => cF q E.sub DatL.nil
theorem yY {r : MA} (ha : IE X e f) (hr : IA X es r) (hs : starEach (e :: es) X.env = (false, eval e X.env) :: starEach es X.env := by rfl) : IA X (e :: es) (aC f r) :=
 pO (kO ha hr hs) fun σ H Q ⟨ρ, F, E, q⟩ => ⟨ρ, F, E, by
  have q1 := fA (R1 := bA X.K) q
  revert q1
  cases f ρ with
  | ok d =>
   intro q1 v F1 H1 g1 d1
   obtain ⟨F2, d', g2, d2, q2⟩ := q1 v F1 H1 g1 d1
   refine ⟨ρ, F2, E.grow g2, ?_⟩
   have q3 := fA (R1 := DatL X.K) q2
   revert q3
   cases r ρ with
   | ok y =>
    intro q3 v' F3 H3 g3 d3
    obtain ⟨F4, y', g4, d4, q4⟩ := q3 v' F3 H3 g3 d3
    exact cF q4 g4.sub (DatL.cons (d2.mono g4.fs) d4)
   | ex _ => intro q3; exact q3
   | bad => intro q3; exact q3
  | ex _ => exact fun q1 => q1
  | bad => exact fun q1 => q1⟩
theorem yZ {r : List V -> Hp -> VK -> Prop} {m : List D -> bC D} {fa : MA} (hd : rM X r m) {σ : St} {H : Hp} {Q : VK} (q : tD X (fun ρ => (fa ρ).bind m) σ H Q) : wD X fa σ H fun vs H1 => r vs H1 Q := by
 obtain ⟨ρ, F, E, q⟩ := q
 refine ⟨ρ, F, E, ?_⟩
 have q1 := fA (R1 := DatL X.K) q
 revert q1
 cases fa ρ with
 | ok d => exact fun q1 v F1 H1 g1 d1 => let ⟨F2, d', g2, d2, q2⟩ := q1 v F1 H1 g1 d1; hd F2 H1 d' v Q g2.sub d2 q2
 | ex _ => exact fun q1 => q1
 | bad => exact fun q1 => q1
theorem dK3 {r : List V -> Hp -> VK -> Prop} {m : List D -> bC D} {fa : MA} (hd : ∀ F H ds vs Q, lO F H -> bG F H -> DatL X.K F ds vs -> dA (bA X.K) F H (m ds) Q -> r vs H Q) {σ : St} {H : Hp} {Q : VK} (q : tD X (fun ρ => (fa ρ).bind m) σ H Q) : wD X fa σ H fun vs H1 => r vs H1 Q := by
 obtain ⟨ρ, F, E, q⟩ := q
 refine ⟨ρ, F, E, ?_⟩
 have q1 := fA (R1 := DatL X.K) q
 revert q1
 cases fa ρ with
 | ok d => exact fun q1 v F1 H1 g1 d1 => let ⟨F2, d', g2, d2, q2⟩ := q1 v F1 H1 g1 d1; hd F2 H1 d' v Q (g2.tk E.tb) g2.sub d2 q2
 | ex _ => exact fun q1 => q1
 | bad => exact fun q1 => q1
def mA (m : List D -> bC D) (fa : MA) : ME := fun ρ => (fa ρ).bind m
def bR (ds : List D) : bC D := if ds.length <= sizeLine then .ok (.tup ds) else .bad
def gJ (ds : List D) : bC D := if ds.length <= sizeLine then .ok (.lst ds) else .bad
theorem jV {fa : MA} {k} (h : IA X es fa) : IE X (.Tuple es k pos) (mA bR fa) := fL (dD5 h) fun σ H Q q => yZ (r := fun vs H1 Q => vs.length <= sizeLine /\ ∀ p, H1 p = none -> Q (.ref p) (upd H1 p (.tup vs))) (fun F H ds vs Q s d q => by
 unfold bR at q
 split at q
 ·rename_i z; exact ⟨by rw [<- d.length]; exact z, fun p hp => rJ q s d hp⟩
 ·exact q.elim) q
theorem bJ1 {fa : MA} (h : IA X es fa) : IE X (.List es pos) (mA gJ fa) := fL (bH8 h) fun σ H Q q => yZ (r := fun vs H1 Q => vs.length <= sizeLine /\ ∀ p, H1 p = none -> Q (.ref p) (upd H1 p (.lst vs))) (fun F H ds vs Q s d q => by
 unfold gJ at q
 split at q
 ·rename_i z; exact ⟨by rw [<- d.length]; exact z, fun p hp => qE q s d hp⟩
 ·exact q.elim) q
theorem dK4 {x : Str} {p : Pos} {id : String} {r : List V -> Hp -> VK -> Prop} {m : List D -> bC D} {fa : MA} (hc : fG X (.builtin id) r) (hd : rM X r m) (hg : Gl X x) (hm : X.mg x = none) (hv : bootBuiltins x = some (.builtin id)) (ha : IA X (e :: es) fa)
 (hn : x ≠ "__name__" := by decide) (hdb : (x == ("__debug__" : Str)) = false := by decide) (he : starEach (e :: es) X.env = (false, eval e X.env) :: starEach es X.env := by rfl) (hpl : (backTo pos (starEach es X.env)).any (·.1) = false := by rfl) :
 IE X (.Call (.Name x p) (e :: es) [] pos) (mA m fa) := fL (bI0 hc hg hm hv ha hn hdb he hpl) fun σ H Q q => yZ hd q
theorem dK5 {x : Str} {p : Pos} {id : String} {r : List V -> Hp -> VK -> Prop} {m : List D -> bC D} {fa : MA} (hc : fG X (.type id) r) (hd : rM X r m) (hg : Gl X x) (hm : X.mg x = none) (hv : bootBuiltins x = some (.type id)) (ha : IA X (e :: es) fa)
 (hn : x ≠ "__name__" := by decide) (hdb : (x == ("__debug__" : Str)) = false := by decide) (he : starEach (e :: es) X.env = (false, eval e X.env) :: starEach es X.env := by rfl) (hpl : (backTo pos (starEach es X.env)).any (·.1) = false := by rfl) :
 IE X (.Call (.Name x p) (e :: es) [] pos) (mA m fa) := fL (bI1 hc hg hm hv ha hn hdb he hpl) fun σ H Q q => yZ hd q
def cL (K : W.Frag) (m : List D -> bC D) : Sp := fun vs H Q _ => ∃ F ds, lO F H /\ bG F H /\ DatL K F ds vs /\ dA (bA K) F H (m ds) Q
structure bZ9 (X : Cx) (k : Nat) (x : Str) (m : List D -> bC D) : Prop where
 ex : ∃ (f : Addr) (fd : FuncData) (ps : List Str), bS X.prog X.w X.K X.mg X.base bU k f fd ps (cL X.K m) /\ X.mg x = some (.ref f) /\ W.keepIn X.K (.ref f) = true /\ cS X.K fd ps []
theorem dK6 {k : Nat} {x : Str} {p : Pos} {m : List D -> bC D} {fa : MA} (C : bZ9 X k x m) (hr : dR k X.A) (hg : Gl X x) (ha : IA X (e :: es) fa)
 (hdb : (x == ("__debug__" : Str)) = false := by decide) (he : starEach (e :: es) X.env = (false, eval e X.env) :: starEach es X.env := by rfl) (hpl : (backTo pos (starEach es X.env)).any (·.1) = false := by rfl) :
 IE X (.Call (.Name x p) (e :: es) [] pos) (mA m fa) := by
 obtain ⟨f, fd, ps, F, hm, hk, hb⟩ := C.ex
 refine fL (yQ (E := E0) F hr hg hm hk hb .nil yT ha hdb he hpl) fun σ H Q q => ?_
 refine dK3 (r := fun vs H1 Q => cL X.K m (vs ++ []) H1 Q E0) (fun F H ds vs Q ti s d q => ?_) q
 show cL X.K m (vs ++ []) H Q E0
 rw [List.append_nil]
 exact ⟨F, ds, ti, s, d, q⟩
def nR : D -> bC Bool
 | .bl b => .ok b
 | _ => .bad
def zF : D -> bC Bool
 | .non => .ok false
 | .bl b => .ok b
 | .int i => .ok (i != 0)
 | .str x => .ok ((x.length : Int) != 0)
 | .tup ds => .ok (!ds.isEmpty)
 | .lst ds => .ok (!ds.isEmpty)
def mT (f : ME) : MT := fun ρ => (f ρ).bind zF
def mB (f : ME) : MT := fun ρ => (f ρ).bind nR
theorem bJ2 {σ : St} {H : Hp} {Q : Bool -> Hp -> Prop} {t : TE} (ht : ∀ σ H Q, tD X f σ H Q -> t σ H Q) (q : mG X (mB f) σ H Q) : t σ H fun x H' => ∃ k, x = .bl k /\ Q k H' := by
 obtain ⟨ρ, F, E, q⟩ := q
 refine ht _ _ _ ⟨ρ, F, E, ?_⟩
 have q1 := fA (R1 := bA X.K) q
 revert q1
 cases f ρ with
 | ok d =>
  intro q1 v F1 H1 g1 d1
  obtain ⟨F2, d', g2, d2, q2⟩ := q1 v F1 H1 g1 d1
  cases d' with
  | bl b => simp only [bA] at d2; exact ⟨b, d2, cF q2 g2.sub rfl⟩
  | _ => exact q2.elim
 | ex _ => exact fun q1 => q1
 | bad => exact fun q1 => q1
theorem dK7 {op : CmpOp} {r : R2} {m : D -> D -> bC D} (ho : cI X (compareOp op) r) (hd : rK X r m) (ha : IE X a f) (hb : IE X b g) (hm : behindInMarks op b = false) : IT X (.Compare a [op] [b] pos) (mB (m2 m f g)) :=
 qF (bW9 ho ha hb hm) fun σ H Q q => bJ2 (f := m2 m f g) (fun _ _ _ q => wG hd q) q
theorem dK8 {F H : Hp} {d : D} {v : V} {Q : Bool -> Hp -> Prop} (s : bG F H) (h : bA X.K F d v) (q : dA wC F H (zF d) Q) : ∃ k, bH6 X.K v H k /\ Q k H := by
 cases d with
 | non => simp only [bA] at h; subst h; exact ⟨false, rfl, cF q s rfl⟩
 | bl b => simp only [bA] at h; subst h; exact ⟨b, rfl, cF q s rfl⟩
 | int i => simp only [bA] at h; subst h; exact ⟨_, rfl, cF q s rfl⟩
 | str x => simp only [bA] at h; obtain ⟨rfl, h⟩ := h; exact ⟨_, ⟨h, rfl⟩, cF q s rfl⟩
 | tup ds =>
  simp only [bA] at h; obtain ⟨a, xs, rfl, h1, h2⟩ := h
  refine ⟨!xs.isEmpty, .inr (.inl ⟨xs, bG.seqT s h1, rfl⟩), cF q s ?_⟩
  have := h2.length
  cases ds <;> cases xs <;> first | rfl | cases this
 | lst ds =>
  simp only [bA] at h; obtain ⟨a, xs, rfl, h1, h2⟩ := h
  refine ⟨!xs.isEmpty, .inl ⟨xs, bG.seq s h1, rfl⟩, cF q s ?_⟩
  have := h2.length
  cases ds <;> cases xs <;> first | rfl | cases this
theorem dK9 (ha : IE X a f) (he : ∀ whole, isTrue a X.env whole = (do let v <- whole; standAt a.pos; holding [v] (truthy v)) := by intro _; rfl) : IT X a (mT f) :=
 qF (dC5 ha he) fun σ H Q ⟨ρ, F, E, q⟩ => ⟨ρ, F, E, by
  have q1 := fA (R1 := bA X.K) q
  revert q1
  cases f ρ with
  | ok d => exact fun q1 v F1 H1 g1 d1 => let ⟨F2, d', g2, d2, q2⟩ := q1 v F1 H1 g1 d1; dK8 g2.sub d2 q2
  | ex _ => exact fun q1 => q1
  | bad => exact fun q1 => q1⟩
variable {p q' : MT} {rest : List Expr}
def mY (p q : MT) : MT := fun ρ => (p ρ).bind fun b => if b = true then q ρ else .ok false
def jL (p q : MT) : MT := fun ρ => (p ρ).bind fun b => if b = true then .ok true else q ρ
def zG (p : MT) : MT := fun ρ => (p ρ).bind fun b => .ok (!b)
theorem dL0 (ha : IT X a p) : IW X (.BoolOp .And [a] pos) p := cV5 ha
theorem cA0 (ha : IT X a p) : IW X (.BoolOp .Or [a] pos) p := cV6 ha
theorem bJ3 {σ : St} {H : Hp} {Q : Bool -> Hp -> Prop} {k : Bool -> bM -> bC Bool} {T : Bool -> St -> Hp -> Prop} (hT : ∀ b σ H, mG X (k b) σ H Q -> T b σ H) (q : mG X (fun ρ => (p ρ).bind fun b => k b ρ) σ H Q) : mG X p σ H fun b H1 => T b σ H1 := by
 obtain ⟨ρ, F, E, q⟩ := q
 refine ⟨ρ, F, E, ?_⟩
 have q1 := fA (R1 := wC) q
 revert q1
 cases p ρ with
 | ok d =>
  intro q1 v F1 H1 g1 d1
  obtain ⟨F2, d', g2, d2, q2⟩ := q1 v F1 H1 g1 d1
  cases (show d' = v from d2)
  exact hT _ _ _ ⟨ρ, F2, E.grow g2, q2⟩
 | ex _ => exact fun q1 => q1
 | bad => exact fun q1 => q1
theorem zH {b : Bool} {σ : St} {H : Hp} {Q : Bool -> Hp -> Prop} (q : mG X (fun _ => .ok b) σ H Q) : Q b H := by
 obtain ⟨ρ, F, E, q⟩ := q
 exact cF q E.sub rfl
theorem dL1 (ha : IT X a p) (hb : IW X (.BoolOp .And (b :: rest) pos) q') : IW X (.BoolOp .And (a :: b :: rest) pos) (mY p q') := bZ8 (cV7 ha hb) fun σ H Q q =>
 bJ3 (k := fun b ρ => if b = true then q' ρ else .ok false) (T := fun c σ H1 => if c = true then mG X q' σ H1 Q else Q false H1) (fun b σ H h => by
  cases b with
  | true => exact nQ h
  | false => exact pN (zH h)) q
theorem cA1 (ha : IT X a p) (hb : IW X (.BoolOp .Or (b :: rest) pos) q') : IW X (.BoolOp .Or (a :: b :: rest) pos) (jL p q') := bZ8 (cV8 ha hb) fun σ H Q q =>
 bJ3 (k := fun b ρ => if b = true then .ok true else q' ρ) (T := fun c σ H1 => if c = true then Q true H1 else mG X q' σ H1 Q) (fun b σ H h => by
  cases b with
  | true => exact nQ (zH h)
  | false => exact pN h) q
theorem dL2 (ha : IT X a p) : IT X (.UnaryOp .Not a pos) (zG p) := qF (cV9 ha) fun σ H Q q =>
 bJ3 (k := fun b _ => .ok (!b)) (T := fun c σ H1 => Q (!c) H1) (fun b σ H h => zH h) q
theorem IW.it (h : IW X e p) : IT X e p := PW.pt h
def rN (f g : ME) : ME := fun ρ => (f ρ).bind fun x => (nR x).bind fun c => if c = true then g ρ else .ok (.bl false)
def vOr (f g : ME) : ME := fun ρ => (f ρ).bind fun x => (nR x).bind fun c => if c = true then .ok (.bl true) else g ρ
def cA3 (f : ME) : ME := fun ρ => (f ρ).bind fun x => (nR x).bind fun c => .ok (.bl (!c))
theorem bJ4 {σ : St} {H : Hp} {Q : VK} {k : Bool -> ME} {T : Bool -> St -> Hp -> Prop} (hT : ∀ b σ H, tD X (k b) σ H Q -> T b σ H) (q : tD X (fun ρ => (f ρ).bind fun x => (nR x).bind fun c => k c ρ) σ H Q) : tD X f σ H fun x H1 => ∃ c, x = .bl c /\ T c σ H1 := by
 obtain ⟨ρ, F, E, q⟩ := q
 refine ⟨ρ, F, E, ?_⟩
 have q1 := fA (R1 := bA X.K) q
 revert q1
 cases f ρ with
 | ok d =>
  intro q1 v F1 H1 g1 d1
  obtain ⟨F2, d', g2, d2, q2⟩ := q1 v F1 H1 g1 d1
  cases d' with
  | bl c => simp only [bA] at d2; exact ⟨c, d2, hT _ _ _ ⟨ρ, F2, E.grow g2, q2⟩⟩
  | _ => exact q2.elim
 | ex _ => exact fun q1 => q1
 | bad => exact fun q1 => q1
theorem bJ5 {d : D} {v : V} {σ : St} {H : Hp} {Q : VK} (hd : ∀ F, bA X.K F d v) (q : tD X (fun _ => .ok d) σ H Q) : Q v H := by
 obtain ⟨ρ, F, E, q⟩ := q
 exact cF q E.sub (hd F)
theorem cA4 {op} (h : IE X a f) : IE X (.BoolOp op [a] pos) f := cW3 h
theorem cA5 (ha : IE X a f) (hb : IE X (.BoolOp .And (b :: rest) pos) g) : IE X (.BoolOp .And (a :: b :: rest) pos) (rN f g) := fL (cW4 ha hb) fun σ H Q q =>
 bJ4 (k := fun c ρ => if c = true then g ρ else .ok (.bl false)) (T := fun c σ H1 => if c = true then tD X g σ H1 Q else Q (.bl false) H1) (fun b σ H h => by
  cases b with
  | true => exact nQ h
  | false => exact pN (bJ5 (fun F => by simp only [bA]) h)) q
theorem dL3 (ha : IE X a f) (hb : IE X (.BoolOp .Or (b :: rest) pos) g) : IE X (.BoolOp .Or (a :: b :: rest) pos) (vOr f g) := fL (cW5 ha hb) fun σ H Q q =>
 bJ4 (k := fun c ρ => if c = true then .ok (.bl true) else g ρ) (T := fun c σ H1 => if c = true then Q (.bl true) H1 else tD X g σ H1 Q) (fun b σ H h => by
  cases b with
  | true => exact nQ (bJ5 (fun F => by simp only [bA]) h)
  | false => exact pN h) q
theorem dL4 (ha : IE X a f) : IE X (.UnaryOp .Not a pos) (cA3 f) := fL (cW6 ha) fun σ H Q q =>
 bJ4 (k := fun c _ => .ok (.bl (!c))) (T := fun c σ H1 => Q (.bl (!c)) H1) (fun b σ H h => bJ5 (fun F => by simp only [bA]) h) q
def rP (p : MT) (f g : ME) : ME := fun ρ => (p ρ).bind fun c => if c = true then f ρ else g ρ
theorem bJ6 (hc : IT X c p) (ha : IE X a f) (hb : IE X b g) : IE X (.IfExp c a b pos) (rP p f g) := fL (bV7 hc ha hb) fun σ H Q ⟨ρ, F, E, q⟩ => ⟨ρ, F, E, by
 have q1 := fA (R1 := wC) q
 revert q1
 cases p ρ with
 | ok d =>
  intro q1 v F1 H1 g1 d1
  obtain ⟨F2, d', g2, d2, q2⟩ := q1 v F1 H1 g1 d1
  cases (show d' = v from d2)
  cases v with
  | true => exact nQ ⟨ρ, F2, E.grow g2, q2⟩
  | false => exact pN ⟨ρ, F2, E.grow g2, q2⟩
 | ex _ => exact fun q1 => q1
 | bad => exact fun q1 => q1⟩
end
end R
end
section
namespace R
open PySem PySem.Spec PyProof.Rows L2
variable [bP] [Pd]
inductive Fl where
 | nx (ρ : bM) | rt (d : D) | bk (ρ : bM) | ct (ρ : bM) | rd (d : D) (T : Tab) | rn (T : Tab)
abbrev MS := bM -> bC Fl
def DR (H₀ : Hp) (ρ : bM) (σ : St) : Prop := (∀ (i : Nat) p T a, ρ[i]? = some (.dic p T) -> σ[i]? = some (some (.ref a)) -> H₀ a = none) /\
 ∀ (i j : Nat) p q T U a, i ≠ j -> ρ[i]? = some (.dic p T) -> ρ[j]? = some (.dic q U) -> σ[i]? = some (some (.ref a)) -> σ[j]? ≠ some (some (.ref a))
def nd : Slot -> Bool
 | .dic _ _ => false
 | _ => true
theorem rQ {ρ : bM} {i j : Nat} {s : Slot} {p : Bool} {T : Tab} (hs : nd s = true) (e : (ρ.set i s)[j]? = some (.dic p T)) : i ≠ j /\ ρ[j]? = some (.dic p T) := by
 have q : i ≠ j := by
  rintro rfl
  by_cases hl : i < ρ.length
  ·rw [List.getElem?_set_self hl] at e; cases e; cases hs
  ·rw [List.getElem?_eq_none (by rw [List.length_set]; omega)] at e; cases e
 rw [List.getElem?_set_ne q] at e
 exact ⟨q, e⟩
theorem DR.set {H₀ : Hp} {ρ : bM} {σ : St} (h : DR H₀ ρ σ) (i : Nat) {s : Slot} (hs : nd s = true) (o : Option V) : DR H₀ (ρ.set i s) (σ.set i o) := by
 refine ⟨fun j p T a e1 e2 => ?_, fun j k p q T U a n e1 e2 e3 => ?_⟩
 ·obtain ⟨n, e⟩ := rQ hs e1
  rw [List.getElem?_set_ne n] at e2
  exact h.1 j p T a e e2
 ·obtain ⟨n1, e1⟩ := rQ hs e1
  obtain ⟨n2, e2⟩ := rQ hs e2
  rw [List.getElem?_set_ne n1] at e3
  rw [List.getElem?_set_ne n2]
  exact h.2 j k p q T U a n e1 e2 e3
theorem DR.setL {H₀ : Hp} {ρ : bM} {σ : St} (h : DR H₀ ρ σ) (i : Nat) {s : Slot} (hs : nd s = true) : DR H₀ (ρ.set i s) σ := by
 refine ⟨fun j p T a e1 e2 => ?_, fun j k p q T U a n e1 e2 e3 => ?_⟩
 ·exact h.1 j p T a (rQ hs e1).2 e2
 ·exact h.2 j k p q T U a n (rQ hs e1).2 (rQ hs e2).2 e3
theorem DR.none {H₀ : Hp} {ρ : bM} {σ : St} (h : ∀ s ∈ ρ, nd s = true) : DR H₀ ρ σ := by
 refine ⟨fun j p T a e1 e2 => ?_, fun j k p q T U a n e1 e2 e3 => ?_⟩
 ·cases h _ (List.mem_of_getElem? e1)
 ·cases h _ (List.mem_of_getElem? e1)
theorem cA6 {ds : List D} {k : Nat} : ∀ s ∈ ds.map Slot.val ++ List.replicate k Slot.no, nd s = true := fun s hs => by
 rcases List.mem_append.mp hs with h | h
 ·obtain ⟨d, _, rfl⟩ := List.mem_map.mp h; rfl
 ·rw [List.eq_of_mem_replicate h]; rfl
structure SR (K : W.Frag) (F₀ H₀ F H : Hp) (ρ : bM) (σ : St) : Prop where
 gr : cD F₀ H₀ F H
 env : gD K F H ρ σ
 frh : ∀ (i : Nat) ds a, ρ[i]? = some (.own ds) -> σ[i]? = some (some (.ref a)) -> H₀ a = none
 dr : DR H₀ ρ σ
theorem SR.grow {K : W.Frag} {F₀ H₀ F H F' H' : Hp} {ρ : bM} {σ : St} (h : SR K F₀ H₀ F H ρ σ) (g : cD F H F' H') : SR K F₀ H₀ F' H' ρ σ := ⟨h.gr.trans g, h.env.grow g, h.frh, h.dr⟩
theorem dL5 {ρ : bM} {i j : Nat} {d : D} {ds : List D} (e : (ρ.set i (.val d))[j]? = some (.own ds)) : i ≠ j /\ ρ[j]? = some (.own ds) := by
 have q : i ≠ j := by
  rintro rfl
  by_cases hl : i < ρ.length
  ·rw [List.getElem?_set_self hl] at e; cases e
  ·rw [List.getElem?_eq_none (by rw [List.length_set]; omega)] at e; cases e
 rw [List.getElem?_set_ne q] at e
 exact ⟨q, e⟩
theorem SR.set {K : W.Frag} {F₀ H₀ F H : Hp} {ρ : bM} {σ : St} (h : SR K F₀ H₀ F H ρ σ) {d : D} {v : V} (i : Nat) (hd : bA K F d v) : SR K F₀ H₀ F H (ρ.set i (.val d)) (σ.set i (some v)) :=
 ⟨h.gr, h.env.set i hd, fun j ds a e1 e2 => by
  obtain ⟨q, e⟩ := dL5 e1
  rw [List.getElem?_set_ne q] at e2
  exact h.frh j ds a e e2, h.dr.set i rfl _⟩
def fS (X : Cx) (F₀ H₀ : Hp) (r : bC Fl) (E : lK) : Prop := match r with
 | .ok (.nx ρ) => ∀ σ F H, SR X.K F₀ H₀ F H ρ σ -> E.nx σ H
 | .ok (.rt d) => ∀ v F H, cD F₀ H₀ F H -> bA X.K F d v -> E.rt v H
 | .ok (.bk ρ) => ∀ σ F H, SR X.K F₀ H₀ F H ρ σ -> E.bk σ H
 | .ok (.ct ρ) => ∀ σ F H, SR X.K F₀ H₀ F H ρ σ -> E.ct σ H
 | .ok (.rd d T) => ∀ v F H kvs, cD F₀ H₀ F H -> bA X.K F d v -> H Pd.pd = some (.dK kvs) -> F Pd.pd = none -> fQ X.K F T kvs -> E.rt v H
 | .ok (.rn T) => ∀ a F H kvs, cD F₀ H₀ F H -> H₀ a = none -> H a = some (.dK kvs) -> F a = none -> fQ X.K F T kvs -> E.rt (.ref a) H
 | .ex _ => False
 | .bad => False
def tS (X : Cx) (F₀ H₀ : Hp) (g : MS) : TS := fun E σ H => ∃ ρ F, SR X.K F₀ H₀ F H ρ σ /\ fS X F₀ H₀ (g ρ) E
def IS (X : Cx) (st : Stmt) (g : MS) : Prop := ∀ F₀ H₀, PS X st (tS X F₀ H₀ g)
def jD (X : Cx) (st : List Stmt) (g : MS) : Prop := ∀ F₀ H₀, jS X st (tS X F₀ H₀ g)
section
variable {X : Cx} {st : Stmt} {rest : List Stmt} {u v w : MS} {f : ME} {e : Expr} {pos : Pos}
def bW : MS := fun ρ => .ok (.nx ρ)
def lP (g : MS) : Fl -> bC Fl
 | .nx ρ => g ρ
 | .rt d => .ok (.rt d)
 | .bk ρ => .ok (.bk ρ)
 | .ct ρ => .ok (.ct ρ)
 | .rd d T => .ok (.rd d T)
 | .rn T => .ok (.rn T)
def bD (u v : MS) : MS := fun ρ => (u ρ).bind (lP v)
theorem jM : jD X [] bW := fun F₀ H₀ => bJ0 cX0 fun E σ H ⟨ρ, F, S, q⟩ => q σ F H S
theorem dG (h : IS X st u) : jD X [st] u := fun F₀ H₀ => cX2 (h F₀ H₀)
theorem cW (h1 : IS X st u) (h2 : jD X rest v) : jD X (st :: rest) (bD u v) := fun F₀ H₀ => bJ0 (cX1 (h1 F₀ H₀) (h2 F₀ H₀)) fun E σ H ⟨ρ, F, S, q⟩ => by
 refine ⟨ρ, F, S, ?_⟩
 unfold bD at q
 revert q
 cases u ρ with
 | ok fl =>
  intro q
  cases fl with
  | nx ρ' => exact fun σ' F' H' S' => ⟨ρ', F', S', q⟩
  | rt d => exact q
  | bk ρ' => exact q
  | ct ρ' => exact q
  | rd _ _ => exact q
  | rn _ => exact q
 | ex _ => exact fun q => q
 | bad => exact fun q => q
theorem dL6 : IS X (.Pass pos) bW := fun F₀ H₀ => fR cX5 fun E σ H ⟨ρ, F, S, q⟩ => q σ F H S
def cA7 : MS := fun ρ => .ok (.bk ρ)
def cA8 : MS := fun ρ => .ok (.ct ρ)
theorem dL7 : IS X (.Break pos) cA7 := fun F₀ H₀ => fR cX6 fun E σ H ⟨ρ, F, S, q⟩ => q σ F H S
theorem dL8 : IS X (.Continue pos) cA8 := fun F₀ H₀ => fR cX7 fun E σ H ⟨ρ, F, S, q⟩ => q σ F H S
theorem rR {F₀ H₀ : Hp} {E : lK} {σ : St} {H : Hp} {k : D -> MS} {T : V -> Hp -> Prop} (hT : ∀ ρ F H d v, SR X.K F₀ H₀ F H ρ σ -> bA X.K F d v -> fS X F₀ H₀ (k d ρ) E -> T v H)
 (q : tS X F₀ H₀ (fun ρ => (f ρ).bind fun d => k d ρ) E σ H) : tD X f σ H T := by
 obtain ⟨ρ, F, S, q⟩ := q
 refine ⟨ρ, F, S.env, ?_⟩
 revert q
 show fS X F₀ H₀ ((f ρ).bind fun d => k d ρ) E -> _
 cases f ρ with
 | ok d => exact fun q v F1 H1 g1 d1 => hT ρ F1 H1 d v (S.grow g1) d1 q
 | ex _ => exact fun q => q
 | bad => exact fun q => q
def bJ7 (f : ME) : MS := fun ρ => (f ρ).bind fun _ => .ok (.nx ρ)
theorem dL9 (he : IE X e f) (hs : swapsWith e none pos.line X.env = pure false := by rfl) : IS X (.Expr e pos) (bJ7 f) := fun F₀ H₀ => fR (bG8 he hs) fun E σ H q =>
 rR (k := fun _ ρ => .ok (.nx ρ)) (fun ρ F H d v S _ q => q σ F H S) q
def bX (f : ME) : MS := fun ρ => (f ρ).bind fun d => .ok (.rt d)
theorem bJ8 (he : IE X e f) : IS X (.Return (some e) pos) (bX f) := fun F₀ H₀ => fR (yJ he) fun E σ H q =>
 rR (k := fun d _ => .ok (.rt d)) (fun ρ F H d v S r q => q v F H S.gr r) q
def cA9 : MS := fun _ => .ok (.rt .non)
theorem dM0 : IS X (.Return none pos) cA9 := fun F₀ H₀ => fR cY1 fun E σ H ⟨ρ, F, S, q⟩ => q .non F H S.gr (by simp only [bA])
def bZ (i : Nat) (f : ME) : MS := fun ρ => (f ρ).bind fun d => .ok (.nx (ρ.set i (.val d)))
theorem cB0 {x : Str} {p : Pos} {i : Nat} (h : ∀ t, PE X e t -> PS X (.Assign [.Name x p] e pos) (vO t (kD i))) (he : IE X e f) : IS X (.Assign [.Name x p] e pos) (bZ i f) := fun F₀ H₀ => fR (h _ he) fun E σ H q =>
 rR (k := fun d ρ => .ok (.nx (ρ.set i (.val d)))) (fun ρ F H d v S r q => q _ F H (S.set i r)) q
def bO (p : MT) (u v : MS) : MS := fun ρ => (p ρ).bind fun c => if c = true then u ρ else v ρ
theorem jN {c : Expr} {a b : List Stmt} {p : MT} (hc : IT X c p) (ha : jD X a u) (hb : jD X b v) : IS X (.If c a b pos) (bO p u v) := fun F₀ H₀ => fR (cY3 hc (ha F₀ H₀) (hb F₀ H₀)) fun E σ H ⟨ρ, F, S, q⟩ => by
 refine ⟨ρ, F, S.env, ?_⟩
 unfold bO at q
 revert q
 cases p ρ with
 | ok c =>
  intro q v F1 H1 g1 e1
  cases (show c = v from e1)
  cases c with
  | true => exact nQ ⟨ρ, F1, S.grow g1, q⟩
  | false => exact pN ⟨ρ, F1, S.grow g1, q⟩
 | ex _ => exact fun q => q
 | bad => exact fun q => q
def cU (i : Nat) (body : MS) : List D -> MS
 | [], ρ => .ok (.nx ρ)
 | d :: ds, ρ => (body (ρ.set i (.val d))).bind fun fl => match fl with
  | .nx ρ' => cU i body ds ρ'
  | .ct ρ' => cU i body ds ρ'
  | .bk ρ' => .ok (.nx ρ')
  | .rt d => .ok (.rt d)
  | .rd d T => .ok (.rd d T)
  | .rn T => .ok (.rn T)
theorem dM1 {F₀ H₀ : Hp} {E : lK} {i : Nat} {body : MS} {d : D} {ds : List D} {ρ : bM} (q : fS X F₀ H₀ (cU i body (d :: ds) ρ) E) {N : St -> Hp -> Prop} (hN : ∀ ρ' σ F H, SR X.K F₀ H₀ F H ρ' σ -> fS X F₀ H₀ (cU i body ds ρ') E -> N σ H) :
 fS X F₀ H₀ (body (ρ.set i (.val d))) { E with nx := N, ct := N, bk := E.nx } := by
 unfold cU at q
 revert q
 cases body (ρ.set i (.val d)) with
 | ok fl =>
  intro q
  cases fl with
  | nx ρ' => exact fun σ F H S => hN ρ' σ F H S q
  | ct ρ' => exact fun σ F H S => hN ρ' σ F H S q
  | bk ρ' => exact q
  | rt d => exact q
  | rd _ _ => exact q
  | rn _ => exact q
 | ex _ => exact fun q => q
 | bad => exact fun q => q
theorem cD.mix {F₀ H₀ F H F' H' : Hp} (a : cD F₀ H₀ F H) (b : cD F H₀ F' H') : cD F₀ H₀ F' H' := ⟨b.same, b.more, fun t => b.tk ⟨t.1, (a.tk t).2⟩, a.fs.trans b.fs, b.sub, fun c h n => b.new c (a.new c h n) n⟩
theorem cD.here {F₀ H₀ F H : Hp} (a : cD F₀ H₀ F H) : cD F H₀ F H := ⟨a.same, a.more, fun t => a.tk ⟨t.1, fun b ps e => t.2 b ps (a.fs _ _ e)⟩, bG.refl _, a.sub, fun _ h _ => h⟩
theorem SR.here {K : W.Frag} {F₀ H₀ F H : Hp} {ρ : bM} {σ : St} (h : SR K F₀ H₀ F H ρ σ) : SR K F H₀ F H ρ σ := ⟨h.gr.here, h.env, h.frh, h.dr⟩
theorem SR.mix {K : W.Frag} {F₀ H₀ F H F' H' : Hp} {ρ' : bM} {σ' : St} (a : cD F₀ H₀ F H) (h : SR K F H₀ F' H' ρ' σ') : SR K F₀ H₀ F' H' ρ' σ' := ⟨a.mix h.gr, h.env, h.frh, h.dr⟩
theorem fS.here {F₀ H₀ F H : Hp} {r : bC Fl} {E : lK} (a : cD F₀ H₀ F H) (q : fS X F₀ H₀ r E) : fS X F H₀ r E := by
 cases r with
 | ok fl =>
  cases fl with
  | nx ρ => exact fun σ F H S => q σ F H (SR.mix a S)
  | bk ρ => exact fun σ F H S => q σ F H (SR.mix a S)
  | ct ρ => exact fun σ F H S => q σ F H (SR.mix a S)
  | rt d => exact fun v F H g r => q v F H (a.mix g) r
  | rd d T => exact fun v F H kvs g r => q v F H kvs (a.mix g) r
  | rn T => exact fun b F H kvs g r => q b F H kvs (a.mix g) r
 | ex _ => exact q
 | bad => exact q
section
variable {tg iter : Expr} {body : List Stmt} {i : Nat}
theorem cB1 {H₀ : Hp} (hb : jD X body u) : jS X body (fun E σ H => ∃ F₁, tS X F₁ H₀ u E σ H) := fun pins s σ H E I ⟨F₁, h⟩ => hb F₁ H₀ pins s σ H E I h
def upTo (lo : Int) (n : Nat) : List D := (List.range n).map fun (k : Nat) => D.int (lo + (k : Int))
end
def lC (n : Nat) (ds : List D) : bM := ds.map .val ++ List.replicate (n - ds.length) .no
def cK : Fl -> bC D
 | .nx _ => .ok .non
 | .rt d => .ok d
 | _ => .bad
def cG (k n : Nat) (g : MS) (ds : List D) : bC D := if ds.length = k then (g (lC n ds)).bind cK else .bad
end
theorem env0 {K : W.Frag} {F H : Hp} {ds : List D} {vs : List V} {N : List Str} (ti : lO F H) (s : bG F H) (r : DatL K F ds vs) : gD K F H (lC N.length ds) (start N vs) := by
 have hl := r.length
 have noown : ∀ (i : Nat) es, (lC N.length ds)[i]? ≠ some (.own es) := fun i es e => by
  unfold lC at e
  have hm := List.mem_of_getElem? e
  rcases List.mem_append.mp hm with h | h
  ·obtain ⟨d, _, h⟩ := List.mem_map.mp h; cases h
  ·have := List.eq_of_mem_replicate h; cases this
 refine ⟨ti, s, ?_, fun i sl e => ?_, fun i j es fs a _ e => absurd e (noown i es)⟩
 ·unfold lC L2.start
  simp only [List.length_append, List.length_map, List.length_replicate]
  omega
 ·unfold lC at e
  unfold L2.start
  by_cases hi : i < ds.length
  ·rw [List.getElem?_append_left (by simpa using hi), List.getElem?_map] at e
   rw [List.getElem?_append_left (by simp; omega), List.getElem?_map]
   cases q : ds[i]? with
   | none => rw [q] at e; cases e
   | some d =>
    rw [q] at e; cases e
    obtain ⟨x, h1, h2⟩ := jT r.paired q
    exact ⟨some x, by rw [h1]; rfl, x, rfl, h2⟩
  ·have hi' : i < (ds.map Slot.val ++ List.replicate (N.length - ds.length) Slot.no).length := (List.getElem?_eq_some_iff.mp e).1
   rw [List.getElem?_append_right (by simpa using hi)] at e
   rw [List.getElem?_replicate] at e
   split at e
   ·cases e
    rename_i hz
    simp only [List.length_map] at hz
    refine ⟨none, ?_, trivial⟩
    rw [List.getElem?_append_right (by simp; omega), List.getElem?_replicate]
    simp only [List.length_map]
    rw [if_pos bF]
   ·cases e
theorem cB2 {P : Program} {w : World} {K : W.Frag} {mg : Str -> Option Value} {base : Heap} {x qual : Str} {st : Stmt} {f : Addr} {fd : FuncData} {N ps : List Str} {k : Nat} {g : MS} (F : bK K x qual st f fd) (S : dE N ps (bH st))
 (hbody : ∀ (cdv : Value) (A : Around) (outer : List Env) (s : Shared) (H : Hp) (E : XK), dR k (A.deeper (envOfC qual (bH st) s.heap.objs.size f cdv)) ->
   jD (mV bU P w K mg base N qual (bH st) f cdv A outer s H E).nox (mF st) g) : bS P w K mg base bU (k + 1) f fd ps (cL K (cG ps.length N.length g)) := by
 refine F.ok S (fun vs H Q E h => ?_) (fun cdv A outer s H vs Q E hr h => ?_)
 ·obtain ⟨F, ds, _, _, r, q⟩ := h
  unfold cG at q
  split at q
  ·rename_i e; rw [<- r.length]; exact e
  ·exact q.elim
 ·obtain ⟨F, ds, ti, s', r, q⟩ := h
  refine ⟨_, hbody cdv A outer s H E hr F H, lC N.length ds, F, ⟨.refl s', env0 ti s' r, fun i es a e => ?_, DR.none cA6⟩, ?_⟩
  ·exfalso
   unfold lC at e
   have hm := List.mem_of_getElem? e
   rcases List.mem_append.mp hm with h | h
   ·obtain ⟨d, _, h⟩ := List.mem_map.mp h; cases h
   ·have := List.eq_of_mem_replicate h; cases this
  ·unfold cG at q
   split at q
   ·revert q
    cases g (lC N.length ds) with
    | ok fl =>
     intro q
     cases fl with
     | nx ρ => exact fun σ F' H' S' => q .non F' H' S'.gr (by simp only [bA])
     | rt d => exact fun v F' H' g' r' => q v F' H' g' r'
     | bk ρ => exact q.elim
     | ct ρ => exact q.elim
     | rd _ _ => exact q.elim
     | rn _ => exact q.elim
    | ex _ => exact fun q => q
    | bad => exact fun q => q
   ·exact q.elim
end R
end
section
namespace R
open PySem PySem.Spec PyProof.Rows L2
section
variable {prog : Program} {w : World} {A : Around} {E : Value -> Shared -> Prop} {s : Shared}
theorem dM2 {t sl : Addr} {items : Array Value} {vl vu : Value} {lo hi : Option Int} {Q : Value -> Shared -> Prop} (ht : IsTup s.heap t items) (hs : s.heap.IsSliceOf sl vl vu .none) (pl : IsPart vl lo) (pu : IsPart vu hi)
 (hw : HT.sIx items.size 0 lo = 0 /\ HT.sIx items.size items.size hi = items.size) (h : Q (.ref t) s) : wpAny (model prog w) A (getItem (.ref t) (.ref sl)) Q E s := by
 obtain ⟨os, hos, hcs, hds⟩ := id hs
 have hTs : s.TypeIs (.ref sl) "slice" := ⟨os, hos, hcs⟩
 unfold getItem
 try with_reducible refine wpAny_holding ?_
 first | refine wpAny_bind (wpAny_pure ?_) | skip
 refine wpAny_bind (wpAny_sequenceKey ht.typeIs (by decide) ?_)
 refine wpAny_bind (wpAny_callSpecial?_slot (name := Str.ofString "__getitem__") ht.typeIs PyProof.Rows.slot_tuple_getitem
  (wpAny_call_entry PyProof.Rows.slot_tuple_getitem ht.typeIs entry_tuple_getitem ?_ (args_tuple_getitem _ _)))
 show wpAny _ _ (Builtin.Tuple.tupleItemsOf (.ref t) >>= _) _ _ s
 refine wpAny_bind (tupleItemsOf_ ht ?_)
 refine wpAny_bind (wpAny_typeOf hTs ?_)
 rw [if_pos (by decide)]
 refine wpAny_bind (HT.sliceApplied_gen hs pl pu ?_)
 have hno : ((((HT.sIx items.size 0 lo : Nat) : Int) == 0 && (1 : Int) == 1 && (HT.sIx items.size items.size hi - HT.sIx items.size 0 lo) == items.size) = true) := by
  rw [hw.1, hw.2]; simp
 show wpAny _ _ (if (((HT.sIx items.size 0 lo : Nat) : Int) == 0 && (1 : Int) == 1 && (HT.sIx items.size items.size hi - HT.sIx items.size 0 lo) == items.size) = true then _ else _) _ _ s
 rw [if_pos hno]
 unfold Builtin.Tuple.tupleIsExact
 refine wpAny_bind (wpAny_bind (wpAny_typeOf ht.typeIs ?_))
 refine wpAny_pure ?_
 rw [if_pos (by decide)]
 exact wpAny_bind (wpAny_rule (wpAny_pure ⟨_, rfl, wpAny_pure h⟩))
theorem dM3 (n : Nat) : Builtin.Slice.sliceAdjust none none (-1) (n : Int) = ((n : Int) - 1, -1) := by
 unfold Builtin.Slice.sliceAdjust
 simp
theorem dM4 (n : Nat) : Builtin.Slice.slicePlaces ((n : Int) - 1) (-1) (-1) = n := by
 unfold Builtin.Slice.slicePlaces
 have h1 : ¬ ((-1 : Int) > 0) := by omega
 simp only [h1, if_false]
 split
 ·have : (-(-1) : Int) = 1 := rfl
  rw [this, Int.ediv_one]; omega
 ·omega
theorem dM5 (xs : Array Value) : ((List.range xs.size).filterMap fun (k : Nat) => xs[((xs.size : Int) - 1 + (k : Int) * (-1)).toNat]?) = xs.toList.reverse := by
 apply List.ext_getElem?
 intro i
 have e : ∀ k ∈ List.range xs.size, (fun (k : Nat) => xs[((xs.size : Int) - 1 + (k : Int) * (-1)).toNat]?) k = some (xs.getD (xs.size - 1 - k) .none) := by
  intro k hk
  have hk' : k < xs.size := List.mem_range.mp hk
  have e1 : ((xs.size : Int) - 1 + (k : Int) * (-1)).toNat = xs.size - 1 - k := by omega
  have hlt : xs.size - 1 - k < xs.size := by omega
  show xs[((xs.size : Int) - 1 + (k : Int) * (-1)).toNat]? = _
  rw [e1]
  simp [Array.getD, hlt]
 have gen : ∀ (l : List Nat) (f : Nat -> Option Value) (g : Nat -> Value), (∀ k ∈ l, f k = some (g k)) -> l.filterMap f = l.map g := by
  intro l f g
  induction l with
  | nil => intro _; rfl
  | cons k r ih =>
   intro hl
   rw [List.filterMap_cons, hl k List.mem_cons_self, List.map_cons, ih fun j hj => hl j (List.mem_cons_of_mem _ hj)]
 rw [gen _ _ _ e, List.getElem?_map]
 by_cases hi : i < xs.size
 ·rw [List.getElem?_range hi, List.getElem?_reverse (by simpa using hi)]
  have hlt : xs.size - 1 - i < xs.size := by omega
  simp [Array.getD, hlt]
 ·rw [List.getElem?_eq_none (by simpa using hi), List.getElem?_eq_none (by simp; omega)]; rfl
theorem dM6 {sl : Addr} {t' : Tok} {n : Nat} {Q : Int × Int × Nat -> Shared -> Prop} (hs : s.heap.IsSliceOf sl .none .none (.int (-1) t'))
 (h : Q ((n : Int) - 1, -1, n) s) : wpAny (model prog w) A (Builtin.Slice.sliceApplied (.ref sl) (pure (n : Int))) Q E s := by
 obtain ⟨os, hos, hcs, hds⟩ := id hs
 unfold Builtin.Slice.sliceApplied Builtin.Slice.sliceFields
 refine wpAny_bind (wpAny_bind (wpAny_field hos hds (x := .none) rfl (wpAny_bind (wpAny_field hos hds (x := .none) rfl (wpAny_bind (wpAny_field hos hds (x := .int (-1) t') rfl (wpAny_pure ?_)))))))
 refine wpAny_bind (PyProof.Rows.slicePart_int ?_)
 show wpAny _ _ (if ((-1 : Int) == 0) = true then _ else _) _ _ s
 rw [if_neg (by decide)]
 refine wpAny_bind (PyProof.Rows.slicePart_none (wpAny_bind (PyProof.Rows.slicePart_none (wpAny_bind (wpAny_pure ?_)))))
 show wpAny _ _ (match Builtin.Slice.sliceAdjust none none (-1) (n : Int) with | (lo, hi) => pure (lo, (-1 : Int), Builtin.Slice.slicePlaces lo hi (-1))) _ _ s
 rw [dM3 n]
 show wpAny _ _ (pure ((n : Int) - 1, (-1 : Int), Builtin.Slice.slicePlaces ((n : Int) - 1) (-1) (-1))) _ _ s
 rw [dM4]
 exact wpAny_pure h
theorem dM7 {t sl : Addr} {items : Array Value} {t' : Tok} {Q : Value -> Shared -> Prop} (ht : IsTup s.heap t items) (hs : s.heap.IsSliceOf sl .none .none (.int (-1) t'))
 (h : Q (.ref s.heap.objs.size) { s with heap := s.heap.push { cls := .type "tuple", data := .seq items.toList.reverse.toArray } }) (hsz : items.size <= sizeLine) : wpAny (model prog w) A (getItem (.ref t) (.ref sl)) Q E s := by
 have htake : sizeOk (.seq items.toList.reverse.toArray) := by
  show items.toList.reverse.toArray.size <= sizeLine
  simpa using hsz
 obtain ⟨os, hos, hcs, hds⟩ := id hs
 have hTs : s.TypeIs (.ref sl) "slice" := ⟨os, hos, hcs⟩
 unfold getItem
 try with_reducible refine wpAny_holding ?_
 first | refine wpAny_bind (wpAny_pure ?_) | skip
 refine wpAny_bind (wpAny_sequenceKey ht.typeIs (by decide) ?_)
 refine wpAny_bind (wpAny_callSpecial?_slot (name := Str.ofString "__getitem__") ht.typeIs PyProof.Rows.slot_tuple_getitem
  (wpAny_call_entry PyProof.Rows.slot_tuple_getitem ht.typeIs entry_tuple_getitem ?_ (args_tuple_getitem _ _)))
 show wpAny _ _ (Builtin.Tuple.tupleItemsOf (.ref t) >>= _) _ _ s
 refine wpAny_bind (tupleItemsOf_ ht ?_)
 refine wpAny_bind (wpAny_typeOf hTs ?_)
 rw [if_pos (by decide)]
 refine wpAny_bind (dM6 hs ?_)
 have hno : ¬ ((((items.size : Int) - 1 == 0 && (-1 : Int) == 1 && items.size == items.size)) = true) := by simp
 show wpAny _ _ (if ((items.size : Int) - 1 == 0 && (-1 : Int) == 1 && items.size == items.size) = true then _ else _) _ _ s
 rw [if_neg hno, dM5]
 first
  | exact wpAny_bind (m := Builtin.Tuple.tupleExact _) (wpAny_newObj_type (wpAny_pure ⟨_, rfl, wpAny_pure h⟩) htake)
  | exact wpAny_bind (m := Builtin.Tuple.tupleExact _) (wpAny_newObj_type (wpAny_bind (wpAny_pure (wpAny_pure ⟨_, rfl, wpAny_pure h⟩))) htake)
  | exact wpAny_bind (wpAny_bind (m := Builtin.Tuple.tupleExact _) (wpAny_newObj_type (wpAny_pure (wpAny_pure ⟨_, rfl, wpAny_pure h⟩)) htake))
  | exact wpAny_bind (wpAny_bind (m := Builtin.Tuple.tupleExact _) (wpAny_newObj_type (wpAny_pure ⟨_, rfl, wpAny_pure h⟩) htake))
theorem dM8 : fillsNumberSlot (.type "tuple") "mul" = pure false :=
 PySem.fillsNumberSlot_seq (id := "tuple.__mul__") (r := some (.builtin "tuple.__rmul__")) F.slot_tuple_mul.lookup kL F.slot_tuple_rmul.lookup kL
theorem dM9 : seqRepeat? (.type "tuple") = pure (some (.builtin "tuple.__mul__")) := by
 unfold seqRepeat?
 rw [PySem.seqSlot_of (T := "tuple") (name := "__mul__") (id := "tuple.__mul__") F.slot_tuple_mul.lookup kL, PySem.seqSlot_of (T := "tuple") (name := "__rmul__") (id := "tuple.__rmul__") F.slot_tuple_rmul.lookup kL]
 rfl
theorem dN0 (a : Int) (t : Tok) (l : Addr) (items : Array Value) (n : Nat) (d : Option Addr) (sl : Array (Option Value)) :
 Meets (Builtin.«int.__rmul__» ⟨[.int a t, .ref l], []⟩) (fun _ R s => s.heap.get? l = some { cls := .type "tuple", dict := d, data := .seq items n, slots := sl } /\ R (.ok (.ret Value.notImplemented)) s) :=
 .of_wp fun prog w A R s h => by obtain ⟨hp, g, d, tk, os⟩ := s; obtain ⟨hl, h⟩ := h; wp_walk; exact ⟨_, rfl, h⟩
theorem dN1 (l : Addr) (items : Array Value) (n : Nat) (x : Int) (u : Tok) (d : Option Addr) (sl : Array (Option Value)) (h1 : ¬ (x < -(2 ^ 63) || x ≥ 2 ^ 63) = true) (h2 : ¬ (items.isEmpty || x == 1) = true) (h3 : ¬ (x <= 0 || items.isEmpty) = true)
 (h4 : ¬ ((items.size : Int) * x > (2 ^ 63 - 1) / 8)) (h5 : ¬ Builtin.Tuple.tupleTooMany ((items.size : Int) * x) = true) (h6 : (List.foldl (fun x1 x2 => x1 ++ x2) #[] (List.replicate x.toNat items)).size <= sizeLine) :
 Meets (Builtin.«tuple.__mul__» ⟨[.ref l, .int x u], []⟩) (fun _ R s => s.heap.get? l = some { cls := .type "tuple", dict := d, data := .seq items n, slots := sl } /\ R (.ok (.ret (Value.ref s.heap.objs.size))) { s with heap := s.heap.push { cls := Value.type "tuple", data := Data.seq (List.foldl (fun x1 x2 => x1 ++ x2) #[] (List.replicate x.toNat items)) }, toks := s.toks }) :=
 .of_wp fun prog w A R s h => by
  obtain ⟨hp, g, d, tk, os⟩ := s; obtain ⟨hl, h⟩ := h
  wp_walk
  rw [if_neg h1]
  refine wpAny_bind (tupleItemsOf_ ⟨_, hl, rfl, _, rfl⟩ ?_)
  rw [if_neg h2, if_neg h3, if_neg h4, if_neg h5]
  first
   | exact wpAny_bind (m := Builtin.Tuple.tupleExact _) (wpAny_newObj_type (wpAny_pure ⟨_, rfl, h⟩) h6)
   | exact wpAny_bind (m := Builtin.Tuple.tupleExact _) (wpAny_newObj_type (wpAny_pure ⟨_, rfl, wpAny_pure h⟩) h6)
theorem cB3 (xs : List Value) (k : Nat) : List.foldl (fun x1 x2 => x1 ++ x2) #[] (List.replicate k xs.toArray) = ((List.replicate k xs).flatten).toArray := by
 have gen : ∀ (k : Nat) (acc : List Value), List.foldl (fun x1 x2 => x1 ++ x2) acc.toArray (List.replicate k xs.toArray) = (acc ++ (List.replicate k xs).flatten).toArray := by
  intro k
  induction k with
  | zero => intro acc; simp
  | succ k ih =>
   intro acc
   rw [List.replicate_succ, List.foldl_cons, List.replicate_succ, List.flatten_cons]
   have e : acc.toArray ++ xs.toArray = (acc ++ xs).toArray := by simp
   rw [e, ih, List.append_assoc]
 exact gen k []
theorem wH {α : Type} (xs : List α) (k : Nat) : ((List.replicate k xs).flatten).length = k * xs.length := by
 induction k with
 | zero => simp
 | succ k ih => rw [List.replicate_succ, List.flatten_cons, List.length_append, ih, Nat.succ_mul]; omega
theorem dN2 {t : Addr} {vs : List Value} {x : Int} {u : Tok} {Q : Value -> Shared -> Prop} (ht : IsTup s.heap t vs.toArray) (hv : vs ≠ []) (h2 : 2 <= x) (hx : x <= 1000) (hl : vs.length <= 1000)
 (h : Q (.ref s.heap.objs.size) { s with heap := s.heap.push { cls := .type "tuple", data := .seq ((List.replicate x.toNat vs).flatten).toArray } }) : wpAny (model prog w) A (binaryOp .Mult (.ref t) (.int x u)) Q E s := by
 obtain ⟨⟨cls, dd, data, sl⟩, ho, hc, n, hd⟩ := id ht
 simp only at hc hd
 subst hc hd
 have he : vs.toArray.isEmpty = false := by
  cases vs with
  | nil => exact absurd rfl hv
  | cons _ _ => rfl
 have hle : vs.length * x.toNat <= 1000 * 1000 := Nat.mul_le_mul hl bF
 have e : ((vs.toArray.size : Int) * x) = ((vs.length * x.toNat : Nat) : Int) := by
  rw [List.size_toArray, Int.natCast_mul]
  congr 1
  omega
 have hs := sizeLine_eq'
 rw [<- cB3] at h
 exact wpAny_binaryOp_repeat_ref (T := "tuple") (U := "int") (by decide) ⟨_, ho, rfl⟩ (fun s' => typeIs_int s' x u) dM8 F.fills_int_mul F.slot_int_rmul dM9 F.slot_int_index.lookup
  (call_meets F.slot_int_rmul (typeIs_int s x u) F.entry_int_rmul (F.args_int_rmul_2 _ _) (dN0 x u t vs.toArray n dd sl)
    ⟨ho, rfl, ⟨_, ho, rfl⟩, call_meets F.slot_tuple_mul ⟨_, ho, rfl⟩ F.entry_tuple_mul (F.args_tuple_mul_2 _ _)
     (dN1 t vs.toArray n x u dd sl (by simp; omega) (by rw [he]; simp; omega) (by rw [he]; simp; omega) (by rw [e]; omega) (by rw [e]; unfold Builtin.Tuple.tupleTooMany; exact fun z => absurd (of_decide_eq_true z) bF)
       (by rw [cB3, List.size_toArray, wH, Nat.mul_comm]; omega))
     ⟨ho, h⟩⟩)
 where sizeLine_eq' : 1000000 <= sizeLine := by decide
end
end R
end
section
namespace R
open PySem PySem.Spec PyProof.Rows L2
variable [bP] [Pd]
def rD (X : Cx) (m : D -> D -> bC D) : R2 := fun x y H Q => ∃ F d1 d2, bG F H /\ bA X.K F d1 x /\ bA X.K F d2 y /\ dA (bA X.K) F H (m d1 d2) Q
def rD1 (X : Cx) (m : D -> bC D) : V -> Hp -> VK -> Prop := fun x H Q => ∃ F d, bG F H /\ bA X.K F d x /\ dA (bA X.K) F H (m d) Q
def lQ (X : Cx) (m : List D -> bC D) : List V -> Hp -> VK -> Prop := fun xs H Q => ∃ F ds, bG F H /\ DatL X.K F ds xs /\ dA (bA X.K) F H (m ds) Q
section
variable {X : Cx} {a b c e : Expr} {es : List Expr} {f g h : ME} {pos : Pos} {m m' : D -> D -> bC D}
theorem wI : rK X (rD X m) m := fun F H d1 d2 v1 v2 Q s h1 h2 q => ⟨F, d1, d2, s, h1, h2, q⟩
theorem dN3 {m : D -> bC D} : wF X (rD1 X m) m := fun F H d v Q s h q => ⟨F, d, s, h, q⟩
theorem kP {m : List D -> bC D} : rM X (lQ X m) m := fun F H ds vs Q s h q => ⟨F, ds, s, h, q⟩
theorem dN4 : IE X e fun _ => .bad := fun pins s σ H Q I ⟨ρ, F, E, q⟩ => q.elim
theorem kQ {op : Operator} (ho : cI X (binaryOp op) (rD X m)) (ha : IE X a f) (hb : IE X b g) : IE X (.BinOp a op b pos) (m2 m f g) := dJ9 ho wI ha hb
theorem bJ9 {op : CmpOp} (ho : cI X (compareOp op) (rD X m)) (ha : IE X a f) (hb : IE X b g) (hm : behindInMarks op b = false) : IE X (.Compare a [op] [b] pos) (m2 m f g) := dK0 ho wI ha hb hm
theorem kG {op : CmpOp} (ho : cI X (compareOp op) (rD X m)) (ha : IE X a f) (hb : IE X b g) (hm : behindInMarks op b = false) : IT X (.Compare a [op] [b] pos) (mB (m2 m f g)) := dK7 ho wI ha hb hm
def bV : D -> D -> bC D
 | .int a, .int b => .ok (.int (a + b))
 | .str x, .str y => if x.length + y.length <= sizeLine then .ok (.str (x ++ y)) else .bad
 | .tup xs, .tup ys => if xs.length + ys.length <= sizeLine then .ok (.tup (xs ++ ys)) else .bad
 | .lst xs, .lst ys => if xs.length + ys.length <= sizeLine then .ok (.lst (xs ++ ys)) else .bad
 | _, _ => .bad
theorem rS (x y : Str) : (x ++ y).length = x.length + y.length := by
 show (x.cps ++ y.cps).size = _
 rw [Array.size_append]; rfl
theorem nS : cI X (binaryOp .Add) (rD X bV) := by
 intro pins s σ H x y v u Q I rx ry h
 obtain ⟨F, d1, d2, sb, h1, h2, q⟩ := h
 cases d1 <;> cases d2 <;> try exact q.elim
 ·simp only [bA] at h1 h2; subst h1 h2
  exact cZ9 pins s σ H _ _ v u Q I rx ry ⟨_, _, rfl, rfl, cF q sb (by simp only [bA])⟩
 ·simp only [bA] at h1 h2; obtain ⟨rfl, z1⟩ := h1; obtain ⟨rfl, z2⟩ := h2
  simp only [bV] at q
  split at q
  ·rename_i z
   exact dC6 pins s σ H _ _ v u Q I rx ry ⟨_, _, rfl, rfl, z, cF q sb (by simp only [bA]; exact ⟨trivial, by rw [rS]; exact z⟩)⟩
  ·exact q.elim
 ·rename_i xs ys
  simp only [bA] at h1 h2
  obtain ⟨p1, vs, rfl, hq1, hl1⟩ := h1
  obtain ⟨p2, ws, rfl, hq2, hl2⟩ := h2
  simp only [bV] at q
  split at q
  ·rename_i z
   have hq1' := bG.seqT sb hq1
   have hq2' := bG.seqT sb hq2
   have l1 := hl1.length
   have l2 := hl2.length
   by_cases hx : vs = []
   ·subst hx
    have hxs : xs = [] := List.length_eq_zero_iff.mp l1
    subst hxs
    cases rx
    cases ry
    obtain ⟨its, r1, p1', _⟩ := I.tuple hq1'
    obtain ⟨its2, r2, p2', _⟩ := I.tuple hq2'
    have e0 : its = [] := r1.nil_iff.mpr rfl
    subst e0
    obtain ⟨⟨cls, dd, data, sl⟩, ho, hc, n, hd⟩ := id p1'
    obtain ⟨⟨cls2, dd2, data2, sl2⟩, ho2, hc2, n2, hd2⟩ := id p2'
    simp only at hc hd hc2 hd2
    subst hc hd hc2 hd2
    exact concat_meets ⟨_, ho, rfl⟩ ⟨_, ho2, rfl⟩ noFill_tuple_add seq_tuple_add PySem.F.slot_tuple_add PySem.F.entry_tuple_add (PySem.F.args_tuple_add_2 _ _)
     (tuple_addW0 p1 p2 _ _ n n2 dd dd2 sl sl2 (by simp)) ⟨ho, ho2, ⟨.ref p2, H, I, rfl, cF q sb (by simp only [bA, List.nil_append]; exact ⟨p2, ws, rfl, hq2, hl2⟩)⟩⟩
   ·refine dF2 pins s σ H _ _ v u Q I rx ry ⟨p1, p2, vs, ws, rfl, rfl, hq1', hq2', hx, by omega, fun hy => ?_, fun hy p hp => ?_⟩
    ·subst hy
     have hys : ys = [] := List.length_eq_zero_iff.mp l2
     subst hys
     exact cF q sb (by simp only [bA, List.append_nil]; exact ⟨p1, vs, rfl, hq1, hl1⟩)
    ·exact rJ q sb (DatL.of (mW hl1.paired hl2.paired)) hp
  ·exact q.elim
 ·rename_i xs ys
  simp only [bA] at h1 h2
  obtain ⟨p1, vs, rfl, hq1, hl1⟩ := h1
  obtain ⟨p2, ws, rfl, hq2, hl2⟩ := h2
  simp only [bV] at q
  split at q
  ·rename_i z
   have l1 := hl1.length
   have l2 := hl2.length
   cases rx
   cases ry
   obtain ⟨its, r1, ⟨⟨cls, dd, data, sl⟩, n, ho, hc, hd, hs⟩, z1⟩ := I.list (bG.seq sb hq1)
   obtain ⟨its2, r2, ⟨⟨cls2, dd2, data2, sl2⟩, n2, ho2, hc2, hd2, hs2⟩, z2⟩ := I.list (bG.seq sb hq2)
   simp only at hc hd hc2 hd2 hs hs2
   subst hc hd hc2 hd2 hs hs2
   have k1 := r1.length
   have k2 := r2.length
   refine concat_meets ⟨_, ho, rfl⟩ ⟨_, ho2, rfl⟩ PySem.noFill_list_add PySem.seq_list_add PySem.F.slot_list_add PySem.F.entry_list_add (PySem.F.args_list_add_2 _ _)
    (list_addW p1 p2 _ _ n n2 none none sl sl2 (by simp only [List.size_toArray]; omega)) ⟨ho, ho2, ?_⟩
   have ea : its.toArray ++ its2.toArray = (its ++ its2).toArray := by simp
   rw [ea]
   exact ⟨.ref _, _, I.lnew (t' := s.toks) (r1.append r2) (by rw [List.length_append]; omega), rfl, qE q sb (DatL.of (mW hl1.paired hl2.paired)) I.fresh⟩
  ·exact q.elim
theorem zI {fn : Value -> Value -> Sem Value} {C : Int -> Int -> Prop} {gv : Int -> Int -> V} {gd : Int -> Int -> D} (rule : cI X fn (rI C gv)) (hm : ∀ d1 d2 F H Q, dA (bA X.K) F H (m d1 d2) Q -> ∃ i j, d1 = .int i /\ d2 = .int j /\ C i j /\ dA (bA X.K) F H (.ok (gd i j)) Q)
 (hg : ∀ i j F, bA X.K F (gd i j) (gv i j)) : cI X fn (rD X m) := by
 intro pins s σ H x y v u Q I rx ry h
 obtain ⟨F, d1, d2, sb, h1, h2, q⟩ := h
 obtain ⟨i, j, rfl, rfl, hc, q⟩ := hm d1 d2 F H Q q
 simp only [bA] at h1 h2; subst h1 h2
 exact rule pins s σ H _ _ v u Q I rx ry ⟨i, j, rfl, rfl, hc, cF q sb (hg i j F)⟩
theorem dN5 {fn : Value -> Value -> Sem Value} {gv : Int -> Int -> V} (h : cI X fn (mU gv)) : cI X fn (rI (fun _ _ => True) gv) := by
 intro pins s σ H x y v u Q I rx ry q
 obtain ⟨i, j, e1, e2, _, q⟩ := q
 exact h pins s σ H x y v u Q I rx ry ⟨i, j, e1, e2, q⟩
def dI (C : Int -> Int -> Bool) (g : Int -> Int -> D) : D -> D -> bC D
 | .int a, .int b => if C a b = true then .ok (g a b) else .bad
 | _, _ => .bad
theorem zJ {C : Int -> Int -> Bool} {g : Int -> Int -> D} {F H : Hp} {Q : V -> Hp -> Prop} (d1 d2 : D) (q : dA (bA X.K) F H (dI C g d1 d2) Q) : ∃ i j, d1 = .int i /\ d2 = .int j /\ C i j = true /\ dA (bA X.K) F H (.ok (g i j)) Q := by
 cases d1 <;> cases d2 <;> try exact q.elim
 rename_i i j
 simp only [dI] at q
 split at q
 ·rename_i h; exact ⟨i, j, rfl, rfl, h, q⟩
 ·exact q.elim
def gU : D -> D -> bC D := dI (fun _ _ => true) fun a b => .int (a - b)
theorem cB5 : cI X (binaryOp .Sub) (rD X gU) := zI (gd := fun a b => .int (a - b)) (dN5 dA0) (fun d1 d2 F H Q q => let ⟨i, j, e1, e2, _, q⟩ := zJ d1 d2 q; ⟨i, j, e1, e2, trivial, q⟩) fun i j F => by simp only [bA]
def cN : D -> D -> bC D := dI (fun _ j => decide (0 < j /\ j < 1073741824)) fun a b => .int (a / b)
theorem cB6 : cI X (binaryOp .FloorDiv) (rD X cN) := zI (gd := fun a b => .int (a / b)) dA2 (fun d1 d2 F H Q q => let ⟨i, j, e1, e2, c, q⟩ := zJ d1 d2 q; ⟨i, j, e1, e2, (show 0 < j /\ j < 1073741824 from of_decide_eq_true c), q⟩) fun i j F => by simp only [bA]
def bY : D -> D -> bC D := dI (fun _ j => decide (0 < j)) fun a b => .int (a % b)
theorem zK : cI X (binaryOp .Mod) (rD X bY) := zI (gd := fun a b => .int (a % b)) dA3 (fun d1 d2 F H Q q => let ⟨i, j, e1, e2, c, q⟩ := zJ d1 d2 q; ⟨i, j, e1, e2, of_decide_eq_true c, q⟩) fun i j F => by simp only [bA]
def cB7 : D -> D -> bC D := dI (fun i j => decide (0 <= j /\ j <= 1000 /\ i.natAbs < 2 ^ 64)) fun a b => .int (a ^ b.toNat)
theorem dN6 : cI X (binaryOp .Pow) (rD X cB7) := zI (gd := fun a b => .int (a ^ b.toNat)) dA4 (fun d1 d2 F H Q q => let ⟨i, j, e1, e2, c, q⟩ := zJ d1 d2 q; ⟨i, j, e1, e2, (by have := of_decide_eq_true c; exact ⟨this.1, by omega, this.2.2⟩), q⟩) fun i j F => by simp only [bA]
def gW (i : Int) : Bool := decide (-(2 ^ 64) < i /\ i < 2 ^ 64)
def fN : D -> D -> bC D
 | .int a, .int b => if gW a || gW b then .ok (.int (a * b)) else .bad
 | .str x, .int n => if 0 <= n /\ n <= 100000 /\ x.length <= 100 then .ok (.str (PySem.Txt.mul x n)) else .bad
 | .tup ds, .int n => if 2 <= n /\ n <= 1000 /\ 0 < ds.length /\ ds.length <= 1000 then .ok (.tup ((List.replicate n.toNat ds).flatten)) else .bad
 | .lst ds, .int n => if 0 <= n /\ n <= 1000 /\ ds.length <= 1000 then .ok (.lst ((List.replicate n.toNat ds).flatten)) else .bad
 | _, _ => .bad
theorem dN7 (x : Str) (n : Int) : (PySem.Txt.mul x n).length <= x.length * n.toNat := by
 unfold PySem.Txt.mul
 split
 ·show 0 <= _; omega
 ·rename_i h1
  split
  ·rename_i h2
   rw [Bool.or_eq_true] at h2
   rcases h2 with h2 | h2
   ·have : n = 1 := eq_of_beq h2
    subst this; simp
   ·have : x.length = 0 := eq_of_beq h2
    omega
  ·have e : ∀ (k : Nat) (acc : Array Nat), (List.foldl (fun x1 x2 => x1 ++ x2) acc (List.replicate k x.cps)).size = acc.size + x.length * k := by
    intro k
    induction k with
    | zero => intro acc; simp
    | succ k ih =>
     intro acc
     rw [List.replicate_succ, List.foldl_cons, ih, Array.size_append, Nat.mul_succ]
     show acc.size + x.cps.size + x.length * k = acc.size + (x.length * k + x.length)
     have : x.cps.size = x.length := rfl
     omega
   show (List.foldl (fun x1 x2 => x1 ++ x2) #[] (List.replicate n.toNat x.cps)).size <= _
   rw [e]; simp
theorem bK0 {xs : List V} {us : List Value} (r : cE xs us) : ∀ k : Nat, cE ((List.replicate k xs).flatten) ((List.replicate k us).flatten)
 | 0 => .nil
 | k + 1 => by
  rw [List.replicate_succ, List.flatten_cons, List.replicate_succ, List.flatten_cons]
  exact r.append (bK0 r k)
theorem bK1 {α β : Type} {G : α -> β -> Prop} {xs : List α} {us : List β} (r : Paired G xs us) : ∀ k : Nat, Paired G ((List.replicate k xs).flatten) ((List.replicate k us).flatten)
 | 0 => .nil
 | k + 1 => by
  rw [List.replicate_succ, List.flatten_cons, List.replicate_succ, List.flatten_cons]
  exact mW r (bK1 r k)
theorem dN8 : cI X (binaryOp .Mult) (rD X fN) := by
 intro pins s σ H x y v u Q I rx ry h
 obtain ⟨F, d1, d2, sb, h1, h2, q⟩ := h
 cases d1 <;> cases d2 <;> try exact q.elim
 ·rename_i i j
  simp only [bA] at h1 h2; subst h1 h2
  simp only [fN] at q
  split at q
  ·rename_i hc
   refine dA1 pins s σ H _ _ v u Q I rx ry ⟨_, _, rfl, rfl, ?_, cF q sb (by simp only [bA])⟩
   rw [Bool.or_eq_true] at hc
   rcases hc with hc | hc
   ·exact .inl (of_decide_eq_true hc)
   ·exact .inr (of_decide_eq_true hc)
  ·exact q.elim
 ·rename_i z n
  simp only [bA] at h1 h2; obtain ⟨rfl, hz⟩ := h1; subst h2
  simp only [fN] at q
  split at q
  ·rename_i hn
   obtain ⟨t, rfl⟩ := rx
   obtain ⟨t', rfl⟩ := ry
   have hle : z.length * n.toNat <= 100 * 100000 := Nat.mul_le_mul hn.2.2 bF
   have hok : PySem.MulOk z n := by
    refine ⟨?_, fun h1 _ => ?_, fun h1 _ => ?_⟩
    ·have e1 : decide (n < -(2 ^ 63 : Int)) = false := decide_eq_false bF
     have e2 : decide (n ≥ 2 ^ 63) = false := decide_eq_false bF
     rw [e1, e2]; rfl
    ·have hn1 : 1 <= n := by omega
     have hdiv : (100 : Int) <= (2 ^ 63 - 1) / n := by
      apply Int.le_ediv_of_mul_le bF
      omega
     omega
    ·show Builtin.Str.tooLong (z.length * n.toNat) = false
     unfold Builtin.Str.tooLong
     have hsl := sizeLine_eq
     exact decide_eq_false bF
   exact PySem.SB.mul hok fun t2 k => ⟨.str _, H, I.tok _, ⟨_, rfl⟩, cF q sb (by
    simp only [bA]
    refine ⟨trivial, Nat.le_trans (dN7 z n) ?_⟩
    have := sizeLine_eq
    omega)⟩
  ·exact q.elim
 ·rename_i ds n
  simp only [bA] at h1 h2; subst h2
  obtain ⟨p1, vs, rfl, hq1, hl1⟩ := h1
  simp only [fN] at q
  split at q
  ·rename_i hn
   have l1 := hl1.length
   cases rx
   obtain ⟨t', rfl⟩ := ry
   obtain ⟨its, r1, p1', _⟩ := I.tuple (bG.seqT sb hq1)
   have l2 := r1.length
   have hz := sizeLine_eq
   refine dN2 p1' (fun z => by rw [z, List.length_nil] at l2; omega) hn.1 hn.2.1 bF ?_
   have rv : cE ((List.replicate n.toNat vs).flatten) ((List.replicate n.toNat its).flatten) := bK0 r1 _
   refine ⟨.ref s.heap.objs.size, _, I.laid (t' := s.toks) (o := .tup ((List.replicate n.toNat vs).flatten)) (fun b ob q => Heap.get?_push_of_some _ q) (Nat.le_refl _) ?_, rfl, rJ q sb (DatL.of (bK1 hl1.paired _)) (I.hok.fresh (Nat.le_refl _))⟩
   refine ⟨?_, _, rv, IsTup.new _ _⟩
   rw [wH]
   have : n.toNat * vs.length <= 1000 * 1000 := Nat.mul_le_mul bF bF
   omega
  ·exact q.elim
 ·rename_i ds n
  simp only [bA] at h1 h2; subst h2
  obtain ⟨p1, vs, rfl, hq1, hl1⟩ := h1
  simp only [fN] at q
  split at q
  ·rename_i hn
   have l1 := hl1.length
   cases rx
   obtain ⟨t', rfl⟩ := ry
   obtain ⟨its, r1, ⟨⟨c0, d0, dt, sl⟩, n0, ho, hc, _, hd⟩, _⟩ := I.list (bG.seq sb hq1)
   simp only at hc hd
   subst hc hd
   have l2 := r1.length
   have hz := sizeLine_eq
   have hm : its.length * n.toNat <= 1000 * 1000 := Nat.mul_le_mul bF bF
   refine wpAny_binaryOp_repeat_ref (T := "list") (U := "int") (by decide) ⟨_, ho, rfl⟩ (fun s' => typeIs_int s' n t') noFill_list_mul PySem.F.fills_int_mul PySem.F.slot_int_rmul repeat_list PySem.F.slot_int_index.lookup
    (call_meets PySem.F.slot_int_rmul (typeIs_int s n t') PySem.F.entry_int_rmul (PySem.F.args_int_rmul_2 _ _) (lm_int_rmul_list_any n t' p1 its.toArray n0 d0 sl)
      ⟨ho, rfl, ⟨_, ho, rfl⟩, call_meets PySem.F.slot_list_mul ⟨_, ho, rfl⟩ PySem.F.entry_list_mul (PySem.F.args_list_mul_2 _ _)
       (lm_list_mul_any p1 its.toArray n0 d0 sl n t' (by rw [fitsIndex_both bF bF]; exact Bool.false_ne_true) (by rw [List.size_toArray]; omega) (by rw [List.size_toArray, bY6 bF]; exact Bool.false_ne_true)) ⟨ho, ?_⟩⟩)
   rw [listMul_foldl_if]
   exact ⟨.ref _, _, I.lnew (t' := s.toks) (bK0 r1 _) (by rw [wH]; have : n.toNat * vs.length <= 1000 * 1000 := Nat.mul_le_mul bF bF; omega), rfl, qE q sb (DatL.of (bK1 hl1.paired _)) I.fresh⟩
  ·exact q.elim
def bK2 : D -> bC D
 | .int a => .ok (.int (-a))
 | _ => .bad
theorem dN9 : vR X (unaryOp .USub) (rD1 X bK2) := by
 intro pins s σ H x v Q I rx h
 obtain ⟨F, d, sb, h1, q⟩ := h
 cases d <;> try exact q.elim
 simp only [bA] at h1; subst h1
 exact dA7 pins s σ H _ v Q I rx ⟨_, rfl, cF q sb (by simp only [bA])⟩
theorem dO0 (ha : IE X a f) : IE X (.UnaryOp .USub a pos) (m1 bK2 f) := dK2 dN9 dN3 ha
def gK : D -> D -> bC D
 | .int a, .int b => .ok (.bl (decide (a < b)))
 | .str a, .str b => .ok (.bl (decide (a.cps.toList < b.cps.toList)))
 | _, _ => .bad
def dLe : D -> D -> bC D
 | .int a, .int b => .ok (.bl (decide (a <= b)))
 | .str a, .str b => .ok (.bl (!decide (b.cps.toList < a.cps.toList)))
 | _, _ => .bad
def kR : D -> D -> bC D
 | .int a, .int b => .ok (.bl (decide (b < a)))
 | _, _ => .bad
def dGe : D -> D -> bC D
 | .int a, .int b => .ok (.bl (decide (b <= a)))
 | _, _ => .bad
theorem dO1 : cI X (compareOp .Lt) (rD X gK) := by
 intro pins s σ H x y v u Q I rx ry h
 obtain ⟨F, d1, d2, sb, h1, h2, q⟩ := h
 cases d1 <;> cases d2 <;> try exact q.elim
 ·simp only [bA] at h1 h2; subst h1 h2
  exact dB4 pins s σ H _ _ v u Q I rx ry ⟨_, _, rfl, rfl, cF q sb (by simp only [bA])⟩
 ·simp only [bA] at h1 h2; obtain ⟨rfl, z1⟩ := h1; obtain ⟨rfl, z2⟩ := h2
  exact dB8 pins s σ H _ _ v u Q I rx ry ⟨_, _, rfl, rfl, cF q sb (by simp only [bA])⟩
theorem dO2 : cI X (compareOp .LtE) (rD X dLe) := by
 intro pins s σ H x y v u Q I rx ry h
 obtain ⟨F, d1, d2, sb, h1, h2, q⟩ := h
 cases d1 <;> cases d2 <;> try exact q.elim
 ·simp only [bA] at h1 h2; subst h1 h2
  exact dB5 pins s σ H _ _ v u Q I rx ry ⟨_, _, rfl, rfl, cF q sb (by simp only [bA])⟩
 ·simp only [bA] at h1 h2; obtain ⟨rfl, z1⟩ := h1; obtain ⟨rfl, z2⟩ := h2
  obtain ⟨t, rfl⟩ := rx
  obtain ⟨t', rfl⟩ := ry
  exact PySem.P.le_str (gZ I (cF (b := V.bl _) q sb (by simp only [bA])) rfl)
theorem cC0 : cI X (compareOp .Gt) (rD X kR) := by
 intro pins s σ H x y v u Q I rx ry h
 obtain ⟨F, d1, d2, sb, h1, h2, q⟩ := h
 cases d1 <;> cases d2 <;> try exact q.elim
 simp only [bA] at h1 h2; subst h1 h2
 exact dB6 pins s σ H _ _ v u Q I rx ry ⟨_, _, rfl, rfl, cF q sb (by simp only [bA])⟩
theorem dO3 : cI X (compareOp .GtE) (rD X dGe) := by
 intro pins s σ H x y v u Q I rx ry h
 obtain ⟨F, d1, d2, sb, h1, h2, q⟩ := h
 cases d1 <;> cases d2 <;> try exact q.elim
 simp only [bA] at h1 h2; subst h1 h2
 exact dB7 pins s σ H _ _ v u Q I rx ry ⟨_, _, rfl, rfl, cF q sb (by simp only [bA])⟩
def wJ (m m' : D -> D -> bC D) (f g h : ME) : ME := fun ρ => (f ρ).bind fun x => (g ρ).bind fun y => (m x y).bind fun z => (nR z).bind fun k => if k = true then (h ρ).bind fun w => m' y w else .ok (.bl false)
theorem cC1 {σ : St} {H : Hp} {Q : VK} (q : tD X (wJ m m' f g h) σ H Q) : bH5 (rD X m) (rD X m') (tD X f) (tD X g) (tD X h) σ H Q := by
 obtain ⟨ρ, F, E, q⟩ := q
 refine ⟨ρ, F, E, ?_⟩
 have q1 := fA (R1 := bA X.K) q
 revert q1
 cases f ρ with
 | ok d =>
  intro q1 v F1 H1 g1 d1
  obtain ⟨F2, d', g2, d2, q2⟩ := q1 v F1 H1 g1 d1
  refine ⟨ρ, F2, E.grow g2, ?_⟩
  have q3 := fA (R1 := bA X.K) q2
  revert q3
  cases g ρ with
  | ok y =>
   intro q3 v' F3 H3 g3 d3
   obtain ⟨F4, y', g4, d4, q4⟩ := q3 v' F3 H3 g3 d3
   refine ⟨F4, d', y', g4.sub, d2.mono g4.fs, d4, ?_⟩
   have q5 := fA (R1 := bA X.K) q4
   revert q5
   cases m d' y' with
   | ok z =>
    intro q5 vz F5 H5 g5 d5
    obtain ⟨F6, z', g6, d6, q6⟩ := q5 vz F5 H5 g5 d5
    cases z' with
    | bl k =>
     simp only [bA] at d6
     refine ⟨k, d6, ?_⟩
     cases k with
     | false =>
      refine pN ?_
      exact cF (show dA (bA X.K) F6 H5 (.ok (.bl false)) Q from q6) g6.sub (by simp only [bA])
     | true =>
      refine nQ ⟨ρ, F6, ((E.grow g2).grow g4).grow g6, ?_⟩
      have q7 := fA (R1 := bA X.K) (show dA (bA X.K) F6 H5 ((h ρ).bind fun w => m' y' w) Q from q6)
      revert q7
      cases h ρ with
      | ok w =>
       intro q7 vw F7 H7 g7 d7
       obtain ⟨F8, w', g8, d8, q8⟩ := q7 vw F7 H7 g7 d7
       exact ⟨F8, y', w', g8.sub, (d4.mono g6.fs).mono g8.fs, d8, q8⟩
      | ex _ => exact fun q => q
      | bad => exact fun q => q
    | _ => exact q6.elim
   | ex _ => exact fun q => q
   | bad => exact fun q => q
  | ex _ => exact fun q => q
  | bad => exact fun q => q
 | ex _ => exact fun q => q
 | bad => exact fun q => q
theorem dO4 {op op' : CmpOp} (ho : cI X (compareOp op) (rD X m)) (ho' : cI X (compareOp op') (rD X m')) (ha : IE X a f) (hb : IE X b g) (hc : IE X c h) (hm : lastMarks [op, op'] [b, c] = false := by with_unfolding_all rfl) :
 IE X (.Compare a [op, op'] [b, c] pos) (wJ m m' f g h) := fL (dC1 ho ho' ha hb hc hm) fun _ _ _ q => cC1 q
theorem dO5 {op op' : CmpOp} (ho : cI X (compareOp op) (rD X m)) (ho' : cI X (compareOp op') (rD X m')) (ha : IE X a f) (hb : IE X b g) (hc : IE X c h) (hm : lastMarks [op, op'] [b, c] = false := by with_unfolding_all rfl) :
 IT X (.Compare a [op, op'] [b, c] pos) (mB (wJ m m' f g h)) := qF (dC2 ho ho' ha hb hc hm) fun σ H Q q => bJ2 (f := wJ m m' f g h) (fun _ _ _ q => cC1 q) q
end
end R
end
section
namespace R
open PySem PySem.Spec PyProof.Rows L2
variable [bP] [Pd]
mutual
def fH : D -> D -> Bool
 | .non, .non => true
 | .bl a, .bl b => a == b
 | .bl a, .int b => (if a then 1 else 0) == b
 | .int a, .bl b => a == (if b then 1 else 0)
 | .int a, .int b => a == b
 | .str a, .str b => a == b
 | .tup xs, .tup ys => eqL xs ys
 | .lst xs, .lst ys => eqL xs ys
 | _, _ => false
def eqL : List D -> List D -> Bool
 | [], [] => true
 | x :: xs, y :: ys => fH x y && eqL xs ys
 | _, _ => false
end
mutual
def gF : D -> Nat
 | .tup xs => depL xs + 1
 | .lst xs => depL xs + 1
 | _ => 0
def depL : List D -> Nat
 | [] => 0
 | x :: xs => max (gF x) (depL xs)
end
mutual
theorem zL : ∀ d : D, fH d d = true
 | .non => rfl
 | .bl b => by simp [fH]
 | .int i => by simp [fH]
 | .str x => by simp [fH]
 | .tup xs => by rw [fH]; exact eqL_refl xs
 | .lst xs => by rw [fH]; exact eqL_refl xs
theorem eqL_refl : ∀ ds : List D, eqL ds ds = true
 | [] => rfl
 | d :: ds => by rw [eqL, zL d, eqL_refl ds]; rfl
end
section
variable {X : Cx} {pins : List (Addr × Obj)} {σ : St} {H F : Hp} {s : Shared}
theorem cC2 (I : bE X pins σ H s) {a : Addr} {xs ys : List V} (h : fK X.K H a xs) (h' : dF X.K H a ys) : False := by
 obtain ⟨its, r, ⟨o, e, c, n, d⟩, _⟩ := I.tuple h
 obtain ⟨its', r', ⟨o', n', e', c', _, d'⟩, _⟩ := I.list h'
 rw [e] at e'; cases e'
 rw [c] at c'
 exact absurd c' (by decide)
mutual
theorem bA.inj (I : bE X pins σ H s) (sb : bG F H) : ∀ {d d' : D} {v : V}, bA X.K F d v -> bA X.K F d' v -> d = d'
 | .non, d', v, h, h' => by
  simp only [bA] at h; subst h
  cases d' <;> simp only [bA] at h' <;> first | (obtain ⟨_, _, q, _⟩ := h'; cases q; done) | (obtain ⟨q, _⟩ := h'; cases q; done) | (obtain ⟨q, _⟩ := h'; cases q; rfl) | (cases h'; done) | (cases h'; rfl) | rfl
 | .bl b, d', v, h, h' => by
  simp only [bA] at h; subst h
  cases d' <;> simp only [bA] at h' <;> first | (obtain ⟨_, _, q, _⟩ := h'; cases q; done) | (obtain ⟨q, _⟩ := h'; cases q; done) | (obtain ⟨q, _⟩ := h'; cases q; rfl) | (cases h'; done) | (cases h'; rfl) | rfl
 | .int i, d', v, h, h' => by
  simp only [bA] at h; subst h
  cases d' <;> simp only [bA] at h' <;> first | (obtain ⟨_, _, q, _⟩ := h'; cases q; done) | (obtain ⟨q, _⟩ := h'; cases q; done) | (obtain ⟨q, _⟩ := h'; cases q; rfl) | (cases h'; done) | (cases h'; rfl) | rfl
 | .str x, d', v, h, h' => by
  simp only [bA] at h; obtain ⟨rfl, _⟩ := h
  cases d' <;> simp only [bA] at h' <;> first | (obtain ⟨_, _, q, _⟩ := h'; cases q; done) | (obtain ⟨q, _⟩ := h'; cases q; done) | (obtain ⟨q, _⟩ := h'; cases q; rfl) | (cases h'; done) | (cases h'; rfl) | rfl
 | .tup ds, d', v, h, h' => by
  simp only [bA] at h; obtain ⟨a, xs, rfl, h1, h2⟩ := h
  cases d' with
  | tup es =>
   simp only [bA] at h'; obtain ⟨a', ys, e, h1', h2'⟩ := h'
   cases e
   have := I.tuple_inj (bG.seqT sb h1) (bG.seqT sb h1')
   subst this
   rw [DatL.inj I sb h2 h2']
  | lst es =>
   simp only [bA] at h'; obtain ⟨a', ys, e, h1', h2'⟩ := h'
   cases e
   exact (cC2 I (bG.seqT sb h1) (bG.seq sb h1')).elim
  | str _ => simp only [bA] at h'; obtain ⟨q, _⟩ := h'; cases q
  | _ => simp only [bA] at h'; cases h'
 | .lst ds, d', v, h, h' => by
  simp only [bA] at h; obtain ⟨a, xs, rfl, h1, h2⟩ := h
  cases d' with
  | lst es =>
   simp only [bA] at h'; obtain ⟨a', ys, e, h1', h2'⟩ := h'
   cases e
   have := I.list_inj (bG.seq sb h1) (bG.seq sb h1')
   subst this
   rw [DatL.inj I sb h2 h2']
  | tup es =>
   simp only [bA] at h'; obtain ⟨a', ys, e, h1', h2'⟩ := h'
   cases e
   exact (cC2 I (bG.seqT sb h1') (bG.seq sb h1)).elim
  | str _ => simp only [bA] at h'; obtain ⟨q, _⟩ := h'; cases q
  | _ => simp only [bA] at h'; cases h'
theorem DatL.inj (I : bE X pins σ H s) (sb : bG F H) : ∀ {ds es : List D} {xs : List V}, DatL X.K F ds xs -> DatL X.K F es xs -> ds = es
 | [], es, xs, h, h' => by
  simp only [DatL] at h; subst h
  cases es with
  | nil => rfl
  | cons e es => simp only [DatL] at h'; obtain ⟨_, _, q, _⟩ := h'; cases q
 | d :: ds, es, xs, h, h' => by
  simp only [DatL] at h; obtain ⟨x, r, rfl, h1, h2⟩ := h
  cases es with
  | nil => simp only [DatL] at h'; cases h'
  | cons e es =>
   simp only [DatL] at h'; obtain ⟨x', r', q, h1', h2'⟩ := h'
   cases q
   rw [bA.inj I sb h1 h1', DatL.inj I sb h2 h2']
end
def lR (ds es : List D) (j : Nat) : Bool := match ds[j]?, es[j]? with
 | some d, some e => fH d e
 | _, _ => true
theorem zM : ∀ ds es : List D, eqL ds es = ((List.range (min ds.length es.length)).all (lR ds es) && (ds.length == es.length))
 | [], [] => rfl
 | [], e :: es => by simp [eqL]
 | d :: ds, [] => by simp [eqL]
 | d :: ds, e :: es => by
  have ih := zM ds es
  have e1 : min (d :: ds).length (e :: es).length = min ds.length es.length + 1 := by simp only [List.length_cons]; omega
  rw [eqL, e1, List.range_succ_eq_map, List.all_cons, List.all_map, ih]
  have e2 : (lR (d :: ds) (e :: es) ∘ Nat.succ) = lR ds es := by funext j; simp [lR]
  have e3 : lR (d :: ds) (e :: es) 0 = fH d e := by simp [lR]
  have e4 : ((d :: ds).length == (e :: es).length) = (ds.length == es.length) := by simp
  rw [e2, e3, e4, Bool.and_assoc]
theorem zN : ∀ {ds : List D} {j : Nat} {d : D}, ds[j]? = some d -> gF d <= depL ds
 | [], _, _, h => by simp at h
 | d :: ds, 0, _, h => by simp at h; subst h; rw [depL]; exact Nat.le_max_left _ _
 | d :: ds, j + 1, _, h => by
  rw [depL]
  exact Nat.le_trans (zN (ds := ds) (j := j) (by simpa using h)) (Nat.le_max_right _ _)
theorem zO (I : bE X pins σ H s) (sb : bG F H) : ∀ (n : Nat) (A : Around) (d e : D) (x y : V) (u v : Value), gF d <= n -> A.units + n < cLine -> bA X.K F d x -> bA X.K F e y -> cJ x u -> cJ y v -> SeqAt.RcAt A s u v (fH d e) /\ SeqAt.EqAt A s u v (fH d e)
 | n, A, d, e, x, y, u, v, hd, hu, h1, h2, r1, r2 => by
  have hu0 : A.units < cLine := by omega
  cases d with
  | non =>
   simp only [bA] at h1; subst h1; cases r1
   cases e with
   | non => simp only [bA] at h2; subst h2; cases r2; exact ⟨SeqAt.RcAt.none_none, SeqAt.EqAt.same _⟩
   | bl b => simp only [bA] at h2; subst h2; cases r2; exact ⟨SeqAt.RcAt.none_bool b, SeqAt.EqAt.none_bool b⟩
   | int b => simp only [bA] at h2; subst h2; obtain ⟨t, rfl⟩ := r2; exact ⟨SeqAt.RcAt.none_int b t, SeqAt.EqAt.none_int b t⟩
   | str b => simp only [bA] at h2; obtain ⟨rfl, _⟩ := h2; obtain ⟨t, rfl⟩ := r2; exact ⟨SeqAt.RcAt.none_str b t, SeqAt.EqAt.none_str b t⟩
   | tup es =>
    simp only [bA] at h2; obtain ⟨p, ys, rfl, g1, _⟩ := h2; cases r2
    obtain ⟨its, _, ht, _⟩ := I.tuple (bG.seqT sb g1)
    exact ⟨SeqAt.RcAt.none_tuple ht hu0, SeqAt.EqAt.none_tuple ht hu0⟩
   | lst es =>
    simp only [bA] at h2; obtain ⟨p, ys, rfl, g1, _⟩ := h2; cases r2
    obtain ⟨its, _, ht, _⟩ := I.list (bG.seq sb g1)
    exact ⟨SeqAt.RcAt.none_list ht.isList hu0, SeqAt.EqAt.none_list ht.isList hu0⟩
  | bl a =>
   simp only [bA] at h1; subst h1; cases r1
   cases e with
   | non => simp only [bA] at h2; subst h2; cases r2; exact ⟨SeqAt.RcAt.bool_none a, SeqAt.EqAt.bool_none a⟩
   | bl b => simp only [bA] at h2; subst h2; cases r2; exact ⟨SeqAt.RcAt.bool_bool a b, SeqAt.EqAt.bool_bool a b⟩
   | int b => simp only [bA] at h2; subst h2; obtain ⟨t, rfl⟩ := r2; exact ⟨SeqAt.RcAt.bool_int a b t, SeqAt.EqAt.bool_int a b t⟩
   | str b => simp only [bA] at h2; obtain ⟨rfl, _⟩ := h2; obtain ⟨t, rfl⟩ := r2; exact ⟨SeqAt.RcAt.bool_str a b t, SeqAt.EqAt.bool_str a b t⟩
   | tup es =>
    simp only [bA] at h2; obtain ⟨p, ys, rfl, g1, _⟩ := h2; cases r2
    obtain ⟨its, _, ht, _⟩ := I.tuple (bG.seqT sb g1)
    exact ⟨SeqAt.RcAt.bool_tuple a ht hu0, SeqAt.EqAt.bool_tuple a ht hu0⟩
   | lst es =>
    simp only [bA] at h2; obtain ⟨p, ys, rfl, g1, _⟩ := h2; cases r2
    obtain ⟨its, _, ht, _⟩ := I.list (bG.seq sb g1)
    exact ⟨SeqAt.RcAt.bool_list a ht.isList hu0, SeqAt.EqAt.bool_list a ht.isList hu0⟩
  | int a =>
   simp only [bA] at h1; subst h1; obtain ⟨t', rfl⟩ := r1
   cases e with
   | non => simp only [bA] at h2; subst h2; cases r2; exact ⟨SeqAt.RcAt.int_none a t', SeqAt.EqAt.int_none a t'⟩
   | bl b => simp only [bA] at h2; subst h2; cases r2; exact ⟨SeqAt.RcAt.int_bool a t' b, SeqAt.EqAt.int_bool a t' b⟩
   | int b => simp only [bA] at h2; subst h2; obtain ⟨t, rfl⟩ := r2; exact ⟨SeqAt.RcAt.int_int a t' b t, SeqAt.EqAt.int_int a t' b t⟩
   | str b => simp only [bA] at h2; obtain ⟨rfl, _⟩ := h2; obtain ⟨t, rfl⟩ := r2; exact ⟨SeqAt.RcAt.int_str a t' b t, SeqAt.EqAt.int_str a t' b t⟩
   | tup es =>
    simp only [bA] at h2; obtain ⟨p, ys, rfl, g1, _⟩ := h2; cases r2
    obtain ⟨its, _, ht, _⟩ := I.tuple (bG.seqT sb g1)
    exact ⟨SeqAt.RcAt.int_tuple a t' ht hu0, SeqAt.EqAt.int_tuple a t' ht hu0⟩
   | lst es =>
    simp only [bA] at h2; obtain ⟨p, ys, rfl, g1, _⟩ := h2; cases r2
    obtain ⟨its, _, ht, _⟩ := I.list (bG.seq sb g1)
    exact ⟨SeqAt.RcAt.int_list a t' ht.isList hu0, SeqAt.EqAt.int_list a t' ht.isList hu0⟩
  | str a =>
   simp only [bA] at h1; obtain ⟨rfl, _⟩ := h1; obtain ⟨t', rfl⟩ := r1
   cases e with
   | non => simp only [bA] at h2; subst h2; cases r2; exact ⟨SeqAt.RcAt.str_none a t', SeqAt.EqAt.str_none a t'⟩
   | bl b => simp only [bA] at h2; subst h2; cases r2; exact ⟨SeqAt.RcAt.str_bool a t' b, SeqAt.EqAt.str_bool a t' b⟩
   | int b => simp only [bA] at h2; subst h2; obtain ⟨t, rfl⟩ := r2; exact ⟨SeqAt.RcAt.str_int a t' b t, SeqAt.EqAt.str_int a t' b t⟩
   | str b => simp only [bA] at h2; obtain ⟨rfl, _⟩ := h2; obtain ⟨t, rfl⟩ := r2; exact ⟨SeqAt.RcAt.str_str a t' b t, SeqAt.EqAt.str_str a t' b t⟩
   | tup es =>
    simp only [bA] at h2; obtain ⟨p, ys, rfl, g1, _⟩ := h2; cases r2
    obtain ⟨its, _, ht, _⟩ := I.tuple (bG.seqT sb g1)
    exact ⟨SeqAt.RcAt.str_tuple a t' ht hu0, SeqAt.EqAt.str_tuple a t' ht hu0⟩
   | lst es =>
    simp only [bA] at h2; obtain ⟨p, ys, rfl, g1, _⟩ := h2; cases r2
    obtain ⟨its, _, ht, _⟩ := I.list (bG.seq sb g1)
    exact ⟨SeqAt.RcAt.str_list a t' ht.isList hu0, SeqAt.EqAt.str_list a t' ht.isList hu0⟩
  | tup ds =>
   have h1' := h1
   simp only [bA] at h1; obtain ⟨p, xs, rfl, g1, l1⟩ := h1; cases r1
   obtain ⟨its, k1, ht, _⟩ := I.tuple (bG.seqT sb g1)
   cases e with
   | non => simp only [bA] at h2; subst h2; cases r2; exact ⟨SeqAt.RcAt.tuple_none ht hu0, SeqAt.EqAt.tuple_none ht hu0⟩
   | bl b => simp only [bA] at h2; subst h2; cases r2; exact ⟨SeqAt.RcAt.tuple_bool b ht hu0, SeqAt.EqAt.tuple_bool b ht hu0⟩
   | int b => simp only [bA] at h2; subst h2; obtain ⟨t, rfl⟩ := r2; exact ⟨SeqAt.RcAt.tuple_int b t ht hu0, SeqAt.EqAt.tuple_int b t ht hu0⟩
   | str b => simp only [bA] at h2; obtain ⟨rfl, _⟩ := h2; obtain ⟨t, rfl⟩ := r2; exact ⟨SeqAt.RcAt.tuple_str b t ht hu0, SeqAt.EqAt.tuple_str b t ht hu0⟩
   | lst es =>
    simp only [bA] at h2; obtain ⟨p2, ys, rfl, g2, _⟩ := h2; cases r2
    obtain ⟨its2, _, ht2, _⟩ := I.list (bG.seq sb g2)
    exact ⟨SeqAt.RcAt.tuple_list ht ht2.isList hu0, SeqAt.EqAt.tuple_list ht ht2.isList hu0⟩
   | tup es =>
    have h2' := h2
    simp only [bA] at h2; obtain ⟨p2, ys, rfl, g2, l2⟩ := h2; cases r2
    obtain ⟨its2, k2, ht2, _⟩ := I.tuple (bG.seqT sb g2)
    cases n with
    | zero => rw [gF] at hd; omega
    | succ n =>
     rw [gF] at hd
     have n1 := l1.length
     have n2 := l2.length
     have m1 := k1.length
     have m2 := k2.length
     have key : ∀ j (w1 : j < its.toArray.size) (w2 : j < its2.toArray.size), SeqAt.EqAt A.in1 s its.toArray[j] its2.toArray[j] (lR ds es j) := fun j w1 w2 => by
      rw [List.size_toArray] at w1 w2
      obtain ⟨d, hd'⟩ : ∃ d, ds[j]? = some d := ⟨ds[j], List.getElem?_eq_getElem bF⟩
      obtain ⟨e, he'⟩ : ∃ e, es[j]? = some e := ⟨es[j], List.getElem?_eq_getElem bF⟩
      obtain ⟨x, hx, dx⟩ := jT l1.paired hd'
      obtain ⟨y, hy, dy⟩ := jT l2.paired he'
      obtain ⟨u, hu1, ru⟩ := k1.get hx
      obtain ⟨v, hv1, rv⟩ := k2.get hy
      have eu : its.toArray[j] = u := by
       have : its[j]? = some its[j] := List.getElem?_eq_getElem w1
       rw [this] at hu1; simpa using Option.some.inj hu1
      have ev : its2.toArray[j] = v := by
       have : its2[j]? = some its2[j] := List.getElem?_eq_getElem w2
       rw [this] at hv1; simpa using Option.some.inj hv1
      rw [eu, ev]
      have ee : lR ds es j = fH d e := by unfold lR; rw [hd', he']
      rw [ee]
      exact (zO I sb n A.in1 d e x y u v (by have := zN hd'; omega) (by show A.units + 1 + n < cLine; omega) dx dy ru rv).2
     have R1 : SeqAt.RcAt A s (.ref p) (.ref p2) (fH (.tup ds) (.tup es)) := by
      have z := SeqAt.RcAt.tuples ht ht2 hu0 key
      rw [List.size_toArray, List.size_toArray, <- m1, <- m2, <- n1, <- n2, <- zM] at z
      rw [fH]; exact z
     refine ⟨R1, ?_⟩
     by_cases hp : p = p2
     ·subst hp
      have : D.tup ds = D.tup es := bA.inj I sb h1' h2'
      rw [this, zL]
      exact SeqAt.EqAt.same _
     ·exact SeqAt.EqAt.of_refs hp R1
  | lst ds =>
   have h1' := h1
   simp only [bA] at h1; obtain ⟨p, xs, rfl, g1, l1⟩ := h1; cases r1
   obtain ⟨its, k1, htp, _⟩ := I.list (bG.seq sb g1)
   have ht := htp.isList
   cases e with
   | non => simp only [bA] at h2; subst h2; cases r2; exact ⟨SeqAt.RcAt.list_none ht hu0, SeqAt.EqAt.list_none ht hu0⟩
   | bl b => simp only [bA] at h2; subst h2; cases r2; exact ⟨SeqAt.RcAt.list_bool b ht hu0, SeqAt.EqAt.list_bool b ht hu0⟩
   | int b => simp only [bA] at h2; subst h2; obtain ⟨t, rfl⟩ := r2; exact ⟨SeqAt.RcAt.list_int b t ht hu0, SeqAt.EqAt.list_int b t ht hu0⟩
   | str b => simp only [bA] at h2; obtain ⟨rfl, _⟩ := h2; obtain ⟨t, rfl⟩ := r2; exact ⟨SeqAt.RcAt.list_str b t ht hu0, SeqAt.EqAt.list_str b t ht hu0⟩
   | tup es =>
    simp only [bA] at h2; obtain ⟨p2, ys, rfl, g2, _⟩ := h2; cases r2
    obtain ⟨its2, _, ht2, _⟩ := I.tuple (bG.seqT sb g2)
    exact ⟨SeqAt.RcAt.list_tuple ht ht2 hu0, SeqAt.EqAt.list_tuple ht ht2 hu0⟩
   | lst es =>
    have h2' := h2
    simp only [bA] at h2; obtain ⟨p2, ys, rfl, g2, l2⟩ := h2; cases r2
    obtain ⟨its2, k2, htp2, _⟩ := I.list (bG.seq sb g2)
    have ht2 := htp2.isList
    cases n with
    | zero => rw [gF] at hd; omega
    | succ n =>
     rw [gF] at hd
     have n1 := l1.length
     have n2 := l2.length
     have m1 := k1.length
     have m2 := k2.length
     have key : ∀ j (w1 : j < its.toArray.size) (w2 : j < its2.toArray.size), SeqAt.EqAt A.in1 s its.toArray[j] its2.toArray[j] (lR ds es j) := fun j w1 w2 => by
      rw [List.size_toArray] at w1 w2
      obtain ⟨d, hd'⟩ : ∃ d, ds[j]? = some d := ⟨ds[j], List.getElem?_eq_getElem bF⟩
      obtain ⟨e, he'⟩ : ∃ e, es[j]? = some e := ⟨es[j], List.getElem?_eq_getElem bF⟩
      obtain ⟨x, hx, dx⟩ := jT l1.paired hd'
      obtain ⟨y, hy, dy⟩ := jT l2.paired he'
      obtain ⟨u, hu1, ru⟩ := k1.get hx
      obtain ⟨v, hv1, rv⟩ := k2.get hy
      have eu : its.toArray[j] = u := by
       have : its[j]? = some its[j] := List.getElem?_eq_getElem w1
       rw [this] at hu1; simpa using Option.some.inj hu1
      have ev : its2.toArray[j] = v := by
       have : its2[j]? = some its2[j] := List.getElem?_eq_getElem w2
       rw [this] at hv1; simpa using Option.some.inj hv1
      rw [eu, ev]
      have ee : lR ds es j = fH d e := by unfold lR; rw [hd', he']
      rw [ee]
      exact (zO I sb n A.in1 d e x y u v (by have := zN hd'; omega) (by show A.units + 1 + n < cLine; omega) dx dy ru rv).2
     have R1 : SeqAt.RcAt A s (.ref p) (.ref p2) (fH (.lst ds) (.lst es)) := by
      by_cases hz : its.toArray.size = its2.toArray.size
      ·have z := SeqAt.RcAt.lists ht ht2 hz hu0 key
       have e5 : its.toArray.size = min ds.length es.length := by rw [List.size_toArray] at hz ⊢; rw [List.size_toArray] at hz; omega
       rw [e5] at z
       rw [fH, zM]
       have e6 : (ds.length == es.length) = true := by
        rw [List.size_toArray, List.size_toArray] at hz
        exact beq_iff_eq.mpr bF
       rw [e6, Bool.and_true]; exact z
      ·have z := SeqAt.RcAt.lists_lengths (A := A) (s := s) ht ht2 (by simpa using hz) hu0
       rw [fH, zM]
       have e6 : (ds.length == es.length) = false := by
        rw [List.size_toArray, List.size_toArray] at hz
        exact beq_eq_false_iff_ne.mpr bF
       rw [e6, Bool.and_false]; exact z
     refine ⟨R1, ?_⟩
     by_cases hp : p = p2
     ·subst hp
      have : D.lst ds = D.lst es := bA.inj I sb h1' h2'
      rw [this, zL]
      exact SeqAt.EqAt.same _
     ·exact SeqAt.EqAt.of_refs hp R1
end
section
variable {X : Cx} {a b c e : Expr} {es : List Expr} {f g h : ME} {pos : Pos} {m m' : D -> D -> bC D}
def cP (d e : D) : bC D := if gF d <= 100 then .ok (.bl (fH d e)) else .bad
theorem wK (hu : X.A.units + 100 < cLine) : cI X (compareOp .Eq) (rD X cP) := by
 intro pins s σ H x y v u Q I rx ry h
 obtain ⟨F, d1, d2, sb, h1, h2, q⟩ := h
 unfold cP at q
 split at q
 ·rename_i hd
  have R1 := (zO I sb 100 X.A d1 d2 x y v u hd hu h1 h2 rx ry).1
  exact R1 X.prog X.w X.xe _ ⟨.bl _, H, I, rfl, cF q sb (by simp only [bA])⟩
 ·exact q.elim
def mZ (d : D) (ds : List D) : Bool := ds.any fun e => fH e d
def fX (neg : Bool) (d : D) : D -> bC D
 | .tup ds => if depL ds <= 100 then .ok (.bl (if neg then !mZ d ds else mZ d ds)) else .bad
 | .lst ds => if depL ds <= 100 then .ok (.bl (if neg then !mZ d ds else mZ d ds)) else .bad
 | _ => .bad
noncomputable def jW (K : W.Frag) (F : Hp) (d : D) (u : Value) : Bool := by
 classical
 exact if h : ∃ e x, cJ x u /\ bA K F e x then fH h.choose d else false
theorem cC3 {pins : List (Addr × Obj)} {σ : St} {H F : Hp} {s : Shared} (I : bE X pins σ H s) (sb : bG F H) {d e : D} {x : V} {u : Value} (r : cJ x u) (h : bA X.K F e x) : jW X.K F d u = fH e d := by
 classical
 have hx : ∃ e x, cJ x u /\ bA X.K F e x := ⟨e, x, r, h⟩
 unfold jW
 rw [dif_pos hx]
 obtain ⟨x', r', h'⟩ := hx.choose_spec
 have : x' = x := r'.inj r
 subst this
 rw [bA.inj I sb h' h]
theorem wL {pins : List (Addr × Obj)} {σ : St} {H F : Hp} {s : Shared} (I : bE X pins σ H s) (sb : bG F H) {d : D} : ∀ {ds : List D} {xs : List V} {us : List Value}, DatL X.K F ds xs -> cE xs us -> us.any (jW X.K F d) = mZ d ds
 | [], _, _, h, r => by simp only [DatL] at h; subst h; cases r; rfl
 | e :: ds, _, _, h, r => by
  simp only [DatL] at h; obtain ⟨x, xs, rfl, h1, h2⟩ := h
  cases r with
  | cons r1 r2 => rw [List.any_cons, cC3 I sb r1 h1, wL I sb h2 r2]; rfl
theorem cC4 (hu : X.A.units + 200 < cLine) {neg : Bool} : cI X (compareOp (if neg then .NotIn else .In)) (rD X (fX neg)) := by
 intro pins s σ H x y v u Q I rx ry h
 obtain ⟨F, d1, d2, sb, h1, h2, q⟩ := h
 have key : ∀ (ds : List D) (xs : List V) (its : List Value), DatL X.K F ds xs -> cE xs its -> depL ds <= 100 -> ∀ w ∈ its.toArray, SeqAt.EqAt X.A.in1 s w v (jW X.K F d1 w) := fun ds xs its hl r hz w hw => by
  have hw' : w ∈ its := by simpa using hw
  obtain ⟨j, hj⟩ := List.getElem?_of_mem hw'
  obtain ⟨x', hx', rx'⟩ := vZ r hj
  obtain ⟨e, he, hd⟩ := vZ hl.paired hx'
  rw [cC3 I sb rx' hd]
  exact (zO I sb 100 X.A.in1 e d1 x' x w v (by have := zN he; omega) (by show X.A.units + 1 + 100 < cLine; omega) hd h1 rx' rx).2
 cases d2 with
 | tup ds =>
  simp only [bA] at h2; obtain ⟨p, xs, rfl, g1, l1⟩ := h2; cases ry
  simp only [fX] at q
  split at q
  ·rename_i hz
   obtain ⟨its, r, pl, _⟩ := I.tuple (bG.seqT sb g1)
   cases neg with
   | false =>
    refine SeqAt.in_tupleAt (jW X.K F d1) pl (key ds xs its l1 r hz) ⟨.bl _, H, I, rfl, ?_⟩
    rw [show its.toArray.any (jW X.K F d1) = its.any (jW X.K F d1) by simp, wL I sb l1 r]
    exact cF q sb (by simp only [bA]; rfl)
   | true =>
    refine SeqAt.notIn_tupleAt (jW X.K F d1) pl (key ds xs its l1 r hz) ⟨.bl _, H, I, rfl, ?_⟩
    rw [show its.toArray.any (jW X.K F d1) = its.any (jW X.K F d1) by simp, wL I sb l1 r]
    exact cF q sb (by simp only [bA]; rfl)
  ·exact q.elim
 | lst ds =>
  simp only [bA] at h2; obtain ⟨p, xs, rfl, g1, l1⟩ := h2; cases ry
  simp only [fX] at q
  split at q
  ·rename_i hz
   obtain ⟨its, r, pl, _⟩ := I.list (bG.seq sb g1)
   cases neg with
   | false =>
    refine SeqAt.in_listAt (jW X.K F d1) pl.isList (key ds xs its l1 r hz) ⟨.bl _, H, I, rfl, ?_⟩
    rw [show its.toArray.any (jW X.K F d1) = its.any (jW X.K F d1) by simp, wL I sb l1 r]
    exact cF q sb (by simp only [bA]; rfl)
   | true =>
    refine SeqAt.notIn_listAt (jW X.K F d1) pl.isList (key ds xs its l1 r hz) ⟨.bl _, H, I, rfl, ?_⟩
    rw [show its.toArray.any (jW X.K F d1) = its.any (jW X.K F d1) by simp, wL I sb l1 r]
    exact cF q sb (by simp only [bA]; rfl)
  ·exact q.elim
 | _ => exact q.elim
def bI : D -> D -> bC D
 | .tup ds, .int i => match gC ds i with
  | some d => .ok d
  | none => .bad
 | .lst ds, .int i => match gC ds i with
  | some d => .ok d
  | none => .bad
 | .str z, .int i => match gC z.cps.toList i with
  | some c => .ok (.str ⟨#[c]⟩)
  | none => .bad
 | _, _ => .bad
theorem cC5 {α β : Type} {xs : List α} {ys : List β} (h : xs.length = ys.length) {i : Int} {x : α} (e : gC xs i = some x) : ∃ j : Nat, xs[j]? = some x /\ gC ys i = ys[j]? := by
 unfold gC at e ⊢
 rw [<- h]
 cases q : qB xs.length i with
 | none => rw [q] at e; cases e
 | some j => rw [q] at e; exact ⟨j, e, rfl⟩
theorem dO6 : qC X (rD X bI) := by
 intro value slice pins s σ H x y v u Q I rx ry h hs
 obtain ⟨F, d1, d2, sb, h1, h2, q⟩ := h
 cases d1 <;> cases d2 <;> try exact q.elim
 ·rename_i z i
  simp only [bA] at h1 h2; obtain ⟨rfl, hz⟩ := h1; subst h2
  simp only [bI] at q
  split at q
  ·rename_i c hc
   exact dF9 value slice pins s σ H _ _ v u Q I rx ry ⟨z, i, c, rfl, rfl, hz, hc, cF q sb (by simp only [bA]; exact ⟨trivial, by show 1 <= sizeLine; decide⟩)⟩ hs
  ·exact q.elim
 ·rename_i ds i
  simp only [bA] at h1 h2; obtain ⟨p, xs, rfl, g1, l1⟩ := h1; subst h2
  simp only [bI] at q
  split at q
  ·rename_i d hd
   obtain ⟨j, e1, e2⟩ := cC5 l1.length hd
   obtain ⟨x, hx, dx⟩ := jT l1.paired e1
   exact dF8 value slice pins s σ H _ _ v u Q I rx ry ⟨p, xs, i, x, rfl, rfl, bG.seqT sb g1, e2.trans hx, cF q sb dx⟩ hs
  ·exact q.elim
 ·rename_i ds i
  simp only [bA] at h1 h2; obtain ⟨p, xs, rfl, g1, l1⟩ := h1; subst h2
  simp only [bI] at q
  split at q
  ·rename_i d hd
   obtain ⟨j, e1, e2⟩ := cC5 l1.length hd
   obtain ⟨x, hx, dx⟩ := jT l1.paired e1
   exact dF7 value slice pins s σ H _ _ v u Q I rx ry ⟨p, xs, i, x, rfl, rfl, bG.seq sb g1, e2.trans hx, cF q sb dx⟩ hs
  ·exact q.elim
theorem dO7 (ha : IE X a f) (hb : IE X b g) (hs : yS b := by intro _ _; rfl) : IE X (.Subscript a b pos) (m2 bI f g) := dK1 dO6 wI ha hb hs
def dJ : List D -> bC D
 | [.str z] => .ok (.int z.length)
 | [.tup ds] => .ok (.int ds.length)
 | [.lst ds] => .ok (.int ds.length)
 | _ => .bad
theorem jE {K : W.Frag} {F : Hp} {d : D} {xs : List V} (h : DatL K F [d] xs) : ∃ x, xs = [x] /\ bA K F d x := by
 simp only [DatL] at h
 obtain ⟨x, r, rfl, h1, rfl⟩ := h
 exact ⟨x, rfl, h1⟩
theorem zP : fG X (.builtin "len") (lQ X dJ) := by
 intro pins s σ H xs us Q I r h
 obtain ⟨F, ds, sb, hl, q⟩ := h
 unfold dJ at q
 split at q
 ·rename_i z
  obtain ⟨x, rfl, hx⟩ := jE hl
  simp only [bA] at hx; obtain ⟨rfl, hz⟩ := hx
  exact dG4 pins s σ H _ us Q I r ⟨z, rfl, hz, cF q sb (by simp only [bA])⟩
 ·rename_i es
  obtain ⟨x, rfl, hx⟩ := jE hl
  simp only [bA] at hx; obtain ⟨p, ys, rfl, g1, l1⟩ := hx
  refine bY2 pins s σ H _ us Q I r ⟨p, ys, rfl, .inr (bG.seqT sb g1), ?_⟩
  rw [<- l1.length]
  exact cF q sb (by simp only [bA])
 ·rename_i es
  obtain ⟨x, rfl, hx⟩ := jE hl
  simp only [bA] at hx; obtain ⟨p, ys, rfl, g1, l1⟩ := hx
  refine bY2 pins s σ H _ us Q I r ⟨p, ys, rfl, .inl (bG.seq sb g1), ?_⟩
  rw [<- l1.length]
  exact cF q sb (by simp only [bA])
 ·exact q.elim
def wM : List D -> bC D
 | [.int i] => .ok (.int i)
 | [.bl b] => .ok (.int (if b then 1 else 0))
 | _ => .bad
theorem dO8 : fG X (.type "int") (lQ X wM) := by
 intro pins s σ H xs us Q I r h
 obtain ⟨F, ds, sb, hl, q⟩ := h
 unfold wM at q
 split at q
 ·obtain ⟨x, rfl, hx⟩ := jE hl
  simp only [bA] at hx; subst hx
  exact bX1 pins s σ H _ us Q I r (.inl ⟨_, rfl, cF q sb (by simp only [bA])⟩)
 ·obtain ⟨x, rfl, hx⟩ := jE hl
  simp only [bA] at hx; subst hx
  exact bX1 pins s σ H _ us Q I r (.inr ⟨_, rfl, cF q sb (by simp only [bA])⟩)
 ·exact q.elim
def nA : List D -> bC D
 | [.tup ds] => .ok (.lst ds)
 | [.lst ds] => .ok (.lst ds)
 | _ => .bad
theorem zQ : fG X (.type "list") (lQ X nA) := by
 intro pins s σ H xs us Q I r h
 obtain ⟨F, ds, sb, hl, q⟩ := h
 unfold nA at q
 split at q
 ·obtain ⟨x, rfl, hx⟩ := jE hl
  simp only [bA] at hx; obtain ⟨p, ys, rfl, g1, l1⟩ := hx
  exact bI3 pins s σ H _ us Q I r ⟨p, ys, rfl, .inr (bG.seqT sb g1), fun l hl => qE q sb l1 hl⟩
 ·obtain ⟨x, rfl, hx⟩ := jE hl
  simp only [bA] at hx; obtain ⟨p, ys, rfl, g1, l1⟩ := hx
  exact bI3 pins s σ H _ us Q I r ⟨p, ys, rfl, .inl (bG.seq sb g1), fun l hl => qE q sb l1 hl⟩
 ·exact q.elim
def jO : List D -> bC D
 | [.tup ds] => .ok (.tup ds)
 | [.lst ds] => .ok (.tup ds)
 | _ => .bad
theorem wN : fG X (.type "tuple") (lQ X jO) := by
 intro pins s σ H xs us Q I r h
 obtain ⟨F, ds, sb, hl, q⟩ := h
 unfold jO at q
 split at q
 ·obtain ⟨x, rfl, hx⟩ := jE hl
  have hx' := hx
  simp only [bA] at hx; obtain ⟨p, ys, rfl, g1, l1⟩ := hx
  exact bY3 pins s σ H _ us Q I r ⟨p, ys, rfl, .inr ⟨bG.seqT sb g1, cF q sb hx'⟩⟩
 ·obtain ⟨x, rfl, hx⟩ := jE hl
  simp only [bA] at hx; obtain ⟨p, ys, rfl, g1, l1⟩ := hx
  exact bY3 pins s σ H _ us Q I r ⟨p, ys, rfl, .inl ⟨bG.seq sb g1, fun l hl => rJ q sb l1 hl⟩⟩
 ·exact q.elim
def bK3 : List D -> bC D
 | [.int i] => if i.natAbs < 2 ^ 64 then .ok (.str (toString i)) else .bad
 | [.str z] => .ok (.str z)
 | _ => .bad
end
end R
end
section
namespace R
open PySem PySem.Spec PyProof.Rows L2
variable [bP] [Pd]
def Its (z : Str) : It := ⟨fun i _ => i < z.length, fun i H x H' => H' = H /\ ∃ c, z.cps[i]? = some c /\ x = .str ⟨#[c]⟩, fun i _ => z.length <= i⟩
theorem dO9 {P : Program} {w : World} {K : W.Frag} {tg : Expr} (z : Str) (t : Tok) (it : Addr) : nP P w K tg (Its z) [it] it (fun i h => h.IsStrIter it "str_ascii_iterator" z t i) where
 mem := by simp
 obj := fun i h st b hb => by
  have e : b = it := by simpa using hb
  subst e
  obtain ⟨o, e, c, d⟩ := st
  exact ⟨o, e, fun v z => by rw [d] at z; cases z⟩
 keep := fun i h h' st k => let ⟨o, ho, r⟩ := st; ⟨o, k it (by simp) o ho, r⟩
 item := by
  intro X hP hw hK hc i pins s σ H E I hf st hg
  subst hP hw hK
  obtain ⟨f0, f1, f2, f3, f4, f5⟩ := hf it (by simp)
  have hi : i < z.length := hg
  have hx : z.cps[i]? = some z.cps[i] := Array.getElem?_eq_getElem hi
  refine wpAny_pyNext_ascii_item st hx fun h' st' sb => ?_
  have I1 : bE X pins σ H { s with heap := h', toks := s.toks + 1 } := I.turned (fun b o hb e => (sb.2 b hb).trans e) f0 f1 f3 f4 f5
  obtain ⟨o, e, c, d⟩ := id st'
  exact ⟨_, rfl, vP (s := { s with heap := h', toks := s.toks + 1 }) e c d (by decide) ⟨.str ⟨#[z.cps[i]]⟩, H, I1, ⟨_, rfl⟩, ⟨rfl, _, hx, rfl⟩, st', fun b hb => (hf b hb).1⟩⟩
 done := by
  intro X hP hw hK hc i pins s σ H E I hf st hg
  subst hP hw hK
  obtain ⟨f0, f1, f2, f3, f4, f5⟩ := hf it (by simp)
  have hi : z.length <= i := hg
  exact wpAny_pyNext_ascii_end (I.ok.hd hc) st (Array.getElem?_eq_none hi) fun h' eb => ⟨rfl, I.turned (t' := s.toks) (fun b o hb e => eb b o hb e) f0 f1 f3 f4 f5⟩
 self := fun _ _ _ _ _ st h => wpAny_pyIter_striter_ascii st h
theorem dP0 {P : Program} {w : World} {K : W.Frag} {tg : Expr} (z : Str) (t : Tok) (it : Addr) : nP P w K tg (Its z) [it] it (fun i h => h.IsStrIter it "str_iterator" z t i) where
 mem := by simp
 obj := fun i h st b hb => by
  have e : b = it := by simpa using hb
  subst e
  obtain ⟨o, e, c, d⟩ := st
  exact ⟨o, e, fun v z => by rw [d] at z; cases z⟩
 keep := fun i h h' st k => let ⟨o, ho, r⟩ := st; ⟨o, k it (by simp) o ho, r⟩
 item := by
  intro X hP hw hK hc i pins s σ H E I hf st hg
  subst hP hw hK
  obtain ⟨f0, f1, f2, f3, f4, f5⟩ := hf it (by simp)
  have hi : i < z.length := hg
  have hx : z.cps[i]? = some z.cps[i] := Array.getElem?_eq_getElem hi
  refine wpAny_pyNext_wide_item st hx fun h' st' sb => ?_
  have I1 : bE X pins σ H { s with heap := h', toks := s.toks + 1 } := I.turned (fun b o hb e => (sb.2 b hb).trans e) f0 f1 f3 f4 f5
  obtain ⟨o, e, c, d⟩ := id st'
  exact ⟨_, rfl, vP (s := { s with heap := h', toks := s.toks + 1 }) e c d (by decide) ⟨.str ⟨#[z.cps[i]]⟩, H, I1, ⟨_, rfl⟩, ⟨rfl, _, hx, rfl⟩, st', fun b hb => (hf b hb).1⟩⟩
 done := by
  intro X hP hw hK hc i pins s σ H E I hf st hg
  subst hP hw hK
  obtain ⟨f0, f1, f2, f3, f4, f5⟩ := hf it (by simp)
  have hi : z.length <= i := hg
  exact wpAny_pyNext_wide_end (I.ok.hd hc) st (Array.getElem?_eq_none hi) fun h' eb => ⟨rfl, I.turned (t' := s.toks) (fun b o hb e => eb b o hb e) f0 f1 f3 f4 f5⟩
 self := fun _ _ _ _ _ st h => wpAny_pyIter_striter_wide st h
def jP (K : W.Frag) (F : Hp) (J : It) (ds : List D) : Prop := ∀ n F2 H2, bG F F2 -> bG F2 H2 ->
 (∀ d, ds[n]? = some d -> J.go n H2 /\ ∀ x H', J.yld n H2 x H' -> ∃ F', cD F2 H2 F' H' /\ bA K F' d x) /\ (n = ds.length -> J.stop n H2)
abbrev ML := bM -> bC (List D)
def tI (X : Cx) (f : ML) : TI := fun σ H R => ∃ ρ F, gD X.K F H ρ σ /\ match f ρ with
 | .ok ds => ∀ J F' H', cD F H F' H' -> jP X.K F' J ds -> R J H'
 | .ex _ => False
 | .bad => False
def II (X : Cx) (tg iter : Expr) (f : ML) : Prop := PI X tg iter (tI X f)
def wO (z : Str) : List D := z.cps.toList.map fun c => .str ⟨#[c]⟩
def zR : D -> bC (List D)
 | .tup ds => .ok ds
 | .lst ds => .ok ds
 | .str z => .ok (wO z)
 | _ => .bad
section
variable {X : Cx} {tg iter e : Expr} {f : ME} {pos : Pos}
theorem dP1 {t t' : TI} (h : PI X tg iter t) (i : ∀ σ H R, t' σ H R -> t σ H R) : PI X tg iter t' := fun pins s σ H R I hq => h pins s σ H R I (i σ H R hq)
theorem dP2 {K : W.Frag} {F : Hp} {a : Addr} {xs : List V} {ds : List D} (h : fK K F a xs) (l : DatL K F ds xs) : jP K F (Itt K a) ds := fun n F2 H2 s1 s2 => by
 have hq : fK K H2 a xs := bG.seqT s2 (bG.seqT s1 h)
 refine ⟨fun d hd => ?_, fun hn => ⟨xs, hq, by rw [<- l.length, hn]; exact Nat.le_refl _⟩⟩
 obtain ⟨x, hx, dx⟩ := jT l.paired hd
 refine ⟨⟨xs, x, hq, hx⟩, fun x' H' y => ?_⟩
 obtain ⟨rfl, y⟩ := y
 have e := y xs hq
 rw [hx] at e
 cases e
 exact ⟨F2, .refl s2, dx.mono s1⟩
theorem dP3 {K : W.Frag} {F : Hp} {a : Addr} {xs : List V} {ds : List D} (h : dF K F a xs) (l : DatL K F ds xs) : jP K F (Itl K a) ds := fun n F2 H2 s1 s2 => by
 have hq : dF K H2 a xs := bG.seq s2 (bG.seq s1 h)
 refine ⟨fun d hd => ?_, fun hn => ⟨xs, hq, by rw [<- l.length, hn]; exact Nat.le_refl _⟩⟩
 obtain ⟨x, hx, dx⟩ := jT l.paired hd
 refine ⟨⟨xs, x, hq, hx⟩, fun x' H' y => ?_⟩
 obtain ⟨rfl, y⟩ := y
 have e := y xs hq
 rw [hx] at e
 cases e
 exact ⟨F2, .refl s2, dx.mono s1⟩
theorem cC6 {K : W.Frag} {F : Hp} {z : Str} : jP K F (Its z) (wO z) := fun n F2 H2 s1 s2 => by
 have hl : (wO z).length = z.length := by unfold wO; rw [List.length_map]; rfl
 refine ⟨fun d hd => ?_, fun hn => by show z.length <= n; omega⟩
 have hn : n < z.length := by rw [<- hl]; exact (List.getElem?_eq_some_iff.mp hd).1
 refine ⟨hn, fun x' H' y => ?_⟩
 obtain ⟨rfl, c, hc, rfl⟩ := y
 unfold wO at hd
 rw [List.getElem?_map, Array.getElem?_toList, hc] at hd
 cases hd
 exact ⟨F2, .refl s2, by simp only [bA]; exact ⟨trivial, by show 1 <= sizeLine; decide⟩⟩
theorem dP4 {K : W.Frag} {F : Hp} {lo : Int} {k : Nat} : jP K F (yL lo k) (upTo lo k) := fun n F2 H2 s1 s2 => by
 have hl : (upTo lo k).length = k := by unfold upTo; rw [List.length_map, List.length_range]
 refine ⟨fun d hd => ?_, fun hn => by show k <= n; omega⟩
 have hn : n < k := by rw [<- hl]; exact (List.getElem?_eq_some_iff.mp hd).1
 refine ⟨hn, fun x' H' y => ?_⟩
 obtain ⟨rfl, rfl⟩ := y
 unfold upTo at hd
 rw [List.getElem?_map, List.getElem?_range hn] at hd
 cases hd
 exact ⟨F2, .refl s2, by simp only [bA]⟩
def cV (f : ME) : ML := fun ρ => (f ρ).bind zR
theorem lS (he : IE X iter f) : II X tg iter (cV f) := by
 intro pins s σ H R I ⟨ρ, F, E, q⟩
 have hp := he pins s σ H (fun x H1 => ∃ F1 d ds, cD F H F1 H1 /\ bA X.K F1 d x /\ zR d = .ok ds /\ ∀ J F' H', cD F H F' H' -> jP X.K F' J ds -> R J H') I ⟨ρ, F, E, by
  unfold cV at q
  revert q
  cases f ρ with
  | ok d =>
   intro q v F1 H1 g1 d1
   revert q
   show (match zR d with
    | .ok ds => ∀ J F' H', cD F H F' H' -> jP X.K F' J ds -> R J H'
    | .ex _ => False
    | .bad => False) -> _
   cases hd : zR d with
   | ok ds => exact fun q => ⟨F1, d, ds, g1, d1, hd, q⟩
   | ex _ => exact fun q => q.elim
   | bad => exact fun q => q.elim
  | ex _ => exact fun q => q
  | bad => exact fun q => q⟩
 refine cC hp fun v s1 ⟨x, H1, I1, r1, F1, d, ds, g1, d1, hd, q⟩ => ?_
 cases d <;> try cases hd
 ·rename_i z
  simp only [bA] at d1
  obtain ⟨rfl, hz⟩ := d1
  obtain ⟨t, rfl⟩ := r1
  cases ha : z.cps.all (· < 128)
  ·refine wpAny_pyIter_wide ha ?_
   refine ⟨s1.heap.objs.size, [s1.heap.objs.size], _, _, H1, rfl, I1.kept (t' := s1.toks) fun b o e => Heap.get?_push_of_some _ e, dP0 z t _, ⟨_, Heap.get?_push_size _ rfl, rfl, rfl⟩, fun b hb => ?_, q _ F1 H1 g1 cC6⟩
   have e : b = s1.heap.objs.size := by simpa using hb
   subst e
   exact I1.fpOk (Nat.le_refl _) (I1.hok.fresh (Nat.le_refl _))
  ·refine wpAny_pyIter_ascii ha ?_
   refine ⟨s1.heap.objs.size, [s1.heap.objs.size], _, _, H1, rfl, I1.kept (t' := s1.toks) fun b o e => Heap.get?_push_of_some _ e, dO9 z t _, ⟨_, Heap.get?_push_size _ rfl, rfl, rfl⟩, fun b hb => ?_, q _ F1 H1 g1 cC6⟩
   have e : b = s1.heap.objs.size := by simpa using hb
   subst e
   exact I1.fpOk (Nat.le_refl _) (I1.hok.fresh (Nat.le_refl _))
 ·simp only [bA] at d1
  obtain ⟨a, xs, rfl, hq, hl⟩ := d1
  cases r1
  obtain ⟨its, rv, p, hz⟩ := I1.tuple (bG.seqT g1.sub hq)
  refine wpAny_pyIter_tuple (show s1.heap.IsTuple a its.toArray from p) ?_
  refine ⟨s1.heap.objs.size, [s1.heap.objs.size], _, _, H1, rfl, I1.kept (t' := s1.toks) fun b o e => Heap.get?_push_of_some _ e, cY7 a _, ⟨_, Heap.get?_push_size _ rfl, rfl, rfl⟩, fun b hb => ?_, q _ F1 H1 g1 (dP2 hq hl)⟩
  have e : b = s1.heap.objs.size := by simpa using hb
  subst e
  exact I1.fpOk (Nat.le_refl _) (I1.hok.fresh (Nat.le_refl _))
 ·simp only [bA] at d1
  obtain ⟨a, xs, rfl, hq, hl⟩ := d1
  cases r1
  obtain ⟨its, rv, p, hz⟩ := I1.list (bG.seq g1.sub hq)
  refine wpAny_pyIter_list p.isList ?_
  refine ⟨s1.heap.objs.size, [s1.heap.objs.size], _, _, H1, rfl, I1.kept (t' := s1.toks) fun b o e => Heap.get?_push_of_some _ e, cY6 a _, ⟨_, Heap.get?_push_size _ rfl, rfl, rfl⟩, fun b hb => ?_, q _ F1 H1 g1 (dP3 hq hl)⟩
  have e : b = s1.heap.objs.size := by simpa using hb
  subst e
  exact I1.fpOk (Nat.le_refl _) (I1.hok.fresh (Nat.le_refl _))
def kH : D -> bC (List D)
 | .int j => if -(2 ^ 62) <= j /\ j < 2 ^ 62 then .ok (upTo 0 j.toNat) else .bad
 | _ => .bad
def gP (f : ME) : ML := fun ρ => (f ρ).bind kH
theorem dP5 {a : Expr} {p cpos : Pos} (hgl : Gl X "range") (hm : X.mg "range" = none) (hi : IE X a f) (hst : starEach [a] X.env = [(false, eval a X.env)] := by rfl) : II X tg (.Call (.Name "range" p) [a] [] cpos) (gP f) :=
 dP1 (cZ1 hgl hm (kO hi mD hst) hst) fun σ H R ⟨ρ, F, E, q⟩ => by
  refine ⟨ρ, F, E, ?_⟩
  unfold gP at q
  revert q
  cases f ρ with
  | ok d =>
   intro q v F1 H1 g1 d1
   cases d with
   | int j =>
    simp only [bA] at d1
    subst d1
    by_cases hj : -(2 ^ 62) <= j /\ j < 2 ^ 62
    ·have e : (bC.ok (D.int j)).bind kH = .ok (upTo 0 j.toNat) := by show kH (.int j) = _; simp only [kH]; rw [if_pos hj]
     rw [e] at q
     exact ⟨j, rfl, hj.1, hj.2, q _ F1 H1 g1 dP4⟩
    ·have e : (bC.ok (D.int j)).bind kH = .bad := by show kH (.int j) = _; simp only [kH]; rw [if_neg hj]
     rw [e] at q
     exact q.elim
   | _ => exact q.elim
  | ex _ => exact fun q => q
  | bad => exact fun q => q
variable {body : List Stmt} {i : Nat} {u : MS}
def fT (i : Nat) (fl : ML) (body : MS) : MS := fun ρ => (fl ρ).bind fun ds => cU i body ds ρ
theorem nB {fl : ML} (hc : X.calm = true) (hp : PassesOwn (model X.prog X.w) X.A X.env X.xe) (hi : II X tg iter fl) (hg : PG X tg (kD i)) (hb : jD X body u) (hs : ∀ x, foldedSetIterable iter X.env x = pure x := by intro _; rfl) :
 IS X (.For tg iter body [] pos) (fT i fl u) := fun F₀ H₀ => fR (bW4 hp hc hi hg (cB1 (H₀ := H₀) hb) hs) fun E σ H ⟨ρ, F, S, q⟩ => by
 refine ⟨ρ, F, S.env, ?_⟩
 unfold fT at q
 revert q
 cases fl ρ with
 | ok ds =>
  intro q J F1 H1 g1 it
  have S1 := S.grow g1
  refine ⟨fun n m σ' H' => m = ds.length - n /\ n <= ds.length /\ ∃ ρ' F', SR X.K F1 H₀ F' H' ρ' σ' /\ fS X F1 H₀ (cU i u (ds.drop n) ρ') E, ⟨_, rfl, Nat.zero_le _, ρ, F1, S1.here, fS.here S1.gr q⟩, ?_⟩
  rintro n m σ' H' ⟨rfl, hn, ρ', F', S', q'⟩
  obtain ⟨h1, h2⟩ := it n F' H' S'.gr.fs S'.env.sub
  by_cases hlt : n < ds.length
  ·have hd : ds[n]? = some ds[n] := List.getElem?_eq_getElem hlt
   obtain ⟨go, yl⟩ := h1 _ hd
   refine .inr ⟨go, fun σ H => ∃ ρ F', SR X.K F1 H₀ F' H ρ σ /\ fS X F1 H₀ (cU i u (ds.drop (n + 1)) ρ) E, fun σ2 H2 h => ⟨ds.length - (n + 1), by omega, rfl, hlt, h⟩, fun x H2 y => ?_⟩
   obtain ⟨F2, g2, dx⟩ := yl x H2 y
   rw [List.drop_eq_getElem_cons hlt] at q'
   exact ⟨F1, ρ'.set i (.val ds[n]), F2, (S'.grow g2).set i dx, dM1 q' fun ρ3 σ3 F3 H3 S3 q3 => ⟨ρ3, F3, S3, q3⟩⟩
  ·have e : n = ds.length := by omega
   subst e
   rw [List.drop_eq_nil_of_le (Nat.le_refl _)] at q'
   exact .inl ⟨h2 rfl, q' σ' F' H' S'⟩
 | ex _ => exact fun q => q
 | bad => exact fun q => q
end
end R
end
section
namespace R
open PySem PySem.Spec PyProof.Rows L2
variable [bP] [Pd]
def gQ (names : List (Str × NameKind)) (cells : List (Str × Addr)) (acc : List (Str × Addr)) : List (Str × Addr) := match names with
 | [] => acc
 | (n, k) :: r => gQ r cells (if k = .free then (n, (cells.lookup n).getD 0) :: acc else acc)
theorem cC7 {env : Env} : ∀ (names : List (Str × NameKind)) (acc : List (Str × Addr)), (∀ y ∈ names, y.2 = .free -> ∃ c, env.cells.lookup y.1 = some c) ->
 (forIn names acc fun y cs => if (y.2 == NameKind.free) = true then (do let c <- cellOf env y.1; pure (ForInStep.yield ((y.1, c) :: cs))) else pure (ForInStep.yield cs) : Sem (List (Str × Addr))) = pure (gQ names env.cells acc)
 | [], acc, _ => rfl
 | (n, k) :: r, acc, h => by
  have ih := cC7 (env := env) r
  rw [List.forIn_cons]
  by_cases hk : k = .free
  ·subst hk
   obtain ⟨c, hc⟩ := h (n, .free) List.mem_cons_self rfl
   have e1 : ((NameKind.free == NameKind.free) = true) = True := by simp
   simp only [e1, if_true]
   have e2 : cellOf env n = pure c := by unfold cellOf; rw [hc]
   rw [e2]
   simp only [pure_bind]
   rw [ih _ fun y hy => h y (List.mem_cons_of_mem _ hy)]
   rw [gQ, if_pos rfl, hc]; rfl
  ·have e1 : (k == NameKind.free) = false := by cases k <;> first | rfl | exact absurd rfl hk
   simp only [e1, Bool.false_eq_true, if_false]
   simp only [pure_bind]
   rw [ih _ fun y hy => h y (List.mem_cons_of_mem _ hy)]
   rw [gQ, if_neg hk]
theorem dP6 {scope : Scope} {env : Env} (h : ∀ y ∈ scope.names, y.2 = .free -> ∃ c, env.cells.lookup y.1 = some c) : closureFor scope env = pure (gQ scope.names env.cells []) := by
 have := cC7 (env := env) scope.names [] h
 unfold closureFor
 first
  | exact this
  | (simp only [bind_pure]; exact this)
theorem bK5 {cells : List (Str × Addr)} {y : Str} {c : Addr} : ∀ (names : List (Str × NameKind)) (acc : List (Str × Addr)), (gQ names cells acc).lookup y = some c -> acc.lookup y = some c \/ ((y, .free) ∈ names /\ (cells.lookup y).getD 0 = c)
 | [], acc, h => .inl h
 | (n, k) :: r, acc, h => by
  rw [gQ] at h
  rcases bK5 r _ h with q | ⟨q1, q2⟩
  ·by_cases hk : k = .free
   ·rw [if_pos hk, List.lookup_cons] at q
    cases e : y == n with
    | true =>
     rw [e] at q
     have : y = n := eq_of_beq e
     subst this; subst hk
     exact .inr ⟨List.mem_cons_self, Option.some.inj q⟩
    | false => rw [e] at q; exact .inl q
   ·rw [if_neg hk] at q; exact .inl q
  ·exact .inr ⟨List.mem_cons_of_mem _ q1, q2⟩
theorem bK6 {cells : List (Str × Addr)} {y : Str} : ∀ (names : List (Str × NameKind)) (acc : List (Str × Addr)), (y, .free) ∈ names \/ (acc.lookup y).isSome = true -> ((gQ names cells acc).lookup y).isSome = true
 | [], acc, h => by
  rcases h with h | h
  ·cases h
  ·exact h
 | (n, k) :: r, acc, h => by
  rw [gQ]
  refine bK6 r _ ?_
  rcases h with h | h
  ·rcases List.mem_cons.mp h with e | h
   ·cases e
    refine .inr ?_
    rw [if_pos rfl, List.lookup_cons]
    simp
   ·exact .inl h
  ·refine .inr ?_
   by_cases hk : k = .free
   ·rw [if_pos hk, List.lookup_cons]
    cases e : y == n with
    | true => rfl
    | false => exact h
   ·rw [if_neg hk]; exact h
abbrev jQ (X : Cx) (N' : List Str) (scope : Scope) (C : Addr) (fp : List Addr) (s : Shared) (H : Hp) (E : Value -> Shared -> Prop) : Cx :=
 { X with N := N', s₀ := s, H₀ := H, env := compEnvC scope (gQ scope.names X.env.cells []) C X.env, outer := X.stack, ex := fp, fn := fun _ => false, xe := E }
structure lD (X : Cx) (scope : Scope) (os caps : List Str) (js : List Nat) : Prop where
 kind : scope.kind = .function
 nocell : ∀ y ∈ scope.names, y.2 ≠ .cell
 names : ∀ y ∈ scope.names, y.2 = .local -> scope.names.lookup y.1 = some .local
 loc : ∀ x ∈ os, scope.names.lookup x = some .local
 fr : ∀ y ∈ scope.names, y.2 = .free -> X.env.kindOf y.1 = some .cell \/ X.env.kindOf y.1 = some .free
 nd : (os ++ caps).Nodup
 len : caps.length = js.length
 cap : ∀ (k : Nat) y j, caps[k]? = some y -> js[k]? = some j -> X.N[j]? = some y /\ scope.names.lookup y = some .free
def cC8 : Slot -> Slot
 | .val d => .val d
 | _ => .no
def gI (js : List Nat) (ρ : bM) : bM := js.map fun j => cC8 (ρ.getD j .no)
def jX (js : List Nat) (σ : St) : St := js.map fun j => σ.getD j none
def dL (p : MT) (g : ME) (rest : bM) : List D -> bC (List D)
 | [] => .ok []
 | d :: ds => (p (.val d :: rest)).bind fun b => if b = true then (g (.val d :: rest)).bind fun y => (dL p g rest ds).bind fun ys => .ok (y :: ys) else dL p g rest ds
theorem cC9 {scope : Scope} {env : Env} {y : Str} : ∀ {names : List (Str × NameKind)}, names.lookup y = some .free ->
 (names.map fun (n, k) => if (k == NameKind.free && env.scope.kind == .function && env.kindOf n == some .cell) then (n, NameKind.cell) else (n, k)).lookup y = some .cell \/
 (names.map fun (n, k) => if (k == NameKind.free && env.scope.kind == .function && env.kindOf n == some .cell) then (n, NameKind.cell) else (n, k)).lookup y = some .free
 | [], h => by cases h
 | (n, k) :: r, h => by
  rw [List.map_cons, List.lookup_cons]
  rw [List.lookup_cons] at h
  cases e : y == n with
  | true =>
   rw [e] at h
   cases h
   by_cases hc : (NameKind.free == NameKind.free && env.scope.kind == .function && env.kindOf n == some .cell) = true
   ·simp only [hc, if_true]; rw [e]; exact .inl rfl
   ·simp only [hc, Bool.false_eq_true, if_false]; rw [e]; exact .inr rfl
  | false =>
   rw [e] at h
   have ih := @cC9 scope env y r h
   by_cases hc : (k == NameKind.free && env.scope.kind == .function && env.kindOf n == some .cell) = true
   ·simp only [hc, if_true]; rw [e]; exact ih
   ·simp only [hc, Bool.false_eq_true, if_false]; rw [e]; exact ih
theorem bK7 {env : Env} {y : Str} {K : NameKind} (hK : K = .cell \/ K = .free) : ∀ {names : List (Str × NameKind)}, (∀ z ∈ names, z.2 ≠ .cell) ->
 (names.map fun (n, k) => if (k == NameKind.free && env.scope.kind == .function && env.kindOf n == some .cell) then (n, NameKind.cell) else (n, k)).lookup y = some K -> (y, .free) ∈ names
 | [], _, h => by cases h
 | (n, k) :: r, hn, h => by
  rw [List.map_cons, List.lookup_cons] at h
  have ih := @bK7 env y K hK r fun z hz => hn z (List.mem_cons_of_mem _ hz)
  cases e : y == n with
  | true =>
   have e' : y = n := eq_of_beq e
   subst e'
   by_cases hc : (k == NameKind.free && env.scope.kind == .function && env.kindOf y == some .cell) = true
   ·rw [Bool.and_eq_true, Bool.and_eq_true] at hc
    have : k = .free := eq_of_beq hc.1.1
    subst this
    exact List.mem_cons_self
   ·simp only [hc, Bool.false_eq_true, if_false] at h
    rw [e] at h
    have hk : k = K := Option.some.inj h
    rcases hK with q | q
    ·exact absurd (hk.trans q) (hn (y, k) List.mem_cons_self)
    ·rw [hk.trans q]; exact List.mem_cons_self
  | false =>
   by_cases hc : (k == NameKind.free && env.scope.kind == .function && env.kindOf n == some .cell) = true
   ·simp only [hc, if_true] at h; rw [e] at h; exact List.mem_cons_of_mem _ (ih h)
   ·simp only [hc, Bool.false_eq_true, if_false] at h; rw [e] at h; exact List.mem_cons_of_mem _ (ih h)
theorem dP7 {prog : Program} {w : World} {A : Around} {R : Result -> Shared -> Prop} {s : Shared} {elt target iter : Expr} {ifs : List Expr} {scope : Scope} {pos : Pos} {it acc : Value} {env : Env} (I : Nat -> Shared -> Prop)
 (turn : ∀ n s, I n s -> wpAny (model prog w) A (pyNext it) (fun r s₁ => match r with
   | none => R (.ok .next) s₁
   | some v => wpAny (model prog w) A (letOwnedTupleGo target it v) (fun _ s₁' => wpAny (model prog w) A (assign target env v) (fun _ s₂ =>
    wpAny (model prog w) A (forIn ifs true fun c r => if r = true then do let ok <- isTrue c env (eval c env); pure (ForInStep.yield ok) else pure (ForInStep.yield r)) (fun ok s₃ =>
     if ok = true then wpAny (model prog w) A (eval elt env) (fun x s₄ =>
      wpAny (model prog w) A (call (.builtin "list.append") [acc, x]) (fun _ s₅ => ∃ m, m < n /\ I m s₅) (notedBy (model prog w) A env fun e s' => R (.error e) s') s₄) (notedBy (model prog w) A env fun e s' => R (.error e) s') s₃
     else ∃ m, m < n /\ I m s₃) (notedBy (model prog w) A env fun e s' => R (.error e) s') s₂) (notedBy (model prog w) A env fun e s' => R (.error e) s') s₁')
      (notedBy (model prog w) A env fun e s' => R (.error e) s') s₁) (notedBy (model prog w) A env fun e s' => R (.error e) s') s)
 (n : Nat) (h : I n s) : codeAny (model prog w) A (.compLoop (.ListComp elt [⟨target, iter, ifs, 0⟩] scope pos) 0 it acc env) R s := by
 apply codeAny_loop rfl I ?_ n h
 intro n s hI
 show wpAny _ A ((compTurn (.ListComp elt [⟨target, iter, ifs, 0⟩] scope pos) 0 it acc env).onRaise fun x => do noteFrame x env; theTreesLotGoes x) _ _ s
 apply wpAny_noted
 rw [compTurn_list]
 apply wpAny_bind; apply wpAny_standAt; apply wpAny_bind
 apply wpAny_mono (turn n s hI) ?_ (fun _ _ h' => h')
 intro r s₁ h₁
 cases r with
 | none => exact wpAny_pure h₁
 | some v =>
  apply wpAny_bind
  apply wpAny_mono h₁ ?_ (fun _ _ h' => h')
  intro _ s₁' h₁'
  apply wpAny_bind
  apply wpAny_mono h₁' ?_ (fun _ _ h' => h')
  intro _ s₂ h₂
  apply wpAny_bind
  apply wpAny_mono h₂ ?_ (fun _ _ h' => h')
  intro ok s₃ h₃
  cases ok with
  | false => exact wpAny_pure ⟨rfl, h₃⟩
  | true =>
   apply wpAny_bind; apply wpAny_bind
   apply wpAny_mono h₃ ?_ (fun _ _ h' => h')
   intro x s₄ h₄
   apply wpAny_bind
   apply wpAny_mono h₄ ?_ (fun _ _ h' => h')
   intro _ s₅ h₅
   exact wpAny_pure (wpAny_pure ⟨rfl, h₅⟩)
section
variable {X : Cx} {os caps : List Str} {js : List Nat} {scope : Scope} {px pos : Pos} {elt iter : Expr} {ifs : List Expr} {p : MT} {g : ME}
def nC (X : Cx) (ifs : List Expr) (p : MT) : Prop := (ifs = [] /\ p = fun _ => .ok true) \/ ∃ c, ifs = [c] /\ IT X c p
theorem dP8 {X : Cx} {ifs : List Expr} {p : MT} (h : nC X ifs p) {pins : List (Addr × Obj)} {s : Shared} {σ : St} {H : Hp} {Q : Bool -> Hp -> Prop} (I : bE X pins σ H s) (q : mG X p σ H Q) :
 wpAny (model X.prog X.w) X.A (forIn ifs true fun c r => if r = true then do let ok <- isTrue c X.env (eval c X.env); pure (ForInStep.yield ok) else pure (ForInStep.yield r)) (TP X pins σ Q) X.xe s := by
 rcases h with ⟨rfl, rfl⟩ | ⟨c, rfl, hc⟩
 ·exact wpAny_tests_nil ⟨H, I, zH q⟩
 ·exact wpAny_tests_one (hc pins s σ H Q I q)
theorem dP9 {pins : List (Addr × Obj)} {σ : St} {H : Hp} {s : Shared} {h₁ : Heap} {fp : List Addr} {m : Str -> Option Value} {E : Value -> Shared -> Prop} {tk : Nat} (S : lD X scope os caps js) (I : bE X pins σ H s)
 (hfp : ∀ b ∈ fp, jC X pins H b) (hlt : ∀ b ∈ fp, b < s.heap.objs.size) (hn : h₁.Ns s.heap.objs.size m) (hk : ∀ b o, s.heap.get? b = some o -> h₁.get? b = some o) :
 bE (jQ X (os ++ caps) scope s.heap.objs.size fp s H E) pins (os.map (fun _ => none) ++ jX js σ) H { s with heap := h₁, toks := tk } := by
 have cl_src : ∀ y c, (gQ scope.names X.env.cells []).lookup y = some c -> X.env.cells.lookup y = some c /\ (y, NameKind.free) ∈ scope.names := fun y c e => by
  rcases bK5 scope.names [] e with q | ⟨q1, q2⟩
  ·cases q
  ·obtain ⟨c', hc'⟩ := I.ok.has y (S.fr (y, .free) q1 rfl)
   rw [hc'] at q2
   have : c' = c := q2
   subst this
   exact ⟨hc', q1⟩
 have stk_no : ∀ b, b ≠ X.env.locals -> b ∉ X.fs -> b ∉ kM X.stack := fun b h1 h2 hb => by
  rcases List.mem_cons.mp (I.stkSub b hb) with z | z
  ·exact h1 z
  ·exact h2 z
 have C_new : ∀ b o, s.heap.get? b = some o -> b ≠ s.heap.objs.size := fun b o e => Nat.ne_of_lt (Heap.lt_size e)
 refine ⟨⟨I.ok.mod, S.kind, I.ok.glob, I.ok.blt, Nat.le_refl _, fun y z c h1 h2 => ?_, fun y hy => ?_, fun y c hf _ => (by cases hf), I.ok.hd, I.ok.frames, .inl rfl, fun b hb => ?_, I.bs, Nat.le_trans I.ok.bsz I.sz, fun b o e hb => ?_, fun b hb => ?_, I.stack, I.stkFree⟩,
  rfl, I.bare, Un.kept hk, ⟨m, hn, fun i y v h1 h2 h3 => ?_⟩, fun y c e => ?_, I.hok.fresh (Nat.le_refl _), fun y c e => I.freeC y c (cl_src y c e).1, fun q hq => ?_, I.hok.kept hk, ?_⟩
 ·exact I.ok.inj y z c (cl_src y c h1).1 (cl_src z c h2).1
 ·have hy' : (relabel scope X.env).names.lookup y = some .cell \/ (relabel scope X.env).names.lookup y = some .free := hy
  have hmem : (y, NameKind.free) ∈ scope.names := by
   rcases hy' with q | q
   ·exact bK7 (.inl rfl) S.nocell q
   ·exact bK7 (.inr rfl) S.nocell q
  exact Option.isSome_iff_exists.mp (bK6 scope.names [] (.inl hmem))
 ·refine ⟨Nat.ne_of_lt (hlt b hb), fun y c e => ?_⟩
  exact (hfp b hb).2.2.2.2.1 y c (cl_src y c e).1
 ·have z := (hfp b hb).2.2.2.1
  rcases z with z | z
  ·exact I.ok.noex b o e z
  ·exact absurd (Nat.lt_of_lt_of_le (Heap.lt_size (I.ok.bs b o e).1) z) (Nat.lt_irrefl _)
 ·exact stk_no b (hfp b hb).2.1 (hfp b hb).2.2.1
 ·have h1 : (os ++ caps)[i]? = some y := h1
  by_cases hi : i < os.length
  ·rw [List.getElem?_append_left (by rw [List.length_map]; exact hi), List.getElem?_map, List.getElem?_eq_getElem hi] at h2; cases h2
  ·obtain ⟨k, rfl⟩ := Nat.exists_eq_add_of_le (Nat.le_of_not_lt hi)
   have h1' : caps[k]? = some y := by rw [List.getElem?_append_right (Nat.le_add_right _ _)] at h1; simpa using h1
   have h2' : (jX js σ)[k]? = some (some v) := by rw [List.getElem?_append_right (by rw [List.length_map]; exact Nat.le_add_right _ _)] at h2; simpa using h2
   unfold jX at h2'
   rw [List.getElem?_map] at h2'
   cases hj : js[k]? with
   | none => rw [hj] at h2'; cases h2'
   | some j =>
    rw [hj] at h2'
    have h3' : σ.getD j none = some v := Option.some.inj h2'
    obtain ⟨c1, c2⟩ := S.cap k y j h1' hj
    have hσ : σ[j]? = some (some v) := by
     rw [List.getD_eq_getElem?_getD] at h3'
     cases e : σ[j]? with
     | none => rw [e] at h3'; cases h3'
     | some o => rw [e] at h3'; exact congrArg some h3'
    have hm : (y, NameKind.free) ∈ scope.names := PySem.mem_of_lookup c2
    have hkd := S.fr (y, .free) hm rfl
    obtain ⟨m0, hn0, hl0⟩ := I.loc
    obtain ⟨u, ru, lk⟩ := hl0 j y v c1 hσ (by
     rcases hkd with z | z
     ·exact .inr (.inl z)
     ·exact .inr (.inr z))
    refine ⟨u, ru, ?_⟩
    rcases lk with ⟨kd, _⟩ | ⟨_, c, hc, hcell⟩
    ·rcases hkd with z | z
     ·exact absurd (kd.symm.trans z) (by decide)
     ·exact absurd (kd.symm.trans z) (by decide)
    ·obtain ⟨c', hc'⟩ := Option.isSome_iff_exists.mp (bK6 (cells := X.env.cells) scope.names [] (.inl hm))
     have : c' = c := by
      have := (cl_src y c' hc').1
      rw [hc] at this
      exact (Option.some.inj this).symm
     subst this
     refine .inr ⟨cC9 (scope := scope) c2, c', hc', ?_⟩
     obtain ⟨o, ho, hd⟩ := hcell
     exact ⟨o, hk _ o ho, hd⟩
 ·obtain ⟨v, o, ho, hd⟩ := I.cell y c (cl_src y c e).1
  exact ⟨v, o, hk _ o ho, hd⟩
 ·obtain ⟨e, n, ne, nf, d⟩ := I.pin q hq
  exact ⟨hk _ _ e, n, C_new _ _ e, stk_no q.1 ne nf, d⟩
 ·show (os.map (fun _ => none) ++ jX js σ).length = (os ++ caps).length
  unfold jX
  rw [List.length_append, List.length_append, List.length_map, List.length_map, S.len]
end
end R
end
section
namespace R
open PySem PySem.Spec PyProof.Rows L2
variable [bP] [Pd]
section
variable {X : Cx} {tg : Expr} {os caps : List Str} {js : List Nat} {scope : Scope} {px pos : Pos} {elt iter : Expr} {ifs : List Expr} {p P : MT} {g G : ME} {sp : D -> Option (List D)} {gg : TG}
theorem dQ0 {pins : List (Addr × Obj)} {σ σ' : St} {H H' : Hp} {s s' : Shared} {N' : List Str} {C : Addr} {fp : List Addr} {E : Value -> Shared -> Prop} {h' : Heap} (I : bE X pins σ H s) (J : bE (jQ X N' scope C fp s H E) pins σ' H' s')
 (hC : s.heap.objs.size <= C) (hs : Heap.SameBut C s'.heap h') (hfp : ∀ b ∈ fp, jC X pins H b) : bE X pins σ H' { s' with heap := h' } := by
 have ne : ∀ b o, s.heap.get? b = some o -> b ≠ C := fun b o e => Nat.ne_of_lt (Nat.lt_of_lt_of_le (Heap.lt_size e) hC)
 have hfree : H' C = none := J.free
 refine I.call' (s' := { s' with heap := h' }) (ch := fp) J.os ⟨fun b o q n hb hx => ?_, fun b o q n hb hx => ?_, J.base.free, fun b o q hx => ?_, J.base.tups, J.base.frzs, J.base.tbls⟩ (fun a o e => ?_) J.bare fun b hb => ?_
 ·exact (hs.2 b (ne b o q)).trans (J.base.keep b o q n hb hx)
 ·obtain ⟨sl, e⟩ := J.base.slot b o q n hb hx
  exact ⟨sl, (hs.2 b (ne b o q)).trans e⟩
 ·obtain ⟨o', e⟩ := J.base.there b o q hx
  exact ⟨o', (hs.2 b (ne b o q)).trans e⟩
 ·refine (J.hok a o e).stay (fun b u hb q => (hs.2 b fun z => ?_).trans q) (fun _ q => q) fun _ _ q => q
  subst z
  rcases hb with z | z
  ·subst z; rw [e] at hfree; cases hfree
  ·rw [z] at hfree; cases hfree
 ·obtain ⟨_, f1, _, f3, f4, f5⟩ := hfp b hb
  exact ⟨f3, f1, f4, f5⟩
theorem dQ1 {K : W.Frag} {F H F' H' : Hp} {ρ : bM} {σ : St} {js : List Nat} {es : List D} {vs : List V} (l : DatL K F' es vs) (E : gD K F H ρ σ) (gr : cD F H F' H') : gD K F' H' (es.map .val ++ gI js ρ) (vs.map some ++ jX js σ) := by
 have hl := l.length
 have noown : ∀ (i : Nat) ds, (es.map Slot.val ++ gI js ρ)[i]? ≠ some (.own ds) := fun i ds e => by
  rcases List.mem_append.mp (List.mem_of_getElem? e) with h | h
  ·obtain ⟨_, _, h⟩ := List.mem_map.mp h; cases h
  ·unfold gI at h
   obtain ⟨j, _, h⟩ := List.mem_map.mp h
   cases q : ρ.getD j .no <;> rw [q] at h <;> cases h
 refine ⟨gr.tk E.tb, gr.sub, ?_, fun i sl e => ?_, fun i j ds es a _ e => absurd e (noown i ds)⟩
 ·unfold gI jX; simp only [List.length_append, List.length_map, hl]
 ·by_cases hi : i < es.length
  ·rw [List.getElem?_append_left (by rw [List.length_map]; exact hi), List.getElem?_map, List.getElem?_eq_getElem hi] at e
   cases e
   obtain ⟨v, hv, dv⟩ := jT l.paired (List.getElem?_eq_getElem hi)
   exact ⟨some v, by rw [List.getElem?_append_left (by rw [List.length_map]; omega), List.getElem?_map, hv]; rfl, v, rfl, dv⟩
  ·obtain ⟨k, rfl⟩ := Nat.exists_eq_add_of_le (Nat.le_of_not_lt hi)
   have e' : (gI js ρ)[k]? = some sl := by rw [List.getElem?_append_right (by rw [List.length_map]; exact Nat.le_add_right _ _)] at e; simpa using e
   unfold gI at e'
   rw [List.getElem?_map] at e'
   cases hj : js[k]? with
   | none => rw [hj] at e'; cases e'
   | some j =>
    rw [hj] at e'
    have e2 : cC8 (ρ.getD j .no) = sl := Option.some.inj e'
    refine ⟨σ.getD j none, ?_, ?_⟩
    ·rw [List.getElem?_append_right (by rw [List.length_map]; omega), List.length_map, show es.length + k - vs.length = k by omega]
     unfold jX
     rw [List.getElem?_map, hj]; rfl
    ·subst e2
     cases q : ρ[j]? with
     | none => rw [List.getD_eq_getElem?_getD, q]; trivial
     | some s0 =>
      rw [List.getD_eq_getElem?_getD, q]
      cases s0 with
      | val d =>
       obtain ⟨o', e1, v, rfl, hd⟩ := E.at_ j _ q
       refine ⟨v, ?_, hd.mono gr.fs⟩
       rw [List.getD_eq_getElem?_getD, e1]; rfl
      | _ => trivial
structure rT (X : Cx) (scope : Scope) (tg : Expr) (os caps : List Str) (sp : D -> Option (List D)) (gg : TG) (P : MT) (G : ME) (p : MT) (g : ME) : Prop where
 pg : ∀ C fp s H E, PG (jQ X (os ++ caps) scope C fp s H E) tg gg
 ok : ∀ {d es v F H as σr}, sp d = some es -> bA X.K F d v -> bG F H -> as.length = os.length -> ∃ vs, vs.length = os.length /\ DatL X.K F es vs /\ gg v (as ++ σr) H fun σ7 H7 => σ7 = vs.map some ++ σr /\ H7 = H
 hp : ∀ {d r b}, P (.val d :: r) = .ok b -> ∃ es, sp d = some es
 eq : ∀ {d es} r, sp d = some es -> P (.val d :: r) = p (es.map .val ++ r) /\ G (.val d :: r) = g (es.map .val ++ r)
theorem cD0 {pins : List (Addr × Obj)} {σ : St} {ρ : bM} {H2 F2 : Hp} {s2 : Shared} {ds ys : List D} {J : It} {it : Addr} {fp : List Addr} {tn : Nat -> Heap -> Prop} {RR : Value -> Addr -> Result -> Shared -> Prop} {Ex : Value -> Shared -> Prop}
 (S : lD X scope os caps js) (hc : X.calm = true) (I2 : bE X pins σ H2 s2) (T : nP X.prog X.w X.K tg J fp it tn) (Tg : rT X scope tg os caps sp gg P G p g) (t0 : tn 0 s2.heap) (f2 : ∀ b ∈ fp, jC X pins H2 b) (Ev : gD X.K F2 H2 ρ σ) (io : jP X.K F2 J ds)
 (hp : ∀ C fp s H E, nC (jQ X (os ++ caps) scope C fp s H E) ifs p) (hg : ∀ C fp s H E, IE (jQ X (os ++ caps) scope C fp s H E) elt g) (hys : dL P G (gI js ρ) ds = .ok ys) (hlen : ds.length <= sizeLine)
 (hend : ∀ Dd C s' H' F' vs m', H2 Dd = none -> cD F2 H2 F' H' -> F' Dd = none -> H' Dd = some (.lst vs) -> DatL X.K F' ys vs -> s'.heap.Ns C m' -> (∀ h', Heap.SameBut C s'.heap h' -> bE X pins σ H' { s' with heap := h' }) -> jC X pins H' C -> RR (.ref Dd) C (.ok .next) s') :
 wpAny (model X.prog X.w) X.A (newList []) (fun acc s₃ => wpAny (model X.prog X.w) X.A (newFunctionEnv scope X.env.globals (gQ scope.names X.env.cells []) [] X.env.qual none .none (some X.env)) (fun cenv s₄ =>
  codeAny (model X.prog X.w) X.A (.compStart (.ListComp elt [⟨tg, iter, ifs, 0⟩] scope pos) 0 (.ref it) acc { cenv with scope := relabel scope X.env }) (RR acc cenv.locals) s₄) Ex s₃) Ex s2 := by
 refine wpAny_newObj_type (wpAny_newFunctionEnv S.nocell (by intro y hy; simp at hy) (fun h₁ hns₁ hsb₁ => ?_) S.kind)
 dsimp only at hns₁ hsb₁ ⊢
 have I3 : bE X pins σ (upd H2 s2.heap.objs.size (.lst [])) { s2 with heap := s2.heap.push { cls := .type "list", data := .seq ([] : List Value).toArray }, toks := s2.toks } := I2.lnew (its := []) (t' := s2.toks) .nil (Nat.zero_le _)
 generalize hs3 : ({ s2 with heap := s2.heap.push { cls := .type "list", data := .seq ([] : List Value).toArray }, toks := s2.toks } : Shared) = s3 at I3
 have e3 : s2.heap.push { cls := .type "list", dict := none, data := .seq ([] : List Value).toArray } = s3.heap := by rw [<- hs3]
 have hsz3 : s3.heap.objs.size = s2.heap.objs.size + 1 := by rw [<- e3, Heap.size_push]
 rw [e3] at hns₁ hsb₁ ⊢
 have hfresh : H2 s2.heap.objs.size = none := I2.hok.fresh (Nat.le_refl _)
 have hltf : ∀ b ∈ fp, b < s2.heap.objs.size := fun b hb => by
  obtain ⟨o, e, _⟩ := T.obj 0 _ t0 b hb
  exact Heap.lt_size e
 have f3 : ∀ b ∈ fp, jC X pins (upd H2 s2.heap.objs.size (.lst [])) b := fun b hb => ⟨by rw [dD (Nat.ne_of_lt (hltf b hb))]; exact (f2 b hb).1, (f2 b hb).2⟩
 have hkeep1 : ∀ b o, s3.heap.get? b = some o -> h₁.get? b = some o := fun b o e => (hsb₁.2 b (Nat.ne_of_lt (Heap.lt_size e))).trans (Heap.get?_push_of_some _ e)
 have J0 := dP9 (E := notedBy (model X.prog X.w) X.A (compEnvC scope (gQ scope.names X.env.cells []) s3.heap.objs.size X.env) fun e s' => RR (.ref s2.heap.objs.size) s3.heap.objs.size (.error e) s')
  (tk := s3.toks + ([] : List (Str × Value)).length) S I3 f3 (fun b hb => by rw [hsz3]; exact Nat.lt_succ_of_lt (hltf b hb)) hns₁ hkeep1
 have t1 : tn 0 h₁ := T.keep 0 _ _ t0 fun b hb o e => hkeep1 b o (by rw [<- e3]; exact Heap.get?_push_of_some _ e)
 generalize hX' : jQ X (os ++ caps) scope s3.heap.objs.size fp s3 (upd H2 s2.heap.objs.size (.lst [])) (notedBy (model X.prog X.w) X.A (compEnvC scope (gQ scope.names X.env.cells []) s3.heap.objs.size X.env) fun e s' => RR (.ref s2.heap.objs.size) s3.heap.objs.size (.error e) s') = X' at J0
 have hfp : ∀ {H' : Hp}, (∀ b ∈ fp, H' b = none) -> ∀ b ∈ fp, jC X' pins H' b := fun {H'} hn b hb => by
  rw [<- hX']
  refine ⟨hn b hb, ?_, ?_, .inl hb, fun y c e => ?_, fun q hq => (f2 b hb).2.2.2.2.2 q hq⟩
  ·show b ≠ s3.heap.objs.size
   rw [hsz3]; exact Nat.ne_of_lt (Nat.lt_succ_of_lt (hltf b hb))
  ·show b ∉ kM X.stack
   intro z
   rcases List.mem_cons.mp (I2.stkSub b z) with z | z
   ·exact (f2 b hb).2.1 z
   ·exact (f2 b hb).2.2.1 z
  ·rcases bK5 scope.names [] e with q | ⟨q1, q2⟩
   ·cases q
   ·obtain ⟨c', hc'⟩ := I2.ok.has y (S.fr (y, .free) q1 rfl)
    rw [hc'] at q2
    have : c' = c := q2
    subst this
    exact (f2 b hb).2.2.2.2.1 y c' hc'
 have loop : ∀ s4 : Shared, s4 = { s3 with heap := h₁, toks := s3.toks + ([] : List (Str × Value)).length } ->
  codeAny (model X.prog X.w) X.A (.compLoop (.ListComp elt [⟨tg, iter, ifs, 0⟩] scope pos) 0 (.ref it) (.ref s2.heap.objs.size) (compEnvC scope (gQ scope.names X.env.cells []) s3.heap.objs.size X.env)) (RR (.ref s2.heap.objs.size) s3.heap.objs.size) s4 := by
  rintro s4 rfl
  refine dP7 (fun n s' => ∃ i σ' H' F' zs vs, n = ds.length - i /\ i <= ds.length /\ bE X' pins σ' H' s' /\ tn i s'.heap /\ (∀ b ∈ fp, H' b = none) /\ (∃ as : St, as.length = os.length /\ σ' = as ++ jX js σ) /\ cD F2 H2 F' H' /\ F' s2.heap.objs.size = none /\
   H' s2.heap.objs.size = some (.lst vs) /\ DatL X.K F' zs vs /\ zs.length <= i /\ ((dL P G (gI js ρ) (ds.drop i)).bind fun r => .ok (zs ++ r)) = .ok ys) ?_ ds.length ?_
  ·rintro n s' ⟨i, σ', H', F', zs, vs, rfl, hi, I', st, fr, ⟨as, la, rfl⟩, gr, fD, hD, dl, zl, hm⟩
   obtain ⟨io1, io2⟩ := io i F' H' gr.fs gr.sub
   by_cases hlt : i < ds.length
   ·have hd : ds[i]? = some ds[i] := List.getElem?_eq_getElem hlt
    obtain ⟨go, yl⟩ := io1 _ hd
    have hit := T.item X' (by rw [<- hX']) (by rw [<- hX']) (by rw [<- hX']) (by rw [<- hX']; exact hc) i pins s' (as ++ jX js σ) H' X'.xe I' (hfp fr) st go
    have hA : X'.A = X.A := by rw [<- hX']
    have hXe : X'.xe = notedBy (model X.prog X.w) X.A (compEnvC scope (gQ scope.names X.env.cells []) s3.heap.objs.size X.env) fun e s' => RR (.ref s2.heap.objs.size) s3.heap.objs.size (.error e) s' := by rw [<- hX']
    have hEnv : X'.env = compEnvC scope (gQ scope.names X.env.cells []) s3.heap.objs.size X.env := by rw [<- hX']
    have hP : X'.prog = X.prog := by rw [<- hX']
    have hW : X'.w = X.w := by rw [<- hX']
    have hK : X'.K = X.K := by rw [<- hX']
    rw [hA, hXe] at hit
    refine wpAny_mono hit (fun r s5 ⟨u, hr, h5⟩ => ?_) fun _ _ z => z
    subst hr
    refine wpAny_mono h5 (fun _ s6 ⟨v, H6, I6, r6, y6, st6, fr6⟩ => ?_) fun _ _ z => z
    obtain ⟨F6, g6, d6⟩ := yl v H6 y6
    have I6' := I6.pinned (hfp fr6) (T.obj _ _ st6)
    have gr6 := gr.trans g6
    have hD6 : H6 s2.heap.objs.size = some (.lst vs) := g6.same _ _ rfl hD
    have fD6 : F6 s2.heap.objs.size = none := g6.new _ fD (by rw [hD]; simp)
    rw [List.drop_eq_getElem_cons hlt, dL] at hm
    cases hb : P (.val ds[i] :: gI js ρ) with
    | ex _ => rw [hb] at hm; cases hm
    | bad => rw [hb] at hm; cases hm
    | ok b =>
    rw [hb] at hm
    obtain ⟨es, he⟩ := Tg.hp hb
    obtain ⟨eP, eG⟩ := Tg.eq (gI js ρ) he
    rw [eP] at hb
    rw [eG] at hm
    obtain ⟨vz, lz, dz, gz⟩ := Tg.ok (σr := jX js σ) he d6 g6.sub la
    have pg : PG X' tg gg := by rw [<- hX']; exact Tg.pg _ _ _ _ _
    have has := pg _ s6 _ H6 v u _ I6' r6 gz
    rw [hA, hXe, hEnv, hP, hW] at has
    refine wpAny_mono has (fun _ s7 ⟨σ7, H7, I7, e7, e7'⟩ => ?_) fun _ _ z => z
    subst e7 e7'
    have E7 : gD X'.K F6 H7 (es.map .val ++ gI js ρ) (vz.map some ++ jX js σ) := by rw [hK]; exact dQ1 dz Ev gr6
    have hpp := hp s3.heap.objs.size fp s3 (upd H2 s2.heap.objs.size (.lst [])) (notedBy (model X.prog X.w) X.A (compEnvC scope (gQ scope.names X.env.cells []) s3.heap.objs.size X.env) fun e s' => RR (.ref s2.heap.objs.size) s3.heap.objs.size (.error e) s')
    have hgg := hg s3.heap.objs.size fp s3 (upd H2 s2.heap.objs.size (.lst [])) (notedBy (model X.prog X.w) X.A (compEnvC scope (gQ scope.names X.env.cells []) s3.heap.objs.size X.env) fun e s' => RR (.ref s2.heap.objs.size) s3.heap.objs.size (.error e) s')
    rw [hX'] at hpp hgg
    ·have hte := dP8 (Q := fun b' H8 => b' = b /\ ∃ F8, cD F6 H7 F8 H8) hpp I7 ⟨_, F6, E7, by rw [hb]; exact fun b' F8 H8 g8 e8 => ⟨(show b = b' from e8).symm, F8, g8⟩⟩
     rw [hA, hXe, hEnv, hP, hW] at hte
     refine wpAny_mono hte (fun b' s8 ⟨H8, I8, e8, F8, g8⟩ => ?_) fun _ _ z => z
     subst e8
     have gr8 := gr6.trans g8
     have hD8 : H8 s2.heap.objs.size = some (.lst vs) := g8.same _ _ rfl hD6
     have fD8 : F8 s2.heap.objs.size = none := g8.new _ fD6 (by rw [hD6]; simp)
     have stay : ∀ {σ9 : St} {H9 : Hp} {s9 : Shared}, bE X' (pins ++ vQ fp s6.heap) σ9 H9 s9 -> tn (i + 1) s9.heap /\ ∀ b ∈ fp, H9 b = none := fun {σ9 H9 s9} I9 =>
      ⟨T.keep _ _ _ st6 fun b hb o e => (I9.pin (b, o) (List.mem_append_right _ (List.mem_append_right _ (yM hb e)))).1, fun b hb => by
       obtain ⟨o, e, d⟩ := T.obj _ _ st6 b hb
       exact (I9.pin (b, o) (List.mem_append_right _ (List.mem_append_right _ (yM hb e)))).2.1⟩
     cases b' with
     | false =>
      refine pN ⟨ds.length - (i + 1), by omega, i + 1, vz.map some ++ jX js σ, H8, F8, zs, vs, rfl, hlt, I8.unpinned, (stay I8).1, (stay I8).2, ⟨_, by rw [List.length_map]; exact lz, rfl⟩, gr8, fD8, hD8, (dl.mono g6.fs).mono g8.fs, by omega, ?_⟩
      exact hm
     | true =>
      refine nQ ?_
      have hm' : (((g (es.map .val ++ gI js ρ)).bind fun y => (dL P G (gI js ρ) (ds.drop (i + 1))).bind fun ys => .ok (y :: ys)).bind fun r => .ok (zs ++ r)) = .ok ys := hm
      cases hgv : g (es.map .val ++ gI js ρ) with
      | ok y =>
       rw [hgv] at hm'
       have hel := hgg _ s8 _ H8 (fun v9 H9 => ∃ F9, cD F8 H8 F9 H9 /\ bA X.K F9 y v9) I8 ⟨_, F8, E7.grow g8, by rw [hgv]; exact fun v9 F9 H9 g9 d9 => ⟨F9, g9, by rw [<- hK]; exact d9⟩⟩
       rw [hA, hXe, hEnv, hP, hW] at hel
       refine wpAny_mono hel (fun u9 s9 ⟨v9, H9, I9, r9, F9, g9, d9⟩ => ?_) fun _ _ z => z
       have gr9 := gr8.trans g9
       have hD9 : H9 s2.heap.objs.size = some (.lst vs) := g9.same _ _ rfl hD8
       have fD9 : F9 s2.heap.objs.size = none := g9.new _ fD8 (by rw [hD8]; simp)
       have hvl : vs.length = zs.length := dl.length.symm
       have hap := bY7 (X := X') _ s9 _ H9 (.ref s2.heap.objs.size) [v9] (.ref s2.heap.objs.size) [u9] (fun w H10 => H10 = upd H9 s2.heap.objs.size (.lst (vs ++ [v9]))) I9 rfl (.cons r9 .nil)
        ⟨_, vs, v9, rfl, rfl, hD9, by omega, rfl⟩
       rw [hA, hXe, hP, hW] at hap
       refine wpAny_mono hap (fun _ s10 ⟨w, H10, I10, _, e10⟩ => ?_) fun _ _ z => z
       subst e10
       refine ⟨ds.length - (i + 1), by omega, i + 1, vz.map some ++ jX js σ, _, F9, zs ++ [y], vs ++ [v9], rfl, hlt, I10.unpinned, (stay I10).1, (stay I10).2, ⟨_, by rw [List.length_map]; exact lz, rfl⟩, ?_, fD9, fY, ?_, ?_, ?_⟩
       ·exact ⟨fun b o nt q => by rw [dD (lZ q hfresh)]; exact gr9.same b o nt q, bZ7 gr9.more _ _, fun ti => ⟨(gr9.tk ti).1.updL hD9 _, (gr9.tk ti).2⟩, gr9.fs, wA gr9.sub fD9 _, gr9.new⟩
       ·exact DatL.of (mW (((dl.mono g6.fs).mono g8.fs).mono g9.fs).paired (.cons d9 .nil))
       ·rw [List.length_append]; show zs.length + 1 <= i + 1; omega
       ·revert hm'
        show (((dL P G (gI js ρ) (ds.drop (i + 1))).bind fun ys => .ok (y :: ys)).bind fun r => .ok (zs ++ r)) = .ok ys -> _
        cases dL P G (gI js ρ) (ds.drop (i + 1)) with
        | ok r =>
         intro z
         have z' : (bC.ok (zs ++ (y :: r)) : bC (List D)) = .ok ys := z
         show (bC.ok ((zs ++ [y]) ++ r) : bC (List D)) = .ok ys
         rw [<- z']; simp
        | ex _ => intro z; cases z
        | bad => intro z; cases z
      | ex _ => rw [hgv] at hm'; cases hm'
      | bad => rw [hgv] at hm'; cases hm'
   ·have e : i = ds.length := by omega
    subst e
    have hdn := T.done X' (by rw [<- hX']) (by rw [<- hX']) (by rw [<- hX']) (by rw [<- hX']; exact hc) ds.length pins s' (as ++ jX js σ) H' X'.xe I' (hfp fr) st (io2 rfl)
    have hA : X'.A = X.A := by rw [<- hX']
    have hXe : X'.xe = notedBy (model X.prog X.w) X.A (compEnvC scope (gQ scope.names X.env.cells []) s3.heap.objs.size X.env) fun e s' => RR (.ref s2.heap.objs.size) s3.heap.objs.size (.error e) s' := by rw [<- hX']
    rw [hA, hXe] at hdn
    refine wpAny_mono hdn (fun r s5 ⟨hr, I5⟩ => ?_) fun _ _ z => z
    subst hr
    rw [List.drop_eq_nil_of_le (Nat.le_refl _)] at hm
    have hzs : zs = ys := by
     have hm' : (bC.ok (zs ++ []) : bC (List D)) = .ok ys := hm
     rw [List.append_nil] at hm'
     cases hm'; rfl
    subst hzs
    have I5' := I5
    rw [<- hX'] at I5'
    obtain ⟨m', hn', _⟩ := I5'.loc
    refine hend s2.heap.objs.size s3.heap.objs.size s5 H' F' vs m' hfresh gr fD hD dl hn' (fun h' hs' => dQ0 I3 I5' (Nat.le_refl _) hs' f3) ?_
    exact I3.fpOk (Nat.le_refl _) I5'.free
  ·refine ⟨0, os.map (fun _ => none) ++ jX js σ, _, F2, [], [], by omega, Nat.zero_le _, J0, t1, fun b hb => (f3 b hb).1, ⟨_, by rw [List.length_map], rfl⟩, cD.laidN Ev.sub hfresh _, bG.free Ev.sub hfresh, fY, DatL.nil, Nat.le_refl _, ?_⟩
   rw [List.drop_zero, hys]; rfl
 subst hs3
 exact codeAny_compStart_list (loop _ rfl) (T.self _ 0 _ _ _ t1 (loop _ rfl))
end
end R
end
section
namespace R
open PySem PySem.Spec PyProof.Rows L2
variable [bP] [Pd]
section
variable {X : Cx} {tg : Expr} {os caps : List Str} {js : List Nat} {scope : Scope} {px pos spos py : Pos} {elt iter : Expr} {ifs : List Expr} {p P : MT} {g G : ME} {fl : ML} {sp : D -> Option (List D)} {gg : TG}
def dU (js : List Nat) (fl : ML) (p : MT) (g : ME) : ME := fun ρ => (fl ρ).bind fun ds => if ds.length <= sizeLine then (dL p g (gI js ρ) ds).bind fun ys => .ok (.lst ys) else .bad
theorem cD1 (S : lD X scope os caps js) {pins : List (Addr × Obj)} {σ : St} {H : Hp} {s : Shared} (I : bE X pins σ H s) : closureFor scope X.env = pure (gQ scope.names X.env.cells []) :=
 dP6 fun y hy hf => I.ok.has y.1 (S.fr y hy hf)
theorem bK8 (S : lD X scope os caps js) (Tg : rT X scope tg os caps sp gg P G p g) (hc : X.calm = true) (hi : II X tg iter fl) (hp : ∀ C fp s H E, nC (jQ X (os ++ caps) scope C fp s H E) ifs p) (hg : ∀ C fp s H E, IE (jQ X (os ++ caps) scope C fp s H E) elt g)
 (hs : ∀ x, foldedSetIterable iter X.env x = pure x) : IE X (.ListComp elt [⟨tg, iter, ifs, 0⟩] scope pos) (dU js fl P G) := by
 intro pins s σ H Q I ⟨ρ, F, Ev, q⟩
 rw [eval_ListComp]
 refine wpAny_comprehension_free (use := none) rfl hs (cD1 S I) S.kind S.names ?_
 unfold dU at q
 cases hf : fl ρ with
 | ok ds =>
  rw [hf] at q
  have q' : dA (bA X.K) F H (if ds.length <= sizeLine then (dL P G (gI js ρ) ds).bind fun ys => .ok (.lst ys) else .bad) Q := q
  split at q'
  ·rename_i hlen
   cases hcm : dL P G (gI js ρ) ds with
   | ok ys =>
    rw [hcm] at q'
    have q2 : dA (bA X.K) F H (.ok (.lst ys)) Q := q'
    have hiter := hi pins s σ H (fun J H2 => ∃ F2, cD F H F2 H2 /\ jP X.K F2 J ds) I ⟨ρ, F, Ev, by rw [hf]; exact fun J F' H' g' io => ⟨F', g', io⟩⟩
    refine wpAny_mono hiter (fun v s1 h1 => wpAny_mono h1 (fun itv s2 h2 => ?_) fun _ _ e => e) fun _ _ e => e
    obtain ⟨it, fp, tn, J, H2, rfl, I2, T, t0, f2, F2, g2, io⟩ := h2
    refine cD0 (RR := fun acc C => compPost (model X.prog X.w) X.A X.xe none (EP X pins σ Q) acc C) S hc I2 T Tg t0 f2 (Ev.grow g2) io hp hg hcm hlen ?_
    intro Dd C s' H' F' vs m' hD2 gr fD hD dl hn hback hfp
    refine ⟨m', hn, fun h' hs' => ⟨.ref Dd, H', hback h' hs', rfl, ?_⟩⟩
    have hH : H Dd = none := g2.free hD2
    have grA := g2.trans gr
    refine q2 (.ref Dd) (upd F' Dd (.lst vs)) H' ⟨grA.same, grA.more, fun ti => ⟨(grA.tk ti).1, (grA.tk ti).2.upd _ rfl⟩, grA.fs.trans (jK fD _), fun b o e => ?_, fun b hb hn' => ?_⟩ ?_
    ·by_cases z : b = Dd
     ·subst z; rw [fY] at e; cases e; exact hD
     ·rw [dD z] at e; exact grA.sub b o e
    ·have z : b ≠ Dd := fun z => hn' (z ▸ hH)
     rw [dD z]; exact grA.new b hb hn'
    ·simp only [bA]
     exact ⟨Dd, vs, rfl, dF.of fY, dl.mono (jK fD _)⟩
   | ex _ => rw [hcm] at q'; exact q'.elim
   | bad => rw [hcm] at q'; exact q'.elim
  ·exact q'.elim
 | ex _ => rw [hf] at q; exact q.elim
 | bad => rw [hf] at q; exact q.elim
theorem dQ2 {i : Nat} {y : Str} {pins : List (Addr × Obj)} {σ : St} {H : Hp} {s : Shared} {v : V} {u : Value} {C : Addr} {m : Str -> Option Value} {Q : Shared -> Prop} (I : bE X pins σ H s) (hN : X.N.Nodup) (hi : X.N[i]? = some y) (hx : Loc X.env.scope y) (r : cJ v u) (hn : s.heap.Ns C m) (hC : jC X pins H C)
 (h : ∀ s'', bE X pins (σ.set i (some v)) H s'' -> Q s'') (hf : X.fn y = true \/ X.env.scope.names.lookup y = some .local := by first | exact .inl rfl | exact .inr rfl | assumption) :
 wpAny (model X.prog X.w) X.A (assign (.Name y py) X.env u) (fun _ s'' => ∃ m, s''.heap.Ns C m /\ ∀ h', Heap.SameBut C s''.heap h' -> Q { s'' with heap := h' }) X.xe s := by
 refine wpAny_assign_Name (bV4 I hN hi hx r (fun s' I' hch => ?_) hf)
 obtain ⟨f0, f1, f2, f3, f4, f5⟩ := hC
 have hC2 : ∀ c, (c = X.env.locals \/ X.env.cells.lookup y = some c) -> C ≠ c := fun c hc z => by
  rcases hc with hc | hc
  ·exact f1 (z.trans hc)
  ·exact f4 y c hc z.symm
 obtain ⟨c, hsb, hcc⟩ := hch
 refine ⟨m, hn.sameBut hsb (hC2 c (by rcases hcc with z | z <;> first | exact .inl z | exact .inr z)), fun h' hs' => h _ ?_⟩
 exact I'.turned (t' := s'.toks) (fun b o hb e => (hs'.2 b hb).trans e) f0 f1 f3 f4 f5
def gX (i : Nat) (js : List Nat) (fl : ML) (p : MT) (g : ME) : MS := bZ i (dU js fl p g)
theorem cD2 {y : Str} {i : Nat} (S : lD X scope os caps js) (Tg : rT X scope tg os caps sp gg P G p g) (hc : X.calm = true) (hi : II X tg iter fl) (hp : ∀ C fp s H E, nC (jQ X (os ++ caps) scope C fp s H E) ifs p) (hg : ∀ C fp s H E, IE (jQ X (os ++ caps) scope C fp s H E) elt g)
 (hN : X.N.Nodup) (hy : X.N[i]? = some y) (hl : Loc X.env.scope y) (hsw : swapsWith (.ListComp elt [⟨tg, iter, ifs, 0⟩] scope pos) (some (.Name y py)) spos.line X.env = pure true)
 (hs : ∀ x, foldedSetIterable iter X.env x = pure x) (hf : X.fn y = true \/ X.env.scope.names.lookup y = some .local) :
 IS X (.Assign [.Name y py] (.ListComp elt [⟨tg, iter, ifs, 0⟩] scope pos) spos) (gX i js fl P G) := by
 intro F₀ H₀ pins s σ H E I ⟨ρ, F, SS, q⟩
 rw [exec_Assign_Name_used _ _ _ _ hsw]
 refine wpAny_bind (wpAny_standAt (wpAny_bind ?_))
 show wpAny _ X.A (do let _ <- comprehension (.ListComp elt [⟨tg, iter, ifs, 0⟩] scope pos) scope X.env _ (newList []) false (eval iter X.env) (some (assign (.Name y py) X.env))) _ _ s
 refine wpAny_bind (wpAny_mono (wpAny_comprehension_free (use := some (assign (.Name y py) X.env)) (Q := fun _ s' => SP X pins E .next s') rfl hs (cD1 S I) S.kind S.names ?_) (fun _ s' hq => wpAny_pure (wpAny_pure hq)) fun _ _ e => e)
 unfold gX bZ dU at q
 cases hf' : fl ρ with
 | ok ds =>
  rw [hf'] at q
  have q' : fS X F₀ H₀ ((if ds.length <= sizeLine then (dL P G (gI js ρ) ds).bind fun ys => .ok (.lst ys) else .bad).bind fun d => .ok (.nx (ρ.set i (.val d)))) E := q
  split at q'
  ·rename_i hlen
   cases hcm : dL P G (gI js ρ) ds with
   | ok ys =>
    rw [hcm] at q'
    have q2 : ∀ σ F H, SR X.K F₀ H₀ F H (ρ.set i (.val (.lst ys))) σ -> E.nx σ H := q'
    have hiter := hi pins s σ H (fun J H2 => ∃ F2, cD F H F2 H2 /\ jP X.K F2 J ds) I ⟨ρ, F, SS.env, by rw [hf']; exact fun J F' H' g' io => ⟨F', g', io⟩⟩
    refine wpAny_mono hiter (fun v s1 h1 => wpAny_mono h1 (fun itv s2 h2 => ?_) fun _ _ e => e) fun _ _ e => e
    obtain ⟨it, fp, tn, J, H2, rfl, I2, T, t0, f2, F2, g2, io⟩ := h2
    refine cD0 (RR := fun acc C => compPost (model X.prog X.w) X.A X.xe (some (assign (.Name y py) X.env)) (fun _ s' => SP X pins E .next s') acc C) S hc I2 T Tg t0 f2 (SS.env.grow g2) io hp hg hcm hlen ?_
    intro Dd C s' H' F' vs m' hD2 gr fD hD dl hn hback hfp
    have Ib : bE X pins σ H' s' := hback s'.heap (Heap.SameBut.refl _ _)
    refine dQ2 (i := i) (v := .ref Dd) Ib hN hy hl rfl hn hfp (fun s'' I'' => ⟨_, H', I'', ?_⟩) hf
    have hH : H Dd = none := g2.free hD2
    have grA := g2.trans gr
    have grB : cD F H (upd F' Dd (.lst vs)) H' := by
     refine ⟨grA.same, grA.more, fun ti => ⟨(grA.tk ti).1, (grA.tk ti).2.upd _ rfl⟩, grA.fs.trans (jK fD _), fun b o e => ?_, fun b hb hn' => ?_⟩
     ·by_cases z : b = Dd
      ·subst z; rw [fY] at e; cases e; exact hD
      ·rw [dD z] at e; exact grA.sub b o e
     ·have z : b ≠ Dd := fun z => hn' (z ▸ hH)
      rw [dD z]; exact grA.new b hb hn'
    exact q2 _ _ _ ((SS.grow grB).set i (by simp only [bA]; exact ⟨Dd, vs, rfl, dF.of fY, dl.mono (jK fD _)⟩))
   | ex _ => rw [hcm] at q'; exact q'.elim
   | bad => rw [hcm] at q'; exact q'.elim
  ·exact q'.elim
 | ex _ => rw [hf'] at q; exact q.elim
 | bad => rw [hf'] at q; exact q.elim
variable {x : Str}
theorem bK9 (S : lD X scope [x] caps js) : rT X scope (.Name x px) [x] caps (fun d => some [d]) (kD 0) p g p g where
 pg := fun _ _ _ _ _ => jB (i := 0) S.nd rfl (.inl (lookup_relabel_local (S.loc x List.mem_cons_self))) (.inr (lookup_relabel_local (S.loc x List.mem_cons_self)))
 ok := fun {d es v F H as σr} e dv _ la => by
  cases e
  match as, la with
  | [o], _ => exact ⟨[v], rfl, DatL.cons dv DatL.nil, rfl, rfl⟩
 hp := fun _ => ⟨_, rfl⟩
 eq := fun r e => by cases e; exact ⟨rfl, rfl⟩
theorem cD3 (S : lD X scope [x] caps js) (hc : X.calm = true) (hi : II X (.Name x px) iter fl) (hp : ∀ C fp s H E, nC (jQ X (x :: caps) scope C fp s H E) ifs p) (hg : ∀ C fp s H E, IE (jQ X (x :: caps) scope C fp s H E) elt g)
 (hs : ∀ x, foldedSetIterable iter X.env x = pure x := by intro _; rfl) : IE X (.ListComp elt [⟨.Name x px, iter, ifs, 0⟩] scope pos) (dU js fl p g) := bK8 S (bK9 S) hc hi hp hg hs
theorem cD4 {y : Str} {i : Nat} (S : lD X scope [x] caps js) (hc : X.calm = true) (hi : II X (.Name x px) iter fl) (hp : ∀ C fp s H E, nC (jQ X (x :: caps) scope C fp s H E) ifs p) (hg : ∀ C fp s H E, IE (jQ X (x :: caps) scope C fp s H E) elt g)
 (hN : X.N.Nodup) (hy : X.N[i]? = some y) (hl : Loc X.env.scope y) (hsw : swapsWith (.ListComp elt [⟨.Name x px, iter, ifs, 0⟩] scope pos) (some (.Name y py)) spos.line X.env = pure true := by rfl)
 (hs : ∀ x, foldedSetIterable iter X.env x = pure x := by intro _; rfl) (hf : X.fn y = true \/ X.env.scope.names.lookup y = some .local := by first | exact .inl rfl | exact .inr rfl | assumption) :
 IS X (.Assign [.Name y py] (.ListComp elt [⟨.Name x px, iter, ifs, 0⟩] scope pos) spos) (gX i js fl p g) := cD2 S (bK9 S) hc hi hp hg hN hy hl hsw hs hf
end
end R
end
section
namespace R
open PySem PySem.Spec PyProof.Rows L2
variable [bP] [Pd]
def fZ {α : Type} (xs : List α) (lo hi : Option Int) : List α := (xs.drop (HT.sIx xs.length 0 lo)).take (HT.sIx xs.length xs.length hi - HT.sIx xs.length 0 lo)
def qG (z : Str) (lo hi : Option Int) : Str := ⟨(fZ z.cps.toList lo hi).toArray⟩
theorem cD5 {α : Type} (xs : List α) (lo hi : Option Int) : (fZ xs lo hi).length <= xs.length := by
 unfold fZ
 rw [List.length_take, List.length_drop]; omega
theorem cD6 (z : Str) (lo hi : Option Int) : (qG z lo hi).length <= z.length := by
 show (fZ z.cps.toList lo hi).toArray.size <= z.cps.size
 rw [List.size_toArray]
 exact Nat.le_trans (cD5 _ _ _) (by simp)
theorem cD7 (n : Nat) (lo hi : Option Int) : Builtin.Str.strSliceIndices lo hi 1 n = (List.range (HT.sIx n n hi - HT.sIx n 0 lo)).map (HT.sIx n 0 lo + ·) := by
 have h0 : ∀ (o : Option Int) (d : Nat), d <= n -> (match o with
  | none => (d : Int)
  | some i => max 0 (min (if i < 0 then i + (n : Int) else i) (n : Int))) = ((HT.sIx n d o : Nat) : Int) := by
  intro o d hd
  cases o with
  | none => rfl
  | some i =>
   show max 0 (min (if i < 0 then i + (n : Int) else i) (n : Int)) = ((if i < 0 then (i + (n : Int)).toNat else min i.toNat n : Nat) : Int)
   by_cases hi : i < 0
   ·rw [if_pos hi, if_pos hi]; omega
   ·rw [if_neg hi, if_neg hi]; omega
 rw [<- sliceRange_one]
 unfold Builtin.Str.strSliceIndices
 simp only [show (1 : Int) > 0 by decide, if_true]
 have e1 := h0 lo 0 (Nat.zero_le _)
 have e2 := h0 hi n (Nat.le_refl _)
 rw [<- e1, <- e2]
 cases lo <;> cases hi <;> rfl
theorem dQ3 (z : Str) (lo hi : Option Int) : (⟨((Builtin.Str.strSliceIndices lo hi 1 z.length).filterMap (z.cps[·]?)).toArray⟩ : Str) = qG z lo hi := by
 rw [cD7, pick_run]
 unfold qG fZ
 have : z.cps.toList.length = z.length := by simp [Str.length]
 rw [this]
theorem dQ4 {z : Str} {lo hi : Option Int} (h : ((Builtin.Str.strSliceIndices lo hi 1 z.length).length == z.length) = true) : qG z lo hi = z := by
 have h' : (Builtin.Str.strSliceIndices lo hi 1 z.length).length = z.length := eq_of_beq h
 rw [cD7, List.length_map, List.length_range] at h'
 have hb : HT.sIx z.length z.length hi <= z.length := HT.sIx_le _ _ (Nat.le_refl _) hi
 unfold qG fZ
 have e : z.cps.toList.length = z.length := by simp [Str.length]
 rw [e]
 by_cases hz : z.length = 0
 ·have : z.cps.toList = [] := List.length_eq_zero_iff.mp (by rw [e]; exact hz)
  rw [this]
  cases z with
  | mk c =>
   have : c = #[] := by
    apply Array.toList_inj.mp; simpa using this
   subst this; simp
 ·have h0 : HT.sIx z.length 0 lo = 0 := by omega
  rw [h0, List.drop_zero, List.take_of_length_le (by rw [e]; omega)]
theorem dQ5 {z : Str} {t : Tok} {l u : Option (Int × Tok)} {Q : Value -> Shared -> Prop} {s : Shared} (hz : z.length <= sizeLine) (h : ∀ t' k, Q (.str (qG z (l.map (·.1)) (u.map (·.1))) t') { s with toks := k }) : (sliceMade z t l u none).post Q s := by
 unfold sliceMade slicePicked
 simp only [Option.map_none, Option.getD_none]
 by_cases hc : ((1 : Int) == 1 && (Builtin.Str.strSliceIndices (l.map (·.1)) (u.map (·.1)) 1 z.length).length == z.length) = true
 ·rw [if_pos hc]
  rw [Bool.and_eq_true] at hc
  have e := dQ4 hc.2
  have := h t s.toks
  rw [e] at this
  exact this
 ·rw [if_neg hc, dQ3]
  refine ⟨?_, h _ _⟩
  exact Nat.le_trans (cD6 z _ _) hz
section
variable {X : Cx} {a b c e : Expr} {es : List Expr} {f g h : ME} {pos p2 : Pos} {m m' : D -> D -> bC D}
def qH : D -> Option Int -> Option Int -> bC D
 | .str z, lo, hi => .ok (.str (qG z lo hi))
 | .tup ds, lo, hi => .ok (.tup (fZ ds lo hi))
 | .lst ds, lo, hi => .ok (.lst (fZ ds lo hi))
 | _, _, _ => .bad
def rSD (X : Cx) : V -> Option Int -> Option Int -> Hp -> VK -> Prop := fun x lo hi H Q => ∃ F d, bG F H /\ bA X.K F d x /\ dA (bA X.K) F H (qH d lo hi) Q
theorem cD8 {v : Value} {o : Option Int} (h : IsPart v o) : ∃ q : Option (Int × Tok), v = partValue q /\ q.map (·.1) = o := by
 cases h with
 | none => exact ⟨none, rfl, rfl⟩
 | int i t => exact ⟨some (i, t), rfl, rfl⟩
theorem dQ7 : yR X (rSD X) := by
 intro pins s σ H x v vl vu lo hi sl Q I rx hs pl pu h
 obtain ⟨F, d, sb, hd, q⟩ := h
 cases d with
 | str z =>
  simp only [bA] at hd; obtain ⟨rfl, hz⟩ := hd
  obtain ⟨t, rfl⟩ := rx
  obtain ⟨ql, rfl, el⟩ := cD8 pl
  obtain ⟨qu, rfl, eu⟩ := cD8 pu
  refine ⟨"str", _, PySem.F.slot_str_getitem.lookup, typeIs_str _ _ _, ?_⟩
  refine wpAny_getItem_str_slice (l := ql) (u := qu) (st := none) hs rfl (dQ5 hz fun t' k => ?_)
  rw [el, eu]
  exact ⟨.str _, H, I.tok _, ⟨_, rfl⟩, cF q sb (by simp only [bA]; exact ⟨trivial, Nat.le_trans (cD6 _ _ _) hz⟩)⟩
 | tup ds =>
  simp only [bA] at hd; obtain ⟨p, xs, rfl, g1, l1⟩ := hd
  have hl := l1.length
  by_cases hw : HT.sIx ds.length 0 lo = 0 /\ HT.sIx ds.length ds.length hi = ds.length
  ·have e : fZ ds lo hi = ds := by
    unfold fZ
    rw [hw.1, hw.2]; simp
   simp only [qH, e] at q
   cases rx
   obtain ⟨its, r, ht, hz⟩ := I.tuple (bG.seqT sb g1)
   have hlen : its.toArray.size = ds.length := by rw [List.size_toArray, <- r.length, <- hl]
   refine ⟨"tuple", _, PyProof.Rows.slot_tuple_getitem.lookup, ht.typeIs, ?_⟩
   exact dM2 ht hs pl pu (by rw [hlen]; exact hw) ⟨.ref p, H, I, rfl, cF q sb (by simp only [bA]; exact ⟨p, xs, rfl, g1, l1⟩)⟩
  ·simp only [qH] at q
   refine dF0 pins s σ H _ v vl vu lo hi sl Q I rx hs pl pu ⟨p, xs, rfl, bG.seqT sb g1, by rw [<- hl]; exact hw, fun p' hp' => ?_⟩
   refine rJ q sb ?_ hp'
   unfold fZ pM
   rw [hl]
   exact DatL.of (bI8 _ (bI9 _ l1.paired))
 | lst ds =>
  simp only [bA] at hd; obtain ⟨p, xs, rfl, g1, l1⟩ := hd
  have hl := l1.length
  refine dG3 pins s σ H _ v vl vu lo hi sl Q I rx hs pl pu ⟨p, xs, rfl, bG.seq sb g1, fun p' hp' => ?_⟩
  refine qE q sb ?_ hp'
  unfold fZ pM
  rw [hl]
  exact DatL.of (bI8 _ (bI9 _ l1.paired))
 | _ => exact q.elim
abbrev MO := bM -> bC (Option Int)
def tDO (X : Cx) (f : MO) : TO := fun σ H Q => ∃ ρ F, gD X.K F H ρ σ /\ dA R.RelO F H (f ρ) Q
def wP (X : Cx) (e : Option Expr) (f : MO) : Prop := PO X e (tDO X f)
def hG : MO := fun _ => .ok none
def zS : D -> bC (Option Int)
 | .int i => .ok (some i)
 | _ => .bad
def hJ (f : ME) : MO := fun ρ => (f ρ).bind zS
theorem cD9 {o : Option Expr} {t t' : TO} (h : PO X o t) (i : ∀ σ H Q, t' σ H Q -> t σ H Q) : PO X o t' := fun pins s σ H Q I hq => h pins s σ H Q I (i σ H Q hq)
theorem dQ9 : wP X none hG := cD9 dE5 fun σ H Q ⟨ρ, F, E, q⟩ => cF q E.sub rfl
theorem dR0 (he : IE X e f) : wP X (some e) (hJ f) := cD9 (dE6 he) fun σ H Q ⟨ρ, F, E, q⟩ => ⟨ρ, F, E, by
 have q1 := fA (R1 := bA X.K) q
 revert q1
 cases f ρ with
 | ok d =>
  intro q1 v F1 H1 g1 d1
  obtain ⟨F2, d', g2, d2, q2⟩ := q1 v F1 H1 g1 d1
  cases d' with
  | int i => simp only [bA] at d2; exact ⟨i, d2, cF q2 g2.sub rfl⟩
  | _ => exact q2.elim
 | ex _ => exact fun q1 => q1
 | bad => exact fun q1 => q1⟩
def hR (f : ME) (l u : MO) : ME := fun ρ => (f ρ).bind fun d => (l ρ).bind fun lo => (u ρ).bind fun hi => qH d lo hi
theorem dR1 {lo hi : Option Expr} {l u : MO} (he : IE X e f) (hl : wP X lo l) (hu : wP X hi u) : IE X (.Subscript e (.Slice lo hi none p2) pos) (hR f l u) := fL (dE8 dQ7 he hl hu) fun σ H Q ⟨ρ, F, E, q⟩ => ⟨ρ, F, E, by
 have q1 := fA (R1 := bA X.K) q
 revert q1
 cases f ρ with
 | ok d =>
  intro q1 v F1 H1 g1 d1
  obtain ⟨F2, d', g2, d2, q2⟩ := q1 v F1 H1 g1 d1
  refine ⟨ρ, F2, E.grow g2, ?_⟩
  have q3 := fA (R1 := R.RelO) q2
  revert q3
  cases l ρ with
  | ok y =>
   intro q3 v' F3 H3 g3 d3
   obtain ⟨F4, y', g4, d4, q4⟩ := q3 v' F3 H3 g3 d3
   cases (show y' = v' from d4)
   refine ⟨ρ, F4, (E.grow g2).grow g4, ?_⟩
   have q5 := fA (R1 := R.RelO) q4
   revert q5
   cases u ρ with
   | ok z =>
    intro q5 vz F5 H5 g5 d5
    obtain ⟨F6, z', g6, d6, q6⟩ := q5 vz F5 H5 g5 d5
    cases (show z' = vz from d6)
    exact ⟨F6, d', g6.sub, (d2.mono g4.fs).mono g6.fs, q6⟩
   | ex _ => exact fun q => q
   | bad => exact fun q => q
  | ex _ => exact fun q => q
  | bad => exact fun q => q
 | ex _ => exact fun q => q
 | bad => exact fun q => q⟩
def zT (T : String) : D -> Bool
 | .bl _ => T == "int" || T == "bool"
 | .int _ => T == "int"
 | .str _ => T == "str"
 | .tup _ => T == "tuple"
 | .lst _ => T == "list"
 | .non => false
def rX (T : String) (d : D) : bC D := .ok (.bl (zT T d))
def kS (K : W.Frag) (T : String) : Prop := W.kitOne K (.type "NoneType") (.type T) = some false /\ W.kitOne K (.type "bool") (.type T) = some (T == "int" || T == "bool") /\ W.kitOne K (.type "int") (.type T) = some (T == "int") /\
 W.kitOne K (.type "str") (.type T) = some (T == "str") /\ W.kitOne K (.type "tuple") (.type T) = some (T == "tuple") /\ W.kitOne K (.type "list") (.type T) = some (T == "list")
theorem dR2 (K : W.Frag) : kS K "int" := by unfold kS W.kitOne W.kitCls W.subIn; dsimp only; decide +kernel
theorem dR3 (K : W.Frag) : kS K "bool" := by unfold kS W.kitOne W.kitCls W.subIn; dsimp only; decide +kernel
theorem dR4 (K : W.Frag) : kS K "str" := by unfold kS W.kitOne W.kitCls W.subIn; dsimp only; decide +kernel
theorem dR5 (K : W.Frag) : kS K "tuple" := by unfold kS W.kitOne W.kitCls W.subIn; dsimp only; decide +kernel
theorem dR6 (K : W.Frag) : kS K "list" := by unfold kS W.kitOne W.kitCls W.subIn; dsimp only; decide +kernel
theorem dR7 {T : String} (hk : kS X.K T) : fG X (.builtin "isinstance") (fun xs H Q => ∃ F d v, xs = [v, .ty T] /\ bG F H /\ bA X.K F d v /\ dA (bA X.K) F H (rX T d) Q) := by
 intro pins s σ H xs us Q I r h
 obtain ⟨F, d, v, rfl, sb, hd, q⟩ := h
 obtain ⟨k1, k2, k3, k4, k5, k6⟩ := hk
 obtain ⟨u, w', rfl, r1, r2⟩ := bH7 r
 cases (show w' = Value.type T from r2)
 have fin : ∀ b, b = zT T d -> ∀ tk, EP X pins σ Q (.bool b) { s with toks := tk } := fun b e tk => ⟨.bl b, H, I.tok tk, rfl, by subst e; exact cF q sb (by simp only [bA])⟩
 cases d with
 | non => simp only [bA] at hd; subst hd; cases r1; exact W.kia_one W.kitx_none I.kIn True.intro k1 (fun z => nomatch z) (fin _ rfl)
 | bl b => simp only [bA] at hd; subst hd; cases r1; exact W.kia_one W.kitx_bool I.kIn True.intro k2 (fun z => nomatch z) (fin _ rfl)
 | int i => simp only [bA] at hd; subst hd; obtain ⟨t, rfl⟩ := r1; exact W.kia_one W.kitx_int I.kIn True.intro k3 (fun z => nomatch z) (fin _ rfl)
 | str z => simp only [bA] at hd; obtain ⟨rfl, _⟩ := hd; obtain ⟨t, rfl⟩ := r1; exact W.kia_one W.kitx_str I.kIn True.intro k4 (fun z => nomatch z) (fin _ rfl)
 | tup ds =>
  simp only [bA] at hd; obtain ⟨p, xs, rfl, g1, l1⟩ := hd; cases r1
  obtain ⟨its, _, ⟨o, e1, e2, _⟩, _⟩ := I.tuple (bG.seqT sb g1)
  exact W.kia_one W.kitx_tuple I.kIn ⟨o, e1, e2⟩ k5 (fun z => nomatch z) (fin _ rfl)
 | lst ds =>
  simp only [bA] at hd; obtain ⟨p, xs, rfl, g1, l1⟩ := hd; cases r1
  obtain ⟨its, _, ⟨o, n, e1, e2, _⟩, _⟩ := I.list (bG.seq sb g1)
  exact W.kia_one W.kitx_list I.kIn ⟨o, e1, e2⟩ k6 (fun z => nomatch z) (fin _ rfl)
theorem dR8 {T : String} {tn : Str} {p p1 : Pos} (hk : kS X.K T) (ha : IE X a f) (hg : Gl X "isinstance") (hm : X.mg "isinstance" = none) (hg2 : Gl X tn) (hm2 : X.mg tn = none) (hv : bootBuiltins tn = some (.type T)) (hn : tn ≠ "__name__" := by decide) (hdb : (tn == ("__debug__" : Str)) = false := by decide)
 (he : starEach (a :: [.Name tn p1]) X.env = (false, eval a X.env) :: starEach [.Name tn p1] X.env := by rfl) : IE X (.Call (.Name "isinstance" p) [a, .Name tn p1] [] pos) (m1 (rX T) f) := by
 refine fL (bI0 (dR7 hk) hg hm PyProof.Rows.boot_isinstance (kO ha (kO (cV0 (v := .ty T) hg2 hm2 hv rfl hn hdb) mD) he) (he := he)) fun σ H Q ⟨ρ, F, E, q⟩ => ⟨ρ, F, E, ?_⟩
 have q1 := fA (R1 := bA X.K) q
 revert q1
 cases f ρ with
 | ok d => exact fun q1 v F1 H1 g1 d1 => let ⟨F2, d', g2, d2, q2⟩ := q1 v F1 H1 g1 d1; ⟨F2, d', v, rfl, g2.sub, d2, q2⟩
 | ex _ => exact fun q1 => q1
 | bad => exact fun q1 => q1
structure lE (K : W.Frag) (mg : Str -> Option Value) (x : Str) (d : D) : Prop where
 ex : ∃ (v : V) (u : Value), mg x = some u /\ cJ v u /\ ∀ F, bA K F d v
theorem dR9 {x : Str} {d : D} (hg : Gl X x) (C : lE X.K X.mg x d) (hd : (x == ("__debug__" : Str)) = false := by decide) : IE X (.Name x pos) (kc d) := by
 obtain ⟨v, u, h1, h2, h3⟩ := C.ex
 exact wE (t := tC v) (yI hg h1 h2 hd) h3
end
end R
end
section
namespace R
open PySem PySem.Spec PyProof.Rows L2
variable [bP] [Pd]
def rY : List D -> bC (List Bool)
 | [] => .ok []
 | .bl b :: r => (rY r).bind fun bs => .ok (b :: bs)
 | _ :: _ => .bad
theorem cE0 : ∀ {ds : List D} {bs : List Bool}, rY ds = .ok bs -> ds = bs.map .bl
 | [], bs, h => by cases h; rfl
 | d :: r, bs, h => by
  cases d with
  | bl b =>
   simp only [rY] at h
   cases q : rY r with
   | ok cs => rw [q] at h; cases h; rw [cE0 q]; rfl
   | ex _ => rw [q] at h; cases h
   | bad => rw [q] at h; cases h
  | _ => cases h
def bL0 : List D -> bC D
 | [.lst ds] => (rY ds).bind fun bs => .ok (.bl (bs.all id))
 | _ => .bad
theorem dS0 (bs : List Bool) : (List.range bs.length).all (fun i => bs.getD i true) = bs.all id := by
 induction bs with
 | nil => rfl
 | cons b r ih =>
  rw [List.length_cons, List.range_succ_eq_map, List.all_cons, List.all_map, List.all_cons, <- ih]
  rfl
section
variable {X : Cx} {a b c e o : Expr} {es : List Expr} {f g h : ME} {pos p2 apos : Pos} {m m' : D -> D -> bC D}
theorem dS1 (hc : X.calm = true) : fG X (.builtin "all") (lQ X bL0) := by
 intro pins s σ H xs us Q I r h
 obtain ⟨F, ds, sb, hl, q⟩ := h
 unfold bL0 at q
 split at q
 ·rename_i es
  obtain ⟨x, rfl, hx⟩ := jE hl
  simp only [bA] at hx; obtain ⟨p, ys, rfl, g1, l1⟩ := hx
  obtain ⟨u, rfl, ru⟩ := kN r
  cases ru
  cases hb : rY es with
  | ok bs =>
   rw [hb] at q
   have e := cE0 hb
   subst e
   obtain ⟨its, rv, pl, hz⟩ := I.list (bG.seq sb g1)
   have hh : X.A.in1.handled = none := I.ok.hd hc
   have hne : p ≠ s.heap.objs.size := by
    obtain ⟨ob, n, e, _⟩ := pl
    exact Nat.ne_of_lt (Heap.lt_size e)
   refine call_all_walk (wpAny_pyIter_list pl.isList ?_)
   have hil : (s.heap.push { cls := .type "list_iterator", data := .fields #[.ref p, .int 0 0] }).IsList p its.toArray := by
    obtain ⟨ob, e, c, d⟩ := pl.isList
    exact ⟨ob, Heap.get?_push_of_some _ e, c, d⟩
   refine ⟨s.heap.objs.size, _, _, _, _, _, fun i => bs.getD i true, rfl, Walks.list hh s.heap.objs.size p hne its.toArray, ⟨⟨_, Heap.get?_push_size _ rfl, rfl, rfl⟩, hil⟩, ?_, fun h' tk hk => ?_⟩
   ·intro i v s' Q' E' hi hq
    have hi' : its[i]? = some v := by simpa using hi
    obtain ⟨x', hx', rx'⟩ := vZ rv hi'
    obtain ⟨d, hd, dx⟩ := vZ l1.paired hx'
    rw [List.getElem?_map] at hd
    cases hbi : bs[i]? with
    | none => rw [hbi] at hd; cases hd
    | some b =>
     rw [hbi] at hd
     cases hd
     simp only [bA] at dx; subst dx
     cases rx'
     refine wpAny_truthy_bool ?_
     have e0 : bs.getD i true = b := by rw [List.getD_eq_getElem?_getD, hbi]; rfl
     have hq' : Q' (bs.getD i true) s' := hq
     rw [e0] at hq'
     exact hq'
   ·have hn : its.toArray.size = bs.length := by
     rw [List.size_toArray, <- rv.length, <- l1.length, List.length_map]
    rw [hn, dS0]
    have I1 : bE X pins σ H { s with heap := h', toks := tk } := I.kept fun b ob e => hk b ob (fun z => by
     have z' : b = s.heap.objs.size := by simpa using z
     exact absurd (Heap.lt_size e) (by rw [z']; exact Nat.lt_irrefl _)) (Heap.get?_push_of_some _ e)
    exact ⟨.bl _, H, I1, rfl, cF q sb (by simp only [bA])⟩
  | ex _ => rw [hb] at q; exact q.elim
  | bad => rw [hb] at q; exact q.elim
 ·exact q.elim
def cE1 : D -> bC Str
 | .str z => .ok z
 | _ => .bad
def mMe (m : Str -> List D -> bC D) (f : ME) (fa : MA) : ME := fun ρ => (f ρ).bind fun d => (cE1 d).bind fun z => (fa ρ).bind fun ds => m z ds
def nT (X : Cx) (m : Str -> List D -> bC D) : V -> List V -> Hp -> VK -> Prop := fun x xs H Q => ∃ F z ds, bG F H /\ x = .str z /\ z.length <= sizeLine /\ DatL X.K F ds xs /\ dA (bA X.K) F H (m z ds) Q
theorem dS2 {m : Str -> List D -> bC D} {name : Str} {id : String} {fa : MA} (slot : PySem.Slot "str" name id) (hty : typeOf (.builtin id) = pure (.type "method_descriptor")) (hm : lM X id (nT X m)) (ho : IE X o f) (ha : IA X (e :: es) fa)
 (hbase : attributeBase o name X.env (eval o X.env) = eval o X.env := by rfl)
 (hfew : ((backTo pos (starEach (e :: es) X.env)).all (fun x => !x.1) && (backToKw pos (keywordEach [] X.env)).all (fun x => x.1.isSome)
   && decide ((e :: es).length + ([] : List Keyword).length + (if ([] : List Keyword).isEmpty then 0 else 1) < 30)) = true := by rfl)
 (hline : (apos.endLine == pos.line) = true := by rfl) (hs : starEach (e :: es) X.env = (false, eval e X.env) :: starEach es X.env := by rfl) (hplain : (backTo pos (starEach es X.env)).any (·.1) = false := by rfl) :
 IE X (.Call (.Attribute o name apos) (e :: es) [] pos) (mMe m f fa) := fL (bI5 PySem.F.plainAttrs_str slot hty hm ho ha hbase hfew hline hs hplain) fun σ H Q ⟨ρ, F, E, q⟩ => ⟨ρ, F, E, by
 have q1 := fA (R1 := bA X.K) q
 revert q1
 cases f ρ with
 | ok d =>
  intro q1 v F1 H1 g1 d1
  obtain ⟨F2, d', g2, d2, q2⟩ := q1 v F1 H1 g1 d1
  cases d' with
  | str z =>
   simp only [bA] at d2; obtain ⟨rfl, hz⟩ := d2
   refine ⟨rfl, ρ, F2, E.grow g2, ?_⟩
   have q2' : dA (bA X.K) F2 H1 ((fa ρ).bind fun ds => m z ds) Q := q2
   have q3 := fA (R1 := DatL X.K) q2'
   revert q3
   cases fa ρ with
   | ok y =>
    intro q3 v' F3 H3 g3 d3
    obtain ⟨F4, y', g4, d4, q4⟩ := q3 v' F3 H3 g3 d3
    exact ⟨F4, z, y', g4.sub, rfl, hz, d4, q4⟩
   | ex _ => exact fun q => q
   | bad => exact fun q => q
  | _ => exact q2.elim
 | ex _ => exact fun q => q
 | bad => exact fun q => q⟩
def bL2 (m : Str -> List D -> bC D) (f : ME) : ME := fun ρ => (f ρ).bind fun d => (cE1 d).bind fun z => m z []
theorem dS3 {m : Str -> List D -> bC D} {name : Str} {id : String} (slot : PySem.Slot "str" name id) (hty : typeOf (.builtin id) = pure (.type "method_descriptor")) (hm : lM X id (nT X m)) (ho : IE X o f)
 (hbase : attributeBase o name X.env (eval o X.env) = eval o X.env := by rfl) (hline : (apos.endLine == pos.line) = true := by rfl) :
 IE X (.Call (.Attribute o name apos) [] [] pos) (bL2 m f) := fL (dG7 PySem.F.plainAttrs_str slot hty hm ho hbase hline) fun σ H Q ⟨ρ, F, E, q⟩ => ⟨ρ, F, E, by
 have q1 := fA (R1 := bA X.K) q
 revert q1
 cases f ρ with
 | ok d =>
  intro q1 v F1 H1 g1 d1
  obtain ⟨F2, d', g2, d2, q2⟩ := q1 v F1 H1 g1 d1
  cases d' with
  | str z =>
   simp only [bA] at d2; obtain ⟨rfl, hz⟩ := d2
   exact ⟨rfl, F2, z, [], g2.sub, rfl, hz, DatL.nil, q2⟩
  | _ => exact q2.elim
 | ex _ => exact fun q => q
 | bad => exact fun q => q⟩
def zU (z : Str) : List D -> bC D
 | [] => if z.length <= 100000 then .ok (.str (Txt.upper z)) else .bad
 | _ => .bad
theorem dS4 : lM X "str.upper" (nT X zU) := by
 intro pins s σ H x xs v us Q I rx rs h
 obtain ⟨F, z, ds, sb, rfl, hz, hl, q⟩ := h
 obtain ⟨t, rfl⟩ := rx
 unfold zU at q
 split at q
 ·have : xs = [] := by simp only [DatL] at hl; exact hl
  subst this
  cases rs
  split at q
  ·rename_i hb
   refine SCL.upper bF fun hle => ⟨.str _, H, I.tok _, ⟨_, rfl⟩, cF q sb (by simp only [bA]; have := sizeLine_eq; exact ⟨trivial, by omega⟩)⟩
  ·exact q.elim
 ·exact q.elim
theorem dS5 (ho : IE X o f) (hbase : attributeBase o "upper" X.env (eval o X.env) = eval o X.env := by rfl) (hline : (apos.endLine == pos.line) = true := by rfl) : IE X (.Call (.Attribute o "upper" apos) [] [] pos) (bL2 zU f) :=
 dS3 PySem.F.slot_str_upper PySem.F.type_str_upper dS4 ho hbase hline
def bL3 (z : Str) : List D -> bC D
 | [.str y] => .ok (.int (Txt.find z y))
 | _ => .bad
theorem dS6 : lM X "str.find" (nT X bL3) := by
 intro pins s σ H x xs v us Q I rx rs h
 obtain ⟨F, z, ds, sb, rfl, hz, hl, q⟩ := h
 obtain ⟨t, rfl⟩ := rx
 unfold bL3 at q
 split at q
 ·obtain ⟨x, rfl, hx⟩ := jE hl
  simp only [bA] at hx; obtain ⟨rfl, _⟩ := hx
  obtain ⟨u, rfl, t', rfl⟩ := kN rs
  exact PySem.SC.find ⟨.int _, H, I.tok _, ⟨_, rfl⟩, cF q sb (by simp only [bA])⟩
 ·exact q.elim
def bL4 (z : Str) : List D -> bC D
 | [.str y] => .ok (.bl (Txt.startswith z y))
 | _ => .bad
theorem dS7 : lM X "str.startswith" (nT X bL4) := by
 intro pins s σ H x xs v us Q I rx rs h
 obtain ⟨F, z, ds, sb, rfl, hz, hl, q⟩ := h
 obtain ⟨t, rfl⟩ := rx
 unfold bL4 at q
 split at q
 ·obtain ⟨x, rfl, hx⟩ := jE hl
  simp only [bA] at hx; obtain ⟨rfl, _⟩ := hx
  obtain ⟨u, rfl, t', rfl⟩ := kN rs
  exact PySem.SC.startswith ⟨.bl _, H, I, rfl, cF q sb (by simp only [bA])⟩
 ·exact q.elim
theorem dS8 {prog : Program} {w : World} {A : Around} {E : Value -> Shared -> Prop} {s : Shared} {x y : Str} {t u : Tok} {Q : Value -> Shared -> Prop} (hy : (y.length == 0) = false) (hsz : x.length + 2 <= sizeLine)
 (hq : ∀ l k, l.map (·.1) = Txt.split x y -> Q (.ref s.heap.objs.size) { s with heap := s.heap.push { cls := .type "list", data := .seq (strValues l).toArray }, toks := k }) :
 wpAny (model prog w) A (call (.builtin "str.split") [.str x t, .str y u]) Q E s := by
 have hle := split_le x y
 cases h1 : (decide (x.length < y.length) || decide (Builtin.Str.strKind x < Builtin.Str.strKind y)) with
 | true =>
  have e : Txt.split x y = [x] := by unfold Txt.split; rw [if_pos h1]
  exact call_meets PySem.F.slot_str_split (typeIs_str _ _ _) PySem.F.entry_str_split (PySem.F.args_str_split_2 _ _) (meets_str_split_cannot_occur x y t u h1) (hq [(x, t)] s.toks (by rw [e]; rfl))
 | false =>
  cases hf : (Builtin.Str.occurrences x y 0 x.length (x.length + 1)).isEmpty with
  | true =>
   have e : Txt.split x y = [x] := by unfold Txt.split; rw [if_neg (by rw [h1]; decide), if_pos hf]
   exact call_meets PySem.F.slot_str_split (typeIs_str _ _ _) PySem.F.entry_str_split (PySem.F.args_str_split_2 _ _) (meets_str_split_not_found x y t u h1 hy hf) (hq [(x, t)] s.toks (by rw [e]; rfl))
  | false =>
   have e : Txt.split x y = Builtin.Str.partsBetween x (Builtin.Str.occurrences x y 0 x.length (x.length + 1)) y.length := by unfold Txt.split; rw [if_neg (by rw [h1]; decide), if_neg (by rw [hf]; decide)]
   have hn : (Builtin.Str.partsBetween x (Builtin.Str.occurrences x y 0 x.length (x.length + 1)) y.length).length <= sizeLine := by rw [<- e]; omega
   refine call_meets PySem.F.slot_str_split (typeIs_str _ _ _) PySem.F.entry_str_split (PySem.F.args_str_split_2 _ _) (meets_str_split_sep x y t u h1 hy hf bF hn) ?_
   rw [strsFrom_eq]
   exact hq (numbered s.toks _) _ (by rw [numbered_texts, e])
theorem cE2 : ∀ (l : List (Str × Tok)), cE (l.map fun p => V.str p.1) (strValues l)
 | [] => .nil
 | p :: r => .cons ⟨p.2, rfl⟩ (cE2 r)
theorem bL5 {K : W.Frag} {F : Hp} : ∀ (ts : List Str), (∀ x ∈ ts, x.length <= sizeLine) -> DatL K F (ts.map .str) (ts.map V.str)
 | [], _ => DatL.nil
 | x :: r, h => DatL.cons (by simp only [bA]; exact ⟨trivial, h x List.mem_cons_self⟩) (bL5 r fun y hy => h y (List.mem_cons_of_mem _ hy))
theorem cE3 : ∀ {l : List Str} {x : Str}, x ∈ l -> x.length <= (l.map (·.length)).sum
 | y :: r, x, h => by
  rw [List.map_cons, List.sum_cons]
  rcases List.mem_cons.mp h with rfl | h
  ·omega
  ·have := cE3 h; omega
def bL6 (z : Str) : List D -> bC D
 | [.str y] => if y.length ≠ 0 /\ z.length + 2 <= sizeLine then .ok (.lst ((Txt.split z y).map .str)) else .bad
 | _ => .bad
theorem dS9 : lM X "str.split" (nT X bL6) := by
 intro pins s σ H x xs v us Q I rx rs h
 obtain ⟨F, z, ds, sb, rfl, hz, hl, q⟩ := h
 obtain ⟨t, rfl⟩ := rx
 unfold bL6 at q
 split at q
 ·rename_i y
  obtain ⟨x, rfl, hx⟩ := jE hl
  simp only [bA] at hx; obtain ⟨rfl, _⟩ := hx
  obtain ⟨u, rfl, t', rfl⟩ := kN rs
  split at q
  ·rename_i hc
   refine dS8 (by simpa using hc.1) hc.2 fun l k hl' => ?_
   have hw := split_weight z y bF
   have hsz : ∀ x ∈ Txt.split z y, x.length <= sizeLine := fun x hx => by
    have := cE3 hx
    omega
   have ev : (l.map fun p => V.str p.1) = (Txt.split z y).map V.str := by rw [<- hl', List.map_map]; rfl
   have r := cE2 l
   rw [ev] at r
   refine ⟨.ref _, _, I.lnew (t' := k) r (by rw [List.length_map]; have := split_le z y; omega), rfl, qE q sb (bL5 _ hsz) I.fresh⟩
  ·exact q.elim
 ·exact q.elim
def zV (z : Str) : Str := ⟨z.cps.toList.reverse.toArray⟩
theorem dT0 (xs : Array Nat) : ((List.range xs.size).map fun k => xs.size - 1 - k).filterMap (xs[·]?) = xs.toList.reverse := by
 apply List.ext_getElem?
 intro i
 have e : ∀ k ∈ (List.range xs.size).map (fun k => xs.size - 1 - k), xs[k]? = some (xs.getD k 0) := fun k hk => by
  obtain ⟨j, hj, rfl⟩ := List.mem_map.mp hk
  have hj' := List.mem_range.mp hj
  have hlt : xs.size - 1 - j < xs.size := by omega
  simp [Array.getD, hlt]
 have e2 : ((List.range xs.size).map fun k => xs.size - 1 - k).filterMap (xs[·]?) = ((List.range xs.size).map fun k => xs.size - 1 - k).map (fun k => xs.getD k 0) := by
  have gen : ∀ l : List Nat, (∀ k ∈ l, xs[k]? = some (xs.getD k 0)) -> l.filterMap (xs[·]?) = l.map fun k => xs.getD k 0 := by
   intro l
   induction l with
   | nil => intro _; rfl
   | cons k r ih =>
    intro hl
    rw [List.filterMap_cons, hl k List.mem_cons_self, List.map_cons, ih fun j hj => hl j (List.mem_cons_of_mem _ hj)]
  exact gen _ e
 rw [e2, List.map_map, List.getElem?_map]
 by_cases hi : i < xs.size
 ·rw [List.getElem?_range hi, List.getElem?_reverse (by simpa using hi)]
  have hlt : xs.size - 1 - i < xs.size := by omega
  simp [Array.getD, hlt]
 ·rw [List.getElem?_eq_none (by simpa using hi), List.getElem?_eq_none (by simp; omega)]; rfl
def wQ : D -> D -> bC D
 | .str z, .int i => if i = -1 then .ok (.str (zV z)) else .bad
 | .tup ds, .int i => if i = -1 then .ok (.tup ds.reverse) else .bad
 | _, _ => .bad
theorem cE4 (z : Str) : (zV z).length = z.length := by
 show z.cps.toList.reverse.toArray.size = z.cps.size
 simp
theorem dT1 {st : Expr} (he : IE X e f) (hs : IE X st g) : IE X (.Subscript e (.Slice none none (some st) p2) pos) (m2 wQ f g) := by
 intro pins s σ H Q I q
 have q' := wG (r := rD X wQ) wI q
 refine Subscript_ (cC (he pins s σ H _ I q') fun v s1 ⟨x, H1, I1, r1, q1⟩ => ?_)
 refine wpAny_Slice ?_
 rw [evalPart_none]
 refine wpAny_pure ?_
 refine wpAny_pure ?_
 rw [evalPart_some]
 refine cC (hs pins s1 σ H1 _ I1 q1) fun u s2 ⟨y, H2, I2, r2, F, d1, d2, sb, h1, h2, q2⟩ => ?_
 cases d1 <;> cases d2 <;> try exact q2.elim
 rotate_left
 ·rename_i ds i
  simp only [wQ] at q2
  split at q2
  ·rename_i hi
   subst hi
   simp only [bA] at h1 h2; subst h2
   obtain ⟨p, xs, rfl, g1, l1⟩ := h1
   cases r1
   obtain ⟨t', rfl⟩ := r2
   have I3 : bE X pins σ H2 { s2 with heap := s2.heap.push { cls := .type "slice", data := .fields #[.none, .none, .int (-1) t'] } } := I2.kept (t' := s2.toks) fun b ob q => Heap.get?_push_of_some _ q
   obtain ⟨its, r, ht, hz⟩ := I3.tuple (bG.seqT sb g1)
   have hl := l1.length
   refine tail_any (ops := [.ref p, .ref s2.heap.objs.size]) ht.typeIs PyProof.Rows.slot_tuple_getitem.lookup (dM7 ht ⟨_, Heap.get?_push_size _ rfl, rfl, rfl⟩ ?_ (by rw [List.size_toArray, <- r.length]; exact hz)) (by with_unfolding_all rfl)
   refine ⟨.ref _, _, I3.laid (t' := s2.toks) (o := .tup xs.reverse) (fun b ob q => Heap.get?_push_of_some _ q) (Nat.le_refl _) ?_, rfl, rJ q2 sb (DatL.of (bZ5 l1.paired)) (I3.hok.fresh (Nat.le_refl _))⟩
   exact ⟨by rw [List.length_reverse]; exact hz, its.reverse, bZ5 r, IsTup.new _ _⟩
  ·exact q2.elim
 rename_i z i
 simp only [wQ] at q2
 split at q2
 ·rename_i hi
  subst hi
  simp only [bA] at h1 h2; obtain ⟨rfl, hz⟩ := h1; subst h2
  obtain ⟨t, rfl⟩ := r1
  obtain ⟨t', rfl⟩ := r2
  have I3 : bE X pins σ H2 { s2 with heap := s2.heap.push { cls := .type "slice", data := .fields #[.none, .none, .int (-1) t'] } } := I2.kept (t' := s2.toks) fun b ob q => Heap.get?_push_of_some _ q
  refine tail_any (ops := [.ref s2.heap.objs.size, .str z t]) (typeIs_str _ _ _) PySem.F.slot_str_getitem.lookup (wpAny_getItem_str_slice (l := none) (u := none) (st := some (-1, t')) ⟨_, Heap.get?_push_size _ rfl, rfl, rfl⟩ rfl ?_) (by with_unfolding_all rfl)
  unfold sliceMade slicePicked
  have hc : ¬ ((((some ((-1 : Int), t')).map (·.1)).getD 1 == 1 && (Builtin.Str.strSliceIndices ((none : Option (Int × Tok)).map (·.1)) ((none : Option (Int × Tok)).map (·.1)) (((some ((-1 : Int), t')).map (·.1)).getD 1) z.length).length == z.length) = true) := by
   simp
  rw [if_neg hc]
  have er : (⟨((Builtin.Str.strSliceIndices ((none : Option (Int × Tok)).map (·.1)) ((none : Option (Int × Tok)).map (·.1)) (((some ((-1 : Int), t')).map (·.1)).getD 1) z.length).filterMap (z.cps[·]?)).toArray⟩ : Str) = zV z := by
   show (⟨((Builtin.Str.strSliceIndices none none (-1) z.length).filterMap (z.cps[·]?)).toArray⟩ : Str) = zV z
   rw [picked_rev]
   exact congrArg (fun l => (⟨List.toArray l⟩ : Str)) (dT0 z.cps)
  rw [er]
  refine ⟨by rw [cE4]; exact hz, .str _, H2, I3.tok _, ⟨_, rfl⟩, cF q2 sb (by simp only [bA]; exact ⟨trivial, by rw [cE4]; exact hz⟩)⟩
 ·exact q2.elim
end
end R
end
section
namespace R
open PySem PySem.Spec PyProof.Rows L2
variable [bP] [Pd]
section
variable {X : Cx} {f : ME} {e : Expr} {es : List Expr} {pos : Pos}
theorem dT2 (hu : X.A.units + 200 < cLine) : cI X (compareOp .In) (rD X (fX false)) := cC4 (neg := false) hu
theorem cE5 (hu : X.A.units + 200 < cLine) : cI X (compareOp .NotIn) (rD X (fX true)) := cC4 (neg := true) hu
theorem wR {k : Nat} {A : Around} (hr : dR k A) : A.units + 100 < cLine := by have := hr.un; omega
theorem bL7 {k : Nat} {A : Around} (hr : dR k A) : A.units + 200 < cLine := by have := hr.un; omega
theorem wS {scope sc : Scope} {os caps : List Str} {js : List Nat} {N : List Str} (hN : X.N = N) (hS : X.env.scope = sc) (h1 : scope.kind = .function) (h2 : (scope.names.all fun y => decide (y.2 ≠ .cell)) = true)
 (h3 : (scope.names.all fun y => decide (y.2 = .local -> scope.names.lookup y.1 = some .local)) = true) (h4 : (os.all fun x => decide (scope.names.lookup x = some .local)) = true)
 (h5 : (scope.names.all fun y => decide (y.2 = .free -> sc.names.lookup y.1 = some .cell \/ sc.names.lookup y.1 = some .free)) = true) (h6 : (os ++ caps).Nodup) (h7 : caps.length = js.length)
 (h8 : ((caps.zip js).all fun q => decide (N[q.2]? = some q.1) && decide (scope.names.lookup q.1 = some .free)) = true) : lD X scope os caps js where
 kind := h1
 nocell := fun y hy => of_decide_eq_true (List.all_eq_true.mp h2 y hy)
 names := fun y hy => of_decide_eq_true (List.all_eq_true.mp h3 y hy)
 loc := fun y hy => of_decide_eq_true (List.all_eq_true.mp h4 y hy)
 fr := fun y hy hf => by
  have := of_decide_eq_true (List.all_eq_true.mp h5 y hy) hf
  show X.env.scope.names.lookup y.1 = _ \/ X.env.scope.names.lookup y.1 = _
  rw [hS]; exact this
 nd := h6
 len := h7
 cap := fun k y j hy hj => by
  have hm : (y, j) ∈ caps.zip js := by
   have : (caps.zip js)[k]? = some (y, j) := by rw [List.getElem?_zip_eq_some]; exact ⟨hy, hj⟩
   exact List.mem_of_getElem? this
  have := List.all_eq_true.mp h8 _ hm
  rw [Bool.and_eq_true] at this
  rw [hN]
  exact ⟨of_decide_eq_true this.1, of_decide_eq_true this.2⟩
theorem zW : nC X [] fun _ => .ok true := .inl ⟨rfl, rfl⟩
theorem cE6 {p : MT} (h : IT X e p) : nC X [e] p := .inr ⟨e, rfl, h⟩
end
theorem bL8 {P : Program} {w : World} {K : W.Frag} {mg : Str -> Option Value} {base : Heap} {k : Nat} {f : Addr} {fd : FuncData} {ps : List Str} {m : List D -> bC D} (hm : ∀ ds, m ds = .bad) : bS P w K mg base bU k f fd ps (cL K m) := by
 have no : ∀ vs H Q E, ¬ cL K m vs H Q E := fun vs H Q E h => by
  obtain ⟨F, ds, _, _, _, q⟩ := h
  rw [hm ds] at q
  exact q
 exact ⟨fun vs H Q E h => absurd h (no vs H Q E), fun A outer s H args us vs Q E _ _ _ _ h => absurd h (no vs H Q E)⟩
structure dS (P : Program) (w : World) (K : W.Frag) (mg : Str -> Option Value) (base : Heap) (k : Nat) (x : Str) (m : List D -> bC D) : Prop where
 ex : ∃ (f : Addr) (fd : FuncData) (ps : List Str), bS P w K mg base bU k f fd ps (cL K m) /\ mg x = some (.ref f) /\ W.keepIn K (.ref f) = true /\ cS K fd ps []
theorem dS.of {X : Cx} {k : Nat} {x : Str} {m : List D -> bC D} (h : dS X.prog X.w X.K X.mg X.base k x m) : bZ9 X k x m := ⟨h.ex⟩
theorem dT3 {K : W.Frag} {mg : Str -> Option Value} {x : Str} {p : Addr} {o : Obj} {its : List Value} {n : Nat} {ts : List Str} (hm : mg x = some (.ref p)) (hk : K.lookup p = some o) (hc : o.cls = .type "tuple") (hd : o.data = .seq its.toArray n)
 (hz : ts.length <= 1000) (hl : ∀ t ∈ ts, t.length <= sizeLine) (hv : cE (ts.map V.str) its) : lE K mg x (.tup (ts.map .str)) := by
 refine ⟨.ref p, .ref p, hm, rfl, fun F => ?_⟩
 simp only [bA]
 refine ⟨p, ts.map V.str, rfl, .inr ⟨o, its.toArray, n, hk, hc, hd, ?_, by simpa using hv⟩, bL5 ts hl⟩
 rw [List.size_toArray, <- hv.length, List.length_map]
 have := sizeLine_eq
 omega
def zX (K : W.Frag) : Sp := fun vs H Q _ => ∃ (a : Addr) (ns : List Int) (F : Hp), vs = [.ref a] /\ lO F H /\ bG F H /\ dF K F a (ns.map V.int) /\ ns.length <= 63 /\ ∀ H', Q (.bl true) H'
theorem cE7 {K : W.Frag} {F : Hp} : ∀ ns : List Int, DatL K F (ns.map .int) (ns.map V.int)
 | [] => DatL.nil
 | n :: r => DatL.cons (by simp only [bA]) (cE7 r)
theorem dT4 {P : Program} {w : World} {K : W.Frag} {mg : Str -> Option Value} {base : Heap} {k : Nat} {f : Addr} {fd : FuncData} {ps : List Str} {m : List D -> bC D} (F : bS P w K mg base bU k f fd ps (cL K m))
 (hm : ∀ ns : List Int, ns.length <= 63 -> m [.lst (ns.map .int)] = .ok (.bl true)) : bS P w K mg base bU k f fd ps (zX K) := F.imp fun vs H Q E ⟨a, ns, F₀, e, ti, sb, hS, hl, q⟩ => by
 subst e
 refine ⟨F₀, [.lst (ns.map .int)], ti, sb, DatL.cons (by simp only [bA]; exact ⟨a, _, rfl, hS, cE7 ns⟩) DatL.nil, ?_⟩
 rw [hm ns hl]
 intro v F' H' g d
 simp only [bA] at d
 subst d
 exact q H'
end R
end
section
namespace R
open PySem PySem.Spec PyProof.Rows L2
variable [bP] [Pd]
def gL : Expr -> Bool
 | .Starred _ _ => true
 | _ => false
theorem gM {e : Expr} {es : List Expr} {env : Env} (h : gL e = false) : starEach (e :: es) env = (false, eval e env) :: starEach es env := by
 cases e <;> first | rfl | (exact Bool.noConfusion h)
def fU (es : List Expr) : Bool := es.all fun e => !gL e
theorem nD {env : Env} {pos : Pos} : ∀ {es : List Expr}, fU es = true -> (backTo pos (starEach es env)).any (·.1) = false
 | [], _ => rfl
 | e :: es, h => by
  unfold fU at h
  rw [List.all_cons, Bool.and_eq_true] at h
  rw [gM (by simpa using h.1)]
  show (false || (backTo pos (starEach es env)).any (·.1)) = false
  rw [Bool.false_or]
  exact nD h.2
theorem zY {env : Env} {pos : Pos} : ∀ {es : List Expr}, fU es = true -> (backTo pos (starEach es env)).all (fun x => !x.1) = true
 | [], _ => rfl
 | e :: es, h => by
  unfold fU at h
  rw [List.all_cons, Bool.and_eq_true] at h
  rw [gM (by simpa using h.1)]
  show (true && (backTo pos (starEach es env)).all fun x => !x.1) = true
  rw [Bool.true_and]
  exact zY h.2
structure cH (N : List Str) (sc : Scope) (i : Nat) (x : Str) : Prop where
 n : N[i]? = some x
 v : sc.names.lookup x = some .local \/ sc.names.lookup x = some .cell \/ sc.names.lookup x = some .free
 d : (x == ("__debug__" : Str)) = false
 c : (x == ("__classdict__" : Str)) = false
section
variable {X : Cx} {a b c e o : Expr} {es : List Expr} {f g h : ME} {pos p p1 p2 apos : Pos} {x : Str}
theorem bL {i : Nat} (h : cH X.N X.env.scope i x) : IE X (.Name x pos) (gv i) := dJ6 i (lL h.n h.v h.d h.c)
theorem kT {x j} (hx : Nat.ble x.length sizeLine = true) : IE X (.Constant (.str x) j pos) (kc (.str x)) := dJ8 (Nat.le_of_ble_eq_true hx)
theorem bQ {r : MA} (hs : gL e = false) (ha : IE X e f) (hr : IA X es r) : IA X (e :: es) (aC f r) := yY ha hr (gM hs)
theorem hV {k : Nat} {m : List D -> bC D} {fa : MA} (C : dS X.prog X.w X.K X.mg X.base k x m) (hr : dR k X.A) (hg : X.env.scope.names.lookup x = some .globalImplicit) (hn : fU (e :: es) = true) (hd : (x == ("__debug__" : Str)) = false) (ha : IA X (e :: es) fa) :
 IE X (.Call (.Name x p) (e :: es) [] pos) (mA m fa) := by
 have h1 : gL e = false /\ fU es = true := by
  unfold fU at hn
  rw [List.all_cons, Bool.and_eq_true] at hn
  exact ⟨by simpa using hn.1, hn.2⟩
 exact dK6 (dS.of C) hr hg ha hd (gM h1.1) (nD h1.2)
theorem rZ {id : String} {r : List V -> Hp -> VK -> Prop} {m : List D -> bC D} {fa : MA} (hc : fG X (.builtin id) r) (ho : rM X r m) (hg : X.env.scope.names.lookup x = some .globalImplicit) (hm : X.mg x = none) (hv : bootBuiltins x = some (.builtin id)) (hn : fU (e :: es) = true)
 (hd : (x == ("__debug__" : Str)) = false) (hnm : (x == ("__name__" : Str)) = false) (ha : IA X (e :: es) fa) : IE X (.Call (.Name x p) (e :: es) [] pos) (mA m fa) := by
 have h1 : gL e = false /\ fU es = true := by
  unfold fU at hn
  rw [List.all_cons, Bool.and_eq_true] at hn
  exact ⟨by simpa using hn.1, hn.2⟩
 exact dK4 hc ho hg hm hv ha (by intro z; rw [z] at hnm; simp at hnm) hd (gM h1.1) (nD h1.2)
theorem pP {id : String} {r : List V -> Hp -> VK -> Prop} {m : List D -> bC D} {fa : MA} (hc : fG X (.type id) r) (ho : rM X r m) (hg : X.env.scope.names.lookup x = some .globalImplicit) (hm : X.mg x = none) (hv : bootBuiltins x = some (.type id)) (hn : fU (e :: es) = true)
 (hd : (x == ("__debug__" : Str)) = false) (hnm : (x == ("__name__" : Str)) = false) (ha : IA X (e :: es) fa) : IE X (.Call (.Name x p) (e :: es) [] pos) (mA m fa) := by
 have h1 : gL e = false /\ fU es = true := by
  unfold fU at hn
  rw [List.all_cons, Bool.and_eq_true] at hn
  exact ⟨by simpa using hn.1, hn.2⟩
 exact dK5 hc ho hg hm hv ha (by intro z; rw [z] at hnm; simp at hnm) hd (gM h1.1) (nD h1.2)
theorem dT5 {T : String} {tn : Str} (hk : kS X.K T) (hs : gL a = false) (hg : X.env.scope.names.lookup ("isinstance" : Str) = some .globalImplicit) (hm : X.mg "isinstance" = none) (hg2 : X.env.scope.names.lookup tn = some .globalImplicit) (hm2 : X.mg tn = none) (hv : bootBuiltins tn = some (.type T))
 (hd : (tn == ("__debug__" : Str)) = false) (hnm : (tn == ("__name__" : Str)) = false) (ha : IE X a f) : IE X (.Call (.Name "isinstance" p) [a, .Name tn p1] [] pos) (m1 (rX T) f) :=
 dR8 hk ha hg hm hg2 hm2 hv (by intro z; rw [z] at hnm; simp at hnm) hd (gM hs)
theorem zZ {d : D} (hg : X.env.scope.names.lookup x = some .globalImplicit) (C : lE X.K X.mg x d) (hd : (x == ("__debug__" : Str)) = false) : IE X (.Name x pos) (kc d) := dR9 hg C hd
theorem dT6 {m : Str -> List D -> bC D} {name : Str} {id : String} {fa : MA} (slot : PySem.Slot "str" name id) (hty : typeOf (.builtin id) = pure (.type "method_descriptor")) (hm : lM X id (nT X m)) (hn : fU (e :: es) = true) (hl : Nat.blt ((e :: es).length) 30 = true) (hline : (apos.endLine == pos.line) = true)
 (hbase : attributeBase o name X.env (eval o X.env) = eval o X.env) (ho : IE X o f) (ha : IA X (e :: es) fa) : IE X (.Call (.Attribute o name apos) (e :: es) [] pos) (mMe m f fa) := by
 have h1 : gL e = false /\ fU es = true := by
  unfold fU at hn
  rw [List.all_cons, Bool.and_eq_true] at hn
  exact ⟨by simpa using hn.1, hn.2⟩
 refine dS2 slot hty hm ho ha hbase ?_ hline (gM h1.1) (nD h1.2)
 rw [zY hn]
 have hl' : (e :: es).length < 30 := Nat.le_of_ble_eq_true hl
 show (true && true && decide ((e :: es).length + 0 + (if ([] : List Keyword).isEmpty then 0 else 1) < 30)) = true
 simp only [List.isEmpty_nil, if_true, Bool.true_and]
 exact decide_eq_true bF
theorem wT (hg : X.env.scope.names.lookup ("range" : Str) = some .globalImplicit) (hm : X.mg "range" = none) (hs : gL a = false) {tg : Expr} (hi : IE X a f) : II X tg (.Call (.Name "range" p) [a] [] pos) (gP f) :=
 dP5 hg hm hi (by rw [gM hs]; rfl)
def qI : Expr -> Bool
 | .ListComp _ _ _ _ => true
 | .SetComp _ _ _ _ => true
 | .DictComp _ _ _ _ _ => true
 | _ => false
theorem pQ {t : Option Expr} {l : Nat} {env : Env} (h : qI e = false) : swapsWith e t l env = pure false := by
 cases e <;> first | rfl | (exact Bool.noConfusion h)
theorem mH {i : Nat} (hN : X.N.Nodup) (hi : X.N[i]? = some x) (hx : Loc X.env.scope x) (hs : qI e = false) (hf : X.fn x = true \/ X.env.scope.names.lookup x = some .local) (he : IE X e f) : IS X (.Assign [.Name x p] e pos) (bZ i f) :=
 cB0 (fun t h => mS (i := i) hN hi hx h (pQ hs) hf) he
theorem dT7 (hs : qI e = false) (he : IE X e f) : IS X (.Expr e pos) (bJ7 f) := dL9 he (pQ hs)
theorem dT8 {st : Stmt} : IS X st fun _ => .bad := fun F₀ H₀ pins s σ H E I ⟨ρ, F, S, q⟩ => q.elim
end
end R
namespace R
open PySem PySem.Spec PyProof.Rows L2
variable [bP] [Pd]
section
variable {X : Cx} {a b c e o : Expr} {es : List Expr} {f g h : ME} {pos p p1 p2 apos : Pos} {x : Str}
def bA0 : Expr -> Bool
 | .Name _ _ => true
 | .Constant (.int _) _ _ => true
 | .BinOp _ _ _ _ => true
 | .UnaryOp _ _ _ => true
 | .Call _ _ _ _ => true
 | .Subscript _ _ _ => true
 | _ => false
theorem cE8 (h : bA0 b = true) : yS b := by
 cases b <;> first
  | (exact Bool.noConfusion h)
  | (intro _ _; rfl)
  | (rename_i k _ _; cases k <;> first | (exact Bool.noConfusion h) | (intro _ _; rfl))
theorem fV (hs : bA0 b = true) (ha : IE X a f) (hb : IE X b g) : IE X (.Subscript a b pos) (m2 bI f g) := dO7 ha hb (cE8 hs)
def bL9 : Expr -> Bool
 | .Name _ _ => true
 | .Call _ _ _ _ => true
 | .Subscript _ _ _ => true
 | .Attribute _ _ _ => true
 | .BinOp _ _ _ _ => true
 | _ => false
theorem dT9 {env : Env} (h : bL9 a = true) : ∀ whole, isTrue a env whole = (do let v <- whole; standAt a.pos; holding [v] (truthy v)) := by
 cases a <;> first
  | (exact Bool.noConfusion h)
  | (intro _; rfl)
theorem dU0 (hs : bL9 a = true) (ha : IE X a f) : IT X a (mT f) := dK9 ha (dT9 hs)
def sA : Expr -> Bool
 | .Name _ _ => true
 | .Call _ _ _ _ => true
 | .Subscript _ _ _ => true
 | .BinOp _ _ _ _ => true
 | .ListComp _ _ _ _ => true
 | .Tuple _ _ _ => true
 | .List _ _ => true
 | _ => false
theorem hX {env : Env} (h : sA a = true) : ∀ x, foldedSetIterable a env x = pure x := by
 cases a <;> first
  | (exact Bool.noConfusion h)
  | (intro _; rfl)
end
end R
end
section
namespace R
open PySem PySem.Spec PyProof.Rows L2
variable [bP] [Pd]
section
variable {X : Cx} {a b c e : Expr} {es : List Expr} {f g h : ME} {pos p2 : Pos}
def bM0 : List D -> bC D
 | [.int i] => .ok (.int (if i < 0 then -i else i))
 | _ => .bad
theorem dU1 : fG X (.builtin "abs") (lQ X bM0) := by
 intro pins s σ H xs us Q I r h
 obtain ⟨F, ds, sb, hl, q⟩ := h
 unfold bM0 at q
 split at q
 ·obtain ⟨x, rfl, hx⟩ := jE hl
  simp only [bA] at hx; subst hx
  exact dC7 pins s σ H _ us Q I r ⟨_, rfl, cF q sb (by simp only [bA])⟩
 ·exact q.elim
theorem cE9 {n : Nat} (h : n < 2 ^ 64) : n.log2 < 1920 := by
 by_cases h0 : n = 0
 ·subst h0; decide
 ·have := (Nat.log2_lt h0).mpr h
  omega
theorem dU2 : fG X (.type "str") (lQ X bK3) := by
 intro pins s σ H xs us Q I r h
 obtain ⟨F, ds, sb, hl, q⟩ := h
 unfold bK3 at q
 split at q
 ·obtain ⟨x, rfl, hx⟩ := jE hl
  simp only [bA] at hx; subst hx
  split at q
  ·rename_i hi
   exact dD0 pins s σ H _ us Q I r ⟨_, rfl, cE9 hi, cF q sb (by simp only [bA]; exact ⟨trivial, int_text_fits (cE9 hi)⟩)⟩
  ·exact q.elim
 ·obtain ⟨x, rfl, hx⟩ := jE hl
  have hx' := hx
  simp only [bA] at hx; obtain ⟨rfl, hz⟩ := hx
  obtain ⟨u, rfl, ru⟩ := kN r
  obtain ⟨t, rfl⟩ := ru
  exact PySem.P.str_of_str ⟨.str _, H, I, ⟨_, rfl⟩, cF q sb hx'⟩
 ·exact q.elim
def nU : D -> D -> bC D
 | .int i, .int j => .ok (.bl (!(i == j)))
 | .str x, .str y => .ok (.bl (!(x == y)))
 | _, _ => .bad
theorem bA1 : cI X (compareOp .NotEq) (rD X nU) := by
 intro pins s σ H x y v u Q I rx ry h
 obtain ⟨F, d1, d2, sb, h1, h2, q⟩ := h
 cases d1 <;> cases d2 <;> try exact q.elim
 ·rename_i i j
  simp only [bA] at h1 h2; subst h1 h2
  refine bW6 pins s σ H _ _ v u Q I rx ry ⟨rfl, ?_⟩
  have e : (!decide ((V.int i) = V.int j)) = !(i == j) := by
   by_cases q : i = j
   ·subst q; simp
   ·simp [q]
  first | (rw [e]; exact cF q sb (by simp only [bA])) | skip
 ·rename_i i j
  simp only [bA] at h1 h2; obtain ⟨rfl, _⟩ := h1; obtain ⟨rfl, _⟩ := h2
  refine bW6 pins s σ H _ _ v u Q I rx ry ⟨rfl, ?_⟩
  have e : (!decide ((V.str i) = V.str j)) = !(i == j) := by
   by_cases q : i = j
   ·subst q; simp
   ·simp [q]
  first | (rw [e]; exact cF q sb (by simp only [bA])) | skip
def nV (i j : Nat) (f : ME) : MS := fun ρ => (f ρ).bind fun d => match d with
 | .tup [x, y] => .ok (.nx ((ρ.set i (.val x)).set j (.val y)))
 | _ => .bad
theorem dU3 {x y : Str} {px py pt : Pos} {i j k : Nat} (hp : ∀ t, PE X e t -> PS X (.Assign [.Tuple [.Name x px, .Name y py] k pt] e pos) (vO t (rG X.K 2 (mC (kD i) (mC (kD j) rF))))) (he : IE X e f) :
 IS X (.Assign [.Tuple [.Name x px, .Name y py] k pt] e pos) (nV i j f) := fun F₀ H₀ => fR (hp _ he) fun E σ H q =>
 rR (k := fun d ρ => match d with | .tup [x, y] => .ok (.nx ((ρ.set i (.val x)).set j (.val y))) | _ => .bad) (fun ρ F H d v S r q => by
  cases d with
  | tup ds =>
   cases ds with
   | nil => exact q.elim
   | cons d1 ds =>
    cases ds with
    | nil => exact q.elim
    | cons d2 ds =>
     cases ds with
     | cons _ _ => exact q.elim
     | nil =>
      simp only [bA] at r
      obtain ⟨p, xs, rfl, g1, l1⟩ := r
      simp only [DatL] at l1
      obtain ⟨x1, r1, rfl, h1, x2, r2, rfl, h2, rfl⟩ := l1
      exact ⟨p, _, rfl, bG.seqT S.env.sub g1, rfl, x1, _, rfl, x2, _, rfl, rfl, q _ F H ((S.set i h1).set j h2)⟩
  | _ => exact q.elim) q
theorem dU4 {x y : Str} {px py pt : Pos} {i j k : Nat} (hc : X.calm = true) (hN : X.N.Nodup) (hi : X.N[i]? = some x) (hx : Loc X.env.scope x) (hj : X.N[j]? = some y) (hy : Loc X.env.scope y)
 (hf : X.fn x = true \/ X.env.scope.names.lookup x = some .local) (hf' : X.fn y = true \/ X.env.scope.names.lookup y = some .local)
 (h1 : (assignEach [.Name x px, .Name y py] X.env).length = 2) (h2 : (assignEach [.Name x px, .Name y py] X.env).findIdx? (·.1) = none)
 (h3 : (assignEach [.Name x px, .Name y py] X.env).map (·.2) = assign (.Name x px) X.env :: (assignEach [.Name y py] X.env).map (·.2))
 (h4 : (assignEach [.Name y py] X.env).map (·.2) = assign (.Name y py) X.env :: (assignEach [] X.env).map (·.2))
 (hs : swapsWithSole [.Tuple [.Name x px, .Name y py] k pt] e pos.line X.env = pure false) (hw : swappedStores [.Tuple [.Name x px, .Name y py] k pt] e X.env = pure none)
 (h5 : (assignEach [.Tuple [.Name x px, .Name y py] k pt] X.env).map (·.2) = [assign (.Tuple [.Name x px, .Name y py] k pt) X.env]) {t : TE} (he : PE X e t) :
 PS X (.Assign [.Tuple [.Name x px, .Name y py] k pt] e pos) (vO t (rG X.K 2 (mC (kD i) (mC (kD j) rF)))) :=
 bW0 he (bH1 hc (qA (jB hN hi hx hf) (qA (jB hN hj hy hf') bH0 h4) h3) h1 h2) hs hw h5
theorem dU5 {x y : Str} {px py pt : Pos} {i j k : Nat} (hc : X.calm = true) (hN : X.N.Nodup) (hi : X.N[i]? = some x) (hx : Loc X.env.scope x) (hj : X.N[j]? = some y) (hy : Loc X.env.scope y)
 (hf : X.fn x = true \/ X.env.scope.names.lookup x = some .local) (hf' : X.fn y = true \/ X.env.scope.names.lookup y = some .local)
 (hs : swapsWithSole [.Tuple [.Name x px, .Name y py] k pt] e pos.line X.env = pure false) (hw : swappedStores [.Tuple [.Name x px, .Name y py] k pt] e X.env = pure none) (he : IE X e f) :
 IS X (.Assign [.Tuple [.Name x px, .Name y py] k pt] e pos) (nV i j f) :=
 dU3 (fun t ht => dU4 hc hN hi hx hj hy hf hf' rfl rfl rfl rfl hs hw rfl ht) he
def dO (neg : Bool) : D -> D -> bC D
 | .non, .non => .ok (.bl (!neg))
 | _, .non => .ok (.bl neg)
 | _, _ => .bad
theorem cF0 {K : W.Frag} {F : Hp} {d : D} {v : V} (h : bA K F d v) {neg : Bool} : dO neg d .non = .ok (.bl (neg != decide (v = .non))) := by
 cases d <;> simp only [bA] at h
 ·subst h; cases neg <;> rfl
 ·subst h; cases neg <;> rfl
 ·subst h; cases neg <;> rfl
 ·obtain ⟨rfl, _⟩ := h; cases neg <;> rfl
 ·obtain ⟨a, xs, rfl, _⟩ := h; cases neg <;> rfl
 ·obtain ⟨a, xs, rfl, _⟩ := h; cases neg <;> rfl
theorem wU : cI X (compareOp .Is) (rD X (dO false)) := by
 intro pins s σ H x y v u Q I rx ry h
 obtain ⟨F, d1, d2, sb, h1, h2, q⟩ := h
 cases d2 <;> try (cases d1 <;> exact q.elim)
 simp only [bA] at h2; subst h2
 rw [cF0 h1] at q
 refine dB9 pins s σ H _ _ v u Q I rx ry ⟨rfl, ?_⟩
 have := cF q sb (b := V.bl (false != decide (x = .non))) (by simp only [bA])
 simpa using this
theorem bA2 : cI X (compareOp .IsNot) (rD X (dO true)) := by
 intro pins s σ H x y v u Q I rx ry h
 obtain ⟨F, d1, d2, sb, h1, h2, q⟩ := h
 cases d2 <;> try (cases d1 <;> exact q.elim)
 simp only [bA] at h2; subst h2
 rw [cF0 h1] at q
 refine dC0 pins s σ H _ _ v u Q I rx ry ⟨rfl, ?_⟩
 have := cF q sb (b := V.bl (true != decide (x = .non))) (by simp only [bA])
 simpa using this
def sB (i j l : Nat) (f : ME) : MS := fun ρ => (f ρ).bind fun d => match d with
 | .tup [x, y, z] => .ok (.nx (((ρ.set i (.val x)).set j (.val y)).set l (.val z)))
 | _ => .bad
theorem cF1 {x y z : Str} {px py pz pt : Pos} {i j l k : Nat} (hc : X.calm = true) (hN : X.N.Nodup) (hi : X.N[i]? = some x) (hx : Loc X.env.scope x) (hj : X.N[j]? = some y) (hy : Loc X.env.scope y) (hl : X.N[l]? = some z) (hz : Loc X.env.scope z)
 (hf : X.fn x = true \/ X.env.scope.names.lookup x = some .local) (hf' : X.fn y = true \/ X.env.scope.names.lookup y = some .local) (hf'' : X.fn z = true \/ X.env.scope.names.lookup z = some .local)
 (hs : swapsWithSole [.Tuple [.Name x px, .Name y py, .Name z pz] k pt] e pos.line X.env = pure false) (hw : swappedStores [.Tuple [.Name x px, .Name y py, .Name z pz] k pt] e X.env = pure none) (he : IE X e f) :
 IS X (.Assign [.Tuple [.Name x px, .Name y py, .Name z pz] k pt] e pos) (sB i j l f) := fun F₀ H₀ =>
 fR (bW0 he (bH1 hc (qA (jB hN hi hx hf) (qA (jB hN hj hy hf') (qA (jB hN hl hz hf'') bH0 rfl) rfl) rfl) rfl rfl) hs hw rfl) fun E σ H q =>
 rR (k := fun d ρ => match d with | .tup [x, y, z] => .ok (.nx (((ρ.set i (.val x)).set j (.val y)).set l (.val z))) | _ => .bad) (fun ρ F H d v S r q => by
  cases d with
  | tup ds =>
   rcases ds with _ | ⟨d1, _ | ⟨d2, _ | ⟨d3, _ | ⟨d4, ds⟩⟩⟩⟩
   ·exact q.elim
   ·exact q.elim
   ·exact q.elim
   ·simp only [bA] at r
    obtain ⟨p, xs, rfl, g1, l1⟩ := r
    simp only [DatL] at l1
    obtain ⟨x1, r1, rfl, h1, x2, r2, rfl, h2, x3, r3, rfl, h3, rfl⟩ := l1
    exact ⟨p, _, rfl, bG.seqT S.env.sub g1, rfl, x1, _, rfl, x2, _, rfl, x3, _, rfl, rfl, q _ F H (((S.set i h1).set j h2).set l h3)⟩
   ·exact q.elim
  | _ => exact q.elim) q
end
end R
end
section
namespace R
open PySem PySem.Spec PyProof.Rows L2
variable [bP] [Pd]
section
variable {X : Cx} {e : Expr} {es : List Expr} {pos p : Pos} {x : Str}
open Classical in
end
end R
end
section
namespace R
open PySem PySem.Spec PyProof.Rows L2
variable [bP] [Pd]
structure fU1 (x y : Str) (scope : Scope) : Prop where
 kind : scope.kind = .function
 co : scope.isCoroutine = false
 gen : scope.isGenerator = false
 nocell : ∀ z ∈ scope.names, z.2 ≠ .cell
 loc : scope.names.lookup x = some .local
 fr : scope.names.lookup y = some .free
 one : ∀ z, scope.names.lookup z = some .free -> z = y
end R
end
section
namespace R
open PySem PySem.Spec PyProof.Rows L2
variable [bP] [Pd]
section
variable {X : Cx} {pins : List (Addr × Obj)} {σ : St} {H : Hp} {s : Shared}
end
end R
end
section
namespace R
open PySem PySem.Spec PyProof.Rows L2
variable [bP] [Pd]
section
variable {X : Cx} {pins : List (Addr × Obj)} {σ : St} {H H0 : Hp} {s s0 : Shared}
end
section
variable {X : Cx}
end
end R
end
section
namespace R
open PySem PySem.Spec PyProof.Rows L2
instance (priority := low) pd0 : Pd := ⟨0⟩
variable [bP] [Pd]
def kI (b : Addr) : Bool := bP.L.any fun t => t.1 == b
theorem dU6 {t : Addr × Pos × Str} (h : t ∈ bP.L) : kI t.1 = true := List.any_eq_true.mpr ⟨t, h, beq_self_eq_true _⟩
theorem dU7 {b : Addr} (h : kI b = true) : ∃ t ∈ bP.L, t.1 = b := by
 obtain ⟨t, h1, h2⟩ := List.any_eq_true.mp h
 exact ⟨t, h1, eq_of_beq h2⟩
theorem dU8 {P : Program} {w : World} {K : W.Frag} {mg mb : Str -> Option Value} {k : Nat} {fa a : Addr} {fd : FuncData} {x : Str} {s₁ : Shared} {vs : List Value} {ns : List Int}
 (KX : K.In s₁.heap) (hns : s₁.heap.Ns mainGlobals mg) (hb : s₁.heap.Ns builtinsNs mb) (hbb : ∀ x : Str, x ≠ "__name__" -> mb x = bootBuiltins x) (hlim : s₁.heap.NoLimit) (hg : s₁.gens = #[])
 (hT : ∀ t ∈ bP.L, (∃ c, s₁.heap.TableAt c t.1 #[]) /\ K.lookup t.1 = none)
 (ha : s₁.heap.get? a = some { cls := .type "list", data := .seq vs.toArray }) (hi : IntsAre vs ns) (hl : ns.length <= 63) (hr : dR k callerA)
 (F : ∀ base : Heap, K.In base -> base.Ns mainGlobals mg -> bS P w K mg base bU k fa fd [x] (zX K)) (hbind : ∀ (s : Shared) (u : Value), BindsTo s fd ⟨[u], []⟩ [(x, u)]) :
 codeAny (model P w) callerA (.call (.ref fa) ⟨[.ref a], []⟩) (fun r s' => r = .ok (.ret (.bool true)) /\ OldK s₁.heap s'.heap /\ s'.os = s₁.os /\ AllBare s'.gens) s₁ := by
 have rv := bY8 hi
 have lenV := hi.length
 have hl' : ns.length <= sizeLine := Nat.le_of_lt (bY9 bF)
 have tab : ∀ b, kI b = true -> s₁.heap.get? b = some (W.tabObj #[]) /\ K.lookup b = none /\ ∃ c, s₁.heap.TableAt c b #[] := fun b h => by
  obtain ⟨t, h1, rfl⟩ := dU7 h
  obtain ⟨⟨c, h2⟩, h3⟩ := hT t h1
  exact ⟨h2.2, h3, c, h2⟩
 have core : ∀ F₀ : Hp, (∀ b, F₀ b = none \/ (b = a /\ K.lookup a = none /\ F₀ b = some (.frz { cls := .type "list", data := .seq vs.toArray } (.lst (ns.map V.int))))) -> dF K F₀ a (ns.map V.int) ->
  codeAny (model P w) callerA (.call (.ref fa) ⟨[.ref a], []⟩) (fun r s' => r = .ok (.ret (.bool true)) /\ OldK s₁.heap s'.heap /\ s'.os = s₁.os /\ AllBare s'.gens) s₁ := by
  intro F₀ hF hS
  have naT : kI a = false := by
   cases z : kI a with
   | false => rfl
   | true => have := (tab a z).1; rw [ha] at this; cases this
  let H : Hp := fun b => if kI b = true then some (.tbl #[]) else F₀ b
  have HT : ∀ b, kI b = true -> H b = some (.tbl #[]) := fun b h => if_pos h
  have HF : ∀ b, kI b = false -> H b = F₀ b := fun b h => if_neg (by rw [h]; exact Bool.false_ne_true)
  have hsub : bG F₀ H := fun b u e => by
   rcases hF b with z | ⟨z, _, z2⟩
   ·rw [z] at e; cases e
   ·subst z; rw [HF _ naT]; exact e
  have hcase : ∀ b u, H b = some u -> (kI b = true /\ u = .tbl #[]) \/ (b = a /\ K.lookup a = none /\ kI b = false /\ u = .frz { cls := .type "list", data := .seq vs.toArray } (.lst (ns.map V.int))) := fun b u e => by
   cases z : kI b with
   | true => rw [HT b z] at e; cases e; exact .inl ⟨rfl, rfl⟩
   | false =>
    rw [HF b z] at e
    rcases hF b with y | ⟨y1, y2, y3⟩
    ·rw [y] at e; cases e
    ·rw [y3] at e; cases e; exact .inr ⟨y1, y2, rfl, rfl⟩
  have hok : fF P w H s₁.heap := fun b u e => by
   rcases hcase b u e with ⟨z, rfl⟩ | ⟨rfl, _, _, rfl⟩
   ·exact (tab b z).1
   ·exact ⟨ha, by rw [List.length_map]; exact hl', vs, _, rv, ha⟩
  have tbf : lO F₀ H := by
   refine ⟨fun t ht => ⟨#[], HT _ (dU6 ht), trivial, .inl rfl⟩, fun b ps e => ?_⟩
   rcases hF b with z | ⟨_, _, z⟩
   ·rw [z] at e; cases e
   ·rw [z] at e; cases e
  have base_of : ∀ {b : Addr} {o : Obj}, s₁.heap.get? b = some o -> H b = none -> (nO s₁.heap H).get? b = some o := fun e n => cU3 e n
  have noA : ∀ {b : Addr} {o : Obj} {es : Array DictEntry} {ep : Nat}, s₁.heap.get? b = some o -> o.data = .dict es ep -> H b = none := fun {b o es ep} e d => by
   cases q : H b with
   | none => rfl
   | some u =>
    rcases hcase b u q with ⟨z, _⟩ | ⟨z, _, _, _⟩
    ·rw [(tab b z).1] at e; cases e; cases d
    ·subst z; rw [ha] at e; cases e; cases d
  have nsK : ∀ {b : Addr} {m : Str -> Option Value}, s₁.heap.Ns b m -> (nO s₁.heap H).Ns b m := fun {b m} ⟨o, es, ep, e, d, r⟩ => ⟨o, es, ep, base_of e (noA e d), d, r⟩
  have hKb : K.In (nO s₁.heap H) := fun b o e => base_of (KX b o e) (by
   cases q : H b with
   | none => rfl
   | some u =>
    rcases hcase b u q with ⟨z, _⟩ | ⟨z, z2, _, _⟩
    ·rw [(tab b z).2.1] at e; cases e
    ·subst z; rw [z2] at e; cases e)
  have hM : Mod K mg (nO s₁.heap H) := ⟨hKb, nsK hns, ⟨mb, nsK hb, hbb⟩, let ⟨mc, h1, h2⟩ := hlim; ⟨mc, nsK h1, h2⟩⟩
  have e0 : yP P w K mg (nO s₁.heap H) callerA [] s₁ H := ⟨rfl, hM, fun b o e => cU4 e, Nat.le_of_eq (cU2 _ _), trivial, fun b hb => absurd (show b ∈ ([] : List Addr) from hb) (by simp), hok, .of_eq hg⟩
  refine codeAny_mono ((F _ hKb (nsK hns)).run callerA [] s₁ H ⟨[.ref a], []⟩ [.ref a] [.ref a] (fun v _ => v = .bl true) (fun _ _ _ => False) hr e0 (hbind s₁ (.ref a)) (.cons rfl .nil) ⟨a, ns, F₀, rfl, tbf, hsub, hS, hl, fun _ => rfl⟩) fun r s' h => ?_
  cases r with
  | error e => exact (show False from h).elim
  | ok fl =>
   cases fl with
   | next => exact False.elim h
   | brk => exact False.elim h
   | cont => exact False.elim h
   | ret u =>
    obtain ⟨v, H', os, bare, un, hok', r', q⟩ := h
    have q' : v = .bl true := q
    subst q'
    obtain rfl : u = Value.bool true := r'
    have nofr : ∀ b : Addr, b ∉ kM [] := fun b z => absurd (show b ∈ ([] : List Addr) from z) (by simp)
    have tabN : ∀ b, kI b = true -> ∃ more, s'.heap.get? b = some (W.tabObj (#[] ++ more)) := fun b z => by
     obtain ⟨more, e⟩ := un.tbls b _ (HT b z)
     exact ⟨more, hok' b _ e⟩
    have scr : ∀ b o, s₁.heap.get? b = some o -> kI b = false -> s'.heap.get? b = some o := fun b o e z => by
     cases q : H b with
     | none => exact un.keep b o e q (nofr b) (by simp)
     | some u =>
      rcases hcase b u q with ⟨z2, _⟩ | ⟨_, _, _, rfl⟩
      ·rw [z] at z2; cases z2
      ·obtain ⟨e1, _⟩ := hok b _ q
       obtain ⟨e2, _⟩ := hok' b _ (un.frzs b _ _ q)
       rw [e] at e1; cases e1
       exact e2
    refine ⟨rfl, ⟨fun b o e => ?_, fun b o e => ?_⟩, os, bare⟩
    ·cases z : kI b with
     | false => exact .inl (scr b o e z)
     | true =>
      obtain ⟨more, e2⟩ := tabN b z
      have e1 := (tab b z).1
      rw [e] at e1
      cases e1
      obtain ⟨c, tc⟩ := (tab b z).2.2
      exact .inr (.inl ⟨tc.isCodeTable, rfl, #[], more, rfl, e2⟩)
    ·cases z : kI b with
     | false => exact ⟨o, scr b o e z⟩
     | true => obtain ⟨more, e2⟩ := tabN b z; exact ⟨_, e2⟩
 cases hk : K.lookup a with
 | some o =>
  have e := KX a o hk
  rw [ha] at e
  cases e
  exact core (fun _ => none) (fun _ => .inl rfl) (.inr ⟨_, vs.toArray, _, hk, rfl, rfl, rfl, by rw [List.size_toArray, lenV]; exact hl', by simpa using rv⟩)
 | none =>
  refine core (fun b => if b = a then some (.frz { cls := .type "list", data := .seq vs.toArray } (.lst (ns.map V.int))) else none) (fun b => ?_) (.inl (.inr ⟨{ cls := .type "list", data := .seq vs.toArray }, if_pos rfl⟩))
  by_cases hb : b = a
  ·exact .inr ⟨hb, hk, if_pos hb⟩
  ·exact .inl (if_neg hb)
end R
namespace R
open PySem PySem.Spec PyProof.Rows L2
end R
end
section
namespace R
open PySem PySem.Spec PyProof.Rows L2
def nW (Ps : List Addr) (b : Addr) : Bool := Ps.any fun P => P == b
def nE (K : W.Frag) (Ps : List Addr) (bm : Addr) (ob : Obj) : W.Frag := (bm, ob) :: K.filter fun p => !nW Ps p.1
theorem bA3 {Ps : List Addr} {b : Addr} (hb : nW Ps b = false) : ∀ K : W.Frag, (K.filter fun p => !nW Ps p.1).lookup b = K.lookup b
 | [] => rfl
 | (a, o) :: r => by
  rw [List.filter_cons]
  by_cases z : b = a
  ·subst z
   simp only [hb, Bool.not_false, if_true, List.lookup_cons, beq_self_eq_true]
  ·have e : (b == a) = false := beq_eq_false_iff_ne.mpr z
   split
   ·rw [List.lookup_cons, List.lookup_cons, e, bA3 hb r]
   ·rw [List.lookup_cons, e, bA3 hb r]
theorem bM1 {Ps : List Addr} {b : Addr} (hb : nW Ps b = true) : ∀ K : W.Frag, (K.filter fun p => !nW Ps p.1).lookup b = none
 | [] => rfl
 | (a, o) :: r => by
  rw [List.filter_cons]
  split
  ·rename_i h
   have z : (b == a) = false := by
    refine beq_eq_false_iff_ne.mpr fun e => ?_
    subst e
    rw [hb] at h; cases h
   rw [List.lookup_cons, z]
   exact bM1 hb r
  ·exact bM1 hb r
section
variable {K : W.Frag} {Ps : List Addr} {bm : Addr} {ob : Obj} {h : Heap}
structure mI (K : W.Frag) (Ps : List Addr) (bm : Addr) (ob : Obj) (h : Heap) : Prop where
 hk : K.In h
 hb : h.get? bm = some ob
 hp : ob.data = .plain
 ht : ∀ P ∈ Ps, h.get? P = some (W.tabObj #[])
theorem dU9 {b : Addr} (h : nW Ps b = true) : b ∈ Ps := by
 obtain ⟨P, h1, h2⟩ := List.any_eq_true.mp h
 rw [<- eq_of_beq h2]; exact h1
theorem mI.isIn (U : mI K Ps bm ob h) : (nE K Ps bm ob).In h := fun a o e => by
 unfold nE at e
 rw [List.lookup_cons] at e
 split at e
 ·rename_i z
  rw [eq_of_beq z, U.hb]; exact e
 ·cases q : nW Ps a with
  | true => rw [bM1 q] at e; cases e
  | false => rw [bA3 q] at e; exact U.hk _ _ e
theorem mI.up (U : mI K Ps bm ob h) {b : Addr} {o : Obj} (e : K.lookup b = some o) (n : o.data ≠ .fields #[]) : (nE K Ps bm ob).lookup b = some o := by
 have hn : nW Ps b = false := by
  cases z : nW Ps b with
  | false => rfl
  | true => have e2 := U.hk _ _ e; rw [U.ht b (dU9 z)] at e2; cases e2; exact absurd rfl n
 unfold nE
 rw [List.lookup_cons]
 split
 ·rename_i z
  have hbb : b = bm := eq_of_beq z
  subst hbb
  rw [<- U.hb, U.hk _ _ e]
 ·rw [bA3 hn]; exact e
theorem mI.code (U : mI K Ps bm ob h) {cd : Value} {q : Str} (e : W.codeIn K cd q = true) : W.codeIn (nE K Ps bm ob) cd q = true := by
 unfold W.codeIn at e ⊢
 split at e
 ·rename_i c
  split at e
  ·rename_i vs _ ho
   have hne : vs ≠ #[] := fun z => by subst z; cases e
   have e2 := U.up ho (fun z => hne (by injection z))
   simp only [e2]
   exact e
  ·cases e
 ·cases e
theorem mI.fn (U : mI K Ps bm ob h) {x qual : Str} {st : Stmt} {f : Addr} {fd : FuncData} (F : bK K x qual st f fd) : bK (nE K Ps bm ob) x qual st f fd := by
 obtain ⟨oc, od, kV, doc, pm, an, cdv, ct, osl, e1, e2, e3⟩ := F.ex
 have e4 := U.up e2 (fun z => by cases z)
 refine ⟨⟨oc, od, kV, doc, pm, an, cdv, ct, osl, e1, e4, U.code e3⟩, ?_⟩
 unfold W.keepIn
 simp only [e4]
end
theorem walk_ofU {l : W.OpenLaw} {k : Nat} {q : Program} {loose : List Str} {XP : (Str -> Option Value) -> Heap -> Prop} {YP : World -> Heap -> Prop} {d : DefRec} {K : Params -> W.Frag} {x : Str} {ts : List Addr}
 (hn : l.most = some 63) (hdf : d.params.defaults = []) (hr : dR k callerA) (hY : ∀ (w : World) (h : Heap), YP w h -> (K w.params).In h) (hZ : ∀ (w : World) (h : Heap), YP w h -> ∀ P ∈ ts, h.get? P = some (W.tabObj #[]))
 (F : ∀ (w : World) (mg : Str -> Option Value) (fa : Addr) (h : Heap), (K w.params).In h -> h.Ns mainGlobals mg -> mg d.name = some (.ref fa) -> (∀ P ∈ ts, h.get? P = some (W.tabObj #[])) ->
   (∃ bm ob, mg "__builtins__" = some (.ref bm) /\ bm ≠ builtinsNs /\ h.get? bm = some ob /\ ob.cls = .type "module" /\ ob.dict = some builtinsNs /\ ob.data = .plain) ->
   ∃ (T : bP) (K' : W.Frag) (fd : FuncData), K'.In h /\ (∀ t ∈ T.L, (∃ c, h.TableAt c t.1 #[]) /\ K'.lookup t.1 = none) /\ (∀ (s : Shared) (u : Value), BindsTo s fd ⟨[u], []⟩ [(x, u)]) /\
     ∀ base : Heap, K'.In base -> base.Ns mainGlobals mg -> bS l.prog w K' mg base bU k fa fd [x] (zX K')) :
 W.WalkO q loose XP YP l.row.toRowW d [] (fun f vs => PySem.call f vs) := by
 refine Att.attach_call hn hdf fun w s₀ s₁ mg mb fa o pm cd doc a vs ns G Y ho hd hcd hmg hobj hints hlen hg => ?_
 obtain ⟨T, K', fd, h1, h2, h3, h4⟩ := F w mg fa _ (hY w _ Y) G.T.g hmg (hZ w _ Y) G.T.bmain
 exact dU8 h1 G.T.g G.T.b G.T.builtins G.T.nolimit hg h2 hobj hints hlen hr h4 h3
end R
end
section
namespace R
open PySem PySem.Spec PyProof.Rows L2
variable [bP] [Pd]
def mJ (w : World) (K : W.Frag) : List DictEntry -> List (Str × D) -> Prop
 | [], [] => True
 | e :: es, (x, d) :: r => e.hash = hashStr w x /\ (∃ t, e.key = .str x t) /\ (∃ v, cJ v e.val /\ ∀ F, bA K F d v) /\ mJ w K es r
 | _, _ => False
structure nX (w : World) (K : W.Frag) (mg : Str -> Option Value) (x : Str) (tbl : List (Str × D)) : Prop where
 ex : ∃ p es ep, mg x = some (.ref p) /\ (p == sysModules) = false /\ K.lookup p = some ⟨.type "dict", none, .dict es ep, #[]⟩ /\ mJ w K es.toList tbl
section
variable {w : World} {K : W.Frag} {P : Program}
theorem cF2 : ∀ {es : List DictEntry} {tbl : List (Str × D)}, mJ w K es tbl -> ∀ e ∈ es, ∃ k, (fW P w).is k e.key = true /\ e.hash = (fW P w).hash k
 | [], _, _, e, h => by cases h
 | e :: es, [], h, _, _ => h.elim
 | e :: es, (x, d) :: r, ⟨h1, ⟨t, h2⟩, _, h4⟩, e', he => by
  rcases List.mem_cons.mp he with rfl | he
  ·exact ⟨.inr x, by rw [h2]; exact pY P w x t, h1⟩
  ·exact cF2 h4 e' he
theorem bM2 (z : Str) : ∀ {es : List DictEntry} {tbl : List (Str × D)}, mJ w K es tbl ->
 (tbl.lookup z = none /\ (es.find? fun e => (fW P w).is (.inr z) e.key).map (·.val) = none) \/ ∃ d v u, tbl.lookup z = some d /\ (es.find? fun e => (fW P w).is (.inr z) e.key).map (·.val) = some u /\ cJ v u /\ ∀ F, bA K F d v
 | [], [], _ => .inl ⟨rfl, rfl⟩
 | [], _ :: _, h => h.elim
 | e :: es, [], h => h.elim
 | e :: es, (x, d) :: r, ⟨h1, ⟨t, h2⟩, ⟨v, h3, h3'⟩, h4⟩ => by
  by_cases hx : z = x
  ·subst hx
   refine .inr ⟨d, v, e.val, by rw [List.lookup_cons, beq_self_eq_true], ?_, h3, h3'⟩
   rw [List.find?_cons, h2, pY]
   rfl
  ·have e1 : (z == x) = false := beq_eq_false_iff_ne.mpr hx
   have e2 : (fW P w).is (.inr z) e.key = false := by
    rw [h2]
    have := KeyKind.is_eq_decide (knd := fW P w) (k := .inr x) (v := .str x t) (pY P w x t) (.inr z)
    rw [this]
    exact decide_eq_false fun q => hx (by injection q)
   rw [List.lookup_cons, e1, List.find?_cons, e2]
   exact bM2 z h4
end
def sC (tbl : List (Str × D)) (neg : Bool) : D -> bC D
 | .str z => .ok (.bl ((tbl.lookup z).isSome != neg))
 | _ => .bad
def wV (tbl : List (Str × D)) : D -> bC D
 | .str z => match tbl.lookup z with
  | some d => .ok d
  | none => .bad
 | _ => .bad
section
variable {X : Cx} {a b : Expr} {f : ME} {x : Str} {pos p : Pos} {tbl : List (Str × D)}
theorem bM3 {pins : List (Addr × Obj)} {σ : St} {H : Hp} {s : Shared} {q : Addr} {es : Array DictEntry} {ep : Nat} (I : bE X pins σ H s) (hk : X.K.lookup q = some ⟨.type "dict", none, .dict es ep, #[]⟩) (he : mJ X.w X.K es.toList tbl) :
 s.heap.MapOf (fW X.prog X.w) q (fun k => findBy (fW X.prog X.w).is es k) :=
 ⟨_, es, ep, I.kIn _ _ hk, ⟨rfl, rfl, rfl⟩, rfl, fun e he' => cF2 he e (by simpa using he'), fun _ => rfl⟩
def wW (K : W.Frag) (w : World) (tbl : List (Str × D)) (neg : Bool) : R2 := fun x y H Q => ∃ z p es ep, x = .str z /\ y = .ref p /\ (p == sysModules) = false /\ K.lookup p = some ⟨.type "dict", none, .dict es ep, #[]⟩ /\ mJ w K es.toList tbl /\ Q (.bl ((tbl.lookup z).isSome != neg)) H
theorem cF3 {w : World} {K : W.Frag} {P : Program} {es : Array DictEntry} (he : mJ w K es.toList tbl) (z : Str) : (findBy (fW P w).is es (.inr z)).isSome = (tbl.lookup z).isSome := by
 rcases bM2 (P := P) z he with ⟨h1, h2⟩ | ⟨d, v, u, h1, h2, _⟩
 ·rw [h1]
  show ((es.find? _).map _).isSome = _
  rw [<- Array.find?_toList, h2]
  rfl
 ·rw [h1]
  show ((es.find? _).map _).isSome = _
  rw [<- Array.find?_toList, h2]
  rfl
theorem cF4 : cI X (compareOp .In) (wW X.K X.w tbl false) := by
 intro pins s σ H x y v u Q I rx ry h
 obtain ⟨z, p, es, ep, rfl, rfl, hs, hk, he, q⟩ := h
 obtain ⟨t, rfl⟩ := rx
 cases (show u = Value.ref p from ry)
 refine wpAny_in_of (knd := fW X.prog X.w) (k := .inr z) (pY _ _ z t) hs (bM3 I hk he) ?_
 rw [cF3 he]
 rw [Bool.bne_false] at q
 exact ⟨.bl _, H, I.tok _, rfl, q⟩
theorem cF5 : cI X (compareOp .NotIn) (wW X.K X.w tbl true) := by
 intro pins s σ H x y v u Q I rx ry h
 obtain ⟨z, p, es, ep, rfl, rfl, hs, hk, he, q⟩ := h
 obtain ⟨t, rfl⟩ := rx
 cases (show u = Value.ref p from ry)
 refine wpAny_notIn_of (knd := fW X.prog X.w) (k := .inr z) (pY _ _ z t) hs (bM3 I hk he) ?_
 rw [cF3 he]
 rw [Bool.bne_true] at q
 exact ⟨.bl _, H, I.tok _, rfl, q⟩
def cF6 (K : W.Frag) (w : World) (tbl : List (Str × D)) : R2 := fun x y H Q => ∃ z p es ep, x = .ref p /\ y = .str z /\ K.lookup p = some ⟨.type "dict", none, .dict es ep, #[]⟩ /\ mJ w K es.toList tbl /\ ∃ d, tbl.lookup z = some d /\ ∀ v, (∀ F, bA K F d v) -> Q v H
theorem dV0 : qC X (cF6 X.K X.w tbl) := by
 intro value slice pins s σ H x y v u Q I rx ry h hs
 obtain ⟨z, p, es, ep, rfl, rfl, hk, he, d, hd, q⟩ := h
 cases (show v = Value.ref p from rx)
 obtain ⟨t, rfl⟩ := ry
 have hm := bM3 I hk he
 rcases bM2 (P := X.prog) z he with ⟨h1, _⟩ | ⟨d', v', u', h1, h2, h3, h4⟩
 ·rw [hd] at h1; cases h1
 ·rw [hd] at h1; cases h1
  have hf : (fun k => findBy (fW X.prog X.w).is es k) (.inr z) = some u' := by
   show (es.find? _).map _ = _
   rw [<- Array.find?_toList, h2]
  exact subscriptTail_builtinR (x := u') hm.typeIs slot_dict_getitem.lookup (wpAny_getItem_of (Q := fun r s' => r = u' /\ EP X pins σ Q r s') (pY _ _ z t) hm hf ⟨rfl, v', H, I.tok _, h3, q v' h4⟩) hs
theorem tD1 {r : V -> Hp -> VK -> Prop} {m : D -> bC D} (hd : wF X r m) {σ : St} {H : Hp} {Q : VK} (q : tD X (m1 m f) σ H Q) : tD X f σ H fun v H1 => r v H1 Q := by
 obtain ⟨ρ, F, E, q⟩ := q
 refine ⟨ρ, F, E, ?_⟩
 have q1 := fA (R1 := bA X.K) q
 revert q1
 cases f ρ with
 | ok d =>
  intro q1 v F1 H1 g1 d1
  obtain ⟨F2, d', g2, d2, q2⟩ := q1 v F1 H1 g1 d1
  exact hd F2 H1 d' v Q g2.sub d2 q2
 | ex _ => exact fun q1 => q1
 | bad => exact fun q1 => q1
theorem cF7 {p : Addr} {es : Array DictEntry} {ep : Nat} {neg : Bool} (hs : (p == sysModules) = false) (hk : X.K.lookup p = some ⟨.type "dict", none, .dict es ep, #[]⟩) (he : mJ X.w X.K es.toList tbl) : wF X (fun x H Q => wW X.K X.w tbl neg x (.ref p) H Q) (sC tbl neg) := fun F H d v Q s h q => by
 cases d with
 | str z =>
  simp only [bA] at h
  exact ⟨z, p, es, ep, h.1, rfl, hs, hk, he, cF q s (by simp only [bA])⟩
 | _ => exact q.elim
theorem dV1 {p : Addr} {es : Array DictEntry} {ep : Nat} (hk : X.K.lookup p = some ⟨.type "dict", none, .dict es ep, #[]⟩) (he : mJ X.w X.K es.toList tbl) : wF X (fun y H Q => cF6 X.K X.w tbl (.ref p) y H Q) (wV tbl) := fun F H d v Q s h q => by
 cases d with
 | str z =>
  simp only [bA] at h
  unfold wV at q
  cases hl : tbl.lookup z with
  | none => simp only [hl] at q; exact q.elim
  | some d =>
   simp only [hl] at q
   exact ⟨z, p, es, ep, rfl, h.1, hk, he, d, hl, fun v' hv => cF q s (hv F)⟩
 | _ => exact q.elim
theorem cF8 {op : CmpOp} {neg : Bool} (hop : (op = .In /\ neg = false) \/ (op = .NotIn /\ neg = true)) (C : nX X.w X.K X.mg x tbl) (hg : X.env.scope.names.lookup x = some .globalImplicit) (hd : (x == ("__debug__" : Str)) = false) (hm : behindInMarks op (.Name x p) = false) (ha : IE X a f) :
 IE X (.Compare a [op] [.Name x p] pos) (m1 (sC tbl neg) f) := by
 obtain ⟨q, es, ep, h1, h2, h3, h4⟩ := C.ex
 have ho : cI X (compareOp op) (wW X.K X.w tbl neg) := by
  rcases hop with ⟨rfl, rfl⟩ | ⟨rfl, rfl⟩
  ·exact cF4
  ·exact cF5
 exact fL (bW7 ho ha (yI (v := .ref q) hg h1 rfl hd) hm) fun σ H Q z => tD1 (cF7 h2 h3 h4) z
theorem cF9 {op : CmpOp} {neg : Bool} (hop : (op = .In /\ neg = false) \/ (op = .NotIn /\ neg = true)) (C : nX X.w X.K X.mg x tbl) (hg : X.env.scope.names.lookup x = some .globalImplicit) (hd : (x == ("__debug__" : Str)) = false) (hm : behindInMarks op (.Name x p) = false) (ha : IE X a f) :
 IT X (.Compare a [op] [.Name x p] pos) (mB (m1 (sC tbl neg) f)) := by
 obtain ⟨q, es, ep, h1, h2, h3, h4⟩ := C.ex
 have ho : cI X (compareOp op) (wW X.K X.w tbl neg) := by
  rcases hop with ⟨rfl, rfl⟩ | ⟨rfl, rfl⟩
  ·exact cF4
  ·exact cF5
 exact qF (bW9 ho ha (yI (v := .ref q) hg h1 rfl hd) hm) fun σ H Q z => bJ2 (f := m1 (sC tbl neg) f) (fun _ _ _ z => tD1 (cF7 h2 h3 h4) z) z
theorem dV2 (C : nX X.w X.K X.mg x tbl) (hg : X.env.scope.names.lookup x = some .globalImplicit) (hd : (x == ("__debug__" : Str)) = false) (hs : bA0 b = true) (ha : IE X b f) : IE X (.Subscript (.Name x p) b pos) (m1 (wV tbl) f) := by
 obtain ⟨q, es, ep, h1, h2, h3, h4⟩ := C.ex
 exact fL (bY1 dV0 (yI (v := .ref q) hg h1 rfl hd) ha (cE8 hs)) fun σ H Q z => tD1 (dV1 h3 h4) z
end
end R
end
section
namespace R
open PySem PySem.Spec PyProof.Rows L2
variable [bP] [Pd]
section
variable {X : Cx} {e1 e2 : Expr} {f1 f2 : ME} {xr xn : Str} {pos p pn : Pos}
end
end R
end
section
namespace R
open PySem PySem.Spec PyProof.Rows L2
def gR (tp : Bool) (h : Heap) (it l : Addr) (k : Nat) : Prop := match tp with
 | true => h.IsTupleIter it l k
 | false => h.IsListIter it l k
def kU (tp : Bool) (h : Heap) (l : Addr) (ys : Array Value) : Prop := match tp with
 | true => h.IsTuple l ys
 | false => h.IsList l ys
section
variable {prog : Program} {w : World} {A : Around} {E : Value -> Shared -> Prop} {s : Shared}
theorem gR.at_ {tp : Bool} {h h' : Heap} {it l : Addr} {k : Nat} (x : gR tp h it l k) (f : ∀ o, h.get? it = some o -> h'.get? it = some o) : gR tp h' it l k := by
 cases tp
 ·exact Heap.IsListIter.at x f
 ·exact Heap.IsTupleIter.at x f
theorem kU.at_ {tp : Bool} {h h' : Heap} {l : Addr} {ys : Array Value} (x : kU tp h l ys) (f : ∀ o, h.get? l = some o -> h'.get? l = some o) : kU tp h' l ys := by
 cases tp
 ·exact Heap.IsList.at x f
 ·exact Heap.IsTuple.at x f
theorem gR.obj {tp : Bool} {h : Heap} {it l : Addr} {k : Nat} (x : gR tp h it l k) : ∃ o, h.get? it = some o /\ (o.cls = .type "tuple_iterator" \/ o.cls = .type "list_iterator") /\ o.data = .fields #[.ref l, .int k 0] := by
 cases tp
 ·obtain ⟨o, h1, h2, h3⟩ := x; exact ⟨o, h1, .inr h2, h3⟩
 ·obtain ⟨o, h1, h2, h3⟩ := x; exact ⟨o, h1, .inl h2, h3⟩
theorem dV3 {it l : Addr} {i : Nat} {ys : Array Value} {x : Value} {Q : Value -> Shared -> Prop} (hit : s.heap.IsTupleIter it l i) (hl : s.heap.IsTuple l ys) (hx : ys[i]? = some x)
 (hQ : ∀ h', h'.IsTupleIter it l (i + 1) -> Heap.SameBut it s.heap h' -> Q x { s with heap := h' }) : wpAny (model prog w) A (Builtin.SmallTypes.nextOf (.ref it)) Q E s := by
 obtain ⟨o, ho, hc, hd⟩ := id hit; obtain ⟨ol, hol, _, nl, hdl⟩ := hl; unfold Builtin.SmallTypes.nextOf
 refine wpAny_bind (wpAny_callSpecial?_slot (name := Str.ofString "__next__") hit.typeIs F.slot_tuple_iterator_next (wpAny_call_entry F.slot_tuple_iterator_next hit.typeIs F.entry_tuple_iterator_next ?_ (F.args_tuple_iterator_next_1 _)))
 show wpAny _ _ (field (.ref it) 0 >>= _) _ _ s; refine wpAny_bind (wpAny_field ho hd (x := .ref l) rfl ?_)
 show wpAny _ _ (if (Value.ref l == Value.none) = true then _ else _) _ _ s; rw [if_neg (show ¬ ((Value.ref l == Value.none) = true) from Bool.false_ne_true)]
 show wpAny _ _ (field (.ref it) 1 >>= _) _ _ s; refine wpAny_bind (wpAny_field ho hd (x := .int i 0) rfl ?_)
 show wpAny _ _ (seqItems? (.ref l) >>= _) _ _ s; refine wpAny_bind (wpAny_seqItems hol hdl ?_); simp only [Int.toNat_natCast, hx]
 refine wpAny_bind (wpAny_setField ho hd (by simp) (wpAny_pure ⟨x, rfl, wpAny_pure (hQ _ ⟨_, Heap.get?_update_self _ ho (Obj.isFreed_of_fields (Obj.data_mapFields hd _)), (Obj.cls_mapFields ..).trans hc, by rw [Obj.data_mapFields hd]; simp [rawInt]⟩ (Heap.SameBut.update ..))⟩))
theorem dV4 {it l : Addr} {i : Nat} {ys : Array Value} {Q : Value -> Shared -> Prop} (hh : A.handled = none) (hit : s.heap.IsTupleIter it l i) (hl : s.heap.IsTuple l ys) (hx : ys[i]? = none)
 (hE : ∀ h' e, Heap.ExtBut it s.heap h' -> (∃ o, h'.get? e = some o /\ o.cls = .type "StopIteration") -> E (.ref e) { s with heap := h' }) : wpAny (model prog w) A (Builtin.SmallTypes.nextOf (.ref it)) Q E s := by
 obtain ⟨o, ho, hc, hd⟩ := id hit; obtain ⟨ol, hol, _, nl, hdl⟩ := hl; unfold Builtin.SmallTypes.nextOf
 refine wpAny_bind (wpAny_callSpecial?_slot (name := Str.ofString "__next__") hit.typeIs F.slot_tuple_iterator_next (wpAny_call_entry F.slot_tuple_iterator_next hit.typeIs F.entry_tuple_iterator_next ?_ (F.args_tuple_iterator_next_1 _)))
 show wpAny _ _ (field (.ref it) 0 >>= _) _ _ s; refine wpAny_bind (wpAny_field ho hd (x := .ref l) rfl ?_)
 show wpAny _ _ (if (Value.ref l == Value.none) = true then _ else _) _ _ s; rw [if_neg (show ¬ ((Value.ref l == Value.none) = true) from Bool.false_ne_true)]
 show wpAny _ _ (field (.ref it) 1 >>= _) _ _ s; refine wpAny_bind (wpAny_field ho hd (x := .int i 0) rfl ?_)
 show wpAny _ _ (seqItems? (.ref l) >>= _) _ _ s; refine wpAny_bind (wpAny_seqItems hol hdl ?_); simp only [Int.toNat_natCast, hx]
 refine wpAny_bind (wpAny_rule (wpAny_bind (wpAny_setField ho hd (by simp) ?_))); show wpAny _ _ (newExc (.type "StopIteration") [] >>= _) _ _ _
 refine wpAny_bind ?_; simp only [newExc, newTuple]; refine wpAny_bind (wpAny_newObj_type ?_ (by size_fits))
 refine wpAny_bind (m := firstArgMember _ _) (wpAny_of_eq (a := Value.none) (by first | rfl | (simp only [firstArgMember]; rfl)) ?_); refine wpAny_newObj_type ?_ (by size_fits)
 simp only [raiseNew]; refine wpAny_bind (wpAny_handled ?_); first | rw [show A.in1.handled = none from hh] | rw [hh]
 refine wpAny_bind (wpAny_pure (wpAny_throw ?_)); exact hE _ _ (((Heap.SameBut.update ..).extBut.push _).push _) ⟨_, Heap.get?_push_size _ rfl, rfl⟩
theorem bM5 {tp : Bool} {it l : Addr} {i : Nat} {ys : Array Value} {x : Value} {Q : Value -> Shared -> Prop} (hit : gR tp s.heap it l i) (hl : kU tp s.heap l ys) (hx : ys[i]? = some x)
 (hQ : ∀ h', gR tp h' it l (i + 1) -> Heap.SameBut it s.heap h' -> Q x { s with heap := h' }) : wpAny (model prog w) A (Builtin.SmallTypes.nextOf (.ref it)) Q E s := by
 cases tp
 ·exact wpAny_nextOf_list_item hit hl hx hQ
 ·exact dV3 hit hl hx hQ
theorem cG0 {tp : Bool} {it l : Addr} {i : Nat} {ys : Array Value} {Q : Value -> Shared -> Prop} (hh : A.handled = none) (hit : gR tp s.heap it l i) (hl : kU tp s.heap l ys) (hx : ys[i]? = none)
 (hE : ∀ h' e, Heap.ExtBut it s.heap h' -> (∃ o, h'.get? e = some o /\ o.cls = .type "StopIteration") -> E (.ref e) { s with heap := h' }) : wpAny (model prog w) A (Builtin.SmallTypes.nextOf (.ref it)) Q E s := by
 cases tp
 ·exact wpAny_nextOf_list_end hh hit hl hx hE
 ·exact dV4 hh hit hl hx hE
end
end R
end
section
namespace R
open PySem PySem.Spec PyProof.Rows L2
section
variable {prog : Program} {w : World} {A : Around} {E : Value -> Shared -> Prop} {s : Shared} {t1 t2 : Bool}
theorem dV5 {z TI TO i1 i2 l1 l2 : Addr} {k1 k2 : Nat} {xs ys : Array Value} {x y a b : Value} {Q : Option Value -> Shared -> Prop} (D : ZipApart z TI TO i1 i2 l1 l2)
 (hz : IsZip s.heap z TI TO .none) (hTI : IsPair s.heap TI (.ref i1) (.ref i2)) (hTO : IsPair s.heap TO a b) (h1 : gR t1 s.heap i1 l1 k1) (h2 : gR t2 s.heap i2 l2 k2) (hl1 : kU t1 s.heap l1 xs) (hl2 : kU t2 s.heap l2 ys) (hx : xs[k1]? = some x) (hy : ys[k2]? = some y)
 (hQ : ∀ h', IsZip h' z TI TO (rawInt s.heap.objs.size) -> IsPair h' TO x y -> gR t1 h' i1 l1 (k1 + 1) -> gR t2 h' i2 l2 (k2 + 1) -> IsPair h' s.heap.objs.size x y -> h'.objs.size = s.heap.objs.size + 1 ->
   (∀ c o, c ≠ z -> c ≠ TO -> c ≠ i1 -> c ≠ i2 -> s.heap.get? c = some o -> h'.get? c = some o) -> Q (some (.ref s.heap.objs.size)) { s with heap := h' }) : wpAny (model prog w) A (pyNext (.ref z)) Q E s := by
 have hT : s.TypeIs (.ref z) "zip" := ⟨_, hz, rfl⟩
 unfold pyNext
 refine wpAny_bind (wpAny_attempt (wpAny_callSpecial?_slot (name := Str.ofString "__next__") hT F.slot_zip_next (wpAny_call_entry F.slot_zip_next hT F.entry_zip_next (wpAny_mono (Q := fun fin s' => ∃ v, fin = .done (.ret v) /\ Q (some v) s') ?_ (fun fin s' h => ?_) fun _ _ e => e) (F.args_zip_next_1 _))))
 ·show wpAny _ _ (field (.ref z) 2 >>= _) _ _ _; refine wpAny_bind (wpAny_field hz rfl (x := .bool false) rfl ?_)
  show wpAny _ _ (field (.ref z) 3 >>= _) _ _ _; refine wpAny_bind (wpAny_field hz rfl (x := .ref TI) rfl ?_); refine wpAny_bind (wpAny_seqItems hTI rfl ?_)
  show wpAny _ _ (Builtin.SmallTypes.ownedTupleIsFree (.ref z) >>= _) _ _ _; refine wpAny_bind ?_; unfold Builtin.SmallTypes.ownedTupleIsFree
  refine wpAny_bind (wpAny_field hz rfl (x := .none) rfl (wpAny_pure ?_)); simp only [if_true]
  refine wpAny_bind (wpAny_rule (wpAny_bind (wpAny_field hz rfl (x := .ref TO) rfl (wpAny_bind (wpAny_setField_rec hz (by simp) fun h₁ hz₁ hs₁ => ?_)))))
  replace hz₁ : IsZip h₁ z TI TO .ellipsis := hz₁; refine wpAny_bind ?_; simp only [List.zipIdx_cons, List.zipIdx_nil, List.forIn_cons, List.forIn_nil]
  refine wpAny_bind (wpAny_bind (wpAny_onRaise ?_)); show wpAny _ _ (Builtin.SmallTypes.nextOf (.ref i1) >>= _) _ _ _
  refine wpAny_bind (bM5 (h1.at_ fun o e => hs₁.extBut _ _ D.i1z e) (hl1.at_ fun o e => hs₁.extBut _ _ D.l1z e) hx fun h₂ h1₂ hs₂ => wpAny_pure ?_)
  have q2 : IsPair h₂ TO a b := hs₂.extBut _ _ D.TOi1 (hs₁.extBut _ _ D.TOz hTO)
  refine wpAny_bind (wpAny_seqItems q2 rfl (wpAny_bind (wpAny_updateSeq_pair q2 fun h₃ q3 hs₃ => ?_))); replace q3 : IsPair h₃ TO x b := q3
  refine wpAny_bind (wpAny_letGo (wpAny_pure (wpAny_bind (wpAny_bind (wpAny_onRaise ?_))))); show wpAny _ _ (Builtin.SmallTypes.nextOf (.ref i2) >>= _) _ _ _
  have up3 : ∀ c o, c ≠ z -> c ≠ i1 -> c ≠ TO -> s.heap.get? c = some o -> h₃.get? c = some o := fun c o c1 c2 c3 e => hs₃.extBut _ _ c3 (hs₂.extBut _ _ c2 (hs₁.extBut _ _ c1 e))
  refine wpAny_bind (bM5 (h2.at_ fun o e => up3 _ o D.i2z D.i12.symm D.TOi2.symm e) (hl2.at_ fun o e => up3 _ o D.l2z D.l2i1 D.l2TO e) hy fun h₄ h2₄ hs₄ => wpAny_pure ?_)
  have q4 : IsPair h₄ TO x b := hs₄.extBut _ _ D.TOi2 q3
  refine wpAny_bind (wpAny_seqItems q4 rfl (wpAny_bind (wpAny_updateSeq_pair q4 fun h₅ q5 hs₅ => ?_))); replace q5 : IsPair h₅ TO x y := q5
  refine wpAny_bind (wpAny_letGo (wpAny_pure (wpAny_pure (wpAny_bind (wpAny_seqItems q5 rfl (wpAny_bind (wpAny_newTuple ?_)))))))
  have hsz : h₅.objs.size = s.heap.objs.size := by rw [hs₅.1, hs₄.1, hs₃.1, hs₂.1, hs₁.1]
  have z5 : IsZip h₅ z TI TO .ellipsis := hs₅.extBut _ _ D.TOz.symm (hs₄.extBut _ _ D.i2z.symm (hs₃.extBut _ _ D.TOz.symm (hs₂.extBut _ _ D.i1z.symm hz₁)))
  have up5 : ∀ c o, c ≠ z -> c ≠ TO -> c ≠ i1 -> c ≠ i2 -> s.heap.get? c = some o -> h₅.get? c = some o := fun c o c1 c2 c3 c4 e => hs₅.extBut _ _ c2 (hs₄.extBut _ _ c4 (up3 c o c1 c3 c2 e))
  have a1 : gR t1 h₅ i1 l1 (k1 + 1) := h1₂.at_ fun o e => hs₅.extBut _ _ D.TOi1.symm (hs₄.extBut _ _ D.i12 (hs₃.extBut _ _ D.TOi1.symm e))
  have a2 : gR t2 h₅ i2 l2 (k2 + 1) := h2₄.at_ fun o e => hs₅.extBut _ _ D.TOi2.symm e
  have ltz : z < h₅.objs.size := Heap.lt_size z5
  show wpAny _ _ (Builtin.SmallTypes.ownedTupleHandOut (.ref z) (.ref h₅.objs.size) >>= _) _ _ _; refine wpAny_bind ?_; unfold Builtin.SmallTypes.ownedTupleHandOut
  have z6 : IsZip (h₅.push { cls := .type "tuple", data := .seq #[x, y] }) z TI TO .ellipsis := Heap.get?_push_of_some _ z5
  refine wpAny_bind (wpAny_setField_rec z6 (by simp) fun h₇ z7 hs₇ => ?_); replace z7 : IsZip h₇ z TI TO (rawInt h₅.objs.size) := z7
  refine wpAny_setField_rec z7 (by simp) fun h₈ z8 hs₈ => ?_; replace z8 : IsZip h₈ z TI TO (rawInt h₅.objs.size) := z8
  have up : ∀ c o, c ≠ z -> h₅.get? c = some o -> h₈.get? c = some o := fun c o c1 e => hs₈.extBut _ _ c1 (hs₇.extBut _ _ c1 (Heap.get?_push_of_some _ e))
  have p8 : IsPair h₈ h₅.objs.size x y := hs₈.extBut _ _ (Nat.ne_of_gt ltz) (hs₇.extBut _ _ (Nat.ne_of_gt ltz) (Heap.get?_push_size _ rfl))
  have s8 : h₈.objs.size = h₅.objs.size + 1 := by rw [hs₈.1, hs₇.1, Heap.size_push]
  rw [hsz] at z8 p8 s8
  refine wpAny_pure ⟨_, rfl, ?_⟩; show Q (some (.ref h₅.objs.size)) _; rw [hsz]
  exact hQ h₈ z8 (up _ _ D.TOz q5) (a1.at_ fun o e => up _ o D.i1z e) (a2.at_ fun o e => up _ o D.i2z e) p8 s8 fun c o c1 c2 c3 c4 e => up c o c1 (up5 c o c1 c2 c3 c4 e)
 ·obtain ⟨v, rfl, h⟩ := h
  exact ⟨v, rfl, wpAny_pure h⟩
theorem dV6 {z TI TO i1 i2 l1 l2 : Addr} {k1 k2 : Nat} {xs ys : Array Value} {a b : Value} {Q : Option Value -> Shared -> Prop} (hh : A.handled = none) (D : ZipApart z TI TO i1 i2 l1 l2)
 (hz : IsZip s.heap z TI TO .none) (hTI : IsPair s.heap TI (.ref i1) (.ref i2)) (hTO : IsPair s.heap TO a b) (h1 : gR t1 s.heap i1 l1 k1) (h2 : gR t2 s.heap i2 l2 k2) (hl1 : kU t1 s.heap l1 xs) (hl2 : kU t2 s.heap l2 ys) (hend : xs[k1]? = none \/ ys[k2]? = none)
 (hQ : ∀ h', (∀ c o, c ≠ z -> c ≠ TO -> c ≠ i1 -> c ≠ i2 -> s.heap.get? c = some o -> h'.get? c = some o) -> Q none { s with heap := h' }) : wpAny (model prog w) A (pyNext (.ref z)) Q E s := by
 have hT : s.TypeIs (.ref z) "zip" := ⟨_, hz, rfl⟩
 unfold pyNext
 have fin : ∀ h' e, (∀ c o, c ≠ z -> c ≠ TO -> c ≠ i1 -> c ≠ i2 -> s.heap.get? c = some o -> h'.get? c = some o) -> (∃ o, h'.get? e = some o /\ o.cls = .type "StopIteration") ->
  wpAny (model prog w) A (do if (<- isInstance (.ref e) (.type "StopIteration")) = true then pure none else throw (.ref e)) Q E { s with heap := h' } := fun h' e hk he => by
  obtain ⟨o, ho, hc⟩ := he
  exact wpAny_bind (wpAny_isInstance (T := "StopIteration") (b := true) ⟨o, ho, hc⟩ isSubtype_stop (wpAny_pure (hQ _ hk)))
 refine wpAny_bind (wpAny_attempt (wpAny_callSpecial?_slot (name := Str.ofString "__next__") hT F.slot_zip_next (wpAny_call_entry F.slot_zip_next hT F.entry_zip_next ?_ (F.args_zip_next_1 _))))
 show wpAny _ _ (field (.ref z) 2 >>= _) _ _ _; refine wpAny_bind (wpAny_field hz rfl (x := .bool false) rfl ?_)
 show wpAny _ _ (field (.ref z) 3 >>= _) _ _ _; refine wpAny_bind (wpAny_field hz rfl (x := .ref TI) rfl ?_); refine wpAny_bind (wpAny_seqItems hTI rfl ?_)
 show wpAny _ _ (Builtin.SmallTypes.ownedTupleIsFree (.ref z) >>= _) _ _ _; refine wpAny_bind ?_; unfold Builtin.SmallTypes.ownedTupleIsFree
 refine wpAny_bind (wpAny_field hz rfl (x := .none) rfl (wpAny_pure ?_)); simp only [if_true]
 refine wpAny_bind (wpAny_rule (wpAny_bind (wpAny_field hz rfl (x := .ref TO) rfl (wpAny_bind (wpAny_setField_rec hz (by simp) fun h₁ hz₁ hs₁ => ?_)))))
 replace hz₁ : IsZip h₁ z TI TO .ellipsis := hz₁; refine wpAny_bind ?_; simp only [List.zipIdx_cons, List.zipIdx_nil, List.forIn_cons, List.forIn_nil]
 refine wpAny_bind (wpAny_bind (wpAny_onRaise ?_)); show wpAny _ _ (Builtin.SmallTypes.nextOf (.ref i1) >>= _) _ _ _
 cases hx : xs[k1]? with
 | none =>
  refine wpAny_bind (cG0 hh (h1.at_ fun o e => hs₁.extBut _ _ D.i1z e) (hl1.at_ fun o e => hs₁.extBut _ _ D.l1z e) hx fun h₂ e hs₂ he => ?_)
  obtain ⟨oe, hoe, hce⟩ := he; have z2 : IsZip h₂ z TI TO .ellipsis := hs₂ _ _ D.i1z.symm hz₁
  have hez : e ≠ z := fun x => by subst x; rw [z2] at hoe; cases hoe; simp at hce
  refine wpAny_setField_rec z2 (by simp) fun h₃ _ hs₃ => fin h₃ e (fun c o c1 _ c3 _ x => hs₃.extBut _ _ c1 (hs₂ _ _ c3 (hs₁.extBut _ _ c1 x))) ⟨oe, hs₃.extBut _ _ hez hoe, hce⟩
 | some x =>
  have hy : ys[k2]? = none := by rcases hend with h | h; rw [hx] at h; cases h; exact h
  refine wpAny_bind (bM5 (h1.at_ fun o e => hs₁.extBut _ _ D.i1z e) (hl1.at_ fun o e => hs₁.extBut _ _ D.l1z e) hx fun h₂ h1₂ hs₂ => wpAny_pure ?_)
  have q2 : IsPair h₂ TO a b := hs₂.extBut _ _ D.TOi1 (hs₁.extBut _ _ D.TOz hTO)
  refine wpAny_bind (wpAny_seqItems q2 rfl (wpAny_bind (wpAny_updateSeq_pair q2 fun h₃ q3 hs₃ => ?_)))
  refine wpAny_bind (wpAny_letGo (wpAny_pure (wpAny_bind (wpAny_bind (wpAny_onRaise ?_))))); show wpAny _ _ (Builtin.SmallTypes.nextOf (.ref i2) >>= _) _ _ _
  have up3 : ∀ c o, c ≠ z -> c ≠ i1 -> c ≠ TO -> s.heap.get? c = some o -> h₃.get? c = some o := fun c o c1 c2 c3 e => hs₃.extBut _ _ c3 (hs₂.extBut _ _ c2 (hs₁.extBut _ _ c1 e))
  refine wpAny_bind (cG0 hh (h2.at_ fun o e => up3 _ o D.i2z D.i12.symm D.TOi2.symm e) (hl2.at_ fun o e => up3 _ o D.l2z D.l2i1 D.l2TO e) hy fun h₄ e hs₄ he => ?_)
  obtain ⟨oe, hoe, hce⟩ := he; have z4 : IsZip h₄ z TI TO .ellipsis := hs₄ _ _ D.i2z.symm (hs₃.extBut _ _ D.TOz.symm (hs₂.extBut _ _ D.i1z.symm hz₁))
  have hez : e ≠ z := fun x => by subst x; rw [z4] at hoe; cases hoe; simp at hce
  refine wpAny_setField_rec z4 (by simp) fun h₅ _ hs₅ => fin h₅ e (fun c o c1 c2 c3 c4 x => hs₅.extBut _ _ c1 (hs₄ _ _ c4 (up3 c o c1 c3 c2 x))) ⟨oe, hs₅.extBut _ _ hez hoe, hce⟩
end
end R
end
section
namespace R
open PySem PySem.Spec PyProof.Rows L2
def sD (tp : Bool) (l : Addr) : Obj := match tp with
 | true => { cls := .type "tuple_iterator", data := .fields #[.ref l, .int 0 0] }
 | false => { cls := .type "list_iterator", data := .fields #[.ref l, .int 0 0] }
abbrev zA (t1 : Bool) (h : Heap) (l1 : Addr) : Heap := h.push (sD t1 l1)
abbrev zB (t1 t2 : Bool) (h : Heap) (l1 l2 : Addr) : Heap := (zA t1 h l1).push (sD t2 l2)
abbrev zC (t1 t2 : Bool) (h : Heap) (l1 l2 : Addr) : Heap := (zB t1 t2 h l1 l2).push { cls := .type "tuple", data := .seq #[.ref h.objs.size, .ref (zA t1 h l1).objs.size] }
abbrev zD (t1 t2 : Bool) (h : Heap) (l1 l2 : Addr) : Heap := (zC t1 t2 h l1 l2).push { cls := .type "tuple", data := .seq #[.none, .none] }
abbrev zE (t1 t2 : Bool) (h : Heap) (l1 l2 : Addr) : Heap := (zD t1 t2 h l1 l2).push { cls := .type "zip", data := .fields #[.none, .bool false, .bool false, .ref (zB t1 t2 h l1 l2).objs.size, .ref (zC t1 t2 h l1 l2).objs.size] }
theorem dV7 (t1 t2 : Bool) (l1 l2 : Addr) (xs ys : Array Value) : Meets (Builtin.«zip.__new__» ⟨[.type "zip", .ref l1, .ref l2], []⟩) (fun _ R s => kU t1 s.heap l1 xs /\ kU t2 s.heap l2 ys /\ R (.ok (.ret (.ref (zD t1 t2 s.heap l1 l2).objs.size))) { s with heap := zE t1 t2 s.heap l1 l2 }) :=
 .of_wp fun prog w A R s h => by
  obtain ⟨hp, g, d, tk, os⟩ := s; obtain ⟨hl1, hl2, h⟩ := h
  have hsub := sub_zip
  cases t1 <;> cases t2
  ·have hL1 : Heap.IsList (Shared.heap ⟨hp, g, d, tk, os⟩) l1 xs := hl1
   have hL2 : Heap.IsList (Shared.heap ⟨hp.push { cls := .type "list_iterator", data := .fields #[.ref l1, .int 0 0] }, g, d, tk, os⟩) l2 ys := Heap.IsList.push hl2 _
   wp_walk using wpAny_pyIter_list hL1, wpAny_pyIter_list hL2
   exact ⟨_, rfl, h⟩
  ·have hL1 : Heap.IsList (Shared.heap ⟨hp, g, d, tk, os⟩) l1 xs := hl1
   have hL2 : Heap.IsTuple (Shared.heap ⟨hp.push { cls := .type "list_iterator", data := .fields #[.ref l1, .int 0 0] }, g, d, tk, os⟩) l2 ys := Heap.IsTuple.push hl2 _
   wp_walk using wpAny_pyIter_list hL1, wpAny_pyIter_tuple hL2
   exact ⟨_, rfl, h⟩
  ·have hL1 : Heap.IsTuple (Shared.heap ⟨hp, g, d, tk, os⟩) l1 xs := hl1
   have hL2 : Heap.IsList (Shared.heap ⟨hp.push { cls := .type "tuple_iterator", data := .fields #[.ref l1, .int 0 0] }, g, d, tk, os⟩) l2 ys := Heap.IsList.push hl2 _
   wp_walk using wpAny_pyIter_tuple hL1, wpAny_pyIter_list hL2
   exact ⟨_, rfl, h⟩
  ·have hL1 : Heap.IsTuple (Shared.heap ⟨hp, g, d, tk, os⟩) l1 xs := hl1
   have hL2 : Heap.IsTuple (Shared.heap ⟨hp.push { cls := .type "tuple_iterator", data := .fields #[.ref l1, .int 0 0] }, g, d, tk, os⟩) l2 ys := Heap.IsTuple.push hl2 _
   wp_walk using wpAny_pyIter_tuple hL1, wpAny_pyIter_tuple hL2
   exact ⟨_, rfl, h⟩
theorem cG1 {tp : Bool} {h : Heap} {a l : Addr} (e : h.get? a = some (sD tp l)) : gR tp h a l 0 := by
 cases tp
 ·exact ⟨_, e, rfl, rfl⟩
 ·exact ⟨_, e, rfl, rfl⟩
section
variable {prog : Program} {w : World} {A : Around} {E : Value -> Shared -> Prop} {s : Shared} {t1 t2 : Bool}
theorem dV8 {l1 l2 : Addr} {xs ys : Array Value} {Q : Value -> Shared -> Prop} (hl1 : kU t1 s.heap l1 xs) (hl2 : kU t2 s.heap l2 ys)
 (h : ∀ h', IsZip h' (s.heap.objs.size + 4) (s.heap.objs.size + 2) (s.heap.objs.size + 3) .none -> IsPair h' (s.heap.objs.size + 2) (.ref s.heap.objs.size) (.ref (s.heap.objs.size + 1)) ->
   IsPair h' (s.heap.objs.size + 3) .none .none -> gR t1 h' s.heap.objs.size l1 0 -> gR t2 h' (s.heap.objs.size + 1) l2 0 -> h'.objs.size = s.heap.objs.size + 5 ->
   (∀ c o, s.heap.get? c = some o -> h'.get? c = some o) -> Q (.ref (s.heap.objs.size + 4)) { s with heap := h' }) : wpAny (model prog w) A (call (.type "zip") [.ref l1, .ref l2]) Q E s := by
 refine callType_new F.called_zip (by decide) (F.typeCall_zip_2 _ _) (F.newCall_zip_2 _ _) (fun obj => F.args_object_init_3 obj _ _) F.entry_zip_new (dV7 t1 t2 l1 l2 xs ys) ⟨hl1, hl2, ?_⟩
 have n1 : (zA t1 s.heap l1).objs.size = s.heap.objs.size + 1 := Heap.size_push ..
 have n2 : (zB t1 t2 s.heap l1 l2).objs.size = s.heap.objs.size + 2 := by rw [Heap.size_push, n1]
 have n3 : (zC t1 t2 s.heap l1 l2).objs.size = s.heap.objs.size + 3 := by rw [Heap.size_push, n2]
 have n4 : (zD t1 t2 s.heap l1 l2).objs.size = s.heap.objs.size + 4 := by rw [Heap.size_push, n3]
 have n5 : (zE t1 t2 s.heap l1 l2).objs.size = s.heap.objs.size + 5 := by rw [Heap.size_push, n4]
 have g5 : (zE t1 t2 s.heap l1 l2).get? (zD t1 t2 s.heap l1 l2).objs.size = some _ := Heap.get?_push_size _ rfl
 have g4 : (zE t1 t2 s.heap l1 l2).get? (zC t1 t2 s.heap l1 l2).objs.size = some _ := Heap.get?_push_of_some _ (Heap.get?_push_size _ rfl)
 have g3 : (zE t1 t2 s.heap l1 l2).get? (zB t1 t2 s.heap l1 l2).objs.size = some _ := Heap.get?_push_of_some _ (Heap.get?_push_of_some _ (Heap.get?_push_size _ rfl))
 have itf : ∀ tp l, (sD tp l).isFreed = false := fun tp l => by cases tp <;> rfl
 have g2 : (zE t1 t2 s.heap l1 l2).get? (zA t1 s.heap l1).objs.size = some (sD t2 l2) := Heap.get?_push_of_some _ (Heap.get?_push_of_some _ (Heap.get?_push_of_some _ (Heap.get?_push_size _ (itf t2 l2))))
 have g1 : (zE t1 t2 s.heap l1 l2).get? s.heap.objs.size = some (sD t1 l1) := Heap.get?_push_of_some _ (Heap.get?_push_of_some _ (Heap.get?_push_of_some _ (Heap.get?_push_of_some _ (Heap.get?_push_size _ (itf t1 l1)))))
 show _ /\ _
 rw [n2, n3, n4] at g5
 rw [n1, n2] at g3
 rw [n3] at g4
 rw [n1] at g2
 rw [n4]
 exact ⟨⟨_, g5, rfl⟩, h _ g5 g3 g4 (cG1 g1) (cG1 g2) n5 fun c o x => Heap.get?_push_of_some _ (Heap.get?_push_of_some _ (Heap.get?_push_of_some _ (Heap.get?_push_of_some _ (Heap.get?_push_of_some _ x))))⟩
end
end R
end
section
namespace R
open PySem PySem.Spec PyProof.Rows L2
def Sq (tp : Bool) (K : W.Frag) (H : Hp) (a : Addr) (xs : List V) : Prop := match tp with
 | true => fK K H a xs
 | false => dF K H a xs
section
variable {X : Cx} {pins : List (Addr × Obj)} {σ : St} {H : Hp} {s : Shared} {h' : Heap} {tp : Bool}
theorem sG (I : bE X pins σ H s) {a : Addr} {xs : List V} (h : Sq tp X.K H a xs) : ∃ its : List Value, cE xs its /\ kU tp s.heap a its.toArray /\ xs.length <= sizeLine := by
 cases tp
 ·obtain ⟨its, r, p, z⟩ := I.list h; exact ⟨its, r, p.isList, z⟩
 ·obtain ⟨its, r, p, z⟩ := I.tuple h; exact ⟨its, r, p, z⟩
theorem cG2 (I : bE X pins σ H s) {a : Addr} {xs ys : List V} (h : Sq tp X.K H a xs) (h2 : Sq tp X.K H a ys) : xs = ys := by
 cases tp
 ·exact I.list_inj h h2
 ·exact I.tuple_inj h h2
theorem cG3 {H : Hp} {a b : Addr} {u : HO} (h : Rd H a u) (hb : H b = none) : a ≠ b := fun z => by
 subst z
 rcases h with h | ⟨o, h⟩
 ·rw [hb] at h; cases h
 ·rw [hb] at h; cases h
theorem bA4 (I : bE X pins σ H s) {a b : Addr} {xs : List V} (h : Sq tp X.K H a xs) (f : jC X pins H b) : a ≠ b := by
 have fromK : ∀ o, X.K.lookup a = some o -> a ≠ b := fun o e z => by
  subst z
  have e1 := I.ok.mod.kin _ _ e
  rcases f.2.2.2.1 with q | q
  ·exact I.ok.noex _ _ e1 q
  ·exact absurd (Nat.lt_of_lt_of_le (Heap.lt_size (I.ok.bs _ _ e1).1) q) (Nat.lt_irrefl _)
 cases tp
 ·rcases h with h | ⟨o, _, _, h, _⟩
  ·exact cG3 h f.1
  ·exact fromK o h
 ·rcases h with h | ⟨o, _, _, h, _⟩
  ·exact cG3 h f.1
  ·exact fromK o h
theorem Sq.same {K : W.Frag} {F F' : Hp} {a : Addr} {xs : List V} (sm : bG F F') (h : Sq tp K F a xs) : Sq tp K F' a xs := by
 cases tp
 ·exact bG.seq sm h
 ·exact bG.seqT sm h
theorem bA5 {t' : Nat} {ch : List Addr} (I : bE X pins σ H s) (hf : ∀ b ∈ ch, jC X pins H b) (k : ∀ b o, b ∉ ch -> s.heap.get? b = some o -> h'.get? b = some o) : bE X pins σ H { s with heap := h', toks := t' } := by
 have nit : ∀ b u, H b = some u -> b ∉ ch := fun b u e z => by have := (hf b z).1; rw [e] at this; cases this
 refine I.step (g' := s.gens) (d' := s.drawn) (ch := ch) (fun b hb => ?_) (fun b o _ _ hc e _ => k b o hc e) (fun b o _ _ hc e _ => ⟨o.slots, k b o hc e⟩) (fun _ _ _ _ n => n) (fun b o hc e => ⟨o, k b o hc e⟩) (fun _ _ e => e) (fun _ _ _ e => e) (fun b ps e => ⟨#[], by rw [e]; simp⟩) (fun m hm => ?_) (fun b u e => ?_) I.bare
 ·obtain ⟨_, f1, _, f3, f4, f5⟩ := hf b hb; exact ⟨f3, f1, f4, f5⟩
 ·obtain ⟨o, es, ep, ho, r⟩ := hm
  exact ⟨o, es, ep, k _ o (fun z => (hf _ z).2.1 rfl) ho, r⟩
 ·refine (I.hok b u e).stay (fun c v hc q => k c v ?_ q) (fun _ q => q) fun _ _ q => q
  rcases hc with z | z
  ·rw [z]; exact nit b u e
  ·exact nit c _ z
theorem cG4 {t' : Nat} {ch : List Addr} {x y : V} {u v : Value} (I : bE X pins σ H s) (hf : ∀ b ∈ ch, jC X pins H b) (k : ∀ b o, b ∉ ch -> s.heap.get? b = some o -> h'.get? b = some o) (rx : cJ x u) (ry : cJ y v) (hp : IsPair h' s.heap.objs.size u v) :
 bE X pins σ (upd H s.heap.objs.size (.tup [x, y])) { s with heap := h', toks := t' } := by
 have hfr : H s.heap.objs.size = none := I.hok.fresh (Nat.le_refl _)
 have nit : ∀ b u, H b = some u -> b ∉ ch := fun b u e z => by have := (hf b z).1; rw [e] at this; cases this
 have sm : bG H (upd H s.heap.objs.size (.tup [x, y])) := fun b o e => by rw [dD (fun z => by rw [z, hfr] at e; cases e)]; exact e
 refine I.step (g' := s.gens) (d' := s.drawn) (ch := ch) (fun b hb => ?_) (fun b o _ _ hc e _ => k b o hc e) (fun b o _ _ hc e _ => ⟨o.slots, k b o hc e⟩) (fun b o _ e n => ?_) (fun b o hc e => ⟨o, k b o hc e⟩) (fun _ _ e => sm _ _ e) (fun _ _ _ e => sm _ _ e) (fun b ps e => ⟨#[], by rw [sm _ _ e]; simp⟩) (fun m hm => ?_) (fun b u e => ?_) I.bare
 ·obtain ⟨_, f1, _, f3, f4, f5⟩ := hf b hb; exact ⟨f3, f1, f4, f5⟩
 ·rw [dD (Nat.ne_of_lt (Heap.lt_size e))]; exact n
 ·obtain ⟨o, es, ep, ho, r⟩ := hm
  exact ⟨o, es, ep, k _ o (fun z => (hf _ z).2.1 rfl) ho, r⟩
 ·by_cases z : b = s.heap.objs.size
  ·subst z
   rw [fY] at e; cases e
   exact ⟨by show 2 <= sizeLine; decide, _, .cons rx (.cons ry .nil), _, hp, rfl, _, rfl⟩
  ·rw [dD z] at e
   refine (I.hok b u e).stay (fun c v hc q => k c v ?_ q) (fun _ q => sm _ _ q) fun _ _ q => sm _ _ q
   rcases hc with z | z
   ·rw [z]; exact nit b u e
   ·exact nit c _ z
end
def Itz (t1 t2 : Bool) (K : W.Frag) (a b : Addr) : It :=
 ⟨fun i H => ∃ xs ys x y, Sq t1 K H a xs /\ Sq t2 K H b ys /\ xs[i]? = some x /\ ys[i]? = some y,
  fun i H v H' => ∃ p x y, H p = none /\ v = .ref p /\ H' = upd H p (.tup [x, y]) /\ ∀ xs ys, Sq t1 K H a xs -> Sq t2 K H b ys -> xs[i]? = some x /\ ys[i]? = some y,
  fun i H => ∃ xs ys, Sq t1 K H a xs /\ Sq t2 K H b ys /\ (xs.length <= i \/ ys.length <= i)⟩
def dV9 (t1 t2 : Bool) (z TI TO i1 i2 a b : Addr) (i : Nat) (h : Heap) : Prop := IsZip h z TI TO .none /\ IsPair h TI (.ref i1) (.ref i2) /\ (∃ u v, IsPair h TO u v) /\ gR t1 h i1 a i /\ gR t2 h i2 b i
structure dW0 (z TI TO i1 i2 : Addr) : Prop where
 d1 : TI ≠ z
 d2 : TO ≠ z
 d3 : i1 ≠ z
 d4 : i2 ≠ z
 d5 : TI ≠ TO
 d6 : TI ≠ i1
 d7 : TI ≠ i2
 d8 : TO ≠ i1
 d9 : TO ≠ i2
 d10 : i1 ≠ i2
theorem dW1 {P : Program} {w : World} {K : W.Frag} {elts : List Expr} {kk : Nat} {pos : Pos} {t1 t2 : Bool} {z TI TO i1 i2 a b : Addr} (V : dW0 z TI TO i1 i2) :
 nP P w K (.Tuple elts kk pos) (Itz t1 t2 K a b) [z, TI, TO, i1, i2] z (dV9 t1 t2 z TI TO i1 i2 a b) where
 mem := by simp
 obj := fun i h st c hc => by
  obtain ⟨h1, h2, ⟨u, v, h3⟩, h4, h5⟩ := st
  have hc' : c = z \/ c = TI \/ c = TO \/ c = i1 \/ c = i2 := by simpa using hc
  rcases hc' with rfl | rfl | rfl | rfl | rfl
  ·exact ⟨_, h1, fun v q => by cases (show Data.fields _ = Data.cell v from q)⟩
  ·exact ⟨_, h2, fun v q => by cases (show Data.seq _ _ = Data.cell v from q)⟩
  ·exact ⟨_, h3, fun v q => by cases (show Data.seq _ _ = Data.cell v from q)⟩
  ·obtain ⟨o, e, _, d⟩ := h4.obj; exact ⟨o, e, fun v q => by rw [d] at q; cases q⟩
  ·obtain ⟨o, e, _, d⟩ := h5.obj; exact ⟨o, e, fun v q => by rw [d] at q; cases q⟩
 keep := fun i h h' st k => by
  obtain ⟨h1, h2, ⟨u, v, h3⟩, h4, h5⟩ := st
  exact ⟨k z (by simp) _ h1, k TI (by simp) _ h2, ⟨u, v, k TO (by simp) _ h3⟩, h4.at_ fun o e => k i1 (by simp) o e, h5.at_ fun o e => k i2 (by simp) o e⟩
 item := by
  intro X hP hw hK hc i pins s σ H E I hf st hg
  subst hP hw hK
  obtain ⟨xs, ys, x, y, hq1, hq2, hx, hy⟩ := hg
  obtain ⟨its1, r1, p1, z1⟩ := sG I hq1
  obtain ⟨its2, r2, p2, z2⟩ := sG I hq2
  obtain ⟨u, hu, ru⟩ := r1.get hx
  obtain ⟨v, hv, rv⟩ := r2.get hy
  obtain ⟨h1, h2, ⟨u0, v0, h3⟩, h4, h5⟩ := st
  have ne1 : ∀ c ∈ [z, TI, TO, i1, i2], a ≠ c := fun c hc => bA4 I hq1 (hf c hc)
  have ne2 : ∀ c ∈ [z, TI, TO, i1, i2], b ≠ c := fun c hc => bA4 I hq2 (hf c hc)
  have D : ZipApart z TI TO i1 i2 a b := ⟨V.d1, V.d2, V.d3, V.d4, V.d5, V.d6, V.d7, V.d8, V.d9, V.d10, ne1 z (by simp), ne1 TO (by simp), ne1 i1 (by simp), ne1 i2 (by simp), ne2 z (by simp), ne2 TO (by simp), ne2 i1 (by simp), ne2 i2 (by simp)⟩
  refine dV5 (xs := its1.toArray) (ys := its2.toArray) D h1 h2 h3 h4 h5 p1 p2 (x := u) (y := v) (by simpa using hu) (by simpa using hv) fun h' a1 a2 a3 a4 a5 a6 a7 => ?_
  have hch : ∀ c ∈ [z, TO, i1, i2], c ∈ [z, TI, TO, i1, i2] := fun c hc => by simp at hc ⊢; rcases hc with rfl | rfl | rfl | rfl <;> simp
  have I1 := cG4 (t' := s.toks) (h' := h') (ch := [z, TO, i1, i2]) I (fun c hc => hf c (hch c hc)) (fun c o hc e => a7 c o (fun q => hc (by simp [q])) (fun q => hc (by simp [q])) (fun q => hc (by simp [q])) (fun q => hc (by simp [q])) e) ru rv a5
  have lt : ∀ c ∈ [z, TI, TO, i1, i2], c ≠ s.heap.objs.size := fun c hc => by
   have hc' : c = z \/ c = TI \/ c = TO \/ c = i1 \/ c = i2 := by simpa using hc
   rcases hc' with rfl | rfl | rfl | rfl | rfl
   ·exact Nat.ne_of_lt (Heap.lt_size h1)
   ·exact Nat.ne_of_lt (Heap.lt_size h2)
   ·exact Nat.ne_of_lt (Heap.lt_size h3)
   ·obtain ⟨o, e, _⟩ := h4.obj; exact Nat.ne_of_lt (Heap.lt_size e)
   ·obtain ⟨o, e, _⟩ := h5.obj; exact Nat.ne_of_lt (Heap.lt_size e)
  have f1 : ∀ c ∈ [z, TI, TO, i1, i2], jC X pins (upd H s.heap.objs.size (.tup [x, y])) c := fun c hc => ⟨by rw [dD (lt c hc)]; exact (hf c hc).1, (hf c hc).2⟩
  refine ⟨_, rfl, wpAny_letOwnedTupleGo_zip (s := { s with heap := h' }) a1 fun h'' b1 b2 => ?_⟩
  have I2 : bE X pins σ (upd H s.heap.objs.size (.tup [x, y])) { s with heap := h'' } := bA5 (s := { s with heap := h' }) (t' := s.toks) (ch := [z]) I1 (fun c hc => f1 c (by rw [List.mem_singleton.mp hc]; simp)) fun c o hc e => b2.extBut _ _ (fun q => hc (by simp [q])) e
  refine ⟨.ref s.heap.objs.size, upd H s.heap.objs.size (.tup [x, y]), I2, rfl, ⟨_, x, y, I.hok.fresh (Nat.le_refl _), rfl, rfl, fun xs' ys' q1 q2 => ?_⟩, ⟨b1, ?_, ⟨u, v, ?_⟩, ?_, ?_⟩, fun c hc => (f1 c hc).1⟩
  ·rw [cG2 I q1 hq1, cG2 I q2 hq2]; exact ⟨hx, hy⟩
  ·exact b2.extBut _ _ V.d1 (a7 _ _ V.d1 V.d5 V.d6 V.d7 h2)
  ·exact b2.extBut _ _ V.d2 a2
  ·exact a3.at_ fun o e => b2.extBut _ _ V.d3 e
  ·exact a4.at_ fun o e => b2.extBut _ _ V.d4 e
 done := by
  intro X hP hw hK hc i pins s σ H E I hf st hg
  subst hP hw hK
  obtain ⟨xs, ys, hq1, hq2, hx⟩ := hg
  obtain ⟨its1, r1, p1, z1⟩ := sG I hq1
  obtain ⟨its2, r2, p2, z2⟩ := sG I hq2
  obtain ⟨h1, h2, ⟨u0, v0, h3⟩, h4, h5⟩ := st
  have ne1 : ∀ c ∈ [z, TI, TO, i1, i2], a ≠ c := fun c hc => bA4 I hq1 (hf c hc)
  have ne2 : ∀ c ∈ [z, TI, TO, i1, i2], b ≠ c := fun c hc => bA4 I hq2 (hf c hc)
  have D : ZipApart z TI TO i1 i2 a b := ⟨V.d1, V.d2, V.d3, V.d4, V.d5, V.d6, V.d7, V.d8, V.d9, V.d10, ne1 z (by simp), ne1 TO (by simp), ne1 i1 (by simp), ne1 i2 (by simp), ne2 z (by simp), ne2 TO (by simp), ne2 i1 (by simp), ne2 i2 (by simp)⟩
  have hch : ∀ c ∈ [z, TO, i1, i2], c ∈ [z, TI, TO, i1, i2] := fun c hc => by simp at hc ⊢; rcases hc with rfl | rfl | rfl | rfl <;> simp
  have l1 := r1.length
  have l2 := r2.length
  refine dV6 (xs := its1.toArray) (ys := its2.toArray) (I.ok.hd hc) D h1 h2 h3 h4 h5 p1 p2 (by
   rcases hx with hx | hx
   ·exact .inl (by simp; omega)
   ·exact .inr (by simp; omega)) fun h' k => ⟨rfl, bA5 (t' := s.toks) (ch := [z, TO, i1, i2]) I (fun c hc => hf c (hch c hc)) fun c o hc e => k c o (fun q => hc (by simp [q])) (fun q => hc (by simp [q])) (fun q => hc (by simp [q])) (fun q => hc (by simp [q])) e⟩
 self := fun _ _ _ _ _ st h => wpAny_pyIter_zip st.1 h
end R
end
section
namespace R
open PySem PySem.Spec PyProof.Rows L2
variable [bP] [Pd]
def pairD (ds es : List D) : List D := List.zipWith (fun d e => D.tup [d, e]) ds es
theorem dW2 {t1 t2 : Bool} {K : W.Frag} {F : Hp} {a b : Addr} {xs ys : List V} {ds es : List D} (h1 : Sq t1 K F a xs) (h2 : Sq t2 K F b ys) (l1 : DatL K F ds xs) (l2 : DatL K F es ys) : jP K F (Itz t1 t2 K a b) (pairD ds es) := fun n F2 H2 s1 s2 => by
 have q1 : Sq t1 K H2 a xs := (h1.same s1).same s2
 have q2 : Sq t2 K H2 b ys := (h2.same s1).same s2
 have e1 := l1.length
 have e2 := l2.length
 refine ⟨fun d hd => ?_, fun hn => ?_⟩
 ·unfold pairD at hd
  rw [List.getElem?_zipWith] at hd
  cases hd1 : ds[n]? with
  | none => rw [hd1] at hd; cases hd
  | some d1 =>
   cases hd2 : es[n]? with
   | none => rw [hd1, hd2] at hd; cases hd
   | some d2 =>
    rw [hd1, hd2] at hd
    have hd' : D.tup [d1, d2] = d := Option.some.inj hd
    subst hd'
    obtain ⟨x, hx, dx⟩ := jT l1.paired hd1
    obtain ⟨y, hy, dy⟩ := jT l2.paired hd2
    refine ⟨⟨xs, ys, x, y, q1, q2, hx, hy⟩, fun v H' yl => ?_⟩
    obtain ⟨p, x', y', hp, rfl, rfl, hh⟩ := yl
    obtain ⟨ex, ey⟩ := hh xs ys q1 q2
    rw [hx] at ex; cases ex
    rw [hy] at ey; cases ey
    refine ⟨upd F2 p (.tup [x, y]), cD.laid s2 hp _, ?_⟩
    have fp : F2 p = none := by
     cases z : F2 p with
     | none => rfl
     | some u => rw [s2 _ _ z] at hp; cases hp
    simp only [bA]
    exact ⟨p, [x, y], rfl, fK.of fY, DatL.cons ((dx.mono s1).mono (jK fp _)) (DatL.cons ((dy.mono s1).mono (jK fp _)) DatL.nil)⟩
 ·refine ⟨xs, ys, q1, q2, ?_⟩
  unfold pairD at hn
  rw [List.length_zipWith] at hn
  omega
def qJ : D -> D -> bC (List D)
 | .tup ds, .tup es => .ok (pairD ds es)
 | .tup ds, .lst es => .ok (pairD ds es)
 | .lst ds, .tup es => .ok (pairD ds es)
 | .lst ds, .lst es => .ok (pairD ds es)
 | _, _ => .bad
def sI (f g : ME) : ML := fun ρ => (f ρ).bind fun d => (g ρ).bind fun e => qJ d e
theorem cG6 {K : W.Frag} {F : Hp} {d : D} {v : V} (h : bA K F d v) : (∀ ds, d ≠ .tup ds /\ d ≠ .lst ds) \/ ∃ t a xs ds, v = .ref a /\ Sq t K F a xs /\ DatL K F ds xs /\ (d = .tup ds \/ d = .lst ds) := by
 cases d with
 | tup ds => simp only [bA] at h; obtain ⟨a, xs, rfl, q, l⟩ := h; exact .inr ⟨true, a, xs, ds, rfl, q, l, .inl rfl⟩
 | lst ds => simp only [bA] at h; obtain ⟨a, xs, rfl, q, l⟩ := h; exact .inr ⟨false, a, xs, ds, rfl, q, l, .inr rfl⟩
 | _ => exact .inl fun ds => ⟨by simp, by simp⟩
theorem dW3 {d e : D} {ps : List D} (h : qJ d e = .ok ps) : ∃ ds es, (d = .tup ds \/ d = .lst ds) /\ (e = .tup es \/ e = .lst es) /\ ps = pairD ds es := by
 cases d <;> cases e <;> first
  | (cases h; exact ⟨_, _, .inl rfl, .inl rfl, rfl⟩)
  | (cases h; exact ⟨_, _, .inl rfl, .inr rfl, rfl⟩)
  | (cases h; exact ⟨_, _, .inr rfl, .inl rfl, rfl⟩)
  | (cases h; exact ⟨_, _, .inr rfl, .inr rfl, rfl⟩)
  | cases h
section
variable {X : Cx} {a b : Expr} {f g : ME} {elts : List Expr} {k : Nat} {pt p pos : Pos}
theorem dW4 (hgl : X.env.scope.names.lookup ("zip" : Str) = some .globalImplicit) (hm : X.mg "zip" = none) (hn : fU [a, b] = true) (hf : IE X a f) (hg : IE X b g) : II X (.Tuple elts k pt) (.Call (.Name "zip" p) [a, b] [] pos) (sI f g) := by
 intro pins s σ H R I ⟨ρ, F, E, q⟩
 have hs : gL a = false /\ gL b = false := by
  simp only [fU, List.all_cons, Bool.and_eq_true] at hn
  exact ⟨by simpa using hn.1, by simpa using hn.2.1⟩
 have ha : IA X [a, b] (aC f (aC g bB)) := yY hf (yY hg cT (gM hs.2)) (gM hs.1)
 unfold sI at q
 cases h1 : f ρ with
 | ok d =>
  cases h2 : g ρ with
  | ok e =>
   rw [h1, h2] at q
   cases h3 : qJ d e with
   | ok ps =>
    have q' : ∀ J F' H', cD F H F' H' -> jP X.K F' J ps -> R J H' := by
     have q0 : (match qJ d e with
      | .ok ds => ∀ J F' H', cD F H F' H' -> jP X.K F' J ds -> R J H'
      | .ex _ => False
      | .bad => False) := q
     rw [h3] at q0; exact q0
    have hA : wD X (aC f (aC g bB)) σ H fun vs H1 => ∃ F1, cD F H F1 H1 /\ DatL X.K F1 [d, e] vs := by
     refine ⟨ρ, F, E, ?_⟩
     have e0 : aC f (aC g bB) ρ = .ok [d, e] := by simp [aC, bB, h1, h2, bC.bind]
     rw [e0]
     exact fun vs F1 H1 g1 dl => ⟨F1, g1, dl⟩
    refine Call_ (rE I hgl hm boot_zip (PyProof.Rows.callWith_type1 (cC (ha pos pins s σ H _ I hA) fun us s1 ⟨vs, H1, I1, r1, F1, g1, dl⟩ => ?_) (gM hs.1) (nD (by simp [fU, hs.2]))))
    simp only [DatL] at dl
    obtain ⟨v1, _, rfl, dd1, v2, _, rfl, dd2, rfl⟩ := dl
    obtain ⟨ds, es, hd, he, rfl⟩ := dW3 h3
    rcases cG6 dd1 with n1 | ⟨t1, a1, xs, ds', rfl, s1q, l1, hd'⟩
    ·rcases hd with rfl | rfl
     ·exact absurd rfl (n1 ds).1
     ·exact absurd rfl (n1 ds).2
    rcases cG6 dd2 with n2 | ⟨t2, a2, ys, es', rfl, s2q, l2, he'⟩
    ·rcases he with rfl | rfl
     ·exact absurd rfl (n2 es).1
     ·exact absurd rfl (n2 es).2
    have eds : ds' = ds := by rcases hd with rfl | rfl <;> rcases hd' with z | z <;> cases z <;> rfl
    have ees : es' = es := by rcases he with rfl | rfl <;> rcases he' with z | z <;> cases z <;> rfl
    subst eds ees
    cases r1 with
    | cons r1 rr =>
     cases rr with
     | cons r2 rr =>
      cases rr
      cases r1
      cases r2
      obtain ⟨its1, rv1, p1, z1⟩ := sG I1 (s1q.same g1.sub)
      obtain ⟨its2, rv2, p2, z2⟩ := sG I1 (s2q.same g1.sub)
      refine dV8 p1 p2 fun h' b1 b2 b3 b4 b5 b6 b7 => ?_
      refine wpAny_pyIter_zip (s := { s1 with heap := h' }) b1 ?_
      refine ⟨s1.heap.objs.size + 4, [s1.heap.objs.size + 4, s1.heap.objs.size + 2, s1.heap.objs.size + 3, s1.heap.objs.size, s1.heap.objs.size + 1], _, _, H1, rfl, I1.kept (t' := s1.toks) b7, dW1 (t1 := t1) (t2 := t2) (a := a1) (b := a2) ⟨?_, ?_, ?_, ?_, ?_, ?_, ?_, ?_, ?_, ?_⟩, ⟨b1, b2, ⟨_, _, b3⟩, b4, b5⟩, fun c hc => ?_, q' _ F1 H1 g1 (dW2 s1q s2q l1 l2)⟩
      all_goals first
       | (show (_ : Nat) ≠ _; omega)
       | skip
      have hc' : s1.heap.objs.size <= c := by
       have hc2 : c = s1.heap.objs.size + 4 \/ c = s1.heap.objs.size + 2 \/ c = s1.heap.objs.size + 3 \/ c = s1.heap.objs.size \/ c = s1.heap.objs.size + 1 := by simpa using hc
       rcases hc2 with rfl | rfl | rfl | rfl | rfl
       ·exact Nat.le_add_right _ _
       ·exact Nat.le_add_right _ _
       ·exact Nat.le_add_right _ _
       ·exact Nat.le_refl _
       ·exact Nat.le_add_right _ _
      exact I1.fpOk hc' (I1.hok.fresh hc')
   | ex _ =>
    have q0 : (match qJ d e with
     | .ok ds => ∀ J F' H', cD F H F' H' -> jP X.K F' J ds -> R J H'
     | .ex _ => False
     | .bad => False) := q
    rw [h3] at q0; exact q0.elim
   | bad =>
    have q0 : (match qJ d e with
     | .ok ds => ∀ J F' H', cD F H F' H' -> jP X.K F' J ds -> R J H'
     | .ex _ => False
     | .bad => False) := q
    rw [h3] at q0; exact q0.elim
  | ex _ => rw [h1, h2] at q; exact q.elim
  | bad => rw [h1, h2] at q; exact q.elim
 | ex _ => rw [h1] at q; exact q.elim
 | bad => rw [h1] at q; exact q.elim
end
def fB (i j : Nat) (body : MS) : List D -> MS
 | [], ρ => .ok (.nx ρ)
 | d :: ds, ρ => match d with
  | .tup [x, y] => (body ((ρ.set i (.val x)).set j (.val y))).bind fun fl => match fl with
   | .nx ρ' => fB i j body ds ρ'
   | .ct ρ' => fB i j body ds ρ'
   | .bk ρ' => .ok (.nx ρ')
   | .rt d => .ok (.rt d)
   | .rd d T => .ok (.rd d T)
   | .rn T => .ok (.rn T)
  | _ => .bad
def qK (i j : Nat) (fl : ML) (body : MS) : MS := fun ρ => (fl ρ).bind fun ds => fB i j body ds ρ
section
variable {X : Cx} {tg iter : Expr} {body : List Stmt} {u : MS} {i j : Nat} {pos : Pos}
theorem dW5 {F₀ H₀ : Hp} {E : lK} {bd : MS} {x y : D} {ds : List D} {ρ : bM} (q : fS X F₀ H₀ (fB i j bd (.tup [x, y] :: ds) ρ) E) {N : St -> Hp -> Prop} (hN : ∀ ρ' σ F H, SR X.K F₀ H₀ F H ρ' σ -> fS X F₀ H₀ (fB i j bd ds ρ') E -> N σ H) :
 fS X F₀ H₀ (bd ((ρ.set i (.val x)).set j (.val y))) { E with nx := N, ct := N, bk := E.nx } := by
 unfold fB at q
 revert q
 show fS X F₀ H₀ ((bd ((ρ.set i (.val x)).set j (.val y))).bind _) E -> _
 cases bd ((ρ.set i (.val x)).set j (.val y)) with
 | ok fl =>
  intro q
  cases fl with
  | nx ρ' => exact fun σ F H S => hN ρ' σ F H S q
  | ct ρ' => exact fun σ F H S => hN ρ' σ F H S q
  | bk ρ' => exact q
  | rt d => exact q
  | rd _ _ => exact q
  | rn _ => exact q
 | ex _ => exact fun q => q
 | bad => exact fun q => q
theorem dW6 {F₀ H₀ : Hp} {E : lK} {bd : MS} {d : D} {ds : List D} {ρ : bM} (q : fS X F₀ H₀ (fB i j bd (d :: ds) ρ) E) : ∃ x y, d = .tup [x, y] := by
 unfold fB at q
 split at q
 ·exact ⟨_, _, rfl⟩
 ·exact q.elim
theorem cG7 {fl : ML} (hc : X.calm = true) (hp : PassesOwn (model X.prog X.w) X.A X.env X.xe) (hi : II X tg iter fl) (hg : PG X tg (rG X.K 2 (mC (kD i) (mC (kD j) rF)))) (hb : jD X body u) (hs : ∀ x, foldedSetIterable iter X.env x = pure x) :
 IS X (.For tg iter body [] pos) (qK i j fl u) := fun F₀ H₀ => fR (bW4 hp hc hi hg (cB1 (H₀ := H₀) hb) hs) fun E σ H ⟨ρ, F, S, q⟩ => by
 refine ⟨ρ, F, S.env, ?_⟩
 unfold qK at q
 revert q
 cases fl ρ with
 | ok ds =>
  intro q J F1 H1 g1 it
  have S1 := S.grow g1
  refine ⟨fun n m σ' H' => m = ds.length - n /\ n <= ds.length /\ ∃ ρ' F', SR X.K F1 H₀ F' H' ρ' σ' /\ fS X F1 H₀ (fB i j u (ds.drop n) ρ') E, ⟨_, rfl, Nat.zero_le _, ρ, F1, S1.here, fS.here S1.gr q⟩, ?_⟩
  rintro n m σ' H' ⟨rfl, hn, ρ', F', S', q'⟩
  obtain ⟨h1, h2⟩ := it n F' H' S'.gr.fs S'.env.sub
  by_cases hlt : n < ds.length
  ·have hd : ds[n]? = some ds[n] := List.getElem?_eq_getElem hlt
   obtain ⟨go, yl⟩ := h1 _ hd
   refine .inr ⟨go, fun σ H => ∃ ρ F', SR X.K F1 H₀ F' H ρ σ /\ fS X F1 H₀ (fB i j u (ds.drop (n + 1)) ρ) E, fun σ2 H2 h => ⟨ds.length - (n + 1), by omega, rfl, hlt, h⟩, fun x H2 y => ?_⟩
   obtain ⟨F2, g2, dx⟩ := yl x H2 y
   rw [List.drop_eq_getElem_cons hlt] at q'
   obtain ⟨x1, y1, exy⟩ := dW6 q'
   rw [exy] at q' dx
   simp only [bA] at dx
   obtain ⟨p, xs, rfl, sq, l1⟩ := dx
   simp only [DatL] at l1
   obtain ⟨v1, _, rfl, dv1, v2, _, rfl, dv2, rfl⟩ := l1
   exact ⟨p, _, rfl, bG.seqT g2.sub sq, rfl, v1, _, rfl, v2, _, rfl, rfl, F1, (ρ'.set i (.val x1)).set j (.val y1), F2, ((S'.grow g2).set i dv1).set j dv2, dW5 q' fun ρ3 σ3 F3 H3 S3 q3 => ⟨ρ3, F3, S3, q3⟩⟩
  ·have e : n = ds.length := by omega
   subst e
   rw [List.drop_eq_nil_of_le (Nat.le_refl _)] at q'
   exact .inl ⟨h2 rfl, q' σ' F' H' S'⟩
 | ex _ => exact fun q => q
 | bad => exact fun q => q
theorem bM6 {x y : Str} {px py pt : Pos} {k : Nat} (hc : X.calm = true) (hN : X.N.Nodup) (hi : X.N[i]? = some x) (hx : Loc X.env.scope x) (hj : X.N[j]? = some y) (hy : Loc X.env.scope y) (hf : X.fn x = true \/ X.env.scope.names.lookup x = some .local) (hf' : X.fn y = true \/ X.env.scope.names.lookup y = some .local) :
 PG X (.Tuple [.Name x px, .Name y py] k pt) (rG X.K 2 (mC (kD i) (mC (kD j) rF))) :=
 bH1 hc (qA (jB hN hi hx hf) (qA (jB hN hj hy hf') bH0 rfl) rfl) rfl rfl
end
end R
end
section
namespace R
open PySem PySem.Spec PyProof.Rows L2
variable [bP] [Pd]
def dB {α : Type} (p : bM -> bC α) : bM -> bC α
 | .val (.tup [a, b]) :: r => p (.val a :: .val b :: r)
 | _ => .bad
def sp2 : D -> Option (List D)
 | .tup [a, b] => some [a, b]
 | _ => none
theorem cG8 {d : D} {es : List D} (h : sp2 d = some es) : ∃ a b, d = .tup [a, b] /\ es = [a, b] := by
 unfold sp2 at h
 split at h
 ·cases h; exact ⟨_, _, rfl, rfl⟩
 ·cases h
section
variable {X : Cx} {x x2 : Str} {caps : List Str} {js : List Nat} {scope : Scope} {px px2 pt pos spos py : Pos} {kt : Nat} {elt iter : Expr} {ifs : List Expr} {p : MT} {g : ME} {fl : ML}
theorem dW7 (S : lD X scope [x, x2] caps js) (hc : X.calm = true) : rT X scope (.Tuple [.Name x px, .Name x2 px2] kt pt) [x, x2] caps sp2 (rG X.K 2 (mC (kD 0) (mC (kD 1) rF))) (dB p) (dB g) p g where
 pg := fun _ _ _ _ _ =>
  have l1 := lookup_relabel_local (S.loc x List.mem_cons_self)
  have l2 := lookup_relabel_local (S.loc x2 (List.mem_cons_of_mem _ List.mem_cons_self))
  bM6 (i := 0) (j := 1) hc S.nd rfl (.inl l1) rfl (.inl l2) (.inr l1) (.inr l2)
 ok := fun {d es v F H as σr} e dv sm la => by
  obtain ⟨a, b, rfl, rfl⟩ := cG8 e
  simp only [bA] at dv
  obtain ⟨q, xs, rfl, sq, l⟩ := dv
  have l' := l
  simp only [DatL] at l
  obtain ⟨v1, _, rfl, dv1, v2, _, rfl, dv2, rfl⟩ := l
  match as, la with
  | [o, o2], _ => exact ⟨[v1, v2], rfl, l', q, _, rfl, bG.seqT sm sq, rfl, v1, _, rfl, v2, _, rfl, rfl, rfl, rfl⟩
 hp := fun {d r b} h => by
  unfold dB at h
  split at h
  ·rename_i e; cases e; exact ⟨_, rfl⟩
  ·cases h
 eq := fun r e => by obtain ⟨a, b, rfl, rfl⟩ := cG8 e; exact ⟨rfl, rfl⟩
end
end R
end
section
namespace R
open PySem PySem.Spec PyProof.Rows L2
variable [bP] [Pd]
theorem gS {ρ : bM} {i j : Nat} {s t : Slot} (e : (ρ.set i s)[j]? = some t) : (i = j /\ t = s /\ i < ρ.length) \/ (i ≠ j /\ ρ[j]? = some t) := by
 by_cases q : i = j
 ·subst q
  by_cases hl : i < ρ.length
  ·rw [List.getElem?_set_self hl] at e; cases e; exact .inl ⟨rfl, rfl, hl⟩
  ·rw [List.getElem?_eq_none (by rw [List.length_set]; omega)] at e; cases e
 ·rw [List.getElem?_set_ne q] at e; exact .inr ⟨q, e⟩
section
variable {X : Cx} {e : Expr} {f : ME} {x : Str} {p lp ap cp pos : Pos} {i : Nat} {rest : List Stmt} {v : MS}
theorem bM8 {F₀ H₀ F H : Hp} {ρ : bM} {σ : St} {l : Addr} {ds : List D} {xs : List V} (S : SR X.K F₀ H₀ F H ρ σ) (hl : H l = none) (dl : DatL X.K F ds xs) (i : Nat) : SR X.K F₀ H₀ F (upd H l (.lst xs)) (ρ.set i (.own ds)) (σ.set i (some (.ref l))) := by
 have g1 := cD.laidN S.env.sub hl (.lst xs)
 have E1 := S.env.grow g1
 have fl : F l = none := bG.free S.env.sub hl
 refine ⟨S.gr.trans g1, ⟨E1.tb, E1.sub, by rw [List.length_set, List.length_set]; exact E1.len, fun j t e => ?_, fun j k ds es a n e1 e2 e3 e4 => ?_⟩, fun j ds a e1 e2 => ?_, ?_⟩
 ·rcases gS e with ⟨rfl, rfl, hl'⟩ | ⟨n, e⟩
  ·exact ⟨some (.ref l), List.getElem?_set_self (by rw [<- E1.len]; exact hl'), l, xs, rfl, fY, fl, dl⟩
  ·rw [List.getElem?_set_ne n]; exact E1.at_ j t e
 ·rcases gS e1 with ⟨rfl, z1, hl1⟩ | ⟨n1, e1⟩
  ·rcases gS e2 with ⟨rfl, _, _⟩ | ⟨n2, e2⟩
   ·exact n rfl
   ·rw [List.getElem?_set_self (by rw [<- E1.len]; exact hl1)] at e3
    cases e3
    rw [List.getElem?_set_ne n2] at e4
    obtain ⟨o, h1, a', xs, rfl, h2, _⟩ := S.env.at_ k _ e2
    rw [e4] at h1; cases h1
    rw [hl] at h2; cases h2
  ·rcases gS e2 with ⟨rfl, _, hl2⟩ | ⟨n2, e2⟩
   ·rw [List.getElem?_set_self (by rw [<- E1.len]; exact hl2)] at e4
    cases e4
    rw [List.getElem?_set_ne n1] at e3
    obtain ⟨o, h1, a', xs, rfl, h2, _⟩ := S.env.at_ j _ e1
    rw [e3] at h1; cases h1
    rw [hl] at h2; cases h2
   ·rw [List.getElem?_set_ne n1] at e3
    rw [List.getElem?_set_ne n2] at e4
    exact E1.apart j k ds es a n e1 e2 e3 e4
 ·rcases gS e1 with ⟨rfl, _, hl1⟩ | ⟨n1, e1⟩
  ·rw [List.getElem?_set_self (by rw [<- E1.len]; exact hl1)] at e2
   cases e2
   cases z : H₀ l with
   | none => rfl
   | some u => exact absurd hl (S.gr.more l (by rw [z]; simp))
  ·rw [List.getElem?_set_ne n1] at e2
   exact S.frh j ds a e1 e2
 ·exact S.dr.set i rfl _
theorem cG9 {F₀ H₀ F H : Hp} {ρ : bM} {σ : St} {ds ds' : List D} {xs xs' : List V} {a : Addr} (S : SR X.K F₀ H₀ F H ρ σ) (hi : ρ[i]? = some (.own ds)) (h1 : σ[i]? = some (some (.ref a))) (ha : H a = some (.lst xs)) (fa : F a = none) (dl : DatL X.K F ds' xs') : SR X.K F₀ H₀ F (upd H a (.lst xs')) (ρ.set i (.own ds')) σ := by
 have h0 : H₀ a = none := S.frh i ds a hi h1
 refine ⟨⟨fun b o nt z => by rw [dD (lZ z h0)]; exact S.gr.same b o nt z, bZ7 S.gr.more _ _, fun ti => ⟨(S.gr.tk ti).1.updL ha _, (S.gr.tk ti).2⟩, S.gr.fs, wA S.gr.sub fa _, S.gr.new⟩,
  ⟨⟨S.env.tb.1.updL ha _, S.env.tb.2⟩, wA S.env.sub fa _, by rw [List.length_set]; exact S.env.len, fun j t e => ?_, fun j k ds2 es a' n e1 e2 e3 e4 => ?_⟩, fun j ds2 a' e1 e2 => ?_, S.dr.setL i rfl⟩
 ·rcases gS e with ⟨rfl, rfl, _⟩ | ⟨n, e⟩
  ·exact ⟨some (.ref a), h1, a, xs', rfl, fY, fa, dl⟩
  ·obtain ⟨o, z1, z2⟩ := S.env.at_ j t e
   refine ⟨o, z1, ?_⟩
   cases t with
   | no => trivial
   | val d' => exact z2
   | is v' c => exact z2
   | own es =>
    obtain ⟨a', ys, rfl, y1, y2, y3⟩ := z2
    have na : a' ≠ a := fun y => by
     subst y
     exact S.env.apart i j ds es a' n hi e h1 z1
    exact ⟨a', ys, rfl, by rw [dD na]; exact y1, y2, y3⟩
   | dic p T =>
    obtain ⟨a', ys, rfl, y0, y1, y2, y3⟩ := z2
    exact ⟨a', ys, rfl, y0, by rw [dD (rC y1 ha (fun z => nomatch z))]; exact y1, y2, y3⟩
   | tab T => exact z2
 ·have f1 : ∀ (j : Nat) es, (ρ.set i (.own ds'))[j]? = some (.own es) -> ∃ es', ρ[j]? = some (.own es') := fun j es z => by
   rcases gS z with ⟨rfl, _, _⟩ | ⟨_, z⟩
   ·exact ⟨ds, hi⟩
   ·exact ⟨es, z⟩
  obtain ⟨_, f2⟩ := f1 j _ e1
  obtain ⟨_, f3⟩ := f1 k _ e2
  exact S.env.apart j k _ _ a' n f2 f3 e3 e4
 ·rcases gS e1 with ⟨rfl, _, _⟩ | ⟨_, e1⟩
  ·exact S.frh i ds a' hi e2
  ·exact S.frh j ds2 a' e1 e2
def sJ (i : Nat) : MS := fun ρ => .ok (.nx (ρ.set i (.own [])))
theorem cH0 (hN : X.N.Nodup) (hi : X.N[i]? = some x) (hx : Loc X.env.scope x) (hf : X.fn x = true \/ X.env.scope.names.lookup x = some .local) : IS X (.Assign [.Name x p] (.List [] lp) pos) (sJ i) := fun F₀ H₀ =>
 fR (mS (i := i) hN hi hx (bH8 mD) (pQ rfl) hf) fun E σ H ⟨ρ, F, S, q⟩ => ⟨Nat.zero_le _, fun l hl => q _ F _ (bM8 S hl DatL.nil i)⟩
def nY (i : Nat) (f : ME) : MS := fun ρ => (f ρ).bind fun d => match ρ[i]? with
 | some (.own ds) => if ds.length < sizeLine then .ok (.nx (ρ.set i (.own (ds ++ [d])))) else .bad
 | _ => .bad
theorem cH1 (hv : cH X.N X.env.scope i x) (hs : gL e = false) (hl : (ap.endLine == cp.line) = true) (hb : attributeBase (.Name x p) "append" X.env (eval (.Name x p) X.env) = eval (.Name x p) X.env) (he : IE X e f) :
 IS X (.Expr (.Call (.Attribute (.Name x p) "append" ap) [e] [] cp) pos) (nY i f) := fun F₀ H₀ =>
 fR (bG8 (bI5 PySem.F.plainAttrs_list PySem.F.slot_list_append PySem.F.type_list_append bY7 (lL hv.n hv.v hv.d hv.c) (kO he mD (gM hs)) hb (by rw [zY (show fU [e] = true by simp [fU, hs])]; rfl) hl (gM hs) (nD rfl)) (pQ rfl)) fun E σ H ⟨ρ, F, S, q⟩ => by
 unfold nY at q
 cases hf : f ρ with
 | ok d =>
  rw [hf] at q
  have q0 : fS X F₀ H₀ (match ρ[i]? with
   | some (.own ds) => if ds.length < sizeLine then .ok (.nx (ρ.set i (.own (ds ++ [d])))) else .bad
   | _ => .bad) E := q
  split at q0
  ·rename_i ds hi
   split at q0
   ·rename_i hz
    obtain ⟨o, h1, a, xs, rfl, h2, h3, h4⟩ := S.env.at_ i _ hi
    have q1 : ∀ σ F H, SR X.K F₀ H₀ F H (ρ.set i (.own (ds ++ [d]))) σ -> E.nx σ H := q0
    refine ⟨.ref a, h1, .inl ⟨rfl, xs, dF.of h2⟩, ρ, F, S.env, ?_⟩
    rw [hf]
    intro w F1 H1 g1 dw
    have ha : H1 a = some (.lst xs) := g1.same _ _ rfl h2
    have fa : F1 a = none := g1.new _ h3 (by rw [h2]; simp)
    have ln := h4.length
    refine ⟨a, xs, w, rfl, rfl, ha, by omega, ?_⟩
    exact q1 σ F1 _ (cG9 (S.grow g1) hi h1 ha fa (DatL.of (mW (h4.mono g1.fs).paired (.cons dw .nil))))
   ·exact q0.elim
  ·exact q0.elim
 | ex _ => rw [hf] at q; exact q.elim
 | bad => rw [hf] at q; exact q.elim
def nZ (i : Nat) : MS := fun ρ => match ρ[i]? with
 | some (.own ds) => .ok (.nx (ρ.set i (.val (.lst ds))))
 | _ => .bad
theorem cH2 (h : jD X rest v) : jD X rest (bD (nZ i) v) := fun F₀ H₀ => bJ0 (h F₀ H₀) fun E σ H ⟨ρ, F, S, q⟩ => by
 unfold bD nZ at q
 split at q
 ·rename_i ds hi
  obtain ⟨o, h1, a, xs, rfl, h2, h3, h4⟩ := S.env.at_ i _ hi
  have h0 : H₀ a = none := S.frh i ds a hi h1
  have sF : bG F (upd F a (.lst xs)) := jK h3 _
  have hil : i < ρ.length := (List.getElem?_eq_some_iff.mp hi).1
  have sH : bG (upd F a (.lst xs)) H := fun b o e => by
   by_cases z : b = a
   ·subst z; rw [fY] at e; cases e; exact h2
   ·rw [dD z] at e; exact S.env.sub b o e
  refine ⟨ρ.set i (.val (.lst ds)), upd F a (.lst xs), ⟨⟨S.gr.same, S.gr.more, fun t => ⟨(S.gr.tk t).1, (S.gr.tk t).2.upd a rfl⟩, S.gr.fs.trans sF, sH, fun b hb hn => ?_⟩, ⟨⟨S.env.tb.1, S.env.tb.2.upd a rfl⟩, sH, by rw [List.length_set]; exact S.env.len, fun j t e => ?_, fun j k ds' es a' n e1 e2 e3 e4 => ?_⟩, fun j ds' a' e1 e2 => ?_, S.dr.setL i rfl⟩, q⟩
  ·rw [dD (fun z => hn (by rw [z]; exact h0))]; exact S.gr.new b hb hn
  ·rcases gS e with ⟨rfl, rfl, _⟩ | ⟨n, e⟩
   ·refine ⟨some (.ref a), h1, .ref a, rfl, ?_⟩
    simp only [bA]
    exact ⟨a, xs, rfl, dF.of fY, h4.mono sF⟩
   ·obtain ⟨o, z1, z2⟩ := S.env.at_ j t e
    refine ⟨o, z1, ?_⟩
    cases t with
    | no => trivial
    | val d' => obtain ⟨v', y1, y2⟩ := z2; exact ⟨v', y1, y2.mono sF⟩
    | is v' c => exact ⟨z2.1, fun p hp => sF _ _ (z2.2 p hp)⟩
    | own es =>
     obtain ⟨a', ys, rfl, y1, y2, y3⟩ := z2
     have na : a' ≠ a := fun y => by
      subst y
      exact S.env.apart i j ds es a' n hi e h1 z1
     exact ⟨a', ys, rfl, y1, by rw [dD na]; exact y2, y3.mono sF⟩
    | dic p T =>
     obtain ⟨a', ys, rfl, y0, y1, y2, y3⟩ := z2
     exact ⟨a', ys, rfl, y0, y1, by rw [dD (rC y1 h2 (fun z => nomatch z))]; exact y2, y3.mono sF⟩
    | tab T =>
     obtain ⟨a', ys, rfl, y1, y3⟩ := z2
     exact ⟨a', ys, rfl, sF _ _ y1, y3.mono sF⟩
  ·rcases gS e1 with ⟨_, z, _⟩ | ⟨_, e1⟩
   ·cases z
   ·rcases gS e2 with ⟨_, z, _⟩ | ⟨_, e2⟩
    ·cases z
    ·exact S.env.apart j k ds' es a' n e1 e2 e3 e4
  ·rcases gS e1 with ⟨_, z, _⟩ | ⟨_, e1⟩
   ·cases z
   ·exact S.frh j ds' a' e1 e2
 ·exact q.elim
end
end R
end
section
namespace R
open PySem PySem.Spec PyProof.Rows L2
def Ite (K : W.Frag) (a : Addr) : It :=
 ⟨fun i H => ∃ xs x, dF K H a xs /\ xs[i]? = some x,
  fun i H v H' => ∃ p x, H p = none /\ v = .ref p /\ H' = upd H p (.tup [.int (i : Int), x]) /\ ∀ xs, dF K H a xs -> xs[i]? = some x,
  fun i H => ∃ xs, dF K H a xs /\ xs.length <= i⟩
def dW8 (e it a : Addr) (i : Nat) (h : Heap) : Prop := (∃ old, IsEnum h e it (i : Int) old) /\ h.IsListIter it a i
theorem dW9 {P : Program} {w : World} {K : W.Frag} {elts : List Expr} {kk : Nat} {pos : Pos} {e it a : Addr} (V : e ≠ it) : nP P w K (.Tuple elts kk pos) (Ite K a) [e, it] e (dW8 e it a) where
 mem := by simp
 obj := fun i h st c hc => by
  obtain ⟨⟨old, h1⟩, o, h2, _, d⟩ := st
  have hc' : c = e \/ c = it := by simpa using hc
  rcases hc' with rfl | rfl
  ·exact ⟨_, h1, fun v q => by cases (show Data.fields _ = Data.cell v from q)⟩
  ·exact ⟨o, h2, fun v q => by rw [d] at q; cases q⟩
 keep := fun i h h' st k => ⟨let ⟨old, h1⟩ := st.1; ⟨old, k e (by simp) _ h1⟩, Heap.IsListIter.at st.2 fun o q => k it (by simp) o q⟩
 item := by
  intro X hP hw hK hc i pins s σ H E I hf st hg
  subst hP hw hK
  obtain ⟨xs, x, hq, hx⟩ := hg
  obtain ⟨its, rv, p, z⟩ := I.list hq
  obtain ⟨u, hu, ru⟩ := rv.get hx
  obtain ⟨⟨old, h1⟩, h2⟩ := st
  refine wpAny_pyNext_enum_item (items := its.toArray) (x := u) h1 h2 p.isList (by simpa using hu) V fun h' a1 a2 a3 a4 a5 => ?_
  have I1 := cG4 (t' := s.toks + 1) (h' := h') (ch := [e, it]) (x := .int (i : Int)) (y := x) (u := .int i s.toks) (v := u) I hf (fun c o hc q => a5 c o (fun z => hc (by simp [z])) (fun z => hc (by simp [z])) q) ⟨_, rfl⟩ ru a3
  have lt : ∀ c ∈ [e, it], c ≠ s.heap.objs.size := fun c hc => by
   have hc' : c = e \/ c = it := by simpa using hc
   rcases hc' with rfl | rfl
   ·exact Nat.ne_of_lt (Heap.lt_size h1)
   ·obtain ⟨o, q, _⟩ := h2; exact Nat.ne_of_lt (Heap.lt_size q)
  have f1 : ∀ c ∈ [e, it], jC X pins (upd H s.heap.objs.size (.tup [.int (i : Int), x])) c := fun c hc => ⟨by rw [dD (lt c hc)]; exact (hf c hc).1, (hf c hc).2⟩
  refine ⟨_, rfl, wpAny_letOwnedTupleGo_enum (s := { s with heap := h', toks := s.toks + 1 }) a1 fun h'' b1 b2 => ?_⟩
  have I2 : bE X pins σ (upd H s.heap.objs.size (.tup [.int (i : Int), x])) { s with heap := h'', toks := s.toks + 1 } := bA5 (s := { s with heap := h', toks := s.toks + 1 }) (t' := s.toks + 1) (ch := [e]) I1 (fun c hc => f1 c (by rw [List.mem_singleton.mp hc]; simp)) fun c o hc q => b2.extBut _ _ (fun z => hc (by simp [z])) q
  refine ⟨.ref s.heap.objs.size, _, I2, rfl, ⟨_, x, I.hok.fresh (Nat.le_refl _), rfl, rfl, fun xs' q => by rw [I.list_inj q hq]; exact hx⟩, ⟨⟨u, by simpa using b1⟩, Heap.IsListIter.at a2 fun o q => b2.extBut _ _ V.symm q⟩, fun c hc => (f1 c hc).1⟩
 done := by
  intro X hP hw hK hc i pins s σ H E I hf st hg
  subst hP hw hK
  obtain ⟨xs, hq, hx⟩ := hg
  obtain ⟨its, rv, p, z⟩ := I.list hq
  obtain ⟨⟨old, h1⟩, h2⟩ := st
  have l1 := rv.length
  exact wpAny_pyNext_enum_end (items := its.toArray) (I.ok.hd hc) h1 h2 p.isList (by simp; omega) fun h' k => ⟨rfl, bA5 (t' := s.toks) (ch := [it]) I (fun c hc => hf c (by rw [List.mem_singleton.mp hc]; simp)) fun c o hc q => k c o (fun z => hc (by simp [z])) q⟩
 self := fun _ _ _ _ _ st h => let ⟨_, h1⟩ := st.1; wpAny_pyIter_enum h1 h
variable [bP] [Pd]
def bA6 (ds : List D) : List D := pairD (upTo 0 ds.length) ds
theorem dX0 {K : W.Frag} {F : Hp} {a : Addr} {xs : List V} {ds : List D} (h : dF K F a xs) (l : DatL K F ds xs) : jP K F (Ite K a) (bA6 ds) := fun n F2 H2 s1 s2 => by
 have q : dF K H2 a xs := bG.seq s2 (bG.seq s1 h)
 have e1 := l.length
 have hl : (upTo 0 ds.length).length = ds.length := by unfold upTo; rw [List.length_map, List.length_range]
 unfold bA6 pairD
 refine ⟨fun d hd => ?_, fun hn => ⟨xs, q, by rw [List.length_zipWith, hl] at hn; omega⟩⟩
 rw [List.getElem?_zipWith] at hd
 cases hd2 : ds[n]? with
 | none => rw [hd2] at hd; revert hd; cases (upTo 0 ds.length)[n]? <;> intro hd <;> cases hd
 | some d2 =>
  have hlt : n < ds.length := (List.getElem?_eq_some_iff.mp hd2).1
  have hu : (upTo 0 ds.length)[n]? = some (.int (n : Int)) := by unfold upTo; rw [List.getElem?_map, List.getElem?_range hlt]; simp
  rw [hd2, hu] at hd
  have hd' : D.tup [.int (n : Int), d2] = d := Option.some.inj hd
  subst hd'
  obtain ⟨x, hx, dx⟩ := jT l.paired hd2
  refine ⟨⟨xs, x, q, hx⟩, fun v H' yl => ?_⟩
  obtain ⟨p, x', hp, rfl, rfl, hh⟩ := yl
  have ex := hh xs q
  rw [hx] at ex; cases ex
  have fp := bG.free s2 hp
  refine ⟨upd F2 p (.tup [.int (n : Int), x]), cD.laid s2 hp _, ?_⟩
  simp only [bA]
  exact ⟨p, _, rfl, fK.of fY, DatL.cons (by simp only [bA]) (DatL.cons ((dx.mono s1).mono (jK fp _)) DatL.nil)⟩
def dX1 : D -> bC (List D)
 | .lst ds => .ok (bA6 ds)
 | _ => .bad
def bM9 (f : ME) : ML := fun ρ => (f ρ).bind dX1
section
variable {X : Cx} {a : Expr} {f : ME} {elts : List Expr} {k : Nat} {pt p pos : Pos}
theorem dX2 (hgl : X.env.scope.names.lookup ("enumerate" : Str) = some .globalImplicit) (hm : X.mg "enumerate" = none) (hs : gL a = false) (hf : IE X a f) : II X (.Tuple elts k pt) (.Call (.Name "enumerate" p) [a] [] pos) (bM9 f) := by
 intro pins s σ H R I ⟨ρ, F, E, q⟩
 have ha : IA X [a] (aC f bB) := yY hf cT (gM hs)
 unfold bM9 at q
 cases h1 : f ρ with
 | ok d =>
  rw [h1] at q
  cases d with
  | lst ds =>
   have q' : ∀ J F' H', cD F H F' H' -> jP X.K F' J (bA6 ds) -> R J H' := q
   have hA : wD X (aC f bB) σ H fun vs H1 => ∃ F1, cD F H F1 H1 /\ DatL X.K F1 [.lst ds] vs := by
    refine ⟨ρ, F, E, ?_⟩
    have e0 : aC f bB ρ = .ok [.lst ds] := by simp [aC, bB, h1, bC.bind]
    rw [e0]
    exact fun vs F1 H1 g1 dl => ⟨F1, g1, dl⟩
   refine Call_ (rE I hgl hm boot_enumerate (PyProof.Rows.callWith_type1 (cC (ha pos pins s σ H _ I hA) fun us s1 ⟨vs, H1, I1, r1, F1, g1, dl⟩ => ?_) (gM hs) (nD rfl)))
   obtain ⟨v, rfl, dv⟩ := jE dl
   simp only [bA] at dv
   obtain ⟨b, xs, rfl, hq, hl⟩ := dv
   cases r1 with
   | cons r1 rr =>
    cases rr
    cases r1
    obtain ⟨its, rv, p1, z1⟩ := I1.list (bG.seq g1.sub hq)
    refine call_enumerate_list p1.isList fun h' b1 b2 b3 b4 => ?_
    refine wpAny_pyIter_enum (s := { s1 with heap := h' }) b1 ?_
    refine ⟨s1.heap.objs.size + 1, [s1.heap.objs.size + 1, s1.heap.objs.size], _, _, H1, rfl, I1.kept (t' := s1.toks) b4, dW9 (a := b) (by show (_ : Nat) ≠ _; omega), ⟨⟨_, b1⟩, b2⟩, fun c hc => ?_, q' _ F1 H1 g1 (dX0 hq hl)⟩
    have hc' : s1.heap.objs.size <= c := by
     have hc2 : c = s1.heap.objs.size + 1 \/ c = s1.heap.objs.size := by simpa using hc
     rcases hc2 with rfl | rfl
     ·exact Nat.le_add_right _ _
     ·exact Nat.le_refl _
    exact I1.fpOk hc' (I1.hok.fresh hc')
  | _ => exact q.elim
 | ex _ => rw [h1] at q; exact q.elim
 | bad => rw [h1] at q; exact q.elim
def wX : List D -> bC D
 | [.int i, .int j] => .ok (.int (if j < i then j else i))
 | _ => .bad
def wY : List D -> bC D
 | [.int i, .int j] => .ok (.int (if j > i then j else i))
 | _ => .bad
theorem cH4 {K : W.Frag} {F : Hp} {i j : Int} {xs : List V} (h : DatL K F [.int i, .int j] xs) : xs = [.int i, .int j] := by
 simp only [DatL, bA] at h
 obtain ⟨_, _, rfl, rfl, _, _, rfl, rfl, rfl⟩ := h
 rfl
theorem cH5 (hc : X.calm = true) : fG X (.builtin "min") (lQ X wX) := by
 intro pins s σ H xs us Q I r h
 obtain ⟨F, ds, sb, hl, q⟩ := h
 unfold wX at q
 split at q
 ·cases cH4 hl
  exact dC9 hc pins s σ H _ us Q I r ⟨_, _, rfl, cF q sb (by simp only [bA])⟩
 ·exact q.elim
theorem cH6 (hc : X.calm = true) : fG X (.builtin "max") (lQ X wY) := by
 intro pins s σ H xs us Q I r h
 obtain ⟨F, ds, sb, hl, q⟩ := h
 unfold wY at q
 split at q
 ·cases cH4 hl
  exact dC8 hc pins s σ H _ us Q I r ⟨_, _, rfl, cF q sb (by simp only [bA])⟩
 ·exact q.elim
end
section
variable {X : Cx} {e : Expr} {f : ME} {x : Str} {p lp cp pos : Pos} {i : Nat}
def bN0 (i : Nat) (f : ME) : MS := fun ρ => (f ρ).bind fun d => match d with
 | .tup ds => .ok (.nx (ρ.set i (.own ds)))
 | _ => .bad
theorem dX3 (hN : X.N.Nodup) (hi : X.N[i]? = some x) (hx : Loc X.env.scope x) (hf : X.fn x = true \/ X.env.scope.names.lookup x = some .local) (hg : X.env.scope.names.lookup ("list" : Str) = some .globalImplicit) (hm : X.mg "list" = none) (hs : gL e = false) (he : IE X e f) :
 IS X (.Assign [.Name x p] (.Call (.Name "list" lp) [e] [] cp) pos) (bN0 i f) := fun F₀ H₀ =>
 fR (mS (i := i) hN hi hx (bI1 bI3 hg hm PyProof.Rows.boot_list (kO he mD (gM hs)) (by decide) (by decide) (gM hs) (nD rfl)) (pQ rfl) hf) fun E σ H ⟨ρ, F, S, q⟩ => by
 refine ⟨ρ, F, S.env, ?_⟩
 unfold bN0 at q
 cases hf : f ρ with
 | ok d =>
  rw [hf] at q
  intro v F1 H1 g1 dv
  cases d with
  | tup ds =>
   have q1 : ∀ σ F H, SR X.K F₀ H₀ F H (ρ.set i (.own ds)) σ -> E.nx σ H := q
   simp only [bA] at dv
   obtain ⟨a, xs, rfl, sq, dl⟩ := dv
   exact ⟨a, xs, rfl, .inr (bG.seqT g1.sub sq), fun l hl => q1 _ _ _ (bM8 (S.grow g1) hl dl i)⟩
  | _ => exact q.elim
 | ex _ => rw [hf] at q; exact q.elim
 | bad => rw [hf] at q; exact q.elim
end
end R
end
section
namespace R
end R
end
section
namespace R
open PySem PySem.Spec PyProof.Rows L2
variable [bP] [Pd]
def sK : List D -> Option (List Str)
 | [] => some []
 | .str z :: r => (sK r).map (z :: ·)
 | _ :: _ => none
theorem cH7 {K : W.Frag} {F : Hp} : ∀ {ds : List D} {zs : List Str} {xs : List V}, sK ds = some zs -> DatL K F ds xs -> xs = zs.map V.str
 | [], zs, xs, h, l => by
  simp only [sK] at h; cases h
  simp only [DatL] at l; subst l; rfl
 | d :: r, zs, xs, h, l => by
  simp only [DatL] at l
  obtain ⟨x, xr, rfl, h1, h2⟩ := l
  cases d with
  | str z =>
   simp only [sK] at h
   cases hr : sK r with
   | none => rw [hr] at h; cases h
   | some zr =>
    rw [hr] at h; cases h
    simp only [bA] at h1
    rw [h1.1, cH7 hr h2]; rfl
  | _ => cases h
end R
end
section
namespace R
open PySem PySem.Spec PyProof.Rows L2
variable [bP] [Pd]
end R
end
section
namespace R
open PySem PySem.Spec PyProof.Rows L2
variable [bP] [Pd]
theorem bN1 {X : Cx} {x : Str} {p pos : Pos} {e : Expr} {f : ME} {i : Nat} (hN : X.N.Nodup) (hi : X.N[i]? = some x) (hx : Loc X.env.scope x) (hs : swapsWith e (some (.Name x p)) pos.line X.env = pure false) (hf : X.fn x = true \/ X.env.scope.names.lookup x = some .local) (he : IE X e f) : IS X (.Assign [.Name x p] e pos) (bZ i f) :=
 cB0 (fun t h => mS (i := i) hN hi hx h hs hf) he
end R
end
section
namespace R
open PySem PySem.Spec PyProof.Rows L2
variable [bP] [Pd]
abbrev MF := bM -> bC (List D)
def tF (X : Cx) (f : MF) : TE := fun σ H Q => ∃ ρ F, gD X.K F H ρ σ /\ match f ρ with
 | .ok ds => ∀ F1 H1 l xs, cD F H F1 H1 -> H1 l = none -> DatL X.K F1 ds xs -> Q (.ref l) (upd H1 l (.lst xs))
 | .ex _ => False
 | .bad => False
def IEF (X : Cx) (e : Expr) (f : MF) : Prop := PE X e (tF X f)
def bN2 (fa : MA) : MF := fun ρ => (fa ρ).bind fun ds => if ds.length <= sizeLine then .ok ds else .bad
def bN3 (f g : ME) : MF := fun ρ => (f ρ).bind fun x => (g ρ).bind fun y => match x, y with
 | .lst xs, .lst ys => if xs.length + ys.length <= sizeLine then .ok (xs ++ ys) else .bad
 | _, _ => .bad
section
variable {X : Cx} {a b e : Expr} {es : List Expr} {f g : ME} {fa : MA} {pos p ap cp : Pos} {x : Str} {i : Nat} {ff : MF}
theorem dX4 (h : IA X es fa) : IEF X (.List es pos) (bN2 fa) := fL (bH8 h) fun σ H Q ⟨ρ, F, E, q⟩ => ⟨ρ, F, E, by
 unfold bN2 at q
 cases hf : fa ρ with
 | ok ds =>
  rw [hf] at q
  intro vs F1 H1 g1 dl
  by_cases hz : ds.length <= sizeLine
  ·have q' : ∀ F1 H1 l xs, cD F H F1 H1 -> H1 l = none -> DatL X.K F1 ds xs -> Q (.ref l) (upd H1 l (.lst xs)) := by
    have e : (bC.ok ds).bind (fun ds => if ds.length <= sizeLine then .ok ds else .bad) = bC.ok ds := if_pos hz
    rw [e] at q; exact q
   exact ⟨by rw [<- dl.length]; exact hz, fun p hp => q' F1 H1 p vs g1 hp dl⟩
  ·have e : (bC.ok ds).bind (fun ds => if ds.length <= sizeLine then .ok ds else .bad) = (bC.bad : bC (List D)) := if_neg hz
   rw [e] at q; exact q.elim
 | ex _ => rw [hf] at q; exact q.elim
 | bad => rw [hf] at q; exact q.elim⟩
theorem dX5 : cI X (binaryOp .Add) (fun x y H Q => ∃ l b xs ys, x = .ref l /\ y = .ref b /\ dF X.K H l xs /\ dF X.K H b ys /\ xs.length + ys.length <= sizeLine /\ ∀ p, H p = none -> Q (.ref p) (upd H p (.lst (xs ++ ys)))) := by
 intro pins s σ H x y v u Q I rx ry h
 obtain ⟨p1, p2, vs, ws, rfl, rfl, hq1, hq2, z, q⟩ := h
 cases rx
 cases ry
 obtain ⟨its, r1, ⟨⟨cls, dd, data, sl⟩, n, ho, hc, hd, hs⟩, z1⟩ := I.list hq1
 obtain ⟨its2, r2, ⟨⟨cls2, dd2, data2, sl2⟩, n2, ho2, hc2, hd2, hs2⟩, z2⟩ := I.list hq2
 simp only at hc hd hc2 hd2 hs hs2
 subst hc hd hc2 hd2 hs hs2
 have k1 := r1.length
 have k2 := r2.length
 refine concat_meets ⟨_, ho, rfl⟩ ⟨_, ho2, rfl⟩ PySem.noFill_list_add PySem.seq_list_add PySem.F.slot_list_add PySem.F.entry_list_add (PySem.F.args_list_add_2 _ _)
  (list_addW p1 p2 _ _ n n2 none none sl sl2 (by simp only [List.size_toArray]; omega)) ⟨ho, ho2, ?_⟩
 have ea : its.toArray ++ its2.toArray = (its ++ its2).toArray := by simp
 rw [ea]
 exact ⟨.ref _, _, I.lnew (t' := s.toks) (r1.append r2) (by rw [List.length_append]; omega), rfl, q _ I.fresh⟩
theorem dX6 (ha : IE X a f) (hb : IE X b g) : IEF X (.BinOp a .Add b pos) (bN3 f g) := fL (bW5 dX5 ha hb) fun σ H Q ⟨ρ, F, E, q⟩ => ⟨ρ, F, E, by
 unfold bN3 at q
 cases hf : f ρ with
 | ok d =>
  intro v F1 H1 g1 d1
  refine ⟨ρ, F1, E.grow g1, ?_⟩
  cases hg : g ρ with
  | ok y =>
   intro v' F2 H2 g2 d2
   rw [hf, hg] at q
   cases d <;> cases y <;> try exact q.elim
   rename_i xs ys
   have q0 : (match (if xs.length + ys.length <= sizeLine then .ok (xs ++ ys) else .bad : bC (List D)) with
    | .ok ds => ∀ F1 H1 l xs, cD F H F1 H1 -> H1 l = none -> DatL X.K F1 ds xs -> Q (.ref l) (upd H1 l (.lst xs))
    | .ex _ => False
    | .bad => False) := q
   simp only [bA] at d1 d2
   obtain ⟨p1, vs, rfl, s1, l1⟩ := d1
   obtain ⟨p2, ws, rfl, s2, l2⟩ := d2
   by_cases hz : xs.length + ys.length <= sizeLine
   ·rw [if_pos hz] at q0
    have e1 := l1.length
    have e2 := l2.length
    exact ⟨p1, p2, vs, ws, rfl, rfl, bG.seq g2.sub (bG.seq g2.fs s1), bG.seq g2.sub s2, by omega, fun p hp => q0 F2 H2 p _ (g1.trans g2) hp (DatL.of (mW (l1.mono g2.fs).paired l2.paired))⟩
   ·rw [if_neg hz] at q0; exact q0.elim
  | ex _ => rw [hf, hg] at q; exact q.elim
  | bad => rw [hf, hg] at q; exact q.elim
 | ex _ => rw [hf] at q; exact q.elim
 | bad => rw [hf] at q; exact q.elim⟩
def bN4 (i : Nat) (f : MF) : MS := fun ρ => (f ρ).bind fun ds => .ok (.nx (ρ.set i (.own ds)))
theorem dX7 (hN : X.N.Nodup) (hi : X.N[i]? = some x) (hx : L2.Loc X.env.scope x) (hs : qI e = false) (hf : X.fn x = true \/ X.env.scope.names.lookup x = some .local) (he : IEF X e ff) : IS X (.Assign [.Name x p] e pos) (bN4 i ff) := fun F₀ H₀ =>
 fR (mS (i := i) hN hi hx he (pQ hs) hf) fun E σ H ⟨ρ, F, S, q⟩ => ⟨ρ, F, S.env, by
 unfold bN4 at q
 cases hf : ff ρ with
 | ok ds =>
  rw [hf] at q
  have q1 : ∀ σ F H, SR X.K F₀ H₀ F H (ρ.set i (.own ds)) σ -> E.nx σ H := q
  exact fun F1 H1 l xs g1 hl dl => q1 _ _ _ (bM8 (S.grow g1) hl dl i)
 | ex _ => rw [hf] at q; exact q.elim
 | bad => rw [hf] at q; exact q.elim⟩
end
theorem dX8 (l : Addr) (items : Array Value) (n : Nat) (b : Addr) (items2 : Array Value) (n2 : Nat) (sl : Array (Option Value)) (hc0 : ¬(!items.isEmpty && Builtin.List.listTooLong (items.size + items2.size)) = true) (hc1 : items.size <= sizeLine) (hs2 : items.size + items2.size <= sizeLine + 1) :
 Meets (Builtin.«list.extend» ⟨[.ref l, .ref b], []⟩) (fun _ R s => s.heap.get? l = some { cls := .type "list", dict := none, data := .seq items n, slots := #[] } /\ s.heap.get? b = some { cls := .type "list", dict := none, data := .seq items2 n2, slots := sl } /\ R (.ok (.ret Value.none)) { s with heap := s.heap.update l (Obj.mapSeq fun x => x ++ items2), toks := s.toks }) :=
 .of_wp fun prog w A R s h => by
  obtain ⟨hp, g, d, tk, os⟩ := s; obtain ⟨hl, hb, h⟩ := h; have f1 := AutoSeq1.idx_int; have f2 := AutoSeq1.sub_tuple_tuple; have f3 := AutoSeq1.sub_list_list; have f4 := AutoSeq1.sub_tuple_list; have f5 := AutoSeq1.sub_list_tuple
  have hz' : (items ++ items2).size <= sizeLine + 1 := by rw [Array.size_append]; exact hs2
  wp_walk using (wpAny_updateSeq hl rfl (hz := hc1) (_hz' := hz')), AutoSeq1.wpAny_loadPart' hl, AutoSeq1.wpAny_loadPart' hb; exact ⟨_, rfl, h⟩
section
variable {X : Cx} {e : Expr} {f : ME} {pos p ap cp : Pos} {x : Str} {i : Nat}
theorem dX9 : MtM X "list.extend" (fun x vs H Q => ∃ l b xs zs, x = .ref l /\ vs = [.ref b] /\ H l = some (.lst xs) /\ dF X.K H b zs /\ xs.length + zs.length <= sizeLine /\ Q .non (upd H l (.lst (xs ++ zs)))) := by
 intro pins s σ H x vs v us Q I rx rv h
 obtain ⟨l, b, xs, zs, rfl, rfl, hH, hB, hz, q⟩ := h
 cases rx
 obtain ⟨u, rfl, ru⟩ := rv.one
 cases ru
 obtain ⟨z, its, n, r, hl, e⟩ := I.lstM hH
 obtain ⟨its2, r2, ⟨⟨cls2, dd2, data2, sl2⟩, n2, ho2, hc2, hd2, hs2⟩, z2⟩ := I.list hB
 simp only at hc2 hd2 hs2
 subst hc2 hd2 hs2
 have hl2 := r2.length
 have hsz : its.toArray.size + its2.toArray.size <= sizeLine := by rw [List.size_toArray, List.size_toArray]; omega
 have hlong : ¬ (!its.toArray.isEmpty && Builtin.List.listTooLong (its.toArray.size + its2.toArray.size)) = true := by
  rw [bY6 hsz, Bool.and_false]
  exact Bool.false_ne_true
 refine call_meets F.slot_list_extend ⟨_, e, rfl⟩ F.entry_list_extend (F.args_list_extend_2 _ _)
  (dX8 l its.toArray n b its2.toArray n2 sl2 hlong (by rw [List.size_toArray]; omega) bF) ⟨e, ho2, ?_⟩
 refine ⟨.non, _, I.lset (its' := its ++ its2) hH e (by simp) (r.append r2) ?_, rfl, q⟩
 rw [List.length_append]
 omega
def wZ (i : Nat) (ρ : bM) (d : D) : bC Fl := match ρ[i]?, d with
 | some (.own ds), .lst es => if ds.length + es.length <= sizeLine then .ok (.nx (ρ.set i (.own (ds ++ es)))) else .bad
 | _, _ => .bad
def mK (i : Nat) (f : ME) : MS := fun ρ => (f ρ).bind (wZ i ρ)
theorem dY0 (hv : cH X.N X.env.scope i x) (hs : gL e = false) (hl : (ap.endLine == cp.line) = true) (he : IE X e f) : IS X (.Expr (.Call (.Attribute (.Name x p) "extend" ap) [e] [] cp) pos) (mK i f) := fun F₀ H₀ =>
 fR (bG8 (bI5 PySem.F.plainAttrs_list PySem.F.slot_list_extend PySem.F.type_list_extend dX9 (lL hv.n hv.v hv.d hv.c) (kO he mD (gM hs)) rfl (by rw [zY (show fU [e] = true by simp [fU, hs])]; rfl) hl (gM hs) (nD rfl)) (pQ rfl)) fun E σ H ⟨ρ, F, S, q⟩ => by
 unfold mK at q
 cases hf : f ρ with
 | ok d =>
  rw [hf] at q
  have q0 : fS X F₀ H₀ (wZ i ρ d) E := q
  unfold wZ at q0
  split at q0
  ·rename_i ds es hi
   split at q0
   ·rename_i hz
    obtain ⟨o, h1, a, xs, rfl, h2, h3, h4⟩ := S.env.at_ i _ hi
    have q1 : ∀ σ F H, SR X.K F₀ H₀ F H (ρ.set i (.own (ds ++ es))) σ -> E.nx σ H := q0
    refine ⟨.ref a, h1, .inl ⟨rfl, xs, dF.of h2⟩, ρ, F, S.env, ?_⟩
    rw [hf]
    intro w F1 H1 g1 dw
    simp only [bA] at dw
    obtain ⟨b, zs, rfl, sq, dl⟩ := dw
    have ha : H1 a = some (.lst xs) := g1.same _ _ rfl h2
    have fa : F1 a = none := g1.new _ h3 (by rw [h2]; simp)
    have e1 := h4.length
    have e2 := dl.length
    exact ⟨a, b, xs, zs, rfl, rfl, ha, bG.seq g1.sub sq, by omega, q1 σ F1 _ (cG9 (S.grow g1) hi h1 ha fa (DatL.of (mW (h4.mono g1.fs).paired dl.paired)))⟩
   ·exact q0.elim
  ·exact q0.elim
 | ex _ => rw [hf] at q; exact q.elim
 | bad => rw [hf] at q; exact q.elim
def bN5 (i : Nat) (ρ : bM) (d : D) : bC Fl := match ρ[i]?, d with
 | some (.val (.int a)), .int b => .ok (.nx (ρ.set i (.val (.int (a + b)))))
 | _, _ => .bad
def bN6 (i : Nat) (f : ME) : MS := fun ρ => (f ρ).bind (bN5 i ρ)
theorem dY1 (hN : X.N.Nodup) (hi : X.N[i]? = some x) (hx : L2.Loc X.env.scope x) (hf : X.fn x = true \/ X.env.scope.names.lookup x = some .local) (he : IE X e f) : IS X (.AugAssign (.Name x p) .Add e pos) (bN6 i f) := fun F₀ H₀ =>
 fR (cY5 (i := i) hN hi hx he (show PIp X .Add _ from dA5) hf) fun E σ H ⟨ρ, F, S, q⟩ => by
 unfold bN6 at q
 cases hf : f ρ with
 | ok d =>
  rw [hf] at q
  have q0 : fS X F₀ H₀ (bN5 i ρ d) E := q
  unfold bN5 at q0
  split at q0
  ·rename_i a b hi
   obtain ⟨o, h1, v, rfl, dv⟩ := S.env.at_ i _ hi
   simp only [bA] at dv
   subst dv
   have q1 : ∀ σ F H, SR X.K F₀ H₀ F H (ρ.set i (.val (.int (a + b)))) σ -> E.nx σ H := q0
   refine ⟨.int a, h1, ρ, F, S.env, ?_⟩
   rw [hf]
   intro w F1 H1 g1 dw
   simp only [bA] at dw
   subst dw
   exact ⟨a, b, rfl, rfl, q1 _ F1 _ ((S.grow g1).set i (by simp only [bA]))⟩
  ·exact q0.elim
 | ex _ => rw [hf] at q; exact q.elim
 | bad => rw [hf] at q; exact q.elim
theorem cH8 : ∀ {zs : List Str} {us : List Value}, cE (zs.map V.str) us -> ∃ l : List (Str × Tok), strValues l = us /\ l.map (·.1) = zs
 | [], _, .nil => ⟨[], rfl, rfl⟩
 | z :: r, _, .cons ru rr => by
  obtain ⟨t, rfl⟩ := ru
  obtain ⟨l, e1, e2⟩ := cH8 rr
  exact ⟨(z, t) :: l, by rw [<- e1]; rfl, by rw [List.map_cons, e2]⟩
def bN7 (z : Str) : List D -> bC D
 | [.lst ds] => match sK ds with
  | some zs => if JoinOk z zs = true /\ (Txt.join z zs).length <= sizeLine then .ok (.str (Txt.join z zs)) else .bad
  | none => .bad
 | _ => .bad
theorem dY2 : lM X "str.join" (nT X bN7) := by
 intro pins s σ H x xs v us Q I rx rs h
 obtain ⟨F, z, ds, sb, rfl, hz, hl, q⟩ := h
 obtain ⟨t, rfl⟩ := rx
 unfold bN7 at q
 split at q
 ·obtain ⟨y, rfl, hy⟩ := jE hl
  simp only [bA] at hy
  obtain ⟨a, ys, rfl, sq, dl⟩ := hy
  split at q
  ·rename_i zs hs
   split at q
   ·rename_i hj
    have ex := cH7 hs dl
    subst ex
    obtain ⟨u, rfl, ru⟩ := rs.one
    cases ru
    obtain ⟨its, rv, pl, _⟩ := I.list (bG.seq sb sq)
    obtain ⟨l, rfl, e2⟩ := cH8 rv
    exact SC.join pl.isList e2 hj.1 fun t' k => ⟨.str _, H, I.tok _, ⟨_, rfl⟩, cF q sb (by simp only [bA]; exact ⟨trivial, hj.2⟩)⟩
   ·exact q.elim
  ·exact q.elim
 ·exact q.elim
end
end R
end
section
namespace R
open PySem PySem.Spec PyProof.Rows L2
variable [bP] [Pd]
def fO (T : Tab) (k : Str) : Option D := (T.find? fun p => decide (p.1 = k)).map (·.2)
def jF (T : Tab) (k : Str) (d : D) : Tab := if (T.any fun p => decide (p.1 = k)) = true then T.map (fun p => if p.1 = k then (p.1, d) else p) else T ++ [(k, d)]
section
variable {K : W.Frag} {F : Hp} {T : Tab} {kvs : List (cQ × V)}
theorem fQ.length (h : fQ K F T kvs) : T.length = kvs.length := Paired.length h
theorem fQ.any (h : fQ K F T kvs) (k : Str) : (kvs.any fun kv => decide (kv.1 = .inr k)) = T.any fun p => decide (p.1 = k) := by
 unfold fQ at h
 induction h with
 | nil => rfl
 | @cons p q ps qs h t ih =>
  rw [List.any_cons, List.any_cons, ih, h.1]
  congr 1
  by_cases e : p.1 = k <;> simp [e]
theorem cH9 {a b : Str} (e : ¬ a = b) : ¬ (Sum.inr a : cQ) = .inr b := fun z => e (by injection z)
theorem fQ.val (h : fQ K F T kvs) (k : Str) : (fO T k = none /\ kF kvs (.inr k) = none) \/ ∃ d v, fO T k = some d /\ kF kvs (.inr k) = some v /\ bA K F d v := by
 unfold fQ at h
 induction h with
 | nil => exact .inl ⟨rfl, rfl⟩
 | @cons p q ps qs h t ih =>
  obtain ⟨h1, h2⟩ := h
  by_cases e : p.1 = k
  ·exact .inr ⟨p.2, q.2, by simp [fO, List.find?_cons, e], yU (by rw [h1, e]), h2⟩
  ·rw [yV (by rw [h1]; exact cH9 e)]
   have e2 : fO (p :: ps) k = fO ps k := by simp [fO, List.find?_cons, e]
   rw [e2]; exact ih
theorem fQ.put (h : fQ K F T kvs) {k : Str} {d : D} {v : V} (hd : bA K F d v) : fQ K F (jF T k d) (lB kvs (.inr k) v) := by
 unfold jF lB
 rw [h.any k]
 split
 ·rename_i z; clear z
  unfold fQ at h ⊢
  induction h with
  | nil => exact .nil
  | @cons p q ps qs h t ih =>
   rw [List.map_cons, List.map_cons]
   refine .cons ?_ ih
   obtain ⟨h1, h2⟩ := h
   by_cases e : p.1 = k
   ·rw [if_pos e, if_pos (by rw [h1, e])]; exact ⟨h1, hd⟩
   ·rw [if_neg e, if_neg (by rw [h1]; exact cH9 e)]; exact ⟨h1, h2⟩
 ·exact mW h (.cons ⟨rfl, hd⟩ .nil)
end
def ers (H : Hp) (a : Addr) : Hp := fun b => if b = a then none else H b
section
variable {F H F' H' : Hp} {a b : Addr} {kvs kvs' : List (cQ × V)}
theorem mL (n : b ≠ a) : ers H a b = H b := if_neg n
theorem bN8 : ers H a a = none := if_pos rfl
theorem bA8 {u : HO} (e : ers H a b = some u) : b ≠ a := fun z => by rw [z, bN8] at e; cases e
theorem sL {u : HO} (e : ers H a b = some u) : H b = some u := by rw [mL (bA8 e)] at e; exact e
theorem sM (h : ers H a b ≠ none) : b ≠ a /\ H b ≠ none := by
 have n : b ≠ a := fun z => h (by rw [z, bN8])
 rw [mL n] at h
 exact ⟨n, h⟩
theorem mX.ers (h : mX H) (e : H a = some (.dK kvs)) : mX (ers H a) := fun t ht => by
 obtain ⟨ps, e1, o, q⟩ := h t ht
 refine ⟨ps, by rw [mL (rC e1 e (fun z => nomatch z))]; exact e1, o, ?_⟩
 rcases q with q | ⟨c', q1, q2⟩
 ·exact .inl q
 ·exact .inr ⟨c', q1, by rw [mL (rC q2 e (fun z => nomatch z))]; exact q2⟩
theorem dY3 (s : bG F H) : cD F (ers H a) F H where
 same := fun b u _ q => sL q
 more := fun b h => (sM h).2
 tk := fun t => ⟨t.1.same fun b u q => sL q, t.2⟩
 fs := bG.refl _
 sub := s
 new := fun b h _ => h
theorem cD.ers (g : cD F H F' H') (e : H a = some (.dK kvs)) (fa : F a = none) : cD F (ers H a) F' (R.ers H' a) where
 same := fun b u n q => by rw [mL (bA8 q)]; exact g.same b u n (sL q)
 more := fun b h => by rw [mL (sM h).1]; exact g.more b (sM h).2
 tk := fun t => let r := g.tk ⟨t.1.same fun b u q => sL q, t.2⟩; ⟨r.1.ers (g.same _ _ rfl e), r.2⟩
 fs := g.fs
 sub := fun b u q => by
  have fa' : F' a = none := g.new a fa (by rw [e]; simp)
  rw [mL (lZ q fa')]; exact g.sub b u q
 new := fun b h n => g.new b h (sM n).2
theorem dY4 (s : bG F H) (fa : F a = none) (e : H a = some (.dK kvs)) : cD F (ers H a) F (upd H a (.dK kvs')) where
 same := fun b u _ q => by rw [dD (bA8 q)]; exact sL q
 more := fun b h => by rw [dD (sM h).1]; exact (sM h).2
 tk := fun t => ⟨t.1.same fun b u q => by rw [dD (bA8 q)]; exact sL q, t.2⟩
 fs := bG.refl _
 sub := wA s fa _
 new := fun b h _ => h
end
section
variable {K : W.Frag} {F₀ H₀ F H F' H' : Hp} {ρ : bM} {σ : St} {i : Nat} {p : Bool} {T T' : Tab} {a l : Addr} {kvs kvs' : List (cQ × V)}
theorem bN9 (S : SR K F₀ H₀ F H ρ σ) (hi : ρ[i]? = some (.dic p T)) (h1 : σ[i]? = some (some (.ref a))) (g : cD F (ers H a) F' H') (ha : H' a = some (.dK kvs')) (fa : F' a = none) (dt : fQ K F' T' kvs') : SR K F₀ H₀ F' H' (ρ.set i (.dic p T')) σ := by
 obtain ⟨o, z1, a', kvs, rfl, hp, hHa, hFa, _⟩ := S.env.at_ i _ hi
 rw [h1] at z1; cases z1
 have h0 : H₀ a = none := S.dr.1 i p T a hi h1
 have old : ∀ (j : Nat) q U, (ρ.set i (.dic p T'))[j]? = some (.dic q U) -> ∃ q' U', ρ[j]? = some (.dic q' U') := fun j q U z => by
  rcases gS z with ⟨rfl, _, _⟩ | ⟨_, z⟩
  ·exact ⟨p, T, hi⟩
  ·exact ⟨q, U, z⟩
 have own : ∀ (j : Nat) es, (ρ.set i (.dic p T'))[j]? = some (.own es) -> ρ[j]? = some (.own es) := fun j es z => by
  rcases gS z with ⟨rfl, z, _⟩ | ⟨_, z⟩
  ·cases z
  ·exact z
 have keep : ∀ (b : Addr) (u : HO), b ≠ a -> yW u = true -> H b = some u -> H' b = some u := fun b u n nt z => g.same b u nt (by rw [mL n]; exact z)
 have newF : ∀ (b : Addr) (u : HO), b ≠ a -> H b = some u -> F b = none -> F' b = none := fun b u n z f => g.new b f (by rw [mL n, z]; simp)
 refine ⟨⟨fun b u nt z => keep b u (lZ z h0) nt (S.gr.same b u nt z), fun b h => ?_, fun t => g.tk ⟨(S.gr.tk t).1.ers hHa, (S.gr.tk t).2⟩, S.gr.fs.trans g.fs, g.sub, fun b hb hn => ?_⟩,
  ⟨g.tk ⟨S.env.tb.1.ers hHa, S.env.tb.2⟩, g.sub, by rw [List.length_set]; exact S.env.len, fun j t e => ?_, fun j k ds es b n e1 e2 e3 e4 => S.env.apart j k ds es b n (own j ds e1) (own k es e2) e3 e4⟩,
  fun j ds b e1 e2 => S.frh j ds b (own j ds e1) e2, fun j q U b e1 e2 => ?_, fun j k q q' U U' b n e1 e2 e3 => ?_⟩
 ·have n : b ≠ a := fun z => h (by rw [z]; exact h0)
  exact g.more b (by rw [mL n]; exact S.gr.more b h)
 ·have n : b ≠ a := fun z => hn (by rw [z]; exact h0)
  exact g.new b (S.gr.new b hb hn) (by rw [mL n]; exact S.gr.more b hn)
 ·rcases gS e with ⟨rfl, rfl, _⟩ | ⟨n, e⟩
  ·exact ⟨some (.ref a), h1, a, kvs', rfl, hp, ha, fa, dt⟩
  ·obtain ⟨o, z1, z2⟩ := S.env.at_ j t e
   refine ⟨o, z1, ?_⟩
   cases t with
   | no => trivial
   | val d => obtain ⟨v, y1, y2⟩ := z2; exact ⟨v, y1, y2.mono g.fs⟩
   | is v c => exact ⟨z2.1, fun r hr => g.fs _ _ (z2.2 r hr)⟩
   | own es =>
    obtain ⟨b, ys, rfl, y1, y2, y3⟩ := z2
    have nb : b ≠ a := rC y1 hHa (fun z => nomatch z)
    exact ⟨b, ys, rfl, keep b _ nb rfl y1, newF b _ nb y1 y2, y3.mono g.fs⟩
   | dic q U =>
    obtain ⟨b, ys, rfl, y0, y1, y2, y3⟩ := z2
    have nb : b ≠ a := fun z => S.dr.2 i j p q T U a n hi e h1 (by rw [<- z]; exact z1)
    exact ⟨b, ys, rfl, y0, keep b _ nb rfl y1, newF b _ nb y1 y2, y3.mono g.fs⟩
   | tab U =>
    obtain ⟨b, ys, rfl, y1, y3⟩ := z2
    exact ⟨b, ys, rfl, g.fs _ _ y1, y3.mono g.fs⟩
 ·obtain ⟨_, _, e⟩ := old j q U e1
  exact S.dr.1 j _ _ b e e2
 ·obtain ⟨_, _, f1⟩ := old j q U e1
  obtain ⟨_, _, f2⟩ := old k q' U' e2
  exact S.dr.2 j k _ _ _ _ b n f1 f2 e3
theorem bA9 (S : SR K F₀ H₀ F H ρ σ) (g : cD F H F' H') (hl : H l = none) (ha : H' l = some (.dK kvs)) (fl : F' l = none) (dt : fQ K F' T kvs) (i : Nat) : SR K F₀ H₀ F' H' (ρ.set i (.dic false T)) (σ.set i (some (.ref l))) := by
 have S' := S.grow g
 have h0 : H₀ l = none := by
  cases z : H₀ l with
  | none => rfl
  | some u => exact absurd hl (S.gr.more l (by rw [z]; simp))
 have own : ∀ (j : Nat) es, (ρ.set i (.dic false T))[j]? = some (.own es) -> i ≠ j /\ ρ[j]? = some (.own es) := fun j es z => by
  rcases gS z with ⟨rfl, z, _⟩ | ⟨n, z⟩
  ·cases z
  ·exact ⟨n, z⟩
 have far : ∀ (j : Nat) q U b, ρ[j]? = some (.dic q U) -> σ[j]? = some (some (.ref b)) -> b ≠ l := fun j q U b e1 e2 z => by
  obtain ⟨o, z1, b', ys, rfl, _, y1, _⟩ := S.env.at_ j _ e1
  rw [e2] at z1; cases z1
  rw [z, hl] at y1; cases y1
 refine ⟨S'.gr, ⟨S'.env.tb, S'.env.sub, by rw [List.length_set, List.length_set]; exact S'.env.len, fun j t e => ?_, fun j k ds es b n e1 e2 e3 => ?_⟩, fun j ds b e1 e2 => ?_, fun j q U b e1 e2 => ?_, fun j k q q' U U' b n e1 e2 e3 => ?_⟩
 ·rcases gS e with ⟨rfl, rfl, hl'⟩ | ⟨n, e⟩
  ·exact ⟨some (.ref l), List.getElem?_set_self (by rw [<- S.env.len]; exact hl'), l, kvs, rfl, (fun z => nomatch z), ha, fl, dt⟩
  ·rw [List.getElem?_set_ne n]; exact S'.env.at_ j t e
 ·obtain ⟨n1, e1⟩ := own j ds e1
  obtain ⟨n2, e2⟩ := own k es e2
  rw [List.getElem?_set_ne n1] at e3
  rw [List.getElem?_set_ne n2]
  exact S.env.apart j k ds es b n e1 e2 e3
 ·obtain ⟨n1, e1⟩ := own j ds e1
  rw [List.getElem?_set_ne n1] at e2
  exact S.frh j ds b e1 e2
 ·rcases gS e1 with ⟨rfl, _, hl'⟩ | ⟨n, e1⟩
  ·rw [List.getElem?_set_self (by rw [<- S.env.len]; exact hl')] at e2; cases e2; exact h0
  ·rw [List.getElem?_set_ne n] at e2; exact S.dr.1 j q U b e1 e2
 ·rcases gS e1 with ⟨rfl, _, hl1⟩ | ⟨n1, e1⟩
  ·rcases gS e2 with ⟨rfl, _, _⟩ | ⟨n2, e2⟩
   ·exact absurd rfl n
   ·rw [List.getElem?_set_self (by rw [<- S.env.len]; exact hl1)] at e3; cases e3
    rw [List.getElem?_set_ne n2]
    exact fun z => far k q' U' l e2 z rfl
  ·rw [List.getElem?_set_ne n1] at e3
   rcases gS e2 with ⟨rfl, _, hl2⟩ | ⟨n2, e2⟩
   ·rw [List.getElem?_set_self (by rw [<- S.env.len]; exact hl2)]
    exact fun z => by cases z; exact far j q U _ e1 e3 rfl
   ·rw [List.getElem?_set_ne n2]; exact S.dr.2 j k q q' U U' b n e1 e2 e3
end
def kJ : Option Slot -> Option Tab
 | some (.dic _ T) => some T
 | some (.tab T) => some T
 | _ => none
theorem bB0 {K : W.Frag} {F H : Hp} {ρ : bM} {σ : St} {i : Nat} {T : Tab} (E : gD K F H ρ σ) (h : kJ ρ[i]? = some T) : ∃ a kvs, σ[i]? = some (some (.ref a)) /\ H a = some (.dK kvs) /\ fQ K F T kvs := by
 cases e : ρ[i]? with
 | none => rw [e] at h; cases h
 | some s =>
  rw [e] at h
  obtain ⟨o, z1, z2⟩ := E.at_ i s e
  cases s with
  | dic p U => cases h; obtain ⟨a, kvs, rfl, _, y1, _, y3⟩ := z2; exact ⟨a, kvs, z1, y1, y3⟩
  | tab U => cases h; obtain ⟨a, kvs, rfl, y1, y3⟩ := z2; exact ⟨a, kvs, z1, E.sub _ _ y1, y3⟩
  | no => cases h
  | val _ => cases h
  | own _ => cases h
  | is _ _ => cases h
section
variable {X : Cx} {e value : Expr} {es : List Expr} {f g : ME} {x y : Str} {p p2 p3 lp cp pos pos' : Pos} {i j : Nat}
def bO0 (neg : Bool) : Option Tab -> D -> bC Bool
 | some T, .str k => .ok (neg != (fO T k).isSome)
 | _, _ => .bad
def jY (neg : Bool) (i : Nat) (f : ME) : MT := fun ρ => (f ρ).bind (bO0 neg (kJ ρ[i]?))
theorem cI0 {neg : Bool} {σ : St} {H : Hp} {Q : Bool -> Hp -> Prop} (q : mG X (jY neg i f) σ H Q) :
 tD X f σ H fun y H1 => bG7 i σ H1 fun x H2 => ∃ a o, x = .ref a /\ lN H2 a y o /\ ∃ c, V.bl (neg != o.isSome) = .bl c /\ Q c H2 := by
 obtain ⟨ρ, F, E, q⟩ := q
 refine ⟨ρ, F, E, ?_⟩
 unfold jY at q
 revert q
 cases f ρ with
 | ok d =>
  intro q v F1 H1 g1 d1
  have q : dA wC F H (bO0 neg (kJ ρ[i]?) d) Q := q
  cases ht : kJ ρ[i]? with
  | none => rw [ht] at q; exact q.elim
  | some T =>
   rw [ht] at q
   obtain ⟨a, kvs, z1, z2, z3⟩ := bB0 (E.grow g1) ht
   cases d with
   | str k =>
    simp only [bA] at d1
    obtain ⟨rfl, _⟩ := d1
    refine ⟨.ref a, z1, a, kF kvs (.inr k), rfl, lN.k (k := .inr k) z2, _, rfl, ?_⟩
    have e2 : (kF kvs (.inr k)).isSome = (fO T k).isSome := by
     rcases z3.val k with ⟨h1, h2⟩ | ⟨d', v', h1, h2, _⟩ <;> rw [h1, h2] <;> rfl
    rw [e2]
    exact q _ F1 H1 g1 rfl
   | _ => exact q.elim
 | ex _ => exact fun q => q
 | bad => exact fun q => q
theorem bB1 (hu : X.A.units + 1 < cLine) (hv : cH X.N X.env.scope i x) (he : IE X e f) (hb : behindInMarks .In (.Name x p) = false := by rfl) : IT X (.Compare e [.In] [.Name x p] pos) (jY false i f) :=
 qF (bV6 (dI6 hu he (lL hv.n hv.v hv.d hv.c)) hb) fun σ H Q q => by
  obtain ⟨ρ, F, E, q⟩ := cI0 q
  refine ⟨ρ, F, E, ?_⟩
  revert q
  cases f ρ with
  | ok d => exact fun q v F1 H1 g1 d1 => let ⟨x', z, a, o, e1, e2, c, e3, e4⟩ := q v F1 H1 g1 d1; ⟨x', z, a, o, e1, e2, c, by rw [<- e3]; simp, e4⟩
  | ex _ => exact fun q => q
  | bad => exact fun q => q
theorem bO1 (hu : X.A.units + 1 < cLine) (hv : cH X.N X.env.scope i x) (he : IE X e f) (hb : behindInMarks .NotIn (.Name x p) = false := by rfl) : IT X (.Compare e [.NotIn] [.Name x p] pos) (jY true i f) :=
 qF (bV6 (dI7 hu he (lL hv.n hv.v hv.d hv.c)) hb) fun σ H Q q => by
  obtain ⟨ρ, F, E, q⟩ := cI0 q
  refine ⟨ρ, F, E, ?_⟩
  revert q
  cases f ρ with
  | ok d => exact fun q v F1 H1 g1 d1 => let ⟨x', z, a, o, e1, e2, c, e3, e4⟩ := q v F1 H1 g1 d1; ⟨x', z, a, o, e1, e2, c, by rw [<- e3]; simp, e4⟩
  | ex _ => exact fun q => q
  | bad => exact fun q => q
def bO2 : Option D -> bC D
 | some r => .ok r
 | none => .bad
def bO3 : Option Tab -> D -> bC D
 | some T, .str k => bO2 (fO T k)
 | _, _ => .bad
def qL (i : Nat) (f : ME) : ME := fun ρ => (f ρ).bind (bO3 (kJ ρ[i]?))
theorem bO4 (hu : X.A.units + 1 < cLine) (hv : cH X.N X.env.scope i x) (he : IE X e f) (hs : bI6 e) : IE X (.Subscript (.Name x p) e pos) (qL i f) :=
 fL (dI5 hu (lL hv.n hv.v hv.d hv.c) he hs) fun σ H Q ⟨ρ, F, E, q⟩ => by
 unfold qL at q
 revert q
 cases hf : f ρ with
 | ok d =>
  intro q
  have q : dA (bA X.K) F H (bO3 (kJ ρ[i]?) d) Q := q
  cases ht : kJ ρ[i]? with
  | none => rw [ht] at q; exact q.elim
  | some T =>
   rw [ht] at q
   obtain ⟨a, kvs, z1, z2, z3⟩ := bB0 E ht
   refine ⟨.ref a, z1, ρ, F, E, ?_⟩
   rw [hf]
   intro v F1 H1 g1 d1
   cases d with
   | str k =>
    simp only [bA] at d1
    obtain ⟨rfl, _⟩ := d1
    have q : dA (bA X.K) F H (bO2 (fO T k)) Q := q
    have z2' : H1 a = some (.dK kvs) := g1.same _ _ rfl z2
    rcases z3.val k with ⟨h1, h2⟩ | ⟨r, v', h1, h2, h3⟩
    ·rw [h1] at q; exact q.elim
    ·rw [h1] at q
     exact ⟨a, v', rfl, by rw [<- h2]; exact lN.k (k := .inr k) z2', q v' F1 H1 g1 (h3.mono g1.fs)⟩
   | _ => exact q.elim
 | ex _ => exact fun q => q.elim
 | bad => exact fun q => q.elim
def kW (i : Nat) (f g : ME) : MS := fun ρ => (g ρ).bind fun dv => (f ρ).bind fun dk => match ρ[i]? with
 | some (.dic p T) => match dk with
  | .str k => if T.length < sizeLine then .ok (.nx (ρ.set i (.dic p (jF T k dv)))) else .bad
  | _ => .bad
 | _ => .bad
theorem sN (hu : X.A.units + 1 < cLine) (hv : cH X.N X.env.scope i x) (he : IE X e f) (hw : IE X value g) (hs : swapsWith value (some (.Subscript (.Name x p) e pos')) pos.line X.env = pure false) : IS X (.Assign [.Subscript (.Name x p) e pos'] value pos) (kW i f g) := fun F₀ H₀ =>
 fR (dI8 hu (lL hv.n hv.v hv.d hv.c) he hw hs) fun E σ H ⟨ρ, F, S, q⟩ => by
 unfold kW at q
 refine ⟨ρ, F, S.env, ?_⟩
 revert q
 cases hg : g ρ with
 | ok dv =>
  intro q v F1 H1 g1 d1
  have S1 := S.grow g1
  cases hf : f ρ with
  | ok dk =>
   rw [hf] at q
   cases hi : ρ[i]? with
   | none => rw [hi] at q; exact q.elim
   | some s =>
    rw [hi] at q
    cases s with
    | dic p T =>
     obtain ⟨o, z1, a, kvs, rfl, y0, y1, y2, y3⟩ := S1.env.at_ i _ hi
     refine ⟨.ref a, z1, ρ, F1, S1.env, ?_⟩
     rw [hf]
     intro v2 F2 H2 g2 d2
     have S2 := S1.grow g2
     cases dk with
     | str k =>
      simp only [bA] at d2
      obtain ⟨rfl, _⟩ := d2
      have q : fS X F₀ H₀ (if T.length < sizeLine then .ok (.nx (ρ.set i (.dic p (jF T k dv)))) else .bad) E := q
      split at q
      ·rename_i hz
       have a2 : H2 a = some (.dK kvs) := g2.same _ _ rfl y1
       have f2 : F2 a = none := g2.new a y2 (by rw [y1]; simp)
       refine ⟨a, _, rfl, vY.k (k := .inr k) (v := v) a2 (by rw [<- y3.length]; exact hz), ?_⟩
       exact q σ F2 _ (bN9 S2 hi z1 (dY4 g2.sub f2 a2) fY f2 ((y3.mono g2.fs).put (d1.mono g2.fs)))
      ·exact q.elim
     | _ => exact q.elim
    | _ => exact q.elim
  | ex _ => rw [hf] at q; exact q.elim
  | bad => rw [hf] at q; exact q.elim
 | ex _ => exact fun q => q
 | bad => exact fun q => q
def cI1 (i : Nat) : MS := fun ρ => .ok (.nx (ρ.set i (.dic false [])))
theorem dY5 (hN : X.N.Nodup) (hi : X.N[i]? = some x) (hx : Loc X.env.scope x) (hf : X.fn x = true \/ X.env.scope.names.lookup x = some .local) : IS X (.Assign [.Name x p] (.Dict [] [] lp) pos) (cI1 i) := fun F₀ H₀ =>
 fR (mS (i := i) hN hi hx bI7 (pQ rfl) hf) fun E σ H ⟨ρ, F, S, q⟩ l hl => q _ F _ (bA9 S (cD.laidN S.env.sub hl _) hl fY (bG.free S.env.sub hl) .nil i)
theorem dY6 : fG X (.type "dict") fun vs H Q => ∃ a kvs, vs = [.ref a] /\ H a = some (.dK kvs) /\ ∀ p, H p = none -> Q (.ref p) (upd H p (.dK kvs)) := by
 intro pins s σ H xs us Q I r h
 obtain ⟨a, kvs, rfl, e, q⟩ := h
 cases r with
 | cons h1 t => cases t; cases h1; exact dJ1 I (.inl e) fun p s' hp I' => ⟨.ref p, _, I', rfl, q p hp⟩
def bB2 (j i : Nat) : MS := fun ρ => match kJ ρ[i]? with
 | some T => .ok (.nx (ρ.set j (.dic false T)))
 | none => .bad
theorem dY7 (hN : X.N.Nodup) (hj : X.N[j]? = some x) (hx : Loc X.env.scope x) (hf : X.fn x = true \/ X.env.scope.names.lookup x = some .local) (hv : cH X.N X.env.scope i y) (hg : Gl X "dict") (hm : X.mg "dict" = none)
 (hs : swapsWith (.Call (.Name "dict" p2) [.Name y p3] [] cp) (some (.Name x p)) pos.line X.env = pure false) :
 IS X (.Assign [.Name x p] (.Call (.Name "dict" p2) [.Name y p3] [] cp) pos) (bB2 j i) := fun F₀ H₀ =>
 fR (mS (i := j) hN hj hx (bI1 dY6 hg hm PyProof.Rows.boot_dict (kO (lL hv.n hv.v hv.d hv.c) mD)) hs hf) fun E σ H ⟨ρ, F, S, q⟩ => by
 unfold bB2 at q
 cases ht : kJ ρ[i]? with
 | none => rw [ht] at q; exact q.elim
 | some T =>
  rw [ht] at q
  obtain ⟨a, kvs, z1, z2, z3⟩ := bB0 S.env ht
  exact ⟨.ref a, z1, a, kvs, rfl, z2, fun l hl => q _ F _ (bA9 S (cD.laidN S.env.sub hl _) hl fY (bG.free S.env.sub hl) z3 j)⟩
def dQ (i : Nat) (f : ME) : MS := fun ρ => (f ρ).bind fun d => match ρ[i]? with
 | some (.dic true T) => .ok (.rd d T)
 | _ => .bad
theorem rd_of {F₀ H₀ F H : Hp} {ρ : bM} {σ : St} {E : lK} {d : D} {v : V} (S : SR X.K F₀ H₀ F H ρ σ) (dv : bA X.K F d v) (q : fS X F₀ H₀ (match ρ[i]? with
 | some (.dic true T) => .ok (.rd d T)
 | _ => .bad) E) : E.rt v H := by
 split at q
 ·rename_i T hi
  obtain ⟨o, z1, a, kvs, rfl, y0, y1, y2, y3⟩ := S.env.at_ i _ hi
  cases y0 rfl
  exact q v F H kvs S.gr dv y1 y2 y3
 ·exact q.elim
theorem jZ (he : IE X e f) : IS X (.Return (some e) pos) (dQ i f) := fun F₀ H₀ => fR (yJ he) fun E σ H q =>
 rR (k := fun d ρ => match ρ[i]? with
  | some (.dic true T) => .ok (.rd d T)
  | _ => .bad) (fun ρ F H d v S r q => rd_of S r q) q
def bO5 (i : Nat) : MS := fun ρ => match ρ[i]? with
 | some (.dic false T) => .ok (.rn T)
 | _ => .bad
theorem dY8 (hv : cH X.N X.env.scope i x) : IS X (.Return (some (.Name x p)) pos) (bO5 i) := fun F₀ H₀ => fR (yJ (lL hv.n hv.v hv.d hv.c)) fun E σ H ⟨ρ, F, S, q⟩ => by
 unfold bO5 at q
 split at q
 ·rename_i T hi
  obtain ⟨o, z1, a, kvs, rfl, y0, y1, y2, y3⟩ := S.env.at_ i _ hi
  exact ⟨.ref a, z1, q a F H kvs S.gr (S.dr.1 i _ _ a hi z1) y1 y2 y3⟩
 ·exact q.elim
end
end R
end
section
namespace R
open PySem PySem.Spec PyProof.Rows L2
variable [bP]
def qM (K : W.Frag) (F : Hp) : Slot -> V -> Prop
 | .val d, v => bA K F d v
 | .tab T, v => ∃ a kvs, v = .ref a /\ F a = some (.dK kvs) /\ fQ K F T kvs
 | _, _ => False
abbrev kA (K : W.Frag) (F : Hp) : List Slot -> List V -> Prop := Paired (qM K F)
theorem qM.slot [Pd] {K : W.Frag} {F H : Hp} {s : Slot} {v : V} (h : qM K F s v) : wB K F H s (some v) /\ nd s = true /\ ∀ ds, s ≠ .own ds := by
 cases s with
 | val d => exact ⟨⟨v, rfl, h⟩, rfl, fun _ z => nomatch z⟩
 | tab T => obtain ⟨a, kvs, rfl, h1, h2⟩ := h; exact ⟨⟨a, kvs, rfl, h1, h2⟩, rfl, fun _ z => nomatch z⟩
 | no => exact h.elim
 | own _ => exact h.elim
 | is _ _ => exact h.elim
 | dic _ _ => exact h.elim
theorem qM.nd {K : W.Frag} {F : Hp} {s : Slot} {v : V} (h : qM K F s v) : R.nd s = true := (@qM.slot _ ⟨0⟩ K F F s v h).2.1
theorem kA.nd {K : W.Frag} {F : Hp} {sl : List Slot} {vs : List V} (h : kA K F sl vs) : ∀ s ∈ sl, R.nd s = true := by
 induction h with
 | nil => intro s hs; cases hs
 | cons h t ih =>
  intro s hs
  rcases List.mem_cons.mp hs with rfl | hs
  ·exact h.nd
  ·exact ih s hs
theorem kA.own {K : W.Frag} {F : Hp} {sl : List Slot} {vs : List V} (h : kA K F sl vs) : ∀ s ∈ sl, ∀ ds, s ≠ .own ds := by
 induction h with
 | nil => intro s hs; cases hs
 | cons h t ih =>
  intro s hs
  rcases List.mem_cons.mp hs with rfl | hs
  ·exact (@qM.slot _ ⟨0⟩ K F F _ _ h).2.2
  ·exact ih s hs
def qN (K : W.Frag) (F H : Hp) (a : Addr) (r : bC (D × Tab)) (Q : VK) : Prop := match r with
 | .ok r => ∀ v F' H' kvs, cD F (ers H a) F' H' -> H' a = some (.dK kvs) -> F' a = none -> fQ K F' r.2 kvs -> bA K F' r.1 v -> Q v H'
 | .ex _ => False
 | .bad => False
def pR (K : W.Frag) (m : List Slot -> Tab -> bC (D × Tab)) : Sp := fun vs H Q _ => ∃ F sl vs0 a kvs T, vs = vs0 ++ [.ref a] /\ lO F H /\ bG F H /\ kA K F sl vs0 /\ H a = some (.dK kvs) /\ F a = none /\ fQ K F T kvs /\ qN K F H a (m sl T) Q
def pA (n : Nat) (sl : List Slot) (T : Tab) : bM := sl ++ (.dic true T :: List.replicate (n - sl.length - 1) .no)
def mM (i : Nat) : Fl -> bC (D × Tab)
 | .rd d T => .ok (d, T)
 | .nx ρ => match ρ[i]? with
  | some (.dic true T) => .ok (.non, T)
  | _ => .bad
 | _ => .bad
def pB (k n : Nat) (g : MS) (sl : List Slot) (T : Tab) : bC (D × Tab) := if sl.length + 1 = k then (g (pA n sl T)).bind (mM sl.length) else .bad
theorem bO6 {n : Nat} {sl : List Slot} {T : Tab} {i : Nat} {s : Slot} (e : (pA n sl T)[i]? = some s) : (sl[i]? = some s) \/ (i = sl.length /\ s = .dic true T) \/ (sl.length < i /\ i < n /\ s = .no) := by
 unfold pA at e
 by_cases hi : i < sl.length
 ·rw [List.getElem?_append_left hi] at e; exact .inl e
 ·rw [List.getElem?_append_right bF] at e
  by_cases h0 : i = sl.length
  ·subst h0; rw [Nat.sub_self] at e; simp at e; exact .inr (.inl ⟨rfl, e.symm⟩)
  ·obtain ⟨j, hj⟩ : ∃ j, i - sl.length = j + 1 := ⟨i - sl.length - 1, by omega⟩
   rw [hj, List.getElem?_cons_succ, List.getElem?_replicate] at e
   split at e
   ·cases e; exact .inr (.inr ⟨by omega, by omega, rfl⟩)
   ·cases e
theorem bO7 {N : List Str} {vs : List V} {i : Nat} {v : V} (h : vs[i]? = some v) : (L2.start N vs)[i]? = some (some v) := by
 unfold L2.start
 have hi : i < vs.length := (List.getElem?_eq_some_iff.mp h).1
 rw [List.getElem?_append_left (by simpa using hi), List.getElem?_map, h]; rfl
theorem cI2 {N : List Str} {vs : List V} {i : Nat} (h : vs.length <= i) (hn : i < N.length) : (L2.start N vs)[i]? = some none := by
 unfold L2.start
 rw [List.getElem?_append_right (by simpa using h), List.getElem?_replicate]
 simp only [List.length_map]
 rw [if_pos bF]
theorem cI3 {N : List Str} {vs : List V} (h : vs.length <= N.length) : (L2.start N vs).length = N.length := by
 unfold L2.start
 simp only [List.length_append, List.length_map, List.length_replicate]; omega
section
variable {K : W.Frag} {F H : Hp} {sl : List Slot} {vs : List V} {a : Addr} {kvs : List (cQ × V)} {T : Tab} {N : List Str}
theorem dY9 [Pd] (hp : Pd.pd = a) (ti : lO F H) (s : bG F H) (r : kA K F sl vs) (ha : H a = some (.dK kvs)) (fa : F a = none) (dt : fQ K F T kvs) (hN : sl.length + 1 <= N.length) :
 SR K F (ers H a) F H (pA N.length sl T) (L2.start N (vs ++ [.ref a])) := by
 have hl := Paired.length r
 have own : ∀ (i : Nat) es, (pA N.length sl T)[i]? ≠ some (.own es) := fun i es e => by
  rcases bO6 e with h | ⟨_, h⟩ | ⟨_, _, h⟩
  ·exact kA.own r _ (List.mem_of_getElem? h) es rfl
  ·cases h
  ·cases h
 have dic : ∀ (i : Nat) p U, (pA N.length sl T)[i]? = some (.dic p U) -> i = sl.length := fun i p U e => by
  rcases bO6 e with h | ⟨h, _⟩ | ⟨_, _, h⟩
  ·cases kA.nd r _ (List.mem_of_getElem? h)
  ·exact h
  ·cases h
 have z : (L2.start N (vs ++ [.ref a]))[sl.length]? = some (some (.ref a)) := bO7 (by rw [hl, List.getElem?_append_right (Nat.le_refl _), Nat.sub_self]; rfl)
 refine ⟨dY3 s, ⟨ti, s, ?_, fun i t e => ?_, fun i j es fs b _ e => absurd e (own i es)⟩, fun i es b e => absurd e (own i es), fun i p U b e1 e2 => ?_, fun i j p q U U' b n e1 e2 => ?_⟩
 ·rw [cI3 (by rw [List.length_append]; simp; omega)]
  unfold pA
  simp only [List.length_append, List.length_cons, List.length_replicate]; omega
 ·rcases bO6 e with h | ⟨rfl, rfl⟩ | ⟨h1, h2, rfl⟩
  ·obtain ⟨v, h1, h2⟩ := jT r h
   exact ⟨some v, bO7 (by rw [List.getElem?_append_left (List.getElem?_eq_some_iff.mp h1).1]; exact h1), h2.slot.1⟩
  ·exact ⟨some (.ref a), z, a, kvs, rfl, fun _ => hp.symm, ha, fa, dt⟩
  ·exact ⟨none, cI2 (by rw [List.length_append]; simp; omega) h2, trivial⟩
 ·cases dic i p U e1
  rw [z] at e2; cases e2; exact bN8
 ·exact absurd (dic i p U e1 |>.trans (dic j q U' e2).symm) n
end
theorem sO {P : Program} {w : World} {K : W.Frag} {mg : Str -> Option Value} {base : Heap} {x qual : Str} {st : Stmt} {f : Addr} {fd : FuncData} {N ps : List Str} {k : Nat} {g : MS} (F : bK K x qual st f fd) (S : dE N ps (bH st)) (hN : ps.length <= N.length)
 (hbody : ∀ (_ : Pd) (cdv : Value) (A : Around) (outer : List Env) (s : Shared) (H : Hp) (E : XK), dR k (A.deeper (envOfC qual (bH st) s.heap.objs.size f cdv)) ->
   jD (mV bU P w K mg base N qual (bH st) f cdv A outer s H E).nox (mF st) g) : bS P w K mg base bU (k + 1) f fd ps (pR K (pB ps.length N.length g)) := by
 refine F.ok S (fun vs H Q E h => ?_) (fun cdv A outer s H vs Q E hr h => ?_)
 ·obtain ⟨F, sl, vs0, a, kvs, T, rfl, _, _, r, _, _, _, q⟩ := h
  unfold pB at q
  split at q
  ·rename_i e; rw [List.length_append, <- Paired.length r]; exact e
  ·exact q.elim
 ·obtain ⟨F, sl, vs0, a, kvs, T, rfl, ti, s', r, ha, fa, dt, q⟩ := h
  unfold pB at q
  split at q
  ·rename_i e
   letI : Pd := ⟨a⟩
   refine ⟨_, hbody ⟨a⟩ cdv A outer s H E hr F (ers H a), pA N.length sl T, F, dY9 rfl ti s' r ha fa dt bF, ?_⟩
   revert q
   cases g (pA N.length sl T) with
   | ok fl =>
    intro q
    cases fl with
    | nx ρ =>
     intro σ F' H' S'
     have q : qN K F H a (match ρ[sl.length]? with
      | some (.dic true T) => .ok (.non, T)
      | _ => .bad) Q := q
     split at q
     ·rename_i T' hi
      obtain ⟨o, z1, a', kvs', rfl, y0, y1, y2, y3⟩ := S'.env.at_ _ _ hi
      have e0 : a' = a := y0 rfl
      subst e0
      exact q .non F' H' kvs' S'.gr y1 y2 y3 (by simp only [bA])
     ·exact q.elim
    | rd d T' => exact fun v F' H' kvs' g' r' h1 h2 h3 => q v F' H' kvs' g' h1 h2 h3 r'
    | rt d => exact q.elim
    | rn d => exact q.elim
    | bk ρ => exact q.elim
    | ct ρ => exact q.elim
   | ex _ => exact fun q => q
   | bad => exact fun q => q
  ·exact q.elim
structure lF (P : Program) (w : World) (K : W.Frag) (mg : Str -> Option Value) (base : Heap) (k : Nat) (x : Str) (m : List Slot -> Tab -> bC (D × Tab)) : Prop where
 ex : ∃ (f : Addr) (fd : FuncData) (ps : List Str), bS P w K mg base bU k f fd ps (pR K m) /\ mg x = some (.ref f) /\ W.keepIn K (.ref f) = true /\ cS K fd ps []
variable [Pd]
abbrev kX := bM -> bC (List Slot)
def sP (X : Cx) (es : List Expr) (fa : kX) (i : Nat) : Prop := PA X es fun σ H Q => ∃ ρ F a, gD X.K F H ρ σ /\ (∃ p T, ρ[i]? = some (.dic p T)) /\ σ[i]? = some (some (.ref a)) /\ dA (kA X.K) F H (fa ρ) fun vs H' => Q (vs ++ [.ref a]) H'
def gG : kX := fun _ => .ok []
def fI (f : ME) (r : kX) : kX := fun ρ => (f ρ).bind fun d => (r ρ).bind fun sl => .ok (.val d :: sl)
def bB3 (i : Nat) (r : kX) : kX := fun ρ => match ρ[i]? with
 | some (.tab T) => (r ρ).bind fun sl => .ok (.tab T :: sl)
 | _ => .bad
section
variable {X : Cx} {e : Expr} {es : List Expr} {f : ME} {x y : Str} {p p2 cp pos : Pos} {i j k : Nat} {fa r : kX} {m : List Slot -> Tab -> bC (D × Tab)}
theorem qO (hv : cH X.N X.env.scope i y) (hs : starEach [.Name y p] X.env = (false, eval (.Name y p) X.env) :: starEach [] X.env := by rfl) : sP X [.Name y p] gG i := pO (kO (lL hv.n hv.v hv.d hv.c) mD hs) fun σ H Q ⟨ρ, F, a, E, _, z, q⟩ =>
 ⟨.ref a, z, show Q [.ref a] H from cF q E.sub (b := []) .nil⟩
theorem pS (he : IE X e f) (h : sP X es r i) (hs : starEach (e :: es) X.env = (false, eval e X.env) :: starEach es X.env := by rfl) : sP X (e :: es) (fI f r) i := pO (kO he h hs) fun σ H Q ⟨ρ, F, a, E, hsl, z, q⟩ => ⟨ρ, F, E, by
 have q1 := fA (R1 := bA X.K) q
 revert q1
 cases f ρ with
 | ok d =>
  intro q1 v F1 H1 g1 d1
  obtain ⟨F2, d', g2, d2, q2⟩ := q1 v F1 H1 g1 d1
  refine ⟨ρ, F2, a, E.grow g2, hsl, z, ?_⟩
  have q3 := fA (R1 := kA X.K) q2
  revert q3
  cases r ρ with
  | ok y =>
   intro q3 v' F3 H3 g3 d3
   obtain ⟨F4, y', g4, d4, q4⟩ := q3 v' F3 H3 g3 d3
   exact cF q4 g4.sub (b := v :: v') (.cons (d2.mono g4.fs) d4)
  | ex _ => intro q3; exact q3
  | bad => intro q3; exact q3
 | ex _ => exact fun q1 => q1
 | bad => exact fun q1 => q1⟩
theorem dZ0 (hv : cH X.N X.env.scope j x) (h : sP X es r i) (hs : starEach (.Name x p :: es) X.env = (false, eval (.Name x p) X.env) :: starEach es X.env := by rfl) : sP X (.Name x p :: es) (bB3 j r) i := pO (kO (lL hv.n hv.v hv.d hv.c) h hs) fun σ H Q ⟨ρ, F, a, E, hsl, z, q⟩ => by
 unfold bB3 at q
 split at q
 ·rename_i T hj
  obtain ⟨o, z1, b, kvs, rfl, y1, y3⟩ := E.at_ j _ hj
  refine ⟨.ref b, z1, ρ, F, a, E, hsl, z, ?_⟩
  have q3 := fA (R1 := kA X.K) q
  revert q3
  cases r ρ with
  | ok y =>
   intro q3 v' F3 H3 g3 d3
   obtain ⟨F4, y', g4, d4, q4⟩ := q3 v' F3 H3 g3 d3
   exact cF q4 g4.sub (b := V.ref b :: v') (.cons ⟨b, kvs, rfl, g4.fs _ _ y1, y3.mono g4.fs⟩ d4)
  | ex _ => intro q3; exact q3
  | bad => intro q3; exact q3
 ·exact q.elim
theorem qP (C : lF X.prog X.w X.K X.mg X.base k x m) (hr : dR k X.A) (hg : Gl X x) (ha : sP X (e :: es) fa i)
 (hdb : (x == ("__debug__" : Str)) = false := by decide) (he : starEach (e :: es) X.env = (false, eval e X.env) :: starEach es X.env := by rfl) (hpl : (backTo pos (starEach es X.env)).any (·.1) = false := by rfl) :
 PE X (.Call (.Name x p) (e :: es) [] pos) fun σ H Q => ∃ ρ F b T a, gD X.K F H ρ σ /\ ρ[i]? = some (.dic b T) /\ σ[i]? = some (some (.ref a)) /\ qN X.K F H a ((fa ρ).bind fun sl => m sl T) Q := by
 obtain ⟨f, fd, ps, F, hm, hk, hb⟩ := C.ex
 refine fL (yQ (E := E0) F hr hg hm hk hb .nil yT ha hdb he hpl) fun σ H Q ⟨ρ, F, b, T, a, E, hi, z, q⟩ => ⟨ρ, F, a, E, ⟨b, T, hi⟩, z, ?_⟩
 obtain ⟨o, z0, a0, kvs0, rfl, _, x1, x2, _⟩ := E.at_ i _ hi
 rw [z] at z0; cases z0
 revert q
 cases fa ρ with
 | ok sl =>
  intro q vs F1 H1 g1 d1
  obtain ⟨o, z1, a1, kvs, rfl, _, y1, y2, y3⟩ := (E.grow g1).at_ i _ hi
  rw [z] at z1; cases z1
  refine ⟨F1, sl, vs, a, kvs, T, by rw [List.append_nil], (E.grow g1).tb, g1.sub, d1, y1, y2, y3, ?_⟩
  revert q
  show qN X.K F H a (m sl T) Q -> qN X.K F1 H1 a (m sl T) Q
  cases m sl T with
  | ok r => exact fun q v F' H' kvs' g' => q v F' H' kvs' ((g1.ers x1 x2).trans g')
  | ex _ => exact fun q => q
  | bad => exact fun q => q
 | ex _ => exact fun q => q
 | bad => exact fun q => q
def gN (j i : Nat) (m : List Slot -> Tab -> bC (D × Tab)) (fa : kX) : MS := fun ρ => match ρ[i]? with
 | some (.dic p T) => ((fa ρ).bind fun sl => m sl T).bind fun r => .ok (.nx ((ρ.set i (.dic p r.2)).set j (.val r.1)))
 | _ => .bad
theorem sQ {c : Expr} (hN : X.N.Nodup) (hj : X.N[j]? = some x) (hx : Loc X.env.scope x) (hf : X.fn x = true \/ X.env.scope.names.lookup x = some .local)
 (hc : PE X c fun σ H Q => ∃ ρ F b T a, gD X.K F H ρ σ /\ ρ[i]? = some (.dic b T) /\ σ[i]? = some (some (.ref a)) /\ qN X.K F H a ((fa ρ).bind fun sl => m sl T) Q)
 (hs : swapsWith c (some (.Name x p)) pos.line X.env = pure false) : IS X (.Assign [.Name x p] c pos) (gN j i m fa) := fun F₀ H₀ =>
 fR (mS (i := j) hN hj hx hc hs hf) fun E σ H ⟨ρ, F, S, q⟩ => by
 unfold gN at q
 split at q
 ·rename_i b T hi
  obtain ⟨o, z1, a, kvs, rfl, _, y1, y2, y3⟩ := S.env.at_ i _ hi
  refine ⟨ρ, F, b, T, a, S.env, hi, z1, ?_⟩
  revert q
  cases (fa ρ).bind fun sl => m sl T with
  | ok r => exact fun q v F' H' kvs' g ha fa' dt dv => q _ F' H' ((bN9 S hi z1 g ha fa' dt).set j dv)
  | ex _ => exact fun q => q
  | bad => exact fun q => q
 ·exact q.elim
def bB4 (i : Nat) (m : List Slot -> Tab -> bC (D × Tab)) (fa : kX) : MS := fun ρ => match ρ[i]? with
 | some (.dic true T) => ((fa ρ).bind fun sl => m sl T).bind fun r => .ok (.rd r.1 r.2)
 | _ => .bad
theorem dZ1 {c : Expr} (hc : PE X c fun σ H Q => ∃ ρ F b T a, gD X.K F H ρ σ /\ ρ[i]? = some (.dic b T) /\ σ[i]? = some (some (.ref a)) /\ qN X.K F H a ((fa ρ).bind fun sl => m sl T) Q) : IS X (.Return (some c) pos) (bB4 i m fa) := fun F₀ H₀ =>
 fR (yJ hc) fun E σ H ⟨ρ, F, S, q⟩ => by
 unfold bB4 at q
 split at q
 ·rename_i T hi
  obtain ⟨o, z1, a, kvs, rfl, y0, y1, y2, y3⟩ := S.env.at_ i _ hi
  refine ⟨ρ, F, true, T, a, S.env, hi, z1, ?_⟩
  have e0 : a = Pd.pd := y0 rfl
  revert q
  cases (fa ρ).bind fun sl => m sl T with
  | ok r => exact fun q v F' H' kvs' g ha fa' dt dv => q v F' H' kvs' (bN9 S hi z1 g ha fa' dt).gr dv (e0 ▸ ha) (e0 ▸ fa') dt
  | ex _ => exact fun q => q
  | bad => exact fun q => q
 ·exact q.elim
end
omit [Pd]
def dZ2 (K : W.Frag) (F H : Hp) (r : bC Tab) (Q : VK) : Prop := match r with
 | .ok T => ∀ a F' H' kvs, cD F H F' H' -> H a = none -> H' a = some (.dK kvs) -> F' a = none -> fQ K F' T kvs -> Q (.ref a) H'
 | .ex _ => False
 | .bad => False
def spN (K : W.Frag) (m : List D -> bC Tab) : Sp := fun vs H Q _ => ∃ F ds, lO F H /\ bG F H /\ DatL K F ds vs /\ dZ2 K F H (m ds) Q
def dZ3 : Fl -> bC Tab
 | .rn T => .ok T
 | _ => .bad
def bB5 (k n : Nat) (g : MS) (ds : List D) : bC Tab := if ds.length = k then (g (lC n ds)).bind dZ3 else .bad
theorem dZ4 [Pd] {P : Program} {w : World} {K : W.Frag} {mg : Str -> Option Value} {base : Heap} {x qual : Str} {st : Stmt} {f : Addr} {fd : FuncData} {N ps : List Str} {k : Nat} {g : MS} (F : bK K x qual st f fd) (S : dE N ps (bH st))
 (hbody : ∀ (cdv : Value) (A : Around) (outer : List Env) (s : Shared) (H : Hp) (E : XK), dR k (A.deeper (envOfC qual (bH st) s.heap.objs.size f cdv)) ->
   jD (mV bU P w K mg base N qual (bH st) f cdv A outer s H E).nox (mF st) g) : bS P w K mg base bU (k + 1) f fd ps (spN K (bB5 ps.length N.length g)) := by
 refine F.ok S (fun vs H Q E h => ?_) (fun cdv A outer s H vs Q E hr h => ?_)
 ·obtain ⟨F, ds, _, _, r, q⟩ := h
  unfold bB5 at q
  split at q
  ·rename_i e; rw [<- r.length]; exact e
  ·exact q.elim
 ·obtain ⟨F, ds, ti, s', r, q⟩ := h
  refine ⟨_, hbody cdv A outer s H E hr F H, lC N.length ds, F, ⟨.refl s', env0 ti s' r, fun i es a e => ?_, DR.none cA6⟩, ?_⟩
  ·exfalso
   unfold lC at e
   have hm := List.mem_of_getElem? e
   rcases List.mem_append.mp hm with h | h
   ·obtain ⟨d, _, h⟩ := List.mem_map.mp h; cases h
   ·have := List.eq_of_mem_replicate h; cases this
  ·unfold bB5 at q
   split at q
   ·revert q
    cases g (lC N.length ds) with
    | ok fl =>
     intro q
     cases fl with
     | rn T => exact q
     | nx ρ => exact q.elim
     | rt d => exact q.elim
     | rd d T => exact q.elim
     | bk ρ => exact q.elim
     | ct ρ => exact q.elim
    | ex _ => exact fun q => q
    | bad => exact fun q => q
   ·exact q.elim
structure qQ (P : Program) (w : World) (K : W.Frag) (mg : Str -> Option Value) (base : Heap) (k : Nat) (x : Str) (m : List D -> bC Tab) : Prop where
 ex : ∃ (f : Addr) (fd : FuncData) (ps : List Str), bS P w K mg base bU k f fd ps (spN K m) /\ mg x = some (.ref f) /\ W.keepIn K (.ref f) = true /\ cS K fd ps []
def sR (i : Nat) (m : List D -> bC Tab) (fa : MA) : MS := fun ρ => (fa ρ).bind fun ds => (m ds).bind fun T => .ok (.nx (ρ.set i (.dic false T)))
section
variable [Pd] {X : Cx} {e : Expr} {es : List Expr} {f : ME} {x y : Str} {p p2 cp pos : Pos} {i j k : Nat} {fa : MA} {m : List D -> bC Tab}
theorem cI4 (hN : X.N.Nodup) (hj : X.N[i]? = some x) (hx : Loc X.env.scope x) (hf : X.fn x = true \/ X.env.scope.names.lookup x = some .local) (C : qQ X.prog X.w X.K X.mg X.base k y m) (hr : dR k X.A) (hg : Gl X y) (ha : IA X (e :: es) fa)
 (hs : swapsWith (.Call (.Name y p2) (e :: es) [] cp) (some (.Name x p)) pos.line X.env = pure false) (hdb : (y == ("__debug__" : Str)) = false := by decide) (he : starEach (e :: es) X.env = (false, eval e X.env) :: starEach es X.env := by rfl) (hpl : (backTo cp (starEach es X.env)).any (·.1) = false := by rfl) :
 IS X (.Assign [.Name x p] (.Call (.Name y p2) (e :: es) [] cp) pos) (sR i m fa) := fun F₀ H₀ => by
 obtain ⟨f, fd, ps, Fn, hm, hk, hb⟩ := C.ex
 refine fR (mS (i := i) hN hj hx (yQ (E := E0) Fn hr hg hm hk hb .nil yT ha hdb he hpl) hs hf) fun E σ H ⟨ρ, F, S, q⟩ => ⟨ρ, F, S.env, ?_⟩
 unfold sR at q
 revert q
 cases fa ρ with
 | ok ds =>
  intro q vs F1 H1 g1 d1
  refine ⟨F1, ds, (S.env.grow g1).tb, g1.sub, by rw [List.append_nil]; exact d1, ?_⟩
  revert q
  show fS X F₀ H₀ ((m ds).bind fun T => .ok (.nx (ρ.set i (.dic false T)))) E -> _
  cases m ds with
  | ok T => exact fun q a F' H' kvs g hl ha fl dt => q _ F' H' (bA9 (S.grow g1) g hl ha fl dt i)
  | ex _ => exact fun q => q
  | bad => exact fun q => q
 | ex _ => exact fun q => q
 | bad => exact fun q => q
end
def pT (K : W.Frag) (m : List Slot -> bC D) : Sp := fun vs H Q _ => ∃ F sl, lO F H /\ bG F H /\ kA K F sl vs /\ dA (bA K) F H (m sl) Q
def xA (k n : Nat) (g : MS) (sl : List Slot) : bC D := if sl.length = k then (g (sl ++ List.replicate (n - sl.length) .no)).bind cK else .bad
theorem dZ5 [Pd] {P : Program} {w : World} {K : W.Frag} {mg : Str -> Option Value} {base : Heap} {x qual : Str} {st : Stmt} {f : Addr} {fd : FuncData} {N ps : List Str} {k : Nat} {g : MS} (F : bK K x qual st f fd) (S : dE N ps (bH st)) (hN : ps.length <= N.length)
 (hbody : ∀ (cdv : Value) (A : Around) (outer : List Env) (s : Shared) (H : Hp) (E : XK), dR k (A.deeper (envOfC qual (bH st) s.heap.objs.size f cdv)) ->
   jD (mV bU P w K mg base N qual (bH st) f cdv A outer s H E).nox (mF st) g) : bS P w K mg base bU (k + 1) f fd ps (pT K (xA ps.length N.length g)) := by
 refine F.ok S (fun vs H Q E h => ?_) (fun cdv A outer s H vs Q E hr h => ?_)
 ·obtain ⟨F, sl, _, _, r, q⟩ := h
  unfold xA at q
  split at q
  ·rename_i e; rw [<- Paired.length r]; exact e
  ·exact q.elim
 ·obtain ⟨F, sl, ti, s', r, q⟩ := h
  unfold xA at q
  split at q
  ·rename_i e0
   have hl := Paired.length r
   have at_ : ∀ (i : Nat) t, (sl ++ List.replicate (N.length - sl.length) Slot.no)[i]? = some t -> sl[i]? = some t \/ (sl.length <= i /\ i < N.length /\ t = .no) := fun i t e => by
    by_cases hi : i < sl.length
    ·rw [List.getElem?_append_left hi] at e; exact .inl e
    ·rw [List.getElem?_append_right bF, List.getElem?_replicate] at e
     split at e
     ·cases e; exact .inr ⟨by omega, by omega, rfl⟩
     ·cases e
   have own : ∀ (i : Nat) es, (sl ++ List.replicate (N.length - sl.length) Slot.no)[i]? ≠ some (.own es) := fun i es e => by
    rcases at_ i _ e with h | ⟨_, _, h⟩
    ·exact kA.own r _ (List.mem_of_getElem? h) es rfl
    ·cases h
   refine ⟨_, hbody cdv A outer s H E hr F H, sl ++ List.replicate (N.length - sl.length) .no, F, ⟨.refl s', ⟨ti, s', ?_, fun i t e => ?_, fun i j es fs b _ e => absurd e (own i es)⟩, fun i es b e => absurd e (own i es), DR.none fun t ht => ?_⟩, ?_⟩
   ·rw [cI3 bF]; simp only [List.length_append, List.length_replicate]; omega
   ·rcases at_ i t e with h | ⟨h1, h2, rfl⟩
    ·obtain ⟨v, h1, h2⟩ := jT r h
     exact ⟨some v, bO7 h1, h2.slot.1⟩
    ·exact ⟨none, cI2 bF h2, trivial⟩
   ·rcases List.mem_append.mp ht with h | h
    ·exact kA.nd r t h
    ·rw [List.eq_of_mem_replicate h]; rfl
   ·revert q
    cases g (sl ++ List.replicate (N.length - sl.length) .no) with
    | ok fl =>
     intro q
     cases fl with
     | nx ρ => exact fun σ F' H' S' => q .non F' H' S'.gr (by simp only [bA])
     | rt d => exact fun v F' H' g' r' => q v F' H' g' r'
     | rd _ _ => exact q.elim
     | rn _ => exact q.elim
     | bk ρ => exact q.elim
     | ct ρ => exact q.elim
    | ex _ => exact fun q => q
    | bad => exact fun q => q
  ·exact q.elim
structure bO9 (P : Program) (w : World) (K : W.Frag) (mg : Str -> Option Value) (base : Heap) (k : Nat) (x : Str) (m : List Slot -> bC D) : Prop where
 ex : ∃ (f : Addr) (fd : FuncData) (ps : List Str), bS P w K mg base bU k f fd ps (pT K m) /\ mg x = some (.ref f) /\ W.keepIn K (.ref f) = true /\ cS K fd ps []
section
variable [Pd]
def sT (X : Cx) (es : List Expr) (fa : kX) : Prop := PA X es fun σ H Q => ∃ ρ F, gD X.K F H ρ σ /\ dA (kA X.K) F H (fa ρ) Q
def bP0 (r : kX) : kX := fun ρ => (r ρ).bind fun sl => .ok (.tab [] :: sl)
variable {X : Cx} {e : Expr} {es : List Expr} {f : ME} {x y : Str} {p p2 cp pos : Pos} {i j k : Nat} {fa r : kX} {m : List Slot -> bC D}
theorem dZ6 : sT X [] gG := pO mD fun σ H Q ⟨ρ, F, E, q⟩ => cF q E.sub .nil
theorem cI5 (he : IE X e f) (h : sT X es r) (hs : starEach (e :: es) X.env = (false, eval e X.env) :: starEach es X.env := by rfl) : sT X (e :: es) (fI f r) := pO (kO he h hs) fun σ H Q ⟨ρ, F, E, q⟩ => ⟨ρ, F, E, by
 have q1 := fA (R1 := bA X.K) q
 revert q1
 cases f ρ with
 | ok d =>
  intro q1 v F1 H1 g1 d1
  obtain ⟨F2, d', g2, d2, q2⟩ := q1 v F1 H1 g1 d1
  refine ⟨ρ, F2, E.grow g2, ?_⟩
  have q3 := fA (R1 := kA X.K) q2
  revert q3
  cases r ρ with
  | ok y =>
   intro q3 v' F3 H3 g3 d3
   obtain ⟨F4, y', g4, d4, q4⟩ := q3 v' F3 H3 g3 d3
   exact cF q4 g4.sub (b := v :: v') (.cons (d2.mono g4.fs) d4)
  | ex _ => intro q3; exact q3
  | bad => intro q3; exact q3
 | ex _ => exact fun q1 => q1
 | bad => exact fun q1 => q1⟩
theorem dZ7 (h : sT X es r) (hs : starEach (.Dict [] [] p :: es) X.env = (false, eval (.Dict [] [] p) X.env) :: starEach es X.env := by rfl) : sT X (.Dict [] [] p :: es) (bP0 r) := pO (kO bI7 h hs) fun σ H Q ⟨ρ, F, E, q⟩ l hl => by
 have g1 := cD.laid E.sub hl (.dK [])
 refine ⟨ρ, upd F l (.dK []), E.grow g1, ?_⟩
 unfold bP0 at q
 revert q
 cases r ρ with
 | ok y => exact fun q vs F3 H3 g3 d3 => q (V.ref l :: vs) F3 H3 (g1.trans g3) (.cons ⟨l, [], rfl, g3.fs _ _ fY, .nil⟩ d3)
 | ex _ => exact fun q => q
 | bad => exact fun q => q
theorem dZ8 (C : bO9 X.prog X.w X.K X.mg X.base k x m) (hr : dR k X.A) (hg : Gl X x) (ha : sT X (e :: es) fa)
 (hdb : (x == ("__debug__" : Str)) = false := by decide) (he : starEach (e :: es) X.env = (false, eval e X.env) :: starEach es X.env := by rfl) (hpl : (backTo pos (starEach es X.env)).any (·.1) = false := by rfl) :
 IE X (.Call (.Name x p) (e :: es) [] pos) (fun ρ => (fa ρ).bind m) := by
 obtain ⟨f, fd, ps, Fn, hm, hk, hb⟩ := C.ex
 refine fL (yQ (E := E0) Fn hr hg hm hk hb .nil yT ha hdb he hpl) fun σ H Q ⟨ρ, F, E, q⟩ => ⟨ρ, F, E, ?_⟩
 revert q
 show dA (bA X.K) F H ((fa ρ).bind m) Q -> _
 cases fa ρ with
 | ok sl => exact fun q vs F1 H1 g1 d1 => ⟨F1, sl, (E.grow g1).tb, g1.sub, by rw [List.append_nil]; exact d1, dA.grow (show dA (bA X.K) F H (m sl) Q from q) g1⟩
 | ex _ => exact fun q => q
 | bad => exact fun q => q
end
end R
end
section
namespace R
open PySem PySem.Spec PyProof.Rows L2
variable [bP] [Pd]
theorem kB {k : Nat} {A : Around} (hr : dR k A) : A.units + 1 < cLine := by have := hr.un; omega
def pC (m : List D -> bC D) : List Slot -> bC D
 | [.val u, .tab [], .val .non] => m [u]
 | _ => .bad
section
variable {X : Cx} {e b c : Expr} {es : List Expr} {f : ME} {x y : Str} {p p2 p3 cp pos lp : Pos} {i k : Nat}
theorem cI6 {m : List D -> bC D} {j} (C : bO9 X.prog X.w X.K X.mg X.base k "fault_of" (pC m)) (hr : dR k X.A) (hg : Gl X "fault_of") (hn : gL e = false) (he : IE X e f) : IE X (.Call (.Name "fault_of" p) [e, .Dict [] [] p2, .Constant .none j p3] [] pos) (mA m (aC f bB)) := by
 have h := dZ8 (pos := pos) (p := p) C hr hg (cI5 he (dZ7 (p := p2) (cI5 (jU (j := j) (pos := p3)) dZ6)) (gM hn)) (by decide) (gM hn)
 have e0 : (fun ρ => (fI f (bP0 (fI (kc .non) gG)) ρ).bind (pC m)) = mA m (aC f bB) := by
  funext ρ
  unfold fI mA aC
  cases f ρ <;> rfl
 rw [e0] at h
 exact h
def bP1 (i : Nat) : ME := fun ρ => match kJ ρ[i]? with
 | some T => .ok (.int T.length)
 | none => .bad
theorem dZ9 (hv : cH X.N X.env.scope i x) (hg : Gl X "len") (hm : X.mg "len" = none) : IE X (.Call (.Name "len" p) [.Name x p2] [] pos) (bP1 i) :=
 fL (bI0 dJ2 hg hm PySem.boot_len (kO (lL hv.n hv.v hv.d hv.c) mD)) fun σ H Q ⟨ρ, F, E, q⟩ => by
 unfold bP1 at q
 cases ht : kJ ρ[i]? with
 | none => rw [ht] at q; exact q.elim
 | some T =>
  rw [ht] at q
  obtain ⟨a, kvs, z1, z2, z3⟩ := bB0 E ht
  exact ⟨.ref a, z1, a, kvs, rfl, z2, by rw [<- z3.length]; exact cF q E.sub (by simp only [bA])⟩
theorem fA0 : PE X e fun _ _ _ => False := fun _ _ _ _ _ _ h => h.elim
def bP2 (i : Nat) (t : MT) : MS := fun ρ => (t ρ).bind fun c => if c = true then .ok (.nx (ρ.set i (.dic false []))) else .bad
theorem fA1 {t : MT} (hN : X.N.Nodup) (hi : X.N[i]? = some x) (hx : Loc X.env.scope x) (hf : X.fn x = true \/ X.env.scope.names.lookup x = some .local) (hc : IT X c t)
 (hs : swapsWith (.IfExp c (.Dict [] [] lp) b cp) (some (.Name x p)) pos.line X.env = pure false) : IS X (.Assign [.Name x p] (.IfExp c (.Dict [] [] lp) b cp) pos) (bP2 i t) := fun F₀ H₀ =>
 fR (mS (i := i) hN hi hx (bV7 hc bI7 fA0) hs hf) fun E σ H ⟨ρ, F, S, q⟩ => ⟨ρ, F, S.env, by
 unfold bP2 at q
 revert q
 cases t ρ with
 | ok c =>
  intro q v F1 H1 g1 e1
  cases (show c = v from e1)
  cases c with
  | true => exact nQ fun l hl => q _ F1 _ (bA9 (S.grow g1) (cD.laidN g1.sub hl _) hl fY (bG.free g1.sub hl) .nil i)
  | false => exact q.elim
 | ex _ => exact fun q => q
 | bad => exact fun q => q⟩
end
omit [Pd]
theorem qQ.mono {P : Program} {w : World} {K : W.Frag} {mg : Str -> Option Value} {base : Heap} {j k : Nat} {x : Str} {m : List D -> bC Tab} (h : qQ P w K mg base j x m) (l : j <= k) : qQ P w K mg base k x m := let ⟨f, fd, ps, F, r⟩ := h.ex; ⟨f, fd, ps, F.mono l, r⟩
end R
end
section
namespace R
open PySem PySem.Spec PyProof.Rows L2
variable [bP] [Pd]
structure Ga where
 N : List Str
 nm : List (Str × NameKind)
 fs : List (Str × (List D -> bC D))
 cs : List (Str × D)
 ts : List (Str × List (Str × D))
 bs : List Str
 cp : List ((Nat × Nat) × List Str)
structure fJ (k : Nat) (Γ : Ga) (X : Cx) : Prop where
 hN : X.N = Γ.N
 hS : X.env.scope.names = Γ.nm
 hk : X.env.scope.kind = .function
 nd : X.N.Nodup
 cm : X.calm = true
 fs : ∀ x m, Γ.fs.lookup x = some m -> dS X.prog X.w X.K X.mg X.base k x m
 cs : ∀ x d, Γ.cs.lookup x = some d -> lE X.K X.mg x d
 ts : ∀ x t, Γ.ts.lookup x = some t -> nX X.w X.K X.mg x t
 bs : ∀ x, Γ.bs.contains x = true -> X.mg x = none
 rm : dR k X.A
def ob {α β : Type} (o : Option α) (f : α -> Option β) : Option β := match o with
 | some a => f a
 | none => none
def og {α : Type} (c : Bool) (o : Option α) : Option α := match c with
 | true => o
 | false => none
theorem bN {α β : Type} {o : Option α} {f : α -> Option β} {b : β} (h : ob o f = some b) : ∃ a, o = some a /\ f a = some b := by
 cases o with
 | none => cases h
 | some a => exact ⟨a, rfl, h⟩
theorem fP {α : Type} {c : Bool} {o : Option α} {b : α} (h : og c o = some b) : c = true /\ o = some b := by
 cases c with
 | false => cases h
 | true => exact ⟨rfl, h⟩
def sU (x : Str) : List Str -> Option Nat
 | [] => none
 | y :: r => match y == x with
  | true => some 0
  | false => ob (sU x r) fun i => some (i + 1)
theorem bP3 {x : Str} : ∀ {l : List Str} {i : Nat}, sU x l = some i -> l[i]? = some x
 | [], _, h => by cases h
 | y :: r, i, h => by
  unfold sU at h
  split at h
  ·rename_i e; cases h; rw [eq_of_beq e]; rfl
  ·obtain ⟨j, hj, e⟩ := bN h
   cases e
   rw [List.getElem?_cons_succ]; exact bP3 hj
def vk : Option NameKind -> Bool
 | some .local => true
 | some .cell => true
 | some .free => true
 | _ => false
def idx (Γ : Ga) (x : Str) : Option Nat := og (vk (Γ.nm.lookup x) && (!(x == ("__debug__" : Str)) && !(x == ("__classdict__" : Str)))) (sU x Γ.N)
def gl (Γ : Ga) (x : Str) : Bool := (match Γ.nm.lookup x with
 | some .globalImplicit => true
 | _ => false) && !(x == ("__debug__" : Str))
section
variable {k : Nat} {Γ : Ga} {X : Cx} {x : Str}
theorem bP5 {i : Nat} (G : fJ k Γ X) (h : idx Γ x = some i) : cH X.N X.env.scope i x := by
 obtain ⟨h1, h2⟩ := fP h
 rw [Bool.and_eq_true, Bool.and_eq_true, Bool.not_eq_true', Bool.not_eq_true'] at h1
 refine ⟨by rw [G.hN]; exact bP3 h2, ?_, h1.2.1, h1.2.2⟩
 rw [G.hS]
 have hv := h1.1
 revert hv
 cases Γ.nm.lookup x with
 | none => exact fun z => by cases z
 | some q => cases q <;> intro z <;> first | exact .inl rfl | exact .inr (.inl rfl) | exact .inr (.inr rfl) | cases z
theorem sV (G : fJ k Γ X) (h : gl Γ x = true) : X.env.scope.names.lookup x = some .globalImplicit /\ (x == ("__debug__" : Str)) = false := by
 unfold gl at h
 rw [Bool.and_eq_true, Bool.not_eq_true'] at h
 refine ⟨?_, h.2⟩
 rw [G.hS]
 have hv := h.1
 split at hv
 ·rename_i e; exact e
 ·cases hv
end
structure Rc where
 E : Ga -> Expr -> Option ME
 T : Ga -> Expr -> Option MT
structure jA (k : Nat) (r : Rc) : Prop where
 E : ∀ {Γ X e f}, fJ k Γ X -> r.E Γ e = some f -> IE X e f
 T : ∀ {Γ X e f}, fJ k Γ X -> r.T Γ e = some f -> IT X e f
def cI7 : Operator -> Option (D -> D -> bC D)
 | .Add => some bV
 | .Sub => some gU
 | .Mult => some fN
 | .FloorDiv => some cN
 | .Mod => some bY
 | .Pow => some cB7
 | _ => none
def bB6 : CmpOp -> Option (D -> D -> bC D)
 | .Eq => some cP
 | .NotEq => some nU
 | .Lt => some gK
 | .LtE => some dLe
 | .Gt => some kR
 | .GtE => some dGe
 | .In => some (fX false)
 | .NotIn => some (fX true)
 | .Is => some (dO false)
 | .IsNot => some (dO true)
def bP6 (x : Str) : Option (List D -> bC D) :=
 if x == "abs" then some bM0 else if x == "len" then some dJ else if x == "all" then some bL0 else if x == "min" then some wX else if x == "max" then some wY else
 if x == "int" then some wM else if x == "list" then some nA else if x == "tuple" then some jO else if x == "str" then some bK3 else none
def tyM (x : Str) : Option String :=
 if x == "int" then some "int" else if x == "bool" then some "bool" else if x == "str" then some "str" else if x == "tuple" then some "tuple" else if x == "list" then some "list" else none
def bP8 (x : Str) : Option (Str -> List D -> bC D) :=
 if x == "find" then some bL3 else if x == "split" then some bL6 else if x == "startswith" then some bL4 else if x == "join" then some bN7 else none
section
variable {k : Nat} {Γ : Ga} {X : Cx} {x : Str} {m : D -> D -> bC D}
theorem fA2 {op : Operator} (h : cI7 op = some m) : cI X (binaryOp op) (rD X m) := by
 cases op <;> cases h
 ·exact nS
 ·exact cB5
 ·exact dN8
 ·exact zK
 ·exact dN6
 ·exact cB6
theorem sW {op : CmpOp} (hr : dR k X.A) (h : bB6 op = some m) : cI X (compareOp op) (rD X m) := by
 cases op <;> cases h
 ·exact wK (wR hr)
 ·exact bA1
 ·exact dO1
 ·exact dO2
 ·exact cC0
 ·exact dO3
 ·exact wU
 ·exact bA2
 ·exact dT2 (bL7 hr)
 ·exact cE5 (bL7 hr)
theorem fA3 {m : List D -> bC D} (hc : X.calm = true) (h : bP6 x = some m) : (∃ id, fG X (.builtin id) (lQ X m) /\ bootBuiltins x = some (.builtin id)) \/ ∃ id, fG X (.type id) (lQ X m) /\ bootBuiltins x = some (.type id) := by
 unfold bP6 at h
 split at h
 ·rename_i e; cases eq_of_beq e; cases h; exact .inl ⟨_, dU1, PyProof.Rows.boot_abs⟩
 split at h
 ·rename_i e; cases eq_of_beq e; cases h; exact .inl ⟨_, zP, PySem.boot_len⟩
 split at h
 ·rename_i e; cases eq_of_beq e; cases h; exact .inl ⟨_, dS1 hc, PyProof.Rows.boot_all⟩
 split at h
 ·rename_i e; cases eq_of_beq e; cases h; exact .inl ⟨_, cH5 hc, PyProof.Rows.boot_min⟩
 split at h
 ·rename_i e; cases eq_of_beq e; cases h; exact .inl ⟨_, cH6 hc, PyProof.Rows.boot_max⟩
 split at h
 ·rename_i e; cases eq_of_beq e; cases h; exact .inr ⟨_, dO8, PyProof.Rows.boot_int⟩
 split at h
 ·rename_i e; cases eq_of_beq e; cases h; exact .inr ⟨_, zQ, PyProof.Rows.boot_list⟩
 split at h
 ·rename_i e; cases eq_of_beq e; cases h; exact .inr ⟨_, wN, PyProof.Rows.boot_tuple⟩
 split at h
 ·rename_i e; cases eq_of_beq e; cases h; exact .inr ⟨_, dU2, PyProof.Rows.boot_str⟩
 cases h
theorem fA4 {T : String} (h : tyM x = some T) : kS X.K T /\ bootBuiltins x = some (.type T) /\ (x == ("__name__" : Str)) = false := by
 unfold tyM at h
 split at h
 ·rename_i e; cases eq_of_beq e; cases h; exact ⟨dR2 _, PyProof.Rows.boot_int, by decide +kernel⟩
 split at h
 ·rename_i e; cases eq_of_beq e; cases h; exact ⟨dR3 _, PyProof.Rows.boot_bool, by decide +kernel⟩
 split at h
 ·rename_i e; cases eq_of_beq e; cases h; exact ⟨dR4 _, PyProof.Rows.boot_str, by decide +kernel⟩
 split at h
 ·rename_i e; cases eq_of_beq e; cases h; exact ⟨dR5 _, PyProof.Rows.boot_tuple, by decide +kernel⟩
 split at h
 ·rename_i e; cases eq_of_beq e; cases h; exact ⟨dR6 _, PyProof.Rows.boot_list, by decide +kernel⟩
 cases h
theorem fA5 {m : Str -> List D -> bC D} (h : bP8 x = some m) : ∃ id, PySem.Slot "str" x id /\ typeOf (.builtin id) = pure (.type "method_descriptor") /\ lM X id (nT X m) := by
 unfold bP8 at h
 split at h
 ·rename_i e; cases eq_of_beq e; cases h; exact ⟨_, PySem.F.slot_str_find, PySem.F.type_str_find, dS6⟩
 split at h
 ·rename_i e; cases eq_of_beq e; cases h; exact ⟨_, PySem.F.slot_str_split, PySem.F.type_str_split, dS9⟩
 split at h
 ·rename_i e; cases eq_of_beq e; cases h; exact ⟨_, PySem.F.slot_str_startswith, PySem.F.type_str_startswith, dS7⟩
 split at h
 ·rename_i e; cases eq_of_beq e; cases h; exact ⟨_, PySem.F.slot_str_join, PySem.F.type_str_join, dY2⟩
 cases h
end
end R
end
section
namespace R
open PySem PySem.Spec PyProof.Rows L2
variable [bP] [Pd]
def rA (r : Rc) (Γ : Ga) : List Expr -> Option MA
 | [] => some bB
 | e :: es => og (!gL e) (ob (r.E Γ e) fun f => ob (rA r Γ es) fun g => some (aC f g))
def rV (r : Rc) (Γ : Ga) (op : BoolOp) : List Expr -> Option ME
 | [] => none
 | [a] => r.E Γ a
 | a :: b :: rest => ob (r.E Γ a) fun f => ob (rV r Γ op (b :: rest)) fun g => match op with
  | .And => some (rN f g)
  | .Or => some (vOr f g)
def rW (r : Rc) (Γ : Ga) (op : BoolOp) : List Expr -> Option MT
 | [] => none
 | [a] => r.T Γ a
 | a :: b :: rest => ob (r.T Γ a) fun f => ob (rW r Γ op (b :: rest)) fun g => match op with
  | .And => some (mY f g)
  | .Or => some (jL f g)
def rO (r : Rc) (Γ : Ga) : Option Expr -> Option MO
 | none => some hG
 | some e => ob (r.E Γ e) fun f => some (hJ f)
def bB7 (Γ : Ga) : Expr -> Option (List (Str × D))
 | .Name x _ => og (gl Γ x) (Γ.ts.lookup x)
 | _ => none
def cM (r : Rc) (Γ : Ga) (a : Expr) : List CmpOp -> List Expr -> Option ME
 | [op], [b] => og (!behindInMarks op b) (match bB7 Γ b with
  | some t => match op with
   | .In => ob (r.E Γ a) fun f => some (m1 (sC t false) f)
   | .NotIn => ob (r.E Γ a) fun f => some (m1 (sC t true) f)
   | _ => none
  | none => ob (bB6 op) fun m => ob (r.E Γ a) fun f => ob (r.E Γ b) fun g => some (m2 m f g))
 | [op, op'], [b, c] => og (!lastMarks [op, op'] [b, c]) (ob (bB6 op) fun m => ob (bB6 op') fun m' => ob (r.E Γ a) fun f => ob (r.E Γ b) fun g => ob (r.E Γ c) fun h => some (wJ m m' f g h))
 | _, _ => none
def sE (r : Rc) (Γ : Ga) (a : Expr) : Expr -> Option ME
 | .Slice lo hi none _ => ob (r.E Γ a) fun f => ob (rO r Γ lo) fun l => ob (rO r Γ hi) fun u => some (hR f l u)
 | .Slice none none (some st) _ => ob (r.E Γ a) fun f => ob (r.E Γ st) fun g => some (m2 wQ f g)
 | b => og (bA0 b) (match bB7 Γ a with
  | some t => ob (r.E Γ b) fun f => some (m1 (wV t) f)
  | none => ob (r.E Γ a) fun f => ob (r.E Γ b) fun g => some (m2 bI f g))
def blt (Γ : Ga) (x : Str) : Bool := gl Γ x && (Γ.bs.contains x && !(x == ("__name__" : Str)))
def rL (r : Rc) (Γ : Ga) (tp : Bool) (iter : Expr) : Option ML := match iter with
 | .Call (.Name x p) args [] q =>
  if x == "range" then (match args with
   | [a] => og (blt Γ "range" && !gL a) (ob (r.E Γ a) fun f => some (gP f))
   | _ => none)
  else if x == "zip" then (match args with
   | [a, b] => og (tp && (blt Γ "zip" && fU [a, b])) (ob (r.E Γ a) fun f => ob (r.E Γ b) fun g => some (sI f g))
   | _ => none)
  else if x == "enumerate" then (match args with
   | [a] => og (tp && (blt Γ "enumerate" && !gL a)) (ob (r.E Γ a) fun f => some (bM9 f))
   | _ => none)
  else ob (r.E Γ iter) fun f => some (cV f)
 | _ => ob (r.E Γ iter) fun f => some (cV f)
section
variable {k : Nat} {r : Rc} {Γ : Ga} {X : Cx} {pos : Pos}
theorem nt {b : Bool} (h : (!b) = true) : b = false := by cases b; rfl; cases h
theorem pU (R : jA k r) (G : fJ k Γ X) : ∀ {es fa}, rA r Γ es = some fa -> IA X es fa
 | [], _, h => by cases h; exact cT
 | e :: es, _, h => by
  obtain ⟨h0, h⟩ := fP h
  obtain ⟨f, h1, h⟩ := bN h
  obtain ⟨g, h2, h⟩ := bN h
  cases h
  exact bQ (nt h0) (R.E G h1) (pU R G h2)
theorem bP9 (R : jA k r) (G : fJ k Γ X) {op : BoolOp} : ∀ {es f}, rV r Γ op es = some f -> IE X (.BoolOp op es pos) f
 | [], _, h => by cases h
 | [a], _, h => cA4 (R.E G h)
 | a :: b :: rest, _, h => by
  obtain ⟨f, h1, h⟩ := bN h
  obtain ⟨g, h2, h⟩ := bN h
  cases op with
  | And => cases h; exact cA5 (R.E G h1) (bP9 R G h2)
  | Or => cases h; exact dL3 (R.E G h1) (bP9 R G h2)
theorem bQ0 (R : jA k r) (G : fJ k Γ X) {op : BoolOp} : ∀ {es f}, rW r Γ op es = some f -> IW X (.BoolOp op es pos) f
 | [], _, h => by cases h
 | [a], _, h => by
  cases op with
  | And => exact dL0 (R.T G h)
  | Or => exact cA0 (R.T G h)
 | a :: b :: rest, _, h => by
  obtain ⟨f, h1, h⟩ := bN h
  obtain ⟨g, h2, h⟩ := bN h
  cases op with
  | And => cases h; exact dL1 (R.T G h1) (bQ0 R G h2)
  | Or => cases h; exact cA1 (R.T G h1) (bQ0 R G h2)
theorem cI8 (R : jA k r) (G : fJ k Γ X) {o : Option Expr} {f : MO} (h : rO r Γ o = some f) : wP X o f := by
 cases o with
 | none => cases h; exact dQ9
 | some e =>
  obtain ⟨f, h1, h⟩ := bN h
  cases h
  exact dR0 (R.E G h1)
theorem cI9 (G : fJ k Γ X) {e : Expr} {t : List (Str × D)} (h : bB7 Γ e = some t) : ∃ x p, e = .Name x p /\ nX X.w X.K X.mg x t /\ X.env.scope.names.lookup x = some .globalImplicit /\ (x == ("__debug__" : Str)) = false := by
 unfold bB7 at h
 split at h
 ·obtain ⟨h1, h2⟩ := fP h
  exact ⟨_, _, rfl, G.ts _ _ h2, sV G h1⟩
 ·cases h
theorem cJ0 (R : jA k r) (G : fJ k Γ X) {a : Expr} {ops : List CmpOp} {bs : List Expr} {f : ME} (h : cM r Γ a ops bs = some f) : IE X (.Compare a ops bs pos) f /\ IT X (.Compare a ops bs pos) (mB f) := by
 unfold cM at h
 split at h
 ·replace h := fP h
  obtain ⟨h0, h⟩ := h
  have h0 := nt h0
  split at h
  ·rename_i ht
   obtain ⟨x, p, rfl, C, hg, hd⟩ := cI9 G ht
   split at h
   ·obtain ⟨f, h1, h⟩ := bN h
    cases h
    exact ⟨cF8 (Or.inl ⟨rfl, rfl⟩) C hg hd h0 (R.E G h1), cF9 (Or.inl ⟨rfl, rfl⟩) C hg hd h0 (R.E G h1)⟩
   ·obtain ⟨f, h1, h⟩ := bN h
    cases h
    exact ⟨cF8 (Or.inr ⟨rfl, rfl⟩) C hg hd h0 (R.E G h1), cF9 (Or.inr ⟨rfl, rfl⟩) C hg hd h0 (R.E G h1)⟩
   ·cases h
  ·obtain ⟨m, hm, h⟩ := bN h
   obtain ⟨f, h1, h⟩ := bN h
   obtain ⟨g, h2, h⟩ := bN h
   cases h
   exact ⟨bJ9 (sW G.rm hm) (R.E G h1) (R.E G h2) h0, kG (sW G.rm hm) (R.E G h1) (R.E G h2) h0⟩
 ·obtain ⟨h0, h⟩ := fP h
  obtain ⟨m, hm, h⟩ := bN h
  obtain ⟨m', hm', h⟩ := bN h
  obtain ⟨f, h1, h⟩ := bN h
  obtain ⟨g, h2, h⟩ := bN h
  obtain ⟨c, h3, h⟩ := bN h
  cases h
  exact ⟨dO4 (sW G.rm hm) (sW G.rm hm') (R.E G h1) (R.E G h2) (R.E G h3) (nt h0), dO5 (sW G.rm hm) (sW G.rm hm') (R.E G h1) (R.E G h2) (R.E G h3) (nt h0)⟩
 ·cases h
theorem fA6 (R : jA k r) (G : fJ k Γ X) {a b : Expr} {f : ME} (h : sE r Γ a b = some f) : IE X (.Subscript a b pos) f := by
 unfold sE at h
 split at h
 ·obtain ⟨f, h1, h⟩ := bN h
  obtain ⟨l, h2, h⟩ := bN h
  obtain ⟨u, h3, h⟩ := bN h
  cases h
  exact dR1 (R.E G h1) (cI8 R G h2) (cI8 R G h3)
 ·obtain ⟨f, h1, h⟩ := bN h
  obtain ⟨g, h2, h⟩ := bN h
  cases h
  exact dT1 (R.E G h1) (R.E G h2)
 ·obtain ⟨h0, h⟩ := fP h
  split at h
  ·rename_i ht
   obtain ⟨f, h1, h⟩ := bN h
   cases h
   obtain ⟨x, p, rfl, C, hg, hd⟩ := cI9 G ht
   exact dV2 C hg hd h0 (R.E G h1)
  ·obtain ⟨f, h1, h⟩ := bN h
   obtain ⟨g, h2, h⟩ := bN h
   cases h
   exact fV h0 (R.E G h1) (R.E G h2)
theorem qR (G : fJ k Γ X) {x : Str} (h : blt Γ x = true) : X.env.scope.names.lookup x = some .globalImplicit /\ X.mg x = none /\ (x == ("__debug__" : Str)) = false /\ (x == ("__name__" : Str)) = false := by
 unfold blt at h
 rw [Bool.and_eq_true, Bool.and_eq_true] at h
 exact ⟨(sV G h.1).1, G.bs _ h.2.1, (sV G h.1).2, nt h.2.2⟩
theorem bB8 (R : jA k r) (G : fJ k Γ X) {tp : Bool} {tg iter : Expr} {fl : ML} (ht : tp = true -> ∃ es j p, tg = .Tuple es j p) (h : rL r Γ tp iter = some fl) : II X tg iter fl := by
 unfold rL at h
 split at h
 ·split at h
  ·rename_i e
   cases eq_of_beq e
   split at h
   ·obtain ⟨h0, h⟩ := fP h
    obtain ⟨f, h1, h⟩ := bN h
    cases h
    rw [Bool.and_eq_true] at h0
    obtain ⟨g1, g2, _⟩ := qR G h0.1
    exact wT g1 g2 (nt h0.2) (R.E G h1)
   ·cases h
  split at h
  ·rename_i e
   cases eq_of_beq e
   split at h
   ·obtain ⟨h0, h⟩ := fP h
    obtain ⟨f, h1, h⟩ := bN h
    obtain ⟨g, h2, h⟩ := bN h
    cases h
    rw [Bool.and_eq_true, Bool.and_eq_true] at h0
    obtain ⟨es, j, p, rfl⟩ := ht h0.1
    obtain ⟨g1, g2, _⟩ := qR G h0.2.1
    exact dW4 g1 g2 h0.2.2 (R.E G h1) (R.E G h2)
   ·cases h
  split at h
  ·rename_i e
   cases eq_of_beq e
   split at h
   ·obtain ⟨h0, h⟩ := fP h
    obtain ⟨f, h1, h⟩ := bN h
    cases h
    rw [Bool.and_eq_true, Bool.and_eq_true] at h0
    obtain ⟨es, j, p, rfl⟩ := ht h0.1
    obtain ⟨g1, g2, _⟩ := qR G h0.2.1
    exact dX2 g1 g2 (nt h0.2.2) (R.E G h1)
   ·cases h
  obtain ⟨f, h1, h⟩ := bN h
  cases h
  exact lS (R.E G h1)
 ·obtain ⟨f, h1, h⟩ := bN h
  cases h
  exact lS (R.E G h1)
end
end R
end
section
namespace R
open PySem PySem.Spec PyProof.Rows L2
variable [bP] [Pd]
noncomputable def bQ1 : Expr -> Bool
 | .Call _ _ _ _ => false
 | _ => true
theorem base_of {o : Expr} {nm : Str} {env : Env} {w : Sem Value} (h : bQ1 o = true) : attributeBase o nm env w = w := by
 cases o <;> first
  | (exact Bool.noConfusion h)
  | rfl
noncomputable def bQ2 (r : Rc) (Γ : Ga) (x : Str) (e : Expr) (es : List Expr) : Option ME := match Γ.fs.lookup x with
 | some m => og (gl Γ x && fU (e :: es)) (ob (rA r Γ (e :: es)) fun fa => some (mA m fa))
 | none => if x == "isinstance" then (match es with
  | [.Name t _] => ob (tyM t) fun T => og (blt Γ "isinstance" && (blt Γ t && !gL e)) (ob (r.E Γ e) fun f => some (m1 (rX T) f))
  | _ => none)
  else ob (bP6 x) fun m => og (blt Γ x && fU (e :: es)) (ob (rA r Γ (e :: es)) fun fa => some (mA m fa))
noncomputable def bQ3 (r : Rc) (Γ : Ga) (fn : Expr) (args : List Expr) (kw : List Keyword) (pos : Pos) : Option ME := match kw, fn, args with
 | [], .Name x _, e :: es => bQ2 r Γ x e es
 | [], .Attribute o nm ap, [] => og (bQ1 o && ((ap.endLine == pos.line) && (nm == "upper"))) (ob (r.E Γ o) fun f => some (bL2 zU f))
 | [], .Attribute o nm ap, e :: es => ob (bP8 nm) fun m => og (bQ1 o && ((ap.endLine == pos.line) && (fU (e :: es) && Nat.blt (e :: es).length 30))) (ob (r.E Γ o) fun f => ob (rA r Γ (e :: es)) fun fa => some (mMe m f fa))
 | _, _, _ => none
section
variable {k : Nat} {r : Rc} {Γ : Ga} {X : Cx} {pos p : Pos}
theorem fA7 (R : jA k r) (G : fJ k Γ X) {x : Str} {e : Expr} {es : List Expr} {f : ME} (h : bQ2 r Γ x e es = some f) : IE X (.Call (.Name x p) (e :: es) [] pos) f := by
 unfold bQ2 at h
 split at h
 ·rename_i m hm
  replace h := fP h
  obtain ⟨h0, h⟩ := h
  obtain ⟨fa, h1, h⟩ := bN h
  cases h
  rw [Bool.and_eq_true] at h0
  obtain ⟨g1, g2⟩ := sV G h0.1
  exact hV (G.fs _ _ hm) G.rm g1 h0.2 g2 (pU R G h1)
 ·skip
  ·split at h
   ·rename_i ex
    cases eq_of_beq ex
    split at h
    ·obtain ⟨T, hT, h⟩ := bN h
     replace h := fP h
     obtain ⟨h0, h⟩ := h
     obtain ⟨fa, h1, h⟩ := bN h
     cases h
     rw [Bool.and_eq_true, Bool.and_eq_true] at h0
     obtain ⟨t1, t2, t3⟩ := fA4 (X := X) hT
     obtain ⟨g1, g2, _⟩ := qR G h0.1
     obtain ⟨g3, g4, g5, _⟩ := qR G h0.2.1
     exact dT5 t1 (nt h0.2.2) g1 g2 g3 g4 t2 g5 t3 (R.E G h1)
    ·cases h
   ·obtain ⟨m, hm, h⟩ := bN h
    replace h := fP h
    obtain ⟨h0, h⟩ := h
    obtain ⟨fa, h1, h⟩ := bN h
    cases h
    rw [Bool.and_eq_true] at h0
    obtain ⟨g1, g2, g3, g4⟩ := qR G h0.1
    rcases fA3 (X := X) G.cm hm with ⟨id, c1, c2⟩ | ⟨id, c1, c2⟩
    ·exact rZ c1 kP g1 g2 c2 h0.2 g3 g4 (pU R G h1)
    ·exact pP c1 kP g1 g2 c2 h0.2 g3 g4 (pU R G h1)
theorem fA8 (R : jA k r) (G : fJ k Γ X) {fn : Expr} {args : List Expr} {kw : List Keyword} {f : ME} (h : bQ3 r Γ fn args kw pos = some f) : IE X (.Call fn args kw pos) f := by
 unfold bQ3 at h
 split at h
 ·exact fA7 R G h
 ·replace h := fP h
  obtain ⟨h0, h⟩ := h
  obtain ⟨fo, h1, h⟩ := bN h
  cases h
  rw [Bool.and_eq_true, Bool.and_eq_true] at h0
  cases eq_of_beq h0.2.2
  exact dS5 (R.E G h1) (base_of h0.1) h0.2.1
 ·obtain ⟨m, hm, h⟩ := bN h
  replace h := fP h
  obtain ⟨h0, h⟩ := h
  obtain ⟨fo, h1, h⟩ := bN h
  obtain ⟨fa, h2, h⟩ := bN h
  cases h
  rw [Bool.and_eq_true, Bool.and_eq_true, Bool.and_eq_true] at h0
  obtain ⟨id, m1, m2, m3⟩ := fA5 (X := X) hm
  exact dT6 m1 m2 m3 h0.2.2.1 h0.2.2.2 h0.2.1 (base_of h0.1) (R.E G h1) (pU R G h2)
 ·cases h
end
noncomputable def bQ4 (names outer : List (Str × NameKind)) : List (Str × NameKind) := names.map fun (n, k) => if (k == NameKind.free && outer.lookup n == some .cell) then (n, NameKind.cell) else (n, k)
noncomputable def xB (Γ : Ga) (scope : Scope) (os caps : List Str) : Ga := { Γ with N := os ++ caps, nm := bQ4 scope.names Γ.nm }
noncomputable def isFn (scope : Scope) : Bool := match scope.kind with
 | .function => true
 | _ => false
noncomputable def bB9 (Γ : Ga) (scope : Scope) (os caps : List Str) (js : List Nat) : Bool :=
 isFn scope && ((scope.names.all fun y => decide (y.2 ≠ .cell)) && ((scope.names.all fun y => decide (y.2 = .local -> scope.names.lookup y.1 = some .local)) && ((os.all fun x => decide (scope.names.lookup x = some .local)) &&
 ((scope.names.all fun y => decide (y.2 = .free -> Γ.nm.lookup y.1 = some .cell \/ Γ.nm.lookup y.1 = some .free)) && (decide ((os ++ caps).Nodup) && (decide (caps.length = js.length) && ((caps.zip js).all fun q => decide (Γ.N[q.2]? = some q.1) && decide (scope.names.lookup q.1 = some .free))))))))
noncomputable def xC (N : List Str) : List Str -> List Nat
 | [] => []
 | x :: r => ((sU x N).getD 0) :: xC N r
noncomputable def bC0 (r : Rc) (Γ : Ga) : List Expr -> Option MT
 | [] => some fun _ => .ok true
 | [c] => r.T Γ c
 | _ => none
structure CQ where
 js : List Nat
 fl : ML
 P : MT
 G : ME
noncomputable def bC1 (r : Rc) (Γ : Ga) (elt : Expr) (gens : List Comprehension) (scope : Scope) (pos : Pos) : Option CQ := ob (Γ.cp.lookup (pos.line, pos.col)) fun caps => match gens with
 | [⟨.Name x _, iter, ifs, 0⟩] => og (bB9 Γ scope [x] caps (xC Γ.N caps) && sA iter) (ob (rL r Γ false iter) fun fl => ob (bC0 r (xB Γ scope [x] caps) ifs) fun p => ob (r.E (xB Γ scope [x] caps) elt) fun g => some ⟨xC Γ.N caps, fl, p, g⟩)
 | [⟨.Tuple [.Name x _, .Name y _] _ _, iter, ifs, 0⟩] => og (bB9 Γ scope [x, y] caps (xC Γ.N caps) && sA iter) (ob (rL r Γ true iter) fun fl => ob (bC0 r (xB Γ scope [x, y] caps) ifs) fun p => ob (r.E (xB Γ scope [x, y] caps) elt) fun g => some ⟨xC Γ.N caps, fl, dB p, dB g⟩)
 | _ => none
section
variable {k : Nat} {r : Rc} {Γ : Ga} {X : Cx} {pos : Pos} {scope : Scope} {os caps : List Str} {js : List Nat}
theorem cJ1 (G : fJ k Γ X) (h : bB9 Γ scope os caps js = true) : lD X scope os caps js := by
 unfold bB9 at h
 simp only [Bool.and_eq_true] at h
 obtain ⟨h1, h2, h3, h4, h5, h6, h7, h8⟩ := h
 have hk : scope.kind = .function := by
  unfold isFn at h1
  split at h1
  ·rename_i e; exact e
  ·cases h1
 refine wS (N := Γ.N) (sc := X.env.scope) G.hN rfl hk h2 h3 h4 ?_ (of_decide_eq_true h6) (of_decide_eq_true h7) h8
 rw [G.hS]; exact h5
theorem bC2 (G : fJ k Γ X) (S : lD X scope os caps js) (C : Addr) (fp : List Addr) (s : Shared) (H : Hp) (E : Value -> Shared -> Prop) : fJ k (xB Γ scope os caps) (jQ X (os ++ caps) scope C fp s H E) := by
 refine ⟨rfl, ?_, S.kind, S.nd, G.cm, G.fs, G.cs, G.ts, G.bs, G.rm⟩
 show (relabel scope X.env).names = bQ4 scope.names Γ.nm
 unfold relabel bQ4 Env.kindOf
 rw [G.hk, G.hS]
 simp
theorem cJ2 (R : jA k r) (G : fJ k Γ X) {ifs : List Expr} {p : MT} (h : bC0 r Γ ifs = some p) : nC X ifs p := by
 unfold bC0 at h
 split at h
 ·cases h; exact zW
 ·exact cE6 (R.T G h)
 ·cases h
theorem cJ3 (R : jA k r) (G : fJ k Γ X) {elt : Expr} {gens : List Comprehension} {q : CQ} (h : bC1 r Γ elt gens scope pos = some q) : ∃ tg iter ifs os caps sp gg p g, gens = [⟨tg, iter, ifs, 0⟩] /\ lD X scope os caps q.js /\ rT X scope tg os caps sp gg q.P q.G p g /\ II X tg iter q.fl /\
 (∀ C fp s H E, nC (jQ X (os ++ caps) scope C fp s H E) ifs p) /\ (∀ C fp s H E, IE (jQ X (os ++ caps) scope C fp s H E) elt g) /\ sA iter = true := by
 unfold bC1 at h
 obtain ⟨caps, hc, h⟩ := bN h
 split at h
 ·replace h := fP h
  obtain ⟨h0, h⟩ := h
  obtain ⟨fl, h1, h⟩ := bN h
  obtain ⟨p, h2, h⟩ := bN h
  obtain ⟨g, h3, h⟩ := bN h
  cases h
  rw [Bool.and_eq_true] at h0
  have S := cJ1 G h0.1
  exact ⟨_, _, _, _, caps, _, _, p, g, rfl, S, bK9 S, bB8 R G (fun z => by cases z) h1, fun C fp s H E => cJ2 R (bC2 G S C fp s H E) h2, fun C fp s H E => R.E (bC2 G S C fp s H E) h3, h0.2⟩
 ·replace h := fP h
  obtain ⟨h0, h⟩ := h
  obtain ⟨fl, h1, h⟩ := bN h
  obtain ⟨p, h2, h⟩ := bN h
  obtain ⟨g, h3, h⟩ := bN h
  cases h
  rw [Bool.and_eq_true] at h0
  have S := cJ1 G h0.1
  exact ⟨_, _, _, _, caps, _, _, p, g, rfl, S, dW7 S G.cm, bB8 R G (fun _ => ⟨_, _, _, rfl⟩) h1, fun C fp s H E => cJ2 R (bC2 G S C fp s H E) h2, fun C fp s H E => R.E (bC2 G S C fp s H E) h3, h0.2⟩
 ·cases h
end
noncomputable def eE (r : Rc) (Γ : Ga) : Expr -> Option ME
 | .Constant c _ _ => match c with
  | .none => some (kc .non)
  | .bool b => some (kc (.bl b))
  | .int i => some (kc (.int i))
  | .str x => og (Nat.ble x.length sizeLine) (some (kc (.str x)))
  | _ => none
 | .Name x _ => match idx Γ x with
  | some i => some (gv i)
  | none => og (gl Γ x) (ob (Γ.cs.lookup x) fun d => some (kc d))
 | .BinOp a op b _ => ob (cI7 op) fun m => ob (r.E Γ a) fun f => ob (r.E Γ b) fun g => some (m2 m f g)
 | .UnaryOp op a _ => match op with
  | .USub => ob (r.E Γ a) fun f => some (m1 bK2 f)
  | .Not => ob (r.E Γ a) fun f => some (cA3 f)
  | _ => none
 | .BoolOp op vs _ => rV r Γ op vs
 | .IfExp c a b _ => ob (r.T Γ c) fun t => ob (r.E Γ a) fun f => ob (r.E Γ b) fun g => some (rP t f g)
 | .Compare a ops bs _ => cM r Γ a ops bs
 | .List es _ => ob (rA r Γ es) fun fa => some (mA gJ fa)
 | .Tuple es _ _ => ob (rA r Γ es) fun fa => some (mA bR fa)
 | .Subscript a s _ => sE r Γ a s
 | .ListComp elt gens scope pos => ob (bC1 r Γ elt gens scope pos) fun q => some (dU q.js q.fl q.P q.G)
 | .Call fn args kw pos => bQ3 r Γ fn args kw pos
 | _ => none
noncomputable def eT (r : Rc) (Γ : Ga) (e : Expr) : Option MT := match e with
 | .BoolOp op vs _ => rW r Γ op vs
 | .UnaryOp .Not a _ => ob (r.T Γ a) fun f => some (zG f)
 | .Compare a ops bs _ => ob (cM r Γ a ops bs) fun f => some (mB f)
 | e => og (bL9 e) (ob (r.E Γ e) fun f => some (mT f))
noncomputable def rc : Nat -> Rc
 | 0 => ⟨fun _ _ => none, fun _ _ => none⟩
 | n + 1 => ⟨eE (rc n), eT (rc n)⟩
section
variable {k : Nat} {r : Rc} {Γ : Ga} {X : Cx}
theorem fA9 (R : jA k r) (G : fJ k Γ X) {e : Expr} {f : ME} (h : eE r Γ e = some f) : IE X e f := by
 unfold eE at h
 split at h
 ·split at h
  ·cases h; exact jU
  ·cases h; exact dJ7
  ·cases h; exact cY
  ·obtain ⟨h0, h⟩ := fP h
   cases h
   exact kT h0
  ·cases h
 ·split at h
  ·rename_i hi
   cases h
   exact bL (bP5 G hi)
  ·replace h := fP h
   obtain ⟨h0, h⟩ := h
   obtain ⟨d, h1, h⟩ := bN h
   cases h
   exact zZ (sV G h0).1 (G.cs _ _ h1) (sV G h0).2
 ·obtain ⟨m, hm, h⟩ := bN h
  obtain ⟨f, h1, h⟩ := bN h
  obtain ⟨g, h2, h⟩ := bN h
  cases h
  exact kQ (fA2 hm) (R.E G h1) (R.E G h2)
 ·split at h
  ·obtain ⟨f, h1, h⟩ := bN h
   cases h
   exact dO0 (R.E G h1)
  ·obtain ⟨f, h1, h⟩ := bN h
   cases h
   exact dL4 (R.E G h1)
  ·cases h
 ·exact bP9 R G h
 ·obtain ⟨t, h0, h⟩ := bN h
  obtain ⟨f, h1, h⟩ := bN h
  obtain ⟨g, h2, h⟩ := bN h
  cases h
  exact bJ6 (R.T G h0) (R.E G h1) (R.E G h2)
 ·exact (cJ0 R G h).1
 ·obtain ⟨fa, h1, h⟩ := bN h
  cases h
  exact bJ1 (pU R G h1)
 ·obtain ⟨fa, h1, h⟩ := bN h
  cases h
  exact jV (pU R G h1)
 ·exact fA6 R G h
 ·obtain ⟨q, h1, h⟩ := bN h
  cases h
  obtain ⟨tg, iter, ifs, os, caps, sp, gg, p, g, rfl, S, T, hi, hp, hg, ho⟩ := cJ3 R G h1
  exact bK8 S T G.cm hi hp hg (hX ho)
 ·exact fA8 R G h
 ·cases h
theorem fB0 (R : jA k r) (G : fJ k Γ X) {e : Expr} {f : MT} (h : eT r Γ e = some f) : IT X e f := by
 unfold eT at h
 split at h
 ·exact IW.it (bQ0 R G h)
 ·obtain ⟨f, h1, h⟩ := bN h
  cases h
  exact dL2 (R.T G h1)
 ·obtain ⟨f, h1, h⟩ := bN h
  cases h
  exact (cJ0 R G h1).2
 ·replace h := fP h
  obtain ⟨h0, h⟩ := h
  obtain ⟨f, h1, h⟩ := bN h
  cases h
  exact dU0 h0 (R.E G h1)
theorem bQ5 : ∀ n, jA k (rc n)
 | 0 => ⟨fun _ h => (by cases h), fun _ h => (by cases h)⟩
 | n + 1 => ⟨fun G h => fA9 (bQ5 n) G h, fun G h => fB0 (bQ5 n) G h⟩
end
end R
end
section
namespace R
open PySem PySem.Spec PyProof.Rows L2
variable [bP] [Pd]
structure Sok (X : Cx) : Prop where
 fn : ∀ x, X.fn x = true
 po : PassesOwn (model X.prog X.w) X.A X.env X.xe
noncomputable def lk : Option NameKind -> Bool
 | some .local => true
 | some .cell => true
 | _ => false
noncomputable def lT (Γ : Ga) (x : Str) : Option Nat := og (lk (Γ.nm.lookup x)) (sU x Γ.N)
noncomputable def cJ4 : Expr -> Bool
 | .Subscript _ _ _ => true
 | .Call _ _ _ _ => true
 | _ => false
noncomputable def swp (Γ : Ga) (x : Str) (p : Pos) (scope : Scope) (cp : Pos) : Bool := (Γ.nm.lookup x == some .local) && (p.line == cp.line) && !(scope.names.any fun (n, k) => n == x && (k == .local || k == .cell))
noncomputable def fE (r : Rc) (Γ : Ga) : Expr -> Option MF
 | .List es _ => ob (rA r Γ es) fun fa => some (bN2 fa)
 | .BinOp a .Add b _ => ob (r.E Γ a) fun f => ob (r.E Γ b) fun g => some (bN3 f g)
 | _ => none
noncomputable def bQ7 (r : Rc) (Γ : Ga) (ow : Bool) (i : Nat) (x : Str) (p : Pos) (e : Expr) : Option MS := match e with
 | .ListComp elt gens scope pos => ob (bC1 r Γ elt gens scope pos) fun q => match swp Γ x p scope pos with
  | true => some (gX i q.js q.fl q.P q.G)
  | false => some (bZ i (dU q.js q.fl q.P q.G))
 | e => og (!qI e) (match ow, e with
  | true, .List [] _ => some (sJ i)
  | true, .Call (.Name y _) [a] [] _ => og (y == "list" && (blt Γ "list" && !gL a)) (ob (r.E Γ a) fun f => some (bN0 i f))
  | true, e => ob (fE r Γ e) fun f => some (bN4 i f)
  | _, _ => ob (r.E Γ e) fun f => some (bZ i f))
noncomputable def sS (r : Rc) (Γ : Ga) (ow : List Str) (blk : List Stmt -> Option MS) (st : Stmt) : Option MS := match st with
 | .Return none _ => some cA9
 | .Return (some e) _ => ob (r.E Γ e) fun f => some (bX f)
 | .If c a b _ => ob (r.T Γ c) fun t => ob (blk a) fun u => ob (blk b) fun v => some (bO t u v)
 | .Assign [.Name x p] e _ => ob (lT Γ x) fun i => bQ7 r Γ (ow.contains x) i x p e
 | .Assign [.Tuple [.Name x _, .Name y _] _ _] e _ => ob (lT Γ x) fun i => ob (lT Γ y) fun j => og (cJ4 e) (ob (r.E Γ e) fun f => some (nV i j f))
 | .Assign [.Tuple [.Name x _, .Name y _, .Name z _] _ _] e _ => ob (lT Γ x) fun i => ob (lT Γ y) fun j => ob (lT Γ z) fun l => og (cJ4 e) (ob (r.E Γ e) fun f => some (sB i j l f))
 | .For (.Name x _) iter body [] _ => ob (lT Γ x) fun i => og (sA iter) (ob (rL r Γ false iter) fun fl => ob (blk body) fun u => some (fT i fl u))
 | .For (.Tuple [.Name x _, .Name y _] _ _) iter body [] _ => ob (lT Γ x) fun i => ob (lT Γ y) fun j => og (sA iter) (ob (rL r Γ true iter) fun fl => ob (blk body) fun u => some (qK i j fl u))
 | .Expr e _ => (match e with
  | .Call (.Attribute (.Name x _) nm ap) [a] [] cp => og (ow.contains x && ((ap.endLine == cp.line) && !gL a)) (ob (idx Γ x) fun i => ob (r.E Γ a) fun f => if nm == "append" then some (nY i f) else if nm == "extend" then some (mK i f) else none)
  | e => og (!qI e) (ob (r.E Γ e) fun f => some (bJ7 f)))
 | .AugAssign (.Name x _) .Add e _ => ob (lT Γ x) fun i => ob (r.E Γ e) fun f => some (bN6 i f)
 | .Raise _ _ _ => some fun _ => .bad
 | .Pass _ => some bW
 | .Break _ => some cA7
 | .Continue _ => some cA8
 | _ => none
noncomputable def sX (r : Rc) (Γ : Ga) (ow : List Str) : Nat -> List Stmt -> Option MS
 | 0, _ => none
 | n + 1, [] => some bW
 | n + 1, [s] => sS r Γ ow (sX r Γ ow n) s
 | n + 1, s :: t :: rest => ob (sS r Γ ow (sX r Γ ow n) s) fun a => ob (sX r Γ ow n (t :: rest)) fun b => some (bD a b)
noncomputable def bQ8 (r : Rc) (Γ : Ga) (ow : List Str) (fz : List (Nat × Nat)) (m : Nat) : Nat -> List Stmt -> Option MS
 | _, [] => some bW
 | _, [s] => sS r Γ ow (sX r Γ ow m) s
 | n, s :: t :: rest => ob (sS r Γ ow (sX r Γ ow m) s) fun a => ob (bQ8 r Γ ow fz m (n + 1) (t :: rest)) fun b => match fz.lookup n with
  | some i => some (bD a (bD (nZ i) b))
  | none => some (bD a b)
section
variable {k : Nat} {r : Rc} {Γ : Ga} {X : Cx} {x : Str} {p pos : Pos} {e : Expr} {i : Nat}
theorem nF (G : fJ k Γ X) (h : lT Γ x = some i) : X.N[i]? = some x /\ Loc X.env.scope x := by
 obtain ⟨h1, h2⟩ := fP h
 refine ⟨by rw [G.hN]; exact bP3 h2, ?_⟩
 unfold L2.Loc
 rw [G.hS]
 revert h1
 cases Γ.nm.lookup x with
 | none => exact fun z => by cases z
 | some q => cases q <;> intro z <;> first | exact .inl rfl | exact .inr rfl | cases z
theorem cJ5 (G : fJ k Γ X) {elt : Expr} {gens : List Comprehension} {scope : Scope} {cp : Pos} {l : Nat} : swapsWith (.ListComp elt gens scope cp) (some (.Name x p)) l X.env = pure (swp Γ x p scope cp) := by
 show pure (X.env.blockKind == .function && X.env.kindOf x == some .local && p.line == cp.line && !(scope.names.any fun (n, k) => n == x && (k == .local || k == .cell))) = _
 unfold swp Env.blockKind Env.kindOf
 rw [G.hk, G.hS]
 rfl
theorem fB1 (R : jA k r) (G : fJ k Γ X) {f : MF} (h : fE r Γ e = some f) : IEF X e f /\ qI e = false := by
 unfold fE at h
 split at h
 ·obtain ⟨fa, h1, h⟩ := bN h
  cases h
  exact ⟨dX4 (pU R G h1), rfl⟩
 ·obtain ⟨f, h1, h⟩ := bN h
  obtain ⟨g, h2, h⟩ := bN h
  cases h
  exact ⟨dX6 (R.E G h1) (R.E G h2), rfl⟩
 ·cases h
theorem fB2 (R : jA k r) (G : fJ k Γ X) (Z : Sok X) {ow : Bool} {u : MS} (hi : lT Γ x = some i) (h : bQ7 r Γ ow i x p e = some u) : IS X (.Assign [.Name x p] e pos) u := by
 obtain ⟨l1, l2⟩ := nF G hi
 have hf : X.fn x = true \/ X.env.scope.names.lookup x = some .local := .inl (Z.fn x)
 unfold bQ7 at h
 split at h
 ·replace h := bN h
  obtain ⟨q, h1, h⟩ := h
  obtain ⟨tg, iter, ifs, os, caps, sp, gg, p', g, rfl, S, T, hit, hp, hg, ho⟩ := cJ3 R G h1
  split at h
  ·rename_i hs
   cases h
   exact cD2 S T G.cm hit hp hg G.nd l1 l2 (by rw [cJ5 G, hs]) (hX ho) hf
  ·rename_i hs
   cases h
   exact bN1 G.nd l1 l2 (by rw [cJ5 G, hs]) hf (bK8 S T G.cm hit hp hg (hX ho))
 ·replace h := fP h
  obtain ⟨h0, h⟩ := h
  split at h
  ·cases h
   exact cH0 G.nd l1 l2 hf
  ·replace h := fP h
   obtain ⟨h2, h⟩ := h
   obtain ⟨f, h1, h⟩ := bN h
   cases h
   rw [Bool.and_eq_true, Bool.and_eq_true] at h2
   cases eq_of_beq h2.1
   obtain ⟨g1, g2, _⟩ := qR G h2.2.1
   exact dX3 G.nd l1 l2 hf g1 g2 (nt h2.2.2) (R.E G h1)
  ·obtain ⟨f, h1, h⟩ := bN h
   cases h
   obtain ⟨f1, f2⟩ := fB1 R G h1
   exact dX7 G.nd l1 l2 f2 hf f1
  ·obtain ⟨f, h1, h⟩ := bN h
   cases h
   exact mH G.nd l1 l2 (nt h0) hf (R.E G h1)
theorem bC4 (R : jA k r) (G : fJ k Γ X) (Z : Sok X) {ow : List Str} {blk : List Stmt -> Option MS} (B : ∀ {l u}, blk l = some u -> jD X l u) {st : Stmt} {u : MS} (h : sS r Γ ow blk st = some u) : IS X st u := by
 unfold sS at h
 split at h
 ·cases h; exact dM0
 ·obtain ⟨f, h1, h⟩ := bN h
  cases h
  exact bJ8 (R.E G h1)
 ·obtain ⟨t, h0, h⟩ := bN h
  obtain ⟨u, h1, h⟩ := bN h
  obtain ⟨v, h2, h⟩ := bN h
  cases h
  exact jN (R.T G h0) (B h1) (B h2)
 ·obtain ⟨i, h1, h⟩ := bN h
  exact fB2 R G Z h1 h
 ·obtain ⟨i, hi, h⟩ := bN h
  obtain ⟨j, hj, h⟩ := bN h
  replace h := fP h
  obtain ⟨h0, h⟩ := h
  obtain ⟨f, h1, h⟩ := bN h
  cases h
  obtain ⟨a1, a2⟩ := nF G hi
  obtain ⟨b1, b2⟩ := nF G hj
  rename_i e _ _ _
  refine dU5 G.cm G.nd a1 a2 b1 b2 (.inl (Z.fn _)) (.inl (Z.fn _)) ?_ ?_ (R.E G h1)
  ·cases e <;> first | (exact Bool.noConfusion h0) | rfl
  ·cases e <;> first | (exact Bool.noConfusion h0) | rfl
 ·obtain ⟨i, hi, h⟩ := bN h
  obtain ⟨j, hj, h⟩ := bN h
  obtain ⟨l, hl, h⟩ := bN h
  replace h := fP h
  obtain ⟨h0, h⟩ := h
  obtain ⟨f, h1, h⟩ := bN h
  cases h
  obtain ⟨a1, a2⟩ := nF G hi
  obtain ⟨b1, b2⟩ := nF G hj
  obtain ⟨c1, c2⟩ := nF G hl
  rename_i e _ _ _ _
  refine cF1 G.cm G.nd a1 a2 b1 b2 c1 c2 (.inl (Z.fn _)) (.inl (Z.fn _)) (.inl (Z.fn _)) ?_ ?_ (R.E G h1)
  ·cases e <;> first | (exact Bool.noConfusion h0) | rfl
  ·cases e <;> first | (exact Bool.noConfusion h0) | rfl
 ·obtain ⟨i, hi, h⟩ := bN h
  replace h := fP h
  obtain ⟨h0, h⟩ := h
  obtain ⟨fl, h1, h⟩ := bN h
  obtain ⟨u, h2, h⟩ := bN h
  cases h
  obtain ⟨a1, a2⟩ := nF G hi
  exact nB G.cm Z.po (bB8 R G (fun z => by cases z) h1) (jB G.nd a1 a2 (.inl (Z.fn _))) (B h2) (hX h0)
 ·obtain ⟨i, hi, h⟩ := bN h
  obtain ⟨j, hj, h⟩ := bN h
  replace h := fP h
  obtain ⟨h0, h⟩ := h
  obtain ⟨fl, h1, h⟩ := bN h
  obtain ⟨u, h2, h⟩ := bN h
  cases h
  obtain ⟨a1, a2⟩ := nF G hi
  obtain ⟨b1, b2⟩ := nF G hj
  exact cG7 G.cm Z.po (bB8 R G (fun _ => ⟨_, _, _, rfl⟩) h1) (bM6 G.cm G.nd a1 a2 b1 b2 (.inl (Z.fn _)) (.inl (Z.fn _))) (B h2) (hX h0)
 ·split at h
  ·replace h := fP h
   obtain ⟨h0, h⟩ := h
   replace h := bN h
   obtain ⟨i, hi, h⟩ := h
   replace h := bN h
   obtain ⟨f, h1, h⟩ := h
   rw [Bool.and_eq_true, Bool.and_eq_true] at h0
   split at h
   ·rename_i en
    cases eq_of_beq en
    cases h
    exact cH1 (bP5 G hi) (nt h0.2.2) h0.2.1 rfl (R.E G h1)
   split at h
   ·rename_i en
    cases eq_of_beq en
    cases h
    exact dY0 (bP5 G hi) (nt h0.2.2) h0.2.1 (R.E G h1)
   cases h
  ·replace h := fP h
   obtain ⟨h0, h⟩ := h
   obtain ⟨f, h1, h⟩ := bN h
   cases h
   exact dT7 (nt h0) (R.E G h1)
 ·obtain ⟨i, hi, h⟩ := bN h
  obtain ⟨f, h1, h⟩ := bN h
  cases h
  obtain ⟨a1, a2⟩ := nF G hi
  exact dY1 G.nd a1 a2 (.inl (Z.fn _)) (R.E G h1)
 ·cases h; exact dT8
 ·cases h; exact dL6
 ·cases h; exact dL7
 ·cases h; exact dL8
 ·cases h
theorem xD (R : jA k r) (G : fJ k Γ X) (Z : Sok X) {ow : List Str} : ∀ (n : Nat) {l : List Stmt} {u : MS}, sX r Γ ow n l = some u -> jD X l u
 | 0, _, _, h => by cases h
 | n + 1, [], _, h => by cases h; exact jM
 | n + 1, [s], _, h => dG (bC4 R G Z (xD R G Z n) h)
 | n + 1, s :: t :: rest, _, h => by
  obtain ⟨a, h1, h⟩ := bN h
  obtain ⟨b, h2, h⟩ := bN h
  cases h
  exact cW (bC4 R G Z (xD R G Z n) h1) (xD R G Z n h2)
theorem cJ6 (R : jA k r) (G : fJ k Γ X) (Z : Sok X) {ow : List Str} {fz : List (Nat × Nat)} {m : Nat} : ∀ {n : Nat} {l : List Stmt} {u : MS}, bQ8 r Γ ow fz m n l = some u -> jD X l u
 | _, [], _, h => by cases h; exact jM
 | _, [s], _, h => dG (bC4 R G Z (xD R G Z m) h)
 | n, s :: t :: rest, _, h => by
  obtain ⟨a, h1, h⟩ := bN h
  obtain ⟨b, h2, h⟩ := bN h
  have i1 := bC4 R G Z (xD R G Z m) h1
  have i2 := cJ6 R G Z h2
  split at h
  ·cases h; exact cW i1 (cH2 i2)
  ·cases h; exact cW i1 i2
end
structure cJ7 (P : Program) (w : World) (K : W.Frag) (mg : Str -> Option Value) (base : Heap) (k : Nat) (fs : List (Str × (List D -> bC D))) (cs : List (Str × D)) (ts : List (Str × List (Str × D))) (bs : List Str) : Prop where
 fs : ∀ x m, fs.lookup x = some m -> dS P w K mg base k x m
 cs : ∀ x d, cs.lookup x = some d -> lE K mg x d
 ts : ∀ x t, ts.lookup x = some t -> nX w K mg x t
 bs : ∀ x, bs.contains x = true -> mg x = none
theorem gA {P : Program} {w : World} {K : W.Frag} {mg : Str -> Option Value} {base : Heap} {x qual : Str} {st : Stmt} {f : Addr} {fd : FuncData} {N ps : List Str} {k : Nat} {u : MS} {fs : List (Str × (List D -> bC D))} {cs : List (Str × D)} {ts : List (Str × List (Str × D))} {bs : List Str}
 (F : bK K x qual st f fd) (S : dE N ps (bH st)) (T : cJ7 P w K mg base k fs cs ts bs) (cp : List ((Nat × Nat) × List Str)) (ow : List Str) (fz : List (Nat × Nat))
 (h : bQ8 (rc 40) ⟨N, (bH st).names, fs, cs, ts, bs, cp⟩ ow fz 60 0 (mF st) = some u) : bS P w K mg base bU (k + 1) f fd ps (cL K (cG ps.length N.length u)) := by
 refine cB2 F S ?_
 intro cdv A outer s H E hr
 exact cJ6 (k := k) (bQ5 40) ⟨rfl, rfl, S.kind, S.nd, rfl, T.fs, T.cs, T.ts, T.bs, hr⟩ ⟨fun _ => rfl, PassesOwn.never⟩ h
noncomputable abbrev kv {α : Type} (x : Str) (a : α) : Str × α := (x, a)
theorem bQ9 {α : Type} {P : Str -> α -> Prop} : ∀ x m, ([] : List (Str × α)).lookup x = some m -> P x m := fun _ _ h => by cases h
theorem fC {α : Type} {P : Str -> α -> Prop} {y : Str} {a : α} {l : List (Str × α)} (h : P y a) (t : ∀ x m, l.lookup x = some m -> P x m) : ∀ x m, ((y, a) :: l).lookup x = some m -> P x m := fun x m e => by
 rw [List.lookup_cons] at e
 split at e
 ·rename_i q; cases e; rw [eq_of_beq q]; exact h
 ·exact t x m e
theorem fB3 {P : Str -> Prop} : ∀ x, ([] : List Str).contains x = true -> P x := fun _ h => by cases h
theorem pD {P : Str -> Prop} {y : Str} {l : List Str} (h : P y) (t : ∀ x, l.contains x = true -> P x) : ∀ x, (y :: l).contains x = true -> P x := fun x e => by
 rw [List.contains_cons, Bool.or_eq_true] at e
 rcases e with q | q
 ·rw [eq_of_beq q]; exact h
 ·exact t x q
end R
end
section
namespace Jm
open PySem PySem.Spec PyProof.Rows L2 R
variable [bP]
noncomputable def dN (i : Nat) : Stmt := PySem.Challenge.pw_joinmill_k11_blocks_of_units.main.body.getD i (.Pass ⟨0, 0, 0, 0⟩)
noncomputable abbrev s0 : Stmt := dN 4
noncomputable abbrev N0 : List Str := ["word"]
noncomputable abbrev s1 : Stmt := dN 7
noncomputable abbrev N1 : List Str := ["unit", "faces", "face", "top", "fault"]
noncomputable abbrev s2 : Stmt := dN 8
noncomputable abbrev N2 : List Str := ["face", "meanings", "name", "told"]
noncomputable abbrev s3 : Stmt := dN 9
noncomputable abbrev N3 : List Str := ["unit", "faces", "top", "source", "name", "told"]
noncomputable abbrev s4 : Stmt := dN 10
noncomputable abbrev N4 : List Str := ["unit", "top", "name"]
noncomputable abbrev s5 : Stmt := dN 11
noncomputable abbrev N5 : List Str := ["unit", "face", "top", "awaited", "deed", "name", "count"]
noncomputable abbrev s6 : Stmt := dN 12
noncomputable abbrev N6 : List Str := ["unit", "top", "deed", "meanings", "name", "fault"]
noncomputable abbrev s7 : Stmt := dN 13
noncomputable abbrev N7 : List Str := ["block", "meanings", "use", "fault"]
noncomputable abbrev s8 : Stmt := dN 14
noncomputable abbrev N8 : List Str := ["use", "meanings", "name", "meaning"]
noncomputable abbrev s9 : Stmt := dN 15
noncomputable abbrev N9 : List Str := ["block", "uses", "statement"]
noncomputable abbrev s10 : Stmt := dN 16
noncomputable abbrev N10 : List Str := ["statement", "uses", "sort", "part"]
noncomputable abbrev sY : Stmt := dN 17
noncomputable abbrev N11 : List Str := ["sort", "part"]
noncomputable abbrev sZ : Stmt := dN 18
noncomputable abbrev N12 : List Str := ["expression", "word", "name", "parts"]
noncomputable abbrev tE : Stmt := dN 19
noncomputable abbrev N13 : List Str := ["parts", "uses", "part"]
noncomputable abbrev tG : Stmt := dN 21
noncomputable abbrev N14 : List Str := ["_law_script", "_law_k"]
noncomputable abbrev tH : Stmt := dN 22
noncomputable abbrev N15 : List Str := ["_law_script", "_law_k", "_law_drawn_here"]
noncomputable abbrev tJ : Stmt := dN 23
noncomputable abbrev N16 : List Str := ["_law_number", "_law_k", "_law_drawn_here"]
noncomputable abbrev tK : Stmt := dN 24
noncomputable abbrev N17 : List Str := ["_law_number", "_law_letters", "_law_found", "_law_k"]
noncomputable abbrev tL : Stmt := dN 25
noncomputable abbrev N18 : List Str := ["_law_number", "_law_k", "_law_letters"]
noncomputable abbrev tM : Stmt := dN 26
noncomputable abbrev N19 : List Str := ["_law_number"]
noncomputable abbrev tN : Stmt := dN 27
noncomputable abbrev N20 : List Str := ["_law_number", "_law_names", "_law_deeds", "_law_deep", "_law_kind", "_law_name_here", "_law_count", "_law_parts", "_law_left", "_law_right"]
noncomputable abbrev tO : Stmt := dN 28
noncomputable abbrev N21 : List Str := ["_law_number", "_law_names", "_law_deeds", "_law_plain", "_law_name_here", "_law_drawn_here", "_law_kind", "_law_called", "_law_count", "_law_parts"]
noncomputable abbrev tP : Stmt := dN 29
noncomputable abbrev N22 : List Str := ["_law_number", "_law_names", "_law_deeds", "_law_plain", "_law_deep", "_law_kind", "_law_asked", "_law_one", "_law_name_here"]
noncomputable abbrev tQ : Stmt := dN 30
noncomputable abbrev N23 : List Str := ["_law_number", "_law_size", "_law_names", "_law_deeds", "_law_plain", "_law_deep", "_law_parts"]
noncomputable abbrev tR : Stmt := dN 31
noncomputable abbrev N24 : List Str := ["_law_name_here", "_law_words", "_law_deeds"]
noncomputable abbrev tT : Stmt := dN 32
noncomputable abbrev N25 : List Str := ["_law_name_here", "_law_parts", "_law_words", "_law_deeds", "_law_counts", "_law_part", "_law_fault"]
noncomputable abbrev tU : Stmt := dN 33
noncomputable abbrev N26 : List Str := ["_law_thing", "_law_words", "_law_deeds"]
noncomputable abbrev tV : Stmt := dN 34
noncomputable abbrev N27 : List Str := ["_law_faults", "_law_fault"]
noncomputable abbrev tW : Stmt := dN 35
noncomputable abbrev N28 : List Str := ["_law_thing", "_law_words", "_law_deeds", "_law_fault"]
noncomputable abbrev tX : Stmt := dN 36
noncomputable abbrev N29 : List Str := ["_law_thing", "_law_words", "_law_deeds", "_law_word", "_law_faults", "_law_fault"]
noncomputable abbrev tY : Stmt := dN 37
noncomputable abbrev N30 : List Str := ["_law_block_here", "_law_words", "_law_deeds"]
noncomputable abbrev tZ : Stmt := dN 38
noncomputable abbrev N31 : List Str := ["_law_number", "_law_words", "_law_deeds", "_law_names", "_law_called"]
noncomputable abbrev vA : Stmt := dN 39
noncomputable abbrev N32 : List Str := ["_law_number", "_law_stem_here", "_law_k", "_law_words", "_law_deeds", "_law_params", "_law_owns", "_law_names", "_law_called", "_law_plain", "_law_block_here"]
noncomputable abbrev dH : Stmt := dN 40
noncomputable abbrev gY : List Str := ["_law_script", "_law_stem_here", "_law_words", "_law_deeds", "_law_made", "_law_names", "_law_called", "_law_plain", "_law_block_here", "_law_k", "_law_unit", "_law_due", "_law_deed", "_law_inner", "_law_outer"]
noncomputable def cJ8 : List Str := ["WORD", "DEED"]
noncomputable def xE : D := .tup (cJ8.map .str)
noncomputable def cJ9 : List Str := ["WORD", "DEED", "EXPRESSION", "PARTS", "BLOCK"]
noncomputable def bC5 : D := .tup (cJ9.map .str)
noncomputable def bC6 : List (Str × D) := [("let", .tup [.str "WORD", .str "be", .str "EXPRESSION"]), ("if", .tup [.str "EXPRESSION", .str "then", .str "BLOCK", .str "else", .str "BLOCK"]), ("while", .tup [.str "EXPRESSION", .str "do", .str "BLOCK"]), ("do", .tup [.str "DEED", .str "PARTS"]), ("give", .tup [.str "EXPRESSION"]), ("tell", .tup [.str "EXPRESSION"]), ("get", .tup [.str "WORD"]), ("new", .tup [.str "WORD", .str "deed", .str "DEED"]), ("hand", .tup [.str "WORD", .str "to", .str "EXPRESSION"]), ("await", .tup [.str "WORD", .str "and", .str "WORD"])]
noncomputable def nG : D := .tup [.str "WORD", .int 0]
inductive Fn where
 | q0 | q1 | q2 | q3 | q4 | q5 | q6 | q7 | q8 | q9 | q10 | q11 | q12 | q13 | q14 | q15 | q16 | q17 | q18 | q19 | q20 | q21 | q22 | q23 | q24 | q25 | law
noncomputable abbrev CT := Fn -> List D -> bC D
noncomputable def cK0 (C C' : CT) : MS := bX (dU [] (cV (m1 (wV bC6) (gv 0))) (mB (m2 (fX false) (gv 0) (kc bC5))) (gv 0))
noncomputable def xF (C C' : CT) : MS := bD (sJ 1) (bD (fT 2 (cV (gv 0)) (mK 1 (mA (C .q3) (aC (gv 2) (bB))))) (bD (nZ 1) (bX (gv 1))))
noncomputable def vB (C C' : CT) : MS := bD (sJ 1) (bD (qK 2 3 (sI (mA (C .q0) (aC (m2 bI (gv 0) (kc (.int 0))) (bB))) (hR (gv 0) (hJ (kc (.int 1))) (hG))) (mK 1 (mA (C .q4) (aC (gv 2) (aC (gv 3) (bB)))))) (bD (bO (mB (m2 cP (m2 bI (gv 0) (kc (.int 0))) (kc (.str "do")))) (nY 1 (mA bR (aC (kc (.str "COUNT")) (aC (m2 bI (gv 0) (kc (.int 1))) (aC (mA dJ (aC (m2 bI (gv 0) (kc (.int 2))) (bB))) (bB)))))) (bW)) (bD (bO (mB (m2 cP (m2 bI (gv 0) (kc (.int 0))) (kc (.str "new")))) (nY 1 (mA bR (aC (kc (.str "COUNT")) (aC (m2 bI (gv 0) (kc (.int 2))) (aC (kc (.int 0)) (bB)))))) (bW)) (bD (nZ 1) (bX (gv 1))))))
noncomputable def lG (C C' : CT) : MS := bD (bO (mB (m2 (fX false) (gv 0) (kc xE))) (bX (mA gJ (aC (mA bR (aC (gv 0) (aC (gv 1) (aC (kc (.int 0)) (bB))))) (bB)))) (bW)) (bD (bO (mB (m2 cP (gv 0) (kc (.str "EXPRESSION")))) (bX (mA (C .q5) (aC (gv 1) (bB)))) (bW)) (bD (bO (mB (m2 cP (gv 0) (kc (.str "PARTS")))) (bX (mA (C .q6) (aC (gv 1) (bB)))) (bW)) (bX (mA (C .q2) (aC (gv 1) (bB))))))
noncomputable def xG (C C' : CT) : MS := bD (bZ 1 (m2 bI (gv 0) (kc (.int 0)))) (bD (bO (mB (m2 cP (gv 1) (kc (.str "number")))) (bX (mA gJ (bB))) (bW)) (bD (bO (mB (m2 cP (gv 1) (kc (.str "name")))) (bX (mA gJ (aC (mA bR (aC (kc (.str "WORD")) (aC (m2 bI (gv 0) (kc (.int 1))) (aC (kc (.int 0)) (bB))))) (bB)))) (bW)) (bD (bO (mB (m2 cP (gv 1) (kc (.str "call")))) (bD (bZ 2 (m2 bI (gv 0) (kc (.int 1)))) (bD (bZ 3 (m2 bI (gv 0) (kc (.int 2)))) (bX (m2 bV (m2 bV (mA gJ (aC (mA bR (aC (kc (.str "DEED")) (aC (gv 2) (aC (kc (.int 0)) (bB))))) (bB))) (mA (C .q6) (aC (gv 3) (bB)))) (mA gJ (aC (mA bR (aC (kc (.str "COUNT")) (aC (gv 2) (aC (mA dJ (aC (gv 3) (bB))) (bB))))) (bB))))))) (bW)) (bX (mA (C .q6) (aC (hR (gv 0) (hJ (kc (.int 1))) (hG)) (bB)))))))
noncomputable def xH (C C' : CT) : MS := bD (sJ 1) (bD (fT 2 (cV (gv 0)) (mK 1 (mA (C .q5) (aC (gv 2) (bB))))) (bD (nZ 1) (bX (gv 1))))
noncomputable def bC7 (C C' : CT) : MS := bD (bO (mB (m2 gK (gv 1) (mA dJ (aC (gv 0) (bB))))) (bX (m2 bI (gv 0) (gv 1))) (bW)) (bX (kc (.int 0)))
noncomputable def bC8 (C C' : CT) : MS := bD (bZ 2 (m2 bY (m2 fN (m2 bV (m2 bV (mA (C .q7) (aC (gv 0) (aC (gv 1) (bB)))) (m2 fN (kc (.int 7919)) (gv 1))) (kc (.int 1))) (kc (.int 48271))) (kc (.int 2147483647)))) (bX (m2 bY (m2 bV (m2 bV (m2 fN (gv 2) (gv 2)) (m2 fN (kc (.int 7)) (gv 2))) (gv 1)) (kc (.int 2147483629))))
noncomputable def bC9 (C C' : CT) : MS := bD (bZ 2 (m2 bY (m2 fN (m2 bV (m2 bV (gv 0) (m2 fN (kc (.int 104729)) (gv 1))) (kc (.int 17))) (kc (.int 69621))) (kc (.int 2147483647)))) (bX (m2 bY (m2 bV (m2 bV (m2 fN (gv 2) (gv 2)) (m2 fN (kc (.int 3)) (gv 2))) (gv 1)) (kc (.int 2147483629))))
noncomputable def bD0 (C C' : CT) : MS := bD (bZ 1 (kc (.str "abcdefghijklmnopqrstuvwxyz"))) (bD (bZ 2 (kc (.str ""))) (bD (fT 3 (gP (m2 bY (gv 0) (kc (.int 7)))) (bZ 2 (m2 bV (gv 2) (m2 bI (gv 1) (m2 bY (m2 cN (gv 0) (m2 bV (kc (.int 7)) (m2 fN (kc (.int 26)) (gv 3)))) (kc (.int 26))))))) (bX (gv 2))))
noncomputable def bD1 (C C' : CT) : MS := bD (bZ 2 (kc (.str "abcdefghijklmnopqrstuvwxyz"))) (bX (m2 bV (m2 bV (mA (C .q10) (aC (gv 0) (bB))) (m2 bI (gv 2) (m2 bY (gv 1) (kc (.int 26))))) (m2 fN (kc (.str "z")) (mA wM (aC (m2 kR (m2 bY (gv 0) (kc (.int 7))) (kc (.int 0))) (bB))))))
noncomputable def vC (C C' : CT) : MS := bD (bO (mB (m2 cP (m2 bY (gv 0) (kc (.int 9))) (kc (.int 4)))) (bX (m2 gU (m2 bY (m2 cN (gv 0) (kc (.int 9))) (kc (.int 1999999))) (kc (.int 999999)))) (bW)) (bX (m2 gU (m2 bY (m2 cN (gv 0) (kc (.int 9))) (kc (.int 14))) (kc (.int 4))))
noncomputable def qS (C C' : CT) : MS := bD (bZ 4 (m2 bY (gv 0) (kc (.int 9)))) (bD (bO (jL (mB (m2 cP (gv 3) (kc (.int 0)))) (mB (m2 gK (gv 4) (kc (.int 2))))) (bX (mA bR (aC (kc (.str "number")) (aC (mA (C .q12) (aC (m2 cN (gv 0) (kc (.int 9))) (bB))) (bB))))) (bW)) (bD (bO (mB (m2 gK (gv 4) (kc (.int 5)))) (bX (mA bR (aC (kc (.str "name")) (aC (m2 bI (gv 1) (m2 bY (m2 cN (gv 0) (kc (.int 9))) (mA dJ (aC (gv 1) (bB))))) (bB))))) (bW)) (bD (bO (mY (mB (m2 cP (gv 4) (kc (.int 5)))) (mB (m2 kR (mA dJ (aC (gv 2) (bB))) (kc (.int 0))))) (bD (nV 5 6 (m2 bI (gv 2) (m2 bY (m2 cN (gv 0) (kc (.int 9))) (mA dJ (aC (gv 2) (bB)))))) (bD (gX 7 [1, 2, 0, 3] (gP (gv 6)) (fun _ => .ok true) (mA (C .q13) (aC (mA (C .q9) (aC (gv 3) (aC (gv 0) (bB)))) (aC (gv 1) (aC (gv 2) (aC (m2 gU (gv 4) (kc (.int 1))) (bB))))))) (bX (mA bR (aC (kc (.str "call")) (aC (gv 5) (aC (mA jO (aC (gv 7) (bB))) (bB)))))))) (bW)) (bD (bZ 8 (mA (C .q13) (aC (mA (C .q9) (aC (gv 0) (aC (kc (.int 5)) (bB)))) (aC (gv 1) (aC (gv 2) (aC (m2 gU (gv 3) (kc (.int 1))) (bB))))))) (bD (bZ 9 (mA (C .q13) (aC (mA (C .q9) (aC (gv 0) (aC (kc (.int 6)) (bB)))) (aC (gv 1) (aC (gv 2) (aC (m2 gU (gv 3) (kc (.int 1))) (bB))))))) (bX (mA bR (aC (m2 bI (kc (.str "+-*<=")) (m2 bY (m2 cN (gv 0) (kc (.int 9))) (kc (.int 5)))) (aC (gv 8) (aC (gv 9) (bB)))))))))))
noncomputable def xI (C C' : CT) : MS := bD (bZ 4 (m2 bI (gv 1) (m2 bY (m2 cN (gv 0) (kc (.int 16))) (mA dJ (aC (gv 1) (bB)))))) (bD (bZ 5 (mA (C .q13) (aC (mA (C .q9) (aC (gv 0) (aC (kc (.int 1)) (bB)))) (aC (gv 1) (aC (gv 2) (aC (kc (.int 2)) (bB))))))) (bD (bZ 6 (m2 bY (gv 0) (kc (.int 16)))) (bD (bO (mB (m2 gK (gv 6) (kc (.int 4)))) (bX (mA bR (aC (kc (.str "let")) (aC (gv 4) (aC (gv 5) (bB)))))) (bW)) (bD (bO (mB (m2 gK (gv 6) (kc (.int 6)))) (bX (mA bR (aC (kc (.str "tell")) (aC (gv 5) (bB))))) (bW)) (bD (bO (mB (m2 cP (gv 6) (kc (.int 6)))) (bX (mA bR (aC (kc (.str "get")) (aC (gv 4) (bB))))) (bW)) (bD (bO (mB (m2 cP (gv 6) (kc (.int 7)))) (bX (mA bR (aC (kc (.str "give")) (aC (gv 5) (bB))))) (bW)) (bD (bO (mY (mB (m2 cP (gv 6) (kc (.int 8)))) (mB (m2 kR (mA dJ (aC (gv 3) (bB))) (kc (.int 0))))) (bX (mA bR (aC (kc (.str "new")) (aC (gv 4) (aC (m2 bI (gv 3) (m2 bY (m2 cN (gv 0) (kc (.int 256))) (mA dJ (aC (gv 3) (bB))))) (bB)))))) (bW)) (bD (bO (mB (m2 cP (gv 6) (kc (.int 9)))) (bX (mA bR (aC (kc (.str "hand")) (aC (gv 4) (aC (gv 5) (bB)))))) (bW)) (bD (bO (mB (m2 cP (gv 6) (kc (.int 10)))) (bX (mA bR (aC (kc (.str "hand")) (aC (gv 4) (aC (mA bR (aC (kc (.str "number")) (aC (m2 bV (kc (.int 1)) (m2 bY (m2 cN (gv 0) (kc (.int 256))) (kc (.int 4)))) (bB)))) (bB)))))) (bW)) (bD (bO (mB (m2 cP (gv 6) (kc (.int 11)))) (bX (mA bR (aC (kc (.str "await")) (aC (gv 4) (aC (m2 bI (gv 1) (m2 bY (m2 cN (gv 0) (kc (.int 256))) (mA dJ (aC (gv 1) (bB))))) (bB)))))) (bW)) (bD (bO (mB (m2 kR (mA dJ (aC (gv 2) (bB))) (kc (.int 0)))) (bD (nV 7 8 (m2 bI (gv 2) (m2 bY (m2 cN (gv 0) (kc (.int 256))) (mA dJ (aC (gv 2) (bB)))))) (bD (gX 9 [1, 2, 0] (gP (gv 8)) (fun _ => .ok true) (mA (C .q13) (aC (mA (C .q9) (aC (gv 3) (aC (m2 bV (gv 0) (kc (.int 2))) (bB)))) (aC (gv 1) (aC (gv 2) (aC (kc (.int 1)) (bB))))))) (bX (mA bR (aC (kc (.str "do")) (aC (gv 7) (aC (mA jO (aC (gv 9) (bB))) (bB)))))))) (bW)) (bX (mA bR (aC (kc (.str "tell")) (aC (gv 5) (bB))))))))))))))))
noncomputable def xJ (C C' : CT) : MS := bD (bZ 5 (m2 bY (gv 0) (kc (.int 12)))) (bD (bO (jL (mB (m2 cP (gv 4) (kc (.int 0)))) (mB (m2 gK (gv 5) (kc (.int 9))))) (bX (mA (C .q14) (aC (m2 cN (gv 0) (kc (.int 12))) (aC (gv 1) (aC (gv 2) (aC (gv 3) (bB))))))) (bW)) (bD (bZ 6 (mA (C .q13) (aC (mA (C .q9) (aC (gv 0) (aC (kc (.int 1)) (bB)))) (aC (gv 1) (aC (gv 2) (aC (kc (.int 2)) (bB))))))) (bD (bZ 7 (mA (C .q16) (aC (mA (C .q9) (aC (gv 0) (aC (kc (.int 2)) (bB)))) (aC (m2 bY (m2 cN (gv 0) (kc (.int 12))) (kc (.int 4))) (aC (gv 1) (aC (gv 2) (aC (gv 3) (aC (m2 gU (gv 4) (kc (.int 1))) (bB))))))))) (bD (bO (mB (m2 cP (gv 5) (kc (.int 9)))) (bX (mA bR (aC (kc (.str "while")) (aC (gv 6) (aC (gv 7) (bB)))))) (bW)) (bD (bO (mB (m2 cP (gv 5) (kc (.int 10)))) (bD (bZ 8 (m2 bI (gv 1) (m2 bY (m2 cN (gv 0) (kc (.int 48))) (mA dJ (aC (gv 1) (bB)))))) (bD (bZ 6 (mA bR (aC (kc (.str "<")) (aC (mA bR (aC (kc (.str "name")) (aC (gv 8) (bB)))) (aC (mA bR (aC (kc (.str "number")) (aC (m2 bY (m2 cN (gv 0) (kc (.int 960))) (kc (.int 9))) (bB)))) (bB)))))) (bX (mA bR (aC (kc (.str "while")) (aC (gv 6) (aC (m2 bV (gv 7) (mA bR (aC (mA bR (aC (kc (.str "let")) (aC (gv 8) (aC (mA bR (aC (kc (.str "+")) (aC (mA bR (aC (kc (.str "name")) (aC (gv 8) (bB)))) (aC (mA bR (aC (kc (.str "number")) (aC (kc (.int 1)) (bB)))) (bB))))) (bB))))) (bB)))) (bB)))))))) (bW)) (bX (mA bR (aC (kc (.str "if")) (aC (gv 6) (aC (gv 7) (aC (mA (C .q16) (aC (mA (C .q9) (aC (gv 0) (aC (kc (.int 3)) (bB)))) (aC (m2 bY (m2 cN (gv 0) (kc (.int 48))) (kc (.int 3))) (aC (gv 1) (aC (gv 2) (aC (gv 3) (aC (m2 gU (gv 4) (kc (.int 1))) (bB)))))))) (bB))))))))))))
noncomputable def xK (C C' : CT) : MS := bD (gX 6 [2, 3, 4, 5, 0] (gP (gv 1)) (fun _ => .ok true) (mA (C .q15) (aC (mA (C .q9) (aC (gv 5) (aC (gv 0) (bB)))) (aC (gv 1) (aC (gv 2) (aC (gv 3) (aC (gv 4) (bB)))))))) (bX (mA jO (aC (gv 6) (bB))))
noncomputable def xL (C C' : CT) : MS := bD (bO (mB (m2 (fX false) (gv 0) (gv 1))) (bX (kc .non)) (bW)) (bD (bO (mB (m2 cP (dU [0] (cV (gv 2)) (dB (mB (m2 cP (gv 0) (gv 2)))) (dB (gv 0))) (mA gJ (bB)))) (bX (mA bR (aC (kc (.str "unknown")) (aC (gv 0) (bB))))) (bW)) (bX (mA bR (aC (kc (.str "sort")) (aC (gv 0) (bB))))))
noncomputable def xM (C C' : CT) : MS := bD (gX 4 [0] (cV (gv 3)) (dB (mB (m2 cP (gv 0) (gv 2)))) (dB (gv 1))) (bD (bO (mB (m2 (fX false) (gv 0) (gv 2))) (bX (mA bR (aC (kc (.str "sort")) (aC (gv 0) (bB))))) (bW)) (bD (bO (mB (m2 cP (gv 4) (mA gJ (bB)))) (bX (mA bR (aC (kc (.str "unknown")) (aC (gv 0) (bB))))) (bW)) (bD (fT 5 (cV (gv 1)) (bD (bZ 6 (mA (C .q19) (aC (gv 5) (aC (gv 2) (aC (gv 3) (bB)))))) (bO (mB (m2 (dO true) (gv 6) (kc .non))) (bX (gv 6)) (bW)))) (bD (bO (mB (m2 nU (m2 bI (gv 4) (kc (.int 0))) (mA dJ (aC (gv 1) (bB))))) (bX (mA bR (aC (kc (.str "count")) (aC (gv 0) (bB))))) (bW)) (bX (kc .non))))))
noncomputable def xN (C C' : CT) : MS := bD (bO (mB (m2 cP (m2 bI (gv 0) (kc (.int 0))) (kc (.str "number")))) (bX (kc .non)) (bW)) (bD (bO (mB (m2 cP (m2 bI (gv 0) (kc (.int 0))) (kc (.str "name")))) (bX (mA (C .q17) (aC (m2 bI (gv 0) (kc (.int 1))) (aC (gv 1) (aC (gv 2) (bB)))))) (bW)) (bD (bO (mB (m2 cP (m2 bI (gv 0) (kc (.int 0))) (kc (.str "call")))) (bX (mA (C .q18) (aC (m2 bI (gv 0) (kc (.int 1))) (aC (m2 bI (gv 0) (kc (.int 2))) (aC (gv 1) (aC (gv 2) (bB))))))) (bW)) (bX (mA (C .q20) (aC (dU [1, 2] (cV (hR (gv 0) (hJ (kc (.int 1))) (hG))) (fun _ => .ok true) (mA (C .q19) (aC (gv 0) (aC (gv 1) (aC (gv 2) (bB)))))) (bB))))))
noncomputable def bD2 (C C' : CT) : MS := bD (fT 1 (cV (gv 0)) (bO (mB (m2 (dO true) (gv 1) (kc .non))) (bX (gv 1)) (bW))) (bX (kc .non))
noncomputable def xO (C C' : CT) : MS := bD (bZ 3 (mA (C .q18) (aC (m2 bI (gv 0) (kc (.int 2))) (aC (mA bR (bB)) (aC (gv 1) (aC (gv 2) (bB))))))) (bX (mA (C .q20) (aC (mA gJ (aC (mA (C .q17) (aC (m2 bI (gv 0) (kc (.int 1))) (aC (gv 1) (aC (gv 2) (bB))))) (aC (gv 3) (bB)))) (bB))))
noncomputable def lU (C C' : CT) : MS := bD (bZ 3 (m2 bI (gv 0) (kc (.int 0)))) (bD (bO (mB (m2 cP (gv 3) (kc (.str "new")))) (bX (mA (C .q21) (aC (gv 0) (aC (gv 1) (aC (gv 2) (bB)))))) (bW)) (bD (bO (mB (m2 cP (gv 3) (kc (.str "do")))) (bX (mA (C .q18) (aC (m2 bI (gv 0) (kc (.int 1))) (aC (m2 bI (gv 0) (kc (.int 2))) (aC (gv 1) (aC (gv 2) (bB))))))) (bW)) (bD (bO (mB (m2 (fX false) (gv 3) (mA bR (aC (kc (.str "give")) (aC (kc (.str "tell")) (bB)))))) (bX (mA (C .q19) (aC (m2 bI (gv 0) (kc (.int 1))) (aC (gv 1) (aC (gv 2) (bB)))))) (bW)) (bD (bO (mB (m2 (fX false) (gv 3) (mA bR (aC (kc (.str "if")) (aC (kc (.str "while")) (bB)))))) (bD (gX 4 [1, 2] (cV (hR (gv 0) (hJ (kc (.int 2))) (hG))) (fun _ => .ok true) (mA (C .q23) (aC (gv 0) (aC (gv 1) (aC (gv 2) (bB)))))) (bX (mA (C .q20) (aC (m2 bV (mA gJ (aC (mA (C .q19) (aC (m2 bI (gv 0) (kc (.int 1))) (aC (gv 1) (aC (gv 2) (bB))))) (bB))) (gv 4)) (bB))))) (bW)) (bD (bZ 5 (mA (C .q17) (aC (m2 bI (gv 0) (kc (.int 1))) (aC (gv 1) (aC (gv 2) (bB)))))) (bD (bO (jL (mB (m2 (dO true) (gv 5) (kc .non))) (mB (m2 cP (gv 3) (kc (.str "get"))))) (bX (gv 5)) (bW)) (bD (bO (mB (m2 cP (gv 3) (kc (.str "await")))) (bX (mA (C .q17) (aC (m2 bI (gv 0) (kc (.int 2))) (aC (gv 1) (aC (gv 2) (bB)))))) (bW)) (bX (mA (C .q19) (aC (m2 bI (gv 0) (kc (.int 2))) (aC (gv 1) (aC (gv 2) (bB)))))))))))))
noncomputable def xP (C C' : CT) : MS := bX (mA (C .q20) (aC (dU [1, 2] (cV (gv 0)) (fun _ => .ok true) (mA (C .q22) (aC (gv 0) (aC (gv 1) (aC (gv 2) (bB)))))) (bB)))
noncomputable def bD3 (C C' : CT) : MS := bD (bZ 3 (m2 bV (m2 bV (m2 fN (gv 1) (m2 bV (kc (.int 1)) (m2 bY (gv 0) (kc (.int 3))))) (hR (dU [] (cV (gv 2)) (dB (fun _ => .ok true)) (dB (gv 0))) (hG) (hJ (m2 bY (m2 cN (gv 0) (kc (.int 3))) (kc (.int 2)))))) (hR (mA gJ (aC (kc (.str "zz")) (bB))) (hG) (hJ (m2 bY (m2 cN (gv 0) (kc (.int 6))) (kc (.int 2))))))) (bD (bZ 4 (m2 fN (gv 2) (m2 bV (kc (.int 1)) (m2 bY (m2 cN (gv 0) (kc (.int 12))) (kc (.int 3)))))) (bD (bO (mB (m2 cP (m2 bY (m2 cN (gv 0) (kc (.int 36))) (kc (.int 2))) (kc (.int 1)))) (bZ 4 (m2 bV (gv 4) (mA gJ (aC (mA bR (aC (kc (.str "zy")) (aC (kc (.int 0)) (bB)))) (aC (mA bR (aC (m2 bI (gv 1) (kc (.int 0))) (aC (kc (.int 1)) (bB)))) (bB)))))) (bW)) (bD (bO (mB (m2 cP (m2 bY (m2 cN (gv 0) (kc (.int 72))) (kc (.int 2))) (kc (.int 1)))) (bD (bZ 4 (m2 bV (gv 4) (dU [] (cV (gv 2)) (dB (fun _ => .ok true)) (dB (mA bR (aC (gv 0) (aC (m2 bV (gv 1) (kc (.int 1))) (bB)))))))) (bZ 4 (m2 bV (gv 4) (dU [] (cV (gv 2)) (dB (mB (m2 kR (gv 1) (kc (.int 0))))) (dB (mA bR (aC (gv 0) (aC (m2 gU (gv 1) (kc (.int 1))) (bB))))))))) (bW)) (bX (mA bR (aC (gv 3) (aC (gv 4) (aC (dU [0] (cV (gv 4)) (dB (mB (m2 gK (gv 1) (m2 bV (kc (.int 1)) (m2 bY (m2 cN (gv 2) (kc (.int 144))) (kc (.int 2))))))) (dB (gv 0))) (bB)))))))))
noncomputable def bD4 (C C' : CT) : MS := bD (gX 5 [1] (gP (m2 bI (m2 bI (gv 4) (gv 2)) (kc (.int 1)))) (fun _ => .ok true) (mA (C .q11) (aC (gv 1) (aC (m2 bV (kc (.int 16)) (gv 0)) (bB))))) (bD (bZ 6 (mA gJ (aC (mA (C .q11) (aC (gv 1) (aC (m2 bI (mA gJ (aC (kc (.int 20)) (aC (kc (.int 0)) (aC (kc (.int 12)) (aC (kc (.int 21)) (bB)))))) (m2 bY (m2 cN (gv 0) (kc (.int 4))) (kc (.int 4)))) (bB)))) (bB)))) (bD (sB 7 8 9 (mA (C .q24) (aC (m2 cN (gv 0) (kc (.int 16))) (aC (m2 bV (m2 bV (gv 3) (gv 5)) (gv 6)) (aC (gv 4) (bB)))))) (bD (bZ 10 (mA (C .q16) (aC (mA (C .q9) (aC (gv 0) (aC (kc (.int 1)) (bB)))) (aC (m2 bY (gv 0) (kc (.int 4))) (aC (gv 7) (aC (gv 8) (aC (gv 9) (aC (kc (.int 2)) (bB))))))))) (bX (mA bR (aC (m2 bI (m2 bI (gv 4) (gv 2)) (kc (.int 0))) (aC (mA jO (aC (gv 5) (bB))) (aC (mA jO (aC (gv 6) (bB))) (aC (gv 10) (bB))))))))))
noncomputable def bD5 (C C' : CT) : MS := bD (bZ 1 (mA (C .q8) (aC (gv 0) (aC (kc (.int 0)) (bB))))) (bD (bZ 2 (dU [1] (gP (m2 bV (kc (.int 1)) (m2 bY (mA (C .q8) (aC (gv 0) (aC (kc (.int 1)) (bB)))) (kc (.int 6))))) (fun _ => .ok true) (mA (C .q11) (aC (gv 1) (aC (gv 0) (bB)))))) (bD (bZ 3 (dU [1, 0] (gP (m2 bY (m2 cN (mA (C .q8) (aC (gv 0) (aC (kc (.int 1)) (bB)))) (kc (.int 6))) (kc (.int 5)))) (fun _ => .ok true) (mA bR (aC (mA (C .q11) (aC (gv 1) (aC (m2 bV (kc (.int 10)) (gv 0)) (bB)))) (aC (m2 bY (mA (C .q8) (aC (gv 2) (aC (m2 bV (kc (.int 2)) (gv 0)) (bB)))) (kc (.int 4))) (bB)))))) (bD (gX 4 [1, 2, 3, 0] (gP (mA dJ (aC (gv 3) (bB)))) (fun _ => .ok true) (mA (C .q25) (aC (mA (C .q8) (aC (gv 4) (aC (m2 bV (kc (.int 7)) (gv 0)) (bB)))) (aC (gv 1) (aC (gv 0) (aC (gv 2) (aC (gv 3) (bB)))))))) (bD (sB 5 6 7 (mA (C .q24) (aC (mA (C .q8) (aC (gv 0) (aC (kc (.int 6)) (bB)))) (aC (gv 2) (aC (gv 3) (bB)))))) (bD (sJ 8) (bD (fT 9 (gP (mA wX (aC (kc (.int 20)) (aC (mA wY (aC (kc (.int 1)) (aC (m2 gU (mA dJ (aC (gv 0) (bB))) (kc (.int 12))) (bB)))) (bB))))) (nY 8 (mA (C .q15) (aC (mA (C .q8) (aC (gv 0) (aC (m2 bV (kc (.int 12)) (gv 9)) (bB)))) (aC (gv 5) (aC (gv 6) (aC (gv 7) (aC (kc (.int 2)) (bB))))))))) (bD (nZ 8) (bD (bZ 10 (mA bR (aC (mA (C .q11) (aC (gv 1) (aC (kc (.int 25)) (bB)))) (aC (mA bR (bB)) (aC (mA jO (aC (gv 2) (bB))) (aC (mA jO (aC (gv 4) (bB))) (aC (mA jO (aC (gv 8) (bB))) (bB)))))))) (bD (bZ 11 (kc .non)) (bD (fT 12 (cV (gv 4)) (bD (bZ 13 (m2 bV (mA nA (aC (m2 bI (gv 12) (kc (.int 1))) (bB))) (mA nA (aC (m2 bI (gv 12) (kc (.int 2))) (bB))))) (bD (gX 14 [13] (cV (gv 3)) (mB (m2 (fX true) (m2 bI (gv 0) (kc (.int 0))) (gv 1))) (gv 0)) (bZ 11 (mA (C .q20) (aC (mA gJ (aC (gv 11) (aC (mA (C .q23) (aC (m2 bI (gv 12) (kc (.int 3))) (aC (m2 bV (gv 2) (gv 13)) (aC (gv 14) (bB))))) (bB)))) (bB))))))) (bD (bZ 11 (mA (C .q20) (aC (mA gJ (aC (gv 11) (aC (mA (C .q23) (aC (mA jO (aC (gv 8) (bB))) (aC (gv 2) (aC (gv 3) (bB))))) (bB)))) (bB)))) (bX (rN (m2 cP (mA (C .q1) (aC (gv 10) (bB))) (gv 11)) (m2 cP (mA (C .q1) (aC (gv 10) (bB))) (gv 11)))))))))))))))
noncomputable def bR0 (C : CT) : MS := bD (bZ 2 (m2 bI (gv 0) (kc (.int 1)))) (bD (bO (jY true 1 (gv 2)) (dQ 1 (mA bR (aC (kc (.str "unknown")) (aC (gv 2) (bB))))) (bW)) (bD (bZ 3 (qL 1 (gv 2))) (bD (bO (mB (m2 cP (m2 bI (gv 0) (kc (.int 0))) (kc (.str "COUNT")))) (dQ 1 (rP (mB (m2 nU (m2 bI (gv 3) (kc (.int 1))) (m2 bI (gv 0) (kc (.int 2))))) (mA bR (aC (kc (.str "count")) (aC (gv 2) (bB)))) (kc .non))) (bW)) (dQ 1 (rP (mB (m2 nU (m2 bI (gv 3) (kc (.int 0))) (m2 bI (gv 0) (kc (.int 0))))) (mA bR (aC (kc (.str "sort")) (aC (gv 2) (bB)))) (kc .non))))))
noncomputable def mN (C : CT) := pB 2 4 (bR0 C)
noncomputable def bR1 (C : CT) : MS := bD (fT 2 (cV (mA (C .q2) (aC (gv 0) (bB)))) (bD (gN 3 1 (mN C) (fI (gv 2) (gG))) (bO (mB (m2 (dO true) (gv 3) (kc .non))) (dQ 1 (gv 3)) (bW)))) (dQ 1 (kc .non))
noncomputable def nH (C : CT) := pB 2 4 (bR1 C)
noncomputable def bR2 (C : CT) : MS := bD (fT 2 (cV (m2 bI (gv 0) (kc (.int 3)))) (bD (bB2 3 1) (bD (fT 4 (cV (m2 bV (m2 bI (gv 2) (kc (.int 1))) (m2 bI (gv 2) (kc (.int 2))))) (kW 3 (gv 4) (kc nG))) (bD (gN 5 3 (nH C) (fI (m2 bI (gv 2) (kc (.int 3))) (gG))) (bO (mB (m2 (dO true) (gv 5) (kc .non))) (dQ 1 (gv 5)) (bW)))))) (bB4 1 (nH C) (fI (m2 bI (gv 0) (kc (.int 4))) (gG)))
noncomputable def vD (C : CT) := pB 2 6 (bR2 C)
noncomputable def bR3 (C : CT) : MS := bD (bP2 3 (mB (m2 (dO false) (gv 1) (kc .non)))) (bD (fT 4 (cV (m2 bI (gv 0) (kc (.int 3)))) (bD (bZ 5 (m2 bI (gv 4) (kc (.int 0)))) (bD (bZ 6 (mA dJ (aC (m2 bI (gv 4) (kc (.int 1))) (bB)))) (bD (bO (jY false 3 (gv 5)) (bO (mB (m2 nU (fun _ => .bad) (gv 6))) (dQ 2 (mA bR (aC (kc (.str "count")) (aC (gv 5) (bB))))) (bW)) (bO (jY false 2 (gv 5)) (dQ 2 (mA bR (aC (kc (.str "twice")) (aC (gv 5) (bB))))) (bW))) (kW 2 (gv 5) (mA bR (aC (kc (.str "DEED")) (aC (gv 6) (bB))))))))) (bD (bO (mB (m2 kR (bP1 3) (kc (.int 0)))) (dQ 2 (mA bR (aC (kc (.str "lacks")) (aC (m2 bI (mA nA (aC (gv 3) (bB))) (kc (.int 0))) (bB))))) (bW)) (dQ 2 (kc .non))))
noncomputable def vE (C : CT) := pB 3 7 (bR3 C)
noncomputable def bR4 (C : CT) : MS := bD (fT 2 (cV (m2 bI (gv 0) (kc (.int 2)))) (bD (bO (jY false 1 (gv 2)) (dQ 1 (mA bR (aC (kc (.str "twice")) (aC (gv 2) (bB))))) (bW)) (kW 1 (gv 2) (kc nG)))) (dQ 1 (kc .non))
noncomputable def vF (C : CT) := pB 2 3 (bR4 C)
noncomputable def fE0 (C : CT) : MS := bD (cI1 1) (bD (bO (mB (m2 (dO true) (gv 0) (kc .non))) (bD (fT 2 (cV (m2 bI (gv 0) (kc (.int 1)))) (kW 1 (gv 2) (kc nG))) (fT 3 (cV (m2 bI (gv 0) (kc (.int 2)))) (kW 1 (m2 bI (gv 3) (kc (.int 0))) (mA bR (aC (kc (.str "DEED")) (aC (m2 bI (gv 3) (kc (.int 1))) (bB))))))) (bW)) (bO5 1))
noncomputable def qT (C : CT) := bB5 1 4 (fE0 C)
noncomputable def bR5 (C : CT) : MS := bD (qK 3 4 (cV (m2 bI (gv 0) (kc (.int 1)))) (bD (bO (jL (mB (m2 cP (gv 3) (m2 bI (gv 0) (kc (.int 0))))) (jY true 1 (gv 3))) (dQ 2 (mA bR (aC (kc (.str "noface")) (aC (gv 3) (bB))))) (bW)) (bD (sR 5 (qT C) (aC (qL 1 (gv 3)) (bB))) (bD (bO (jY true 5 (gv 4)) (dQ 2 (mA bR (aC (kc (.str "nottold")) (aC (gv 4) (bB))))) (bW)) (bD (bO (jY false 2 (gv 4)) (dQ 2 (mA bR (aC (kc (.str "twice")) (aC (gv 4) (bB))))) (bW)) (kW 2 (gv 4) (qL 5 (gv 4)))))))) (dQ 2 (kc .non))
noncomputable def qU (C : CT) := pB 3 6 (bR5 C)
noncomputable def bD6 (C : CT) : MS := bD (sR 3 (qT C) (aC (gv 2) (bB))) (bD (gN 4 3 (qU C) (fI (gv 0) (bB3 1 (gG)))) (bD (bO (mB (m2 (dO false) (gv 4) (kc .non))) (gN 4 3 (vF C) (fI (gv 0) (gG))) (bW)) (bD (bO (mB (m2 (dO false) (gv 4) (kc .non))) (gN 4 3 (vE C) (fI (gv 0) (fI (gv 2) (gG)))) (bW)) (bD (bO (mB (m2 (dO false) (gv 4) (kc .non))) (gN 4 3 (vD C) (fI (gv 0) (gG))) (bW)) (bX (gv 4))))))
noncomputable def bR6 (C : CT) : List D -> bC D
 | [u] => xA 3 5 (bD6 C) [.val u, .tab [], .val .non]
 | _ => .bad
noncomputable def Ph : Nat -> CT
 | n + 3, i, ds => match i with
  | .q0 => cG 1 1 (cK0 (Ph (n + 2)) (Ph n)) ds
  | .q1 => (match n with
   | 0 => .bad
   | _ + 1 => bR6 (Ph n) ds)
  | .q2 => cG 1 3 (xF (Ph (n + 2)) (Ph n)) ds
  | .q3 => cG 1 4 (vB (Ph (n + 2)) (Ph n)) ds
  | .q4 => cG 2 2 (lG (Ph (n + 2)) (Ph n)) ds
  | .q5 => cG 1 4 (xG (Ph (n + 2)) (Ph n)) ds
  | .q6 => cG 1 3 (xH (Ph (n + 2)) (Ph n)) ds
  | .q7 => cG 2 2 (bC7 (Ph (n + 2)) (Ph n)) ds
  | .q8 => cG 2 3 (bC8 (Ph (n + 2)) (Ph n)) ds
  | .q9 => cG 2 3 (bC9 (Ph (n + 2)) (Ph n)) ds
  | .q10 => cG 1 4 (bD0 (Ph (n + 2)) (Ph n)) ds
  | .q11 => cG 2 3 (bD1 (Ph (n + 2)) (Ph n)) ds
  | .q12 => cG 1 1 (vC (Ph (n + 2)) (Ph n)) ds
  | .q13 => cG 4 10 (qS (Ph (n + 2)) (Ph n)) ds
  | .q14 => cG 4 10 (xI (Ph (n + 2)) (Ph n)) ds
  | .q15 => cG 5 9 (xJ (Ph (n + 2)) (Ph n)) ds
  | .q16 => cG 6 7 (xK (Ph (n + 2)) (Ph n)) ds
  | .q17 => cG 3 3 (xL (Ph (n + 2)) (Ph n)) ds
  | .q18 => cG 4 7 (xM (Ph (n + 2)) (Ph n)) ds
  | .q19 => cG 3 3 (xN (Ph (n + 2)) (Ph n)) ds
  | .q20 => cG 1 2 (bD2 (Ph (n + 2)) (Ph n)) ds
  | .q21 => cG 3 4 (xO (Ph (n + 2)) (Ph n)) ds
  | .q22 => cG 3 6 (lU (Ph (n + 2)) (Ph n)) ds
  | .q23 => cG 3 3 (xP (Ph (n + 2)) (Ph n)) ds
  | .q24 => cG 3 5 (bD3 (Ph (n + 2)) (Ph n)) ds
  | .q25 => cG 5 11 (bD4 (Ph (n + 2)) (Ph n)) ds
  | .law => cG 1 15 (bD5 (Ph (n + 2)) (Ph n)) ds
 | _, _, _ => .bad
structure Tab (P : Program) (w : World) (K : W.Frag) (mg : Str -> Option Value) (base : Heap) (n : Nat) (C : CT) : Prop where
 c0 : dS P w K mg base n "part_sorts_of" (C .q0)
 c1 : bO9 P w K mg base n "fault_of" (pC (C .q1))
 h1 : ∃ f fd, bK K "fault_of" "fault_of" s1 f fd /\ mg "fault_of" = some (.ref f) /\ cS K fd ["unit", "faces", "face"] []
 h2 : ∃ f fd, bK K "meanings_told" "meanings_told" s2 f fd /\ mg "meanings_told" = some (.ref f) /\ cS K fd ["face"] []
 h3 : ∃ f fd, bK K "fault_of_takes" "fault_of_takes" s3 f fd /\ mg "fault_of_takes" = some (.ref f) /\ cS K fd ["unit", "faces", "top"] []
 h4 : ∃ f fd, bK K "fault_of_words" "fault_of_words" s4 f fd /\ mg "fault_of_words" = some (.ref f) /\ cS K fd ["unit", "top"] []
 h5 : ∃ f fd, bK K "fault_of_deeds" "fault_of_deeds" s5 f fd /\ mg "fault_of_deeds" = some (.ref f) /\ cS K fd ["unit", "face", "top"] []
 h6 : ∃ f fd, bK K "fault_of_blocks" "fault_of_blocks" s6 f fd /\ mg "fault_of_blocks" = some (.ref f) /\ cS K fd ["unit", "top"] []
 h7 : ∃ f fd, bK K "fault_of_block" "fault_of_block" s7 f fd /\ mg "fault_of_block" = some (.ref f) /\ cS K fd ["block", "meanings"] []
 h8 : ∃ f fd, bK K "fault_of_use" "fault_of_use" s8 f fd /\ mg "fault_of_use" = some (.ref f) /\ cS K fd ["use", "meanings"] []
 c9 : dS P w K mg base n "uses_of_block" (C .q2)
 c10 : dS P w K mg base n "uses_of_statement" (C .q3)
 c11 : dS P w K mg base n "uses_of_part" (C .q4)
 c12 : dS P w K mg base n "uses_of_expression" (C .q5)
 c13 : dS P w K mg base n "uses_of_parts" (C .q6)
 c14 : dS P w K mg base n "_law_cell_at" (C .q7)
 c15 : dS P w K mg base n "_law_mixed" (C .q8)
 c16 : dS P w K mg base n "_law_drawn" (C .q9)
 c17 : dS P w K mg base n "_law_stem" (C .q10)
 c18 : dS P w K mg base n "_law_name" (C .q11)
 c19 : dS P w K mg base n "_law_value" (C .q12)
 c20 : dS P w K mg base n "_law_expression" (C .q13)
 c21 : dS P w K mg base n "_law_short" (C .q14)
 c22 : dS P w K mg base n "_law_statement" (C .q15)
 c23 : dS P w K mg base n "_law_block" (C .q16)
 c24 : dS P w K mg base n "_law_fault_of_word" (C .q17)
 c25 : dS P w K mg base n "_law_fault_of_call" (C .q18)
 c26 : dS P w K mg base n "_law_fault_of_expression" (C .q19)
 c27 : dS P w K mg base n "_law_first" (C .q20)
 c28 : dS P w K mg base n "_law_fault_of_new" (C .q21)
 c29 : dS P w K mg base n "_law_fault_of_statement" (C .q22)
 c30 : dS P w K mg base n "_law_fault_of_block" (C .q23)
 c31 : dS P w K mg base n "_law_mess" (C .q24)
 c32 : dS P w K mg base n "_law_deed_by" (C .q25)
 c33 : dS P w K mg base n "law" (C .law)
 b_dict : mg "dict" = none
 b_int : mg "int" = none
 b_len : mg "len" = none
 b_list : mg "list" = none
 b_max : mg "max" = none
 b_min : mg "min" = none
 b_range : mg "range" = none
 b_tuple : mg "tuple" = none
 b_zip : mg "zip" = none
 gc_NAME_SORTS : lE K mg "NAME_SORTS" xE
 gc_PART_SORTS : lE K mg "PART_SORTS" bC5
 gc_STATEMENT_FORMS : nX w K mg "STATEMENT_FORMS" bC6
 gc_WORD : lE K mg "WORD" nG
noncomputable def fsL (C : CT) : List (Str × (List D -> bC D)) := [kv "part_sorts_of" (C .q0), kv "uses_of_block" (C .q2), kv "uses_of_statement" (C .q3), kv "uses_of_part" (C .q4), kv "uses_of_expression" (C .q5), kv "uses_of_parts" (C .q6), kv "_law_cell_at" (C .q7), kv "_law_mixed" (C .q8), kv "_law_drawn" (C .q9), kv "_law_stem" (C .q10), kv "_law_name" (C .q11), kv "_law_value" (C .q12), kv "_law_expression" (C .q13), kv "_law_short" (C .q14), kv "_law_statement" (C .q15), kv "_law_block" (C .q16), kv "_law_fault_of_word" (C .q17), kv "_law_fault_of_call" (C .q18), kv "_law_fault_of_expression" (C .q19), kv "_law_first" (C .q20), kv "_law_fault_of_new" (C .q21), kv "_law_fault_of_statement" (C .q22), kv "_law_fault_of_block" (C .q23), kv "_law_mess" (C .q24), kv "_law_deed_by" (C .q25), kv "law" (C .law)]
noncomputable def csL : List (Str × D) := [kv "NAME_SORTS" xE, kv "PART_SORTS" bC5, kv "WORD" nG]
noncomputable def tsL : List (Str × List (Str × D)) := [kv "STATEMENT_FORMS" bC6]
noncomputable def bsL : List Str := ["dict", "int", "len", "list", "max", "min", "range", "tuple", "zip"]
theorem tok {P : Program} {w : World} {K : W.Frag} {mg : Str -> Option Value} {base : Heap} {n : Nat} {C : CT} (TT : Tab P w K mg base n C) : cJ7 P w K mg base n (fsL C) csL tsL bsL where
 fs := fC TT.c0 (fC TT.c9 (fC TT.c10 (fC TT.c11 (fC TT.c12 (fC TT.c13 (fC TT.c14 (fC TT.c15 (fC TT.c16 (fC TT.c17 (fC TT.c18 (fC TT.c19 (fC TT.c20 (fC TT.c21 (fC TT.c22 (fC TT.c23 (fC TT.c24 (fC TT.c25 (fC TT.c26 (fC TT.c27 (fC TT.c28 (fC TT.c29 (fC TT.c30 (fC TT.c31 (fC TT.c32 (fC TT.c33 (bQ9))))))))))))))))))))))))))
 cs := fC TT.gc_NAME_SORTS (fC TT.gc_PART_SORTS (fC TT.gc_WORD (bQ9)))
 ts := fC TT.gc_STATEMENT_FORMS (bQ9)
 bs := pD TT.b_dict (pD TT.b_int (pD TT.b_len (pD TT.b_list (pD TT.b_max (pD TT.b_min (pD TT.b_range (pD TT.b_tuple (pD TT.b_zip (fB3)))))))))
end Jm
end
section
namespace Jm
open PySem PySem.Spec PyProof.Rows L2 R
variable [bP]
mutual
inductive Ee where
 | num (i : Int) | nam (x : Str) | cal (x : Str) (ps : Es) | bin (s : Str) (a b : Ee)
inductive Es where
 | nil | cons (e : Ee) (r : Es)
end
mutual
inductive Sm where
 | let_ (x : Str) (e : Ee) | ife (e : Ee) (a b : Sms) | whi (e : Ee) (a : Sms) | do_ (x : Str) (ps : Es) | giv (e : Ee) | tel (e : Ee) | get (x : Str) | new (x y : Str) | han (x : Str) (e : Ee) | awa (x y : Str)
inductive Sms where
 | nil | cons (s : Sm) (r : Sms)
end
mutual
noncomputable def Ee.d : Ee -> D
 | .num i => .tup [.str "number", .int i]
 | .nam x => .tup [.str "name", .str x]
 | .cal x ps => .tup [.str "call", .str x, .tup ps.d]
 | .bin s a b => .tup [.str s, a.d, b.d]
noncomputable def Es.d : Es -> List D
 | .nil => []
 | .cons e r => e.d :: r.d
end
noncomputable abbrev u3 (s x : Str) (n : Int) : D := .tup [.str s, .str x, .int n]
mutual
noncomputable def Ee.u : Ee -> List D
 | .num _ => []
 | .nam x => [u3 "WORD" x 0]
 | .cal x ps => u3 "DEED" x 0 :: (ps.u ++ [u3 "COUNT" x ps.d.length])
 | .bin _ a b => a.u ++ b.u
noncomputable def Es.u : Es -> List D
 | .nil => []
 | .cons e r => e.u ++ r.u
end
mutual
noncomputable def Ee.h : Ee -> Nat
 | .num _ => 0
 | .nam _ => 0
 | .cal _ ps => ps.h + 1
 | .bin _ a b => max a.h b.h + 1
noncomputable def Es.h : Es -> Nat
 | .nil => 0
 | .cons e r => max e.h r.h
end
mutual
def Ee.ok : Ee -> Prop
 | .num _ => True
 | .nam x => x.length <= 8
 | .cal x ps => x.length <= 8 /\ ps.ok /\ ps.d.length <= 5
 | .bin s a b => (s == "number") = false /\ (s == "name") = false /\ (s == "call") = false /\ s.length <= 8 /\ a.ok /\ b.ok
def Es.ok : Es -> Prop
 | .nil => True
 | .cons e r => e.ok /\ r.ok
end
mutual
noncomputable def Sm.d : Sm -> D
 | .let_ x e => .tup [.str "let", .str x, e.d]
 | .ife e a b => .tup [.str "if", e.d, .tup a.d, .tup b.d]
 | .whi e a => .tup [.str "while", e.d, .tup a.d]
 | .do_ x ps => .tup [.str "do", .str x, .tup ps.d]
 | .giv e => .tup [.str "give", e.d]
 | .tel e => .tup [.str "tell", e.d]
 | .get x => .tup [.str "get", .str x]
 | .new x y => .tup [.str "new", .str x, .str y]
 | .han x e => .tup [.str "hand", .str x, e.d]
 | .awa x y => .tup [.str "await", .str x, .str y]
noncomputable def Sms.d : Sms -> List D
 | .nil => []
 | .cons s r => s.d :: r.d
end
mutual
noncomputable def Sm.u : Sm -> List D
 | .let_ x e => u3 "WORD" x 0 :: e.u
 | .ife e a b => e.u ++ (a.u ++ b.u)
 | .whi e a => e.u ++ a.u
 | .do_ x ps => u3 "DEED" x 0 :: (ps.u ++ [u3 "COUNT" x ps.d.length])
 | .giv e => e.u
 | .tel e => e.u
 | .get x => [u3 "WORD" x 0]
 | .new x y => [u3 "WORD" x 0, u3 "DEED" y 0, u3 "COUNT" y 0]
 | .han x e => u3 "WORD" x 0 :: e.u
 | .awa x y => [u3 "WORD" x 0, u3 "WORD" y 0]
noncomputable def Sms.u : Sms -> List D
 | .nil => []
 | .cons s r => s.u ++ r.u
end
mutual
noncomputable def Sm.h : Sm -> Nat
 | .ife _ a b => max a.h b.h + 1
 | .whi _ a => a.h + 1
 | _ => 0
noncomputable def Sms.h : Sms -> Nat
 | .nil => 0
 | .cons s r => max s.h r.h
end
abbrev Ee.fit (e : Ee) : Prop := e.ok /\ e.h <= 2
mutual
def Sm.ok : Sm -> Prop
 | .let_ x e => x.length <= 8 /\ e.fit
 | .ife e a b => e.fit /\ a.ok /\ b.ok
 | .whi e a => e.fit /\ a.ok
 | .do_ x ps => x.length <= 8 /\ ps.ok /\ ps.d.length <= 5 /\ ps.h <= 2
 | .giv e => e.fit
 | .tel e => e.fit
 | .get x => x.length <= 8
 | .new x y => x.length <= 8 /\ y.length <= 8
 | .han x e => x.length <= 8 /\ e.fit
 | .awa x y => x.length <= 8 /\ y.length <= 8
def Sms.ok : Sms -> Prop
 | .nil => True
 | .cons s r => s.ok /\ r.ok /\ r.d.length <= 998
end
theorem Sms.len {b : Sms} (h : b.ok) : b.d.length <= 1000 := by
 cases b with
 | nil => simp [Sms.d]
 | cons s r => simp only [Sms.ok] at h; simp only [Sms.d, List.length_cons]; omega
theorem c2 {m : D -> D -> bC D} {f g : ME} {x y z : D} {ρ : bM} (h1 : f ρ = .ok x) (h2 : g ρ = .ok y) (h3 : m x y = .ok z) : m2 m f g ρ = .ok z := by simp [m2, h1, h2, bC.bind, h3]
theorem cB {f : ME} {b : Bool} {ρ : bM} (q : f ρ = .ok (.bl b)) : mB f ρ = .ok b := by simp [mB, q, bC.bind, nR]
theorem a1 {m : List D -> bC D} {f : ME} {x z : D} {ρ : bM} (h1 : f ρ = .ok x) (h3 : m [x] = .ok z) : mA m (aC f (bB)) ρ = .ok z := by simp [mA, aC, bB, h1, bC.bind, h3]
theorem a2 {m : List D -> bC D} {f g : ME} {x y z : D} {ρ : bM} (h1 : f ρ = .ok x) (h2 : g ρ = .ok y) (h3 : m [x, y] = .ok z) : mA m (aC f (aC g (bB))) ρ = .ok z := by simp [mA, aC, bB, h1, h2, bC.bind, h3]
theorem a3 {m : List D -> bC D} {f g h : ME} {x y u z : D} {ρ : bM} (h1 : f ρ = .ok x) (h2 : g ρ = .ok y) (h2' : h ρ = .ok u) (h3 : m [x, y, u] = .ok z) : mA m (aC f (aC g (aC h (bB)))) ρ = .ok z := by simp [mA, aC, bB, h1, h2, h2', bC.bind, h3]
theorem a4 {m : List D -> bC D} {f g h i : ME} {x y u v z : D} {ρ : bM} (h1 : f ρ = .ok x) (h2 : g ρ = .ok y) (h2' : h ρ = .ok u) (h2'' : i ρ = .ok v) (h3 : m [x, y, u, v] = .ok z) : mA m (aC f (aC g (aC h (aC i (bB))))) ρ = .ok z := by simp [mA, aC, bB, h1, h2, h2', h2'', bC.bind, h3]
theorem cZ {c : MT} {A R : MS} {ρ : bM} (h : c ρ = .ok false) : bD (bO c A bW) R ρ = R ρ := by
 simp [bD, bO, h, bC.bind, bW, lP]
theorem dX {c : MT} {A B R : MS} {ρ : bM} (h : c ρ = .ok true) : bD (bO c A B) R ρ = bD A R ρ := by
 simp [bD, bO, h, bC.bind, lP]
theorem dY {i : Nat} {f : ME} {R : MS} {ρ : bM} {d : D} (h : f ρ = .ok d) : bD (bZ i f) R ρ = R (ρ.set i (.val d)) := by
 simp [bD, bZ, h, bC.bind, lP]
theorem jR {f : ME} {ρ : bM} {d : D} (h : f ρ = .ok d) : ((bX f ρ).bind cK) = .ok d := by
 simp [bX, h, bC.bind, cK]
theorem gH {f : ME} {R : MS} {ρ : bM} {d : D} (h : f ρ = .ok d) : (bD (bX f) R ρ).bind cK = .ok d := by
 simp [bD, bX, h, bC.bind, lP, cK]
theorem dZ {A R : MS} {ρ ρ' : bM} (h : A ρ = .ok (.nx ρ')) : bD A R ρ = R ρ' := by
 simp [bD, h, bC.bind, lP]
theorem cK1 {A R : MS} {ρ : bM} {d : D} (h : A ρ = .ok (.rt d)) : (bD A R ρ).bind cK = .ok d := by
 simp [bD, h, bC.bind, lP, cK]
theorem bD7 {A B D : MS} {ρ : bM} : bD (bD A B) D ρ = bD A (bD B D) ρ := by
 unfold bD
 cases A ρ with
 | ok fl => cases fl <;> rfl
 | _ => rfl
theorem cR {xs : List D} (i : Nat) (x : D) (h : xs[i]? = some x) : bI (.tup xs) (.int (i : Int)) = .ok x := by
 have e : gC xs (i : Int) = some x := vT h
 simp only [bI, e]
theorem dC (a b : Str) : cP (.str a) (.str b) = .ok (.bl (a == b)) := by
 simp [cP, gF, fH]
end Jm
end
section
namespace Jm
open PySem PySem.Spec PyProof.Rows L2 R
variable [bP]
theorem line : (1000000 : Nat) <= sizeLine := by have := sizeLine_eq; omega
theorem bR7 {i : Nat} {f : ME} {ρ : bM} {acc es : List D} (hi : ρ[i]? = some (.own acc)) (hf : f ρ = .ok (.lst es)) (hz : acc.length + es.length <= 1000000) : mK i f ρ = .ok (.nx (ρ.set i (.own (acc ++ es)))) := by
 have := line
 unfold mK
 rw [hf]
 show wZ i ρ (.lst es) = _
 unfold wZ
 rw [hi]
 exact if_pos bF
theorem bR8 {i : Nat} {f : ME} {ρ : bM} {acc : List D} {d : D} (hi : ρ[i]? = some (.own acc)) (hf : f ρ = .ok d) (hz : acc.length < 1000000) : nY i f ρ = .ok (.nx (ρ.set i (.own (acc ++ [d])))) := by
 have := line
 unfold nY
 rw [hf]
 show (match ρ[i]? with
  | some (.own ds) => if ds.length < sizeLine then (bC.ok (Fl.nx (ρ.set i (.own (ds ++ [d])))) : bC Fl) else bC.bad
  | _ => bC.bad) = _
 rw [hi]
 exact if_pos bF
theorem mO {i : Nat} {fl : ML} {body : MS} {ρ : bM} {ds : List D} (h : fl ρ = .ok ds) : fT i fl body ρ = cU i body ds ρ := by
 unfold fT
 rw [h]; rfl
theorem cK2 {i j : Nat} {fl : ML} {body : MS} {ρ : bM} {ds : List D} (h : fl ρ = .ok ds) : qK i j fl body ρ = fB i j body ds ρ := by
 unfold qK
 rw [h]; rfl
theorem mP {i : Nat} {body : MS} {d : D} {ds : List D} {ρ ρ' : bM} (h : body (ρ.set i (.val d)) = .ok (.nx ρ')) : cU i body (d :: ds) ρ = cU i body ds ρ' := by
 rw [cU, h]; rfl
theorem fE5 {i j : Nat} {body : MS} {x y : D} {ds : List D} {ρ ρ' : bM} (h : body ((ρ.set i (.val x)).set j (.val y)) = .ok (.nx ρ')) : fB i j body (.tup [x, y] :: ds) ρ = fB i j body ds ρ' := by
 rw [fB]
 show ((body ((ρ.set i (.val x)).set j (.val y))).bind _) = _
 rw [h]; rfl
theorem mQ {f : ME} {ρ : bM} {xs : List D} (h : f ρ = .ok (.tup xs)) : cV f ρ = .ok xs := by unfold cV; rw [h]; rfl
theorem nI {f : ME} {ρ : bM} {xs : List D} (h : f ρ = .ok (.lst xs)) : cV f ρ = .ok xs := by unfold cV; rw [h]; rfl
theorem vG {i : Nat} {R : MS} {ρ : bM} {acc : List D} (hi : ρ[i]? = some (.own acc)) : bD (nZ i) R ρ = R (ρ.set i (.val (.lst acc))) := by
 unfold bD nZ
 rw [hi]; rfl
section
variable (C C' : CT)
noncomputable abbrev fE6 : MS := mK 1 (mA (C .q5) (aC (gv 2) (bB)))
variable {C}
theorem cK3 {X : Slot} {k : Nat} (h : ∀ e : Ee, e.ok -> e.u.length <= 1000000 -> e.h <= k -> C .q5 [e.d] = .ok (.lst e.u)) : ∀ (ps : Es) (acc : List D) (s : Slot), ps.ok -> acc.length + ps.u.length <= 1000000 -> ps.h <= k ->
 ∃ s', cU 2 (fE6 C) ps.d [X, .own acc, s] = .ok (.nx [X, .own (acc ++ ps.u), s'])
 | .nil, acc, s, _, _, _ => ⟨s, by simp [Es.d, Es.u, cU]⟩
 | .cons e r, acc, s, ho, hz, hh => by
  simp only [Es.u, List.length_append] at hz
  simp only [Es.h] at hh
  simp only [Es.ok] at ho
  obtain ⟨s', q⟩ := cK3 h r (acc ++ e.u) (.val e.d) ho.2 (by rw [List.length_append]; omega) bF
  refine ⟨s', ?_⟩
  rw [Es.d, mP (ρ' := [X, .own (acc ++ e.u), .val e.d]), q]
  ·simp only [Es.u, List.append_assoc]
  ·exact bR7 (acc := acc) rfl (a1 rfl (h e ho.1 bF bF)) bF
theorem cK4 {k : Nat} (h : ∀ e : Ee, e.ok -> e.u.length <= 1000000 -> e.h <= k -> C .q5 [e.d] = .ok (.lst e.u)) (ps : Es) (ho : ps.ok) (hz : ps.u.length <= 1000000) (hh : ps.h <= k) :
 cG 1 3 (xH C C') [.tup ps.d] = .ok (.lst ps.u) := by
 obtain ⟨s', q⟩ := cK3 (X := .val (.tup ps.d)) h ps [] .no ho (by simpa using hz) hh
 show ((xH C C') [.val (.tup ps.d), .no, .no]).bind cK = _
 unfold xH
 rw [dZ (ρ' := [.val (.tup ps.d), .own [], .no]) rfl, dZ (ρ' := [.val (.tup ps.d), .own ps.u, s']), vG (acc := ps.u) rfl]
 ·exact jR rfl
 ·rw [mO (mQ (xs := ps.d) rfl)]; simpa using q
theorem lV {a b : List D} (h : a.length + b.length <= 1000000) : bV (.lst a) (.lst b) = .ok (.lst (a ++ b)) := by
 have := line
 simp only [bV]
 exact if_pos bF
theorem fE7 {a : D} {r : List D} : fZ (a :: r) (some 1) none = r := by
 unfold fZ
 have e1 : HT.sIx (a :: r).length 0 (some 1) = 1 := by simp [HT.sIx]
 have e2 : HT.sIx (a :: r).length (a :: r).length none = (a :: r).length := by simp [HT.sIx]
 rw [e1, e2]
 simp
theorem fE8 {a b : D} {r : List D} : fZ (a :: b :: r) (some 2) none = r := by
 unfold fZ
 have e1 : HT.sIx (a :: b :: r).length 0 (some 2) = 2 := by simp [HT.sIx]
 have e2 : HT.sIx (a :: b :: r).length (a :: b :: r).length none = (a :: b :: r).length := by simp [HT.sIx]
 rw [e1, e2]
 simp
theorem bR9 {a : D} {r : List D} {ρ : bM} (h : gv 0 ρ = .ok (.tup (a :: r))) : hR (gv 0) (hJ (kc (.int 1))) (hG) ρ = .ok (.tup r) := by
 simp [hR, hJ, hG, zS, kc, bC.bind, qH, h, fE7]
theorem fE9 {a b : D} {r : List D} {ρ : bM} (h : gv 0 ρ = .ok (.tup (a :: b :: r))) : hR (gv 0) (hJ (kc (.int 2))) (hG) ρ = .ok (.tup r) := by
 simp [hR, hJ, hG, zS, kc, bC.bind, qH, h, fE8]
theorem cK5 {k : Nat} (h : ∀ ps : Es, ps.ok -> ps.u.length <= 1000000 -> ps.h < k -> C .q6 [.tup ps.d] = .ok (.lst ps.u)) (e : Ee) (ho : e.ok) (hz : e.u.length <= 1000000) (hh : e.h <= k) :
 cG 1 4 (xG C C') [e.d] = .ok (.lst e.u) := by
 show ((xG C C') [.val e.d, .no, .no, .no]).bind cK = _
 unfold xG
 cases e with
 | num i =>
  rw [Ee.d, dY (c2 (x := .tup [.str "number", .int i]) (y := .int 0) rfl rfl (cR 0 _ rfl)), dX (cB (c2 (x := .str "number") rfl rfl (dC _ _)))]
  exact gH rfl
 | nam x =>
  rw [Ee.d, dY (c2 (x := .tup [.str "name", .str x]) (y := .int 0) rfl rfl (cR 0 _ rfl)), cZ (cB (c2 (x := .str "name") rfl rfl (dC _ _))), dX (cB (c2 (x := .str "name") rfl rfl (dC _ _)))]
  exact gH rfl
 | cal x ps =>
  simp only [Ee.ok] at ho
  simp only [Ee.h] at hh
  simp only [Ee.u, List.length_cons, List.length_append] at hz
  rw [Ee.d, dY (c2 (x := .tup [.str "call", .str x, .tup ps.d]) (y := .int 0) rfl rfl (cR 0 _ rfl)), cZ (cB (c2 (x := .str "call") rfl rfl (dC _ _))), cZ (cB (c2 (x := .str "call") rfl rfl (dC _ _))), dX (cB (c2 (x := .str "call") rfl rfl (dC _ _))),
   bD7, dY (c2 (x := .tup [.str "call", .str x, .tup ps.d]) (y := .int 1) rfl rfl (cR 1 _ rfl)), bD7, dY (c2 (x := .tup [.str "call", .str x, .tup ps.d]) (y := .int 2) rfl rfl (cR 2 _ rfl))]
  refine gH (c2 (x := .lst (u3 "DEED" x 0 :: ps.u)) (y := .lst [u3 "COUNT" x ps.d.length]) ?_ rfl ?_)
  ·exact c2 (x := .lst [u3 "DEED" x 0]) (y := .lst ps.u) rfl (a1 rfl (h ps ho.2.1 bF bF)) (lV (by simp; omega))
  ·rw [lV (by simp; omega)]; simp only [Ee.u, List.cons_append]
 | bin s a b =>
  simp only [Ee.ok] at ho
  simp only [Ee.h] at hh
  simp only [Ee.u, List.length_append] at hz
  rw [Ee.d, dY (c2 (x := .tup [.str s, a.d, b.d]) (y := .int 0) rfl rfl (cR 0 _ rfl)), cZ (cB (c2 (x := .str s) rfl rfl (by rw [dC, ho.1]))), cZ (cB (c2 (x := .str s) rfl rfl (by rw [dC, ho.2.1]))), cZ (cB (c2 (x := .str s) rfl rfl (by rw [dC, ho.2.2.1])))]
  refine jR (a1 (bR9 (a := .str s) (r := [a.d, b.d]) rfl) ?_)
  have := h (.cons a (.cons b .nil)) (by simp only [Es.ok]; exact ⟨ho.2.2.2.2.1, ho.2.2.2.2.2, trivial⟩) (by simp only [Es.u, List.length_append, List.length_nil]; omega) (by simp only [Es.h]; omega)
  simpa only [Es.d, Es.u, List.append_nil, Ee.u] using this
end
theorem bD8 : ∀ (k n : Nat) (e : Ee), e.ok -> e.u.length <= 1000000 -> e.h <= k -> Ph (n + 2 * k + 3) .q5 [e.d] = .ok (.lst e.u)
 | 0, n, e, ho, hz, hh => cK5 (k := 0) (C' := Ph n) (fun ps _ _ h => by omega) e ho hz hh
 | k + 1, n, e, ho, hz, hh => cK5 (k := k + 1) (C := Ph (n + 2 * (k + 1) + 2)) (C' := Ph (n + 2 * (k + 1))) (fun ps h1 h2 h3 => cK4 (k := k) (C := Ph (n + 2 * k + 3)) (C' := Ph (n + 2 * k + 1)) (fun e' => bD8 k n e') ps h1 h2 bF) e ho hz hh
theorem cK6 (k n : Nat) (ps : Es) (ho : ps.ok) (hz : ps.u.length <= 1000000) (hh : ps.h <= k) : Ph (n + 2 * k + 4) .q6 [.tup ps.d] = .ok (.lst ps.u) :=
 cK4 (k := k) (C := Ph (n + 2 * k + 3)) (C' := Ph (n + 2 * k + 1)) (fun e' => bD8 k n e') ps ho hz hh
end Jm
end
section
namespace Jm
open PySem PySem.Spec PyProof.Rows L2 R
variable [bP]
section
variable {C C' : CT}
noncomputable abbrev kY (C : CT) : MS := mK 1 (mA (C .q4) (aC (gv 2) (aC (gv 3) (bB))))
theorem jG {X a b : Slot} {s p : D} {us acc : List D} {ps : List D} (h : C .q4 [s, p] = .ok (.lst us)) (hz : acc.length + us.length <= 1000000) :
 fB 2 3 (kY C) (.tup [s, p] :: ps) [X, .own acc, a, b] = fB 2 3 (kY C) ps [X, .own (acc ++ us), .val s, .val p] :=
 fE5 (bR7 (acc := acc) rfl (a2 rfl rfl h) hz)
theorem nJ {X a b : Slot} {acc : List D} : fB 2 3 (kY C) [] [X, .own acc, a, b] = .ok (.nx [X, .own acc, a, b]) := by rw [fB]
theorem nK {w : Str} {r : List D} {ss : List Str} {us : List D} (hs : C .q0 [.str w] = .ok (.lst (ss.map .str))) (hl : us.length + 1 <= 1000000)
 (ht : ∃ a b, fB 2 3 (kY C) (R.pairD (ss.map .str) r) [.val (.tup (.str w :: r)), .own [], .no, .no] = .ok (.nx [.val (.tup (.str w :: r)), .own us, a, b])) (x : D) (hx : (.str w :: r)[1]? = some x) (y : D) (hy : ((w == "do") = true \/ (w == "new") = true) -> (.str w :: r)[2]? = some y) (n : Int) (hn : (w == "do") = true -> dJ [y] = .ok (.int n)) :
 cG 1 4 (vB C C') [.tup (.str w :: r)] = .ok (.lst (us ++ if (w == "do") = true then [.tup [.str "COUNT", x, .int n]] else if (w == "new") = true then [.tup [.str "COUNT", y, .int 0]] else [])) := by
 obtain ⟨a, b, ht⟩ := ht
 show ((vB C C') [.val (.tup (.str w :: r)), .no, .no, .no]).bind cK = _
 unfold vB
 have i0 : ∀ z, m2 bI (gv 0) (kc (.int 0)) (.val (.tup (.str w :: r)) :: z) = .ok (.str w) := fun z => c2 (x := .tup (.str w :: r)) (y := .int 0) rfl rfl (cR 0 _ rfl)
 have i1 : ∀ z, m2 bI (gv 0) (kc (.int 1)) (.val (.tup (.str w :: r)) :: z) = .ok x := fun z => c2 (x := .tup (.str w :: r)) (y := .int 1) rfl rfl (cR 1 _ hx)
 have hz : sI (mA (C .q0) (aC (m2 bI (gv 0) (kc (.int 0))) (bB))) (hR (gv 0) (hJ (kc (.int 1))) (hG)) [.val (.tup (.str w :: r)), .own [], .no, .no] = .ok (R.pairD (ss.map .str) r) := by
  unfold sI
  rw [a1 (i0 _) hs]
  show ((hR (gv 0) (hJ (kc (.int 1))) (hG) [.val (.tup (.str w :: r)), .own [], .no, .no]).bind fun e => qJ (.lst (ss.map .str)) e) = _
  rw [bR9 (a := .str w) (r := r) rfl]
  rfl
 rw [dZ (ρ' := [.val (.tup (.str w :: r)), .own [], .no, .no]) rfl, dZ (ρ' := [.val (.tup (.str w :: r)), .own us, a, b]) (by rw [cK2 hz, ht])]
 by_cases hd : (w == "do") = true
 ·have hnw : (w == "new") = false := by
   have e := eq_of_beq hd
   subst e; decide
  have i2 : ∀ z, m2 bI (gv 0) (kc (.int 2)) (.val (.tup (.str w :: r)) :: z) = .ok y := fun z => c2 (x := .tup (.str w :: r)) (y := .int 2) rfl rfl (cR 2 _ (hy (.inl hd)))
  rw [dX (cB (c2 (i0 _) rfl (by rw [dC, hd]))), dZ (ρ' := [.val (.tup (.str w :: r)), .own (us ++ [.tup [.str "COUNT", x, .int n]]), a, b]) (bR8 (acc := us) rfl (a3 rfl (i1 _) (a1 (i2 _) (hn hd)) rfl) bF),
   cZ (cB (c2 (i0 _) rfl (by rw [dC, hnw]))), vG (acc := us ++ [.tup [.str "COUNT", x, .int n]]) rfl, if_pos hd]
  exact jR rfl
 ·have hd' : (w == "do") = false := by simpa using hd
  rw [cZ (cB (c2 (i0 _) rfl (by rw [dC, hd']))), if_neg hd]
  by_cases hw : (w == "new") = true
  ·have i2 : ∀ z, m2 bI (gv 0) (kc (.int 2)) (.val (.tup (.str w :: r)) :: z) = .ok y := fun z => c2 (x := .tup (.str w :: r)) (y := .int 2) rfl rfl (cR 2 _ (hy (.inr hw)))
   rw [dX (cB (c2 (i0 _) rfl (by rw [dC, hw]))), dZ (ρ' := [.val (.tup (.str w :: r)), .own (us ++ [.tup [.str "COUNT", y, .int 0]]), a, b]) (bR8 (acc := us) rfl (a3 rfl (i2 _) rfl rfl) bF), vG (acc := us ++ [.tup [.str "COUNT", y, .int 0]]) rfl, if_pos hw]
   exact jR rfl
  ·have hw' : (w == "new") = false := by simpa using hw
   rw [cZ (cB (c2 (i0 _) rfl (by rw [dC, hw']))), vG (acc := us) rfl, if_neg hw, List.append_nil]
   exact jR rfl
structure cK7 (C : CT) (k : Nat) : Prop where
 w : ∀ x : Str, C .q4 [.str "WORD", .str x] = .ok (.lst [u3 "WORD" x 0])
 d : ∀ x : Str, C .q4 [.str "DEED", .str x] = .ok (.lst [u3 "DEED" x 0])
 e : ∀ e : Ee, e.fit -> e.u.length <= 1000000 -> C .q4 [.str "EXPRESSION", e.d] = .ok (.lst e.u)
 p : ∀ ps : Es, ps.ok -> ps.h <= 2 -> ps.u.length <= 1000000 -> C .q4 [.str "PARTS", .tup ps.d] = .ok (.lst ps.u)
 b : ∀ b : Sms, b.ok -> b.h < k -> b.u.length + 1 <= 1000000 -> C .q4 [.str "BLOCK", .tup b.d] = .ok (.lst b.u)
theorem cK8 (a b : Str) : (a == b) = (b == a) := by
 rw [Bool.eq_iff_iff, beq_iff_eq, beq_iff_eq]; exact eq_comm
theorem qV (w a b : Str) : fX false (.str w) (.tup [.str a, .str b]) = .ok (.bl (w == a || w == b)) := by
 have e : fX false (.str w) (.tup [.str a, .str b]) = .ok (.bl (mZ (.str w) [.str a, .str b])) := by
  simp only [fX]
  rw [if_pos (by simp [depL, gF])]
  simp
 rw [e]
 have e2 : mZ (.str w) [.str a, .str b] = (w == a || w == b) := by
  show (fH (.str a) (.str w) || (fH (.str b) (.str w) || false)) = _
  rw [fH, fH, Bool.or_false, cK8 a w, cK8 b w]
 rw [e2]
theorem xQ (s : Str) : fX false (.str s) xE = .ok (.bl (s == "WORD" || s == "DEED")) := qV s "WORD" "DEED"
theorem cK9 {k : Nat} (he : ∀ e : Ee, e.fit -> e.u.length <= 1000000 -> C .q5 [e.d] = .ok (.lst e.u)) (hp : ∀ ps : Es, ps.ok -> ps.h <= 2 -> ps.u.length <= 1000000 -> C .q6 [.tup ps.d] = .ok (.lst ps.u))
 (hb : ∀ b : Sms, b.ok -> b.h < k -> b.u.length + 1 <= 1000000 -> C .q2 [.tup b.d] = .ok (.lst b.u)) (K : CT) (hK : ∀ ds, K .q4 ds = cG 2 2 (lG C C') ds) : cK7 K k := by
 constructor
 ·intro x
  rw [hK]
  show ((lG C C') [.val (.str "WORD"), .val (.str x)]).bind cK = _
  unfold lG
  rw [dX (cB (c2 (x := .str "WORD") rfl rfl (xQ _)))]
  exact gH rfl
 ·intro x
  rw [hK]
  show ((lG C C') [.val (.str "DEED"), .val (.str x)]).bind cK = _
  unfold lG
  rw [dX (cB (c2 (x := .str "DEED") rfl rfl (xQ _)))]
  exact gH rfl
 ·intro e h1 h2
  rw [hK]
  show ((lG C C') [.val (.str "EXPRESSION"), .val e.d]).bind cK = _
  unfold lG
  rw [cZ (cB (c2 (x := .str "EXPRESSION") rfl rfl (xQ _))), dX (cB (c2 (x := .str "EXPRESSION") rfl rfl (dC _ _)))]
  exact gH (a1 rfl (he e h1 h2))
 ·intro ps h1 h2 h3
  rw [hK]
  show ((lG C C') [.val (.str "PARTS"), .val (.tup ps.d)]).bind cK = _
  unfold lG
  rw [cZ (cB (c2 (x := .str "PARTS") rfl rfl (xQ _))), cZ (cB (c2 (x := .str "PARTS") rfl rfl (dC _ _))), dX (cB (c2 (x := .str "PARTS") rfl rfl (dC _ _)))]
  exact gH (a1 rfl (hp ps h1 h2 h3))
 ·intro b h1 h2 h3
  rw [hK]
  show ((lG C C') [.val (.str "BLOCK"), .val (.tup b.d)]).bind cK = _
  unfold lG
  rw [cZ (cB (c2 (x := .str "BLOCK") rfl rfl (xQ _))), cZ (cB (c2 (x := .str "BLOCK") rfl rfl (dC _ _))), cZ (cB (c2 (x := .str "BLOCK") rfl rfl (dC _ _)))]
  exact jR (a1 rfl (hb b h1 h2 h3))
end
noncomputable def bD9 : List (Str × List Str) := [("let", ["WORD", "EXPRESSION"]), ("if", ["EXPRESSION", "BLOCK", "BLOCK"]), ("while", ["EXPRESSION", "BLOCK"]), ("do", ["DEED", "PARTS"]), ("give", ["EXPRESSION"]), ("tell", ["EXPRESSION"]), ("get", ["WORD"]), ("new", ["WORD", "DEED"]), ("hand", ["WORD", "EXPRESSION"]), ("await", ["WORD", "WORD"])]
theorem cL0 (n : Nat) : ∀ p ∈ bD9, Ph (n + 3) .q0 [.str p.1] = .ok (.lst (p.2.map .str)) := by
 intro p hp
 simp only [bD9, List.mem_cons, List.not_mem_nil, or_false] at hp
 rcases hp with rfl | rfl | rfl | rfl | rfl | rfl | rfl | rfl | rfl | rfl <;> kernel_rfl
section
variable {C C' : CT} {k : Nat}
theorem cL1 (hs : ∀ p ∈ bD9, C .q0 [.str p.1] = .ok (.lst (p.2.map .str))) (hp : cK7 C k) (s : Sm) (ho : s.ok) (hz : s.u.length + 1 <= 1000000) (hh : s.h <= k) :
 cG 1 4 (vB C C') [s.d] = .ok (.lst s.u) := by
 have hS : ∀ (w : Str) (ss : List Str), (w, ss) ∈ bD9 -> C .q0 [.str w] = .ok (.lst (ss.map .str)) := fun w ss h => hs (w, ss) h
 cases s with
 | let_ x e =>
  simp only [Sm.ok] at ho
  simp only [Sm.u, List.length_cons] at hz
  rw [Sm.d, nK (w := "let") (r := [.str x, e.d]) (ss := ["WORD", "EXPRESSION"]) (us := u3 "WORD" x 0 :: e.u) (hS _ _ (by decide)) (by simp; omega) ?_ (.str x) rfl .non (fun z => by rcases z with z | z <;> cases z) 0 (fun z => by cases z)]
  ·simp only [Sm.u]; first | rfl | (rw [if_neg (by decide), if_neg (by decide), List.append_nil])
  ·exact ⟨_, _, by
    show fB 2 3 (kY C) [.tup [.str "WORD", .str x], .tup [.str "EXPRESSION", e.d]] _ = _
    rw [jG (hp.w x) (by simp), jG (hp.e e ho.2 bF) (by simp; omega), nJ]; rfl⟩
 | ife e a b =>
  simp only [Sm.ok] at ho
  simp only [Sm.h] at hh
  simp only [Sm.u, List.length_append] at hz
  rw [Sm.d, nK (w := "if") (r := [e.d, .tup a.d, .tup b.d]) (ss := ["EXPRESSION", "BLOCK", "BLOCK"]) (us := (e.u ++ a.u) ++ b.u) (hS _ _ (by decide)) (by simp only [List.length_append]; omega) ?_ e.d rfl .non (fun z => by rcases z with z | z <;> cases z) 0 (fun z => by cases z)]
  ·simp only [Sm.u]; rw [if_neg (by decide), if_neg (by decide), List.append_nil, List.append_assoc]
  ·exact ⟨_, _, by
    show fB 2 3 (kY C) [.tup [.str "EXPRESSION", e.d], .tup [.str "BLOCK", .tup a.d], .tup [.str "BLOCK", .tup b.d]] _ = _
    rw [jG (hp.e e ho.1 bF) (by simp; omega), jG (hp.b a ho.2.1 bF bF) (by simp only [List.nil_append]; omega), jG (hp.b b ho.2.2 bF bF) (by simp only [List.nil_append, List.length_append]; omega), nJ]; rfl⟩
 | whi e a =>
  simp only [Sm.ok] at ho
  simp only [Sm.h] at hh
  simp only [Sm.u, List.length_append] at hz
  rw [Sm.d, nK (w := "while") (r := [e.d, .tup a.d]) (ss := ["EXPRESSION", "BLOCK"]) (us := e.u ++ a.u) (hS _ _ (by decide)) (by simp only [List.length_append]; omega) ?_ e.d rfl .non (fun z => by rcases z with z | z <;> cases z) 0 (fun z => by cases z)]
  ·simp only [Sm.u]; rw [if_neg (by decide), if_neg (by decide), List.append_nil]
  ·exact ⟨_, _, by
    show fB 2 3 (kY C) [.tup [.str "EXPRESSION", e.d], .tup [.str "BLOCK", .tup a.d]] _ = _
    rw [jG (hp.e e ho.1 bF) (by simp; omega), jG (hp.b a ho.2 bF bF) (by simp only [List.nil_append]; omega), nJ]; rfl⟩
 | do_ x ps =>
  simp only [Sm.ok] at ho
  simp only [Sm.u, List.length_cons, List.length_append] at hz
  rw [Sm.d, nK (w := "do") (r := [.str x, .tup ps.d]) (ss := ["DEED", "PARTS"]) (us := u3 "DEED" x 0 :: ps.u) (hS _ _ (by decide)) (by simp; omega) ?_ (.str x) rfl (.tup ps.d) (fun _ => rfl) (ps.d.length : Int) (fun _ => rfl)]
  ·simp only [Sm.u]; rw [if_pos (by decide)]; rfl
  ·exact ⟨_, _, by
    show fB 2 3 (kY C) [.tup [.str "DEED", .str x], .tup [.str "PARTS", .tup ps.d]] _ = _
    rw [jG (hp.d x) (by simp), jG (hp.p ps ho.2.1 ho.2.2.2 bF) (by simp; omega), nJ]; rfl⟩
 | giv e =>
  simp only [Sm.ok] at ho
  simp only [Sm.u] at hz
  rw [Sm.d, nK (w := "give") (r := [e.d]) (ss := ["EXPRESSION"]) (us := e.u) (hS _ _ (by decide)) hz ?_ e.d rfl .non (fun z => by rcases z with z | z <;> cases z) 0 (fun z => by cases z)]
  ·simp only [Sm.u]; rw [if_neg (by decide), if_neg (by decide), List.append_nil]
  ·exact ⟨_, _, by
    show fB 2 3 (kY C) [.tup [.str "EXPRESSION", e.d]] _ = _
    rw [jG (hp.e e ho bF) (by simp; omega), nJ]; rfl⟩
 | tel e =>
  simp only [Sm.ok] at ho
  simp only [Sm.u] at hz
  rw [Sm.d, nK (w := "tell") (r := [e.d]) (ss := ["EXPRESSION"]) (us := e.u) (hS _ _ (by decide)) hz ?_ e.d rfl .non (fun z => by rcases z with z | z <;> cases z) 0 (fun z => by cases z)]
  ·simp only [Sm.u]; rw [if_neg (by decide), if_neg (by decide), List.append_nil]
  ·exact ⟨_, _, by
    show fB 2 3 (kY C) [.tup [.str "EXPRESSION", e.d]] _ = _
    rw [jG (hp.e e ho bF) (by simp; omega), nJ]; rfl⟩
 | get x =>
  rw [Sm.d, nK (w := "get") (r := [.str x]) (ss := ["WORD"]) (us := [u3 "WORD" x 0]) (hS _ _ (by decide)) (by simp) ?_ (.str x) rfl .non (fun z => by rcases z with z | z <;> cases z) 0 (fun z => by cases z)]
  ·simp only [Sm.u]; first | rfl | (rw [if_neg (by decide), if_neg (by decide), List.append_nil])
  ·exact ⟨_, _, by
    show fB 2 3 (kY C) [.tup [.str "WORD", .str x]] _ = _
    rw [jG (hp.w x) (by simp), nJ]; rfl⟩
 | new x y =>
  rw [Sm.d, nK (w := "new") (r := [.str x, .str y]) (ss := ["WORD", "DEED"]) (us := [u3 "WORD" x 0, u3 "DEED" y 0]) (hS _ _ (by decide)) (by simp) ?_ (.str x) rfl (.str y) (fun _ => rfl) 0 (fun z => by cases z)]
  ·simp only [Sm.u]; first | rfl | (rw [if_neg (by decide), if_neg (by decide), List.append_nil])
  ·exact ⟨_, _, by
    show fB 2 3 (kY C) [.tup [.str "WORD", .str x], .tup [.str "DEED", .str y]] _ = _
    rw [jG (hp.w x) (by simp), jG (hp.d y) (by simp), nJ]; rfl⟩
 | han x e =>
  simp only [Sm.ok] at ho
  simp only [Sm.u, List.length_cons] at hz
  rw [Sm.d, nK (w := "hand") (r := [.str x, e.d]) (ss := ["WORD", "EXPRESSION"]) (us := u3 "WORD" x 0 :: e.u) (hS _ _ (by decide)) (by simp; omega) ?_ (.str x) rfl .non (fun z => by rcases z with z | z <;> cases z) 0 (fun z => by cases z)]
  ·simp only [Sm.u]; first | rfl | (rw [if_neg (by decide), if_neg (by decide), List.append_nil])
  ·exact ⟨_, _, by
    show fB 2 3 (kY C) [.tup [.str "WORD", .str x], .tup [.str "EXPRESSION", e.d]] _ = _
    rw [jG (hp.w x) (by simp), jG (hp.e e ho.2 bF) (by simp; omega), nJ]; rfl⟩
 | awa x y =>
  rw [Sm.d, nK (w := "await") (r := [.str x, .str y]) (ss := ["WORD", "WORD"]) (us := [u3 "WORD" x 0, u3 "WORD" y 0]) (hS _ _ (by decide)) (by simp) ?_ (.str x) rfl .non (fun z => by rcases z with z | z <;> cases z) 0 (fun z => by cases z)]
  ·simp only [Sm.u]; first | rfl | (rw [if_neg (by decide), if_neg (by decide), List.append_nil])
  ·exact ⟨_, _, by
    show fB 2 3 (kY C) [.tup [.str "WORD", .str x], .tup [.str "WORD", .str y]] _ = _
    rw [jG (hp.w x) (by simp), jG (hp.w y) (by simp), nJ]; rfl⟩
noncomputable abbrev fF0 (C : CT) : MS := mK 1 (mA (C .q3) (aC (gv 2) (bB)))
theorem cL2 {X : Slot} (h : ∀ s : Sm, s.ok -> s.u.length + 1 <= 1000000 -> s.h <= k -> C .q3 [s.d] = .ok (.lst s.u)) : ∀ (b : Sms) (acc : List D) (s : Slot), b.ok -> acc.length + b.u.length + 1 <= 1000000 -> b.h <= k ->
 ∃ s', cU 2 (fF0 C) b.d [X, .own acc, s] = .ok (.nx [X, .own (acc ++ b.u), s'])
 | .nil, acc, s, _, _, _ => ⟨s, by simp [Sms.d, Sms.u, cU]⟩
 | .cons e r, acc, s, ho, hz, hh => by
  simp only [Sms.u, List.length_append] at hz
  simp only [Sms.h] at hh
  simp only [Sms.ok] at ho
  obtain ⟨s', q⟩ := cL2 h r (acc ++ e.u) (.val e.d) ho.2.1 (by rw [List.length_append]; omega) bF
  refine ⟨s', ?_⟩
  rw [Sms.d, mP (ρ' := [X, .own (acc ++ e.u), .val e.d]), q]
  ·simp only [Sms.u, List.append_assoc]
  ·exact bR7 (acc := acc) rfl (a1 rfl (h e ho.1 bF bF)) bF
theorem cL3 (h : ∀ s : Sm, s.ok -> s.u.length + 1 <= 1000000 -> s.h <= k -> C .q3 [s.d] = .ok (.lst s.u)) (b : Sms) (ho : b.ok) (hz : b.u.length + 1 <= 1000000) (hh : b.h <= k) :
 cG 1 3 (xF C C') [.tup b.d] = .ok (.lst b.u) := by
 obtain ⟨s', q⟩ := cL2 (X := .val (.tup b.d)) h b [] .no ho (by simpa using hz) hh
 show ((xF C C') [.val (.tup b.d), .no, .no]).bind cK = _
 unfold xF
 rw [dZ (ρ' := [.val (.tup b.d), .own [], .no]) rfl, dZ (ρ' := [.val (.tup b.d), .own b.u, s']), vG (acc := b.u) rfl]
 ·exact jR rfl
 ·rw [mO (mQ (xs := b.d) rfl)]; simpa using q
end
end Jm
end
section
namespace Jm
open PySem PySem.Spec PyProof.Rows L2 R
variable [bP]
theorem cL4 : ∀ (k n : Nat) (s : Sm), s.ok -> s.u.length + 1 <= 1000000 -> s.h <= k -> Ph (n + 3 * k + 10) .q3 [s.d] = .ok (.lst s.u)
 | 0, n, s, ho, hz, hh => cL1 (k := 0) (C := Ph (n + 9)) (C' := Ph (n + 7)) (cL0 (n + 6)) (cK9 (C := Ph (n + 8)) (C' := Ph (n + 6)) (fun e h1 h2 => bD8 2 (n + 1) e h1.1 h2 h1.2) (fun ps h1 h2 h3 => cK6 2 n ps h1 h3 h2) (fun b _ h _ => by omega) (Ph (n + 9)) fun ds => rfl) s ho hz hh
 | k + 1, n, s, ho, hz, hh => cL1 (k := k + 1) (C := Ph (n + 3 * (k + 1) + 9)) (C' := Ph (n + 3 * (k + 1) + 7)) (cL0 (n + 3 * (k + 1) + 6))
   (cK9 (C := Ph (n + 3 * (k + 1) + 8)) (C' := Ph (n + 3 * (k + 1) + 6)) (fun e h1 h2 => bD8 2 (n + 3 * (k + 1) + 1) e h1.1 h2 h1.2) (fun ps h1 h2 h3 => cK6 2 (n + 3 * (k + 1)) ps h1 h3 h2)
     (fun b h1 h2 h3 => cL3 (k := k) (C := Ph (n + 3 * k + 10)) (C' := Ph (n + 3 * k + 8)) (fun s' => cL4 k n s') b h1 h3 bF) (Ph (n + 3 * (k + 1) + 9)) fun ds => rfl) s ho hz hh
theorem fF1 (k n : Nat) (b : Sms) (ho : b.ok) (hz : b.u.length + 1 <= 1000000) (hh : b.h <= k) : Ph (n + 3 * k + 11) .q2 [.tup b.d] = .ok (.lst b.u) :=
 cL3 (k := k) (C := Ph (n + 3 * k + 10)) (C' := Ph (n + 3 * k + 8)) (fun s' => cL4 k n s') b ho hz hh
inductive Mg where
 | word | deed (n : Int)
noncomputable def Mg.s : Mg -> Str
 | .word => "WORD"
 | .deed _ => "DEED"
noncomputable def Mg.n : Mg -> Int
 | .word => 0
 | .deed n => n
noncomputable def Mg.d (m : Mg) : D := .tup [.str m.s, .int m.n]
noncomputable abbrev Gm := Str -> Option Mg
def Tq (T : R.Tab) (g : Gm) : Prop := ∀ x, fO T x = (g x).map Mg.d
noncomputable abbrev flt (w x : Str) : D := .tup [.str w, .str x]
noncomputable def fM (g : Gm) (s x : Str) (n : Int) : D := match g x with
 | none => flt "unknown" x
 | some m => if (s == "COUNT") = true then (if m.n = n then .non else flt "count" x) else if (m.s == s) = true then .non else flt "sort" x
noncomputable def fD (g : Gm) : D -> D
 | .tup [.str s, .str x, .int n] => fM g s x n
 | _ => .non
noncomputable def non? : D -> Bool
 | .non => true
 | _ => false
noncomputable def bT (a b : D) : D := if non? a = true then b else a
noncomputable def ff (g : Gm) : List D -> D
 | [] => .non
 | u :: r => bT (fD g u) (ff g r)
theorem bS0 (a b c : D) : bT (bT a b) c = bT a (bT b c) := by
 unfold bT
 by_cases h : non? a = true
 ·simp [h]
 ·simp [h]
theorem bS1 {d : D} (h : non? d = true) : d = .non := by cases d <;> first | rfl | cases h
theorem pV (g : Gm) (a b : List D) : ff g (a ++ b) = bT (ff g a) (ff g b) := by
 induction a with
 | nil => rfl
 | cons x r ih => rw [List.cons_append, ff, ff, ih, bS0]
theorem pE (d : D) : dO true d .non = .ok (.bl (!non? d)) := by cases d <;> rfl
theorem xR {i j : Nat} {f : ME} {ρ : bM} {d : D} {T : R.Tab} (h : f ρ = .ok d) (hi : ρ[i]? = some (.dic true T)) : (dQ i f ρ).bind (mM j) = .ok (d, T) := by
 unfold dQ
 rw [h]
 show bC.bind (match ρ[i]? with
  | some (.dic true T) => bC.ok (Fl.rd d T)
  | _ => bC.bad) (mM j) = _
 rw [hi]; rfl
theorem bE0 {i : Nat} {f : ME} {ρ : bM} {d : D} {T : R.Tab} (h : f ρ = .ok d) (hi : ρ[i]? = some (.dic true T)) : dQ i f ρ = .ok (.rd d T) := by
 unfold dQ
 rw [h]
 show (match ρ[i]? with
  | some (.dic true T) => bC.ok (Fl.rd d T)
  | _ => bC.bad) = _
 rw [hi]
theorem bE1 {A Z : MS} {ρ : bM} {d : D} {T : R.Tab} (h : A ρ = .ok (.rd d T)) : bD A Z ρ = .ok (.rd d T) := by
 unfold bD
 rw [h]; rfl
theorem xS {neg : Bool} {i : Nat} {f : ME} {ρ : bM} {x : Str} {T : R.Tab} {g : Gm} (h : f ρ = .ok (.str x)) (hi : kJ ρ[i]? = some T) (q : Tq T g) : jY neg i f ρ = .ok (neg != (g x).isSome) := by
 unfold jY
 rw [h]
 show bO0 neg (kJ ρ[i]?) (.str x) = _
 rw [hi]
 show bC.ok (neg != (fO T x).isSome) = _
 rw [q x]
 cases g x <;> rfl
theorem fF2 {i : Nat} {f : ME} {ρ : bM} {x : Str} {T : R.Tab} {g : Gm} {m : Mg} (h : f ρ = .ok (.str x)) (hi : kJ ρ[i]? = some T) (q : Tq T g) (hm : g x = some m) : qL i f ρ = .ok m.d := by
 unfold qL
 rw [h]
 show bO3 (kJ ρ[i]?) (.str x) = _
 rw [hi]
 show bO2 (fO T x) = _
 rw [q x, hm]; rfl
theorem ne_int (a b : Int) : nU (.int a) (.int b) = .ok (.bl (!(a == b))) := rfl
theorem ne_str (a b : Str) : nU (.str a) (.str b) = .ok (.bl (!(a == b))) := rfl
theorem cL5 {t : MT} {f g : ME} {b : Bool} {d : D} {ρ : bM} (h : t ρ = .ok b) (h1 : b = true -> f ρ = .ok d) (h2 : b = false -> g ρ = .ok d) : rP t f g ρ = .ok d := by
 unfold rP
 rw [h]
 cases b with
 | true => exact h1 rfl
 | false => exact h2 rfl
theorem fF3 (C : CT) {T : R.Tab} {g : Gm} (q : Tq T g) (s x : Str) (n : Int) : mN C [.val (u3 s x n)] T = .ok (fM g s x n, T) := by
 show ((bR0 C) [.val (u3 s x n), .dic true T, .no, .no]).bind (mM 1) = _
 unfold bR0
 rw [dY (c2 (x := u3 s x n) (y := .int 1) rfl rfl (cR 1 _ rfl))]
 show bC.bind (bD _ _ [.val (u3 s x n), .dic true T, .val (.str x), .no]) _ = _
 cases hg : g x with
 | none =>
  rw [dX (by rw [xS (x := x) (T := T) rfl rfl q, hg]; rfl), bE1 (bE0 (T := T) (d := flt "unknown" x) rfl rfl)]
  unfold fM
  rw [hg]; rfl
 | some m =>
  rw [cZ (by rw [xS (x := x) (T := T) rfl rfl q, hg]; rfl), dY (fF2 (x := x) (T := T) rfl rfl q hg)]
  show bC.bind (bD _ _ [.val (u3 s x n), .dic true T, .val (.str x), .val m.d]) _ = _
  have i0 : m2 bI (gv 0) (kc (.int 0)) [.val (u3 s x n), .dic true T, .val (.str x), .val m.d] = .ok (.str s) := c2 (x := u3 s x n) (y := .int 0) rfl rfl (cR 0 _ rfl)
  have i2 : m2 bI (gv 0) (kc (.int 2)) [.val (u3 s x n), .dic true T, .val (.str x), .val m.d] = .ok (.int n) := c2 (x := u3 s x n) (y := .int 2) rfl rfl (cR 2 _ rfl)
  have m0 : m2 bI (gv 3) (kc (.int 0)) [.val (u3 s x n), .dic true T, .val (.str x), .val m.d] = .ok (.str m.s) := c2 (x := m.d) (y := .int 0) rfl rfl (cR 0 _ rfl)
  have m1 : m2 bI (gv 3) (kc (.int 1)) [.val (u3 s x n), .dic true T, .val (.str x), .val m.d] = .ok (.int m.n) := c2 (x := m.d) (y := .int 1) rfl rfl (cR 1 _ rfl)
  unfold fM
  rw [hg]
  by_cases hc : (s == "COUNT") = true
  ·rw [dX (cB (c2 i0 rfl (by rw [dC, hc]))), bE1 (bE0 (T := T) (d := if m.n = n then .non else flt "count" x) (cL5 (cB (c2 m1 i2 (ne_int _ _))) (fun z => ?_) (fun z => ?_)) rfl)]
   ·simp only [hc, if_true]; rfl
   ·have : ¬ m.n = n := fun y => by rw [y] at z; simp at z
    rw [if_neg this]; rfl
   ·have : m.n = n := by simpa using z
    rw [if_pos this]; rfl
  ·rw [cZ (cB (c2 i0 rfl (by rw [dC]; simp only [Bool.not_eq_true] at hc; rw [hc]))), xR (T := T) (d := if (m.s == s) = true then .non else flt "sort" x) (cL5 (cB (c2 m0 i0 (ne_str _ _))) (fun z => ?_) (fun z => ?_)) rfl]
   ·simp only [hc, if_false]; rfl
   ·have : ¬ (m.s == s) = true := fun y => by rw [y] at z; simp at z
    rw [if_neg this]; rfl
   ·have : (m.s == s) = true := by simpa using z
    rw [if_pos this]; rfl
def Us (us : List D) : Prop := ∀ u ∈ us, ∃ s x n, u = u3 s x n
theorem vH {j i : Nat} {m : List Slot -> R.Tab -> bC (D × R.Tab)} {fa : kX} {ρ : bM} {p : Bool} {T T' : R.Tab} {sl : List Slot} {d : D} (hi : ρ[i]? = some (.dic p T)) (ha : fa ρ = .ok sl) (hm : m sl T = .ok (d, T')) : gN j i m fa ρ = .ok (.nx ((ρ.set i (.dic p T')).set j (.val d))) := by
 unfold gN
 rw [hi]
 show (((fa ρ).bind fun sl => m sl T).bind fun r => bC.ok (Fl.nx ((ρ.set i (.dic p r.2)).set j (.val r.1)))) = _
 rw [ha]
 show ((m sl T).bind fun r => bC.ok (Fl.nx ((ρ.set i (.dic p r.2)).set j (.val r.1)))) = _
 rw [hm]; rfl
theorem bS2 {f : ME} {ρ : bM} {d : D} (h : f ρ = .ok d) : fI f gG ρ = .ok [.val d] := by
 unfold fI
 rw [h]; rfl
theorem cL6 (C : CT) {T : R.Tab} {g : Gm} (q : Tq T g) {B : Slot} : ∀ (us : List D) (a b : Slot), Us us ->
 (non? (ff g us) = true /\ ∃ a' b', cU 2 (bD (gN 3 1 (mN C) (fI (gv 2) (gG))) (bO (mB (m2 (dO true) (gv 3) (kc .non))) (dQ 1 (gv 3)) (bW))) us [B, .dic true T, a, b] = .ok (.nx [B, .dic true T, a', b'])) \/
 (non? (ff g us) = false /\ cU 2 (bD (gN 3 1 (mN C) (fI (gv 2) (gG))) (bO (mB (m2 (dO true) (gv 3) (kc .non))) (dQ 1 (gv 3)) (bW))) us [B, .dic true T, a, b] = .ok (.rd (ff g us) T))
 | [], a, b, _ => .inl ⟨rfl, a, b, by rw [cU]⟩
 | u :: r, a, b, hu => by
  obtain ⟨s, x, n, rfl⟩ := hu u (List.mem_cons_self)
  have e1 : gN 3 1 (mN C) (fI (gv 2) (gG)) [B, .dic true T, .val (u3 s x n), b] = .ok (.nx [B, .dic true T, .val (u3 s x n), .val (fM g s x n)]) := vH (T := T) rfl (bS2 rfl) (fF3 C q s x n)
  have e2 : ff g (u3 s x n :: r) = bT (fM g s x n) (ff g r) := rfl
  by_cases hn : non? (fM g s x n) = true
  ·have e3 : ff g (u3 s x n :: r) = ff g r := by rw [e2]; unfold bT; rw [if_pos hn]
   rw [e3]
   have st : ∀ R : List D, cU 2 (bD (gN 3 1 (mN C) (fI (gv 2) (gG))) (bO (mB (m2 (dO true) (gv 3) (kc .non))) (dQ 1 (gv 3)) (bW))) (u3 s x n :: R) [B, .dic true T, a, b] =
    cU 2 (bD (gN 3 1 (mN C) (fI (gv 2) (gG))) (bO (mB (m2 (dO true) (gv 3) (kc .non))) (dQ 1 (gv 3)) (bW))) R [B, .dic true T, .val (u3 s x n), .val (fM g s x n)] := fun R => by
    refine mP ?_
    show bD _ _ [B, .dic true T, .val (u3 s x n), b] = _
    rw [dZ e1]
    unfold bO
    rw [cB (c2 (x := fM g s x n) (y := .non) rfl rfl (pE _)), hn]; rfl
   rw [st r]
   exact cL6 C q r _ _ fun u h => hu u (List.mem_cons_of_mem _ h)
  ·have hn' : non? (fM g s x n) = false := by simpa using hn
   have e3 : ff g (u3 s x n :: r) = fM g s x n := by rw [e2]; unfold bT; rw [if_neg hn]
   rw [e3]
   refine .inr ⟨hn', ?_⟩
   rw [cU]
   show ((bD _ _ [B, .dic true T, .val (u3 s x n), b]).bind _) = _
   rw [dZ e1]
   unfold bO
   rw [cB (c2 (x := fM g s x n) (y := .non) rfl rfl (pE _)), hn']
   show ((dQ 1 (gv 3) [B, .dic true T, .val (u3 s x n), .val (fM g s x n)]).bind _) = _
   rw [bE0 (T := T) rfl rfl]; rfl
theorem cL7 {C : CT} {T : R.Tab} {g : Gm} (q : Tq T g) {b : List D} {us : List D} (hb : C .q2 [.tup b] = .ok (.lst us)) (hu : Us us) : nH C [.val (.tup b)] T = .ok (ff g us, T) := by
 show ((bR1 C) [.val (.tup b), .dic true T, .no, .no]).bind (mM 1) = _
 unfold bR1
 have hf : fT 2 (cV (mA (C .q2) (aC (gv 0) (bB)))) (bD (gN 3 1 (mN C) (fI (gv 2) (gG))) (bO (mB (m2 (dO true) (gv 3) (kc .non))) (dQ 1 (gv 3)) (bW))) [.val (.tup b), .dic true T, .no, .no] = _ := mO (nI (a1 rfl hb))
 rcases cL6 C q (B := .val (.tup b)) us .no .no hu with ⟨hn, a', b', e⟩ | ⟨hn, e⟩
 ·rw [dZ (ρ' := [.val (.tup b), .dic true T, a', b']) (by rw [hf, e]), xR (T := T) (d := .non) rfl rfl, bS1 hn]
 ·rw [bE1 (d := ff g us) (T := T) (by rw [hf, e])]; rfl
end Jm
end
section
namespace Jm
open PySem PySem.Spec PyProof.Rows L2 R
variable [bP]
theorem pF {p : Str × D} {r : R.Tab} {k : Str} (e : p.1 = k) : fO (p :: r) k = some p.2 := by simp [fO, List.find?_cons, e]
theorem pG {p : Str × D} {r : R.Tab} {k : Str} (e : ¬ p.1 = k) : fO (p :: r) k = fO r k := by simp [fO, List.find?_cons, e]
theorem bS3 (k : Str) : ∀ T : R.Tab, (T.any fun p => decide (p.1 = k)) = (fO T k).isSome
 | [] => rfl
 | p :: r => by
  rw [List.any_cons]
  by_cases e : p.1 = k
  ·simp only [pF e, decide_eq_true e, Bool.true_or, Option.isSome_some]
  ·rw [pG e, decide_eq_false e, Bool.false_or]; exact bS3 k r
theorem cL8 (k j : Str) (y : D) : ∀ T : R.Tab, fO (T.map fun p => if p.1 = k then (p.1, y) else p) j = (fO T j).map fun x => if j = k then y else x
 | [] => rfl
 | p :: r => by
  have ih := cL8 k j y r
  rw [List.map_cons]
  by_cases h : p.1 = k
  ·rw [if_pos h]
   by_cases e : p.1 = j
   ·rw [pF (p := (p.1, y)) e, pF e, Option.map_some, if_pos (e.symm.trans h)]
   ·rw [pG (p := (p.1, y)) e, pG e, ih]
  ·rw [if_neg h]
   by_cases e : p.1 = j
   ·rw [pF (p := p) e, pF e, Option.map_some, if_neg (fun z => h (e.trans z))]
   ·rw [pG (p := p) e, pG e, ih]
theorem cL9 (k j : Str) (y : D) : ∀ T : R.Tab, fO T k = none -> fO (T ++ [(k, y)]) j = if j = k then some y else fO T j
 | [], _ => by
  by_cases e : k = j
  ·rw [if_pos e.symm]; exact pF (p := (k, y)) e
  ·rw [if_neg (fun z => e z.symm)]; exact pG (p := (k, y)) e
 | p :: r, hn => by
  rw [List.cons_append]
  have hk : ¬ p.1 = k := fun z => by rw [pF z] at hn; cases hn
  rw [pG hk] at hn
  have ih := cL9 k j y r hn
  by_cases e : p.1 = j
  ·rw [pF e, pF e, if_neg (fun z => hk (e.trans z))]
  ·rw [pG e, pG e, ih]
theorem fF4 (T : R.Tab) (k j : Str) (y : D) : fO (jF T k y) j = if j = k then some y else fO T j := by
 unfold jF
 by_cases a : (T.any fun p => decide (p.1 = k)) = true
 ·rw [if_pos a, cL8]
  rw [bS3] at a
  by_cases e : j = k
  ·obtain ⟨x, hx⟩ := Option.isSome_iff_exists.mp a
   rw [if_pos e, e, hx, Option.map_some, if_pos rfl]
  ·rw [if_neg e]
   cases fO T j with
   | none => rfl
   | some x => rw [Option.map_some, if_neg e]
 ·rw [if_neg a]
  refine cL9 k j y T ?_
  rw [bS3] at a
  cases q : fO T k with
  | none => rfl
  | some x => rw [q] at a; exact (a rfl).elim
theorem bS4 (T : R.Tab) (k : Str) (y : D) : (jF T k y).length <= T.length + 1 := by
 unfold jF
 split
 ·rw [List.length_map]; omega
 ·rw [List.length_append, List.length_cons, List.length_nil]; omega
noncomputable def kZ (g : Gm) (k : Str) (m : Mg) : Gm := fun x => if x = k then some m else g x
theorem Tq.put {T : R.Tab} {g : Gm} (q : Tq T g) (k : Str) (m : Mg) : Tq (jF T k m.d) (kZ g k m) := fun x => by
 rw [fF4, q x]
 unfold kZ
 by_cases e : x = k
 ·rw [if_pos e, if_pos e]; rfl
 ·rw [if_neg e, if_neg e]
theorem Tq.nil : Tq [] fun _ => none := fun x => rfl
theorem bS5 {i : Nat} {f h : ME} {ρ : bM} {p : Bool} {T : R.Tab} {k : Str} {v : D} (hf : f ρ = .ok (.str k)) (hg : h ρ = .ok v) (hi : ρ[i]? = some (.dic p T)) (hl : T.length <= 10000) : kW i f h ρ = .ok (.nx (ρ.set i (.dic p (jF T k v)))) := by
 have := line
 unfold kW
 rw [hg]
 show ((f ρ).bind fun dk => match ρ[i]? with
  | some (.dic p T) => (match dk with
   | .str k => if T.length < sizeLine then bC.ok (Fl.nx (ρ.set i (.dic p (jF T k v)))) else bC.bad
   | _ => bC.bad)
  | _ => bC.bad) = _
 rw [hf]
 show (match ρ[i]? with
  | some (.dic p T) => if T.length < sizeLine then bC.ok (Fl.nx (ρ.set i (.dic p (jF T k v)))) else bC.bad
  | _ => bC.bad) = _
 rw [hi]
 exact if_pos bF
theorem cM0 : nG = Mg.word.d := rfl
theorem fF5 {c : MT} {A B Z : MS} {ρ : bM} (h : c ρ = .ok false) : bD (bO c A B) Z ρ = bD B Z ρ := by
 simp [bD, bO, h, bC.bind, lP]
noncomputable def gw (g : Gm) : List Str -> Gm
 | [] => g
 | x :: r => gw (kZ g x .word) r
noncomputable abbrev fF6 : MS := bD (bO (jY false 1 (gv 2)) (dQ 1 (mA bR (aC (kc (.str "twice")) (aC (gv 2) (bB))))) (bW)) (kW 1 (gv 2) (kc nG))
theorem cM1 {U : Slot} : ∀ (ws : List Str) (T : R.Tab) (g : Gm) (a : Slot), Tq T g -> (∀ x ∈ ws, g x = none) -> ws.Nodup -> T.length + ws.length <= 1000 ->
 ∃ T' a', cU 2 fF6 (ws.map .str) [U, .dic true T, a] = .ok (.nx [U, .dic true T', a']) /\ Tq T' (gw g ws) /\ T'.length <= T.length + ws.length
 | [], T, g, a, q, _, _, _ => ⟨T, a, by rw [List.map_nil, cU], q, Nat.le_refl _⟩
 | x :: r, T, g, a, q, hn, hd, hl => by
  simp only [List.length_cons] at hl
  have hl' := bS4 T x Mg.word.d
  obtain ⟨T', a', h1, h2, h3⟩ := cM1 (U := U) r (jF T x Mg.word.d) (kZ g x .word) (.val (.str x)) (q.put x .word) (fun y hy => by
   unfold kZ
   rw [if_neg (fun z => by subst z; exact (List.nodup_cons.mp hd).1 hy)]
   exact hn y (List.mem_cons_of_mem _ hy)) (List.nodup_cons.mp hd).2 bF
  refine ⟨T', a', ?_, h2, by simp only [List.length_cons]; omega⟩
  rw [List.map_cons, mP (ρ' := [U, .dic true (jF T x Mg.word.d), .val (.str x)]), h1]
  show bD _ _ [U, .dic true T, .val (.str x)] = _
  rw [cZ (by rw [xS (x := x) (T := T) rfl rfl q, hn x List.mem_cons_self]; rfl)]
  exact bS5 (k := x) (T := T) rfl (by rw [cM0]; rfl) rfl bF
theorem fF7 (C : CT) {n0 tk ds bl : D} {ws : List Str} {T : R.Tab} {g : Gm} (q : Tq T g) (hn : ∀ x ∈ ws, g x = none) (hd : ws.Nodup) (hl : T.length + ws.length <= 1000) :
 ∃ T', vF C [.val (.tup [n0, tk, .tup (ws.map .str), ds, bl])] T = .ok (.non, T') /\ Tq T' (gw g ws) /\ T'.length <= T.length + ws.length := by
 obtain ⟨T', a', h1, h2, h3⟩ := cM1 (U := .val (.tup [n0, tk, .tup (ws.map .str), ds, bl])) ws T g .no q hn hd hl
 refine ⟨T', ?_, h2, h3⟩
 show ((bR4 C) [.val (.tup [n0, tk, .tup (ws.map .str), ds, bl]), .dic true T, .no]).bind (mM 1) = _
 unfold bR4
 rw [dZ (ρ' := [.val (.tup [n0, tk, .tup (ws.map .str), ds, bl]), .dic true T', a']) (by rw [mO (mQ (xs := ws.map .str) (c2 (x := .tup [n0, tk, .tup (ws.map .str), ds, bl]) (y := .int 2) rfl rfl (cR 2 _ rfl)))]; exact h1)]
 exact xR (T := T') rfl rfl
structure Dd where
 nm : Str
 ps : List Str
 os : List Str
 b : Sms
noncomputable def Dd.d (x : Dd) : D := .tup [.str x.nm, .tup (x.ps.map .str), .tup (x.os.map .str), .tup x.b.d]
noncomputable def nL (g : Gm) : List Dd -> Gm
 | [] => g
 | x :: r => nL (kZ g x.nm (.deed x.ps.length)) r
noncomputable abbrev fF8 : MS := bD (bZ 5 (m2 bI (gv 4) (kc (.int 0)))) (bD (bZ 6 (mA dJ (aC (m2 bI (gv 4) (kc (.int 1))) (bB)))) (bD (bO (jY false 3 (gv 5)) (bO (mB (m2 nU (fun _ => .bad) (gv 6))) (dQ 2 (mA bR (aC (kc (.str "count")) (aC (gv 5) (bB))))) (bW)) (bO (jY false 2 (gv 5)) (dQ 2 (mA bR (aC (kc (.str "twice")) (aC (gv 5) (bB))))) (bW))) (kW 2 (gv 5) (mA bR (aC (kc (.str "DEED")) (aC (gv 6) (bB)))))))
theorem cM2 {U V : Slot} : ∀ (ds : List Dd) (T : R.Tab) (g : Gm) (a b c : Slot), Tq T g -> (∀ x ∈ ds, g x.nm = none) -> (ds.map Dd.nm).Nodup -> T.length + ds.length <= 1000 ->
 ∃ T' a' b' c', cU 4 fF8 (ds.map Dd.d) [U, V, .dic true T, .dic false [], a, b, c] = .ok (.nx [U, V, .dic true T', .dic false [], a', b', c']) /\ Tq T' (nL g ds) /\ T'.length <= T.length + ds.length
 | [], T, g, a, b, c, q, _, _, _ => ⟨T, a, b, c, by rw [List.map_nil, cU], q, Nat.le_refl _⟩
 | x :: r, T, g, a, b, c, q, hn, hd, hl => by
  simp only [List.length_cons] at hl
  rw [List.map_cons] at hd
  have hl' := bS4 T x.nm (Mg.deed x.ps.length).d
  obtain ⟨T', a', b', c', h1, h2, h3⟩ := cM2 (U := U) (V := V) r (jF T x.nm (Mg.deed x.ps.length).d) (kZ g x.nm (.deed x.ps.length)) (.val x.d) (.val (.str x.nm)) (.val (.int x.ps.length)) (q.put x.nm _) (fun y hy => by
   unfold kZ
   rw [if_neg (fun z => (List.nodup_cons.mp hd).1 (by rw [<- z]; exact List.mem_map_of_mem hy))]
   exact hn y (List.mem_cons_of_mem _ hy)) (List.nodup_cons.mp hd).2 bF
  refine ⟨T', a', b', c', ?_, h2, by simp only [List.length_cons]; omega⟩
  rw [List.map_cons, mP (ρ' := [U, V, .dic true (jF T x.nm (Mg.deed x.ps.length).d), .dic false [], .val x.d, .val (.str x.nm), .val (.int x.ps.length)]), h1]
  show bD _ _ [U, V, .dic true T, .dic false [], .val x.d, b, c] = _
  rw [dY (c2 (x := x.d) (y := .int 0) rfl rfl (cR 0 _ rfl))]
  show bD _ _ [U, V, .dic true T, .dic false [], .val x.d, .val (.str x.nm), c] = _
  have hlen : dJ [.tup (x.ps.map .str)] = .ok (.int x.ps.length) := by
   show bC.ok (D.int ((x.ps.map D.str).length : Int)) = _
   rw [List.length_map]
  rw [dY (a1 (c2 (x := x.d) (y := .int 1) rfl rfl (cR 1 _ rfl)) hlen)]
  show bD _ _ [U, V, .dic true T, .dic false [], .val x.d, .val (.str x.nm), .val (.int x.ps.length)] = _
  rw [fF5 (by rw [xS (x := x.nm) (T := []) rfl rfl Tq.nil]; rfl), cZ (by rw [xS (x := x.nm) (T := T) rfl rfl q, hn x List.mem_cons_self]; rfl)]
  exact bS5 (k := x.nm) (T := T) rfl rfl rfl bF
theorem fF9 (C : CT) {n0 tk ws bl : D} {ds : List Dd} {T : R.Tab} {g : Gm} (q : Tq T g) (hn : ∀ x ∈ ds, g x.nm = none) (hd : (ds.map Dd.nm).Nodup) (hl : T.length + ds.length <= 1000) :
 ∃ T', vE C [.val (.tup [n0, tk, ws, .tup (ds.map Dd.d), bl]), .val .non] T = .ok (.non, T') /\ Tq T' (nL g ds) /\ T'.length <= T.length + ds.length := by
 obtain ⟨T', a', b', c', h1, h2, h3⟩ := cM2 (U := .val (.tup [n0, tk, ws, .tup (ds.map Dd.d), bl])) (V := .val .non) ds T g .no .no .no q hn hd hl
 refine ⟨T', ?_, h2, h3⟩
 show ((bR3 C) [.val (.tup [n0, tk, ws, .tup (ds.map Dd.d), bl]), .val .non, .dic true T, .no, .no, .no, .no]).bind (mM 2) = _
 unfold bR3
 rw [dZ (ρ' := [.val (.tup [n0, tk, ws, .tup (ds.map Dd.d), bl]), .val .non, .dic true T, .dic false [], .no, .no, .no]) rfl,
  dZ (ρ' := [.val (.tup [n0, tk, ws, .tup (ds.map Dd.d), bl]), .val .non, .dic true T', .dic false [], a', b', c']) (by rw [mO (mQ (xs := ds.map Dd.d) (c2 (x := .tup [n0, tk, ws, .tup (ds.map Dd.d), bl]) (y := .int 3) rfl rfl (cR 3 _ rfl)))]; exact h1),
  cZ (cB (c2 (x := .int 0) (y := .int 0) rfl rfl rfl))]
 exact xR (T := T') rfl rfl
noncomputable abbrev fG0 : MS := kW 3 (gv 4) (kc nG)
theorem cM3 {U V W Z : Slot} : ∀ (xs : List Str) (T : R.Tab) (g : Gm) (a : Slot), Tq T g -> T.length + xs.length <= 1000 ->
 ∃ T' a', cU 4 fG0 (xs.map .str) [U, V, W, .dic false T, a, Z] = .ok (.nx [U, V, W, .dic false T', a', Z]) /\ Tq T' (gw g xs)
 | [], T, g, a, q, _ => ⟨T, a, by rw [List.map_nil, cU], q⟩
 | x :: r, T, g, a, q, hl => by
  simp only [List.length_cons] at hl
  have hl' := bS4 T x Mg.word.d
  obtain ⟨T', a', h1, h2⟩ := cM3 (U := U) (V := V) (W := W) (Z := Z) r (jF T x Mg.word.d) (kZ g x .word) (.val (.str x)) (q.put x .word) bF
  refine ⟨T', a', ?_, h2⟩
  rw [List.map_cons, mP (ρ' := [U, V, W, .dic false (jF T x Mg.word.d), .val (.str x), Z]), h1]
  exact bS5 (k := x) (T := T) rfl (by rw [cM0]; rfl) rfl bF
noncomputable def fb (g : Gm) : List Dd -> D -> D
 | [], z => z
 | x :: r, z => bT (ff (gw g (x.ps ++ x.os)) x.b.u) (fb g r z)
def qW (C : CT) (b : Sms) : Prop := C .q2 [.tup b.d] = .ok (.lst b.u) /\ Us b.u
noncomputable abbrev pH (C : CT) : MS := bD (bB2 3 1) (bD (fT 4 (cV (m2 bV (m2 bI (gv 2) (kc (.int 1))) (m2 bI (gv 2) (kc (.int 2))))) (kW 3 (gv 4) (kc nG))) (bD (gN 5 3 (nH C) (fI (m2 bI (gv 2) (kc (.int 3))) (gG))) (bO (mB (m2 (dO true) (gv 5) (kc .non))) (dQ 1 (gv 5)) (bW))))
theorem cM4 {a b : List D} (h : a.length + b.length <= 1000) : bV (.tup a) (.tup b) = .ok (.tup (a ++ b)) := by
 have := line
 simp only [bV]
 exact if_pos bF
theorem fG1 {C : CT} {U : Slot} {T : R.Tab} {g : Gm} (q : Tq T g) (hT : T.length <= 900) (x : Dd) (hb : qW C x.b) (hl : x.ps.length + x.os.length <= 20) (b c d : Slot) :
 ∃ T' c', pH C [U, .dic true T, .val x.d, b, c, d] = bO (mB (m2 (dO true) (gv 5) (kc .non))) (dQ 1 (gv 5)) (bW) [U, .dic true T, .val x.d, .dic false T', c', .val (ff (gw g (x.ps ++ x.os)) x.b.u)] := by
 obtain ⟨T', c', h1, h2⟩ := cM3 (U := U) (V := .dic true T) (W := .val x.d) (Z := d) (x.ps ++ x.os) T g c q (by rw [List.length_append]; omega)
 refine ⟨T', c', ?_⟩
 have hi : cV (m2 bV (m2 bI (gv 2) (kc (.int 1))) (m2 bI (gv 2) (kc (.int 2)))) [U, .dic true T, .val x.d, .dic false T, c, d] = .ok ((x.ps ++ x.os).map .str) := by
  rw [List.map_append]
  exact mQ (c2 (x := .tup (x.ps.map .str)) (y := .tup (x.os.map .str)) (c2 (x := x.d) (y := .int 1) rfl rfl (cR 1 _ rfl)) (c2 (x := x.d) (y := .int 2) rfl rfl (cR 2 _ rfl)) (cM4 (by rw [List.length_map, List.length_map]; omega)))
 have hm : gN 5 3 (nH C) (fI (m2 bI (gv 2) (kc (.int 3))) (gG)) [U, .dic true T, .val x.d, .dic false T', c', d] = .ok (.nx [U, .dic true T, .val x.d, .dic false T', c', .val (ff (gw g (x.ps ++ x.os)) x.b.u)]) :=
  vH (T := T') rfl (bS2 (c2 (x := x.d) (y := .int 3) rfl rfl (cR 3 _ rfl))) (cL7 h2 hb.1 hb.2)
 unfold pH
 rw [dZ (ρ' := [U, .dic true T, .val x.d, .dic false T, c, d]) rfl, dZ (ρ' := [U, .dic true T, .val x.d, .dic false T', c', d]) (by rw [mO hi]; exact h1), dZ hm]
theorem cM5 {C : CT} {U : Slot} {T : R.Tab} {g : Gm} (q : Tq T g) (hT : T.length <= 900) : ∀ (ds : List Dd) (a b c d : Slot), (∀ x ∈ ds, qW C x.b /\ x.ps.length + x.os.length <= 20) ->
 (non? (fb g ds .non) = true /\ ∃ a' b' c' d', cU 2 (pH C) (ds.map Dd.d) [U, .dic true T, a, b, c, d] = .ok (.nx [U, .dic true T, a', b', c', d'])) \/
 (non? (fb g ds .non) = false /\ cU 2 (pH C) (ds.map Dd.d) [U, .dic true T, a, b, c, d] = .ok (.rd (fb g ds .non) T))
 | [], a, b, c, d, _ => .inl ⟨rfl, a, b, c, d, by rw [List.map_nil, cU]⟩
 | x :: r, a, b, c, d, hx => by
  obtain ⟨h1, h2⟩ := hx x List.mem_cons_self
  obtain ⟨T', c', e⟩ := fG1 (U := U) q hT x h1 h2 b c d
  have ed : fb g (x :: r) .non = bT (ff (gw g (x.ps ++ x.os)) x.b.u) (fb g r .non) := rfl
  by_cases hn : non? (ff (gw g (x.ps ++ x.os)) x.b.u) = true
  ·have e3 : fb g (x :: r) .non = fb g r .non := by rw [ed]; unfold bT; rw [if_pos hn]
   rw [e3]
   have st : cU 2 (pH C) ((x :: r).map Dd.d) [U, .dic true T, a, b, c, d] = cU 2 (pH C) (r.map Dd.d) [U, .dic true T, .val x.d, .dic false T', c', .val (ff (gw g (x.ps ++ x.os)) x.b.u)] := by
    rw [List.map_cons]
    refine mP ?_
    show pH C [U, .dic true T, .val x.d, b, c, d] = _
    rw [e]
    unfold bO
    rw [cB (c2 (y := .non) rfl rfl (pE _)), hn]; rfl
   rw [st]
   exact cM5 q hT r _ _ _ _ fun y hy => hx y (List.mem_cons_of_mem _ hy)
  ·have hn' : non? (ff (gw g (x.ps ++ x.os)) x.b.u) = false := by simpa using hn
   have e3 : fb g (x :: r) .non = ff (gw g (x.ps ++ x.os)) x.b.u := by rw [ed]; unfold bT; rw [if_neg hn]
   rw [e3]
   refine .inr ⟨hn', ?_⟩
   rw [List.map_cons, cU]
   show ((pH C [U, .dic true T, .val x.d, b, c, d]).bind _) = _
   rw [e]
   unfold bO
   rw [cB (c2 (y := .non) rfl rfl (pE _)), hn']
   show ((dQ 1 (gv 5) [U, .dic true T, .val x.d, .dic false T', c', .val (ff (gw g (x.ps ++ x.os)) x.b.u)]).bind _) = _
   rw [bE0 (T := T) rfl rfl]; rfl
theorem cM6 (g : Gm) (ds : List Dd) (z : D) : fb g ds z = bT (fb g ds .non) z := by
 induction ds with
 | nil => rfl
 | cons x r ih => rw [fb, fb, ih, bS0]
theorem fG2 {C : CT} {n0 tk ws : D} {ds : List Dd} {b : Sms} {T : R.Tab} {g : Gm} (q : Tq T g) (hT : T.length <= 900) (hx : ∀ x ∈ ds, qW C x.b /\ x.ps.length + x.os.length <= 20) (hb : qW C b) :
 vD C [.val (.tup [n0, tk, ws, .tup (ds.map Dd.d), .tup b.d])] T = .ok (fb g ds (ff g b.u), T) := by
 have hf : ∀ R : Slot × Slot × Slot × Slot, fT 2 (cV (m2 bI (gv 0) (kc (.int 3)))) (pH C) [.val (.tup [n0, tk, ws, .tup (ds.map Dd.d), .tup b.d]), .dic true T, .no, .no, .no, .no] = _ := fun _ => mO (mQ (xs := ds.map Dd.d) (c2 (x := .tup [n0, tk, ws, .tup (ds.map Dd.d), .tup b.d]) (y := .int 3) rfl rfl (cR 3 _ rfl)))
 have hf := hf (.no, .no, .no, .no)
 show ((bR2 C) [.val (.tup [n0, tk, ws, .tup (ds.map Dd.d), .tup b.d]), .dic true T, .no, .no, .no, .no]).bind (mM 1) = _
 unfold bR2
 rw [cM6]
 rcases cM5 (C := C) (U := .val (.tup [n0, tk, ws, .tup (ds.map Dd.d), .tup b.d])) q hT ds .no .no .no .no hx with ⟨hn, a', b', c', d', e⟩ | ⟨hn, e⟩
 ·rw [dZ (ρ' := [.val (.tup [n0, tk, ws, .tup (ds.map Dd.d), .tup b.d]), .dic true T, a', b', c', d']) (by rw [hf, e])]
  unfold bB4
  show bC.bind (((fI (m2 bI (gv 0) (kc (.int 4))) gG [.val (.tup [n0, tk, ws, .tup (ds.map Dd.d), .tup b.d]), .dic true T, a', b', c', d']).bind fun sl => nH C sl T).bind fun r => bC.ok (Fl.rd r.1 r.2)) (mM 1) = _
  rw [bS2 (c2 (x := .tup [n0, tk, ws, .tup (ds.map Dd.d), .tup b.d]) (y := .int 4) rfl rfl (cR 4 _ rfl))]
  show bC.bind ((nH C [.val (.tup b.d)] T).bind fun r => bC.ok (Fl.rd r.1 r.2)) (mM 1) = _
  rw [cL7 q hb.1 hb.2]
  unfold bT
  rw [if_pos hn]; rfl
 ·rw [bE1 (d := fb g ds .non) (T := T) (by rw [hf, e])]
  unfold bT
  rw [if_neg (by rw [hn]; decide)]; rfl
theorem fG3 (C : CT) {n0 ws ds bl : D} {T : R.Tab} : qU C [.val (.tup [n0, .tup [], ws, ds, bl]), .tab []] T = .ok (.non, T) := by
 show ((bR5 C) [.val (.tup [n0, .tup [], ws, ds, bl]), .tab [], .dic true T, .no, .no, .no]).bind (mM 2) = _
 unfold bR5
 rw [dZ (ρ' := [.val (.tup [n0, .tup [], ws, ds, bl]), .tab [], .dic true T, .no, .no, .no]) (by rw [cK2 (mQ (xs := []) (c2 (x := .tup [n0, .tup [], ws, ds, bl]) (y := .int 1) rfl rfl (cR 1 _ rfl)))]; rw [fB])]
 exact xR (T := T) rfl rfl
theorem fG4 (C : CT) : qT C [.non] = .ok [] := rfl
theorem fG5 {i : Nat} {m : List D -> bC R.Tab} {fa : MA} {ρ : bM} {ds : List D} {T : R.Tab} (ha : fa ρ = .ok ds) (hm : m ds = .ok T) : sR i m fa ρ = .ok (.nx (ρ.set i (.dic false T))) := by
 unfold sR
 rw [ha]
 show ((m ds).bind _) = _
 rw [hm]; rfl
theorem fG6 {C : CT} {n0 : D} {ws : List Str} {ds : List Dd} {b : Sms} (hw : ws.Nodup) (hn : ∀ x ∈ ds, gw (fun _ => none) ws x.nm = none) (hd : (ds.map Dd.nm).Nodup) (hl : ws.length + ds.length <= 800) (hx : ∀ x ∈ ds, qW C x.b /\ x.ps.length + x.os.length <= 20) (hb : qW C b) :
 bR6 C [.tup [n0, .tup [], .tup (ws.map .str), .tup (ds.map Dd.d), .tup b.d]] = .ok (fb (nL (gw (fun _ => none) ws) ds) ds (ff (nL (gw (fun _ => none) ws) ds) b.u)) := by
 obtain ⟨T1, w1, w2, w3⟩ := fF7 C (n0 := n0) (tk := .tup []) (ds := .tup (ds.map Dd.d)) (bl := .tup b.d) Tq.nil (fun x _ => rfl) hw (by simp only [List.length_nil]; omega)
 simp only [List.length_nil] at w3
 obtain ⟨T2, d1, d2, d3⟩ := fF9 C (n0 := n0) (tk := .tup []) (ws := .tup (ws.map .str)) (bl := .tup b.d) w2 hn hd bF
 have b1 := fG2 (C := C) (n0 := n0) (tk := .tup []) (ws := .tup (ws.map .str)) (ds := ds) (b := b) d2 bF hx hb
 show ((bD6 C) [.val (.tup [n0, .tup [], .tup (ws.map .str), .tup (ds.map Dd.d), .tup b.d]), .tab [], .val .non, .no, .no]).bind cK = _
 generalize hU : D.tup [n0, .tup [], .tup (ws.map .str), .tup (ds.map Dd.d), .tup b.d] = U at w1 d1 b1
 unfold bD6
 have t1 : qU C [.val U, .tab []] [] = .ok (.non, []) := by rw [<- hU]; exact fG3 C
 have i1 : ∀ (T : R.Tab), mB (m2 (dO false) (gv 4) (kc .non)) [.val U, .tab [], .val .non, .dic false T, .val .non] = .ok true := fun T => cB (c2 (x := .non) (y := .non) rfl rfl rfl)
 have s1 : gN 4 3 (qU C) (fI (gv 0) (bB3 1 (gG))) [.val U, .tab [], .val .non, .dic false [], .no] = .ok (.nx [.val U, .tab [], .val .non, .dic false [], .val .non]) := vH (T := []) (sl := [.val U, .tab []]) rfl rfl t1
 have s2 : gN 4 3 (vF C) (fI (gv 0) (gG)) [.val U, .tab [], .val .non, .dic false [], .val .non] = .ok (.nx [.val U, .tab [], .val .non, .dic false T1, .val .non]) := vH (T := []) (sl := [.val U]) rfl rfl w1
 have s3 : gN 4 3 (vE C) (fI (gv 0) (fI (gv 2) (gG))) [.val U, .tab [], .val .non, .dic false T1, .val .non] = .ok (.nx [.val U, .tab [], .val .non, .dic false T2, .val .non]) := vH (T := T1) (sl := [.val U, .val .non]) rfl rfl d1
 have s4 : gN 4 3 (vD C) (fI (gv 0) (gG)) [.val U, .tab [], .val .non, .dic false T2, .val .non] = .ok (.nx [.val U, .tab [], .val .non, .dic false T2, .val (fb (nL (gw (fun _ => none) ws) ds) ds (ff (nL (gw (fun _ => none) ws) ds) b.u))]) := vH (T := T2) (sl := [.val U]) rfl rfl b1
 rw [dZ (ρ' := [.val U, .tab [], .val .non, .dic false [], .no]) (fG5 (ds := [.non]) rfl (fG4 C)), dZ s1, dX (i1 _), dZ s2, dX (i1 _), dZ s3, dX (i1 _), dZ s4]
 exact jR rfl
end Jm
end
section
namespace Jm
open PySem PySem.Spec PyProof.Rows L2 R
variable [bP]
noncomputable abbrev dW (ws : List Str) : D := .lst (ws.map .str)
noncomputable abbrev dP (p : Str × Int) : D := .tup [.str p.1, .int p.2]
noncomputable abbrev bJ (ds : List (Str × Int)) : D := .lst (ds.map dP)
noncomputable def gE (ws : List Str) (ds : List (Str × Int)) : Gm := fun x => if x ∈ ws then some .word else (ds.find? fun p => decide (p.1 = x)).map fun p => .deed p.2
theorem bE2 : ∀ ws : List Str, depL (ws.map D.str) = 0
 | [] => by simp [depL]
 | x :: r => by simp [depL, gF, bE2 r]
theorem bS6 (x : Str) : ∀ ws : List Str, mZ (.str x) (ws.map .str) = decide (x ∈ ws)
 | [] => by simp [mZ]
 | w :: r => by
  have ih := bS6 x r
  unfold mZ at ih ⊢
  rw [List.map_cons, List.any_cons, ih, fH]
  by_cases e : w = x
  ·subst e; simp
  ·have e' : ¬ x = w := fun z => e z.symm
   simp [e, e']
theorem bE3 (x : Str) (ws : List Str) : fX false (.str x) (dW ws) = .ok (.bl (decide (x ∈ ws))) := by
 simp only [fX]
 rw [if_pos (by rw [bE2]; omega), bS6]; rfl
theorem bS7 {x : Str} {f : ME} {o : Str × Int -> D} (hf : ∀ p : Str × Int, f [.val (.str p.1), .val (.int p.2), .val (.str x)] = .ok (o p)) : ∀ ds : List (Str × Int),
 dL (dB (mB (m2 cP (gv 0) (gv 2)))) (dB f) [.val (.str x)] (ds.map dP) = .ok ((ds.filter fun p => decide (p.1 = x)).map o)
 | [] => rfl
 | p :: r => by
  have ih := bS7 hf r
  rw [List.map_cons, dL]
  have e1 : dB (mB (m2 cP (gv 0) (gv 2))) [.val (dP p), .val (.str x)] = .ok (p.1 == x) := cB (c2 (x := .str p.1) (y := .str x) (ρ := [.val (.str p.1), .val (.int p.2), .val (.str x)]) rfl rfl (dC _ _))
  have e2 : dB f [.val (dP p), .val (.str x)] = .ok (o p) := hf p
  show ((dB (mB (m2 cP (gv 0) (gv 2))) [.val (dP p), .val (.str x)]).bind _) = _
  rw [e1]
  show (if (p.1 == x) = true then (dB f [.val (dP p), .val (.str x)]).bind _ else _) = _
  rw [e2, ih, List.filter_cons]
  by_cases e : p.1 = x
  ·rw [if_pos (by simp [e]), if_pos (by simp [e])]; rfl
  ·rw [if_neg (by simp [e]), if_neg (by simp [e])]
theorem kC {js : List Nat} {fl : ML} {p : MT} {h : ME} {ρ : bM} {xs ys : List D} (h1 : fl ρ = .ok xs) (hl : xs.length <= 1000000) (h2 : dL p h (gI js ρ) xs = .ok ys) : dU js fl p h ρ = .ok (.lst ys) := by
 have := line
 unfold dU
 rw [h1]
 show (if xs.length <= sizeLine then (dL p h (gI js ρ) xs).bind fun ys => bC.ok (D.lst ys) else bC.bad) = _
 rw [if_pos bF, h2]; rfl
theorem cM7 {l : List D} (hd : depL l <= 50) : cP (.lst l) (.lst []) = .ok (.bl l.isEmpty) := by
 unfold cP
 rw [if_pos (by simp only [gF]; omega)]
 cases l <;> rfl
theorem bS8 (x : Str) : ∀ ds : List (Str × Int), (ds.find? fun p => decide (p.1 = x)) = (ds.filter fun p => decide (p.1 = x)).head?
 | [] => rfl
 | p :: r => by
  have ih := bS8 x r
  rw [List.find?_cons, List.filter_cons]
  show (match decide (p.1 = x) with | true => some p | false => r.find? fun p => decide (p.1 = x)) = (if decide (p.1 = x) = true then p :: r.filter (fun p => decide (p.1 = x)) else r.filter fun p => decide (p.1 = x)).head?
  by_cases e : p.1 = x
  ·rw [decide_eq_true e]; rfl
  ·rw [decide_eq_false e]; exact ih
theorem ixL {xs : List D} (i : Nat) (x : D) (h : xs[i]? = some x) : bI (.lst xs) (.int (i : Int)) = .ok x := by
 have e : gC xs (i : Int) = some x := vT h
 simp only [bI, e]
theorem lH (a : D) : bT a .non = a := by
 unfold bT
 by_cases h : non? a = true
 ·rw [if_pos h, bS1 h]
 ·rw [if_neg h]
section
variable (C C' : CT) {ws : List Str} {ds : List (Str × Int)} (hl : ds.length <= 1000)
include hl
theorem fG7 (x : Str) : cG 3 3 (xL C C') [.str x, dW ws, bJ ds] = .ok (fM (gE ws ds) "WORD" x 0) := by
 show ((xL C C') [.val (.str x), .val (dW ws), .val (bJ ds)]).bind cK = _
 unfold xL
 by_cases hx : x ∈ ws
 ·rw [dX (cB (c2 (x := .str x) (y := dW ws) rfl rfl (by rw [bE3, decide_eq_true hx])))]
  have : fM (gE ws ds) "WORD" x 0 = .non := by
   unfold fM gE
   rw [if_pos hx]; rfl
  rw [this]
  exact gH rfl
 ·rw [cZ (cB (c2 (x := .str x) (y := dW ws) rfl rfl (by rw [bE3, decide_eq_false hx])))]
  have hc : dU [0] (cV (gv 2)) (dB (mB (m2 cP (gv 0) (gv 2)))) (dB (gv 0)) [.val (.str x), .val (dW ws), .val (bJ ds)] = .ok (.lst ((ds.filter fun p => decide (p.1 = x)).map fun p => .str p.1)) :=
   kC (nI (xs := ds.map dP) rfl) (by rw [List.length_map]; omega) (bS7 (fun p => rfl) ds)
  have hd : depL ((ds.filter fun p => decide (p.1 = x)).map fun p => D.str p.1) <= 50 := by
   have := bE2 ((ds.filter fun p => decide (p.1 = x)).map (·.1))
   rw [List.map_map] at this
   have e : (D.str ∘ fun p : Str × Int => p.1) = fun p => D.str p.1 := rfl
   rw [e] at this
   omega
  have he := cM7 hd
  have hg : gE ws ds x = ((ds.filter fun p => decide (p.1 = x)).head?).map fun p => .deed p.2 := by
   unfold gE
   rw [if_neg hx, bS8]
  unfold fM
  rw [hg]
  cases hf : ds.filter fun p => decide (p.1 = x) with
  | nil =>
   rw [hf] at hc he
   rw [dX (cB (c2 hc rfl he))]
   exact gH rfl
  | cons p r =>
   rw [hf] at hc he
   rw [cZ (cB (c2 hc rfl he))]
   exact jR rfl
noncomputable abbrev xT (C : CT) : MS := bD (bZ 6 (mA (C .q19) (aC (gv 5) (aC (gv 2) (aC (gv 3) (bB)))))) (bO (mB (m2 (dO true) (gv 6) (kc .non))) (bX (gv 6)) (bW))
omit hl in
theorem cM8 {C : CT} {k : Nat} {X1 X2 X3 : Slot} (h : ∀ e : Ee, e.ok -> e.h <= k -> C .q19 [e.d, dW ws, bJ ds] = .ok (ff (gE ws ds) e.u)) : ∀ (ps : Es) (a b : Slot), ps.ok -> ps.h <= k ->
 (non? (ff (gE ws ds) ps.u) = true /\ ∃ a' b', cU 5 (xT C) ps.d [X1, X2, .val (dW ws), .val (bJ ds), X3, a, b] = .ok (.nx [X1, X2, .val (dW ws), .val (bJ ds), X3, a', b'])) \/
 (non? (ff (gE ws ds) ps.u) = false /\ cU 5 (xT C) ps.d [X1, X2, .val (dW ws), .val (bJ ds), X3, a, b] = .ok (.rt (ff (gE ws ds) ps.u)))
 | .nil, a, b, _, _ => .inl ⟨rfl, a, b, by simp [Es.d, cU]⟩
 | .cons e r, a, b, ho, hh => by
  simp only [Es.ok] at ho
  simp only [Es.h] at hh
  have he := h e ho.1 bF
  have eu : ff (gE ws ds) (Es.cons e r).u = bT (ff (gE ws ds) e.u) (ff (gE ws ds) r.u) := by rw [Es.u, pV]
  have e1 : mA (C .q19) (aC (gv 5) (aC (gv 2) (aC (gv 3) (bB)))) [X1, X2, .val (dW ws), .val (bJ ds), X3, .val e.d, b] = .ok (ff (gE ws ds) e.u) := a3 rfl rfl rfl he
  by_cases hn : non? (ff (gE ws ds) e.u) = true
  ·have e3 : ff (gE ws ds) (Es.cons e r).u = ff (gE ws ds) r.u := by rw [eu]; unfold bT; rw [if_pos hn]
   rw [e3]
   have st : cU 5 (xT C) (Es.cons e r).d [X1, X2, .val (dW ws), .val (bJ ds), X3, a, b] = cU 5 (xT C) r.d [X1, X2, .val (dW ws), .val (bJ ds), X3, .val e.d, .val (ff (gE ws ds) e.u)] := by
    rw [Es.d]
    refine mP ?_
    show bD _ _ [X1, X2, .val (dW ws), .val (bJ ds), X3, .val e.d, b] = _
    rw [dY e1]
    unfold bO
    show ((mB (m2 (dO true) (gv 6) (kc .non)) [X1, X2, .val (dW ws), .val (bJ ds), X3, .val e.d, .val (ff (gE ws ds) e.u)]).bind _) = _
    rw [cB (c2 (x := ff (gE ws ds) e.u) (y := .non) rfl rfl (pE _)), hn]; rfl
   rw [st]
   exact cM8 h r _ _ ho.2 bF
  ·have hn' : non? (ff (gE ws ds) e.u) = false := by simpa using hn
   have e3 : ff (gE ws ds) (Es.cons e r).u = ff (gE ws ds) e.u := by rw [eu]; unfold bT; rw [if_neg hn]
   rw [e3]
   refine .inr ⟨hn', ?_⟩
   rw [Es.d, cU]
   show ((bD _ _ [X1, X2, .val (dW ws), .val (bJ ds), X3, .val e.d, b]).bind _) = _
   rw [dY e1]
   unfold bO
   show (((mB (m2 (dO true) (gv 6) (kc .non)) [X1, X2, .val (dW ws), .val (bJ ds), X3, .val e.d, .val (ff (gE ws ds) e.u)]).bind _).bind _) = _
   rw [cB (c2 (x := ff (gE ws ds) e.u) (y := .non) rfl rfl (pE _)), hn']; rfl
theorem cM9 {C : CT} {k : Nat} (h : ∀ e : Ee, e.ok -> e.h <= k -> C .q19 [e.d, dW ws, bJ ds] = .ok (ff (gE ws ds) e.u)) (x : Str) (ps : Es) (ho : ps.ok) (hh : ps.h <= k) :
 cG 4 7 (xM C C') [.str x, .tup ps.d, dW ws, bJ ds] = .ok (bT (fM (gE ws ds) "DEED" x 0) (bT (ff (gE ws ds) ps.u) (fM (gE ws ds) "COUNT" x ps.d.length))) := by
 show ((xM C C') [.val (.str x), .val (.tup ps.d), .val (dW ws), .val (bJ ds), .no, .no, .no]).bind cK = _
 unfold xM gX
 have hc : dU [0] (cV (gv 3)) (dB (mB (m2 cP (gv 0) (gv 2)))) (dB (gv 1)) [.val (.str x), .val (.tup ps.d), .val (dW ws), .val (bJ ds), .no, .no, .no] = .ok (.lst ((ds.filter fun p => decide (p.1 = x)).map fun p => .int p.2)) :=
  kC (nI (xs := ds.map dP) rfl) (by rw [List.length_map]; omega) (bS7 (fun p => rfl) ds)
 rw [dY hc]
 show bC.bind (bD _ _ [.val (.str x), .val (.tup ps.d), .val (dW ws), .val (bJ ds), .val (.lst ((ds.filter fun p => decide (p.1 = x)).map fun p => .int p.2)), .no, .no]) cK = _
 by_cases hx : x ∈ ws
 ·rw [dX (cB (c2 (x := .str x) (y := dW ws) rfl rfl (by rw [bE3, decide_eq_true hx])))]
  have : fM (gE ws ds) "DEED" x 0 = flt "sort" x := by
   unfold fM gE
   rw [if_pos hx]; rfl
  rw [this]
  exact gH rfl
 ·rw [cZ (cB (c2 (x := .str x) (y := dW ws) rfl rfl (by rw [bE3, decide_eq_false hx])))]
  have hg : gE ws ds x = ((ds.filter fun p => decide (p.1 = x)).head?).map fun p => .deed p.2 := by
   unfold gE
   rw [if_neg hx, bS8]
  have hdi : ∀ l : List (Str × Int), depL (l.map fun p => D.int p.2) = 0 := fun l => by
   induction l with
   | nil => simp [depL]
   | cons p r ih => simp [depL, gF, ih]
  have he := cM7 (l := (ds.filter fun p => decide (p.1 = x)).map fun p => D.int p.2) (by rw [hdi]; omega)
  unfold fM
  rw [hg]
  cases hf : ds.filter fun p => decide (p.1 = x) with
  | nil =>
   rw [hf] at he
   rw [dX (cB (c2 (x := .lst []) (y := .lst []) rfl rfl he))]
   exact gH rfl
  | cons p r =>
   rw [hf] at he
   rw [cZ (cB (c2 (x := .lst ((p :: r).map fun p => .int p.2)) (y := .lst []) rfl rfl he))]
   show _ = bC.ok (bT .non (bT (ff (gE ws ds) ps.u) (if p.2 = (ps.d.length : Int) then .non else flt "count" x)))
   have hf : fT 5 (cV (gv 1)) (xT C) [.val (.str x), .val (.tup ps.d), .val (dW ws), .val (bJ ds), .val (.lst ((p :: r).map fun p => .int p.2)), .no, .no] = _ := mO (mQ (xs := ps.d) rfl)
   rcases cM8 (X1 := .val (.str x)) (X2 := .val (.tup ps.d)) (X3 := .val (.lst ((p :: r).map fun p => .int p.2))) h ps .no .no ho hh with ⟨hn, a', b', e⟩ | ⟨hn, e⟩
   ·rw [dZ (ρ' := [.val (.str x), .val (.tup ps.d), .val (dW ws), .val (bJ ds), .val (.lst ((p :: r).map fun p => .int p.2)), a', b']) (by rw [hf, e])]
    have e2 : bT .non (bT (ff (gE ws ds) ps.u) (if p.2 = (ps.d.length : Int) then .non else flt "count" x)) = (if p.2 = (ps.d.length : Int) then .non else flt "count" x) := by
     show bT (ff (gE ws ds) ps.u) _ = _
     unfold bT
     rw [if_pos hn]
    rw [e2]
    have i0 : m2 bI (gv 4) (kc (.int 0)) [.val (.str x), .val (.tup ps.d), .val (dW ws), .val (bJ ds), .val (.lst ((p :: r).map fun p => .int p.2)), a', b'] = .ok (.int p.2) := c2 (x := .lst ((p :: r).map fun p => .int p.2)) (y := .int 0) rfl rfl (ixL 0 _ rfl)
    have il : mA dJ (aC (gv 1) (bB)) [.val (.str x), .val (.tup ps.d), .val (dW ws), .val (bJ ds), .val (.lst ((p :: r).map fun p => .int p.2)), a', b'] = .ok (.int (ps.d.length : Int)) := rfl
    by_cases hp : p.2 = (ps.d.length : Int)
    ·rw [cZ (cB (c2 i0 il (by rw [ne_int, hp]; simp))), if_pos hp]
     exact jR rfl
    ·rw [dX (cB (c2 i0 il (by rw [ne_int]; simp [hp]))), if_neg hp]
     exact gH rfl
   ·rw [cK1 (d := ff (gE ws ds) ps.u) (by rw [hf, e])]
    show _ = bC.ok (bT (ff (gE ws ds) ps.u) _)
    unfold bT
    rw [if_neg (by rw [hn]; decide)]
end
noncomputable def gT : List D -> D
 | [] => .non
 | d :: r => bT d (gT r)
theorem cN0 {X : Slot} : ∀ (xs : List D) (a : Slot), (non? (gT xs) = true /\ ∃ a', cU 1 (bO (mB (m2 (dO true) (gv 1) (kc .non))) (bX (gv 1)) (bW)) xs [X, a] = .ok (.nx [X, a'])) \/
 (non? (gT xs) = false /\ cU 1 (bO (mB (m2 (dO true) (gv 1) (kc .non))) (bX (gv 1)) (bW)) xs [X, a] = .ok (.rt (gT xs)))
 | [], a => .inl ⟨rfl, a, by rw [cU]⟩
 | d :: r, a => by
  have eu : gT (d :: r) = bT d (gT r) := rfl
  by_cases hn : non? d = true
  ·have e3 : gT (d :: r) = gT r := by rw [eu]; unfold bT; rw [if_pos hn]
   rw [e3, mP (ρ' := [X, .val d])]
   ·exact cN0 r _
   ·unfold bO
    show ((mB (m2 (dO true) (gv 1) (kc .non)) [X, .val d]).bind _) = _
    rw [cB (c2 (x := d) (y := .non) rfl rfl (pE _)), hn]; rfl
  ·have hn' : non? d = false := by simpa using hn
   have e3 : gT (d :: r) = d := by rw [eu]; unfold bT; rw [if_neg hn]
   rw [e3, cU]
   refine .inr ⟨hn', ?_⟩
   unfold bO
   show (((mB (m2 (dO true) (gv 1) (kc .non)) [X, .val d]).bind _).bind _) = _
   rw [cB (c2 (x := d) (y := .non) rfl rfl (pE _)), hn']; rfl
theorem vI (n : Nat) (xs : List D) : Ph (n + 3) .q20 [.lst xs] = .ok (gT xs) := by
 show ((bD2 (Ph (n + 2)) (Ph n)) [.val (.lst xs), .no]).bind cK = _
 unfold bD2
 have hf : fT 1 (cV (gv 0)) (bO (mB (m2 (dO true) (gv 1) (kc .non))) (bX (gv 1)) (bW)) [.val (.lst xs), .no] = _ := mO (nI (xs := xs) rfl)
 rcases cN0 (X := .val (.lst xs)) xs .no with ⟨hn, a', e⟩ | ⟨hn, e⟩
 ·rw [dZ (ρ' := [.val (.lst xs), a']) (by rw [hf, e]), bS1 hn]
  exact jR rfl
 ·rw [cK1 (d := gT xs) (by rw [hf, e])]
section
variable {ws : List Str} {ds : List (Str × Int)} (hl : ds.length <= 1000)
include hl
theorem cN1 {C C' : CT} {k : Nat} (hw : ∀ x : Str, C .q17 [.str x, dW ws, bJ ds] = .ok (fM (gE ws ds) "WORD" x 0)) (hc : ∀ (x : Str) (ps : Es), ps.ok -> ps.h < k -> C .q18 [.str x, .tup ps.d, dW ws, bJ ds] = .ok (bT (fM (gE ws ds) "DEED" x 0) (bT (ff (gE ws ds) ps.u) (fM (gE ws ds) "COUNT" x ps.d.length))))
 (he : ∀ e : Ee, e.ok -> e.h < k -> C .q19 [e.d, dW ws, bJ ds] = .ok (ff (gE ws ds) e.u)) (h1 : ∀ xs : List D, C .q20 [.lst xs] = .ok (gT xs)) (e : Ee) (ho : e.ok) (hh : e.h <= k) :
 cG 3 3 (xN C C') [e.d, dW ws, bJ ds] = .ok (ff (gE ws ds) e.u) := by
 show ((xN C C') [.val e.d, .val (dW ws), .val (bJ ds)]).bind cK = _
 unfold xN
 cases e with
 | num i =>
  rw [Ee.d, dX (cB (c2 (x := .str "number") (c2 (x := .tup [.str "number", .int i]) (y := .int 0) rfl rfl (cR 0 _ rfl)) rfl (dC _ _)))]
  exact gH rfl
 | nam x =>
  have i0 : m2 bI (gv 0) (kc (.int 0)) [.val (.tup [.str "name", .str x]), .val (dW ws), .val (bJ ds)] = .ok (.str "name") := c2 (x := .tup [.str "name", .str x]) (y := .int 0) rfl rfl (cR 0 _ rfl)
  rw [Ee.d, cZ (cB (c2 i0 rfl (dC _ _))), dX (cB (c2 i0 rfl (dC _ _)))]
  have e2 : ff (gE ws ds) (Ee.nam x).u = fM (gE ws ds) "WORD" x 0 := by
   rw [Ee.u]; exact lH _
  rw [e2]
  exact gH (a3 (c2 (x := .tup [.str "name", .str x]) (y := .int 1) rfl rfl (cR 1 _ rfl)) rfl rfl (hw x))
 | cal x ps =>
  simp only [Ee.ok] at ho
  simp only [Ee.h] at hh
  have i0 : m2 bI (gv 0) (kc (.int 0)) [.val (.tup [.str "call", .str x, .tup ps.d]), .val (dW ws), .val (bJ ds)] = .ok (.str "call") := c2 (x := .tup [.str "call", .str x, .tup ps.d]) (y := .int 0) rfl rfl (cR 0 _ rfl)
  rw [Ee.d, cZ (cB (c2 i0 rfl (dC _ _))), cZ (cB (c2 i0 rfl (dC _ _))), dX (cB (c2 i0 rfl (dC _ _)))]
  have e2 : ff (gE ws ds) (Ee.cal x ps).u = bT (fM (gE ws ds) "DEED" x 0) (bT (ff (gE ws ds) ps.u) (fM (gE ws ds) "COUNT" x ps.d.length)) := by
   rw [Ee.u, ff, pV]
   show bT (fM (gE ws ds) "DEED" x 0) (bT (ff (gE ws ds) ps.u) (bT (fM (gE ws ds) "COUNT" x ps.d.length) .non)) = _
   rw [lH]
  rw [e2]
  exact gH (a4 (c2 (x := .tup [.str "call", .str x, .tup ps.d]) (y := .int 1) rfl rfl (cR 1 _ rfl)) (c2 (x := .tup [.str "call", .str x, .tup ps.d]) (y := .int 2) rfl rfl (cR 2 _ rfl)) rfl rfl (hc x ps ho.2.1 bF))
 | bin s a b =>
  simp only [Ee.ok] at ho
  simp only [Ee.h] at hh
  have i0 : m2 bI (gv 0) (kc (.int 0)) [.val (.tup [.str s, a.d, b.d]), .val (dW ws), .val (bJ ds)] = .ok (.str s) := c2 (x := .tup [.str s, a.d, b.d]) (y := .int 0) rfl rfl (cR 0 _ rfl)
  rw [Ee.d, cZ (cB (c2 i0 rfl (by rw [dC, ho.1]))), cZ (cB (c2 i0 rfl (by rw [dC, ho.2.1]))), cZ (cB (c2 i0 rfl (by rw [dC, ho.2.2.1])))]
  have ea := he a ho.2.2.2.2.1 bF
  have eb := he b ho.2.2.2.2.2 bF
  have hk : dU [1, 2] (cV (hR (gv 0) (hJ (kc (.int 1))) (hG))) (fun _ => .ok true) (mA (C .q19) (aC (gv 0) (aC (gv 1) (aC (gv 2) (bB))))) [.val (.tup [.str s, a.d, b.d]), .val (dW ws), .val (bJ ds)] = .ok (.lst [ff (gE ws ds) a.u, ff (gE ws ds) b.u]) := by
   refine kC (mQ (bR9 (a := .str s) (r := [a.d, b.d]) rfl)) (by simp) ?_
   have q1 : mA (C .q19) (aC (gv 0) (aC (gv 1) (aC (gv 2) (bB)))) [.val a.d, .val (dW ws), .val (bJ ds)] = .ok (ff (gE ws ds) a.u) := a3 rfl rfl rfl ea
   have q2 : mA (C .q19) (aC (gv 0) (aC (gv 1) (aC (gv 2) (bB)))) [.val b.d, .val (dW ws), .val (bJ ds)] = .ok (ff (gE ws ds) b.u) := a3 rfl rfl rfl eb
   show ((mA (C .q19) (aC (gv 0) (aC (gv 1) (aC (gv 2) (bB)))) [.val a.d, .val (dW ws), .val (bJ ds)]).bind fun y => (((mA (C .q19) (aC (gv 0) (aC (gv 1) (aC (gv 2) (bB)))) [.val b.d, .val (dW ws), .val (bJ ds)]).bind fun y => (bC.ok []).bind fun ys => bC.ok (y :: ys)).bind fun ys => bC.ok (y :: ys))) = _
   rw [q1, q2]; rfl
  have e2 : ff (gE ws ds) (Ee.bin s a b).u = gT [ff (gE ws ds) a.u, ff (gE ws ds) b.u] := by
   rw [Ee.u, pV]
   show _ = bT _ (bT _ .non)
   rw [lH]
  rw [e2]
  exact jR (a1 hk (h1 _))
theorem bT0 (n : Nat) (x : Str) : Ph (n + 3) .q17 [.str x, dW ws, bJ ds] = .ok (fM (gE ws ds) "WORD" x 0) := fG7 (Ph (n + 2)) (Ph n) hl x
theorem bE4 : ∀ (k n : Nat) (e : Ee), e.ok -> e.h <= k -> Ph (n + 2 * k + 4) .q19 [e.d, dW ws, bJ ds] = .ok (ff (gE ws ds) e.u)
 | 0, n, e, ho, hh => cN1 (k := 0) (C := Ph (n + 3)) (C' := Ph (n + 1)) hl (bT0 hl n) (fun _ _ _ h => by omega) (fun _ _ h => by omega) (vI n) e ho hh
 | k + 1, n, e, ho, hh => cN1 (k := k + 1) (C := Ph (n + 2 * (k + 1) + 3)) (C' := Ph (n + 2 * (k + 1) + 1)) hl (bT0 hl (n + 2 * (k + 1))) (fun x ps h1 h2 => cM9 (k := k) (C := Ph (n + 2 * k + 4)) (Ph (n + 2 * k + 2)) hl (fun e' => bE4 k n e') x ps h1 bF) (fun e' h1 h2 => by have z := bE4 k (n + 1) e' h1 bF; rw [show n + 1 + 2 * k + 4 = n + 2 * (k + 1) + 3 by omega] at z; exact z) (vI (n + 2 * (k + 1))) e ho hh
theorem fG8 (k n : Nat) (x : Str) (ps : Es) (ho : ps.ok) (hh : ps.h <= k) : Ph (n + 2 * k + 5) .q18 [.str x, .tup ps.d, dW ws, bJ ds] = .ok (bT (fM (gE ws ds) "DEED" x 0) (bT (ff (gE ws ds) ps.u) (fM (gE ws ds) "COUNT" x ps.d.length))) :=
 cM9 (k := k) (C := Ph (n + 2 * k + 4)) (Ph (n + 2 * k + 2)) hl (fun e' => bE4 hl k n e') x ps ho hh
end
end Jm
end
section
namespace Jm
open PySem PySem.Spec PyProof.Rows L2 R
variable [bP]
section
variable {ws : List Str} {ds : List (Str × Int)}
structure bT1 (C : CT) (ws : List Str) (ds : List (Str × Int)) (k : Nat) : Prop where
 w : ∀ x : Str, C .q17 [.str x, dW ws, bJ ds] = .ok (fM (gE ws ds) "WORD" x 0)
 c : ∀ (x : Str) (ps : Es), ps.ok -> ps.h <= 2 -> C .q18 [.str x, .tup ps.d, dW ws, bJ ds] = .ok (bT (fM (gE ws ds) "DEED" x 0) (bT (ff (gE ws ds) ps.u) (fM (gE ws ds) "COUNT" x ps.d.length)))
 e : ∀ e : Ee, e.fit -> C .q19 [e.d, dW ws, bJ ds] = .ok (ff (gE ws ds) e.u)
 f : ∀ xs : List D, C .q20 [.lst xs] = .ok (gT xs)
theorem lnew {C C' : CT} {k : Nat} (L : bT1 C ws ds k) (x y : Str) : cG 3 4 (xO C C') [.tup [.str "new", .str x, .str y], dW ws, bJ ds] = .ok (ff (gE ws ds) (Sm.new x y).u) := by
 show ((xO C C') [.val (.tup [.str "new", .str x, .str y]), .val (dW ws), .val (bJ ds), .no]).bind cK = _
 unfold xO
 have hc := L.c y .nil trivial (Nat.zero_le _)
 rw [dY (a4 (c2 (x := .tup [.str "new", .str x, .str y]) (y := .int 2) rfl rfl (cR 2 _ rfl)) rfl rfl rfl hc)]
 have e2 : ff (gE ws ds) (Sm.new x y).u = gT [fM (gE ws ds) "WORD" x 0, bT (fM (gE ws ds) "DEED" y 0) (bT (ff (gE ws ds) Es.nil.u) (fM (gE ws ds) "COUNT" y Es.nil.d.length))] := by
  rw [Sm.u]
  show bT (fM (gE ws ds) "WORD" x 0) (bT (fM (gE ws ds) "DEED" y 0) (bT (fM (gE ws ds) "COUNT" y 0) .non)) = bT _ (bT (bT (fM (gE ws ds) "DEED" y 0) (bT .non (fM (gE ws ds) "COUNT" y 0))) .non)
  rw [lH, lH]; rfl
 rw [e2]
 refine jR (a1 (x := .lst [fM (gE ws ds) "WORD" x 0, bT (fM (gE ws ds) "DEED" y 0) (bT (ff (gE ws ds) Es.nil.u) (fM (gE ws ds) "COUNT" y Es.nil.d.length))]) (a2 (a3 (c2 (x := .tup [.str "new", .str x, .str y]) (y := .int 1) rfl rfl (cR 1 _ rfl)) rfl rfl (L.w x)) rfl rfl) (L.f _))
theorem g2 (a b : Str) (ρ : bM) : mA bR (aC (kc (.str a)) (aC (kc (.str b)) (bB))) ρ = .ok (.tup [.str a, .str b]) := rfl
theorem fG9 {C : CT} {xs : List D} {f : D -> D} (hl : xs.length <= 1000) (h : ∀ x ∈ xs, mA (C .q23) (aC (gv 0) (aC (gv 1) (aC (gv 2) (bB)))) [.val x, .val (dW ws), .val (bJ ds)] = .ok (f x)) :
 dL (fun _ => .ok true) (mA (C .q23) (aC (gv 0) (aC (gv 1) (aC (gv 2) (bB))))) [.val (dW ws), .val (bJ ds)] xs = .ok (xs.map f) := by
 induction xs with
 | nil => rfl
 | cons x r ih =>
  rw [dL]
  show ((mA (C .q23) (aC (gv 0) (aC (gv 1) (aC (gv 2) (bB)))) [.val x, .val (dW ws), .val (bJ ds)]).bind _) = _
  rw [h x List.mem_cons_self, ih (by simp only [List.length_cons] at hl; omega) fun y hy => h y (List.mem_cons_of_mem _ hy)]; rfl
theorem cN2 {C C' : CT} {k : Nat} (L : bT1 C ws ds k) (hn : ∀ x y : Str, C .q21 [.tup [.str "new", .str x, .str y], dW ws, bJ ds] = .ok (ff (gE ws ds) (Sm.new x y).u))
 (hb : ∀ b : Sms, b.ok -> b.h < k -> C .q23 [.tup b.d, dW ws, bJ ds] = .ok (ff (gE ws ds) b.u)) (s : Sm) (ho : s.ok) (hh : s.h <= k) :
 cG 3 6 (lU C C') [s.d, dW ws, bJ ds] = .ok (ff (gE ws ds) s.u) := by
 show ((lU C C') [.val s.d, .val (dW ws), .val (bJ ds), .no, .no, .no]).bind cK = _
 have blk : ∀ (w : Str) (e : Ee) (l : List D) (us : List D), (∀ x ∈ l, ∃ b : Sms, x = .tup b.d /\ b.ok /\ b.h < k) -> l.length <= 3 -> e.fit -> (w == "new") = false -> (w == "do") = false -> (w == "give" || w == "tell") = false -> (w == "if" || w == "while") = true ->
  ∀ f : D -> D, (∀ x ∈ l, mA (C .q23) (aC (gv 0) (aC (gv 1) (aC (gv 2) (bB)))) [.val x, .val (dW ws), .val (bJ ds)] = .ok (f x)) ->
  ((lU C C') [.val (.tup (.str w :: e.d :: l)), .val (dW ws), .val (bJ ds), .no, .no, .no]).bind cK = .ok (gT (ff (gE ws ds) e.u :: l.map f)) := by
  intro w e l us hl1 hl2 hf n1 n2 n3 n4 f hf2
  unfold lU gX
  rw [dY (c2 (x := .tup (.str w :: e.d :: l)) (y := .int 0) rfl rfl (cR 0 _ rfl))]
  show bC.bind (bD _ _ [.val (.tup (.str w :: e.d :: l)), .val (dW ws), .val (bJ ds), .val (.str w), .no, .no]) cK = _
  rw [cZ (cB (c2 (x := .str w) rfl rfl (by rw [dC, n1]))), cZ (cB (c2 (x := .str w) rfl rfl (by rw [dC, n2]))), cZ (cB (c2 (x := .str w) rfl (g2 _ _ _) (by rw [qV, n3]))), dX (cB (c2 (x := .str w) rfl (g2 _ _ _) (by rw [qV, n4]))), bD7,
   dY (kC (mQ (fE9 (a := .str w) (b := e.d) (r := l) rfl)) bF (fG9 bF hf2))]
  refine gH (a1 (x := .lst (ff (gE ws ds) e.u :: l.map f)) (c2 (x := .lst [ff (gE ws ds) e.u]) (y := .lst (l.map f)) (a1 (a3 (c2 (x := .tup (.str w :: e.d :: l)) (y := .int 1) rfl rfl (cR 1 _ rfl)) rfl rfl (L.e e hf)) rfl) rfl ?_) (L.f _))
  rw [lV (by simp; omega)]; rfl
 have bk : ∀ b : Sms, b.ok -> b.h < k -> mA (C .q23) (aC (gv 0) (aC (gv 1) (aC (gv 2) (bB)))) [.val (.tup b.d), .val (dW ws), .val (bJ ds)] = .ok (ff (gE ws ds) b.u) := fun b h1 h2 => a3 rfl rfl rfl (hb b h1 h2)
 have rest : ∀ (w x : Str) (r : List D), (w == "new") = false -> (w == "do") = false -> (w == "give" || w == "tell") = false -> (w == "if" || w == "while") = false -> ∀ z : D,
  ((non? (fM (gE ws ds) "WORD" x 0) = true /\ (w == "get") = false) -> (((w == "await") = true /\ ∃ y : Str, (.str w :: .str x :: r)[2]? = some (.str y) /\ z = fM (gE ws ds) "WORD" y 0) \/ ((w == "await") = false /\ ∃ e : Ee, e.fit /\ (.str w :: .str x :: r)[2]? = some e.d /\ z = ff (gE ws ds) e.u))) ->
  ((lU C C') [.val (.tup (.str w :: .str x :: r)), .val (dW ws), .val (bJ ds), .no, .no, .no]).bind cK = .ok (if (w == "get") = true then fM (gE ws ds) "WORD" x 0 else bT (fM (gE ws ds) "WORD" x 0) z) := by
  intro w x r n1 n2 n3 n4 z hz
  unfold lU
  rw [dY (c2 (x := .tup (.str w :: .str x :: r)) (y := .int 0) rfl rfl (cR 0 _ rfl))]
  show bC.bind (bD _ _ [.val (.tup (.str w :: .str x :: r)), .val (dW ws), .val (bJ ds), .val (.str w), .no, .no]) cK = _
  rw [cZ (cB (c2 (x := .str w) rfl rfl (by rw [dC, n1]))), cZ (cB (c2 (x := .str w) rfl rfl (by rw [dC, n2]))), cZ (cB (c2 (x := .str w) rfl (g2 _ _ _) (by rw [qV, n3]))), cZ (cB (c2 (x := .str w) rfl (g2 _ _ _) (by rw [qV, n4]))),
   dY (a3 (c2 (x := .tup (.str w :: .str x :: r)) (y := .int 1) rfl rfl (cR 1 _ rfl)) rfl rfl (L.w x))]
  show bC.bind (bD _ _ [.val (.tup (.str w :: .str x :: r)), .val (dW ws), .val (bJ ds), .val (.str w), .no, .val (fM (gE ws ds) "WORD" x 0)]) cK = _
  have t1 : mB (m2 (dO true) (gv 5) (kc .non)) [.val (.tup (.str w :: .str x :: r)), .val (dW ws), .val (bJ ds), .val (.str w), .no, .val (fM (gE ws ds) "WORD" x 0)] = .ok (!non? (fM (gE ws ds) "WORD" x 0)) := cB (c2 (x := fM (gE ws ds) "WORD" x 0) (y := .non) rfl rfl (pE _))
  have t2 : mB (m2 cP (gv 3) (kc (.str "get"))) [.val (.tup (.str w :: .str x :: r)), .val (dW ws), .val (bJ ds), .val (.str w), .no, .val (fM (gE ws ds) "WORD" x 0)] = .ok (w == "get") := cB (c2 (x := .str w) rfl rfl (dC _ _))
  by_cases h1 : non? (fM (gE ws ds) "WORD" x 0) = true
  ·by_cases h2 : (w == "get") = true
   ·rw [dX (show jL _ _ _ = .ok true by simp [jL, t1, t2, h1, h2, bC.bind]), if_pos h2]
    exact gH rfl
   ·have h2' : (w == "get") = false := by simpa using h2
    rw [cZ (show jL _ _ _ = .ok false by simp [jL, t1, t2, h1, h2', bC.bind]), if_neg h2]
    have e3 : bT (fM (gE ws ds) "WORD" x 0) z = z := by unfold bT; rw [if_pos h1]
    rw [e3]
    rcases hz ⟨h1, h2'⟩ with ⟨a1', y, y1, y2⟩ | ⟨a1', e, y0, y1, y2⟩
    ·rw [dX (cB (c2 (x := .str w) rfl rfl (by rw [dC, a1']))), y2]
     exact gH (a3 (c2 (x := .tup (.str w :: .str x :: r)) (y := .int 2) rfl rfl (cR 2 _ y1)) rfl rfl (L.w y))
    ·rw [cZ (cB (c2 (x := .str w) rfl rfl (by rw [dC, a1']))), y2]
     exact jR (a3 (c2 (x := .tup (.str w :: .str x :: r)) (y := .int 2) rfl rfl (cR 2 _ y1)) rfl rfl (L.e e y0))
  ·have h1' : non? (fM (gE ws ds) "WORD" x 0) = false := by simpa using h1
   rw [dX (show jL _ _ _ = .ok true by simp [jL, t1, h1', bC.bind])]
   have e3 : (if (w == "get") = true then fM (gE ws ds) "WORD" x 0 else bT (fM (gE ws ds) "WORD" x 0) z) = fM (gE ws ds) "WORD" x 0 := by
    unfold bT
    rw [if_neg h1]
    split <;> rfl
   rw [e3]
   exact gH rfl
 cases s with
 | let_ x e =>
  simp only [Sm.ok] at ho
  rw [Sm.d, rest "let" x [e.d] rfl rfl rfl rfl (ff (gE ws ds) e.u) fun _ => .inr ⟨rfl, e, ho.2, rfl, rfl⟩]; rfl
 | ife e a b =>
  simp only [Sm.ok] at ho
  simp only [Sm.h] at hh
  rw [Sm.d, blk "if" e [.tup a.d, .tup b.d] [] (fun x hx => by
   simp only [List.mem_cons, List.not_mem_nil, or_false] at hx
   rcases hx with rfl | rfl
   ·exact ⟨a, rfl, ho.2.1, by omega⟩
   ·exact ⟨b, rfl, ho.2.2, by omega⟩) (by simp) ho.1 rfl rfl rfl rfl (fun x => match C .q23 [x, dW ws, bJ ds] with | .ok d => d | _ => .non) (fun x hx => by
   simp only [List.mem_cons, List.not_mem_nil, or_false] at hx
   rcases hx with rfl | rfl
   ·rw [hb a ho.2.1 bF]; exact bk a ho.2.1 bF
   ·rw [hb b ho.2.2 bF]; exact bk b ho.2.2 bF)]
  simp only [List.map_cons, List.map_nil]
  rw [hb a ho.2.1 bF, hb b ho.2.2 bF, Sm.u, pV, pV]
  show bC.ok (bT _ (bT _ (bT _ .non))) = _
  rw [lH]
 | whi e a =>
  simp only [Sm.ok] at ho
  simp only [Sm.h] at hh
  rw [Sm.d, blk "while" e [.tup a.d] [] (fun x hx => by
   simp only [List.mem_cons, List.not_mem_nil, or_false] at hx
   subst hx
   exact ⟨a, rfl, ho.2, by omega⟩) (by simp) ho.1 rfl rfl rfl rfl (fun x => match C .q23 [x, dW ws, bJ ds] with | .ok d => d | _ => .non) (fun x hx => by
   simp only [List.mem_cons, List.not_mem_nil, or_false] at hx
   subst hx
   rw [hb a ho.2 bF]; exact bk a ho.2 bF)]
  simp only [List.map_cons, List.map_nil]
  rw [hb a ho.2 bF, Sm.u, pV]
  show bC.ok (bT _ (bT _ .non)) = _
  rw [lH]
 | do_ x ps =>
  simp only [Sm.ok] at ho
  unfold lU
  rw [Sm.d, dY (c2 (x := .tup [.str "do", .str x, .tup ps.d]) (y := .int 0) rfl rfl (cR 0 _ rfl))]
  show bC.bind (bD _ _ [.val (.tup [.str "do", .str x, .tup ps.d]), .val (dW ws), .val (bJ ds), .val (.str "do"), .no, .no]) cK = _
  rw [cZ (cB (c2 (x := .str "do") rfl rfl (dC _ _))), dX (cB (c2 (x := .str "do") rfl rfl (dC _ _)))]
  have e2 : ff (gE ws ds) (Sm.do_ x ps).u = bT (fM (gE ws ds) "DEED" x 0) (bT (ff (gE ws ds) ps.u) (fM (gE ws ds) "COUNT" x ps.d.length)) := by
   rw [Sm.u, ff, pV]
   show bT (fM (gE ws ds) "DEED" x 0) (bT (ff (gE ws ds) ps.u) (bT (fM (gE ws ds) "COUNT" x ps.d.length) .non)) = _
   rw [lH]
  rw [e2]
  exact gH (a4 (c2 (x := .tup [.str "do", .str x, .tup ps.d]) (y := .int 1) rfl rfl (cR 1 _ rfl)) (c2 (x := .tup [.str "do", .str x, .tup ps.d]) (y := .int 2) rfl rfl (cR 2 _ rfl)) rfl rfl (L.c x ps ho.2.1 ho.2.2.2))
 | giv e =>
  simp only [Sm.ok] at ho
  unfold lU
  rw [Sm.d, dY (c2 (x := .tup [.str "give", e.d]) (y := .int 0) rfl rfl (cR 0 _ rfl))]
  show bC.bind (bD _ _ [.val (.tup [.str "give", e.d]), .val (dW ws), .val (bJ ds), .val (.str "give"), .no, .no]) cK = _
  rw [cZ (cB (c2 (x := .str "give") rfl rfl (dC _ _))), cZ (cB (c2 (x := .str "give") rfl rfl (dC _ _))), dX (cB (c2 (x := .str "give") rfl (g2 _ _ _) (qV _ _ _)))]
  exact gH (a3 (c2 (x := .tup [.str "give", e.d]) (y := .int 1) rfl rfl (cR 1 _ rfl)) rfl rfl (by rw [Sm.u]; exact L.e e ho))
 | tel e =>
  simp only [Sm.ok] at ho
  unfold lU
  rw [Sm.d, dY (c2 (x := .tup [.str "tell", e.d]) (y := .int 0) rfl rfl (cR 0 _ rfl))]
  show bC.bind (bD _ _ [.val (.tup [.str "tell", e.d]), .val (dW ws), .val (bJ ds), .val (.str "tell"), .no, .no]) cK = _
  rw [cZ (cB (c2 (x := .str "tell") rfl rfl (dC _ _))), cZ (cB (c2 (x := .str "tell") rfl rfl (dC _ _))), dX (cB (c2 (x := .str "tell") rfl (g2 _ _ _) (qV _ _ _)))]
  exact gH (a3 (c2 (x := .tup [.str "tell", e.d]) (y := .int 1) rfl rfl (cR 1 _ rfl)) rfl rfl (by rw [Sm.u]; exact L.e e ho))
 | get x =>
  rw [Sm.d, rest "get" x [] rfl rfl rfl rfl .non fun h => (by cases h.2), Sm.u, if_pos (show (("get" : Str) == ("get" : Str)) = true by decide)]
  show _ = bC.ok (bT (fM (gE ws ds) "WORD" x 0) .non)
  rw [lH]
 | new x y =>
  unfold lU
  rw [Sm.d, dY (c2 (x := .tup [.str "new", .str x, .str y]) (y := .int 0) rfl rfl (cR 0 _ rfl))]
  show bC.bind (bD _ _ [.val (.tup [.str "new", .str x, .str y]), .val (dW ws), .val (bJ ds), .val (.str "new"), .no, .no]) cK = _
  rw [dX (cB (c2 (x := .str "new") rfl rfl (dC _ _)))]
  exact gH (a3 rfl rfl rfl (hn x y))
 | han x e =>
  simp only [Sm.ok] at ho
  rw [Sm.d, rest "hand" x [e.d] rfl rfl rfl rfl (ff (gE ws ds) e.u) fun _ => .inr ⟨rfl, e, ho.2, rfl, rfl⟩]; rfl
 | awa x y =>
  rw [Sm.d, rest "await" x [.str y] rfl rfl rfl rfl (fM (gE ws ds) "WORD" y 0) fun _ => .inl ⟨rfl, y, rfl, rfl⟩, Sm.u]
  show _ = bC.ok (bT _ (bT _ .non))
  rw [lH]; rfl
theorem cN3 {C C' : CT} {k : Nat} (h1 : ∀ xs : List D, C .q20 [.lst xs] = .ok (gT xs)) (hs : ∀ s : Sm, s.ok -> s.h <= k -> C .q22 [s.d, dW ws, bJ ds] = .ok (ff (gE ws ds) s.u)) (b : Sms) (ho : b.ok) (hh : b.h <= k) :
 cG 3 3 (xP C C') [.tup b.d, dW ws, bJ ds] = .ok (ff (gE ws ds) b.u) := by
 show ((xP C C') [.val (.tup b.d), .val (dW ws), .val (bJ ds)]).bind cK = _
 unfold xP
 have key : ∀ b : Sms, b.ok -> b.h <= k -> ∃ ys, dL (fun _ => .ok true) (mA (C .q22) (aC (gv 0) (aC (gv 1) (aC (gv 2) (bB))))) [.val (dW ws), .val (bJ ds)] b.d = .ok ys /\ gT ys = ff (gE ws ds) b.u := by
  intro b
  refine Sms.rec (motive_1 := fun _ => True) (motive_2 := fun b => b.ok -> b.h <= k -> ∃ ys, dL (fun _ => .ok true) (mA (C .q22) (aC (gv 0) (aC (gv 1) (aC (gv 2) (bB))))) [.val (dW ws), .val (bJ ds)] b.d = .ok ys /\ gT ys = ff (gE ws ds) b.u) ?_ ?_ ?_ ?_ ?_ ?_ ?_ ?_ ?_ ?_ ?_ ?_ b
  all_goals first | (intros; trivial) | skip
  ·exact fun _ _ => ⟨[], rfl, rfl⟩
  ·intro s r _ ih ho hh
   simp only [Sms.ok] at ho
   simp only [Sms.h] at hh
   obtain ⟨ys, e1, e2⟩ := ih ho.2.1 bF
   refine ⟨ff (gE ws ds) s.u :: ys, ?_, ?_⟩
   ·rw [Sms.d, dL]
    have q1 : mA (C .q22) (aC (gv 0) (aC (gv 1) (aC (gv 2) (bB)))) [.val s.d, .val (dW ws), .val (bJ ds)] = .ok (ff (gE ws ds) s.u) := a3 rfl rfl rfl (hs s ho.1 bF)
    show ((mA (C .q22) (aC (gv 0) (aC (gv 1) (aC (gv 2) (bB)))) [.val s.d, .val (dW ws), .val (bJ ds)]).bind _) = _
    rw [q1, e1]; rfl
   ·rw [Sms.u, pV, <- e2]; rfl
 obtain ⟨ys, e1, e2⟩ := key b ho hh
 rw [<- e2]
 exact jR (a1 (kC (mQ (xs := b.d) rfl) (by have := Sms.len ho; omega) e1) (h1 _))
theorem bE5 (hl : ds.length <= 1000) (m k : Nat) : bT1 (Ph (m + 9)) ws ds k where
 w := bT0 hl (m + 6)
 c := fun x ps h1 h2 => fG8 hl 2 m x ps h1 h2
 e := fun e h => bE4 hl 2 (m + 1) e h.1 h.2
 f := vI (m + 6)
theorem cN4 (hl : ds.length <= 1000) : ∀ (k n : Nat) (s : Sm), s.ok -> s.h <= k -> Ph (n + 2 * k + 11) .q22 [s.d, dW ws, bJ ds] = .ok (ff (gE ws ds) s.u)
 | 0, n, s, ho, hh => cN2 (k := 0) (C := Ph (n + 10)) (C' := Ph (n + 8)) (bE5 hl (n + 1) 0) (fun x y => lnew (C := Ph (n + 9)) (C' := Ph (n + 7)) (bE5 hl n 0) x y) (fun _ _ h => by omega) s ho hh
 | k + 1, n, s, ho, hh => cN2 (k := k + 1) (C := Ph (n + 2 * (k + 1) + 10)) (C' := Ph (n + 2 * (k + 1) + 8)) (bE5 hl (n + 2 * (k + 1) + 1) (k + 1)) (fun x y => lnew (C := Ph (n + 2 * (k + 1) + 9)) (C' := Ph (n + 2 * (k + 1) + 7)) (bE5 hl (n + 2 * (k + 1)) 0) x y)
   (fun b h1 h2 => cN3 (k := k) (C := Ph (n + 2 * k + 11)) (C' := Ph (n + 2 * k + 9)) (vI (n + 2 * k + 8)) (fun s' => cN4 hl k n s') b h1 bF) s ho hh
theorem fH0 (hl : ds.length <= 1000) (k n : Nat) (b : Sms) (ho : b.ok) (hh : b.h <= k) : Ph (n + 2 * k + 12) .q23 [.tup b.d, dW ws, bJ ds] = .ok (ff (gE ws ds) b.u) :=
 cN3 (k := k) (C := Ph (n + 2 * k + 11)) (C' := Ph (n + 2 * k + 9)) (vI (n + 2 * k + 8)) (fun s' => cN4 hl k n s') b ho hh
end
end Jm
end
section
namespace Jm
open PySem PySem.Spec PyProof.Rows L2 R
local macro_rules | `(tactic| simp! [$xs,*]) => `(tactic| simp [bC.bind, gv, kc, m2, nR, aC, bB, mA, bX, mB, cK, bO, bD, lP, bW, jL, mT, zF, m1, rN, rX, zT, zG, $xs,*])
variable [bP]
theorem xU {d : Int} (h0 : 0 <= d) (h1 : d < 4611686018427387904) : gW d = true := by
 unfold gW
 exact decide_eq_true ⟨by omega, by omega⟩
theorem pI {a b : Int} (h : gW a = true \/ gW b = true) : fN (.int a) (.int b) = .ok (.int (a * b)) := by
 simp only [fN]
 rcases h with h | h <;> simp [h]
noncomputable def cX (ns : List Int) (k : Int) : Int :=
 let d := ((if k < (ns.length : Int) then ns.getD k.toNat 0 else 0) + 7919 * k + 1) * 48271 % 2147483647
 (d * d + 7 * d + k) % 2147483629
theorem bT2 {α : Type} {xs : List α} {k : Int} {v : α} (h0 : 0 <= k) (h : xs[k.toNat]? = some v) : gC xs k = some v := by
 have := vT h
 rwa [Int.toNat_of_nonneg h0] at this
theorem fH1 (n : Nat) (ns : List Int) (k : Int) (hk : 0 <= k) : Ph (n + 3) .q7 [.lst (ns.map .int), .int k] = .ok (.int (if k < (ns.length : Int) then ns.getD k.toNat 0 else 0)) := by
 show ((bC7 (Ph (n + 2)) (Ph n)) [.val (.lst (ns.map .int)), .val (.int k)]).bind cK = _
 unfold bC7
 by_cases h : k < (ns.length : Int)
 ·have hlt : k.toNat < ns.length := by omega
  have e : gC (ns.map D.int) k = some (.int ns[k.toNat]) := bT2 hk (by rw [List.getElem?_map, List.getElem?_eq_getElem hlt]; rfl)
  simp! [dJ, gK, h, bI, e, hlt]
 ·simp! [dJ, gK, h]
theorem fH2 (n : Nat) (ns : List Int) (k : Int) (hk : 0 <= k) : Ph (n + 4) .q8 [.lst (ns.map .int), .int k] = .ok (.int (cX ns k)) := by
 show ((bC8 (Ph (n + 3)) (Ph (n + 1))) [.val (.lst (ns.map .int)), .val (.int k), .no]).bind cK = _
 unfold bC8
 have h1 : gW 7919 = true := by decide
 have h2 : gW 48271 = true := by decide
 have h3 : gW 7 = true := by decide
 generalize hc : (if k < (ns.length : Int) then ns.getD k.toNat 0 else 0) = c
 have hce := fH1 n ns k hk
 rw [hc] at hce
 have hd0 : 0 <= (c + 7919 * k + 1) * 48271 % 2147483647 := Int.emod_nonneg _ (by decide)
 have hd1 : (c + 7919 * k + 1) * 48271 % 2147483647 < 2147483647 := Int.emod_lt_of_pos _ (by decide)
 generalize hd : (c + 7919 * k + 1) * 48271 % 2147483647 = d at hd0 hd1
 have hs : gW d = true := xU hd0 bF
 simp! [bZ, hce, bV, pI (.inl h1), pI (.inr h2), pI (.inl h3), pI (.inl hs), bY, dI, hd]
 simp only [cX, hc, hd]
noncomputable abbrev lW : Str := "abcdefghijklmnopqrstuvwxyz"
theorem cN5 : lW.cps.toList.length = 26 := by decide +kernel
theorem fH3 {i : Int} (h0 : 0 <= i) (h1 : i < 26) : ∃ c, gC lW.cps.toList i = some c := by
 have hl := cN5
 have hlt : i.toNat < lW.cps.toList.length := by omega
 exact ⟨lW.cps.toList[i.toNat], bT2 h0 (List.getElem?_eq_getElem hlt)⟩
theorem pW (c : Nat) : (⟨#[c]⟩ : Str).length = 1 := rfl
theorem add_str {x y : Str} (h : x.length + y.length <= 1000000) : bV (.str x) (.str y) = .ok (.str (x ++ y)) := by
 have hs := sizeLine_eq
 simp only [bV]
 rw [if_pos bF]
noncomputable abbrev fH4 : MS := bZ 2 (m2 bV (gv 2) (m2 bI (gv 1) (m2 bY (m2 cN (gv 0) (m2 bV (kc (.int 7)) (m2 fN (kc (.int 26)) (gv 3)))) (kc (.int 26)))))
theorem cN6 (nb : Int) : ∀ (ds : List D) (z : Str) (s : Slot), (∀ d ∈ ds, ∃ k : Int, d = .int k /\ 0 <= k /\ k <= 1000) -> z.length + ds.length <= 1000 ->
 ∃ z' s', cU 3 fH4 ds [.val (.int nb), .val (.str lW), .val (.str z), s] = .ok (.nx [.val (.int nb), .val (.str lW), .val (.str z'), s']) /\ z'.length = z.length + ds.length
 | [], z, s, _, _ => ⟨z, s, rfl, rfl⟩
 | d :: ds, z, s, hd, hz => by
  obtain ⟨k, rfl, k0, k1⟩ := hd d List.mem_cons_self
  have h26 : gW 26 = true := by decide
  have hj0 : (0 : Int) < 7 + 26 * k := by omega
  have hj1 : 7 + 26 * k < 1073741824 := by omega
  have hm0 : 0 <= nb / (7 + 26 * k) % 26 := Int.emod_nonneg _ (by decide)
  have hm1 : nb / (7 + 26 * k) % 26 < 26 := Int.emod_lt_of_pos _ (by decide)
  obtain ⟨c, hc⟩ := fH3 hm0 hm1
  rw [List.length_cons] at hz
  have hzl : z.length + (⟨#[c]⟩ : Str).length <= 1000000 := by rw [pW]; omega
  obtain ⟨z', s', e1, e2⟩ := cN6 nb ds (z ++ ⟨#[c]⟩) (.val (.int k)) (fun d hd' => hd d (List.mem_cons_of_mem _ hd')) (by rw [rS, pW]; omega)
  refine ⟨z', s', ?_, by rw [e2, rS, pW, List.length_cons]; omega⟩
  rw [cU]
  simp [bZ, m2, gv, kc, bC.bind, pI (.inl h26), bV.eq_1, cN, dI, hj0, hj1, bY, bI, hc, add_str hzl]
  exact e1
theorem pJ {m : Nat} {d : D} (h : d ∈ upTo 0 m) : ∃ k : Int, d = .int k /\ 0 <= k /\ k < m := by
 unfold R.upTo at h
 obtain ⟨k, hk, rfl⟩ := List.mem_map.mp h
 have := List.mem_range.mp hk
 exact ⟨_, rfl, by omega, by omega⟩
theorem lI (lo : Int) (m : Nat) : (upTo lo m).length = m := by unfold R.upTo; rw [List.length_map, List.length_range]
theorem fH5 (n : Nat) (nb : Int) : ∃ z, Ph (n + 3) .q10 [.int nb] = .ok (.str z) /\ z.length <= 6 := by
 have h0 : 0 <= nb % 7 := Int.emod_nonneg _ (by decide)
 have h1 : nb % 7 < 7 := Int.emod_lt_of_pos _ (by decide)
 have hl := lI 0 (nb % 7).toNat
 obtain ⟨z, s, e1, e2⟩ := cN6 nb (upTo 0 (nb % 7).toNat) "" .no (fun d hd => by
  obtain ⟨k, e, k0, k1⟩ := pJ hd
  exact ⟨k, e, k0, by omega⟩) (by rw [hl]; show 0 + _ <= 1000; omega)
 refine ⟨z, ?_, by rw [e2, hl]; show 0 + _ <= 6; omega⟩
 show ((bD0 (Ph (n + 2)) (Ph n)) [.val (.int nb), .no, .no, .no]).bind cK = _
 unfold bD0
 have hr : -(2 ^ 62) <= nb % 7 /\ nb % 7 < 2 ^ 62 := ⟨by omega, by omega⟩
 have e1' : cU 3 (bZ 2 (m2 bV (gv 2) (m2 bI (gv 1) (m2 bY (m2 cN (gv 0) (m2 bV (kc (.int 7)) (m2 fN (kc (.int 26)) (gv 3)))) (kc (.int 26)))))) (upTo 0 (nb % 7).toNat) [.val (.int nb), .val (.str "abcdefghijklmnopqrstuvwxyz"), .val (.str ""), .no] = _ := e1
 have eR : kH (.int (nb % 7)) = .ok (upTo 0 (nb % 7).toNat) := by simp only [kH]; rw [if_pos hr]
 have eM : bY (.int nb) (.int 7) = .ok (.int (nb % 7)) := by simp [bY, dI]
 have eS : fT 3 (gP (m2 bY (gv 0) (kc (.int 7)))) (bZ 2 (m2 bV (gv 2) (m2 bI (gv 1) (m2 bY (m2 cN (gv 0) (m2 bV (kc (.int 7)) (m2 fN (kc (.int 26)) (gv 3)))) (kc (.int 26)))))) [.val (.int nb), .val (.str "abcdefghijklmnopqrstuvwxyz"), .val (.str ""), .no] =
  .ok (.nx [.val (.int nb), .val (.str lW), .val (.str z), s]) := by
  show ((bY (.int nb) (.int 7)).bind kH).bind _ = _
  rw [eM]
  show (kH (.int (nb % 7))).bind _ = _
  rw [eR]
  exact e1'
 show ((fT 3 _ _ [.val (.int nb), .val (.str "abcdefghijklmnopqrstuvwxyz"), .val (.str ""), .no]).bind (lP (bX (gv 2)))).bind cK = _
 rw [eS]
 rfl
theorem pK (a b : Int) : cP (.int a) (.int b) = .ok (.bl (a == b)) := by simp [cP, gF, fH]
theorem fH6 (n : Nat) (nb : Int) : ∃ v : Int, Ph (n + 3) .q12 [.int nb] = .ok (.int v) /\ -1000000 <= v /\ v <= 1000000 := by
 have a0 : 0 <= nb / 9 % 1999999 := Int.emod_nonneg _ (by decide)
 have a1 : nb / 9 % 1999999 < 1999999 := Int.emod_lt_of_pos _ (by decide)
 have b0 : 0 <= nb / 9 % 14 := Int.emod_nonneg _ (by decide)
 have b1 : nb / 9 % 14 < 14 := Int.emod_lt_of_pos _ (by decide)
 by_cases h : (nb % 9 == 4) = true
 ·refine ⟨nb / 9 % 1999999 - 999999, ?_, by omega, by omega⟩
  show ((vC (Ph (n + 2)) (Ph n)) [.val (.int nb)]).bind cK = _
  unfold vC
  simp! [bY, cN, gU, dI, pK, h]
 ·have h' : (nb % 9 == 4) = false := by simpa using h
  refine ⟨nb / 9 % 14 - 4, ?_, by omega, by omega⟩
  show ((vC (Ph (n + 2)) (Ph n)) [.val (.int nb)]).bind cK = _
  unfold vC
  simp! [bY, cN, gU, dI, pK, h']
theorem bE6 (n : Nat) (nb k : Int) (hk : gW k = true) : ∃ v : Int, Ph (n + 3) .q9 [.int nb, .int k] = .ok (.int v) := by
 have h1 : gW 104729 = true := by decide
 have h2 : gW 69621 = true := by decide
 have h3 : gW 3 = true := by decide
 have c0 : 0 <= (nb + 104729 * k + 17) * 69621 % 2147483647 := Int.emod_nonneg _ (by decide)
 have c1 : (nb + 104729 * k + 17) * 69621 % 2147483647 < 2147483647 := Int.emod_lt_of_pos _ (by decide)
 have h4 : gW ((nb + 104729 * k + 17) * 69621 % 2147483647) = true := xU c0 bF
 refine ⟨((nb + 104729 * k + 17) * 69621 % 2147483647 * ((nb + 104729 * k + 17) * 69621 % 2147483647) + 3 * ((nb + 104729 * k + 17) * 69621 % 2147483647) + k) % 2147483629, ?_⟩
 show ((bC9 (Ph (n + 2)) (Ph n)) [.val (.int nb), .val (.int k), .no]).bind cK = _
 unfold bC9
 simp [bD, bZ, m2, gv, kc, bC.bind, pI (.inl h1), pI (.inr h2), pI (.inl h3), pI (.inl h4), bV, bY, dI, lP, bX, cK]
def lX (xs : List D) : Prop := 0 < xs.length /\ xs.length <= 1000 /\ ∀ x ∈ xs, ∃ z : Str, x = .str z /\ z.length <= 8
def nM (xs : List D) : Prop := xs.length <= 1000 /\ ∀ x ∈ xs, ∃ (z : Str) (i : Int), x = .tup [.str z, .int i] /\ z.length <= 8 /\ 0 <= i /\ i <= 4
theorem bE7 {xs : List D} {i : Int} (h : 0 < xs.length) : ∃ x, gC xs (i % (xs.length : Int)) = some x /\ x ∈ xs := by
 have h0 : 0 <= i % (xs.length : Int) := Int.emod_nonneg _ bF
 have h1 : i % (xs.length : Int) < (xs.length : Int) := Int.emod_lt_of_pos _ bF
 obtain ⟨k, hk⟩ : ∃ k : Nat, i % (xs.length : Int) = (k : Int) := ⟨(i % (xs.length : Int)).toNat, by omega⟩
 have hlt : k < xs.length := by omega
 refine ⟨xs[k], ?_, List.getElem_mem hlt⟩
 rw [hk]
 exact vT (by rw [List.getElem?_eq_getElem hlt])
noncomputable abbrev SG : Str := "+-*<="
theorem fH7 (i : Int) : ∃ c, gC SG.cps.toList (i % 5) = some c := by
 have h0 : 0 <= i % 5 := Int.emod_nonneg _ (by decide)
 have h1 : i % 5 < 5 := Int.emod_lt_of_pos _ (by decide)
 have hl : SG.cps.toList.length = 5 := by decide +kernel
 obtain ⟨k, hk⟩ : ∃ k : Nat, i % 5 = (k : Int) := ⟨(i % 5).toNat, by omega⟩
 have hlt : k < SG.cps.toList.length := by omega
 exact ⟨SG.cps.toList[k], by rw [hk]; exact vT (by rw [List.getElem?_eq_getElem hlt])⟩
theorem xV {g : ME} {rest : bM} {Pd : D -> Prop} : ∀ xs : List D, (∀ x ∈ xs, ∃ d, g (.val x :: rest) = .ok d /\ Pd d) -> ∃ ys, dL (fun _ => .ok true) g rest xs = .ok ys /\ ys.length = xs.length /\ ∀ y ∈ ys, Pd y
 | [], _ => ⟨[], rfl, rfl, fun y hy => by cases hy⟩
 | x :: r, h => by
  obtain ⟨d, e1, p1⟩ := h x List.mem_cons_self
  obtain ⟨ys, e2, l2, p2⟩ := xV r fun y hy => h y (List.mem_cons_of_mem _ hy)
  refine ⟨d :: ys, ?_, by rw [List.length_cons, l2, List.length_cons], fun y hy => ?_⟩
  ·rw [dL]
   show bC.bind (g (.val x :: rest)) _ = _
   rw [e1]
   show bC.bind (dL _ g rest r) _ = _
   rw [e2]; rfl
  ·rcases List.mem_cons.mp hy with z | z
   ·subst z; exact p1
   ·exact p2 y z
noncomputable def ch (k : Int) : Nat := lW.cps.toList.getD (k % 26).toNat 0
noncomputable def nm (z y : Str) (k : Int) : Str := (z ++ ⟨#[ch k]⟩) ++ y
theorem fH8 (nb : Int) : ∃ z y : Str, z.length <= 6 /\ y.length <= 1 /\ ∀ (n : Nat) (k : Int), Ph (n + 4) .q11 [.int nb, .int k] = .ok (.str (nm z y k)) := by
 obtain ⟨z, e0, hz⟩ := fH5 0 nb
 have hb : ∀ b : Bool, ∃ y : Str, fN (.str "z") (.int (if b then 1 else 0)) = .ok (.str y) /\ y.length <= 1 := by
  intro b
  cases b
  ·exact ⟨Txt.mul "z" 0, by kernel_rfl, by decide +kernel⟩
  ·exact ⟨Txt.mul "z" 1, by kernel_rfl, by decide +kernel⟩
 obtain ⟨y, ey, hy⟩ := hb (decide (0 < nb % 7))
 refine ⟨z, y, hz, hy, fun n k => ?_⟩
 have e : Ph (n + 3) .q10 [.int nb] = .ok (.str z) := e0
 have hm0 : 0 <= k % 26 := Int.emod_nonneg _ (by decide)
 have hm1 : k % 26 < 26 := Int.emod_lt_of_pos _ (by decide)
 have hlt : (k % 26).toNat < lW.cps.toList.length := by rw [cN5]; omega
 have hc : gC lW.cps.toList (k % 26) = some (ch k) := bT2 hm0 (by unfold ch; rw [List.getElem?_eq_getElem hlt, List.getD_eq_getElem?_getD, List.getElem?_eq_getElem hlt]; rfl)
 have hc' : gC (("abcdefghijklmnopqrstuvwxyz" : Str).cps.toList) (k % 26) = some (ch k) := hc
 have hl1 : z.length + (⟨#[ch k]⟩ : Str).length <= 1000000 := by rw [pW]; omega
 have hl2 : (z ++ (⟨#[ch k]⟩ : Str)).length + y.length <= 1000000 := by rw [rS, pW]; omega
 show ((bD1 (Ph (n + 3)) (Ph (n + 1))) [.val (.int nb), .val (.int k), .no]).bind cK = _
 unfold bD1 nm
 simp! [bZ, e, bY, dI, bI, hc', add_str hl1, add_str hl2, kR, wM]
 simp at ey
 simp [ey, add_str hl2]
theorem fH9 {z y : Str} (hz : z.length <= 6) (hy : y.length <= 1) (k : Int) : (nm z y k).length <= 8 := by
 unfold nm
 rw [rS, rS, pW]; omega
theorem fI0 : ∀ i j : Fin 26, lW.cps.toList.getD i.val 0 = lW.cps.toList.getD j.val 0 -> i = j := by decide +kernel
theorem fI1 {z y : Str} {j k : Int} (hj : 0 <= j /\ j < 26) (hk : 0 <= k /\ k < 26) (e : nm z y j = nm z y k) : j = k := by
 unfold nm at e
 have e1 : ((z ++ (⟨#[ch j]⟩ : Str)) ++ y).cps.toList = ((z ++ (⟨#[ch k]⟩ : Str)) ++ y).cps.toList := by rw [e]
 have f : ∀ c : Nat, ((z ++ (⟨#[c]⟩ : Str)) ++ y).cps.toList = (z.cps.toList ++ [c]) ++ y.cps.toList := fun c => by
  show ((z.cps ++ #[c]) ++ y.cps).toList = _
  simp
 rw [f, f] at e1
 have e2 := List.append_cancel_right e1
 have e3 := List.append_cancel_left e2
 have e4 : ch j = ch k := by simpa using e3
 unfold ch at e4
 have mj : j % 26 = j := Int.emod_eq_of_lt hj.1 hj.2
 have mk : k % 26 = k := Int.emod_eq_of_lt hk.1 hk.2
 rw [mj, mk] at e4
 have := fI0 ⟨j.toNat, by omega⟩ ⟨k.toNat, by omega⟩ e4
 have e5 : j.toNat = k.toNat := congrArg Fin.val this
 omega
end Jm
end
section
namespace Jm
open PySem PySem.Spec PyProof.Rows L2 R
local macro_rules | `(tactic| simp! [$xs,*]) => `(tactic| simp [bC.bind, gv, kc, m2, nR, aC, bB, mA, bX, mB, cK, bO, bD, lP, bW, jL, mT, zF, m1, rN, rX, zT, zG, $xs,*])
variable [bP]
def XE (m : Nat) (d : D) : Prop := ∃ e : Ee, d = e.d /\ e.ok /\ e.h <= m /\ e.u.length <= 7 ^ m
theorem bT3 (c : Nat) {w : Str} (h : (w.length == 1) = false) : ((⟨#[c]⟩ : Str) == w) = false := by
 cases q : ((⟨#[c]⟩ : Str) == w) with
 | false => rfl
 | true =>
  have e := eq_of_beq q
  rw [<- e, pW] at h
  cases h
theorem bT4 {m : Nat} : ∀ ys : List D, (∀ y ∈ ys, XE m y) -> ∃ ps : Es, ys = ps.d /\ ps.ok /\ ps.h <= m /\ ps.u.length <= ps.d.length * 7 ^ m
 | [], _ => ⟨.nil, rfl, trivial, Nat.zero_le _, by simp [Es.u]⟩
 | y :: r, h => by
  obtain ⟨e, rfl, h1, h2, h3⟩ := h y List.mem_cons_self
  obtain ⟨ps, rfl, p1, p2, p3⟩ := bT4 r fun z hz => h z (List.mem_cons_of_mem _ hz)
  refine ⟨.cons e ps, rfl, by simp only [Es.ok]; exact ⟨h1, p1⟩, by simp only [Es.h]; omega, ?_⟩
  simp only [Es.u, Es.d, List.length_append, List.length_cons, Nat.succ_mul]
  omega
theorem fI2 (C C' : CT) (m : Nat) (M nb : Int) (ns es : List D) (hM : M = (m : Int)) (hn : lX ns) (he : nM es) (h14 : ∀ nb, ∃ v : Int, C .q12 [.int nb] = .ok (.int v) /\ -1000000 <= v /\ v <= 1000000) (h11 : ∀ (nb k : Int), gW k = true -> ∃ v : Int, C .q9 [.int nb, .int k] = .ok (.int v))
 (h15 : ∀ (m' : Nat), m = m' + 1 -> ∀ nb : Int, ∃ d, C .q13 [.int nb, .lst ns, .lst es, .int (m' : Int)] = .ok d /\ XE m' d) : ∃ d, ((qS C C') [.val (.int nb), .val (.lst ns), .val (.lst es), .val (.int M), .no, .no, .no, .no, .no, .no]).bind cK = .ok d /\ XE m d := by
 have hs := sizeLine_eq
 unfold qS
 cases hm : (M == 0) with
 | true =>
  obtain ⟨v, hv, v0, v1⟩ := h14 (nb / 9)
  refine ⟨.tup [.str "number", .int v], ?_, .num v, rfl, trivial, Nat.zero_le _, Nat.zero_le _⟩
  ·have ht : bR [.str "number", .int v] = .ok (.tup [.str "number", .int v]) := by unfold bR; rw [if_pos (by show 2 <= sizeLine; omega)]
   simp! [bZ, bY, cN, dI, pK, hm, gK, hv, ht]
 | false =>
 by_cases h2 : nb % 9 < 2
 ·obtain ⟨v, hv, v0, v1⟩ := h14 (nb / 9)
  refine ⟨.tup [.str "number", .int v], ?_, .num v, rfl, trivial, Nat.zero_le _, Nat.zero_le _⟩
  ·have ht : bR [.str "number", .int v] = .ok (.tup [.str "number", .int v]) := by unfold bR; rw [if_pos (by show 2 <= sizeLine; omega)]
   simp! [bZ, bY, cN, dI, pK, hm, h2, gK, hv, ht]
 obtain ⟨m', rfl⟩ : ∃ m', m = m' + 1 := by
  cases m with
  | zero => rw [hM] at hm; cases hm
  | succ m' => exact ⟨m', rfl⟩
 have hsub : gU (.int M) (.int 1) = .ok (.int (m' : Int)) := by
  have e : M - 1 = (m' : Int) := by omega
  show bC.ok (D.int (M - 1)) = _
  rw [e]
 have hn0 := hn.1
 have hn9 : (0 : Int) < (ns.length : Int) := by omega
 have rec_ := h15 m' rfl
 by_cases h5 : nb % 9 < 5
 ·obtain ⟨x, ex, mx⟩ := bE7 (xs := ns) (i := nb / 9) hn0
  obtain ⟨z, rfl, hz⟩ := hn.2.2 x mx
  refine ⟨.tup [.str "name", .str z], ?_, .nam z, rfl, by simp only [Ee.ok]; exact hz, Nat.zero_le _, by simp only [Ee.u, List.length_cons, List.length_nil]; exact Nat.one_le_pow _ _ bF⟩
  ·have ht : bR [.str "name", .str z] = .ok (.tup [.str "name", .str z]) := by unfold bR; rw [if_pos (by show 2 <= sizeLine; omega)]
   simp! [bZ, bY, cN, dI, pK, hm, h2, h5, gK, dJ, hn0, bI, ex, ht]
 have sgn : ((nb % 9 == 5) && decide (0 < es.length)) = false -> ∃ d, ((qS C C') [.val (.int nb), .val (.lst ns), .val (.lst es), .val (.int M), .no, .no, .no, .no, .no, .no]).bind cK = .ok d /\ XE (m' + 1) d := fun h6 => by
  unfold qS
  obtain ⟨v1, e1⟩ := h11 nb 5 (by decide)
  obtain ⟨v2, e2⟩ := h11 nb 6 (by decide)
  obtain ⟨d1, r1, e1', rfl, o1, h1', l1⟩ := rec_ v1
  obtain ⟨d2, r2, e2', rfl, o2, h2', l2⟩ := rec_ v2
  obtain ⟨c, hc⟩ := fH7 (nb / 9)
  refine ⟨.tup [.str ⟨#[c]⟩, e1'.d, e2'.d], ?_, .bin ⟨#[c]⟩ e1' e2', rfl, ?_, by simp only [Ee.h]; omega, by simp only [Ee.u, List.length_append]; rw [Nat.pow_succ]; omega⟩
  ·have ht : bR [.str ⟨#[c]⟩, e1'.d, e2'.d] = .ok (.tup [.str ⟨#[c]⟩, e1'.d, e2'.d]) := by unfold bR; rw [if_pos (by show 3 <= sizeLine; omega)]
   have hx : bI (.str "+-*<=") (.int (nb / 9 % 5)) = .ok (.str ⟨#[c]⟩) := by
    simp only [bI]
    rw [show gC (Str.ofString "+-*<=").cps.toList (nb / 9 % 5) = some c from hc]
   cases q1 : (nb % 9 == 5) with
   | false => simp! [bZ, mY, bY, cN, dI, pK, hm, h2, h5, q1, gK, e1, e2, r1, r2, hsub, hx, ht]
   | true =>
    have q2 : es = [] := by
     rw [q1, Bool.true_and] at h6
     have := of_decide_eq_false h6
     exact List.length_eq_zero_iff.mp bF
    subst q2
    simp! [bZ, mY, bY, cN, dI, pK, hm, h2, h5, q1, gK, dJ, kR, e1, e2, r1, r2, hsub, hx, ht]
  ·simp only [Ee.ok]; exact ⟨bT3 c kL, bT3 c kL, bT3 c kL, by rw [pW]; omega, o1, o2⟩
 cases h6 : ((nb % 9 == 5) && decide (0 < es.length)) with
 | false => exact sgn h6
 | true =>
  rw [Bool.and_eq_true] at h6
  have hl0 : 0 < es.length := of_decide_eq_true h6.2
  obtain ⟨x, ex, mx⟩ := bE7 (xs := es) (i := nb / 9) hl0
  obtain ⟨z, i, rfl, hz, i0, i4⟩ := he.2 x mx
  have hr : kH (.int i) = .ok (upTo 0 i.toNat) := by
   show (if _ then _ else _) = _
   rw [if_pos ⟨by omega, by omega⟩]
  obtain ⟨ys, hys, ly, py⟩ := xV (g := mA (C .q13) (aC (mA (C .q9) (aC (gv 3) (aC (gv 0) (bB)))) (aC (gv 1) (aC (gv 2) (aC (m2 gU (gv 4) (kc (.int 1))) (bB)))))) (rest := [.val (.lst ns), .val (.lst es), .val (.int nb), .val (.int M)]) (Pd := XE m') (upTo 0 i.toNat) fun x hx => by
   obtain ⟨k, rfl, k0, k1⟩ := pJ hx
   obtain ⟨v, ev⟩ := h11 nb k (xU k0 bF)
   obtain ⟨d, ed, gdd⟩ := rec_ v
   exact ⟨d, by simp [mA, aC, bB, gv, kc, m2, bC.bind, ev, hsub, ed], gdd⟩
  rw [lI] at ly
  have hcm : dU [1, 2, 0, 3] (gP (gv 6)) (fun _ => .ok true) (mA (C .q13) (aC (mA (C .q9) (aC (gv 3) (aC (gv 0) (bB)))) (aC (gv 1) (aC (gv 2) (aC (m2 gU (gv 4) (kc (.int 1))) (bB)))))) [.val (.int nb), .val (.lst ns), .val (.lst es), .val (.int M), .val (.int (nb % 9)), .val (.str z), .val (.int i), .no, .no, .no] = .ok (.lst ys) := by
   show bC.bind (kH (.int i)) _ = _
   rw [hr]
   show (if (upTo 0 i.toNat).length <= sizeLine then bC.bind (dL _ _ [.val (.lst ns), .val (.lst es), .val (.int nb), .val (.int M)] (upTo 0 i.toNat)) _ else .bad) = _
   rw [lI, if_pos bF, hys]; rfl
  obtain ⟨ps, rfl, p1, p2, p3⟩ := bT4 ys py
  refine ⟨.tup [.str "call", .str z, .tup ps.d], ?_, .cal z ps, rfl, ?_, by simp only [Ee.h]; omega, ?_⟩
  ·have ht : bR [.str "call", .str z, .tup ps.d] = .ok (.tup [.str "call", .str z, .tup ps.d]) := by unfold bR; rw [if_pos (by show 3 <= sizeLine; omega)]
   simp! [bZ, nV, gX, mY, bY, cN, dI, pK, hm, h2, h5, h6.1, hl0, gK, dJ, kR, bI, ex, hcm, jO, ht]
  ·simp only [Ee.ok]; exact ⟨hz, p1, by omega⟩
  ·simp only [Ee.u, List.length_cons, List.length_append, List.length_nil]
   have q : ps.d.length * 7 ^ m' <= 4 * 7 ^ m' := Nat.mul_le_mul_right _ bF
   have q1 : 1 <= 7 ^ m' := Nat.one_le_pow _ _ bF
   rw [Nat.pow_succ]; omega
theorem cN7 : ∀ (m n : Nat) (nb : Int) (ns es : List D), lX ns -> nM es -> ∃ d, Ph (n + m + 5) .q13 [.int nb, .lst ns, .lst es, .int (m : Int)] = .ok d /\ XE m d
 | m, n, nb, ns, es, hn, he => by
  show ∃ d, ((qS (Ph (n + m + 4)) (Ph (n + m + 2))) [.val (.int nb), .val (.lst ns), .val (.lst es), .val (.int (m : Int)), .no, .no, .no, .no, .no, .no]).bind cK = .ok d /\ XE m d
  refine fI2 _ _ m _ nb ns es rfl hn he (fun nb => fH6 (n + m + 1) nb) (fun nb k hk => bE6 (n + m + 1) nb k hk) fun m' hm' nb' => ?_
  subst hm'
  exact cN7 m' n nb' ns es hn he
def Ex {α : Type} (r : bC α) (P : α -> Prop) : Prop := ∃ d, r = .ok d /\ P d
def gB (r : bC Fl) (P : D -> Prop) : Prop := ∃ d, r.bind cK = .ok d /\ P d
section
variable {f g : ME} {fa : MA} {c : MT} {A B R : MS} {ρ : bM} {P Q : D -> Prop} {m k : Nat} {i : Nat} {b : Bool}
theorem xW (h : Ex (f ρ) P) : gB (bX f ρ) P := let ⟨d, e, p⟩ := h; ⟨d, jR e, p⟩
theorem lY (h : Ex (f ρ) P) : gB (bD (bX f) R ρ) P := let ⟨d, e, p⟩ := h; ⟨d, gH e, p⟩
theorem jH (h : Ex (f ρ) P) (k : ∀ d, P d -> gB (R (ρ.set i (.val d))) Q) : gB (bD (bZ i f) R ρ) Q := by
 obtain ⟨d, e, p⟩ := h
 obtain ⟨d', e', p'⟩ := k d p
 exact ⟨d', by rw [dY e]; exact e', p'⟩
theorem lA (h : c ρ = .ok b) (h1 : b = true -> gB (bD A R ρ) P) (h2 : b = false -> gB (R ρ) P) : gB (bD (bO c A bW) R ρ) P := by
 cases b with
 | true => obtain ⟨d, e, p⟩ := h1 rfl; exact ⟨d, by rw [dX h]; exact e, p⟩
 | false => obtain ⟨d, e, p⟩ := h2 rfl; exact ⟨d, by rw [cZ h]; exact e, p⟩
theorem xX (h : gB (bD A (bD B R) ρ) P) : gB (bD (bD A B) R ρ) P := by
 obtain ⟨d, e, p⟩ := h
 exact ⟨d, by rw [bD7]; exact e, p⟩
end
def qX (xs : List D) : Prop := xs.length <= 1000 /\ ∀ x ∈ xs, ∃ z : Str, x = .str z /\ z.length <= 8
theorem bT5 {i : Nat} {xs : List D} {ρ : bM} (h : gv i ρ = .ok (.lst xs)) : mA dJ (aC (gv i) (bB)) ρ = .ok (.int (xs.length : Int)) := a1 h rfl
theorem xY {i : Nat} {xs : List D} {ρ : bM} {f : ME} {v : Int} (h : gv i ρ = .ok (.lst xs)) (hf : f ρ = .ok (.int v)) (h0 : 0 < xs.length) : ∃ x, m2 bI (gv i) (m2 bY f (mA dJ (aC (gv i) (bB)))) ρ = .ok x /\ x ∈ xs := by
 obtain ⟨x, ex, mx⟩ := bE7 (xs := xs) (i := v) h0
 obtain ⟨L, hL⟩ : ∃ L : Int, (xs.length : Int) = L := ⟨_, rfl⟩
 have hl := bT5 h
 rw [hL] at ex hl
 have hm : bY (.int v) (.int L) = .ok (.int (v % L)) := by
  have : 0 < L := by omega
  simp [bY, dI, this]
 refine ⟨x, c2 h (c2 hf hl hm) ?_, mx⟩
 simp only [bI, ex]
theorem jI {i : Nat} {ρ : bM} {v : Int} (k : Int) (hk : 0 < k /\ k < 1073741824) (h : gv i ρ = .ok (.int v)) : m2 cN (gv i) (kc (.int k)) ρ = .ok (.int (v / k)) := c2 h rfl (by simp [cN, dI, hk])
theorem jJ {f : ME} {ρ : bM} {v : Int} (k : Int) (hk : 0 < k) (h : f ρ = .ok (.int v)) : m2 bY f (kc (.int k)) ρ = .ok (.int (v % k)) := c2 h rfl (by simp [bY, dI, hk])
theorem ltv {f : ME} {ρ : bM} {v : Int} (k : Int) (h : f ρ = .ok (.int v)) : mB (m2 gK f (kc (.int k))) ρ = .ok (decide (v < k)) := cB (c2 h rfl rfl)
theorem gtv {f : ME} {ρ : bM} {v : Int} (k : Int) (h : f ρ = .ok (.int v)) : mB (m2 kR f (kc (.int k))) ρ = .ok (decide (k < v)) := cB (c2 h rfl rfl)
theorem mR {f : ME} {ρ : bM} {v : Int} (k : Int) (h : f ρ = .ok (.int v)) : mB (m2 cP f (kc (.int k))) ρ = .ok (v == k) := cB (c2 h rfl (pK v k))
end Jm
end
section
namespace Jm
open PySem PySem.Spec PyProof.Rows L2 R
variable [bP]
theorem cA {f g : MT} {x y : Bool} {ρ : bM} (q1 : f ρ = .ok x) (q2 : x = true -> g ρ = .ok y) : mY f g ρ = .ok (x && y) := by
 cases x with
 | true => simp [mY, q1, q2 rfl, bC.bind]
 | false => simp [mY, q1, bC.bind]
theorem cO {f g : MT} {x y : Bool} {ρ : bM} (q1 : f ρ = .ok x) (q2 : x = false -> g ρ = .ok y) : jL f g ρ = .ok (x || y) := by
 cases x with
 | false => simp [jL, q1, q2 rfl, bC.bind]
 | true => simp [jL, q1, bC.bind]
theorem qY {f : ME} {ρ : bM} {i : Int} (h : f ρ = .ok (.int i)) (h0 : 0 <= i) (h1 : i <= 100000) : gP f ρ = .ok (upTo 0 i.toNat) := by
 unfold gP
 rw [h]
 show kH (.int i) = _
 simp only [kH]
 rw [if_pos ⟨by omega, by omega⟩]
def XS (m : Nat) (d : D) : Prop := ∃ s : Sm, d = s.d /\ s.ok /\ s.h <= m /\ s.u.length <= 60 * 10 ^ m
def XB (m : Nat) (d : D) : Prop := ∃ ys, d = .tup ys /\ ys.length <= 4 /\ ∀ y ∈ ys, XS m y
theorem vJ {m : Nat} : ∀ ys : List D, (∀ y ∈ ys, XS m y) -> ys.length <= 900 -> ∃ b : Sms, ys = b.d /\ b.ok /\ b.h <= m /\ b.u.length <= b.d.length * (60 * 10 ^ m)
 | [], _, _ => ⟨.nil, rfl, trivial, Nat.zero_le _, by simp [Sms.u]⟩
 | y :: r, h, hl => by
  simp only [List.length_cons] at hl
  obtain ⟨e, rfl, h1, h2, h3⟩ := h y List.mem_cons_self
  obtain ⟨ps, rfl, p1, p2, p3⟩ := vJ r (fun z hz => h z (List.mem_cons_of_mem _ hz)) bF
  refine ⟨.cons e ps, rfl, by simp only [Sms.ok]; exact ⟨h1, p1, by omega⟩, by simp only [Sms.h]; omega, ?_⟩
  simp only [Sms.u, Sms.d, List.length_append, List.length_cons]
  rw [Nat.add_comm e.u.length, Nat.add_mul, Nat.one_mul]
  exact Nat.add_le_add p3 h3
section
variable (C C' : CT) (ns es ps : List D)
structure Mk (C : CT) (ns es : List D) : Prop where
 dr : ∀ (nb k : Int), gW k = true -> ∃ v : Int, C .q9 [.int nb, .int k] = .ok (.int v)
 ex : ∀ (m : Nat) (nb : Int), m <= 2 -> ∃ d, C .q13 [.int nb, .lst ns, .lst es, .int (m : Int)] = .ok d /\ XE m d
theorem fI3 (nb : Int) (hn : lX ns) (he : nM es) (hp : qX ps) (M : Mk C ns es) : gB ((xI C C') [.val (.int nb), .val (.lst ns), .val (.lst es), .val (.lst ps), .no, .no, .no, .no, .no, .no]) (XS 0) := by
 unfold xI
 obtain ⟨x, ex, mx⟩ := xY (i := 1) (xs := ns) (ρ := [.val (.int nb), .val (.lst ns), .val (.lst es), .val (.lst ps), .no, .no, .no, .no, .no, .no]) rfl (jI (i := 0) (v := nb) 16 (by decide) rfl) hn.1
 obtain ⟨z, rfl, hz⟩ := hn.2.2 x mx
 refine jH ⟨.str z, ex, (rfl : D.str z = D.str z)⟩ fun d hd => ?_
 subst hd
 obtain ⟨v, hv⟩ := M.dr nb 1 (by decide)
 obtain ⟨_, hE, e, rfl, o1, o2, o3⟩ := M.ex 2 v bF
 refine jH (P := fun d => e.d = d) ⟨e.d, a4 (a2 rfl rfl hv) rfl rfl rfl hE, rfl⟩ fun d hd => ?_
 subst hd
 refine jH (P := fun d => d = .int (nb % 16)) ⟨_, jJ 16 (by decide) rfl, rfl⟩ fun d hd => ?_
 subst hd
 show gB (bD (bO _ _ bW) _ [.val (.int nb), .val (.lst ns), .val (.lst es), .val (.lst ps), .val (.str z), .val e.d, .val (.int (nb % 16)), .no, .no, .no]) (XS 0)
 generalize hρ : ([.val (.int nb), .val (.lst ns), .val (.lst es), .val (.lst ps), .val (.str z), .val e.d, .val (.int (nb % 16)), .no, .no, .no] : bM) = ρ
 have r0 : gv 0 ρ = .ok (.int nb) := by rw [<- hρ]; rfl
 have r1 : gv 1 ρ = .ok (.lst ns) := by rw [<- hρ]; rfl
 have r2 : gv 2 ρ = .ok (.lst es) := by rw [<- hρ]; rfl
 have r3 : gv 3 ρ = .ok (.lst ps) := by rw [<- hρ]; rfl
 have r4 : gv 4 ρ = .ok (.str z) := by rw [<- hρ]; rfl
 have r5 : gv 5 ρ = .ok e.d := by rw [<- hρ]; rfl
 have r6 : gv 6 ρ = .ok (.int (nb % 16)) := by rw [<- hρ]; rfl
 have fe : e.fit := ⟨o1, o2⟩
 have o3' : e.u.length <= 49 := o3
 refine lA (ltv 4 r6) (fun _ => lY ⟨_, a3 rfl r4 r5 rfl, .let_ z e, rfl, ⟨hz, fe⟩, Nat.zero_le _, by simp only [Sm.u, List.length_cons]; omega⟩) fun _ => ?_
 refine lA (ltv 6 r6) (fun _ => lY ⟨_, a2 rfl r5 rfl, .tel e, rfl, fe, Nat.zero_le _, by simp only [Sm.u]; omega⟩) fun _ => ?_
 refine lA (mR 6 r6) (fun _ => lY ⟨_, a2 rfl r4 rfl, .get z, rfl, hz, Nat.zero_le _, by simp [Sm.u]⟩) fun _ => ?_
 refine lA (mR 7 r6) (fun _ => lY ⟨_, a2 rfl r5 rfl, .giv e, rfl, fe, Nat.zero_le _, by simp only [Sm.u]; omega⟩) fun _ => ?_
 refine lA (cA (mR 8 r6) fun _ => gtv 0 (bT5 r3)) (fun hc => ?_) fun _ => ?_
 ·rw [Bool.and_eq_true, decide_eq_true_eq] at hc
  obtain ⟨y, ey, my⟩ := xY r3 (jI 256 (by decide) r0) bF
  obtain ⟨u, rfl, hu⟩ := hp.2 y my
  exact lY ⟨_, a3 rfl r4 ey rfl, .new z u, rfl, ⟨hz, hu⟩, Nat.zero_le _, by simp [Sm.u]⟩
 refine lA (mR 9 r6) (fun _ => lY ⟨_, a3 rfl r4 r5 rfl, .han z e, rfl, ⟨hz, fe⟩, Nat.zero_le _, by simp only [Sm.u, List.length_cons]; omega⟩) fun _ => ?_
 refine lA (mR 10 r6) (fun _ => lY ⟨_, a3 rfl r4 (a2 rfl (c2 rfl (jJ 4 (by decide) (jI 256 (by decide) r0)) rfl) rfl) rfl, .han z (.num (1 + nb / 256 % 4)), rfl, ⟨hz, trivial, Nat.zero_le _⟩, Nat.zero_le _, by simp [Sm.u, Ee.u]⟩) fun _ => ?_
 refine lA (mR 11 r6) (fun _ => ?_) fun _ => ?_
 ·obtain ⟨y, ey, my⟩ := xY r1 (jI 256 (by decide) r0) hn.1
  obtain ⟨u, rfl, hu⟩ := hn.2.2 y my
  exact lY ⟨_, a3 rfl r4 ey rfl, .awa z u, rfl, ⟨hz, hu⟩, Nat.zero_le _, by simp [Sm.u]⟩
 refine lA (gtv 0 (bT5 r2)) (fun hc => ?_) fun _ => xW ⟨_, a2 rfl r5 rfl, .tel e, rfl, fe, Nat.zero_le _, by simp only [Sm.u]; omega⟩
 have hc' := of_decide_eq_true hc
 obtain ⟨y, ey, my⟩ := xY r2 (jI 256 (by decide) r0) bF
 obtain ⟨u, i, rfl, hu, i0, i4⟩ := he.2 y my
 refine xX ?_
 have s2 : nV 7 8 (m2 bI (gv 2) (m2 bY (m2 cN (gv 0) (kc (.int 256))) (mA dJ (aC (gv 2) (bB))))) ρ = .ok (.nx ((ρ.set 7 (.val (.str u))).set 8 (.val (.int i)))) := by
  unfold nV
  rw [ey]; rfl
 have st : ∀ R : MS, bD (nV 7 8 (m2 bI (gv 2) (m2 bY (m2 cN (gv 0) (kc (.int 256))) (mA dJ (aC (gv 2) (bB)))))) R ρ = R [.val (.int nb), .val (.lst ns), .val (.lst es), .val (.lst ps), .val (.str z), .val e.d, .val (.int (nb % 16)), .val (.str u), .val (.int i), .no] := fun R => by
  unfold bD
  rw [s2, <- hρ]; rfl
 unfold gB
 rw [st]
 refine xX ?_
 obtain ⟨ys, hys, ly, py⟩ := xV (g := mA (C .q13) (aC (mA (C .q9) (aC (gv 3) (aC (m2 bV (gv 0) (kc (.int 2))) (bB)))) (aC (gv 1) (aC (gv 2) (aC (kc (.int 1)) (bB)))))) (rest := [.val (.lst ns), .val (.lst es), .val (.int nb)]) (Pd := XE 1) (upTo 0 i.toNat) fun x hx => by
  obtain ⟨k, rfl, k0, k1⟩ := pJ hx
  obtain ⟨v, ev⟩ := M.dr nb (k + 2) (xU bF bF)
  obtain ⟨d, ed, gdd⟩ := M.ex 1 v bF
  exact ⟨d, a4 (a2 rfl (c2 rfl rfl rfl) ev) rfl rfl rfl ed, gdd⟩
 rw [lI] at ly
 refine jH (P := fun d => d = .lst ys) ⟨_, kC (qY rfl i0 bF) (by rw [lI]; omega) hys, rfl⟩ fun d hd => ?_
 subst hd
 obtain ⟨qs, rfl, q1, q2, q3⟩ := bT4 ys py
 refine lY ⟨_, a3 rfl rfl (a1 rfl rfl) rfl, .do_ u qs, rfl, ⟨hu, q1, by omega, by omega⟩, Nat.zero_le _, ?_⟩
 have q4 : qs.d.length * 7 ^ 1 <= 4 * 7 ^ 1 := Nat.mul_le_mul_right _ bF
 simp only [Sm.u, List.length_cons, List.length_append, List.length_nil]
 omega
theorem XS.mono {d : D} {j m : Nat} (h : XS j d) (hj : j <= m) : XS m d := by
 obtain ⟨s, h1, h2, h3, h4⟩ := h
 exact ⟨s, h1, h2, by omega, Nat.le_trans h4 (Nat.mul_le_mul_left _ (Nat.pow_le_pow_right bF hj))⟩
theorem a5 {mm : List D -> bC D} {f1 f2 f3 f4 f5 : ME} {x1 x2 x3 x4 x5 zz : D} {ρ : bM} (h1 : f1 ρ = .ok x1) (h2 : f2 ρ = .ok x2) (h3 : f3 ρ = .ok x3) (h4 : f4 ρ = .ok x4) (h5 : f5 ρ = .ok x5) (h : mm [x1, x2, x3, x4, x5] = .ok zz) : mA mm (aC f1 (aC f2 (aC f3 (aC f4 (aC f5 (bB)))))) ρ = .ok zz := by simp [mA, aC, bB, h1, h2, h3, h4, h5, bC.bind, h]
theorem a6 {mm : List D -> bC D} {f1 f2 f3 f4 f5 f6 : ME} {x1 x2 x3 x4 x5 x6 zz : D} {ρ : bM} (h1 : f1 ρ = .ok x1) (h2 : f2 ρ = .ok x2) (h3 : f3 ρ = .ok x3) (h4 : f4 ρ = .ok x4) (h5 : f5 ρ = .ok x5) (h6 : f6 ρ = .ok x6) (h : mm [x1, x2, x3, x4, x5, x6] = .ok zz) : mA mm (aC f1 (aC f2 (aC f3 (aC f4 (aC f5 (aC f6 (bB))))))) ρ = .ok zz := by simp [mA, aC, bB, h1, h2, h3, h4, h5, h6, bC.bind, h]
theorem fI4 (m : Nat) (M nb : Int) (hM : M = (m : Int)) (hn : lX ns) (he : nM es) (hp : qX ps) (K : Mk C ns es) (hsh : ∀ nb : Int, ∃ d, C .q14 [.int nb, .lst ns, .lst es, .lst ps] = .ok d /\ XS 0 d)
 (hbl : ∀ m' : Nat, m = m' + 1 -> ∀ nb sz : Int, 0 <= sz -> sz <= 3 -> ∃ d, C .q16 [.int nb, .int sz, .lst ns, .lst es, .lst ps, .int (m' : Int)] = .ok d /\ XB m' d) :
 gB ((xJ C C') [.val (.int nb), .val (.lst ns), .val (.lst es), .val (.lst ps), .val (.int M), .no, .no, .no, .no]) (XS m) := by
 unfold xJ
 refine jH (P := fun d => d = .int (nb % 12)) ⟨_, jJ 12 (by decide) rfl, rfl⟩ fun d hd => ?_
 subst hd
 refine lA (cO (mR (v := M) 0 rfl) fun _ => ltv (v := nb % 12) 9 rfl) (fun _ => lY ?_) fun hc => ?_
 ·obtain ⟨d, ed, gdd⟩ := hsh (nb / 12)
  exact ⟨d, a4 (jI (i := 0) (v := nb) 12 (by decide) rfl) rfl rfl rfl ed, gdd.mono bF⟩
 rw [Bool.or_eq_false_iff] at hc
 obtain ⟨m', rfl⟩ : ∃ m', m = m' + 1 := by
  cases m with
  | zero => rw [hM] at hc; exact absurd hc.1 (by decide)
  | succ m' => exact ⟨m', rfl⟩
 have hsub : gU (.int M) (.int 1) = .ok (.int (m' : Int)) := by
  have e : M - 1 = (m' : Int) := by omega
  show bC.ok (D.int (M - 1)) = _
  rw [e]
 obtain ⟨v1, e1⟩ := K.dr nb 1 (by decide)
 obtain ⟨v2, e2⟩ := K.dr nb 2 (by decide)
 obtain ⟨v3, e3⟩ := K.dr nb 3 (by decide)
 obtain ⟨_, hE, e, rfl, o1, o2, o3⟩ := K.ex 2 v1 bF
 have o3' : e.u.length <= 49 := o3
 refine jH (P := fun d => e.d = d) ⟨e.d, a4 (a2 rfl rfl e1) rfl rfl rfl hE, rfl⟩ fun d hd => ?_
 subst hd
 have b0 : 0 <= nb / 12 % 4 := Int.emod_nonneg _ (by decide)
 have b1' : nb / 12 % 4 < 4 := Int.emod_lt_of_pos _ (by decide)
 obtain ⟨b1, hb1, xs, rfl, lx, gx⟩ := hbl m' rfl v2 (nb / 12 % 4) b0 bF
 refine jH (P := fun d => d = .tup xs) ⟨_, a6 (a2 rfl rfl e2) (jJ 4 (by decide) (jI (i := 0) (v := nb) 12 (by decide) rfl)) rfl rfl rfl (c2 rfl rfl hsub) hb1, rfl⟩ fun d hd => ?_
 subst hd
 show gB (bD (bO _ _ bW) _ [.val (.int nb), .val (.lst ns), .val (.lst es), .val (.lst ps), .val (.int M), .val (.int (nb % 12)), .val e.d, .val (.tup xs), .no]) _
 generalize hρ : ([.val (.int nb), .val (.lst ns), .val (.lst es), .val (.lst ps), .val (.int M), .val (.int (nb % 12)), .val e.d, .val (.tup xs), .no] : bM) = ρ
 have r0 : gv 0 ρ = .ok (.int nb) := by rw [<- hρ]; rfl
 have r1 : gv 1 ρ = .ok (.lst ns) := by rw [<- hρ]; rfl
 have r2 : gv 2 ρ = .ok (.lst es) := by rw [<- hρ]; rfl
 have r3 : gv 3 ρ = .ok (.lst ps) := by rw [<- hρ]; rfl
 have r4 : gv 4 ρ = .ok (.int M) := by rw [<- hρ]; rfl
 have r5 : gv 5 ρ = .ok (.int (nb % 12)) := by rw [<- hρ]; rfl
 have r6 : gv 6 ρ = .ok e.d := by rw [<- hρ]; rfl
 have r7 : gv 7 ρ = .ok (.tup xs) := by rw [<- hρ]; rfl
 have p10 : 1 <= 10 ^ m' := Nat.one_le_pow _ _ bF
 obtain ⟨B, rfl, B1, B2, B3⟩ := vJ xs gx bF
 have B4 : B.u.length <= 4 * (60 * 10 ^ m') := Nat.le_trans B3 (Nat.mul_le_mul_right _ lx)
 refine lA (mR 9 r5) (fun _ => lY ⟨_, a3 rfl r6 r7 rfl, .whi e B, rfl, ⟨⟨o1, o2⟩, B1⟩, by simp only [Sm.h]; omega, by simp only [Sm.u, List.length_append]; rw [Nat.pow_succ]; omega⟩) fun _ => ?_
 refine lA (mR 10 r5) (fun _ => ?_) fun _ => ?_
 ·refine xX ?_
  obtain ⟨x, ex, mx⟩ := xY r1 (jI 48 (by decide) r0) hn.1
  obtain ⟨z, rfl, hz⟩ := hn.2.2 x mx
  refine jH (P := fun d => d = .str z) ⟨_, ex, rfl⟩ fun d hd => ?_
  subst hd
  refine xX ?_
  have w8 : gv 8 (ρ.set 8 (.val (.str z))) = .ok (.str z) := by rw [<- hρ]; rfl
  have w0 : gv 0 (ρ.set 8 (.val (.str z))) = .ok (.int nb) := by rw [<- hρ]; rfl
  refine jH (P := fun d => d = (Ee.bin "<" (.nam z) (.num (nb / 960 % 9))).d) ⟨_, a3 rfl (a2 rfl w8 rfl) (a2 rfl (jJ 9 (by decide) (jI 960 (by decide) w0)) rfl) rfl, rfl⟩ fun q hq => ?_
  subst hq
  generalize hq : (Ee.bin "<" (.nam z) (.num (nb / 960 % 9))).d = q
  have u6 : gv 6 ((ρ.set 8 (.val (.str z))).set 6 (.val q)) = .ok q := by rw [<- hρ]; rfl
  have u7 : gv 7 ((ρ.set 8 (.val (.str z))).set 6 (.val q)) = .ok (.tup B.d) := by rw [<- hρ]; rfl
  have u8 : gv 8 ((ρ.set 8 (.val (.str z))).set 6 (.val q)) = .ok (.str z) := by rw [<- hρ]; rfl
  have el : mA bR (aC (kc (.str "let")) (aC (gv 8) (aC (mA bR (aC (kc (.str "+")) (aC (mA bR (aC (kc (.str "name")) (aC (gv 8) (bB)))) (aC (mA bR (aC (kc (.str "number")) (aC (kc (.int 1)) (bB)))) (bB))))) (bB)))) ((ρ.set 8 (.val (.str z))).set 6 (.val q)) = .ok (Sm.let_ z (.bin "+" (.nam z) (.num 1))).d :=
   a3 rfl u8 (a3 rfl (a2 rfl u8 rfl) (a2 rfl rfl rfl) rfl) rfl
  have lok : XS m' (Sm.let_ z (.bin "+" (.nam z) (.num 1))).d := ⟨_, rfl, ⟨hz, by simp only [Ee.ok]; exact ⟨by decide, by decide, by decide, by decide +kernel, hz, trivial⟩, by simp [Ee.h]⟩, Nat.zero_le _, by simp only [Sm.u, Ee.u, List.length_cons, List.length_append, List.length_nil]; omega⟩
  obtain ⟨B', E', B1', B2', B3'⟩ := vJ (B.d ++ [(Sm.let_ z (.bin "+" (.nam z) (.num 1))).d]) (fun y hy => by
   rcases List.mem_append.mp hy with hy | hy
   ·exact gx y hy
   ·rw [List.mem_singleton.mp hy]; exact lok) (by simp only [List.length_append, List.length_cons, List.length_nil]; omega)
  have B4' : B'.u.length <= 5 * (60 * 10 ^ m') := Nat.le_trans B3' (Nat.mul_le_mul_right _ (by rw [<- E']; simp only [List.length_append, List.length_cons, List.length_nil]; omega))
  refine lY ⟨_, a3 rfl u6 (c2 u7 (a1 el rfl) (cM4 (by simp only [List.length_cons, List.length_nil]; omega))) rfl, .whi (.bin "<" (.nam z) (.num (nb / 960 % 9))) B', by rw [E', <- hq]; rfl, ⟨⟨by simp only [Ee.ok]; exact ⟨by decide, by decide, by decide, by decide +kernel, hz, trivial⟩, by simp [Ee.h]⟩, B1'⟩, by simp only [Sm.h]; omega, ?_⟩
  simp only [Sm.u, Ee.u, List.length_cons, List.length_append, List.length_nil]
  rw [Nat.pow_succ]; omega
 ·have c0 : 0 <= nb / 48 % 3 := Int.emod_nonneg _ (by decide)
  have c1' : nb / 48 % 3 < 3 := Int.emod_lt_of_pos _ (by decide)
  obtain ⟨b2, hb2, ys, rfl, ly, gy⟩ := hbl m' rfl v3 (nb / 48 % 3) c0 bF
  obtain ⟨Y, rfl, Y1, Y2, Y3⟩ := vJ ys gy bF
  have Y4 : Y.u.length <= 4 * (60 * 10 ^ m') := Nat.le_trans Y3 (Nat.mul_le_mul_right _ ly)
  exact xW ⟨_, a4 rfl r6 r7 (a6 (a2 r0 rfl e3) (jJ 3 (by decide) (jI 48 (by decide) r0)) r1 r2 r3 (c2 r4 rfl hsub) hb2) rfl, .ife e B Y, rfl, ⟨⟨o1, o2⟩, B1, Y1⟩, by simp only [Sm.h]; omega, by simp only [Sm.u, List.length_append]; rw [Nat.pow_succ]; omega⟩
theorem fI5 (m : Nat) (M nb sz : Int) (hM : M = (m : Int)) (h0 : 0 <= sz) (h4 : sz <= 3) (K : ∀ (nb k : Int), gW k = true -> ∃ v : Int, C .q9 [.int nb, .int k] = .ok (.int v))
 (hst : ∀ nb : Int, ∃ d, C .q15 [.int nb, .lst ns, .lst es, .lst ps, .int M] = .ok d /\ XS m d) : gB ((xK C C') [.val (.int nb), .val (.int sz), .val (.lst ns), .val (.lst es), .val (.lst ps), .val (.int M), .no]) (XB m) := by
 unfold xK
 obtain ⟨ys, hys, ly, py⟩ := xV (g := mA (C .q15) (aC (mA (C .q9) (aC (gv 5) (aC (gv 0) (bB)))) (aC (gv 1) (aC (gv 2) (aC (gv 3) (aC (gv 4) (bB))))))) (rest := [.val (.lst ns), .val (.lst es), .val (.lst ps), .val (.int M), .val (.int nb)]) (Pd := XS m) (upTo 0 sz.toNat) fun x hx => by
  obtain ⟨k, rfl, k0, k1⟩ := pJ hx
  obtain ⟨v, ev⟩ := K nb k (xU k0 bF)
  obtain ⟨d, ed, gdd⟩ := hst v
  exact ⟨d, a5 (a2 rfl rfl ev) rfl rfl rfl rfl ed, gdd⟩
 rw [lI] at ly
 refine jH (P := fun d => d = .lst ys) ⟨_, kC (qY rfl h0 bF) (by rw [lI]; omega) hys, rfl⟩ fun d hd => ?_
 subst hd
 exact xW ⟨.tup ys, a1 rfl rfl, ys, rfl, by omega, py⟩
end
theorem cN9 (n : Nat) {ns es : List D} (hn : lX ns) (he : nM es) : Mk (Ph (n + 7)) ns es :=
 ⟨fun nb k hk => bE6 (n + 4) nb k hk, fun m nb hm => by
  have e : n + 7 = (n + 2 - m) + m + 5 := by omega
  rw [e]
  exact cN7 m _ nb ns es hn he⟩
theorem fI6 (n : Nat) (nb : Int) {ns es ps : List D} (hn : lX ns) (he : nM es) (hp : qX ps) : ∃ d, Ph (n + 8) .q14 [.int nb, .lst ns, .lst es, .lst ps] = .ok d /\ XS 0 d := by
 show ∃ d, ((xI (Ph (n + 7)) (Ph (n + 5))) [.val (.int nb), .val (.lst ns), .val (.lst es), .val (.lst ps), .no, .no, .no, .no, .no, .no]).bind cK = .ok d /\ XS 0 d
 exact fI3 _ _ ns es ps nb hn he hp (cN9 n hn he)
mutual
theorem cO0 (m n : Nat) (nb : Int) {ns es ps : List D} (hn : lX ns) (he : nM es) (hp : qX ps) : ∃ d, Ph (n + 2 * m + 12) .q15 [.int nb, .lst ns, .lst es, .lst ps, .int (m : Int)] = .ok d /\ XS m d := by
 show ∃ d, ((xJ (Ph (n + 2 * m + 11)) (Ph (n + 2 * m + 9))) [.val (.int nb), .val (.lst ns), .val (.lst es), .val (.lst ps), .val (.int (m : Int)), .no, .no, .no, .no]).bind cK = .ok d /\ _
 refine fI4 _ _ ns es ps m _ nb rfl hn he hp (cN9 (n + 2 * m + 4) hn he) (fun nb => fI6 (n + 2 * m + 3) nb hn he hp) fun m' hm nb sz h0 h4 => ?_
 subst hm
 exact block_made m' n nb sz h0 h4 hn he hp
theorem block_made (m n : Nat) (nb sz : Int) (h0 : 0 <= sz) (h4 : sz <= 3) {ns es ps : List D} (hn : lX ns) (he : nM es) (hp : qX ps) : ∃ d, Ph (n + 2 * m + 13) .q16 [.int nb, .int sz, .lst ns, .lst es, .lst ps, .int (m : Int)] = .ok d /\ XB m d := by
 show ∃ d, ((xK (Ph (n + 2 * m + 12)) (Ph (n + 2 * m + 10))) [.val (.int nb), .val (.int sz), .val (.lst ns), .val (.lst es), .val (.lst ps), .val (.int (m : Int)), .no]).bind cK = .ok d /\ _
 exact fI5 _ _ ns es ps m _ nb sz rfl h0 h4 (fun nb k hk => bE6 (n + 2 * m + 9) nb k hk) fun nb => cO0 m n nb hn he hp
end
end Jm
end
section
namespace Jm
open PySem PySem.Spec PyProof.Rows L2 R
variable [bP]
theorem xZ {p : MT} {g : ME} {rest : bM} {Pd : D -> Prop} : ∀ xs : List D, (∀ x ∈ xs, ∃ b, p (.val x :: rest) = .ok b /\ (b = true -> ∃ d, g (.val x :: rest) = .ok d /\ Pd d)) -> ∃ ys, dL p g rest xs = .ok ys /\ ys.length <= xs.length /\ ∀ y ∈ ys, Pd y
 | [], _ => ⟨[], rfl, Nat.le_refl _, fun y hy => by cases hy⟩
 | x :: r, h => by
  obtain ⟨b, e0, h1⟩ := h x List.mem_cons_self
  obtain ⟨ys, e2, l2, p2⟩ := xZ r fun y hy => h y (List.mem_cons_of_mem _ hy)
  cases b with
  | false =>
   refine ⟨ys, ?_, by rw [List.length_cons]; omega, p2⟩
   rw [dL, e0]
   exact e2
  | true =>
   obtain ⟨d, e1, p1⟩ := h1 rfl
   refine ⟨d :: ys, ?_, by rw [List.length_cons, List.length_cons]; omega, fun y hy => ?_⟩
   ·rw [dL, e0]
    show bC.bind (g (.val x :: rest)) _ = _
    rw [e1, e2]; rfl
   ·rcases List.mem_cons.mp hy with z | z
    ·subst z; exact p1
    ·exact p2 y z
def Sl (xs : List D) : Prop := ∀ x ∈ xs, ∃ z : Str, x = .str z /\ z.length <= 8
def Dl (m : Int) (xs : List D) : Prop := ∀ x ∈ xs, ∃ (z : Str) (i : Int), x = .tup [.str z, .int i] /\ z.length <= 8 /\ 0 <= i /\ i <= m
theorem cO1 {xs : List D} {k : Int} (h0 : 0 <= k) (h1 : k <= 3) (hl : xs.length <= 1000) : fN (.lst xs) (.int k) = .ok (.lst ((List.replicate k.toNat xs).flatten)) := by
 simp only [fN]
 exact if_pos ⟨h0, by omega, hl⟩
theorem cO2 {xs : List D} {k : Nat} {x : D} (h : x ∈ (List.replicate k xs).flatten) : x ∈ xs := by
 obtain ⟨l, h1, h2⟩ := List.mem_flatten.mp h
 rw [List.eq_of_mem_replicate h1] at h2
 exact h2
theorem cO3 {xs : List D} {lo hi : Option Int} {x : D} (h : x ∈ fZ xs lo hi) : x ∈ xs := by
 unfold fZ at h
 exact List.mem_of_mem_drop (List.mem_of_mem_take h)
theorem cO4 {f g : ME} {ρ : bM} {xs : List D} {k : Int} (h : f ρ = .ok (.lst xs)) (hg : g ρ = .ok (.int k)) : hR f (hG) (hJ g) ρ = .ok (.lst (fZ xs none (some k))) := by
 simp [hR, hG, hJ, h, hg, bC.bind, zS, qH]
theorem cO5 (a : Int) : 0 <= a % 3 /\ a % 3 < 3 := ⟨Int.emod_nonneg _ (by decide), Int.emod_lt_of_pos _ (by decide)⟩
def yA (d : D) : Prop := ∃ a b c, d = .tup [.lst a, .lst b, .lst c] /\ lX a /\ nM b /\ qX c
theorem cO6 (C : CT) (nb : Int) (W Ds : D) (N L : List D) (hN : lX N) (hL : Dl 4 L) (hl : L.length <= 200) :
 gB ((bX (mA bR (aC (gv 3) (aC (gv 4) (aC (dU [0] (cV (gv 4)) (dB (mB (m2 gK (gv 1) (m2 bV (kc (.int 1)) (m2 bY (m2 cN (gv 2) (kc (.int 144))) (kc (.int 2))))))) (dB (gv 0))) (bB)))))) [.val (.int nb), .val W, .val Ds, .val (.lst N), .val (.lst L)]) yA := by
 obtain ⟨ys, hys, ly, py⟩ := xZ (p := dB (mB (m2 gK (gv 1) (m2 bV (kc (.int 1)) (m2 bY (m2 cN (gv 2) (kc (.int 144))) (kc (.int 2))))))) (g := dB (gv 0)) (rest := [.val (.int nb)]) (Pd := fun d => ∃ z : Str, d = .str z /\ z.length <= 8) L fun x hx => by
  obtain ⟨z, i, rfl, hz, _, _⟩ := hL x hx
  refine ⟨decide (i < 1 + nb / 144 % 2), ?_, fun _ => ⟨.str z, rfl, z, rfl, hz⟩⟩
  show mB (m2 gK (gv 1) (m2 bV (kc (.int 1)) (m2 bY (m2 cN (gv 2) (kc (.int 144))) (kc (.int 2))))) [.val (.str z), .val (.int i), .val (.int nb)] = _
  exact cB (c2 (x := .int i) rfl (c2 rfl (jJ 2 (by decide) (jI (i := 2) (v := nb) 144 (by decide) rfl)) rfl) rfl)
 exact xW ⟨_, a3 rfl rfl (kC (nI (xs := L) rfl) bF hys) rfl, N, L, ys, rfl, hN, ⟨by omega, fun x hx => hL x hx⟩, ⟨by omega, py⟩⟩
theorem fI7 (C C' : CT) (nb : Int) (w0 : Str) (ws ds : List D) (hw0 : w0.length <= 8) (hw : Sl ws) (hlw : ws.length <= 20) (hd : Dl 3 ds) (hld : ds.length <= 10) :
 gB ((bD3 C C') [.val (.int nb), .val (.lst (.str w0 :: ws)), .val (.lst ds), .no, .no]) yA := by
 unfold bD3
 have k3 := cO5 nb
 have k12 := cO5 (nb / 12)
 obtain ⟨ys, hys, ly, py⟩ := xZ (p := dB (fun _ => .ok true)) (g := dB (gv 0)) (rest := []) (Pd := fun d => ∃ z : Str, d = .str z /\ z.length <= 8) ds fun x hx => by
  obtain ⟨z, i, rfl, hz, _, _⟩ := hd x hx
  exact ⟨true, rfl, fun _ => ⟨.str z, rfl, z, rfl, hz⟩⟩
 have lr : ∀ (xs : List D) (k : Nat), k <= 3 -> ((List.replicate k xs).flatten).length <= 3 * xs.length := fun xs k hk => by
  rw [wH]; exact Nat.mul_le_mul_right _ hk
 have lc : ∀ (xs : List D) (k : Int), (fZ xs none (some k)).length <= xs.length := fun xs k => cD5 xs _ _
 have hws : (D.str w0 :: ws).length <= 21 := by rw [List.length_cons]; omega
 have e1 : m2 fN (gv 1) (m2 bV (kc (.int 1)) (m2 bY (gv 0) (kc (.int 3)))) [.val (.int nb), .val (.lst (.str w0 :: ws)), .val (.lst ds), .no, .no] = .ok (.lst ((List.replicate (1 + nb % 3).toNat (D.str w0 :: ws)).flatten)) :=
  c2 rfl (c2 rfl (jJ (v := nb) 3 (by decide) rfl) rfl) (cO1 bF bF bF)
 have e2 : hR (dU [] (cV (gv 2)) (dB (fun _ => .ok true)) (dB (gv 0))) (hG) (hJ (m2 bY (m2 cN (gv 0) (kc (.int 3))) (kc (.int 2)))) [.val (.int nb), .val (.lst (.str w0 :: ws)), .val (.lst ds), .no, .no] = .ok (.lst (fZ ys none (some (nb / 3 % 2)))) :=
  cO4 (kC (nI (xs := ds) rfl) bF hys) (jJ 2 (by decide) (jI (i := 0) (v := nb) 3 (by decide) rfl))
 have e3 : hR (mA gJ (aC (kc (.str "zz")) (bB))) (hG) (hJ (m2 bY (m2 cN (gv 0) (kc (.int 6))) (kc (.int 2)))) [.val (.int nb), .val (.lst (.str w0 :: ws)), .val (.lst ds), .no, .no] = .ok (.lst (fZ [.str "zz"] none (some (nb / 6 % 2)))) :=
  cO4 (a1 rfl rfl) (jJ 2 (by decide) (jI (i := 0) (v := nb) 6 (by decide) rfl))
 have l1 := lr (D.str w0 :: ws) (1 + nb % 3).toNat bF
 have l2 := lc ys (nb / 3 % 2)
 have l3 : (fZ [D.str "zz"] none (some (nb / 6 % 2))).length <= 1 := lc [D.str "zz"] (nb / 6 % 2)
 have l0 : 0 < ((List.replicate (1 + nb % 3).toNat (D.str w0 :: ws)).flatten).length := by
  rw [wH, List.length_cons]
  exact Nat.mul_pos bF bF
 generalize hA : (List.replicate (1 + nb % 3).toNat (D.str w0 :: ws)).flatten = A at e1 l1 l0
 generalize hB : fZ ys none (some (nb / 3 % 2)) = B at e2 l2
 generalize hZ : fZ [D.str "zz"] none (some (nb / 6 % 2)) = Z at e3 l3
 have hN : lX ((A ++ B) ++ Z) := by
  refine ⟨by simp only [List.length_append]; omega, by simp only [List.length_append]; omega, fun x hx => ?_⟩
  rcases List.mem_append.mp hx with hx | hx
  ·rcases List.mem_append.mp hx with hx | hx
   ·rw [<- hA] at hx
    rcases List.mem_cons.mp (cO2 hx) with rfl | hx
    ·exact ⟨w0, rfl, hw0⟩
    ·exact hw x hx
   ·rw [<- hB] at hx; exact py x (cO3 hx)
  ·rw [<- hZ] at hx
   rw [List.mem_singleton.mp (cO3 hx)]
   exact ⟨"zz", rfl, by decide +kernel⟩
 refine jH (P := fun d => d = .lst ((A ++ B) ++ Z)) ⟨_, c2 (c2 e1 e2 (lV bF)) e3 (lV (by rw [List.length_append]; omega)), rfl⟩ fun d hd' => ?_
 subst hd'
 show gB (bD _ _ [.val (.int nb), .val (.lst (.str w0 :: ws)), .val (.lst ds), .val (.lst ((A ++ B) ++ Z)), .no]) _
 generalize hNn : (A ++ B) ++ Z = N at hN
 have f1 : m2 fN (gv 2) (m2 bV (kc (.int 1)) (m2 bY (m2 cN (gv 0) (kc (.int 12))) (kc (.int 3)))) [.val (.int nb), .val (.lst (.str w0 :: ws)), .val (.lst ds), .val (.lst N), .no] = .ok (.lst ((List.replicate (1 + nb / 12 % 3).toNat ds).flatten)) :=
  c2 rfl (c2 rfl (jJ 3 (by decide) (jI (i := 0) (v := nb) 12 (by decide) rfl)) rfl) (cO1 bF bF bF)
 have g1 := lr ds (1 + nb / 12 % 3).toNat bF
 have g2 : Dl 4 ((List.replicate (1 + nb / 12 % 3).toNat ds).flatten) := fun x hx => by
  obtain ⟨z, i, h1, h2, h3, h4⟩ := hd x (cO2 hx)
  exact ⟨z, i, h1, h2, h3, by omega⟩
 generalize (List.replicate (1 + nb / 12 % 3).toNat ds).flatten = L at f1 g1 g2
 refine jH (P := fun d => d = .lst L) ⟨_, f1, rfl⟩ fun d hd' => ?_
 subst hd'
 show gB (bD _ _ [.val (.int nb), .val (.lst (.str w0 :: ws)), .val (.lst ds), .val (.lst N), .val (.lst L)]) _
 have dl_app : ∀ {a b : List D}, Dl 4 a -> Dl 4 b -> Dl 4 (a ++ b) := fun {a b} h1 h2 x hx => by
  rcases List.mem_append.mp hx with hx | hx
  ·exact h1 x hx
  ·exact h2 x hx
 have last : ∀ L : List D, Dl 4 L -> L.length <= 60 -> gB (bD (bO (mB (m2 cP (m2 bY (m2 cN (gv 0) (kc (.int 72))) (kc (.int 2))) (kc (.int 1)))) (bD (bZ 4 (m2 bV (gv 4) (dU [] (cV (gv 2)) (dB (fun _ => .ok true)) (dB (mA bR (aC (gv 0) (aC (m2 bV (gv 1) (kc (.int 1))) (bB)))))))) (bZ 4 (m2 bV (gv 4) (dU [] (cV (gv 2)) (dB (mB (m2 kR (gv 1) (kc (.int 0))))) (dB (mA bR (aC (gv 0) (aC (m2 gU (gv 1) (kc (.int 1))) (bB))))))))) (bW)) (bX (mA bR (aC (gv 3) (aC (gv 4) (aC (dU [0] (cV (gv 4)) (dB (mB (m2 gK (gv 1) (m2 bV (kc (.int 1)) (m2 bY (m2 cN (gv 2) (kc (.int 144))) (kc (.int 2))))))) (dB (gv 0))) (bB)))))) [.val (.int nb), .val (.lst (.str w0 :: ws)), .val (.lst ds), .val (.lst N), .val (.lst L)]) yA := by
  intro L hL hl
  refine lA (mR 1 (jJ 2 (by decide) (jI (i := 0) (v := nb) 72 (by decide) rfl))) (fun _ => ?_) fun _ => cO6 C nb _ _ N L hN hL bF
  refine xX ?_
  obtain ⟨us, hus, lu, pu⟩ := xZ (p := dB (fun _ => .ok true)) (g := dB (mA bR (aC (gv 0) (aC (m2 bV (gv 1) (kc (.int 1))) (bB))))) (rest := []) (Pd := fun d => ∃ (z : Str) (i : Int), d = .tup [.str z, .int i] /\ z.length <= 8 /\ 0 <= i /\ i <= 4) ds fun x hx => by
   obtain ⟨z, i, rfl, hz, i0, i3⟩ := hd x hx
   exact ⟨true, rfl, fun _ => ⟨.tup [.str z, .int (i + 1)], rfl, z, i + 1, rfl, hz, by omega, by omega⟩⟩
  obtain ⟨vs, hvs, lv, pv⟩ := xZ (p := dB (mB (m2 kR (gv 1) (kc (.int 0))))) (g := dB (mA bR (aC (gv 0) (aC (m2 gU (gv 1) (kc (.int 1))) (bB))))) (rest := []) (Pd := fun d => ∃ (z : Str) (i : Int), d = .tup [.str z, .int i] /\ z.length <= 8 /\ 0 <= i /\ i <= 4) ds fun x hx => by
   obtain ⟨z, i, rfl, hz, i0, i3⟩ := hd x hx
   refine ⟨decide (0 < i), cB (c2 (x := .int i) (y := .int 0) (ρ := [.val (.str z), .val (.int i)]) rfl rfl rfl), fun hb => ⟨.tup [.str z, .int (i - 1)], rfl, z, i - 1, rfl, hz, ?_, by omega⟩⟩
   have := of_decide_eq_true hb
   omega
  refine jH (P := fun d => d = .lst (L ++ us)) ⟨_, c2 rfl (kC (nI (xs := ds) rfl) bF hus) (lV bF), rfl⟩ fun d hd' => ?_
  subst hd'
  refine jH (P := fun d => d = .lst ((L ++ us) ++ vs)) ⟨_, c2 (x := .lst (L ++ us)) rfl (kC (nI (xs := ds) rfl) bF hvs) (lV (by rw [List.length_append]; omega)), rfl⟩ fun d hd' => ?_
  subst hd'
  exact cO6 C nb _ _ N _ hN (dl_app (dl_app hL pu) pv) (by simp only [List.length_append]; omega)
 refine lA (mR 1 (jJ 2 (by decide) (jI (i := 0) (v := nb) 36 (by decide) rfl))) (fun _ => ?_) fun _ => last L g2 bF
 refine jH (P := fun d => d = .lst (L ++ [.tup [.str "zy", .int 0], .tup [.str w0, .int 1]])) ⟨_, c2 (x := .lst L) rfl (a2 (a2 rfl rfl rfl) (a2 (c2 (x := .lst (.str w0 :: ws)) (y := .int 0) rfl rfl (ixL 0 _ rfl)) rfl rfl) rfl) (lV (by simp only [List.length_cons, List.length_nil]; omega)), rfl⟩ fun d hd' => ?_
 subst hd'
 refine last _ (dl_app g2 fun x hx => ?_) (by simp only [List.length_append, List.length_cons, List.length_nil]; omega)
 simp only [List.mem_cons, List.not_mem_nil, or_false] at hx
 rcases hx with rfl | rfl
 ·exact ⟨"zy", 0, rfl, by decide +kernel, by omega, by omega⟩
 ·exact ⟨w0, 1, rfl, hw0, by omega, by omega⟩
theorem cO7 (n : Nat) (nb : Int) (w0 : Str) (ws ds : List D) (hw0 : w0.length <= 8) (hw : Sl ws) (hlw : ws.length <= 20) (hd : Dl 3 ds) (hld : ds.length <= 10) : ∃ d, Ph (n + 3) .q24 [.int nb, .lst (.str w0 :: ws), .lst ds] = .ok d /\ yA d :=
 fI7 (Ph (n + 2)) (Ph n) nb w0 ws ds hw0 hw hlw hd hld
end Jm
end
section
namespace Jm
open PySem PySem.Spec PyProof.Rows L2 R
variable [bP]
theorem cO8 : ∀ ys : List D, (∀ y ∈ ys, ∃ s : Str, y = .str s /\ s.length <= 8) -> ∃ ps : List Str, ys = ps.map .str /\ ∀ p ∈ ps, p.length <= 8
 | [], _ => ⟨[], rfl, fun p hp => by cases hp⟩
 | y :: r, h => by
  obtain ⟨s, rfl, hs⟩ := h y List.mem_cons_self
  obtain ⟨ps, rfl, hp⟩ := cO8 r fun z hz => h z (List.mem_cons_of_mem _ hz)
  exact ⟨s :: ps, rfl, fun p hq => by
   rcases List.mem_cons.mp hq with rfl | hq
   ·exact hs
   ·exact hp p hq⟩
theorem cO9 {i j l : Nat} {f : ME} {Z : MS} {ρ : bM} {a b c : D} (h : f ρ = .ok (.tup [a, b, c])) : bD (sB i j l f) Z ρ = Z (((ρ.set i (.val a)).set j (.val b)).set l (.val c)) := by
 refine dZ ?_
 unfold sB
 rw [h]; rfl
def bE8 (x0 : Str × Int) (d : D) : Prop := ∃ x : Dd, d = x.d /\ x.nm = x0.1 /\ (x.ps.length : Int) = x0.2 /\ x.os.length = 1 /\ x.b.ok /\ x.b.h <= 2 /\ x.b.u.length <= 24000
structure bE9 (ws : List Str) (ds : List (Str × Int)) : Prop where
 w0 : 0 < ws.length
 w1 : ws.length <= 6
 w2 : ∀ x ∈ ws, x.length <= 8
 d1 : ds.length <= 4
 d2 : ∀ p ∈ ds, p.1.length <= 8 /\ 0 <= p.2 /\ p.2 <= 3
theorem bE9.dl {ws : List Str} {ds : List (Str × Int)} (h : bE9 ws ds) : Dl 3 (ds.map dP) := fun x hx => by
 obtain ⟨p, hp, rfl⟩ := List.mem_map.mp hx
 obtain ⟨a, b, c⟩ := h.d2 p hp
 exact ⟨p.1, p.2, rfl, a, b, c⟩
theorem bT7 {ws : List Str} (h : ∀ x ∈ ws, x.length <= 8) : Sl (ws.map .str) := fun x hx => by
 obtain ⟨p, hp, rfl⟩ := List.mem_map.mp hx
 exact ⟨p, rfl, h p hp⟩
theorem fI8 (C C' : CT) (nb sn : Int) (k : Nat) {N : Int -> Str} {ws : List Str} {ds : List (Str × Int)} {x0 : Str × Int} (hk : ds[k]? = some x0) (hW : bE9 ws ds) (hnm : ∀ j : Int, C .q11 [.int sn, .int j] = .ok (.str (N j))) (hN : ∀ j, (N j).length <= 8)
 (hms : ∀ (nb : Int) (w0 : Str) (wr : List D), w0.length <= 8 -> Sl wr -> wr.length <= 20 -> ∃ d, C .q24 [.int nb, .lst (.str w0 :: wr), bJ ds] = .ok d /\ yA d)
 (hdr : ∀ (nb k : Int), gW k = true -> ∃ v : Int, C .q9 [.int nb, .int k] = .ok (.int v))
 (hbk : ∀ (nb sz : Int) (ns es ps : List D), 0 <= sz -> sz <= 3 -> lX ns -> nM es -> qX ps -> ∃ d, C .q16 [.int nb, .int sz, .lst ns, .lst es, .lst ps, .int 2] = .ok d /\ XB 2 d) :
 gB ((bD4 C C') [.val (.int nb), .val (.int sn), .val (.int (k : Int)), .val (dW ws), .val (bJ ds), .no, .no, .no, .no, .no, .no]) (bE8 x0) := by
 unfold bD4 gX
 obtain ⟨x1, x2, x3⟩ := hW.d2 x0 (List.mem_of_getElem? hk)
 have ik : ∀ r : bM, m2 bI (gv 4) (gv 2) (.val (.int nb) :: .val (.int sn) :: .val (.int (k : Int)) :: .val (dW ws) :: .val (bJ ds) :: r) = .ok (dP x0) := fun r => c2 (x := bJ ds) (y := .int (k : Int)) rfl rfl (ixL k _ (by rw [List.getElem?_map, hk]; rfl))
 obtain ⟨ys, hys, ly, py⟩ := xV (g := mA (C .q11) (aC (gv 1) (aC (m2 bV (kc (.int 16)) (gv 0)) (bB)))) (rest := [.val (.int sn)]) (Pd := fun d => ∃ s : Str, d = .str s /\ s.length <= 8) (upTo 0 x0.2.toNat) fun x hx => by
  obtain ⟨j, rfl, j0, j1⟩ := pJ hx
  exact ⟨_, a2 rfl (c2 rfl rfl rfl) (hnm (16 + j)), _, rfl, hN _⟩
 rw [lI] at ly
 obtain ⟨ps, rfl, hps⟩ := cO8 ys py
 rw [List.length_map] at ly
 refine jH (P := fun d => d = dW ps) ⟨_, kC (qY (c2 (x := dP x0) (y := .int 1) (ik _) rfl (cR 1 _ rfl)) x2 bF) (by rw [lI]; omega) hys, rfl⟩ fun d hd => ?_
 subst hd
 show gB (bD _ _ [.val (.int nb), .val (.int sn), .val (.int (k : Int)), .val (dW ws), .val (bJ ds), .val (dW ps), .no, .no, .no, .no, .no]) _
 obtain ⟨ov, eo, mo⟩ := bE7 (xs := [D.int 20, .int 0, .int 12, .int 21]) (i := nb / 4) (by decide)
 have hov : ∃ o : Int, ov = .int o := by
  simp only [List.mem_cons, List.not_mem_nil, or_false] at mo
  rcases mo with rfl | rfl | rfl | rfl <;> exact ⟨_, rfl⟩
 obtain ⟨o, rfl⟩ := hov
 refine jH (P := fun d => d = dW [N o]) ⟨_, a1 (a2 rfl (c2 (x := .lst [D.int 20, .int 0, .int 12, .int 21]) (y := .int (nb / 4 % 4)) rfl (jJ 4 (by decide) (jI (i := 0) (v := nb) 4 (by decide) rfl)) (by
  have eo' : gC [D.int 20, .int 0, .int 12, .int 21] (nb / 4 % 4) = some (.int o) := eo
  simp only [bI, eo'])) (hnm o)) rfl, rfl⟩ fun d hd => ?_
 subst hd
 show gB (bD _ _ [.val (.int nb), .val (.int sn), .val (.int (k : Int)), .val (dW ws), .val (bJ ds), .val (dW ps), .val (dW [N o]), .no, .no, .no, .no]) _
 obtain ⟨w0, wr, rfl⟩ : ∃ w0 wr, ws = w0 :: wr := by
  cases hws : ws with
  | nil => have := hW.w0; rw [hws] at this; cases this
  | cons a b => exact ⟨a, b, rfl⟩
 have w1 := hW.w1
 rw [List.length_cons] at w1
 obtain ⟨_, em, na, nc, npl, rfl, m1, m2', m3⟩ := hms (nb / 16) w0 ((wr.map .str ++ ps.map .str) ++ [.str (N o)]) (hW.w2 w0 List.mem_cons_self) (fun x hx => by
  rcases List.mem_append.mp hx with hx | hx
  ·rcases List.mem_append.mp hx with hx | hx
   ·exact bT7 (fun x hx => hW.w2 x (List.mem_cons_of_mem _ hx)) x hx
   ·exact bT7 hps x hx
  ·rw [List.mem_singleton.mp hx]; exact ⟨_, rfl, hN o⟩) (by simp only [List.length_append, List.length_map, List.length_cons, List.length_nil]; omega)
 have e3 : mA (C .q24) (aC (m2 cN (gv 0) (kc (.int 16))) (aC (m2 bV (m2 bV (gv 3) (gv 5)) (gv 6)) (aC (gv 4) (bB)))) [.val (.int nb), .val (.int sn), .val (.int (k : Int)), .val (dW (w0 :: wr)), .val (bJ ds), .val (dW ps), .val (dW [N o]), .no, .no, .no, .no] = .ok (.tup [.lst na, .lst nc, .lst npl]) :=
  a3 (jI (i := 0) (v := nb) 16 (by decide) rfl) (c2 (x := .lst ((w0 :: wr).map .str ++ ps.map .str)) (c2 rfl rfl (lV (by simp only [List.length_map, List.length_cons]; omega))) rfl (lV (by simp only [List.length_append, List.length_map, List.length_cons, List.length_nil]; omega))) rfl em
 unfold gB
 rw [cO9 e3]
 show gB (bD _ _ [.val (.int nb), .val (.int sn), .val (.int (k : Int)), .val (dW (w0 :: wr)), .val (bJ ds), .val (dW ps), .val (dW [N o]), .val (.lst na), .val (.lst nc), .val (.lst npl), .no]) _
 obtain ⟨v, ev⟩ := hdr nb 1 (by decide)
 have b0 : 0 <= nb % 4 := Int.emod_nonneg _ (by decide)
 have b1 : nb % 4 < 4 := Int.emod_lt_of_pos _ (by decide)
 obtain ⟨_, eb, xs, rfl, lx, gx⟩ := hbk v (nb % 4) na nc npl b0 bF m1 m2' m3
 obtain ⟨B, rfl, B1, B2, B3⟩ := vJ xs gx bF
 refine jH (P := fun d => d = .tup B.d) ⟨_, a6 (a2 rfl rfl ev) (jJ (v := nb) 4 (by decide) rfl) rfl rfl rfl rfl eb, rfl⟩ fun d hd => ?_
 subst hd
 have B4 : B.u.length <= 4 * (60 * 10 ^ 2) := Nat.le_trans B3 (Nat.mul_le_mul_right _ lx)
 refine xW ⟨_, a4 (c2 (x := dP x0) (y := .int 0) (ik _) rfl (cR 0 _ rfl)) (a1 rfl rfl) (a1 rfl rfl) rfl rfl, ⟨x0.1, ps, [N o], B⟩, rfl, rfl, ?_, rfl, B1, B2, by omega⟩
 show (ps.length : Int) = x0.2
 omega
theorem bF0 (x : Str) : ∀ (xs : List Str) (g : Gm), gw g xs x = if x ∈ xs then some .word else g x
 | [], g => by simp [gw]
 | y :: r, g => by
  rw [gw, bF0 x r]
  by_cases h : x ∈ r
  ·rw [if_pos h, if_pos (List.mem_cons_of_mem _ h)]
  ·rw [if_neg h]
   unfold kZ
   by_cases e : x = y
   ·subst e; rw [if_pos rfl, if_pos List.mem_cons_self]
   ·rw [if_neg e, if_neg (fun z => by rcases List.mem_cons.mp z with z | z; exact e z; exact h z)]
noncomputable abbrev key (x : Dd) : Str × Int := (x.nm, x.ps.length)
theorem cP0 (x : Str) : ∀ (dds : List Dd) (g : Gm), (dds.map Dd.nm).Nodup -> nL g dds x = match ((dds.map key).find? fun p => decide (p.1 = x)) with | some p => some (.deed p.2) | none => g x
 | [], g, _ => rfl
 | y :: r, g, hn => by
  rw [List.map_cons] at hn
  rw [nL, cP0 x r _ (List.nodup_cons.mp hn).2, List.map_cons, List.find?_cons]
  show _ = match (match decide (y.nm = x) with | true => some (key y) | false => (r.map key).find? fun p => decide (p.1 = x)) with | some p => some (Mg.deed p.2) | none => g x
  by_cases e : y.nm = x
  ·rw [decide_eq_true e]
   have hf : ((r.map key).find? fun p => decide (p.1 = x)) = none := by
    rw [List.find?_eq_none]
    intro p hp
    obtain ⟨d, hd, rfl⟩ := List.mem_map.mp hp
    have : d.nm ≠ x := fun z => (List.nodup_cons.mp hn).1 (by rw [e, <- z]; exact List.mem_map_of_mem hd)
    simpa using this
   rw [hf]
   show kZ g y.nm (.deed y.ps.length) x = _
   unfold kZ
   rw [if_pos e.symm]
  ·rw [decide_eq_false e]
   have hg : kZ g y.nm (.deed y.ps.length) x = g x := by unfold kZ; rw [if_neg (fun z => e z.symm)]
   rw [hg]
theorem fI9 {ws : List Str} {dds : List Dd} (hn : (dds.map Dd.nm).Nodup) (hd : ∀ d ∈ dds, d.nm ∉ ws) : nL (gw (fun _ => none) ws) dds = gE ws (dds.map key) := by
 funext x
 rw [cP0 x dds _ hn, bF0]
 unfold gE
 cases hf : (dds.map key).find? fun p => decide (p.1 = x) with
 | none => simp
 | some p =>
  have h1 := List.find?_some hf
  have h2 := List.mem_of_find?_eq_some hf
  obtain ⟨d, hd', rfl⟩ := List.mem_map.mp h2
  have e : d.nm = x := of_decide_eq_true h1
  have : x ∉ ws := by rw [<- e]; exact hd d hd'
  simp only [if_neg this]; rfl
theorem fJ0 {ws inn : List Str} {ds : List (Str × Int)} : gE (ws ++ inn) (ds.filter fun p => !decide (p.1 ∈ inn)) = gw (gE ws ds) inn := by
 funext x
 rw [bF0]
 unfold gE
 by_cases h : x ∈ inn
 ·rw [if_pos h, if_pos (List.mem_append.mpr (.inr h))]
 ·rw [if_neg h]
  by_cases h2 : x ∈ ws
  ·rw [if_pos h2, if_pos (List.mem_append.mpr (.inl h2))]
  ·rw [if_neg h2, if_neg (fun z => by rcases List.mem_append.mp z with z | z; exact h2 z; exact h z)]
   congr 1
   rw [List.find?_filter]
   congr 1
   funext p
   by_cases e : p.1 = x
   ·rw [e]; simp [h]
   ·simp [e]
theorem fJ1 (g : Gm) (s x : Str) (n : Int) : gF (fM g s x n) <= 1 := by
 unfold fM
 split
 ·simp [gF, depL]
 ·split
  ·split <;> simp [gF, depL]
  ·split <;> simp [gF, depL]
theorem bT8 (g : Gm) : ∀ us : List D, gF (ff g us) <= 1
 | [] => by simp [ff, gF]
 | u :: r => by
  rw [ff]
  unfold bT
  split
  ·exact bT8 g r
  ·unfold fD
   split
   ·exact fJ1 g _ _ _
   ·simp [gF]
theorem cP1 (g : Gm) (z : D) (hz : gF z <= 1) : ∀ ds : List Dd, gF (fb g ds z) <= 1
 | [] => hz
 | x :: r => by
  rw [fb]
  unfold bT
  split
  ·exact cP1 g z hz r
  ·exact bT8 _ _
end Jm
end
section
namespace Jm
open PySem PySem.Spec PyProof.Rows L2 R
variable [bP]
theorem bT9 {g : ME} {rest : bM} {h : D -> D} : ∀ xs : List D, (∀ x ∈ xs, g (.val x :: rest) = .ok (h x)) -> dL (fun _ => .ok true) g rest xs = .ok (xs.map h)
 | [], _ => rfl
 | x :: r, hx => by
  rw [dL]
  show bC.bind (g (.val x :: rest)) _ = _
  rw [hx x List.mem_cons_self, bT9 r fun y hy => hx y (List.mem_cons_of_mem _ hy)]; rfl
theorem cP2 {g : ME} {rest : bM} {Q : D -> D -> Prop} : ∀ xs : List D, (∀ x ∈ xs, ∃ d, g (.val x :: rest) = .ok d /\ Q x d) -> ∃ ys, dL (fun _ => .ok true) g rest xs = .ok ys /\ Paired Q xs ys
 | [], _ => ⟨[], rfl, .nil⟩
 | x :: r, h => by
  obtain ⟨d, e1, q1⟩ := h x List.mem_cons_self
  obtain ⟨ys, e2, q2⟩ := cP2 r fun y hy => h y (List.mem_cons_of_mem _ hy)
  refine ⟨d :: ys, ?_, .cons q1 q2⟩
  rw [dL]
  show bC.bind (g (.val x :: rest)) _ = _
  rw [e1, e2]; rfl
def Fit (x : Dd) : Prop := x.os.length = 1 /\ x.ps.length <= 3 /\ x.b.ok /\ x.b.h <= 2 /\ x.b.u.length <= 24000
theorem cP4 {F : D -> Option (Str × Int)} : ∀ {xs ys : List D}, Paired (fun x d => ∃ p, F x = some p /\ p.2 <= 3 /\ bE8 p d) xs ys -> ∃ dds : List Dd, ys = dds.map Dd.d /\ (∀ x ∈ dds, Fit x) /\ dds.map key = xs.filterMap F
 | _, _, .nil => ⟨[], rfl, (fun x hx => by cases hx), rfl⟩
 | _, _, .cons ⟨p, e, h3, x, rfl, h1, h2, h4, h5, h6, h7⟩ t => by
  obtain ⟨dds, rfl, g1, g2⟩ := cP4 t
  refine ⟨x :: dds, rfl, fun y hy => ?_, ?_⟩
  ·rcases List.mem_cons.mp hy with rfl | hy
   ·exact ⟨h4, by omega, h5, h6, h7⟩
   ·exact g1 y hy
  ·rw [List.map_cons, List.filterMap_cons, e, g2]
   have : key x = p := by
    show (x.nm, (x.ps.length : Int)) = p
    rw [h1, h2]
   rw [this]
theorem cP5 : ∀ ds : List (Str × Int), (List.range ds.length).filterMap (fun i => ds[i]?) = ds
 | [] => rfl
 | p :: r => by
  rw [List.length_cons, List.range_succ_eq_map, List.filterMap_cons, List.filterMap_map]
  show p :: (List.range r.length).filterMap (fun i => r[i]?) = _
  rw [cP5 r]
theorem fJ2 (x : Str) (ws : List Str) : fX true (.str x) (dW ws) = .ok (.bl (!decide (x ∈ ws))) := by
 simp only [fX]
 rw [if_pos (by rw [bE2]; omega), bS6]; rfl
theorem cP6 (inn : List Str) : ∀ ds : List (Str × Int), dL (mB (m2 (fX true) (m2 bI (gv 0) (kc (.int 0))) (gv 1))) (gv 0) [.val (dW inn)] (ds.map dP) = .ok ((ds.filter fun p => !decide (p.1 ∈ inn)).map dP)
 | [] => rfl
 | p :: r => by
  have ih := cP6 inn r
  rw [List.map_cons, dL]
  have e1 : mB (m2 (fX true) (m2 bI (gv 0) (kc (.int 0))) (gv 1)) [.val (dP p), .val (dW inn)] = .ok (!decide (p.1 ∈ inn)) := cB (c2 (x := .str p.1) (y := dW inn) (c2 (x := dP p) (y := .int 0) rfl rfl (cR 0 _ rfl)) rfl (fJ2 _ _))
  show ((mB (m2 (fX true) (m2 bI (gv 0) (kc (.int 0))) (gv 1)) [.val (dP p), .val (dW inn)]).bind _) = _
  rw [e1]
  show (if (!decide (p.1 ∈ inn)) = true then (bC.ok (dP p)).bind _ else _) = _
  rw [ih, List.filter_cons]
  by_cases e : p.1 ∈ inn
  ·rw [if_neg (by simp [e]), if_neg (by simp [e])]
  ·rw [if_pos (by simp [e]), if_pos (by simp [e])]; rfl
section
variable {C : CT}
noncomputable abbrev fJ3 (C : CT) : MS := nY 8 (mA (C .q15) (aC (mA (C .q8) (aC (gv 0) (aC (m2 bV (kc (.int 12)) (gv 9)) (bB)))) (aC (gv 5) (aC (gv 6) (aC (gv 7) (aC (kc (.int 2)) (bB)))))))
theorem cP7 {ns : List Int} {X1 X2 X3 X4 Y1 Y2 Y3 Y4 Y5 : Slot} {na nc np : List D} (hm : ∀ k : Int, 0 <= k -> C .q8 [.lst (ns.map .int), .int k] = .ok (.int (cX ns k))) (hs : ∀ nb : Int, ∃ d, C .q15 [.int nb, .lst na, .lst nc, .lst np, .int 2] = .ok d /\ XS 2 d) :
 ∀ (xs acc : List D) (s : Slot), (∀ x ∈ xs, ∃ k : Int, x = .int k /\ 0 <= k) -> (∀ a ∈ acc, XS 2 a) -> acc.length + xs.length <= 100 -> ∃ ys s', cU 9 (fJ3 C) xs [.val (.lst (ns.map .int)), X1, X2, X3, X4, .val (.lst na), .val (.lst nc), .val (.lst np), .own acc, s, Y1, Y2, Y3, Y4, Y5] =
   .ok (.nx [.val (.lst (ns.map .int)), X1, X2, X3, X4, .val (.lst na), .val (.lst nc), .val (.lst np), .own ys, s', Y1, Y2, Y3, Y4, Y5]) /\ (∀ y ∈ ys, XS 2 y) /\ ys.length <= 100
 | [], acc, s, _, h, hl => ⟨acc, s, by rw [cU], h, by simpa using hl⟩
 | x :: r, acc, s, hx, h, hl => by
  obtain ⟨k, rfl, k0⟩ := hx x List.mem_cons_self
  obtain ⟨d, ed, gd'⟩ := hs (cX ns (12 + k))
  simp only [List.length_cons] at hl
  obtain ⟨ys, s', e, p1, p2⟩ := cP7 hm hs r (acc ++ [d]) (.val (.int k)) (fun x h => hx x (List.mem_cons_of_mem _ h)) (fun a ha => by
   rcases List.mem_append.mp ha with ha | ha
   ·exact h a ha
   ·rw [List.mem_singleton.mp ha]; exact gd') (by rw [List.length_append, List.length_cons, List.length_nil]; omega)
  refine ⟨ys, s', ?_, p1, p2⟩
  rw [mP (ρ' := [.val (.lst (ns.map .int)), X1, X2, X3, X4, .val (.lst na), .val (.lst nc), .val (.lst np), .own (acc ++ [d]), .val (.int k), Y1, Y2, Y3, Y4, Y5]), e]
  exact bR8 (acc := acc) rfl (a5 (a2 rfl (c2 rfl rfl rfl) (hm (12 + k) bF)) rfl rfl rfl rfl ed) bF
noncomputable abbrev cP8 (C : CT) : MS := bD (bZ 13 (m2 bV (mA nA (aC (m2 bI (gv 12) (kc (.int 1))) (bB))) (mA nA (aC (m2 bI (gv 12) (kc (.int 2))) (bB))))) (bD (gX 14 [13] (cV (gv 3)) (mB (m2 (fX true) (m2 bI (gv 0) (kc (.int 0))) (gv 1))) (gv 0)) (bZ 11 (mA (C .q20) (aC (mA gJ (aC (gv 11) (aC (mA (C .q23) (aC (m2 bI (gv 12) (kc (.int 3))) (aC (m2 bV (gv 2) (gv 13)) (aC (gv 14) (bB))))) (bB)))) (bB)))))
theorem cP9 {ws : List Str} {ds : List (Str × Int)} (hw : ws.length <= 6) (hd : ds.length <= 4) {X0 X1 X4 X5 X6 X7 X8 X9 X10 : Slot} (hf : ∀ xs : List D, C .q20 [.lst xs] = .ok (gT xs))
 (hb : ∀ (ws : List Str) (ds : List (Str × Int)) (b : Sms), ds.length <= 1000 -> b.ok -> b.h <= 2 -> C .q23 [.tup b.d, dW ws, bJ ds] = .ok (ff (gE ws ds) b.u)) : ∀ (dds : List Dd) (due : D) (a b c : Slot), (∀ x ∈ dds, Fit x) ->
 ∃ a' b' c', cU 12 (cP8 C) (dds.map Dd.d) [X0, X1, .val (dW ws), .val (bJ ds), X4, X5, X6, X7, X8, X9, X10, .val due, a, b, c] = .ok (.nx [X0, X1, .val (dW ws), .val (bJ ds), X4, X5, X6, X7, X8, X9, X10, .val (bT due (fb (gE ws ds) dds .non)), a', b', c'])
 | [], due, a, b, c, _ => ⟨a, b, c, by rw [List.map_nil, cU]; show _ = bC.ok (Fl.nx [X0, X1, .val (dW ws), .val (bJ ds), X4, X5, X6, X7, X8, X9, X10, .val (bT due .non), a, b, c]); rw [lH]⟩
 | x :: r, due, a, b, c, hx => by
  obtain ⟨f1, f2, f3, f4, f5⟩ := hx x List.mem_cons_self
  obtain ⟨a', b', c', e⟩ := cP9 hw hd (X0 := X0) (X1 := X1) (X4 := X4) (X5 := X5) (X6 := X6) (X7 := X7) (X8 := X8) (X9 := X9) (X10 := X10) hf hb r (bT due (ff (gw (gE ws ds) (x.ps ++ x.os)) x.b.u)) (.val x.d) (.val (dW (x.ps ++ x.os))) (.val (bJ (ds.filter fun p => !decide (p.1 ∈ x.ps ++ x.os)))) fun y hy => hx y (List.mem_cons_of_mem _ hy)
  refine ⟨a', b', c', ?_⟩
  rw [List.map_cons, mP (ρ' := [X0, X1, .val (dW ws), .val (bJ ds), X4, X5, X6, X7, X8, X9, X10, .val (bT due (ff (gw (gE ws ds) (x.ps ++ x.os)) x.b.u)), .val x.d, .val (dW (x.ps ++ x.os)), .val (bJ (ds.filter fun p => !decide (p.1 ∈ x.ps ++ x.os)))]), e]
  ·rw [fb, bS0]
  show bD _ _ [X0, X1, .val (dW ws), .val (bJ ds), X4, X5, X6, X7, X8, X9, X10, .val due, .val x.d, b, c] = _
  have e1 : m2 bV (mA nA (aC (m2 bI (gv 12) (kc (.int 1))) (bB))) (mA nA (aC (m2 bI (gv 12) (kc (.int 2))) (bB))) [X0, X1, .val (dW ws), .val (bJ ds), X4, X5, X6, X7, X8, X9, X10, .val due, .val x.d, b, c] = .ok (dW (x.ps ++ x.os)) := by
   rw [show dW (x.ps ++ x.os) = .lst (x.ps.map .str ++ x.os.map .str) by rw [<- List.map_append]]
   exact c2 (a1 (c2 (x := x.d) (y := .int 1) rfl rfl (cR 1 _ rfl)) rfl) (a1 (c2 (x := x.d) (y := .int 2) rfl rfl (cR 2 _ rfl)) rfl) (lV (by rw [List.length_map, List.length_map]; omega))
  rw [dY e1]
  show bD _ _ [X0, X1, .val (dW ws), .val (bJ ds), X4, X5, X6, X7, X8, X9, X10, .val due, .val x.d, .val (dW (x.ps ++ x.os)), c] = _
  unfold gX
  rw [dY (kC (nI (xs := ds.map dP) rfl) (by rw [List.length_map]; omega) (cP6 (x.ps ++ x.os) ds))]
  show bZ 11 _ [X0, X1, .val (dW ws), .val (bJ ds), X4, X5, X6, X7, X8, X9, X10, .val due, .val x.d, .val (dW (x.ps ++ x.os)), .val (bJ (ds.filter fun p => !decide (p.1 ∈ x.ps ++ x.os)))] = _
  have hq := hb (ws ++ (x.ps ++ x.os)) (ds.filter fun p => !decide (p.1 ∈ x.ps ++ x.os)) x.b (Nat.le_trans (List.length_filter_le _ _) bF) f3 f4
  rw [fJ0] at hq
  have ew : m2 bV (gv 2) (gv 13) [X0, X1, .val (dW ws), .val (bJ ds), X4, X5, X6, X7, X8, X9, X10, .val due, .val x.d, .val (dW (x.ps ++ x.os)), .val (bJ (ds.filter fun p => !decide (p.1 ∈ x.ps ++ x.os)))] = .ok (dW (ws ++ (x.ps ++ x.os))) := by
   rw [show dW (ws ++ (x.ps ++ x.os)) = .lst (ws.map .str ++ (x.ps ++ x.os).map .str) by rw [<- List.map_append]]
   exact c2 rfl rfl (lV (by rw [List.length_map, List.length_map, List.length_append]; omega))
  have hs : mA (C .q20) (aC (mA gJ (aC (gv 11) (aC (mA (C .q23) (aC (m2 bI (gv 12) (kc (.int 3))) (aC (m2 bV (gv 2) (gv 13)) (aC (gv 14) (bB))))) (bB)))) (bB)) [X0, X1, .val (dW ws), .val (bJ ds), X4, X5, X6, X7, X8, X9, X10, .val due, .val x.d, .val (dW (x.ps ++ x.os)), .val (bJ (ds.filter fun p => !decide (p.1 ∈ x.ps ++ x.os)))] = .ok (bT due (ff (gw (gE ws ds) (x.ps ++ x.os)) x.b.u)) := by
   refine a1 (x := .lst [due, ff (gw (gE ws ds) (x.ps ++ x.os)) x.b.u]) (a2 rfl (a3 (c2 (x := x.d) (y := .int 3) rfl rfl (cR 3 _ rfl)) ew rfl hq) rfl) ?_
   rw [hf]
   show bC.ok (bT due (bT _ .non)) = _
   rw [lH]
  unfold bZ
  rw [hs]; rfl
end
end Jm
end
section
namespace Jm
open PySem PySem.Spec PyProof.Rows L2 R
variable [bP]
theorem pX {a b : List D} (h1 : Us a) (h2 : Us b) : Us (a ++ b) := fun u hu => by
 rcases List.mem_append.mp hu with h | h
 ·exact h1 u h
 ·exact h2 u h
theorem lJ {s x : Str} {n : Int} {r : List D} (h : Us r) : Us (u3 s x n :: r) := fun u hu => by
 rcases List.mem_cons.mp hu with rfl | hu
 ·exact ⟨s, x, n, rfl⟩
 ·exact h u hu
theorem pL : Us [] := fun u hu => by cases hu
mutual
theorem Ee.us : ∀ e : Ee, Us e.u
 | .num _ => pL
 | .nam _ => lJ pL
 | .cal _ ps => lJ (pX (Es.us ps) (lJ pL))
 | .bin _ a b => pX (Ee.us a) (Ee.us b)
theorem Es.us : ∀ e : Es, Us e.u
 | .nil => pL
 | .cons e r => pX (Ee.us e) (Es.us r)
end
mutual
theorem Sm.us : ∀ s : Sm, Us s.u
 | .let_ _ e => lJ (Ee.us e)
 | .ife e a b => pX (Ee.us e) (pX (Sms.us a) (Sms.us b))
 | .whi e a => pX (Ee.us e) (Sms.us a)
 | .do_ _ ps => lJ (pX (Es.us ps) (lJ pL))
 | .giv e => Ee.us e
 | .tel e => Ee.us e
 | .get _ => lJ pL
 | .new _ _ => lJ (lJ (lJ pL))
 | .han _ e => lJ (Ee.us e)
 | .awa _ _ => lJ (lJ pL)
theorem Sms.us : ∀ b : Sms, Us b.u
 | .nil => pL
 | .cons s r => pX (Sm.us s) (Sms.us r)
end
theorem cQ0 (n : Nat) (b : Sms) (h1 : b.ok) (h2 : b.h <= 2) (h3 : b.u.length <= 900000) : qW (Ph (n + 17)) b := ⟨fF1 2 n b h1 bF h2, Sms.us b⟩
theorem cQ1 {N : Int -> Str} (hi : ∀ j k : Int, 0 <= j -> j < 26 -> 0 <= k -> k < 26 -> N j = N k -> j = k) (s m : Nat) (h : s + m <= 26) : ((List.range m).map fun i : Nat => N ((s : Int) + (0 + (i : Int)))).Nodup := by
 unfold List.Nodup
 rw [List.pairwise_map]
 refine List.Pairwise.imp_of_mem (fun {a b} ha hb hlt e => ?_) List.pairwise_lt_range
 have ha := List.mem_range.mp ha
 have hb := List.mem_range.mp hb
 have := hi _ _ bF bF bF bF e
 omega
theorem fJ4 {f : ME} {ρ : bM} {v : Int} (k : Int) (hk : 0 < k /\ k < 1073741824) (h : f ρ = .ok (.int v)) : m2 cN f (kc (.int k)) ρ = .ok (.int (v / k)) := c2 h rfl (by simp [cN, dI, hk])
noncomputable def fJ5 (ds : List (Str × Int)) : D -> Option (Str × Int)
 | .int k => ds[k.toNat]?
 | _ => none
theorem fJ6 {d : D} (h : gF d <= 1) : cP d d = .ok (.bl true) := by
 unfold cP
 rw [if_pos bF, zL]
theorem fJ7 (n : Nat) (ns : List Int) : Ph (n + 21) .law [.lst (ns.map .int)] = .ok (.bl true) := by
 obtain ⟨z, y, hz, hy, hnm⟩ := fH8 (cX ns 0)
 have hN : ∀ j, (nm z y j).length <= 8 := fH9 hz hy
 have hinj : ∀ j k : Int, 0 <= j -> j < 26 -> 0 <= k -> k < 26 -> nm z y j = nm z y k -> j = k := fun j k a b c d e => fI1 ⟨a, b⟩ ⟨c, d⟩ e
 generalize nm z y = N at hnm hN hinj
 have hmix : ∀ k : Int, 0 <= k -> Ph (n + 20) .q8 [.lst (ns.map .int), .int k] = .ok (.int (cX ns k)) := fun k hk => fH2 (n + 16) ns k hk
 have hname : ∀ k : Int, Ph (n + 20) .q11 [.int (cX ns 0), .int k] = .ok (.str (N k)) := fun k => hnm (n + 16) k
 have hfst : ∀ xs : List D, Ph (n + 20) .q20 [.lst xs] = .ok (gT xs) := vI (n + 17)
 have hfb : ∀ (ws : List Str) (ds : List (Str × Int)) (b : Sms), ds.length <= 1000 -> b.ok -> b.h <= 2 -> Ph (n + 20) .q23 [.tup b.d, dW ws, bJ ds] = .ok (ff (gE ws ds) b.u) := fun ws ds b h1 h2 h3 => fH0 h1 2 (n + 4) b h2 h3
 have q0 : 0 <= cX ns 1 % 6 := Int.emod_nonneg _ (by decide)
 have q1 : cX ns 1 % 6 < 6 := Int.emod_lt_of_pos _ (by decide)
 have r0 : 0 <= cX ns 1 / 6 % 5 := Int.emod_nonneg _ (by decide)
 have r1 : cX ns 1 / 6 % 5 < 5 := Int.emod_lt_of_pos _ (by decide)
 obtain ⟨q, hq⟩ : ∃ q : Nat, (1 + cX ns 1 % 6).toNat = q := ⟨_, rfl⟩
 obtain ⟨r, hr⟩ : ∃ r : Nat, (cX ns 1 / 6 % 5).toNat = r := ⟨_, rfl⟩
 obtain ⟨ws, hws⟩ : ∃ ws : List Str, ws = (List.range q).map fun i : Nat => N (((0 : Nat) : Int) + (0 + (i : Int))) := ⟨_, rfl⟩
 obtain ⟨ds, hds⟩ : ∃ ds : List (Str × Int), ds = (List.range r).map fun i : Nat => (N (((10 : Nat) : Int) + (0 + (i : Int))), cX ns (2 + (0 + (i : Int))) % 4) := ⟨_, rfl⟩
 have lw : ws.length = q := by rw [hws, List.length_map, List.length_range]
 have ld : ds.length = r := by rw [hds, List.length_map, List.length_range]
 have hW : bE9 ws ds := by
  refine ⟨by omega, by omega, fun x hx => ?_, by omega, fun p hp => ?_⟩
  ·rw [hws] at hx
   obtain ⟨i, _, rfl⟩ := List.mem_map.mp hx
   exact hN _
  ·rw [hds] at hp
   obtain ⟨i, _, rfl⟩ := List.mem_map.mp hp
   have := Int.emod_nonneg (cX ns (2 + (0 + (i : Int)))) (b := 4) (by decide)
   have := Int.emod_lt_of_pos (cX ns (2 + (0 + (i : Int)))) (b := 4) (by decide)
   exact ⟨hN _, by omega, by omega⟩
 have nw : ws.Nodup := by rw [hws]; exact cQ1 hinj 0 q bF
 have nds : (ds.map (·.1)).Nodup := by rw [hds, List.map_map]; exact cQ1 hinj 10 r bF
 have dis : ∀ p ∈ ds, p.1 ∉ ws := fun p hp hm => by
  rw [hds] at hp
  rw [hws] at hm
  obtain ⟨i, hi, rfl⟩ := List.mem_map.mp hp
  obtain ⟨j, hj, e⟩ := List.mem_map.mp hm
  have hi := List.mem_range.mp hi
  have hj := List.mem_range.mp hj
  have := hinj _ _ bF bF bF bF e
  omega
 have hdl := hW.dl
 obtain ⟨w0, wr, hwc⟩ : ∃ w0 wr, ws = w0 :: wr := by
  cases h : ws with
  | nil => have := hW.w0; rw [h] at this; cases this
  | cons a b => exact ⟨a, b, rfl⟩
 have hw0 : w0.length <= 8 := hW.w2 w0 (by rw [hwc]; exact List.mem_cons_self)
 have hwr : Sl (wr.map .str) := bT7 fun x hx => hW.w2 x (by rw [hwc]; exact List.mem_cons_of_mem _ hx)
 have lwr : wr.length <= 5 := by have := hW.w1; rw [hwc, List.length_cons] at this; omega
 have hdeed : ∀ (nb : Int) (k : Nat) (x0 : Str × Int), ds[k]? = some x0 -> ∃ d, Ph (n + 20) .q25 [.int nb, .int (cX ns 0), .int (k : Int), dW ws, bJ ds] = .ok d /\ bE8 x0 d := fun nb k x0 hk =>
  fI8 (Ph (n + 19)) (Ph (n + 17)) nb (cX ns 0) k hk hW (fun j => hnm (n + 15) j) hN (fun nb w0 wr a b c => cO7 (n + 16) nb w0 wr _ a b c hdl (by rw [List.length_map]; omega)) (fun nb k hk => bE6 (n + 16) nb k hk) (fun nb sz na nc np a b c d e => block_made 2 (n + 2) nb sz a b c d e)
 show ((bD5 (Ph (n + 20)) (Ph (n + 18))) [.val (.lst (ns.map .int)), .no, .no, .no, .no, .no, .no, .no, .no, .no, .no, .no, .no, .no, .no]).bind cK = _
 unfold bD5
 rw [dY (a2 rfl rfl (hmix 0 bF))]
 show bC.bind (bD _ _ [.val (.lst (ns.map .int)), .val (.int (cX ns 0)), .no, .no, .no, .no, .no, .no, .no, .no, .no, .no, .no, .no, .no]) cK = _
 have e2 : dU [1] (gP (m2 bV (kc (.int 1)) (m2 bY (mA (Ph (n + 20) .q8) (aC (gv 0) (aC (kc (.int 1)) (bB)))) (kc (.int 6))))) (fun _ => .ok true) (mA (Ph (n + 20) .q11) (aC (gv 1) (aC (gv 0) (bB)))) [.val (.lst (ns.map .int)), .val (.int (cX ns 0)), .no, .no, .no, .no, .no, .no, .no, .no, .no, .no, .no, .no, .no] = .ok (dW ws) := by
  refine (kC (qY (c2 rfl (jJ 6 (by decide) (a2 rfl rfl (hmix 1 bF))) rfl) bF bF) (by rw [lI]; omega) (bT9 (h := fun d => match d with | .int k => .str (N (((0 : Nat) : Int) + k)) | _ => .non) _ fun x hx => ?_)).trans ?_
  ·obtain ⟨k, rfl, _, _⟩ := pJ hx
   refine (a2 rfl rfl (hname k)).trans ?_
   show bC.ok (D.str (N k)) = bC.ok (D.str (N (0 + k)))
   rw [Int.zero_add]
  ·rw [hq, hws]
   unfold R.upTo
   rw [List.map_map, dW, List.map_map]; rfl
 rw [dY e2]
 show bC.bind (bD _ _ [.val (.lst (ns.map .int)), .val (.int (cX ns 0)), .val (dW ws), .no, .no, .no, .no, .no, .no, .no, .no, .no, .no, .no, .no]) cK = _
 have e3 : dU [1, 0] (gP (m2 bY (m2 cN (mA (Ph (n + 20) .q8) (aC (gv 0) (aC (kc (.int 1)) (bB)))) (kc (.int 6))) (kc (.int 5)))) (fun _ => .ok true) (mA bR (aC (mA (Ph (n + 20) .q11) (aC (gv 1) (aC (m2 bV (kc (.int 10)) (gv 0)) (bB)))) (aC (m2 bY (mA (Ph (n + 20) .q8) (aC (gv 2) (aC (m2 bV (kc (.int 2)) (gv 0)) (bB)))) (kc (.int 4))) (bB)))) [.val (.lst (ns.map .int)), .val (.int (cX ns 0)), .val (dW ws), .no, .no, .no, .no, .no, .no, .no, .no, .no, .no, .no, .no] = .ok (bJ ds) := by
  refine (kC (qY (jJ 5 (by decide) (fJ4 6 (by decide) (a2 rfl rfl (hmix 1 bF)))) bF bF) (by rw [lI]; omega) (bT9 (h := fun d => match d with | .int k => dP (N (((10 : Nat) : Int) + k), cX ns (2 + k) % 4) | _ => .non) _ fun x hx => ?_)).trans ?_
  ·obtain ⟨k, rfl, k0, _⟩ := pJ hx
   exact a2 (a2 rfl (c2 rfl rfl rfl) (hname (10 + k))) (jJ 4 (by decide) (a2 rfl (c2 rfl rfl rfl) (hmix (2 + k) bF))) rfl
  ·rw [hr, hds]
   unfold R.upTo
   rw [List.map_map, bJ, List.map_map]; rfl
 rw [dY e3]
 show bC.bind (bD _ _ [.val (.lst (ns.map .int)), .val (.int (cX ns 0)), .val (dW ws), .val (bJ ds), .no, .no, .no, .no, .no, .no, .no, .no, .no, .no, .no]) cK = _
 obtain ⟨ms, em, pm⟩ := cP2 (g := mA (Ph (n + 20) .q25) (aC (mA (Ph (n + 20) .q8) (aC (gv 4) (aC (m2 bV (kc (.int 7)) (gv 0)) (bB)))) (aC (gv 1) (aC (gv 0) (aC (gv 2) (aC (gv 3) (bB))))))) (rest := [.val (.int (cX ns 0)), .val (dW ws), .val (bJ ds), .val (.lst (ns.map .int))])
  (Q := fun x d => ∃ p, fJ5 ds x = some p /\ p.2 <= 3 /\ bE8 p d) (upTo 0 ds.length) fun x hx => by
  obtain ⟨k, rfl, k0, k1⟩ := pJ hx
  obtain ⟨kk, rfl⟩ : ∃ kk : Nat, k = (kk : Int) := ⟨k.toNat, by omega⟩
  have hk : ds[kk]? = some ds[kk] := List.getElem?_eq_getElem bF
  obtain ⟨d, ed, gd'⟩ := hdeed (cX ns (7 + (kk : Int))) kk _ hk
  exact ⟨d, a5 (a2 rfl (c2 rfl rfl rfl) (hmix (7 + (kk : Int)) bF)) rfl rfl rfl rfl ed, ds[kk], by show ds[(kk : Int).toNat]? = _; rw [Int.toNat_natCast]; exact hk, (hW.d2 _ (List.getElem_mem _)).2.2, gd'⟩
 obtain ⟨dds, rfl, hfit, hkey⟩ := cP4 pm
 have hkey' : dds.map key = ds := by
  rw [hkey]
  unfold R.upTo
  rw [List.filterMap_map]
  refine Eq.trans ?_ (cP5 ds)
  congr 1
  funext i
  show ds[(0 + (i : Int)).toNat]? = ds[i]?
  rw [Int.zero_add, Int.toNat_natCast]
 have e4 : dU [1, 2, 3, 0] (gP (mA dJ (aC (gv 3) (bB)))) (fun _ => .ok true) (mA (Ph (n + 20) .q25) (aC (mA (Ph (n + 20) .q8) (aC (gv 4) (aC (m2 bV (kc (.int 7)) (gv 0)) (bB)))) (aC (gv 1) (aC (gv 0) (aC (gv 2) (aC (gv 3) (bB))))))) [.val (.lst (ns.map .int)), .val (.int (cX ns 0)), .val (dW ws), .val (bJ ds), .no, .no, .no, .no, .no, .no, .no, .no, .no, .no, .no] = .ok (.lst (dds.map Dd.d)) := by
  refine kC (xs := upTo 0 ds.length) ?_ (by rw [lI]; omega) em
  have := qY (f := mA dJ (aC (gv 3) (bB))) (ρ := [.val (.lst (ns.map .int)), .val (.int (cX ns 0)), .val (dW ws), .val (bJ ds), .no, .no, .no, .no, .no, .no, .no, .no, .no, .no, .no]) (i := ((ds.map dP).length : Int)) (a1 rfl rfl) bF (by rw [List.length_map]; omega)
  rw [this, Int.toNat_natCast, List.length_map]
 have e4s : gX 4 [1, 2, 3, 0] (gP (mA dJ (aC (gv 3) (bB)))) (fun _ => .ok true) (mA (Ph (n + 20) .q25) (aC (mA (Ph (n + 20) .q8) (aC (gv 4) (aC (m2 bV (kc (.int 7)) (gv 0)) (bB)))) (aC (gv 1) (aC (gv 0) (aC (gv 2) (aC (gv 3) (bB))))))) [.val (.lst (ns.map .int)), .val (.int (cX ns 0)), .val (dW ws), .val (bJ ds), .no, .no, .no, .no, .no, .no, .no, .no, .no, .no, .no] = .ok (.nx [.val (.lst (ns.map .int)), .val (.int (cX ns 0)), .val (dW ws), .val (bJ ds), .val (.lst (dds.map Dd.d)), .no, .no, .no, .no, .no, .no, .no, .no, .no, .no]) := by
  unfold gX bZ
  rw [e4]; rfl
 rw [dZ e4s]
 show bC.bind (bD _ _ [.val (.lst (ns.map .int)), .val (.int (cX ns 0)), .val (dW ws), .val (bJ ds), .val (.lst (dds.map Dd.d)), .no, .no, .no, .no, .no, .no, .no, .no, .no, .no]) cK = _
 obtain ⟨_, e5, na, nc, np, rfl, m1, m2', m3⟩ := cO7 (n + 17) (cX ns 6) w0 (wr.map .str) (ds.map dP) hw0 hwr (by rw [List.length_map]; omega) hdl (by rw [List.length_map]; omega)
 have e5' : mA (Ph (n + 20) .q24) (aC (mA (Ph (n + 20) .q8) (aC (gv 0) (aC (kc (.int 6)) (bB)))) (aC (gv 2) (aC (gv 3) (bB)))) [.val (.lst (ns.map .int)), .val (.int (cX ns 0)), .val (dW ws), .val (bJ ds), .val (.lst (dds.map Dd.d)), .no, .no, .no, .no, .no, .no, .no, .no, .no, .no] = .ok (.tup [.lst na, .lst nc, .lst np]) :=
  a3 (a2 rfl rfl (hmix 6 bF)) rfl rfl (by rw [hwc]; exact e5)
 rw [cO9 e5', dZ (ρ' := [.val (.lst (ns.map .int)), .val (.int (cX ns 0)), .val (dW ws), .val (bJ ds), .val (.lst (dds.map Dd.d)), .val (.lst na), .val (.lst nc), .val (.lst np), .own [], .no, .no, .no, .no, .no, .no]) rfl]
 obtain ⟨t, ht, t0, t1⟩ : ∃ t : Int, mA wX (aC (kc (.int 20)) (aC (mA wY (aC (kc (.int 1)) (aC (m2 gU (mA dJ (aC (gv 0) (bB))) (kc (.int 12))) (bB)))) (bB))) [.val (.lst (ns.map .int)), .val (.int (cX ns 0)), .val (dW ws), .val (bJ ds), .val (.lst (dds.map Dd.d)), .val (.lst na), .val (.lst nc), .val (.lst np), .own [], .no, .no, .no, .no, .no, .no] = .ok (.int t) /\ 0 <= t /\ t <= 20 := by
  refine ⟨_, a2 rfl (a2 rfl (c2 (a1 rfl rfl) rfl rfl) rfl) rfl, ?_, ?_⟩
  ·split <;> split <;> omega
  ·split <;> omega
 obtain ⟨ys, s', eS, py, ly⟩ := cP7 (C := Ph (n + 20)) (X1 := .val (.int (cX ns 0))) (X2 := .val (dW ws)) (X3 := .val (bJ ds)) (X4 := .val (.lst (dds.map Dd.d))) (Y1 := .no) (Y2 := .no) (Y3 := .no) (Y4 := .no) (Y5 := .no) (na := na) (nc := nc) (np := np) hmix (fun nb => cO0 2 (n + 4) nb m1 m2' m3) (upTo 0 t.toNat) [] .no (fun x hx => by
  obtain ⟨k, e, k0, _⟩ := pJ hx
  exact ⟨k, e, k0⟩) (fun a ha => by cases ha) (by rw [lI]; simp only [List.length_nil]; omega)
 rw [dZ (ρ' := [.val (.lst (ns.map .int)), .val (.int (cX ns 0)), .val (dW ws), .val (bJ ds), .val (.lst (dds.map Dd.d)), .val (.lst na), .val (.lst nc), .val (.lst np), .own ys, s', .no, .no, .no, .no, .no]) (by rw [mO (qY ht t0 bF)]; exact eS), vG (acc := ys) rfl]
 obtain ⟨B, rfl, B1, B2, B3⟩ := vJ ys py bF
 have B4 : B.u.length <= 100 * (60 * 10 ^ 2) := Nat.le_trans B3 (Nat.mul_le_mul_right _ ly)
 show bC.bind (bD _ _ [.val (.lst (ns.map .int)), .val (.int (cX ns 0)), .val (dW ws), .val (bJ ds), .val (.lst (dds.map Dd.d)), .val (.lst na), .val (.lst nc), .val (.lst np), .val (.lst B.d), s', .no, .no, .no, .no, .no]) cK = _
 have hU : mA bR (aC (mA (Ph (n + 20) .q11) (aC (gv 1) (aC (kc (.int 25)) (bB)))) (aC (mA bR (bB)) (aC (mA jO (aC (gv 2) (bB))) (aC (mA jO (aC (gv 4) (bB))) (aC (mA jO (aC (gv 8) (bB))) (bB)))))) [.val (.lst (ns.map .int)), .val (.int (cX ns 0)), .val (dW ws), .val (bJ ds), .val (.lst (dds.map Dd.d)), .val (.lst na), .val (.lst nc), .val (.lst np), .val (.lst B.d), s', .no, .no, .no, .no, .no] =
  .ok (.tup [.str (N 25), .tup [], .tup (ws.map .str), .tup (dds.map Dd.d), .tup B.d]) := a5 (a2 rfl rfl (hname 25)) rfl (a1 rfl rfl) (a1 rfl rfl) (a1 rfl rfl) rfl
 have hnn : (dds.map Dd.nm).Nodup := by
  have e : dds.map Dd.nm = ds.map (·.1) := by rw [<- hkey', List.map_map]; rfl
  rw [e]; exact nds
 have hdn : ∀ d ∈ dds, d.nm ∉ ws := fun d hd => dis (key d) (by rw [<- hkey']; exact List.mem_map_of_mem hd)
 have hae := fI9 hnn hdn
 rw [hkey'] at hae
 have hF := fG6 (C := Ph (n + 17)) (n0 := .str (N 25)) (ws := ws) (ds := dds) (b := B) nw (fun x hx => by rw [bF0, if_neg (hdn x hx)]) hnn (by
  have : dds.length = ds.length := by rw [<- hkey', List.length_map]
  omega) (fun x hx => by
  obtain ⟨f1, f2, f3, f4, f5⟩ := hfit x hx
  exact ⟨cQ0 n x.b f3 f4 bF, by omega⟩) (cQ0 n B B1 B2 bF)
 rw [hae] at hF
 have hF' : Ph (n + 20) .q1 [.tup [.str (N 25), .tup [], .tup (ws.map .str), .tup (dds.map Dd.d), .tup B.d]] = .ok (fb (gE ws ds) dds (ff (gE ws ds) B.u)) := hF
 rw [dY hU]
 generalize D.tup [.str (N 25), .tup [], .tup (ws.map .str), .tup (dds.map Dd.d), .tup B.d] = U at hF'
 show bC.bind (bD _ _ [.val (.lst (ns.map .int)), .val (.int (cX ns 0)), .val (dW ws), .val (bJ ds), .val (.lst (dds.map Dd.d)), .val (.lst na), .val (.lst nc), .val (.lst np), .val (.lst B.d), s', .val U, .no, .no, .no, .no]) cK = _
 rw [dY (d := .non) rfl]
 show bC.bind (bD _ _ [.val (.lst (ns.map .int)), .val (.int (cX ns 0)), .val (dW ws), .val (bJ ds), .val (.lst (dds.map Dd.d)), .val (.lst na), .val (.lst nc), .val (.lst np), .val (.lst B.d), s', .val U, .val .non, .no, .no, .no]) cK = _
 obtain ⟨a', b', c', eD⟩ := cP9 (C := Ph (n + 20)) (ws := ws) (ds := ds) hW.w1 hW.d1 (X0 := .val (.lst (ns.map .int))) (X1 := .val (.int (cX ns 0))) (X4 := .val (.lst (dds.map Dd.d))) (X5 := .val (.lst na)) (X6 := .val (.lst nc)) (X7 := .val (.lst np)) (X8 := .val (.lst B.d)) (X9 := s') (X10 := .val U) hfst hfb dds .non .no .no .no hfit
 have eD' : bT .non (fb (gE ws ds) dds .non) = fb (gE ws ds) dds .non := rfl
 rw [eD'] at eD
 have fE : fT 12 (cV (gv 4)) (cP8 (Ph (n + 20))) [.val (.lst (ns.map .int)), .val (.int (cX ns 0)), .val (dW ws), .val (bJ ds), .val (.lst (dds.map Dd.d)), .val (.lst na), .val (.lst nc), .val (.lst np), .val (.lst B.d), s', .val U, .val .non, .no, .no, .no] = _ := mO (nI (xs := dds.map Dd.d) rfl)
 rw [dZ (ρ' := [.val (.lst (ns.map .int)), .val (.int (cX ns 0)), .val (dW ws), .val (bJ ds), .val (.lst (dds.map Dd.d)), .val (.lst na), .val (.lst nc), .val (.lst np), .val (.lst B.d), s', .val U, .val (fb (gE ws ds) dds .non), a', b', c']) (fE.trans eD)]
 have eL : mA (Ph (n + 20) .q20) (aC (mA gJ (aC (gv 11) (aC (mA (Ph (n + 20) .q23) (aC (mA jO (aC (gv 8) (bB))) (aC (gv 2) (aC (gv 3) (bB))))) (bB)))) (bB)) [.val (.lst (ns.map .int)), .val (.int (cX ns 0)), .val (dW ws), .val (bJ ds), .val (.lst (dds.map Dd.d)), .val (.lst na), .val (.lst nc), .val (.lst np), .val (.lst B.d), s', .val U, .val (fb (gE ws ds) dds .non), a', b', c'] = .ok (fb (gE ws ds) dds (ff (gE ws ds) B.u)) := by
  refine a1 (x := .lst [fb (gE ws ds) dds .non, ff (gE ws ds) B.u]) (a2 rfl (a3 (a1 rfl rfl) rfl rfl (hfb ws ds B bF B1 B2)) rfl) ?_
  rw [hfst]
  show bC.ok (bT (fb (gE ws ds) dds .non) (bT (ff (gE ws ds) B.u) .non)) = _
  rw [lH, <- cM6]
 rw [dY eL]
 show bC.bind (bX _ [.val (.lst (ns.map .int)), .val (.int (cX ns 0)), .val (dW ws), .val (bJ ds), .val (.lst (dds.map Dd.d)), .val (.lst na), .val (.lst nc), .val (.lst np), .val (.lst B.d), s', .val U, .val (fb (gE ws ds) dds (ff (gE ws ds) B.u)), a', b', c']) cK = _
 have hE : m2 cP (mA (Ph (n + 20) .q1) (aC (gv 10) (bB))) (gv 11) [.val (.lst (ns.map .int)), .val (.int (cX ns 0)), .val (dW ws), .val (bJ ds), .val (.lst (dds.map Dd.d)), .val (.lst na), .val (.lst nc), .val (.lst np), .val (.lst B.d), s', .val U, .val (fb (gE ws ds) dds (ff (gE ws ds) B.u)), a', b', c'] = .ok (.bl true) :=
  c2 (a1 rfl hF') rfl (fJ6 (cP1 _ _ (bT8 _ _) _))
 refine jR ?_
 unfold rN
 rw [hE]; rfl
end Jm
end
section
namespace Jm
open PySem PySem.Spec PyProof.Rows L2 R
variable [bP]
section
variable {P : Program} {w : World} {K : W.Frag} {mg : Str -> Option Value} {base : Heap} {f : Addr} {fd : FuncData} {n : Nat} {C C' : CT}
theorem sc0 : dE N0 ["word"] (bH s0) := ⟨rfl, rfl, rfl, by decide +kernel, rfl, by decide +kernel, by decide +kernel⟩
theorem ok0 (F : bK K "part_sorts_of" "part_sorts_of" s0 f fd) (TT : Tab P w K mg base n C) : bS P w K mg base bU (n + 1) f fd ["word"] (cL K (cG 1 1 (cK0 C C'))) :=
 gA F sc0 (tok TT) [((6, 11), [])] [] [] (by kernel_rfl)
end
end Jm
end
section
namespace Jm
open PySem PySem.Spec PyProof.Rows L2 R
variable [bP]
section
variable {P : Program} {w : World} {K : W.Frag} {mg : Str -> Option Value} {base : Heap} {f : Addr} {fd : FuncData} {n : Nat} {C C' : CT}
theorem vK : dE N1 ["unit", "faces", "face"] (bH s1) := ⟨rfl, rfl, rfl, by decide +kernel, rfl, by decide +kernel, by decide +kernel⟩
theorem bF1 : cH N1 (bH s1) 0 "unit" := ⟨rfl, Or.inl (by kernel_rfl), (by kernel_rfl), (by kernel_rfl)⟩
theorem fK0 : cH N1 (bH s1) 1 "faces" := ⟨rfl, Or.inl (by kernel_rfl), (by kernel_rfl), (by kernel_rfl)⟩
theorem cQ2 : cH N1 (bH s1) 2 "face" := ⟨rfl, Or.inl (by kernel_rfl), (by kernel_rfl), (by kernel_rfl)⟩
theorem bF2 : cH N1 (bH s1) 3 "top" := ⟨rfl, Or.inl (by kernel_rfl), (by kernel_rfl), (by kernel_rfl)⟩
theorem bF3 : cH N1 (bH s1) 4 "fault" := ⟨rfl, Or.inl (by kernel_rfl), (by kernel_rfl), (by kernel_rfl)⟩
theorem fK1 : (bH s1).names.lookup ("fault_of_blocks" : Str) = some .globalImplicit := by kernel_rfl
theorem fK2 : (bH s1).names.lookup ("fault_of_deeds" : Str) = some .globalImplicit := by kernel_rfl
theorem fK3 : (bH s1).names.lookup ("fault_of_takes" : Str) = some .globalImplicit := by kernel_rfl
theorem fK4 : (bH s1).names.lookup ("fault_of_words" : Str) = some .globalImplicit := by kernel_rfl
theorem fK5 : (bH s1).names.lookup ("meanings_told" : Str) = some .globalImplicit := by kernel_rfl
theorem ok1 {n0 : Nat} {C0 : CT} (F : bK K "fault_of" "fault_of" s1 f fd) (TT : Tab P w K mg base n0 C0) (cm_fault_of_blocks : lF P w K mg base n "fault_of_blocks" (vD C)) (cm_fault_of_deeds : lF P w K mg base n "fault_of_deeds" (vE C)) (cm_fault_of_words : lF P w K mg base n "fault_of_words" (vF C)) (cm_meanings_told : qQ P w K mg base n "meanings_told" (qT C)) (cm_fault_of_takes : lF P w K mg base n "fault_of_takes" (qU C)) : bS P w K mg base bU (n + 1) f fd ["unit", "faces", "face"] (pT K (xA 3 5 (bD6 C))) := by
 refine dZ5 F vK (by decide) ?_
 intro cdv A outer s H E hr
 refine cW ?_ ?_
 ·refine cI4 (i := 3) vK.nd ?_ (Or.inl ?_) (.inl rfl) cm_meanings_told hr fK5 ?_ ?_
  ·rfl
  ·kernel_rfl
  ·refine bQ ?_ ?_ ?_
   ·rfl
   ·exact bL cQ2
   ·exact cT
  ·rfl
 ·refine cW ?_ ?_
  ·refine sQ (j := 4) vK.nd ?_ (Or.inl ?_) (.inl rfl) (qP cm_fault_of_takes hr fK3 ?_) ?_
   ·rfl
   ·kernel_rfl
   ·refine pS ?_ ?_
    ·exact bL bF1
    ·refine dZ0 fK0 ?_
     exact qO bF2
   ·rfl
  ·refine cW ?_ ?_
   ·refine jN ?_ ?_ ?_
    ·refine kG wU ?_ ?_ (kE _)
     ·exact bL bF3
     ·exact jU
    ·refine dG ?_
     refine sQ (j := 4) vK.nd ?_ (Or.inl ?_) (.inl rfl) (qP cm_fault_of_words hr fK4 ?_) ?_
     ·rfl
     ·kernel_rfl
     ·refine pS ?_ ?_
      ·exact bL bF1
      ·exact qO bF2
     ·rfl
    ·exact jM
   ·refine cW ?_ ?_
    ·refine jN ?_ ?_ ?_
     ·refine kG wU ?_ ?_ (kE _)
      ·exact bL bF3
      ·exact jU
     ·refine dG ?_
      refine sQ (j := 4) vK.nd ?_ (Or.inl ?_) (.inl rfl) (qP cm_fault_of_deeds hr fK2 ?_) ?_
      ·rfl
      ·kernel_rfl
      ·refine pS ?_ ?_
       ·exact bL bF1
       ·refine pS ?_ ?_
        ·exact bL cQ2
        ·exact qO bF2
      ·rfl
     ·exact jM
    ·refine cW ?_ ?_
     ·refine jN ?_ ?_ ?_
      ·refine kG wU ?_ ?_ (kE _)
       ·exact bL bF3
       ·exact jU
      ·refine dG ?_
       refine sQ (j := 4) vK.nd ?_ (Or.inl ?_) (.inl rfl) (qP cm_fault_of_blocks hr fK1 ?_) ?_
       ·rfl
       ·kernel_rfl
       ·refine pS ?_ ?_
        ·exact bL bF1
        ·exact qO bF2
       ·rfl
      ·exact jM
     ·refine dG ?_
      refine bJ8 ?_
      exact bL bF3
end
end Jm
end
section
namespace Jm
open PySem PySem.Spec PyProof.Rows L2 R
variable [bP]
section
variable {P : Program} {w : World} {K : W.Frag} {mg : Str -> Option Value} {base : Heap} {f : Addr} {fd : FuncData} {n : Nat} {C C' : CT}
theorem sc2 : dE N2 ["face"] (bH s2) := ⟨rfl, rfl, rfl, by decide +kernel, rfl, by decide +kernel, by decide +kernel⟩
theorem bU0 : cH N2 (bH s2) 0 "face" := ⟨rfl, Or.inl (by kernel_rfl), (by kernel_rfl), (by kernel_rfl)⟩
theorem bU1 : cH N2 (bH s2) 1 "meanings" := ⟨rfl, Or.inl (by kernel_rfl), (by kernel_rfl), (by kernel_rfl)⟩
theorem fK7 : cH N2 (bH s2) 2 "name" := ⟨rfl, Or.inl (by kernel_rfl), (by kernel_rfl), (by kernel_rfl)⟩
theorem cQ3 : cH N2 (bH s2) 3 "told" := ⟨rfl, Or.inl (by kernel_rfl), (by kernel_rfl), (by kernel_rfl)⟩
theorem fK8 : (bH s2).names.lookup ("WORD" : Str) = some .globalImplicit := by kernel_rfl
theorem ok2 {n0 : Nat} {C0 : CT} (F : bK K "meanings_told" "meanings_told" s2 f fd) (TT : Tab P w K mg base n0 C0) : bS P w K mg base bU (n + 1) f fd ["face"] (spN K (qT C)) := by
 refine dZ4 F sc2 ?_
 intro cdv A outer s H E hr
 refine cW ?_ ?_
 ·refine dY5 (i := 1) sc2.nd ?_ (Or.inl ?_) (.inl rfl)
  ·rfl
  ·kernel_rfl
 ·refine cW ?_ ?_
  ·refine jN ?_ ?_ ?_
   ·refine kG bA2 ?_ ?_ (kE _)
    ·exact bL bU0
    ·exact jU
   ·refine cW ?_ ?_
    ·refine nB rfl PassesOwn.never ?_ (jB (i := 2) sc2.nd ?_ (Or.inl ?_) (.inl rfl)) ?_ (hX ?_)
     ·refine lS ?_
      refine fV ?_ ?_ ?_
      ·rfl
      ·exact bL bU0
      ·exact cY
     ·rfl
     ·kernel_rfl
     ·refine dG ?_
      refine sN (kB hr) bU1 ?_ ?_ ?_
      ·exact bL fK7
      ·refine zZ fK8 TT.gc_WORD ?_
       kernel_rfl
      ·rfl
     ·rfl
    ·refine dG ?_
     refine nB rfl PassesOwn.never ?_ (jB (i := 3) sc2.nd ?_ (Or.inl ?_) (.inl rfl)) ?_ (hX ?_)
     ·refine lS ?_
      refine fV ?_ ?_ ?_
      ·rfl
      ·exact bL bU0
      ·exact cY
     ·rfl
     ·kernel_rfl
     ·refine dG ?_
      refine sN (kB hr) bU1 ?_ ?_ ?_
      ·refine fV ?_ ?_ ?_
       ·rfl
       ·exact bL cQ3
       ·exact cY
      ·refine jV ?_
       refine bQ ?_ ?_ ?_
       ·rfl
       ·refine kT ?_
        kernel_rfl
       ·refine bQ ?_ ?_ ?_
        ·rfl
        ·refine fV ?_ ?_ ?_
         ·rfl
         ·exact bL cQ3
         ·exact cY
        ·exact cT
      ·rfl
     ·rfl
   ·exact jM
  ·refine dG ?_
   exact dY8 bU1
end
end Jm
end
section
namespace Jm
open PySem PySem.Spec PyProof.Rows L2 R
variable [bP]
section
variable {P : Program} {w : World} {K : W.Frag} {mg : Str -> Option Value} {base : Heap} {f : Addr} {fd : FuncData} {n : Nat} {C C' : CT}
theorem sc3 : dE N3 ["unit", "faces", "top"] (bH s3) := ⟨rfl, rfl, rfl, by decide +kernel, rfl, by decide +kernel, by decide +kernel⟩
theorem cQ4 : cH N3 (bH s3) 0 "unit" := ⟨rfl, Or.inl (by kernel_rfl), (by kernel_rfl), (by kernel_rfl)⟩
theorem cQ5 : cH N3 (bH s3) 1 "faces" := ⟨rfl, Or.inl (by kernel_rfl), (by kernel_rfl), (by kernel_rfl)⟩
theorem cQ6 : cH N3 (bH s3) 2 "top" := ⟨rfl, Or.inl (by kernel_rfl), (by kernel_rfl), (by kernel_rfl)⟩
theorem bF5 : cH N3 (bH s3) 3 "source" := ⟨rfl, Or.inl (by kernel_rfl), (by kernel_rfl), (by kernel_rfl)⟩
theorem vL : cH N3 (bH s3) 4 "name" := ⟨rfl, Or.inl (by kernel_rfl), (by kernel_rfl), (by kernel_rfl)⟩
theorem cQ7 : cH N3 (bH s3) 5 "told" := ⟨rfl, Or.inl (by kernel_rfl), (by kernel_rfl), (by kernel_rfl)⟩
theorem fL0 : (bH s3).names.lookup ("meanings_told" : Str) = some .globalImplicit := by kernel_rfl
theorem ok3 {n0 : Nat} {C0 : CT} (F : bK K "fault_of_takes" "fault_of_takes" s3 f fd) (TT : Tab P w K mg base n0 C0) (cm_meanings_told : qQ P w K mg base n "meanings_told" (qT C)) : bS P w K mg base bU (n + 1) f fd ["unit", "faces", "top"] (pR K (qU C)) := by
 refine sO F sc3 (by decide) ?_
 intro pd cdv A outer s H E hr
 refine cW ?_ ?_
 ·refine cG7 rfl PassesOwn.never ?_ (bM6 (i := 3) (j := 4) rfl sc3.nd ?_ (Or.inl ?_) ?_ (Or.inl ?_) (.inl rfl) (.inl rfl)) ?_ (hX ?_)
  ·refine lS ?_
   refine fV ?_ ?_ ?_
   ·rfl
   ·exact bL cQ4
   ·exact cY
  ·rfl
  ·kernel_rfl
  ·rfl
  ·kernel_rfl
  ·refine cW ?_ ?_
   ·refine jN ?_ ?_ ?_
    ·refine IW.it ?_
     refine cA1 ?_ ?_
     ·refine kG (wK (wR hr)) ?_ ?_ (kE _)
      ·exact bL bF5
      ·refine fV ?_ ?_ ?_
       ·rfl
       ·exact bL cQ4
       ·exact cY
     ·refine cA0 ?_
      refine bO1 (kB hr) cQ5 ?_ ?_
      ·exact bL bF5
      ·with_unfolding_all rfl
    ·refine dG ?_
     refine jZ ?_
     refine jV ?_
     refine bQ ?_ ?_ ?_
     ·rfl
     ·refine kT ?_
      kernel_rfl
     ·refine bQ ?_ ?_ ?_
      ·rfl
      ·exact bL bF5
      ·exact cT
    ·exact jM
   ·refine cW ?_ ?_
    ·refine cI4 (i := 5) sc3.nd ?_ (Or.inl ?_) (.inl rfl) cm_meanings_told hr fL0 ?_ ?_
     ·rfl
     ·kernel_rfl
     ·refine bQ ?_ ?_ ?_
      ·rfl
      ·refine bO4 (kB hr) cQ5 ?_ (fun _ _ => rfl)
       exact bL bF5
      ·exact cT
     ·rfl
    ·refine cW ?_ ?_
     ·refine jN ?_ ?_ ?_
      ·refine bO1 (kB hr) cQ7 ?_ ?_
       ·exact bL vL
       ·with_unfolding_all rfl
      ·refine dG ?_
       refine jZ ?_
       refine jV ?_
       refine bQ ?_ ?_ ?_
       ·rfl
       ·refine kT ?_
        kernel_rfl
       ·refine bQ ?_ ?_ ?_
        ·rfl
        ·exact bL vL
        ·exact cT
      ·exact jM
     ·refine cW ?_ ?_
      ·refine jN ?_ ?_ ?_
       ·refine bB1 (kB hr) cQ6 ?_ ?_
        ·exact bL vL
        ·with_unfolding_all rfl
       ·refine dG ?_
        refine jZ ?_
        refine jV ?_
        refine bQ ?_ ?_ ?_
        ·rfl
        ·refine kT ?_
         kernel_rfl
        ·refine bQ ?_ ?_ ?_
         ·rfl
         ·exact bL vL
         ·exact cT
       ·exact jM
      ·refine dG ?_
       refine sN (kB hr) cQ6 ?_ ?_ ?_
       ·exact bL vL
       ·refine bO4 (kB hr) cQ7 ?_ (fun _ _ => rfl)
        exact bL vL
       ·rfl
  ·rfl
 ·refine dG ?_
  refine jZ ?_
  exact jU
end
end Jm
end
section
namespace Jm
open PySem PySem.Spec PyProof.Rows L2 R
variable [bP]
section
variable {P : Program} {w : World} {K : W.Frag} {mg : Str -> Option Value} {base : Heap} {f : Addr} {fd : FuncData} {n : Nat} {C C' : CT}
theorem sc4 : dE N4 ["unit", "top"] (bH s4) := ⟨rfl, rfl, rfl, by decide +kernel, rfl, by decide +kernel, by decide +kernel⟩
theorem fL2 : cH N4 (bH s4) 0 "unit" := ⟨rfl, Or.inl (by kernel_rfl), (by kernel_rfl), (by kernel_rfl)⟩
theorem cQ9 : cH N4 (bH s4) 1 "top" := ⟨rfl, Or.inl (by kernel_rfl), (by kernel_rfl), (by kernel_rfl)⟩
theorem bU3 : cH N4 (bH s4) 2 "name" := ⟨rfl, Or.inl (by kernel_rfl), (by kernel_rfl), (by kernel_rfl)⟩
theorem fL3 : (bH s4).names.lookup ("WORD" : Str) = some .globalImplicit := by kernel_rfl
theorem ok4 {n0 : Nat} {C0 : CT} (F : bK K "fault_of_words" "fault_of_words" s4 f fd) (TT : Tab P w K mg base n0 C0) : bS P w K mg base bU (n + 1) f fd ["unit", "top"] (pR K (vF C)) := by
 refine sO F sc4 (by decide) ?_
 intro pd cdv A outer s H E hr
 refine cW ?_ ?_
 ·refine nB rfl PassesOwn.never ?_ (jB (i := 2) sc4.nd ?_ (Or.inl ?_) (.inl rfl)) ?_ (hX ?_)
  ·refine lS ?_
   refine fV ?_ ?_ ?_
   ·rfl
   ·exact bL fL2
   ·exact cY
  ·rfl
  ·kernel_rfl
  ·refine cW ?_ ?_
   ·refine jN ?_ ?_ ?_
    ·refine bB1 (kB hr) cQ9 ?_ ?_
     ·exact bL bU3
     ·with_unfolding_all rfl
    ·refine dG ?_
     refine jZ ?_
     refine jV ?_
     refine bQ ?_ ?_ ?_
     ·rfl
     ·refine kT ?_
      kernel_rfl
     ·refine bQ ?_ ?_ ?_
      ·rfl
      ·exact bL bU3
      ·exact cT
    ·exact jM
   ·refine dG ?_
    refine sN (kB hr) cQ9 ?_ ?_ ?_
    ·exact bL bU3
    ·refine zZ fL3 TT.gc_WORD ?_
     kernel_rfl
    ·rfl
  ·rfl
 ·refine dG ?_
  refine jZ ?_
  exact jU
end
end Jm
end
section
namespace Jm
open PySem PySem.Spec PyProof.Rows L2 R
variable [bP]
section
variable {P : Program} {w : World} {K : W.Frag} {mg : Str -> Option Value} {base : Heap} {f : Addr} {fd : FuncData} {n : Nat} {C C' : CT}
theorem yB : dE N5 ["unit", "face", "top"] (bH s5) := ⟨rfl, rfl, rfl, by decide +kernel, rfl, by decide +kernel, by decide +kernel⟩
theorem fL5 : cH N5 (bH s5) 0 "unit" := ⟨rfl, Or.inl (by kernel_rfl), (by kernel_rfl), (by kernel_rfl)⟩
theorem fL6 : cH N5 (bH s5) 1 "face" := ⟨rfl, Or.inl (by kernel_rfl), (by kernel_rfl), (by kernel_rfl)⟩
theorem cR0 : cH N5 (bH s5) 2 "top" := ⟨rfl, Or.inl (by kernel_rfl), (by kernel_rfl), (by kernel_rfl)⟩
theorem bU4 : cH N5 (bH s5) 3 "awaited" := ⟨rfl, Or.inl (by kernel_rfl), (by kernel_rfl), (by kernel_rfl)⟩
theorem cR1 : cH N5 (bH s5) 4 "deed" := ⟨rfl, Or.inl (by kernel_rfl), (by kernel_rfl), (by kernel_rfl)⟩
theorem yC : cH N5 (bH s5) 5 "name" := ⟨rfl, Or.inl (by kernel_rfl), (by kernel_rfl), (by kernel_rfl)⟩
theorem cR2 : cH N5 (bH s5) 6 "count" := ⟨rfl, Or.inl (by kernel_rfl), (by kernel_rfl), (by kernel_rfl)⟩
theorem cR3 : (bH s5).names.lookup ("len" : Str) = some .globalImplicit := by kernel_rfl
theorem fL7 : (bH s5).names.lookup ("list" : Str) = some .globalImplicit := by kernel_rfl
theorem ok5 {n0 : Nat} {C0 : CT} (F : bK K "fault_of_deeds" "fault_of_deeds" s5 f fd) (TT : Tab P w K mg base n0 C0) : bS P w K mg base bU (n + 1) f fd ["unit", "face", "top"] (pR K (vE C)) := by
 refine sO F yB (by decide) ?_
 intro pd cdv A outer s H E hr
 refine cW ?_ ?_
 ·refine fA1 (i := 3) yB.nd ?_ (Or.inl ?_) (.inl rfl) ?_ ?_
  ·rfl
  ·kernel_rfl
  ·refine kG wU ?_ ?_ (kE _)
   ·exact bL fL6
   ·exact jU
  ·rfl
 ·refine cW ?_ ?_
  ·refine nB rfl PassesOwn.never ?_ (jB (i := 4) yB.nd ?_ (Or.inl ?_) (.inl rfl)) ?_ (hX ?_)
   ·refine lS ?_
    refine fV ?_ ?_ ?_
    ·rfl
    ·exact bL fL5
    ·exact cY
   ·rfl
   ·kernel_rfl
   ·refine cW ?_ ?_
    ·refine mH (i := 5) yB.nd ?_ (Or.inl ?_) ?_ (.inl rfl) ?_
     ·rfl
     ·kernel_rfl
     ·rfl
     ·refine fV ?_ ?_ ?_
      ·rfl
      ·exact bL cR1
      ·exact cY
    ·refine cW ?_ ?_
     ·refine mH (i := 6) yB.nd ?_ (Or.inl ?_) ?_ (.inl rfl) ?_
      ·rfl
      ·kernel_rfl
      ·rfl
      ·refine rZ zP kP cR3 TT.b_len PySem.boot_len ?_ ?_ ?_ ?_
       ·rfl
       ·kernel_rfl
       ·kernel_rfl
       ·refine bQ ?_ ?_ ?_
        ·rfl
        ·refine fV ?_ ?_ ?_
         ·rfl
         ·exact bL cR1
         ·exact cY
        ·exact cT
     ·refine cW ?_ ?_
      ·refine jN ?_ ?_ ?_
       ·refine bB1 (kB hr) bU4 ?_ ?_
        ·exact bL yC
        ·with_unfolding_all rfl
       ·refine dG ?_
        refine jN ?_ ?_ ?_
        ·refine kG bA1 ?_ ?_ (kE _)
         ·exact dN4
         ·exact bL cR2
        ·refine dG ?_
         refine jZ ?_
         refine jV ?_
         refine bQ ?_ ?_ ?_
         ·rfl
         ·refine kT ?_
          kernel_rfl
         ·refine bQ ?_ ?_ ?_
          ·rfl
          ·exact bL yC
          ·exact cT
        ·exact jM
       ·refine dG ?_
        refine jN ?_ ?_ ?_
        ·refine bB1 (kB hr) cR0 ?_ ?_
         ·exact bL yC
         ·with_unfolding_all rfl
        ·refine dG ?_
         refine jZ ?_
         refine jV ?_
         refine bQ ?_ ?_ ?_
         ·rfl
         ·refine kT ?_
          kernel_rfl
         ·refine bQ ?_ ?_ ?_
          ·rfl
          ·exact bL yC
          ·exact cT
        ·exact jM
      ·refine dG ?_
       refine sN (kB hr) cR0 ?_ ?_ ?_
       ·exact bL yC
       ·refine jV ?_
        refine bQ ?_ ?_ ?_
        ·rfl
        ·refine kT ?_
         kernel_rfl
        ·refine bQ ?_ ?_ ?_
         ·rfl
         ·exact bL cR2
         ·exact cT
       ·rfl
   ·rfl
  ·refine cW ?_ ?_
   ·refine jN ?_ ?_ ?_
    ·refine kG cC0 ?_ ?_ (kE _)
     ·exact dZ9 bU4 cR3 TT.b_len
     ·exact cY
    ·refine dG ?_
     refine jZ ?_
     refine jV ?_
     refine bQ ?_ ?_ ?_
     ·rfl
     ·refine kT ?_
      kernel_rfl
     ·refine bQ ?_ ?_ ?_
      ·rfl
      ·refine fV ?_ ?_ ?_
       ·rfl
       ·refine pP zQ kP fL7 TT.b_list PyProof.Rows.boot_list ?_ ?_ ?_ ?_
        ·rfl
        ·kernel_rfl
        ·kernel_rfl
        ·refine bQ ?_ ?_ ?_
         ·rfl
         ·exact bL bU4
         ·exact cT
       ·exact cY
      ·exact cT
    ·exact jM
   ·refine dG ?_
    refine jZ ?_
    exact jU
end
end Jm
end
section
namespace Jm
open PySem PySem.Spec PyProof.Rows L2 R
variable [bP]
section
variable {P : Program} {w : World} {K : W.Frag} {mg : Str -> Option Value} {base : Heap} {f : Addr} {fd : FuncData} {n : Nat} {C C' : CT}
theorem yD : dE N6 ["unit", "top"] (bH s6) := ⟨rfl, rfl, rfl, by decide +kernel, rfl, by decide +kernel, by decide +kernel⟩
theorem cR4 : cH N6 (bH s6) 0 "unit" := ⟨rfl, Or.inl (by kernel_rfl), (by kernel_rfl), (by kernel_rfl)⟩
theorem cR5 : cH N6 (bH s6) 1 "top" := ⟨rfl, Or.inl (by kernel_rfl), (by kernel_rfl), (by kernel_rfl)⟩
theorem bU5 : cH N6 (bH s6) 2 "deed" := ⟨rfl, Or.inl (by kernel_rfl), (by kernel_rfl), (by kernel_rfl)⟩
theorem cR6 : cH N6 (bH s6) 3 "meanings" := ⟨rfl, Or.inl (by kernel_rfl), (by kernel_rfl), (by kernel_rfl)⟩
theorem fL9 : cH N6 (bH s6) 4 "name" := ⟨rfl, Or.inl (by kernel_rfl), (by kernel_rfl), (by kernel_rfl)⟩
theorem cR7 : cH N6 (bH s6) 5 "fault" := ⟨rfl, Or.inl (by kernel_rfl), (by kernel_rfl), (by kernel_rfl)⟩
theorem fM0 : (bH s6).names.lookup ("WORD" : Str) = some .globalImplicit := by kernel_rfl
theorem fM1 : (bH s6).names.lookup ("dict" : Str) = some .globalImplicit := by kernel_rfl
theorem cR8 : (bH s6).names.lookup ("fault_of_block" : Str) = some .globalImplicit := by kernel_rfl
theorem ok6 {n0 : Nat} {C0 : CT} (F : bK K "fault_of_blocks" "fault_of_blocks" s6 f fd) (TT : Tab P w K mg base n0 C0) (cm_fault_of_block : lF P w K mg base n "fault_of_block" (nH C)) : bS P w K mg base bU (n + 1) f fd ["unit", "top"] (pR K (vD C)) := by
 refine sO F yD (by decide) ?_
 intro pd cdv A outer s H E hr
 refine cW ?_ ?_
 ·refine nB rfl PassesOwn.never ?_ (jB (i := 2) yD.nd ?_ (Or.inl ?_) (.inl rfl)) ?_ (hX ?_)
  ·refine lS ?_
   refine fV ?_ ?_ ?_
   ·rfl
   ·exact bL cR4
   ·exact cY
  ·rfl
  ·kernel_rfl
  ·refine cW ?_ ?_
   ·refine dY7 (j := 3) yD.nd ?_ (Or.inl ?_) (.inl rfl) cR5 fM1 TT.b_dict ?_
    ·rfl
    ·kernel_rfl
    ·rfl
   ·refine cW ?_ ?_
    ·refine nB rfl PassesOwn.never ?_ (jB (i := 4) yD.nd ?_ (Or.inl ?_) (.inl rfl)) ?_ (hX ?_)
     ·refine lS ?_
      refine kQ nS ?_ ?_
      ·refine fV ?_ ?_ ?_
       ·rfl
       ·exact bL bU5
       ·exact cY
      ·refine fV ?_ ?_ ?_
       ·rfl
       ·exact bL bU5
       ·exact cY
     ·rfl
     ·kernel_rfl
     ·refine dG ?_
      refine sN (kB hr) cR6 ?_ ?_ ?_
      ·exact bL fL9
      ·refine zZ fM0 TT.gc_WORD ?_
       kernel_rfl
      ·rfl
     ·rfl
    ·refine cW ?_ ?_
     ·refine sQ (j := 5) yD.nd ?_ (Or.inl ?_) (.inl rfl) (qP cm_fault_of_block hr cR8 ?_) ?_
      ·rfl
      ·kernel_rfl
      ·refine pS ?_ ?_
       ·refine fV ?_ ?_ ?_
        ·rfl
        ·exact bL bU5
        ·exact cY
       ·exact qO cR6
      ·rfl
     ·refine dG ?_
      refine jN ?_ ?_ ?_
      ·refine kG bA2 ?_ ?_ (kE _)
       ·exact bL cR7
       ·exact jU
      ·refine dG ?_
       refine jZ ?_
       exact bL cR7
      ·exact jM
  ·rfl
 ·refine dG ?_
  refine dZ1 (qP cm_fault_of_block hr cR8 ?_)
  refine pS ?_ ?_
  ·refine fV ?_ ?_ ?_
   ·rfl
   ·exact bL cR4
   ·exact cY
  ·exact qO cR5
end
end Jm
end
section
namespace Jm
open PySem PySem.Spec PyProof.Rows L2 R
variable [bP]
section
variable {P : Program} {w : World} {K : W.Frag} {mg : Str -> Option Value} {base : Heap} {f : Addr} {fd : FuncData} {n : Nat} {C C' : CT}
theorem sc7 : dE N7 ["block", "meanings"] (bH s7) := ⟨rfl, rfl, rfl, by decide +kernel, rfl, by decide +kernel, by decide +kernel⟩
theorem fM3 : cH N7 (bH s7) 0 "block" := ⟨rfl, Or.inl (by kernel_rfl), (by kernel_rfl), (by kernel_rfl)⟩
theorem fM4 : cH N7 (bH s7) 1 "meanings" := ⟨rfl, Or.inl (by kernel_rfl), (by kernel_rfl), (by kernel_rfl)⟩
theorem fM5 : cH N7 (bH s7) 2 "use" := ⟨rfl, Or.inl (by kernel_rfl), (by kernel_rfl), (by kernel_rfl)⟩
theorem cR9 : cH N7 (bH s7) 3 "fault" := ⟨rfl, Or.inl (by kernel_rfl), (by kernel_rfl), (by kernel_rfl)⟩
theorem fM6 : (bH s7).names.lookup ("fault_of_use" : Str) = some .globalImplicit := by kernel_rfl
theorem fM7 : (bH s7).names.lookup ("uses_of_block" : Str) = some .globalImplicit := by kernel_rfl
theorem ok7 {n0 : Nat} {C0 : CT} (F : bK K "fault_of_block" "fault_of_block" s7 f fd) (TT : Tab P w K mg base n C) (cm_fault_of_use : lF P w K mg base n "fault_of_use" (mN C)) : bS P w K mg base bU (n + 1) f fd ["block", "meanings"] (pR K (nH C)) := by
 refine sO F sc7 (by decide) ?_
 intro pd cdv A outer s H E hr
 refine cW ?_ ?_
 ·refine nB rfl PassesOwn.never ?_ (jB (i := 2) sc7.nd ?_ (Or.inl ?_) (.inl rfl)) ?_ (hX ?_)
  ·refine lS ?_
   refine hV TT.c9 hr fM7 ?_ ?_ ?_
   ·rfl
   ·kernel_rfl
   ·refine bQ ?_ ?_ ?_
    ·rfl
    ·exact bL fM3
    ·exact cT
  ·rfl
  ·kernel_rfl
  ·refine cW ?_ ?_
   ·refine sQ (j := 3) sc7.nd ?_ (Or.inl ?_) (.inl rfl) (qP cm_fault_of_use hr fM6 ?_) ?_
    ·rfl
    ·kernel_rfl
    ·refine pS ?_ ?_
     ·exact bL fM5
     ·exact qO fM4
    ·rfl
   ·refine dG ?_
    refine jN ?_ ?_ ?_
    ·refine kG bA2 ?_ ?_ (kE _)
     ·exact bL cR9
     ·exact jU
    ·refine dG ?_
     refine jZ ?_
     exact bL cR9
    ·exact jM
  ·rfl
 ·refine dG ?_
  refine jZ ?_
  exact jU
end
end Jm
end
section
namespace Jm
open PySem PySem.Spec PyProof.Rows L2 R
variable [bP]
section
variable {P : Program} {w : World} {K : W.Frag} {mg : Str -> Option Value} {base : Heap} {f : Addr} {fd : FuncData} {n : Nat} {C C' : CT}
theorem sc8 : dE N8 ["use", "meanings"] (bH s8) := ⟨rfl, rfl, rfl, by decide +kernel, rfl, by decide +kernel, by decide +kernel⟩
theorem bF6 : cH N8 (bH s8) 0 "use" := ⟨rfl, Or.inl (by kernel_rfl), (by kernel_rfl), (by kernel_rfl)⟩
theorem cS0 : cH N8 (bH s8) 1 "meanings" := ⟨rfl, Or.inl (by kernel_rfl), (by kernel_rfl), (by kernel_rfl)⟩
theorem yE : cH N8 (bH s8) 2 "name" := ⟨rfl, Or.inl (by kernel_rfl), (by kernel_rfl), (by kernel_rfl)⟩
theorem cS1 : cH N8 (bH s8) 3 "meaning" := ⟨rfl, Or.inl (by kernel_rfl), (by kernel_rfl), (by kernel_rfl)⟩
theorem ok8 {n0 : Nat} {C0 : CT} (F : bK K "fault_of_use" "fault_of_use" s8 f fd) (TT : Tab P w K mg base n0 C0) : bS P w K mg base bU (n + 1) f fd ["use", "meanings"] (pR K (mN C)) := by
 refine sO F sc8 (by decide) ?_
 intro pd cdv A outer s H E hr
 refine cW ?_ ?_
 ·refine mH (i := 2) sc8.nd ?_ (Or.inl ?_) ?_ (.inl rfl) ?_
  ·rfl
  ·kernel_rfl
  ·rfl
  ·refine fV ?_ ?_ ?_
   ·rfl
   ·exact bL bF6
   ·exact cY
 ·refine cW ?_ ?_
  ·refine jN ?_ ?_ ?_
   ·refine bO1 (kB hr) cS0 ?_ ?_
    ·exact bL yE
    ·with_unfolding_all rfl
   ·refine dG ?_
    refine jZ ?_
    refine jV ?_
    refine bQ ?_ ?_ ?_
    ·rfl
    ·refine kT ?_
     kernel_rfl
    ·refine bQ ?_ ?_ ?_
     ·rfl
     ·exact bL yE
     ·exact cT
   ·exact jM
  ·refine cW ?_ ?_
   ·refine mH (i := 3) sc8.nd ?_ (Or.inl ?_) ?_ (.inl rfl) ?_
    ·rfl
    ·kernel_rfl
    ·rfl
    ·refine bO4 (kB hr) cS0 ?_ (fun _ _ => rfl)
     exact bL yE
   ·refine cW ?_ ?_
    ·refine jN ?_ ?_ ?_
     ·refine kG (wK (wR hr)) ?_ ?_ (kE _)
      ·refine fV ?_ ?_ ?_
       ·rfl
       ·exact bL bF6
       ·exact cY
      ·refine kT ?_
       kernel_rfl
     ·refine dG ?_
      refine jZ ?_
      refine bJ6 ?_ ?_ ?_
      ·refine kG bA1 ?_ ?_ (kE _)
       ·refine fV ?_ ?_ ?_
        ·rfl
        ·exact bL cS1
        ·exact cY
       ·refine fV ?_ ?_ ?_
        ·rfl
        ·exact bL bF6
        ·exact cY
      ·refine jV ?_
       refine bQ ?_ ?_ ?_
       ·rfl
       ·refine kT ?_
        kernel_rfl
       ·refine bQ ?_ ?_ ?_
        ·rfl
        ·exact bL yE
        ·exact cT
      ·exact jU
     ·exact jM
    ·refine dG ?_
     refine jZ ?_
     refine bJ6 ?_ ?_ ?_
     ·refine kG bA1 ?_ ?_ (kE _)
      ·refine fV ?_ ?_ ?_
       ·rfl
       ·exact bL cS1
       ·exact cY
      ·refine fV ?_ ?_ ?_
       ·rfl
       ·exact bL bF6
       ·exact cY
     ·refine jV ?_
      refine bQ ?_ ?_ ?_
      ·rfl
      ·refine kT ?_
       kernel_rfl
      ·refine bQ ?_ ?_ ?_
       ·rfl
       ·exact bL yE
       ·exact cT
     ·exact jU
end
end Jm
end
section
namespace Jm
open PySem PySem.Spec PyProof.Rows L2 R
variable [bP]
section
variable {P : Program} {w : World} {K : W.Frag} {mg : Str -> Option Value} {base : Heap} {f : Addr} {fd : FuncData} {n : Nat} {C C' : CT}
theorem sc9 : dE N9 ["block"] (bH s9) := ⟨rfl, rfl, rfl, by decide +kernel, rfl, by decide +kernel, by decide +kernel⟩
theorem ok9 (F : bK K "uses_of_block" "uses_of_block" s9 f fd) (TT : Tab P w K mg base n C) : bS P w K mg base bU (n + 1) f fd ["block"] (cL K (cG 1 3 (xF C C'))) :=
 gA F sc9 (tok TT) [] ["uses"] [(1, 1)] (by kernel_rfl)
end
end Jm
end
section
namespace Jm
open PySem PySem.Spec PyProof.Rows L2 R
variable [bP]
section
variable {P : Program} {w : World} {K : W.Frag} {mg : Str -> Option Value} {base : Heap} {f : Addr} {fd : FuncData} {n : Nat} {C C' : CT}
theorem fN2 : dE N10 ["statement"] (bH s10) := ⟨rfl, rfl, rfl, by decide +kernel, rfl, by decide +kernel, by decide +kernel⟩
theorem fN3 (F : bK K "uses_of_statement" "uses_of_statement" s10 f fd) (TT : Tab P w K mg base n C) : bS P w K mg base bU (n + 1) f fd ["statement"] (cL K (cG 1 4 (vB C C'))) :=
 gA F fN2 (tok TT) [] ["uses"] [(3, 1)] (by kernel_rfl)
end
end Jm
end
section
namespace Jm
open PySem PySem.Spec PyProof.Rows L2 R
variable [bP]
section
variable {P : Program} {w : World} {K : W.Frag} {mg : Str -> Option Value} {base : Heap} {f : Addr} {fd : FuncData} {n : Nat} {C C' : CT}
theorem fN4 : dE N11 ["sort", "part"] (bH sY) := ⟨rfl, rfl, rfl, by decide +kernel, rfl, by decide +kernel, by decide +kernel⟩
theorem fN5 (F : bK K "uses_of_part" "uses_of_part" sY f fd) (TT : Tab P w K mg base n C) : bS P w K mg base bU (n + 1) f fd ["sort", "part"] (cL K (cG 2 2 (lG C C'))) :=
 gA F fN4 (tok TT) [] [] [] (by kernel_rfl)
end
end Jm
end
section
namespace Jm
open PySem PySem.Spec PyProof.Rows L2 R
variable [bP]
section
variable {P : Program} {w : World} {K : W.Frag} {mg : Str -> Option Value} {base : Heap} {f : Addr} {fd : FuncData} {n : Nat} {C C' : CT}
theorem fN6 : dE N12 ["expression"] (bH sZ) := ⟨rfl, rfl, rfl, by decide +kernel, rfl, by decide +kernel, by decide +kernel⟩
theorem fN7 (F : bK K "uses_of_expression" "uses_of_expression" sZ f fd) (TT : Tab P w K mg base n C) : bS P w K mg base bU (n + 1) f fd ["expression"] (cL K (cG 1 4 (xG C C'))) :=
 gA F fN6 (tok TT) [] [] [] (by kernel_rfl)
end
end Jm
end
section
namespace Jm
open PySem PySem.Spec PyProof.Rows L2 R
variable [bP]
section
variable {P : Program} {w : World} {K : W.Frag} {mg : Str -> Option Value} {base : Heap} {f : Addr} {fd : FuncData} {n : Nat} {C C' : CT}
theorem fN8 : dE N13 ["parts"] (bH tE) := ⟨rfl, rfl, rfl, by decide +kernel, rfl, by decide +kernel, by decide +kernel⟩
theorem fN9 (F : bK K "uses_of_parts" "uses_of_parts" tE f fd) (TT : Tab P w K mg base n C) : bS P w K mg base bU (n + 1) f fd ["parts"] (cL K (cG 1 3 (xH C C'))) :=
 gA F fN8 (tok TT) [] ["uses"] [(1, 1)] (by kernel_rfl)
end
end Jm
end
section
namespace Jm
open PySem PySem.Spec PyProof.Rows L2 R
variable [bP]
section
variable {P : Program} {w : World} {K : W.Frag} {mg : Str -> Option Value} {base : Heap} {f : Addr} {fd : FuncData} {n : Nat} {C C' : CT}
theorem fO0 : dE N14 ["_law_script", "_law_k"] (bH tG) := ⟨rfl, rfl, rfl, by decide +kernel, rfl, by decide +kernel, by decide +kernel⟩
theorem fO1 (F : bK K "_law_cell_at" "_law_cell_at" tG f fd) (TT : Tab P w K mg base n C) : bS P w K mg base bU (n + 1) f fd ["_law_script", "_law_k"] (cL K (cG 2 2 (bC7 C C'))) :=
 gA F fO0 (tok TT) [] [] [] (by kernel_rfl)
end
end Jm
end
section
namespace Jm
open PySem PySem.Spec PyProof.Rows L2 R
variable [bP]
section
variable {P : Program} {w : World} {K : W.Frag} {mg : Str -> Option Value} {base : Heap} {f : Addr} {fd : FuncData} {n : Nat} {C C' : CT}
theorem fO2 : dE N15 ["_law_script", "_law_k"] (bH tH) := ⟨rfl, rfl, rfl, by decide +kernel, rfl, by decide +kernel, by decide +kernel⟩
theorem fO3 (F : bK K "_law_mixed" "_law_mixed" tH f fd) (TT : Tab P w K mg base n C) : bS P w K mg base bU (n + 1) f fd ["_law_script", "_law_k"] (cL K (cG 2 3 (bC8 C C'))) :=
 gA F fO2 (tok TT) [] [] [] (by kernel_rfl)
end
end Jm
end
section
namespace Jm
open PySem PySem.Spec PyProof.Rows L2 R
variable [bP]
section
variable {P : Program} {w : World} {K : W.Frag} {mg : Str -> Option Value} {base : Heap} {f : Addr} {fd : FuncData} {n : Nat} {C C' : CT}
theorem fO4 : dE N16 ["_law_number", "_law_k"] (bH tJ) := ⟨rfl, rfl, rfl, by decide +kernel, rfl, by decide +kernel, by decide +kernel⟩
theorem fO5 (F : bK K "_law_drawn" "_law_drawn" tJ f fd) (TT : Tab P w K mg base n C) : bS P w K mg base bU (n + 1) f fd ["_law_number", "_law_k"] (cL K (cG 2 3 (bC9 C C'))) :=
 gA F fO4 (tok TT) [] [] [] (by kernel_rfl)
end
end Jm
end
section
namespace Jm
open PySem PySem.Spec PyProof.Rows L2 R
variable [bP]
section
variable {P : Program} {w : World} {K : W.Frag} {mg : Str -> Option Value} {base : Heap} {f : Addr} {fd : FuncData} {n : Nat} {C C' : CT}
theorem fO6 : dE N17 ["_law_number"] (bH tK) := ⟨rfl, rfl, rfl, by decide +kernel, rfl, by decide +kernel, by decide +kernel⟩
theorem fO7 (F : bK K "_law_stem" "_law_stem" tK f fd) (TT : Tab P w K mg base n C) : bS P w K mg base bU (n + 1) f fd ["_law_number"] (cL K (cG 1 4 (bD0 C C'))) :=
 gA F fO6 (tok TT) [] [] [] (by kernel_rfl)
end
end Jm
end
section
namespace Jm
open PySem PySem.Spec PyProof.Rows L2 R
variable [bP]
section
variable {P : Program} {w : World} {K : W.Frag} {mg : Str -> Option Value} {base : Heap} {f : Addr} {fd : FuncData} {n : Nat} {C C' : CT}
theorem fO8 : dE N18 ["_law_number", "_law_k"] (bH tL) := ⟨rfl, rfl, rfl, by decide +kernel, rfl, by decide +kernel, by decide +kernel⟩
theorem fO9 (F : bK K "_law_name" "_law_name" tL f fd) (TT : Tab P w K mg base n C) : bS P w K mg base bU (n + 1) f fd ["_law_number", "_law_k"] (cL K (cG 2 3 (bD1 C C'))) :=
 gA F fO8 (tok TT) [] [] [] (by kernel_rfl)
end
end Jm
end
section
namespace Jm
open PySem PySem.Spec PyProof.Rows L2 R
variable [bP]
section
variable {P : Program} {w : World} {K : W.Frag} {mg : Str -> Option Value} {base : Heap} {f : Addr} {fd : FuncData} {n : Nat} {C C' : CT}
theorem fP0 : dE N19 ["_law_number"] (bH tM) := ⟨rfl, rfl, rfl, by decide +kernel, rfl, by decide +kernel, by decide +kernel⟩
theorem fP1 (F : bK K "_law_value" "_law_value" tM f fd) (TT : Tab P w K mg base n C) : bS P w K mg base bU (n + 1) f fd ["_law_number"] (cL K (cG 1 1 (vC C C'))) :=
 gA F fP0 (tok TT) [] [] [] (by kernel_rfl)
end
end Jm
end
section
namespace Jm
open PySem PySem.Spec PyProof.Rows L2 R
variable [bP]
section
variable {P : Program} {w : World} {K : W.Frag} {mg : Str -> Option Value} {base : Heap} {f : Addr} {fd : FuncData} {n : Nat} {C C' : CT}
theorem fP2 : dE N20 ["_law_number", "_law_names", "_law_deeds", "_law_deep"] (bH tN) := ⟨rfl, rfl, rfl, by decide +kernel, rfl, by decide +kernel, by decide +kernel⟩
theorem fP3 (F : bK K "_law_expression" "_law_expression" tN f fd) (TT : Tab P w K mg base n C) : bS P w K mg base bU (n + 1) f fd ["_law_number", "_law_names", "_law_deeds", "_law_deep"] (cL K (cG 4 10 (qS C C'))) :=
 gA F fP2 (tok TT) [((151, 21), ["_law_names", "_law_deeds", "_law_number", "_law_deep"])] [] [] (by kernel_rfl)
end
end Jm
end
section
namespace Jm
open PySem PySem.Spec PyProof.Rows L2 R
variable [bP]
section
variable {P : Program} {w : World} {K : W.Frag} {mg : Str -> Option Value} {base : Heap} {f : Addr} {fd : FuncData} {n : Nat} {C C' : CT}
theorem fP4 : dE N21 ["_law_number", "_law_names", "_law_deeds", "_law_plain"] (bH tO) := ⟨rfl, rfl, rfl, by decide +kernel, rfl, by decide +kernel, by decide +kernel⟩
theorem fP5 (F : bK K "_law_short" "_law_short" tO f fd) (TT : Tab P w K mg base n C) : bS P w K mg base bU (n + 1) f fd ["_law_number", "_law_names", "_law_deeds", "_law_plain"] (cL K (cG 4 10 (xI C C'))) :=
 gA F fP4 (tok TT) [((178, 21), ["_law_names", "_law_deeds", "_law_number"])] [] [] (by kernel_rfl)
end
end Jm
end
section
namespace Jm
open PySem PySem.Spec PyProof.Rows L2 R
variable [bP]
section
variable {P : Program} {w : World} {K : W.Frag} {mg : Str -> Option Value} {base : Heap} {f : Addr} {fd : FuncData} {n : Nat} {C C' : CT}
theorem fP6 : dE N22 ["_law_number", "_law_names", "_law_deeds", "_law_plain", "_law_deep"] (bH tP) := ⟨rfl, rfl, rfl, by decide +kernel, rfl, by decide +kernel, by decide +kernel⟩
theorem fP7 (F : bK K "_law_statement" "_law_statement" tP f fd) (TT : Tab P w K mg base n C) : bS P w K mg base bU (n + 1) f fd ["_law_number", "_law_names", "_law_deeds", "_law_plain", "_law_deep"] (cL K (cG 5 9 (xJ C C'))) :=
 gA F fP6 (tok TT) [] [] [] (by kernel_rfl)
end
end Jm
end
section
namespace Jm
open PySem PySem.Spec PyProof.Rows L2 R
variable [bP]
section
variable {P : Program} {w : World} {K : W.Frag} {mg : Str -> Option Value} {base : Heap} {f : Addr} {fd : FuncData} {n : Nat} {C C' : CT}
theorem fP8 : dE N23 ["_law_number", "_law_size", "_law_names", "_law_deeds", "_law_plain", "_law_deep"] (bH tQ) := ⟨rfl, rfl, rfl, by decide +kernel, rfl, by decide +kernel, by decide +kernel⟩
theorem fP9 (F : bK K "_law_block" "_law_block" tQ f fd) (TT : Tab P w K mg base n C) : bS P w K mg base bU (n + 1) f fd ["_law_number", "_law_size", "_law_names", "_law_deeds", "_law_plain", "_law_deep"] (cL K (cG 6 7 (xK C C'))) :=
 gA F fP8 (tok TT) [((195, 17), ["_law_names", "_law_deeds", "_law_plain", "_law_deep", "_law_number"])] [] [] (by kernel_rfl)
end
end Jm
end
section
namespace Jm
open PySem PySem.Spec PyProof.Rows L2 R
variable [bP]
section
variable {P : Program} {w : World} {K : W.Frag} {mg : Str -> Option Value} {base : Heap} {f : Addr} {fd : FuncData} {n : Nat} {C C' : CT}
theorem fQ0 : dE N24 ["_law_name_here", "_law_words", "_law_deeds"] (bH tR) := ⟨rfl, rfl, rfl, by decide +kernel, rfl, by decide +kernel, by decide +kernel⟩
theorem fQ1 (F : bK K "_law_fault_of_word" "_law_fault_of_word" tR f fd) (TT : Tab P w K mg base n C) : bS P w K mg base bU (n + 1) f fd ["_law_name_here", "_law_words", "_law_deeds"] (cL K (cG 3 3 (xL C C'))) :=
 gA F fQ0 (tok TT) [((200, 7), ["_law_name_here"])] [] [] (by kernel_rfl)
end
end Jm
end
section
namespace Jm
open PySem PySem.Spec PyProof.Rows L2 R
variable [bP]
section
variable {P : Program} {w : World} {K : W.Frag} {mg : Str -> Option Value} {base : Heap} {f : Addr} {fd : FuncData} {n : Nat} {C C' : CT}
theorem fQ2 : dE N25 ["_law_name_here", "_law_parts", "_law_words", "_law_deeds"] (bH tT) := ⟨rfl, rfl, rfl, by decide +kernel, rfl, by decide +kernel, by decide +kernel⟩
theorem fQ3 (F : bK K "_law_fault_of_call" "_law_fault_of_call" tT f fd) (TT : Tab P w K mg base n C) : bS P w K mg base bU (n + 1) f fd ["_law_name_here", "_law_parts", "_law_words", "_law_deeds"] (cL K (cG 4 7 (xM C C'))) :=
 gA F fQ2 (tok TT) [((204, 18), ["_law_name_here"])] [] [] (by kernel_rfl)
end
end Jm
end
section
namespace Jm
open PySem PySem.Spec PyProof.Rows L2 R
variable [bP]
section
variable {P : Program} {w : World} {K : W.Frag} {mg : Str -> Option Value} {base : Heap} {f : Addr} {fd : FuncData} {n : Nat} {C C' : CT}
theorem fQ4 : dE N26 ["_law_thing", "_law_words", "_law_deeds"] (bH tU) := ⟨rfl, rfl, rfl, by decide +kernel, rfl, by decide +kernel, by decide +kernel⟩
theorem fQ5 (F : bK K "_law_fault_of_expression" "_law_fault_of_expression" tU f fd) (TT : Tab P w K mg base n C) : bS P w K mg base bU (n + 1) f fd ["_law_thing", "_law_words", "_law_deeds"] (cL K (cG 3 3 (xN C C'))) :=
 gA F fQ4 (tok TT) [((223, 22), ["_law_words", "_law_deeds"])] [] [] (by kernel_rfl)
end
end Jm
end
section
namespace Jm
open PySem PySem.Spec PyProof.Rows L2 R
variable [bP]
section
variable {P : Program} {w : World} {K : W.Frag} {mg : Str -> Option Value} {base : Heap} {f : Addr} {fd : FuncData} {n : Nat} {C C' : CT}
theorem fQ6 : dE N27 ["_law_faults"] (bH tV) := ⟨rfl, rfl, rfl, by decide +kernel, rfl, by decide +kernel, by decide +kernel⟩
theorem fQ7 (F : bK K "_law_first" "_law_first" tV f fd) (TT : Tab P w K mg base n C) : bS P w K mg base bU (n + 1) f fd ["_law_faults"] (cL K (cG 1 2 (bD2 C C'))) :=
 gA F fQ6 (tok TT) [] [] [] (by kernel_rfl)
end
end Jm
end
section
namespace Jm
open PySem PySem.Spec PyProof.Rows L2 R
variable [bP]
section
variable {P : Program} {w : World} {K : W.Frag} {mg : Str -> Option Value} {base : Heap} {f : Addr} {fd : FuncData} {n : Nat} {C C' : CT}
theorem fQ8 : dE N28 ["_law_thing", "_law_words", "_law_deeds"] (bH tW) := ⟨rfl, rfl, rfl, by decide +kernel, rfl, by decide +kernel, by decide +kernel⟩
theorem fQ9 (F : bK K "_law_fault_of_new" "_law_fault_of_new" tW f fd) (TT : Tab P w K mg base n C) : bS P w K mg base bU (n + 1) f fd ["_law_thing", "_law_words", "_law_deeds"] (cL K (cG 3 4 (xO C C'))) :=
 gA F fQ8 (tok TT) [] [] [] (by kernel_rfl)
end
end Jm
end
section
namespace Jm
open PySem PySem.Spec PyProof.Rows L2 R
variable [bP]
section
variable {P : Program} {w : World} {K : W.Frag} {mg : Str -> Option Value} {base : Heap} {f : Addr} {fd : FuncData} {n : Nat} {C C' : CT}
theorem fR0 : dE N29 ["_law_thing", "_law_words", "_law_deeds"] (bH tX) := ⟨rfl, rfl, rfl, by decide +kernel, rfl, by decide +kernel, by decide +kernel⟩
theorem fR1 (F : bK K "_law_fault_of_statement" "_law_fault_of_statement" tX f fd) (TT : Tab P w K mg base n C) : bS P w K mg base bU (n + 1) f fd ["_law_thing", "_law_words", "_law_deeds"] (cL K (cG 3 6 (lU C C'))) :=
 gA F fR0 (tok TT) [((241, 22), ["_law_words", "_law_deeds"])] [] [] (by kernel_rfl)
end
end Jm
end
section
namespace Jm
open PySem PySem.Spec PyProof.Rows L2 R
variable [bP]
section
variable {P : Program} {w : World} {K : W.Frag} {mg : Str -> Option Value} {base : Heap} {f : Addr} {fd : FuncData} {n : Nat} {C C' : CT}
theorem fR2 : dE N30 ["_law_block_here", "_law_words", "_law_deeds"] (bH tY) := ⟨rfl, rfl, rfl, by decide +kernel, rfl, by decide +kernel, by decide +kernel⟩
theorem fR3 (F : bK K "_law_fault_of_block" "_law_fault_of_block" tY f fd) (TT : Tab P w K mg base n C) : bS P w K mg base bU (n + 1) f fd ["_law_block_here", "_law_words", "_law_deeds"] (cL K (cG 3 3 (xP C C'))) :=
 gA F fR2 (tok TT) [((250, 22), ["_law_words", "_law_deeds"])] [] [] (by kernel_rfl)
end
end Jm
end
section
namespace Jm
open PySem PySem.Spec PyProof.Rows L2 R
variable [bP]
section
variable {P : Program} {w : World} {K : W.Frag} {mg : Str -> Option Value} {base : Heap} {f : Addr} {fd : FuncData} {n : Nat} {C C' : CT}
theorem fR4 : dE N31 ["_law_number", "_law_words", "_law_deeds"] (bH tZ) := ⟨rfl, rfl, rfl, by decide +kernel, rfl, by decide +kernel, by decide +kernel⟩
theorem fR5 (F : bK K "_law_mess" "_law_mess" tZ f fd) (TT : Tab P w K mg base n C) : bS P w K mg base bU (n + 1) f fd ["_law_number", "_law_words", "_law_deeds"] (cL K (cG 3 5 (bD3 C C'))) :=
 gA F fR4 (tok TT) [((252, 54), []), ((257, 36), []), ((258, 36), []), ((259, 37), ["_law_number"])] [] [] (by kernel_rfl)
end
end Jm
end
section
namespace Jm
open PySem PySem.Spec PyProof.Rows L2 R
variable [bP]
section
variable {P : Program} {w : World} {K : W.Frag} {mg : Str -> Option Value} {base : Heap} {f : Addr} {fd : FuncData} {n : Nat} {C C' : CT}
theorem fR6 : dE N32 ["_law_number", "_law_stem_here", "_law_k", "_law_words", "_law_deeds"] (bH vA) := ⟨rfl, rfl, rfl, by decide +kernel, rfl, by decide +kernel, by decide +kernel⟩
theorem fR7 (F : bK K "_law_deed_by" "_law_deed_by" vA f fd) (TT : Tab P w K mg base n C) : bS P w K mg base bU (n + 1) f fd ["_law_number", "_law_stem_here", "_law_k", "_law_words", "_law_deeds"] (cL K (cG 5 11 (bD4 C C'))) :=
 gA F fR6 (tok TT) [((261, 18), ["_law_stem_here"])] [] [] (by kernel_rfl)
end
end Jm
end
section
namespace Jm
open PySem PySem.Spec PyProof.Rows L2 R
variable [bP]
section
variable {P : Program} {w : World} {K : W.Frag} {mg : Str -> Option Value} {base : Heap} {f : Addr} {fd : FuncData} {n : Nat} {C C' : CT}
theorem kK : dE gY ["_law_script"] (bH dH) := ⟨rfl, rfl, rfl, by decide +kernel, rfl, by decide +kernel, by decide +kernel⟩
theorem vM : cH gY (bH dH) 0 "_law_script" := ⟨rfl, Or.inr (Or.inl (by kernel_rfl)), (by kernel_rfl), (by kernel_rfl)⟩
theorem fR8 : cH gY (bH dH) 1 "_law_stem_here" := ⟨rfl, Or.inr (Or.inl (by kernel_rfl)), (by kernel_rfl), (by kernel_rfl)⟩
theorem bF7 : cH gY (bH dH) 2 "_law_words" := ⟨rfl, Or.inr (Or.inl (by kernel_rfl)), (by kernel_rfl), (by kernel_rfl)⟩
theorem bF8 : cH gY (bH dH) 3 "_law_deeds" := ⟨rfl, Or.inr (Or.inl (by kernel_rfl)), (by kernel_rfl), (by kernel_rfl)⟩
theorem cS2 : cH gY (bH dH) 4 "_law_made" := ⟨rfl, Or.inl (by kernel_rfl), (by kernel_rfl), (by kernel_rfl)⟩
theorem fR9 : cH gY (bH dH) 5 "_law_names" := ⟨rfl, Or.inl (by kernel_rfl), (by kernel_rfl), (by kernel_rfl)⟩
theorem fS0 : cH gY (bH dH) 6 "_law_called" := ⟨rfl, Or.inl (by kernel_rfl), (by kernel_rfl), (by kernel_rfl)⟩
theorem fS1 : cH gY (bH dH) 7 "_law_plain" := ⟨rfl, Or.inl (by kernel_rfl), (by kernel_rfl), (by kernel_rfl)⟩
theorem bU8 : cH gY (bH dH) 8 "_law_block_here" := ⟨rfl, Or.inl (by kernel_rfl), (by kernel_rfl), (by kernel_rfl)⟩
theorem fS2 : cH gY (bH dH) 9 "_law_k" := ⟨rfl, Or.inl (by kernel_rfl), (by kernel_rfl), (by kernel_rfl)⟩
theorem cS3 : cH gY (bH dH) 10 "_law_unit" := ⟨rfl, Or.inl (by kernel_rfl), (by kernel_rfl), (by kernel_rfl)⟩
theorem bF9 : cH gY (bH dH) 11 "_law_due" := ⟨rfl, Or.inl (by kernel_rfl), (by kernel_rfl), (by kernel_rfl)⟩
theorem bU9 : cH gY (bH dH) 12 "_law_deed" := ⟨rfl, Or.inl (by kernel_rfl), (by kernel_rfl), (by kernel_rfl)⟩
theorem fS3 : cH gY (bH dH) 13 "_law_inner" := ⟨rfl, Or.inr (Or.inl (by kernel_rfl)), (by kernel_rfl), (by kernel_rfl)⟩
theorem fS4 : cH gY (bH dH) 14 "_law_outer" := ⟨rfl, Or.inl (by kernel_rfl), (by kernel_rfl), (by kernel_rfl)⟩
theorem cS4 : (bH dH).names.lookup ("_law_fault_of_block" : Str) = some .globalImplicit := by kernel_rfl
theorem cS5 : (bH dH).names.lookup ("_law_first" : Str) = some .globalImplicit := by kernel_rfl
theorem fS5 : (bH dH).names.lookup ("_law_mess" : Str) = some .globalImplicit := by kernel_rfl
theorem yF : (bH dH).names.lookup ("_law_mixed" : Str) = some .globalImplicit := by kernel_rfl
theorem fS6 : (bH dH).names.lookup ("_law_name" : Str) = some .globalImplicit := by kernel_rfl
theorem fS7 : (bH dH).names.lookup ("_law_statement" : Str) = some .globalImplicit := by kernel_rfl
theorem cS6 : (bH dH).names.lookup ("fault_of" : Str) = some .globalImplicit := by kernel_rfl
theorem cS7 : (bH dH).names.lookup ("len" : Str) = some .globalImplicit := by kernel_rfl
theorem cS8 : (bH dH).names.lookup ("list" : Str) = some .globalImplicit := by kernel_rfl
theorem fS8 : (bH dH).names.lookup ("max" : Str) = some .globalImplicit := by kernel_rfl
theorem fS9 : (bH dH).names.lookup ("min" : Str) = some .globalImplicit := by kernel_rfl
theorem bG0 : (bH dH).names.lookup ("range" : Str) = some .globalImplicit := by kernel_rfl
theorem bG1 : (bH dH).names.lookup ("tuple" : Str) = some .globalImplicit := by kernel_rfl
theorem fT0 (F : bK K "law" "law" dH f fd) (TT : Tab P w K mg base n C) : bS P w K mg base bU (n + 1) f fd ["_law_script"] (cL K (cG 1 15 (bD5 C C'))) := by
 refine cB2 F kK ?_
 intro cdv A outer s H E hr
 refine cW ?_ ?_
 ·refine mH (i := 1) kK.nd ?_ (Or.inr ?_) ?_ (.inl rfl) ?_
  ·rfl
  ·kernel_rfl
  ·rfl
  ·refine hV TT.c15 hr yF ?_ ?_ ?_
   ·rfl
   ·kernel_rfl
   ·refine bQ ?_ ?_ ?_
    ·rfl
    ·exact bL vM
    ·refine bQ ?_ ?_ ?_
     ·rfl
     ·exact cY
     ·exact cT
 ·refine cW ?_ ?_
  ·refine bN1 (i := 2) kK.nd ?_ (Or.inr ?_) ?_ (.inl rfl) ?_
   ·rfl
   ·kernel_rfl
   ·kernel_rfl
   ·refine cD3 (wS (os := ["_law_k"]) (caps := ["_law_stem_here"]) (js := [1]) (N := gY) (sc := bH dH) rfl rfl rfl ?_ ?_ ?_ ?_ ?_ rfl ?_) rfl ?_ ?_ ?_ (hX ?_)
    ·decide +kernel
    ·decide +kernel
    ·decide +kernel
    ·decide +kernel
    ·decide +kernel
    ·decide +kernel
    ·refine wT bG0 TT.b_range ?_ ?_
     ·rfl
     ·refine kQ nS ?_ ?_
      ·exact cY
      ·refine kQ zK ?_ ?_
       ·refine hV TT.c15 hr yF ?_ ?_ ?_
        ·rfl
        ·kernel_rfl
        ·refine bQ ?_ ?_ ?_
         ·rfl
         ·exact bL vM
         ·refine bQ ?_ ?_ ?_
          ·rfl
          ·exact cY
          ·exact cT
       ·exact cY
    ·intro Cc fp ss HH EE
     exact zW
    ·intro Cc fp ss HH EE
     refine hV TT.c18 hr ?_ ?_ ?_ ?_
     ·kernel_rfl
     ·rfl
     ·kernel_rfl
     ·refine bQ ?_ ?_ ?_
      ·rfl
      ·refine bL ⟨rfl, Or.inr (Or.inl ?_), ?_, ?_⟩
       ·kernel_rfl
       ·kernel_rfl
       ·kernel_rfl
      ·refine bQ ?_ ?_ ?_
       ·rfl
       ·refine bL ⟨rfl, Or.inl ?_, ?_, ?_⟩
        ·kernel_rfl
        ·kernel_rfl
        ·kernel_rfl
       ·exact cT
    ·rfl
  ·refine cW ?_ ?_
   ·refine bN1 (i := 3) kK.nd ?_ (Or.inr ?_) ?_ (.inl rfl) ?_
    ·rfl
    ·kernel_rfl
    ·kernel_rfl
    ·refine cD3 (wS (os := ["_law_k"]) (caps := ["_law_stem_here", "_law_script"]) (js := [1, 0]) (N := gY) (sc := bH dH) rfl rfl rfl ?_ ?_ ?_ ?_ ?_ rfl ?_) rfl ?_ ?_ ?_ (hX ?_)
     ·decide +kernel
     ·decide +kernel
     ·decide +kernel
     ·decide +kernel
     ·decide +kernel
     ·decide +kernel
     ·refine wT bG0 TT.b_range ?_ ?_
      ·rfl
      ·refine kQ zK ?_ ?_
       ·refine kQ cB6 ?_ ?_
        ·refine hV TT.c15 hr yF ?_ ?_ ?_
         ·rfl
         ·kernel_rfl
         ·refine bQ ?_ ?_ ?_
          ·rfl
          ·exact bL vM
          ·refine bQ ?_ ?_ ?_
           ·rfl
           ·exact cY
           ·exact cT
        ·exact cY
       ·exact cY
     ·intro Cc fp ss HH EE
      exact zW
     ·intro Cc fp ss HH EE
      refine jV ?_
      refine bQ ?_ ?_ ?_
      ·rfl
      ·refine hV TT.c18 hr ?_ ?_ ?_ ?_
       ·kernel_rfl
       ·rfl
       ·kernel_rfl
       ·refine bQ ?_ ?_ ?_
        ·rfl
        ·refine bL ⟨rfl, Or.inr (Or.inl ?_), ?_, ?_⟩
         ·kernel_rfl
         ·kernel_rfl
         ·kernel_rfl
        ·refine bQ ?_ ?_ ?_
         ·rfl
         ·refine kQ nS ?_ ?_
          ·exact cY
          ·refine bL ⟨rfl, Or.inl ?_, ?_, ?_⟩
           ·kernel_rfl
           ·kernel_rfl
           ·kernel_rfl
         ·exact cT
      ·refine bQ ?_ ?_ ?_
       ·rfl
       ·refine kQ zK ?_ ?_
        ·refine hV TT.c15 hr ?_ ?_ ?_ ?_
         ·kernel_rfl
         ·rfl
         ·kernel_rfl
         ·refine bQ ?_ ?_ ?_
          ·rfl
          ·refine bL ⟨rfl, Or.inr (Or.inl ?_), ?_, ?_⟩
           ·kernel_rfl
           ·kernel_rfl
           ·kernel_rfl
          ·refine bQ ?_ ?_ ?_
           ·rfl
           ·refine kQ nS ?_ ?_
            ·exact cY
            ·refine bL ⟨rfl, Or.inl ?_, ?_, ?_⟩
             ·kernel_rfl
             ·kernel_rfl
             ·kernel_rfl
           ·exact cT
        ·exact cY
       ·exact cT
     ·rfl
   ·refine cW ?_ ?_
    ·refine cD4 (i := 4) (wS (os := ["_law_k"]) (caps := ["_law_stem_here", "_law_words", "_law_deeds", "_law_script"]) (js := [1, 2, 3, 0]) (N := gY) (sc := bH dH) rfl rfl rfl ?_ ?_ ?_ ?_ ?_ rfl ?_) rfl ?_ ?_ ?_ kK.nd rfl (Or.inl ?_) ?_ (hX ?_) (.inl rfl)
     ·decide +kernel
     ·decide +kernel
     ·decide +kernel
     ·decide +kernel
     ·decide +kernel
     ·decide +kernel
     ·refine wT bG0 TT.b_range ?_ ?_
      ·rfl
      ·refine rZ zP kP cS7 TT.b_len PySem.boot_len ?_ ?_ ?_ ?_
       ·rfl
       ·kernel_rfl
       ·kernel_rfl
       ·refine bQ ?_ ?_ ?_
        ·rfl
        ·exact bL bF8
        ·exact cT
     ·intro Cc fp ss HH EE
      exact zW
     ·intro Cc fp ss HH EE
      refine hV TT.c32 hr ?_ ?_ ?_ ?_
      ·kernel_rfl
      ·rfl
      ·kernel_rfl
      ·refine bQ ?_ ?_ ?_
       ·rfl
       ·refine hV TT.c15 hr ?_ ?_ ?_ ?_
        ·kernel_rfl
        ·rfl
        ·kernel_rfl
        ·refine bQ ?_ ?_ ?_
         ·rfl
         ·refine bL ⟨rfl, Or.inr (Or.inl ?_), ?_, ?_⟩
          ·kernel_rfl
          ·kernel_rfl
          ·kernel_rfl
         ·refine bQ ?_ ?_ ?_
          ·rfl
          ·refine kQ nS ?_ ?_
           ·exact cY
           ·refine bL ⟨rfl, Or.inl ?_, ?_, ?_⟩
            ·kernel_rfl
            ·kernel_rfl
            ·kernel_rfl
          ·exact cT
       ·refine bQ ?_ ?_ ?_
        ·rfl
        ·refine bL ⟨rfl, Or.inr (Or.inl ?_), ?_, ?_⟩
         ·kernel_rfl
         ·kernel_rfl
         ·kernel_rfl
        ·refine bQ ?_ ?_ ?_
         ·rfl
         ·refine bL ⟨rfl, Or.inl ?_, ?_, ?_⟩
          ·kernel_rfl
          ·kernel_rfl
          ·kernel_rfl
         ·refine bQ ?_ ?_ ?_
          ·rfl
          ·refine bL ⟨rfl, Or.inr (Or.inl ?_), ?_, ?_⟩
           ·kernel_rfl
           ·kernel_rfl
           ·kernel_rfl
          ·refine bQ ?_ ?_ ?_
           ·rfl
           ·refine bL ⟨rfl, Or.inr (Or.inl ?_), ?_, ?_⟩
            ·kernel_rfl
            ·kernel_rfl
            ·kernel_rfl
           ·exact cT
     ·kernel_rfl
     ·kernel_rfl
     ·rfl
    ·refine cW ?_ ?_
     ·refine cF1 (i := 5) (j := 6) (l := 7) rfl kK.nd ?_ (Or.inl ?_) ?_ (Or.inl ?_) ?_ (Or.inl ?_) (.inl rfl) (.inl rfl) (.inl rfl) ?_ ?_ ?_
      ·rfl
      ·kernel_rfl
      ·rfl
      ·kernel_rfl
      ·rfl
      ·kernel_rfl
      ·rfl
      ·rfl
      ·refine hV TT.c31 hr fS5 ?_ ?_ ?_
       ·rfl
       ·kernel_rfl
       ·refine bQ ?_ ?_ ?_
        ·rfl
        ·refine hV TT.c15 hr yF ?_ ?_ ?_
         ·rfl
         ·kernel_rfl
         ·refine bQ ?_ ?_ ?_
          ·rfl
          ·exact bL vM
          ·refine bQ ?_ ?_ ?_
           ·rfl
           ·exact cY
           ·exact cT
        ·refine bQ ?_ ?_ ?_
         ·rfl
         ·exact bL bF7
         ·refine bQ ?_ ?_ ?_
          ·rfl
          ·exact bL bF8
          ·exact cT
     ·refine cW ?_ ?_
      ·refine cH0 (i := 8) kK.nd ?_ (Or.inl ?_) (.inl rfl)
       ·rfl
       ·kernel_rfl
      ·refine cW ?_ ?_
       ·refine nB rfl PassesOwn.never ?_ (jB (i := 9) kK.nd ?_ (Or.inl ?_) (.inl rfl)) ?_ (hX ?_)
        ·refine wT bG0 TT.b_range ?_ ?_
         ·rfl
         ·refine rZ (cH5 rfl) kP fS9 TT.b_min PyProof.Rows.boot_min ?_ ?_ ?_ ?_
          ·rfl
          ·kernel_rfl
          ·kernel_rfl
          ·refine bQ ?_ ?_ ?_
           ·rfl
           ·exact cY
           ·refine bQ ?_ ?_ ?_
            ·rfl
            ·refine rZ (cH6 rfl) kP fS8 TT.b_max PyProof.Rows.boot_max ?_ ?_ ?_ ?_
             ·rfl
             ·kernel_rfl
             ·kernel_rfl
             ·refine bQ ?_ ?_ ?_
              ·rfl
              ·exact cY
              ·refine bQ ?_ ?_ ?_
               ·rfl
               ·refine kQ cB5 ?_ ?_
                ·refine rZ zP kP cS7 TT.b_len PySem.boot_len ?_ ?_ ?_ ?_
                 ·rfl
                 ·kernel_rfl
                 ·kernel_rfl
                 ·refine bQ ?_ ?_ ?_
                  ·rfl
                  ·exact bL vM
                  ·exact cT
                ·exact cY
               ·exact cT
            ·exact cT
        ·rfl
        ·kernel_rfl
        ·refine dG ?_
         refine cH1 bU8 ?_ ?_ ?_ ?_
         ·rfl
         ·rfl
         ·kernel_rfl
         ·refine hV TT.c22 hr fS7 ?_ ?_ ?_
          ·rfl
          ·kernel_rfl
          ·refine bQ ?_ ?_ ?_
           ·rfl
           ·refine hV TT.c15 hr yF ?_ ?_ ?_
            ·rfl
            ·kernel_rfl
            ·refine bQ ?_ ?_ ?_
             ·rfl
             ·exact bL vM
             ·refine bQ ?_ ?_ ?_
              ·rfl
              ·refine kQ nS ?_ ?_
               ·exact cY
               ·exact bL fS2
              ·exact cT
           ·refine bQ ?_ ?_ ?_
            ·rfl
            ·exact bL fR9
            ·refine bQ ?_ ?_ ?_
             ·rfl
             ·exact bL fS0
             ·refine bQ ?_ ?_ ?_
              ·rfl
              ·exact bL fS1
              ·refine bQ ?_ ?_ ?_
               ·rfl
               ·exact cY
               ·exact cT
        ·rfl
       ·refine cH2 ?_
        refine cW ?_ ?_
        ·refine mH (i := 10) kK.nd ?_ (Or.inl ?_) ?_ (.inl rfl) ?_
         ·rfl
         ·kernel_rfl
         ·rfl
         ·refine jV ?_
          refine bQ ?_ ?_ ?_
          ·rfl
          ·refine hV TT.c18 hr fS6 ?_ ?_ ?_
           ·rfl
           ·kernel_rfl
           ·refine bQ ?_ ?_ ?_
            ·rfl
            ·exact bL fR8
            ·refine bQ ?_ ?_ ?_
             ·rfl
             ·exact cY
             ·exact cT
          ·refine bQ ?_ ?_ ?_
           ·rfl
           ·refine jV ?_
            exact cT
           ·refine bQ ?_ ?_ ?_
            ·rfl
            ·refine pP wN kP bG1 TT.b_tuple PyProof.Rows.boot_tuple ?_ ?_ ?_ ?_
             ·rfl
             ·kernel_rfl
             ·kernel_rfl
             ·refine bQ ?_ ?_ ?_
              ·rfl
              ·exact bL bF7
              ·exact cT
            ·refine bQ ?_ ?_ ?_
             ·rfl
             ·refine pP wN kP bG1 TT.b_tuple PyProof.Rows.boot_tuple ?_ ?_ ?_ ?_
              ·rfl
              ·kernel_rfl
              ·kernel_rfl
              ·refine bQ ?_ ?_ ?_
               ·rfl
               ·exact bL cS2
               ·exact cT
             ·refine bQ ?_ ?_ ?_
              ·rfl
              ·refine pP wN kP bG1 TT.b_tuple PyProof.Rows.boot_tuple ?_ ?_ ?_ ?_
               ·rfl
               ·kernel_rfl
               ·kernel_rfl
               ·refine bQ ?_ ?_ ?_
                ·rfl
                ·exact bL bU8
                ·exact cT
              ·exact cT
        ·refine cW ?_ ?_
         ·refine mH (i := 11) kK.nd ?_ (Or.inl ?_) ?_ (.inl rfl) ?_
          ·rfl
          ·kernel_rfl
          ·rfl
          ·exact jU
         ·refine cW ?_ ?_
          ·refine nB rfl PassesOwn.never ?_ (jB (i := 12) kK.nd ?_ (Or.inl ?_) (.inl rfl)) ?_ (hX ?_)
           ·refine lS ?_
            exact bL cS2
           ·rfl
           ·kernel_rfl
           ·refine cW ?_ ?_
            ·refine mH (i := 13) kK.nd ?_ (Or.inr ?_) ?_ (.inl rfl) ?_
             ·rfl
             ·kernel_rfl
             ·rfl
             ·refine kQ nS ?_ ?_
              ·refine pP zQ kP cS8 TT.b_list PyProof.Rows.boot_list ?_ ?_ ?_ ?_
               ·rfl
               ·kernel_rfl
               ·kernel_rfl
               ·refine bQ ?_ ?_ ?_
                ·rfl
                ·refine fV ?_ ?_ ?_
                 ·rfl
                 ·exact bL bU9
                 ·exact cY
                ·exact cT
              ·refine pP zQ kP cS8 TT.b_list PyProof.Rows.boot_list ?_ ?_ ?_ ?_
               ·rfl
               ·kernel_rfl
               ·kernel_rfl
               ·refine bQ ?_ ?_ ?_
                ·rfl
                ·refine fV ?_ ?_ ?_
                 ·rfl
                 ·exact bL bU9
                 ·exact cY
                ·exact cT
            ·refine cW ?_ ?_
             ·refine cD4 (i := 14) (wS (os := ["_law_pair"]) (caps := ["_law_inner"]) (js := [13]) (N := gY) (sc := bH dH) rfl rfl rfl ?_ ?_ ?_ ?_ ?_ rfl ?_) rfl ?_ ?_ ?_ kK.nd rfl (Or.inl ?_) ?_ (hX ?_) (.inl rfl)
              ·decide +kernel
              ·decide +kernel
              ·decide +kernel
              ·decide +kernel
              ·decide +kernel
              ·decide +kernel
              ·refine lS ?_
               exact bL bF8
              ·intro Cc fp ss HH EE
               refine cE6 ?_
               refine kG (cE5 (bL7 hr)) ?_ ?_ ?_
               ·refine fV ?_ ?_ ?_
                ·rfl
                ·refine bL ⟨rfl, Or.inl ?_, ?_, ?_⟩
                 ·kernel_rfl
                 ·kernel_rfl
                 ·kernel_rfl
                ·exact cY
               ·refine bL ⟨rfl, Or.inr (Or.inl ?_), ?_, ?_⟩
                ·kernel_rfl
                ·kernel_rfl
                ·kernel_rfl
               ·with_unfolding_all rfl
              ·intro Cc fp ss HH EE
               refine bL ⟨rfl, Or.inl ?_, ?_, ?_⟩
               ·kernel_rfl
               ·kernel_rfl
               ·kernel_rfl
              ·kernel_rfl
              ·kernel_rfl
              ·rfl
             ·refine dG ?_
              refine mH (i := 11) kK.nd ?_ (Or.inl ?_) ?_ (.inl rfl) ?_
              ·rfl
              ·kernel_rfl
              ·rfl
              ·refine hV TT.c27 hr cS5 ?_ ?_ ?_
               ·rfl
               ·kernel_rfl
               ·refine bQ ?_ ?_ ?_
                ·rfl
                ·refine bJ1 ?_
                 refine bQ ?_ ?_ ?_
                 ·rfl
                 ·exact bL bF9
                 ·refine bQ ?_ ?_ ?_
                  ·rfl
                  ·refine hV TT.c30 hr cS4 ?_ ?_ ?_
                   ·rfl
                   ·kernel_rfl
                   ·refine bQ ?_ ?_ ?_
                    ·rfl
                    ·refine fV ?_ ?_ ?_
                     ·rfl
                     ·exact bL bU9
                     ·exact cY
                    ·refine bQ ?_ ?_ ?_
                     ·rfl
                     ·refine kQ nS ?_ ?_
                      ·exact bL bF7
                      ·exact bL fS3
                     ·refine bQ ?_ ?_ ?_
                      ·rfl
                      ·exact bL fS4
                      ·exact cT
                  ·exact cT
                ·exact cT
           ·rfl
          ·refine cW ?_ ?_
           ·refine mH (i := 11) kK.nd ?_ (Or.inl ?_) ?_ (.inl rfl) ?_
            ·rfl
            ·kernel_rfl
            ·rfl
            ·refine hV TT.c27 hr cS5 ?_ ?_ ?_
             ·rfl
             ·kernel_rfl
             ·refine bQ ?_ ?_ ?_
              ·rfl
              ·refine bJ1 ?_
               refine bQ ?_ ?_ ?_
               ·rfl
               ·exact bL bF9
               ·refine bQ ?_ ?_ ?_
                ·rfl
                ·refine hV TT.c30 hr cS4 ?_ ?_ ?_
                 ·rfl
                 ·kernel_rfl
                 ·refine bQ ?_ ?_ ?_
                  ·rfl
                  ·refine pP wN kP bG1 TT.b_tuple PyProof.Rows.boot_tuple ?_ ?_ ?_ ?_
                   ·rfl
                   ·kernel_rfl
                   ·kernel_rfl
                   ·refine bQ ?_ ?_ ?_
                    ·rfl
                    ·exact bL bU8
                    ·exact cT
                  ·refine bQ ?_ ?_ ?_
                   ·rfl
                   ·exact bL bF7
                   ·refine bQ ?_ ?_ ?_
                    ·rfl
                    ·exact bL bF8
                    ·exact cT
                ·exact cT
              ·exact cT
           ·refine dG ?_
            refine bJ8 ?_
            refine cA5 ?_ ?_
            ·refine bJ9 (wK (wR hr)) ?_ ?_ (kE _)
             ·refine cI6 TT.c1 hr cS6 ?_ ?_
              ·rfl
              ·exact bL cS3
             ·exact bL bF9
            ·refine cA4 ?_
             refine bJ9 (wK (wR hr)) ?_ ?_ (kE _)
             ·refine cI6 TT.c1 hr cS6 ?_ ?_
              ·rfl
              ·exact bL cS3
             ·exact bL bF9
end
end Jm
end
section
namespace Jm
open PySem PySem.Spec PyProof.Rows L2 R
noncomputable def qZ : List Value -> List Str -> Bool
 | [], [] => true
 | .str x _ :: r, y :: s => x == y && qZ r s
 | _, _ => false
theorem cS9 : ∀ {its : List Value} {ts : List Str}, qZ its ts = true -> cE (ts.map V.str) its
 | [], [], _ => .nil
 | .str x t :: r, y :: s, h => by
  rw [qZ, Bool.and_eq_true] at h
  have e : x = y := eq_of_beq h.1
  subst e
  exact .cons ⟨t, rfl⟩ (cS9 h.2)
section
variable [bP]
theorem bV0 {K : W.Frag} {mg : Str -> Option Value} {x : Str} {p : Addr} {od : Option Addr} {sl : Array (Option Value)} {its : Array Value} {n : Nat} {ts : List Str} (hm : mg x = some (.ref p)) (hk : K.lookup p = some ⟨.type "tuple", od, .seq its n, sl⟩)
 (hz : ts.length <= 1000) (hl : (ts.all fun t => decide (t.length <= 1000)) = true) (hv : qZ its.toList ts = true) : lE K mg x (.tup (ts.map .str)) :=
 dT3 (its := its.toList) (n := n) hm hk rfl (by simp) hz (fun t ht => small1000' (of_decide_eq_true (List.all_eq_true.mp hl t ht))) (cS9 hv)
 where small1000' {n : Nat} (h : n <= 1000) : n <= sizeLine := Nat.le_of_lt (bY9 h)
noncomputable def wiB : List Value -> Str -> Int -> Bool
 | [.str x _, .int j _], s, i => x == s && j == i
 | _, _, _ => false
theorem fT1 {K : W.Frag} {mg : Str -> Option Value} {x : Str} {p : Addr} {od : Option Addr} {sl : Array (Option Value)} {its : Array Value} {n : Nat} {s : Str} {i : Int} (hm : mg x = some (.ref p)) (hk : K.lookup p = some ⟨.type "tuple", od, .seq its n, sl⟩) (hs : s.length <= 1000) (hv : wiB its.toList s i = true) : lE K mg x (.tup [.str s, .int i]) := by
 obtain ⟨l⟩ := its
 replace hv : wiB l s i = true := hv
 unfold wiB at hv
 split at hv
 ·rename_i y t j u
  rw [Bool.and_eq_true] at hv
  cases eq_of_beq hv.1
  cases eq_of_beq hv.2
  refine ⟨.ref p, .ref p, hm, rfl, fun F => ?_⟩
  have hz := sizeLine_eq
  simp only [bA]
  refine ⟨p, [V.str s, V.int i], rfl, .inr ⟨_, _, _, hk, rfl, rfl, by show 2 <= sizeLine; omega, .cons ⟨t, rfl⟩ (.cons ⟨u, rfl⟩ .nil)⟩, DatL.cons ?_ (DatL.cons ?_ DatL.nil)⟩
  ·simp only [bA]; exact ⟨trivial, by omega⟩
  ·simp only [bA]
 ·cases hv
theorem bG3 {P : Program} {w : World} {K : W.Frag} {mg : Str -> Option Value} {base : Heap} {k : Nat} {f : Addr} {fd : FuncData} {ps : List Str} {m : List Slot -> bC D} (hm : ∀ sl, m sl = .bad) : bS P w K mg base bU k f fd ps (pT K m) := by
 have no : ∀ vs H Q E, ¬ pT K m vs H Q E := fun vs H Q E h => by
  obtain ⟨F, sl, _, _, _, q⟩ := h
  rw [hm sl] at q
  exact q
 exact ⟨fun vs H Q E h => absurd h (no vs H Q E), fun A outer s H args us vs Q E _ _ _ _ h => absurd h (no vs H Q E)⟩
theorem bG4 (sl : List Slot) : pC (fun _ => .bad) sl = .bad := by
 unfold pC
 split <;> rfl
theorem okF {P : Program} {w : World} {K : W.Frag} {mg : Str -> Option Value} {base : Heap} {f : Addr} {fd : FuncData} {n : Nat} {C : CT} (F : bK K "fault_of" "fault_of" s1 f fd) (TT : Tab P w K mg base (n + 1) C) : bS P w K mg base bU (n + 4) f fd ["unit", "faces", "face"] (pT K (pC (bR6 C))) := by
 obtain ⟨f2, d2, F2, m2, u2⟩ := TT.h2
 obtain ⟨f3, d3, F3, m3, u3⟩ := TT.h3
 obtain ⟨f4, d4, F4, m4, u4⟩ := TT.h4
 obtain ⟨f5, d5, F5, m5, u5⟩ := TT.h5
 obtain ⟨f6, d6, F6, m6, u6⟩ := TT.h6
 obtain ⟨f7, d7, F7, m7, u7⟩ := TT.h7
 obtain ⟨f8, d8, F8, m8, u8⟩ := TT.h8
 have c8 : lF P w K mg base (n + 1) "fault_of_use" (mN C) := ⟨⟨f8, d8, _, ok8 (n := n) F8 TT, m8, F8.kp, u8⟩⟩
 have c7 : lF P w K mg base (n + 2) "fault_of_block" (nH C) := ⟨⟨f7, d7, _, ok7 (n0 := 0) (C0 := C) (n := n + 1) F7 TT c8, m7, F7.kp, u7⟩⟩
 have c6 : lF P w K mg base (n + 3) "fault_of_blocks" (vD C) := ⟨⟨f6, d6, _, ok6 (n := n + 2) F6 TT c7, m6, F6.kp, u6⟩⟩
 have c5 : lF P w K mg base (n + 3) "fault_of_deeds" (vE C) := ⟨⟨f5, d5, _, ok5 (n := n + 2) F5 TT, m5, F5.kp, u5⟩⟩
 have c4 : lF P w K mg base (n + 3) "fault_of_words" (vF C) := ⟨⟨f4, d4, _, ok4 (n := n + 2) F4 TT, m4, F4.kp, u4⟩⟩
 have c2 : qQ P w K mg base (n + 2) "meanings_told" (qT C) := ⟨⟨f2, d2, _, ok2 (n := n + 1) F2 TT, m2, F2.kp, u2⟩⟩
 have c3 : lF P w K mg base (n + 3) "fault_of_takes" (qU C) := ⟨⟨f3, d3, _, ok3 (n := n + 2) F3 TT c2, m3, F3.kp, u3⟩⟩
 refine (ok1 (n := n + 3) F TT c6 c5 c4 (c2.mono (Nat.le_succ _)) c3).imp fun vs H Q E h => ?_
 obtain ⟨F, sl, a, b, c, q⟩ := h
 unfold pC at q
 split at q
 ·exact ⟨F, _, a, b, c, q⟩
 ·exact q.elim
noncomputable def yG (K : W.Frag) : List DictEntry -> List (Str × List Str) -> Bool
 | [], [] => true
 | e :: es, (x, ts) :: r => (match e.key with | .str y _ => y == x | _ => false) && (match e.val with
  | .ref p => (match K.lookup p with | some ⟨.type "tuple", _, .seq its _, _⟩ => qZ its.toList ts | _ => false)
  | _ => false) && yG K es r
 | _, _ => false
theorem cT0 {w : World} {K : W.Frag} {Ps : List Addr} {bm : Addr} {ob : Obj} {h : Heap} (U : mI K Ps bm ob h) : ∀ {es : List DictEntry} {ft : List (Str × List Str)}, yG K es ft = true -> es.map (·.hash) = (ft.map fun p => hashStr w p.1) -> (ft.all fun p => decide (p.2.length <= 1000) && p.2.all fun t => decide (t.length <= 1000)) = true ->
 mJ w (nE K Ps bm ob) es (ft.map fun p => (p.1, .tup (p.2.map .str)))
 | [], [], _, _, _ => trivial
 | [], _ :: _, h, _, _ => by cases h
 | _ :: _, [], h, _, _ => by cases h
 | e :: es, (x, ts) :: r, h1, h2, h3 => by
  rw [yG, Bool.and_eq_true, Bool.and_eq_true] at h1
  simp only [List.map_cons, List.cons.injEq] at h2
  rw [List.all_cons, Bool.and_eq_true, Bool.and_eq_true, decide_eq_true_eq] at h3
  refine ⟨h2.1, ?_, ?_, cT0 U h1.2 h2.2 h3.2⟩
  ·have hk := h1.1.1
   split at hk
   ·rename_i y t e1
    exact ⟨t, by rw [e1, eq_of_beq hk]⟩
   ·cases hk
  ·have hv := h1.1.2
   split at hv
   ·rename_i p e1
    split at hv
    ·rename_i od its nn sl e2
     rw [e1]
     refine ⟨.ref p, rfl, fun F => ?_⟩
     have gc := bV0 (mg := fun _ => some (.ref p)) (x := "x") rfl (U.up e2 fun z => by cases z) h3.1.1 h3.1.2 hv
     obtain ⟨v, u, g1, g2, g3⟩ := gc.ex
     cases g1
     have : v = .ref p := by
      cases v <;> first | (cases g2; rfl) | (obtain ⟨_, z⟩ := g2; cases z) | cases g2
     subst this
     exact g3 F
    ·cases hv
   ·cases hv
theorem fT3 {w : World} {K : W.Frag} {mg : Str -> Option Value} {Ps : List Addr} {bm : Addr} {ob : Obj} {h : Heap} {x : Str} {p : Addr} {es : Array DictEntry} {ep : Nat} {ft : List (Str × List Str)} (U : mI K Ps bm ob h) (hm : mg x = some (.ref p)) (hs : (p == sysModules) = false) (hk : K.lookup p = some ⟨.type "dict", none, .dict es ep, #[]⟩)
 (h1 : yG K es.toList ft = true) (h2 : es.toList.map (·.hash) = ft.map fun p => hashStr w p.1) (h3 : (ft.all fun p => decide (p.2.length <= 1000) && p.2.all fun t => decide (t.length <= 1000)) = true) : nX w (nE K Ps bm ob) mg x (ft.map fun p => (p.1, .tup (p.2.map .str))) :=
 ⟨⟨p, es, ep, hm, hs, (U.up hk fun z => by cases z), cT0 U h1 h2 h3⟩⟩
noncomputable def cT1 : List (Str × List Str) := [("let", ["WORD", "be", "EXPRESSION"]), ("if", ["EXPRESSION", "then", "BLOCK", "else", "BLOCK"]), ("while", ["EXPRESSION", "do", "BLOCK"]), ("do", ["DEED", "PARTS"]), ("give", ["EXPRESSION"]), ("tell", ["EXPRESSION"]), ("get", ["WORD"]), ("new", ["WORD", "deed", "DEED"]), ("hand", ["WORD", "to", "EXPRESSION"]), ("await", ["WORD", "and", "WORD"])]
variable {P : Program} {w : World} {K : W.Frag} {mg : Str -> Option Value} {base : Heap}
structure Adr where
 f0 : Addr
 d0 : FuncData
 f1 : Addr
 d1 : FuncData
 f2 : Addr
 d2 : FuncData
 f3 : Addr
 d3 : FuncData
 f4 : Addr
 d4 : FuncData
 f5 : Addr
 d5 : FuncData
 f6 : Addr
 d6 : FuncData
 f7 : Addr
 d7 : FuncData
 f8 : Addr
 d8 : FuncData
 f9 : Addr
 d9 : FuncData
 f10 : Addr
 d10 : FuncData
 f11 : Addr
 d11 : FuncData
 f12 : Addr
 d12 : FuncData
 f13 : Addr
 d13 : FuncData
 f14 : Addr
 d14 : FuncData
 f15 : Addr
 d15 : FuncData
 f16 : Addr
 d16 : FuncData
 f17 : Addr
 d17 : FuncData
 f18 : Addr
 d18 : FuncData
 f19 : Addr
 d19 : FuncData
 f20 : Addr
 d20 : FuncData
 f21 : Addr
 d21 : FuncData
 f22 : Addr
 d22 : FuncData
 f23 : Addr
 d23 : FuncData
 f24 : Addr
 d24 : FuncData
 f25 : Addr
 d25 : FuncData
 f26 : Addr
 d26 : FuncData
 f27 : Addr
 d27 : FuncData
 f28 : Addr
 d28 : FuncData
 f29 : Addr
 d29 : FuncData
 f30 : Addr
 d30 : FuncData
 f31 : Addr
 d31 : FuncData
 f32 : Addr
 d32 : FuncData
 f33 : Addr
 d33 : FuncData
structure Std (w : World) (K : W.Frag) (mg : Str -> Option Value) (t : Adr) : Prop where
 F0 : bK K "part_sorts_of" "part_sorts_of" s0 t.f0 t.d0
 m0 : mg "part_sorts_of" = some (.ref t.f0)
 u0 : cS K t.d0 ["word"] []
 F1 : bK K "fault_of" "fault_of" s1 t.f1 t.d1
 m1 : mg "fault_of" = some (.ref t.f1)
 u1 : cS K t.d1 ["unit", "faces", "face"] []
 F2 : bK K "meanings_told" "meanings_told" s2 t.f2 t.d2
 m2 : mg "meanings_told" = some (.ref t.f2)
 u2 : cS K t.d2 ["face"] []
 F3 : bK K "fault_of_takes" "fault_of_takes" s3 t.f3 t.d3
 m3 : mg "fault_of_takes" = some (.ref t.f3)
 u3 : cS K t.d3 ["unit", "faces", "top"] []
 F4 : bK K "fault_of_words" "fault_of_words" s4 t.f4 t.d4
 m4 : mg "fault_of_words" = some (.ref t.f4)
 u4 : cS K t.d4 ["unit", "top"] []
 F5 : bK K "fault_of_deeds" "fault_of_deeds" s5 t.f5 t.d5
 m5 : mg "fault_of_deeds" = some (.ref t.f5)
 u5 : cS K t.d5 ["unit", "face", "top"] []
 F6 : bK K "fault_of_blocks" "fault_of_blocks" s6 t.f6 t.d6
 m6 : mg "fault_of_blocks" = some (.ref t.f6)
 u6 : cS K t.d6 ["unit", "top"] []
 F7 : bK K "fault_of_block" "fault_of_block" s7 t.f7 t.d7
 m7 : mg "fault_of_block" = some (.ref t.f7)
 u7 : cS K t.d7 ["block", "meanings"] []
 F8 : bK K "fault_of_use" "fault_of_use" s8 t.f8 t.d8
 m8 : mg "fault_of_use" = some (.ref t.f8)
 u8 : cS K t.d8 ["use", "meanings"] []
 F9 : bK K "uses_of_block" "uses_of_block" s9 t.f9 t.d9
 m9 : mg "uses_of_block" = some (.ref t.f9)
 u9 : cS K t.d9 ["block"] []
 F10 : bK K "uses_of_statement" "uses_of_statement" s10 t.f10 t.d10
 m10 : mg "uses_of_statement" = some (.ref t.f10)
 u10 : cS K t.d10 ["statement"] []
 F11 : bK K "uses_of_part" "uses_of_part" sY t.f11 t.d11
 m11 : mg "uses_of_part" = some (.ref t.f11)
 u11 : cS K t.d11 ["sort", "part"] []
 F12 : bK K "uses_of_expression" "uses_of_expression" sZ t.f12 t.d12
 m12 : mg "uses_of_expression" = some (.ref t.f12)
 u12 : cS K t.d12 ["expression"] []
 F13 : bK K "uses_of_parts" "uses_of_parts" tE t.f13 t.d13
 m13 : mg "uses_of_parts" = some (.ref t.f13)
 u13 : cS K t.d13 ["parts"] []
 F14 : bK K "_law_cell_at" "_law_cell_at" tG t.f14 t.d14
 m14 : mg "_law_cell_at" = some (.ref t.f14)
 u14 : cS K t.d14 ["_law_script", "_law_k"] []
 F15 : bK K "_law_mixed" "_law_mixed" tH t.f15 t.d15
 m15 : mg "_law_mixed" = some (.ref t.f15)
 u15 : cS K t.d15 ["_law_script", "_law_k"] []
 F16 : bK K "_law_drawn" "_law_drawn" tJ t.f16 t.d16
 m16 : mg "_law_drawn" = some (.ref t.f16)
 u16 : cS K t.d16 ["_law_number", "_law_k"] []
 F17 : bK K "_law_stem" "_law_stem" tK t.f17 t.d17
 m17 : mg "_law_stem" = some (.ref t.f17)
 u17 : cS K t.d17 ["_law_number"] []
 F18 : bK K "_law_name" "_law_name" tL t.f18 t.d18
 m18 : mg "_law_name" = some (.ref t.f18)
 u18 : cS K t.d18 ["_law_number", "_law_k"] []
 F19 : bK K "_law_value" "_law_value" tM t.f19 t.d19
 m19 : mg "_law_value" = some (.ref t.f19)
 u19 : cS K t.d19 ["_law_number"] []
 F20 : bK K "_law_expression" "_law_expression" tN t.f20 t.d20
 m20 : mg "_law_expression" = some (.ref t.f20)
 u20 : cS K t.d20 ["_law_number", "_law_names", "_law_deeds", "_law_deep"] []
 F21 : bK K "_law_short" "_law_short" tO t.f21 t.d21
 m21 : mg "_law_short" = some (.ref t.f21)
 u21 : cS K t.d21 ["_law_number", "_law_names", "_law_deeds", "_law_plain"] []
 F22 : bK K "_law_statement" "_law_statement" tP t.f22 t.d22
 m22 : mg "_law_statement" = some (.ref t.f22)
 u22 : cS K t.d22 ["_law_number", "_law_names", "_law_deeds", "_law_plain", "_law_deep"] []
 F23 : bK K "_law_block" "_law_block" tQ t.f23 t.d23
 m23 : mg "_law_block" = some (.ref t.f23)
 u23 : cS K t.d23 ["_law_number", "_law_size", "_law_names", "_law_deeds", "_law_plain", "_law_deep"] []
 F24 : bK K "_law_fault_of_word" "_law_fault_of_word" tR t.f24 t.d24
 m24 : mg "_law_fault_of_word" = some (.ref t.f24)
 u24 : cS K t.d24 ["_law_name_here", "_law_words", "_law_deeds"] []
 F25 : bK K "_law_fault_of_call" "_law_fault_of_call" tT t.f25 t.d25
 m25 : mg "_law_fault_of_call" = some (.ref t.f25)
 u25 : cS K t.d25 ["_law_name_here", "_law_parts", "_law_words", "_law_deeds"] []
 F26 : bK K "_law_fault_of_expression" "_law_fault_of_expression" tU t.f26 t.d26
 m26 : mg "_law_fault_of_expression" = some (.ref t.f26)
 u26 : cS K t.d26 ["_law_thing", "_law_words", "_law_deeds"] []
 F27 : bK K "_law_first" "_law_first" tV t.f27 t.d27
 m27 : mg "_law_first" = some (.ref t.f27)
 u27 : cS K t.d27 ["_law_faults"] []
 F28 : bK K "_law_fault_of_new" "_law_fault_of_new" tW t.f28 t.d28
 m28 : mg "_law_fault_of_new" = some (.ref t.f28)
 u28 : cS K t.d28 ["_law_thing", "_law_words", "_law_deeds"] []
 F29 : bK K "_law_fault_of_statement" "_law_fault_of_statement" tX t.f29 t.d29
 m29 : mg "_law_fault_of_statement" = some (.ref t.f29)
 u29 : cS K t.d29 ["_law_thing", "_law_words", "_law_deeds"] []
 F30 : bK K "_law_fault_of_block" "_law_fault_of_block" tY t.f30 t.d30
 m30 : mg "_law_fault_of_block" = some (.ref t.f30)
 u30 : cS K t.d30 ["_law_block_here", "_law_words", "_law_deeds"] []
 F31 : bK K "_law_mess" "_law_mess" tZ t.f31 t.d31
 m31 : mg "_law_mess" = some (.ref t.f31)
 u31 : cS K t.d31 ["_law_number", "_law_words", "_law_deeds"] []
 F32 : bK K "_law_deed_by" "_law_deed_by" vA t.f32 t.d32
 m32 : mg "_law_deed_by" = some (.ref t.f32)
 u32 : cS K t.d32 ["_law_number", "_law_stem_here", "_law_k", "_law_words", "_law_deeds"] []
 F33 : bK K "law" "law" dH t.f33 t.d33
 m33 : mg "law" = some (.ref t.f33)
 u33 : cS K t.d33 ["_law_script"] []
 b_dict : mg "dict" = none
 b_int : mg "int" = none
 b_len : mg "len" = none
 b_list : mg "list" = none
 b_max : mg "max" = none
 b_min : mg "min" = none
 b_range : mg "range" = none
 b_tuple : mg "tuple" = none
 b_zip : mg "zip" = none
 gc_NAME_SORTS : lE K mg "NAME_SORTS" xE
 gc_PART_SORTS : lE K mg "PART_SORTS" bC5
 gc_STATEMENT_FORMS : nX w K mg "STATEMENT_FORMS" bC6
 gc_WORD : lE K mg "WORD" nG
structure Oks (P : Program) (w : World) (K : W.Frag) (mg : Str -> Option Value) (base : Heap) (t : Adr) (n : Nat) (C : CT) : Prop where
 o0 : bS P w K mg base bU n t.f0 t.d0 ["word"] (cL K (C .q0))
 o9 : bS P w K mg base bU n t.f9 t.d9 ["block"] (cL K (C .q2))
 o10 : bS P w K mg base bU n t.f10 t.d10 ["statement"] (cL K (C .q3))
 o11 : bS P w K mg base bU n t.f11 t.d11 ["sort", "part"] (cL K (C .q4))
 o12 : bS P w K mg base bU n t.f12 t.d12 ["expression"] (cL K (C .q5))
 o13 : bS P w K mg base bU n t.f13 t.d13 ["parts"] (cL K (C .q6))
 o14 : bS P w K mg base bU n t.f14 t.d14 ["_law_script", "_law_k"] (cL K (C .q7))
 o15 : bS P w K mg base bU n t.f15 t.d15 ["_law_script", "_law_k"] (cL K (C .q8))
 o16 : bS P w K mg base bU n t.f16 t.d16 ["_law_number", "_law_k"] (cL K (C .q9))
 o17 : bS P w K mg base bU n t.f17 t.d17 ["_law_number"] (cL K (C .q10))
 o18 : bS P w K mg base bU n t.f18 t.d18 ["_law_number", "_law_k"] (cL K (C .q11))
 o19 : bS P w K mg base bU n t.f19 t.d19 ["_law_number"] (cL K (C .q12))
 o20 : bS P w K mg base bU n t.f20 t.d20 ["_law_number", "_law_names", "_law_deeds", "_law_deep"] (cL K (C .q13))
 o21 : bS P w K mg base bU n t.f21 t.d21 ["_law_number", "_law_names", "_law_deeds", "_law_plain"] (cL K (C .q14))
 o22 : bS P w K mg base bU n t.f22 t.d22 ["_law_number", "_law_names", "_law_deeds", "_law_plain", "_law_deep"] (cL K (C .q15))
 o23 : bS P w K mg base bU n t.f23 t.d23 ["_law_number", "_law_size", "_law_names", "_law_deeds", "_law_plain", "_law_deep"] (cL K (C .q16))
 o24 : bS P w K mg base bU n t.f24 t.d24 ["_law_name_here", "_law_words", "_law_deeds"] (cL K (C .q17))
 o25 : bS P w K mg base bU n t.f25 t.d25 ["_law_name_here", "_law_parts", "_law_words", "_law_deeds"] (cL K (C .q18))
 o26 : bS P w K mg base bU n t.f26 t.d26 ["_law_thing", "_law_words", "_law_deeds"] (cL K (C .q19))
 o27 : bS P w K mg base bU n t.f27 t.d27 ["_law_faults"] (cL K (C .q20))
 o28 : bS P w K mg base bU n t.f28 t.d28 ["_law_thing", "_law_words", "_law_deeds"] (cL K (C .q21))
 o29 : bS P w K mg base bU n t.f29 t.d29 ["_law_thing", "_law_words", "_law_deeds"] (cL K (C .q22))
 o30 : bS P w K mg base bU n t.f30 t.d30 ["_law_block_here", "_law_words", "_law_deeds"] (cL K (C .q23))
 o31 : bS P w K mg base bU n t.f31 t.d31 ["_law_number", "_law_words", "_law_deeds"] (cL K (C .q24))
 o32 : bS P w K mg base bU n t.f32 t.d32 ["_law_number", "_law_stem_here", "_law_k", "_law_words", "_law_deeds"] (cL K (C .q25))
 o33 : bS P w K mg base bU n t.f33 t.d33 ["_law_script"] (cL K (C .law))
 o1 : bS P w K mg base bU n t.f1 t.d1 ["unit", "faces", "face"] (pT K (pC (C .q1)))
theorem cT3 {t : Adr} {n : Nat} {C : CT} (S : Std w K mg t) (O : Oks P w K mg base t n C) : Tab P w K mg base n C where
 c0 := ⟨⟨t.f0, t.d0, _, O.o0, S.m0, S.F0.kp, S.u0⟩⟩
 c9 := ⟨⟨t.f9, t.d9, _, O.o9, S.m9, S.F9.kp, S.u9⟩⟩
 c10 := ⟨⟨t.f10, t.d10, _, O.o10, S.m10, S.F10.kp, S.u10⟩⟩
 c11 := ⟨⟨t.f11, t.d11, _, O.o11, S.m11, S.F11.kp, S.u11⟩⟩
 c12 := ⟨⟨t.f12, t.d12, _, O.o12, S.m12, S.F12.kp, S.u12⟩⟩
 c13 := ⟨⟨t.f13, t.d13, _, O.o13, S.m13, S.F13.kp, S.u13⟩⟩
 c14 := ⟨⟨t.f14, t.d14, _, O.o14, S.m14, S.F14.kp, S.u14⟩⟩
 c15 := ⟨⟨t.f15, t.d15, _, O.o15, S.m15, S.F15.kp, S.u15⟩⟩
 c16 := ⟨⟨t.f16, t.d16, _, O.o16, S.m16, S.F16.kp, S.u16⟩⟩
 c17 := ⟨⟨t.f17, t.d17, _, O.o17, S.m17, S.F17.kp, S.u17⟩⟩
 c18 := ⟨⟨t.f18, t.d18, _, O.o18, S.m18, S.F18.kp, S.u18⟩⟩
 c19 := ⟨⟨t.f19, t.d19, _, O.o19, S.m19, S.F19.kp, S.u19⟩⟩
 c20 := ⟨⟨t.f20, t.d20, _, O.o20, S.m20, S.F20.kp, S.u20⟩⟩
 c21 := ⟨⟨t.f21, t.d21, _, O.o21, S.m21, S.F21.kp, S.u21⟩⟩
 c22 := ⟨⟨t.f22, t.d22, _, O.o22, S.m22, S.F22.kp, S.u22⟩⟩
 c23 := ⟨⟨t.f23, t.d23, _, O.o23, S.m23, S.F23.kp, S.u23⟩⟩
 c24 := ⟨⟨t.f24, t.d24, _, O.o24, S.m24, S.F24.kp, S.u24⟩⟩
 c25 := ⟨⟨t.f25, t.d25, _, O.o25, S.m25, S.F25.kp, S.u25⟩⟩
 c26 := ⟨⟨t.f26, t.d26, _, O.o26, S.m26, S.F26.kp, S.u26⟩⟩
 c27 := ⟨⟨t.f27, t.d27, _, O.o27, S.m27, S.F27.kp, S.u27⟩⟩
 c28 := ⟨⟨t.f28, t.d28, _, O.o28, S.m28, S.F28.kp, S.u28⟩⟩
 c29 := ⟨⟨t.f29, t.d29, _, O.o29, S.m29, S.F29.kp, S.u29⟩⟩
 c30 := ⟨⟨t.f30, t.d30, _, O.o30, S.m30, S.F30.kp, S.u30⟩⟩
 c31 := ⟨⟨t.f31, t.d31, _, O.o31, S.m31, S.F31.kp, S.u31⟩⟩
 c32 := ⟨⟨t.f32, t.d32, _, O.o32, S.m32, S.F32.kp, S.u32⟩⟩
 c33 := ⟨⟨t.f33, t.d33, _, O.o33, S.m33, S.F33.kp, S.u33⟩⟩
 c1 := ⟨⟨t.f1, t.d1, _, O.o1, S.m1, S.F1.kp, S.u1⟩⟩
 h1 := ⟨t.f1, t.d1, S.F1, S.m1, S.u1⟩
 h2 := ⟨t.f2, t.d2, S.F2, S.m2, S.u2⟩
 h3 := ⟨t.f3, t.d3, S.F3, S.m3, S.u3⟩
 h4 := ⟨t.f4, t.d4, S.F4, S.m4, S.u4⟩
 h5 := ⟨t.f5, t.d5, S.F5, S.m5, S.u5⟩
 h6 := ⟨t.f6, t.d6, S.F6, S.m6, S.u6⟩
 h7 := ⟨t.f7, t.d7, S.F7, S.m7, S.u7⟩
 h8 := ⟨t.f8, t.d8, S.F8, S.m8, S.u8⟩
 b_dict := S.b_dict
 b_int := S.b_int
 b_len := S.b_len
 b_list := S.b_list
 b_max := S.b_max
 b_min := S.b_min
 b_range := S.b_range
 b_tuple := S.b_tuple
 b_zip := S.b_zip
 gc_NAME_SORTS := S.gc_NAME_SORTS
 gc_PART_SORTS := S.gc_PART_SORTS
 gc_STATEMENT_FORMS := S.gc_STATEMENT_FORMS
 gc_WORD := S.gc_WORD
theorem bV2 {t : Adr} (S : Std w K mg t) : ∀ (n : Nat) (base : Heap), Oks P w K mg base t n (Ph n)
 | 0, _ => by constructor <;> first | exact bL8 fun _ => rfl | exact bG3 bG4
 | 1, _ => by constructor <;> first | exact bL8 fun _ => rfl | exact bG3 bG4
 | 2, _ => by constructor <;> first | exact bL8 fun _ => rfl | exact bG3 bG4
 | n + 3, base => by
  have T : ∀ b : Heap, Tab P w K mg b (n + 2) (Ph (n + 2)) := fun b => cT3 S (bV2 S (n + 2) b)
  have T0 : ∀ b : Heap, Tab P w K mg b n (Ph n) := fun b => cT3 S (bV2 S n b)
  have oF : bS P w K mg base bU (n + 3) t.f1 t.d1 ["unit", "faces", "face"] (pT K (pC (Ph (n + 3) .q1))) := by
   cases n with
   | zero => exact bG3 bG4
   | succ m => exact okF S.F1 (T0 base)
  exact ⟨ok0 (C' := Ph n) S.F0 (T base), ok9 (C' := Ph n) S.F9 (T base), fN3 (C' := Ph n) S.F10 (T base), fN5 (C' := Ph n) S.F11 (T base), fN7 (C' := Ph n) S.F12 (T base), fN9 (C' := Ph n) S.F13 (T base), fO1 (C' := Ph n) S.F14 (T base), fO3 (C' := Ph n) S.F15 (T base), fO5 (C' := Ph n) S.F16 (T base), fO7 (C' := Ph n) S.F17 (T base), fO9 (C' := Ph n) S.F18 (T base), fP1 (C' := Ph n) S.F19 (T base), fP3 (C' := Ph n) S.F20 (T base), fP5 (C' := Ph n) S.F21 (T base), fP7 (C' := Ph n) S.F22 (T base), fP9 (C' := Ph n) S.F23 (T base), fQ1 (C' := Ph n) S.F24 (T base), fQ3 (C' := Ph n) S.F25 (T base), fQ5 (C' := Ph n) S.F26 (T base), fQ7 (C' := Ph n) S.F27 (T base), fQ9 (C' := Ph n) S.F28 (T base), fR1 (C' := Ph n) S.F29 (T base), fR3 (C' := Ph n) S.F30 (T base), fR5 (C' := Ph n) S.F31 (T base), fR7 (C' := Ph n) S.F32 (T base), fT0 (C' := Ph n) S.F33 (T base), oF⟩
end
noncomputable abbrev Fd (x : Str) (s : Stmt) (kV dc pm : Value) (an : Option Addr) (cd ct : Value) : FuncData := W.fnOf x x (vU s) (mF s) (bH s) .none kV dc pm an cd ct
noncomputable abbrev Ob (oc : Value) (od : Option Addr) (d : FuncData) (sl : Array (Option Value)) : Obj := ⟨oc, od, .func d, sl⟩
theorem all_mk {l : W.OpenLaw} {w : World} {K : W.Frag} {h : Heap} {mg : Str -> Option Value} {fa : Addr} (X : K.In h) (G : h.Ns mainGlobals mg) (hfa : mg "law" = some (.ref fa))
 (hbm : ∃ bm ob, mg "__builtins__" = some (.ref bm) /\ bm ≠ builtinsNs /\ h.get? bm = some ob /\ ob.cls = .type "module" /\ ob.dict = some builtinsNs /\ ob.data = .plain)
 (a0 : W.nsIn K mainGlobals "part_sorts_of" = some (some (.ref f0))) (l0 : K.lookup f0 = some (Ob oc0 od0 (Fd "part_sorts_of" s0 kV0 dc0 pm0 an0 cd0 ct0) sl0)) (c0 : W.codeIn K cd0 "part_sorts_of" = true) (k0 : W.keepIn K (.ref f0) = true)
 (a1 : W.nsIn K mainGlobals "fault_of" = some (some (.ref f1))) (l1 : K.lookup f1 = some (Ob oc1 od1 (Fd "fault_of" s1 kV1 dc1 pm1 an1 cd1 ct1) sl1)) (c1 : W.codeIn K cd1 "fault_of" = true) (k1 : W.keepIn K (.ref f1) = true)
 (a2 : W.nsIn K mainGlobals "meanings_told" = some (some (.ref f2))) (l2 : K.lookup f2 = some (Ob oc2 od2 (Fd "meanings_told" s2 kV2 dc2 pm2 an2 cd2 ct2) sl2)) (c2 : W.codeIn K cd2 "meanings_told" = true) (k2 : W.keepIn K (.ref f2) = true)
 (a3 : W.nsIn K mainGlobals "fault_of_takes" = some (some (.ref f3))) (l3 : K.lookup f3 = some (Ob oc3 od3 (Fd "fault_of_takes" s3 kV3 dc3 pm3 an3 cd3 ct3) sl3)) (c3 : W.codeIn K cd3 "fault_of_takes" = true) (k3 : W.keepIn K (.ref f3) = true)
 (a4 : W.nsIn K mainGlobals "fault_of_words" = some (some (.ref f4))) (l4 : K.lookup f4 = some (Ob oc4 od4 (Fd "fault_of_words" s4 kV4 dc4 pm4 an4 cd4 ct4) sl4)) (c4 : W.codeIn K cd4 "fault_of_words" = true) (k4 : W.keepIn K (.ref f4) = true)
 (a5 : W.nsIn K mainGlobals "fault_of_deeds" = some (some (.ref f5))) (l5 : K.lookup f5 = some (Ob oc5 od5 (Fd "fault_of_deeds" s5 kV5 dc5 pm5 an5 cd5 ct5) sl5)) (c5 : W.codeIn K cd5 "fault_of_deeds" = true) (k5 : W.keepIn K (.ref f5) = true)
 (a6 : W.nsIn K mainGlobals "fault_of_blocks" = some (some (.ref f6))) (l6 : K.lookup f6 = some (Ob oc6 od6 (Fd "fault_of_blocks" s6 kV6 dc6 pm6 an6 cd6 ct6) sl6)) (c6 : W.codeIn K cd6 "fault_of_blocks" = true) (k6 : W.keepIn K (.ref f6) = true)
 (a7 : W.nsIn K mainGlobals "fault_of_block" = some (some (.ref f7))) (l7 : K.lookup f7 = some (Ob oc7 od7 (Fd "fault_of_block" s7 kV7 dc7 pm7 an7 cd7 ct7) sl7)) (c7 : W.codeIn K cd7 "fault_of_block" = true) (k7 : W.keepIn K (.ref f7) = true)
 (a8 : W.nsIn K mainGlobals "fault_of_use" = some (some (.ref f8))) (l8 : K.lookup f8 = some (Ob oc8 od8 (Fd "fault_of_use" s8 kV8 dc8 pm8 an8 cd8 ct8) sl8)) (c8 : W.codeIn K cd8 "fault_of_use" = true) (k8 : W.keepIn K (.ref f8) = true)
 (a9 : W.nsIn K mainGlobals "uses_of_block" = some (some (.ref f9))) (l9 : K.lookup f9 = some (Ob oc9 od9 (Fd "uses_of_block" s9 kV9 dc9 pm9 an9 cd9 ct9) sl9)) (c9 : W.codeIn K cd9 "uses_of_block" = true) (k9 : W.keepIn K (.ref f9) = true)
 (a10 : W.nsIn K mainGlobals "uses_of_statement" = some (some (.ref f10))) (l10 : K.lookup f10 = some (Ob oc10 od10 (Fd "uses_of_statement" s10 kV10 dc10 pm10 an10 cd10 ct10) sl10)) (c10 : W.codeIn K cd10 "uses_of_statement" = true) (k10 : W.keepIn K (.ref f10) = true)
 (a11 : W.nsIn K mainGlobals "uses_of_part" = some (some (.ref f11))) (l11 : K.lookup f11 = some (Ob oc11 od11 (Fd "uses_of_part" sY kV11 dc11 pm11 an11 cd11 ct11) sl11)) (c11 : W.codeIn K cd11 "uses_of_part" = true) (k11 : W.keepIn K (.ref f11) = true)
 (a12 : W.nsIn K mainGlobals "uses_of_expression" = some (some (.ref f12))) (l12 : K.lookup f12 = some (Ob oc12 od12 (Fd "uses_of_expression" sZ kV12 dc12 pm12 an12 cd12 ct12) sl12)) (c12 : W.codeIn K cd12 "uses_of_expression" = true) (k12 : W.keepIn K (.ref f12) = true)
 (a13 : W.nsIn K mainGlobals "uses_of_parts" = some (some (.ref f13))) (l13 : K.lookup f13 = some (Ob oc13 od13 (Fd "uses_of_parts" tE kV13 dc13 pm13 an13 cd13 ct13) sl13)) (c13 : W.codeIn K cd13 "uses_of_parts" = true) (k13 : W.keepIn K (.ref f13) = true)
 (a14 : W.nsIn K mainGlobals "_law_cell_at" = some (some (.ref f14))) (l14 : K.lookup f14 = some (Ob oc14 od14 (Fd "_law_cell_at" tG kV14 dc14 pm14 an14 cd14 ct14) sl14)) (c14 : W.codeIn K cd14 "_law_cell_at" = true) (k14 : W.keepIn K (.ref f14) = true)
 (a15 : W.nsIn K mainGlobals "_law_mixed" = some (some (.ref f15))) (l15 : K.lookup f15 = some (Ob oc15 od15 (Fd "_law_mixed" tH kV15 dc15 pm15 an15 cd15 ct15) sl15)) (c15 : W.codeIn K cd15 "_law_mixed" = true) (k15 : W.keepIn K (.ref f15) = true)
 (a16 : W.nsIn K mainGlobals "_law_drawn" = some (some (.ref f16))) (l16 : K.lookup f16 = some (Ob oc16 od16 (Fd "_law_drawn" tJ kV16 dc16 pm16 an16 cd16 ct16) sl16)) (c16 : W.codeIn K cd16 "_law_drawn" = true) (k16 : W.keepIn K (.ref f16) = true)
 (a17 : W.nsIn K mainGlobals "_law_stem" = some (some (.ref f17))) (l17 : K.lookup f17 = some (Ob oc17 od17 (Fd "_law_stem" tK kV17 dc17 pm17 an17 cd17 ct17) sl17)) (c17 : W.codeIn K cd17 "_law_stem" = true) (k17 : W.keepIn K (.ref f17) = true)
 (a18 : W.nsIn K mainGlobals "_law_name" = some (some (.ref f18))) (l18 : K.lookup f18 = some (Ob oc18 od18 (Fd "_law_name" tL kV18 dc18 pm18 an18 cd18 ct18) sl18)) (c18 : W.codeIn K cd18 "_law_name" = true) (k18 : W.keepIn K (.ref f18) = true)
 (a19 : W.nsIn K mainGlobals "_law_value" = some (some (.ref f19))) (l19 : K.lookup f19 = some (Ob oc19 od19 (Fd "_law_value" tM kV19 dc19 pm19 an19 cd19 ct19) sl19)) (c19 : W.codeIn K cd19 "_law_value" = true) (k19 : W.keepIn K (.ref f19) = true)
 (a20 : W.nsIn K mainGlobals "_law_expression" = some (some (.ref f20))) (l20 : K.lookup f20 = some (Ob oc20 od20 (Fd "_law_expression" tN kV20 dc20 pm20 an20 cd20 ct20) sl20)) (c20 : W.codeIn K cd20 "_law_expression" = true) (k20 : W.keepIn K (.ref f20) = true)
 (a21 : W.nsIn K mainGlobals "_law_short" = some (some (.ref f21))) (l21 : K.lookup f21 = some (Ob oc21 od21 (Fd "_law_short" tO kV21 dc21 pm21 an21 cd21 ct21) sl21)) (c21 : W.codeIn K cd21 "_law_short" = true) (k21 : W.keepIn K (.ref f21) = true)
 (a22 : W.nsIn K mainGlobals "_law_statement" = some (some (.ref f22))) (l22 : K.lookup f22 = some (Ob oc22 od22 (Fd "_law_statement" tP kV22 dc22 pm22 an22 cd22 ct22) sl22)) (c22 : W.codeIn K cd22 "_law_statement" = true) (k22 : W.keepIn K (.ref f22) = true)
 (a23 : W.nsIn K mainGlobals "_law_block" = some (some (.ref f23))) (l23 : K.lookup f23 = some (Ob oc23 od23 (Fd "_law_block" tQ kV23 dc23 pm23 an23 cd23 ct23) sl23)) (c23 : W.codeIn K cd23 "_law_block" = true) (k23 : W.keepIn K (.ref f23) = true)
 (a24 : W.nsIn K mainGlobals "_law_fault_of_word" = some (some (.ref f24))) (l24 : K.lookup f24 = some (Ob oc24 od24 (Fd "_law_fault_of_word" tR kV24 dc24 pm24 an24 cd24 ct24) sl24)) (c24 : W.codeIn K cd24 "_law_fault_of_word" = true) (k24 : W.keepIn K (.ref f24) = true)
 (a25 : W.nsIn K mainGlobals "_law_fault_of_call" = some (some (.ref f25))) (l25 : K.lookup f25 = some (Ob oc25 od25 (Fd "_law_fault_of_call" tT kV25 dc25 pm25 an25 cd25 ct25) sl25)) (c25 : W.codeIn K cd25 "_law_fault_of_call" = true) (k25 : W.keepIn K (.ref f25) = true)
 (a26 : W.nsIn K mainGlobals "_law_fault_of_expression" = some (some (.ref f26))) (l26 : K.lookup f26 = some (Ob oc26 od26 (Fd "_law_fault_of_expression" tU kV26 dc26 pm26 an26 cd26 ct26) sl26)) (c26 : W.codeIn K cd26 "_law_fault_of_expression" = true) (k26 : W.keepIn K (.ref f26) = true)
 (a27 : W.nsIn K mainGlobals "_law_first" = some (some (.ref f27))) (l27 : K.lookup f27 = some (Ob oc27 od27 (Fd "_law_first" tV kV27 dc27 pm27 an27 cd27 ct27) sl27)) (c27 : W.codeIn K cd27 "_law_first" = true) (k27 : W.keepIn K (.ref f27) = true)
 (a28 : W.nsIn K mainGlobals "_law_fault_of_new" = some (some (.ref f28))) (l28 : K.lookup f28 = some (Ob oc28 od28 (Fd "_law_fault_of_new" tW kV28 dc28 pm28 an28 cd28 ct28) sl28)) (c28 : W.codeIn K cd28 "_law_fault_of_new" = true) (k28 : W.keepIn K (.ref f28) = true)
 (a29 : W.nsIn K mainGlobals "_law_fault_of_statement" = some (some (.ref f29))) (l29 : K.lookup f29 = some (Ob oc29 od29 (Fd "_law_fault_of_statement" tX kV29 dc29 pm29 an29 cd29 ct29) sl29)) (c29 : W.codeIn K cd29 "_law_fault_of_statement" = true) (k29 : W.keepIn K (.ref f29) = true)
 (a30 : W.nsIn K mainGlobals "_law_fault_of_block" = some (some (.ref f30))) (l30 : K.lookup f30 = some (Ob oc30 od30 (Fd "_law_fault_of_block" tY kV30 dc30 pm30 an30 cd30 ct30) sl30)) (c30 : W.codeIn K cd30 "_law_fault_of_block" = true) (k30 : W.keepIn K (.ref f30) = true)
 (a31 : W.nsIn K mainGlobals "_law_mess" = some (some (.ref f31))) (l31 : K.lookup f31 = some (Ob oc31 od31 (Fd "_law_mess" tZ kV31 dc31 pm31 an31 cd31 ct31) sl31)) (c31 : W.codeIn K cd31 "_law_mess" = true) (k31 : W.keepIn K (.ref f31) = true)
 (a32 : W.nsIn K mainGlobals "_law_deed_by" = some (some (.ref f32))) (l32 : K.lookup f32 = some (Ob oc32 od32 (Fd "_law_deed_by" vA kV32 dc32 pm32 an32 cd32 ct32) sl32)) (c32 : W.codeIn K cd32 "_law_deed_by" = true) (k32 : W.keepIn K (.ref f32) = true)
 (a33 : W.nsIn K mainGlobals "law" = some (some (.ref f33))) (l33 : K.lookup f33 = some (Ob oc33 od33 (Fd "law" dH kV33 dc33 pm33 an33 cd33 ct33) sl33)) (c33 : W.codeIn K cd33 "law" = true) (k33 : W.keepIn K (.ref f33) = true)
 (z_dict : W.nsIn K mainGlobals "dict" = some none)
 (z_int : W.nsIn K mainGlobals "int" = some none)
 (z_len : W.nsIn K mainGlobals "len" = some none)
 (z_list : W.nsIn K mainGlobals "list" = some none)
 (z_max : W.nsIn K mainGlobals "max" = some none)
 (z_min : W.nsIn K mainGlobals "min" = some none)
 (z_range : W.nsIn K mainGlobals "range" = some none)
 (z_tuple : W.nsIn K mainGlobals "tuple" = some none)
 (z_zip : W.nsIn K mainGlobals "zip" = some none)
 (e_NAME_SORTS : W.nsIn K mainGlobals "NAME_SORTS" = some (some (.ref p_NAME_SORTS))) (l_NAME_SORTS : K.lookup p_NAME_SORTS = some ⟨.type "tuple", od_NAME_SORTS, .seq its_NAME_SORTS n_NAME_SORTS, sl_NAME_SORTS⟩) (t_NAME_SORTS : qZ its_NAME_SORTS.toList cJ8 = true)
 (e_PART_SORTS : W.nsIn K mainGlobals "PART_SORTS" = some (some (.ref p_PART_SORTS))) (l_PART_SORTS : K.lookup p_PART_SORTS = some ⟨.type "tuple", od_PART_SORTS, .seq its_PART_SORTS n_PART_SORTS, sl_PART_SORTS⟩) (t_PART_SORTS : qZ its_PART_SORTS.toList cJ9 = true)
 (e_STATEMENT_FORMS : W.nsIn K mainGlobals "STATEMENT_FORMS" = some (some (.ref p_STATEMENT_FORMS))) (l_STATEMENT_FORMS : K.lookup p_STATEMENT_FORMS = some ⟨.type "dict", none, .dict es_STATEMENT_FORMS ep_STATEMENT_FORMS, #[]⟩) (t_STATEMENT_FORMS : yG K es_STATEMENT_FORMS.toList cT1 = true) (h_STATEMENT_FORMS : es_STATEMENT_FORMS.toList.map (·.hash) = cT1.map fun p => hashStr w p.1) (s_STATEMENT_FORMS : (p_STATEMENT_FORMS == sysModules) = false)
 (e_WORD : W.nsIn K mainGlobals "WORD" = some (some (.ref p_WORD))) (l_WORD : K.lookup p_WORD = some ⟨.type "tuple", od_WORD, .seq its_WORD n_WORD, sl_WORD⟩) (t_WORD : wiB its_WORD.toList "WORD" 0 = true)
 : ∃ (T : bP) (K' : W.Frag) (fd : FuncData), K'.In h /\ (∀ t ∈ T.L, (∃ c, h.TableAt c t.1 #[]) /\ K'.lookup t.1 = none) /\ (∀ (s : Shared) (u : Value), BindsTo s fd ⟨[u], []⟩ [("_law_script", u)]) /\
   ∀ base : Heap, K'.In base -> base.Ns mainGlobals mg -> bS l.prog w K' mg base bU 21 fa fd ["_law_script"] (zX K') := by
 have e := hfa.symm.trans (W.mg_of X G a33)
 cases e
 obtain ⟨bm, ob, hm1, hm2, hm3, hm4, hm5, hm6⟩ := hbm
 have U : mI K [] bm ob h := ⟨X, hm3, hm6, fun P hP => by cases hP⟩
 have hbg : bm ≠ mainGlobals := fun z => by
  obtain ⟨o, es, ep, e1, e2, _⟩ := G
  rw [<- z, hm3] at e1; cases e1; rw [hm6] at e2; cases e2
 letI T : bP := ⟨[], fun t ht => by cases ht⟩
 have F0 := U.fn (dM (st := s0) l0 c0 k0)
 have F1 := U.fn (dM (st := s1) l1 c1 k1)
 have F2 := U.fn (dM (st := s2) l2 c2 k2)
 have F3 := U.fn (dM (st := s3) l3 c3 k3)
 have F4 := U.fn (dM (st := s4) l4 c4 k4)
 have F5 := U.fn (dM (st := s5) l5 c5 k5)
 have F6 := U.fn (dM (st := s6) l6 c6 k6)
 have F7 := U.fn (dM (st := s7) l7 c7 k7)
 have F8 := U.fn (dM (st := s8) l8 c8 k8)
 have F9 := U.fn (dM (st := s9) l9 c9 k9)
 have F10 := U.fn (dM (st := s10) l10 c10 k10)
 have F11 := U.fn (dM (st := sY) l11 c11 k11)
 have F12 := U.fn (dM (st := sZ) l12 c12 k12)
 have F13 := U.fn (dM (st := tE) l13 c13 k13)
 have F14 := U.fn (dM (st := tG) l14 c14 k14)
 have F15 := U.fn (dM (st := tH) l15 c15 k15)
 have F16 := U.fn (dM (st := tJ) l16 c16 k16)
 have F17 := U.fn (dM (st := tK) l17 c17 k17)
 have F18 := U.fn (dM (st := tL) l18 c18 k18)
 have F19 := U.fn (dM (st := tM) l19 c19 k19)
 have F20 := U.fn (dM (st := tN) l20 c20 k20)
 have F21 := U.fn (dM (st := tO) l21 c21 k21)
 have F22 := U.fn (dM (st := tP) l22 c22 k22)
 have F23 := U.fn (dM (st := tQ) l23 c23 k23)
 have F24 := U.fn (dM (st := tR) l24 c24 k24)
 have F25 := U.fn (dM (st := tT) l25 c25 k25)
 have F26 := U.fn (dM (st := tU) l26 c26 k26)
 have F27 := U.fn (dM (st := tV) l27 c27 k27)
 have F28 := U.fn (dM (st := tW) l28 c28 k28)
 have F29 := U.fn (dM (st := tX) l29 c29 k29)
 have F30 := U.fn (dM (st := tY) l30 c30 k30)
 have F31 := U.fn (dM (st := tZ) l31 c31 k31)
 have F32 := U.fn (dM (st := vA) l32 c32 k32)
 have F33 := U.fn (dM (st := dH) l33 c33 k33)
 have S : Std w (nE K [] bm ob) mg ⟨f0, Fd "part_sorts_of" s0 kV0 dc0 pm0 an0 cd0 ct0, f1, Fd "fault_of" s1 kV1 dc1 pm1 an1 cd1 ct1, f2, Fd "meanings_told" s2 kV2 dc2 pm2 an2 cd2 ct2, f3, Fd "fault_of_takes" s3 kV3 dc3 pm3 an3 cd3 ct3, f4, Fd "fault_of_words" s4 kV4 dc4 pm4 an4 cd4 ct4, f5, Fd "fault_of_deeds" s5 kV5 dc5 pm5 an5 cd5 ct5, f6, Fd "fault_of_blocks" s6 kV6 dc6 pm6 an6 cd6 ct6, f7, Fd "fault_of_block" s7 kV7 dc7 pm7 an7 cd7 ct7, f8, Fd "fault_of_use" s8 kV8 dc8 pm8 an8 cd8 ct8, f9, Fd "uses_of_block" s9 kV9 dc9 pm9 an9 cd9 ct9, f10, Fd "uses_of_statement" s10 kV10 dc10 pm10 an10 cd10 ct10, f11, Fd "uses_of_part" sY kV11 dc11 pm11 an11 cd11 ct11, f12, Fd "uses_of_expression" sZ kV12 dc12 pm12 an12 cd12 ct12, f13, Fd "uses_of_parts" tE kV13 dc13 pm13 an13 cd13 ct13, f14, Fd "_law_cell_at" tG kV14 dc14 pm14 an14 cd14 ct14, f15, Fd "_law_mixed" tH kV15 dc15 pm15 an15 cd15 ct15, f16, Fd "_law_drawn" tJ kV16 dc16 pm16 an16 cd16 ct16, f17, Fd "_law_stem" tK kV17 dc17 pm17 an17 cd17 ct17, f18, Fd "_law_name" tL kV18 dc18 pm18 an18 cd18 ct18, f19, Fd "_law_value" tM kV19 dc19 pm19 an19 cd19 ct19, f20, Fd "_law_expression" tN kV20 dc20 pm20 an20 cd20 ct20, f21, Fd "_law_short" tO kV21 dc21 pm21 an21 cd21 ct21, f22, Fd "_law_statement" tP kV22 dc22 pm22 an22 cd22 ct22, f23, Fd "_law_block" tQ kV23 dc23 pm23 an23 cd23 ct23, f24, Fd "_law_fault_of_word" tR kV24 dc24 pm24 an24 cd24 ct24, f25, Fd "_law_fault_of_call" tT kV25 dc25 pm25 an25 cd25 ct25, f26, Fd "_law_fault_of_expression" tU kV26 dc26 pm26 an26 cd26 ct26, f27, Fd "_law_first" tV kV27 dc27 pm27 an27 cd27 ct27, f28, Fd "_law_fault_of_new" tW kV28 dc28 pm28 an28 cd28 ct28, f29, Fd "_law_fault_of_statement" tX kV29 dc29 pm29 an29 cd29 ct29, f30, Fd "_law_fault_of_block" tY kV30 dc30 pm30 an30 cd30 ct30, f31, Fd "_law_mess" tZ kV31 dc31 pm31 an31 cd31 ct31, f32, Fd "_law_deed_by" vA kV32 dc32 pm32 an32 cd32 ct32, f33, Fd "law" dH kV33 dc33 pm33 an33 cd33 ct33⟩ := by
  refine ⟨F0, W.mg_of X G a0, bK.binds F0 fun _ _ _ _ _ _ us hl => match us, hl with | [_], _ => rfl, F1, W.mg_of X G a1, bK.binds F1 fun _ _ _ _ _ _ us hl => match us, hl with | [_, _, _], _ => rfl, F2, W.mg_of X G a2, bK.binds F2 fun _ _ _ _ _ _ us hl => match us, hl with | [_], _ => rfl, F3, W.mg_of X G a3, bK.binds F3 fun _ _ _ _ _ _ us hl => match us, hl with | [_, _, _], _ => rfl, F4, W.mg_of X G a4, bK.binds F4 fun _ _ _ _ _ _ us hl => match us, hl with | [_, _], _ => rfl, F5, W.mg_of X G a5, bK.binds F5 fun _ _ _ _ _ _ us hl => match us, hl with | [_, _, _], _ => rfl, F6, W.mg_of X G a6, bK.binds F6 fun _ _ _ _ _ _ us hl => match us, hl with | [_, _], _ => rfl, F7, W.mg_of X G a7, bK.binds F7 fun _ _ _ _ _ _ us hl => match us, hl with | [_, _], _ => rfl, F8, W.mg_of X G a8, bK.binds F8 fun _ _ _ _ _ _ us hl => match us, hl with | [_, _], _ => rfl, F9, W.mg_of X G a9, bK.binds F9 fun _ _ _ _ _ _ us hl => match us, hl with | [_], _ => rfl, F10, W.mg_of X G a10, bK.binds F10 fun _ _ _ _ _ _ us hl => match us, hl with | [_], _ => rfl, F11, W.mg_of X G a11, bK.binds F11 fun _ _ _ _ _ _ us hl => match us, hl with | [_, _], _ => rfl, F12, W.mg_of X G a12, bK.binds F12 fun _ _ _ _ _ _ us hl => match us, hl with | [_], _ => rfl, F13, W.mg_of X G a13, bK.binds F13 fun _ _ _ _ _ _ us hl => match us, hl with | [_], _ => rfl, F14, W.mg_of X G a14, bK.binds F14 fun _ _ _ _ _ _ us hl => match us, hl with | [_, _], _ => rfl, F15, W.mg_of X G a15, bK.binds F15 fun _ _ _ _ _ _ us hl => match us, hl with | [_, _], _ => rfl, F16, W.mg_of X G a16, bK.binds F16 fun _ _ _ _ _ _ us hl => match us, hl with | [_, _], _ => rfl, F17, W.mg_of X G a17, bK.binds F17 fun _ _ _ _ _ _ us hl => match us, hl with | [_], _ => rfl, F18, W.mg_of X G a18, bK.binds F18 fun _ _ _ _ _ _ us hl => match us, hl with | [_, _], _ => rfl, F19, W.mg_of X G a19, bK.binds F19 fun _ _ _ _ _ _ us hl => match us, hl with | [_], _ => rfl, F20, W.mg_of X G a20, bK.binds F20 fun _ _ _ _ _ _ us hl => match us, hl with | [_, _, _, _], _ => rfl, F21, W.mg_of X G a21, bK.binds F21 fun _ _ _ _ _ _ us hl => match us, hl with | [_, _, _, _], _ => rfl, F22, W.mg_of X G a22, bK.binds F22 fun _ _ _ _ _ _ us hl => match us, hl with | [_, _, _, _, _], _ => rfl, F23, W.mg_of X G a23, bK.binds F23 fun _ _ _ _ _ _ us hl => match us, hl with | [_, _, _, _, _, _], _ => rfl, F24, W.mg_of X G a24, bK.binds F24 fun _ _ _ _ _ _ us hl => match us, hl with | [_, _, _], _ => rfl, F25, W.mg_of X G a25, bK.binds F25 fun _ _ _ _ _ _ us hl => match us, hl with | [_, _, _, _], _ => rfl, F26, W.mg_of X G a26, bK.binds F26 fun _ _ _ _ _ _ us hl => match us, hl with | [_, _, _], _ => rfl, F27, W.mg_of X G a27, bK.binds F27 fun _ _ _ _ _ _ us hl => match us, hl with | [_], _ => rfl, F28, W.mg_of X G a28, bK.binds F28 fun _ _ _ _ _ _ us hl => match us, hl with | [_, _, _], _ => rfl, F29, W.mg_of X G a29, bK.binds F29 fun _ _ _ _ _ _ us hl => match us, hl with | [_, _, _], _ => rfl, F30, W.mg_of X G a30, bK.binds F30 fun _ _ _ _ _ _ us hl => match us, hl with | [_, _, _], _ => rfl, F31, W.mg_of X G a31, bK.binds F31 fun _ _ _ _ _ _ us hl => match us, hl with | [_, _, _], _ => rfl, F32, W.mg_of X G a32, bK.binds F32 fun _ _ _ _ _ _ us hl => match us, hl with | [_, _, _, _, _], _ => rfl, F33, W.mg_of X G a33, bK.binds F33 fun _ _ _ _ _ _ us hl => match us, hl with | [_], _ => rfl, W.mg_none_of X G z_dict, W.mg_none_of X G z_int, W.mg_none_of X G z_len, W.mg_none_of X G z_list, W.mg_none_of X G z_max, W.mg_none_of X G z_min, W.mg_none_of X G z_range, W.mg_none_of X G z_tuple, W.mg_none_of X G z_zip, bV0 (W.mg_of X G e_NAME_SORTS) (U.up l_NAME_SORTS fun z => by cases z) kL kL t_NAME_SORTS, bV0 (W.mg_of X G e_PART_SORTS) (U.up l_PART_SORTS fun z => by cases z) kL kL t_PART_SORTS, fT3 U (W.mg_of X G e_STATEMENT_FORMS) s_STATEMENT_FORMS l_STATEMENT_FORMS t_STATEMENT_FORMS h_STATEMENT_FORMS kL, fT1 (W.mg_of X G e_WORD) (U.up l_WORD fun z => by cases z) kL t_WORD⟩
 refine ⟨T, nE K [] bm ob, _, U.isIn, fun t ht => ?_, fun s v => ?_, fun base _ _ => dT4 (bV2 S 21 base).o33 ?_⟩
 ·cases ht
 ·exact .of_eq rfl
 ·intro ns _
  exact fJ7 0 ns
end Jm
end
section
namespace Jm
open PySem PySem.W PyProof.Rows
set_option maxHeartbeats 0
local macro_rules | `(tactic| o_head $H) => `(tactic| assumption)
theorem pre (h : PySem.Challenge.rw_joinmill_k11_blocks_of_units.row.Holds) : PySem.Challenge.rw_joinmill_k11_blocks_of_units.row.Holds := by k_head
abbrev rr := PySem.Challenge.rw_joinmill_k11_blocks_of_units.row
noncomputable def vw : Program := { PySem.Challenge.pw_joinmill_k11_blocks_of_units with main := { PySem.Challenge.pw_joinmill_k11_blocks_of_units.main with body := (((PySem.Challenge.pw_joinmill_k11_blocks_of_units.main.body.eraseIdx 20).eraseIdx 5).eraseIdx 0) } }
noncomputable def lv : List (Str × WData) := []
noncomputable def ad : List Addr := [2,3,15,16,17,18,19,20,21,22,23,24,25,26,27,28,31,32,33,34,36,37,39,40,41,43,44,46,47,48,50,51,53,54,55,57,58,60,61,62,64,65,67,68,69,71,72,74,75,76,78,79,81,82,83,85,86,88,89,90,92,93,95,96,97,99,100,102,103,104,106,107,109,110,111,113,114,116,117,118,120,121,123,124,125,127,128,130,131,132,134,135,137,138,139,141,142,144,145,146,148,149,151,152,153,155,156,158,159,160,162,163,165,166,167,170,171,172,175,176,177,179,180,182,183,184,187,188,189,192,193,194,197,198,199,202,203,204,206,207,209,210,211,213,214,216,217,218,221,222,223,226,227,228,231,232,233,236,237,238,241,242]
noncomputable abbrev xt (s : Shared) : Bool := xlAt vw lv s && recOk rr.records s
noncomputable abbrev hk : Hook := kHook pre.heap_1 ad (fun _ => by kernel_rfl)
theorem sn0 (w : World) : (openEnds treeTable rr.prog (w.withFollow "special-get-raises" false) 2676).map (openSeen vw ["STATEMENT_FORMS"] (importedModules rr.prog.main.body) xt true) = some (openGood vw ["STATEMENT_FORMS"]) := by kernel_rfl
theorem sn1 (w : World) : (openEnds treeTable rr.prog (w.withFollow "special-get-raises" true) 2676).map (openSeen vw ["STATEMENT_FORMS"] (importedModules rr.prog.main.body) xt true) = some (openGood vw ["STATEMENT_FORMS"]) := by kernel_rfl
theorem ob0 (w : World) : (openEnds treeTable rr.prog (w.withFollow "special-get-raises" false) 2676).map hk.obs = some (hk.val (w.withFollow "special-get-raises" false)) := by kernel_rfl
theorem ob1 (w : World) : (openEnds treeTable rr.prog (w.withFollow "special-get-raises" true) 2676).map hk.obs = some (hk.val (w.withFollow "special-get-raises" true)) := by kernel_rfl
theorem bo {α β γ : Type} {o : Option γ} {f : γ -> α} {g : γ -> β} {x : α} {y : β} (a : o.map f = some x) (b : o.map g = some y) : o.map (fun s => (f s, g s)) = some (x, y) := by
 cases o with
 | none => cases a
 | some s => cases a; cases b; rfl
theorem le : LeftO rr.prog vw ["STATEMENT_FORMS"] xt hk.obs hk.val 2676 := fun w => byRow2 "special-get-raises" (P := fun w => Option.map (fun s => (openSeen vw ["STATEMENT_FORMS"] (importedModules rr.prog.main.body) xt true s, hk.obs s)) (openEnds treeTable rr.prog w 2676) = some (openGood vw ["STATEMENT_FORMS"], hk.val w)) (fun w => bo (sn0 w) (ob0 w)) (fun w => bo (sn1 w) (ob1 w)) w
theorem hd {d : DefRec} {kwd : List (Str × Expr)} (a : defOf vw rr.name = some (d, kwd)) (b : rr.prog.theDef rr.name = some (d.params, d.body, d.scope))
 (c : kwWritten? d.params.kwonlyargs d.params.kw_defaults = some kwd) (e : (!rr.writes || List.isEmpty rr.records) = true) (f : rr.wellSaid = true)
 (g : (chainsOk vw && opensWell rr.prog && (frees rr.toRowW && rr.within.isEmpty)) = true) (B : rr.prog.bare)
 (hw : rr.promised) (hc : WalkO vw ["STATEMENT_FORMS"] (XL vw lv) hk.says rr.toRowW d kwd fun f vs => call f vs) : rr.Holds :=
 holds_open le (Hook.of hk) (Hook.keeps hk) (fun s z => xl_of s (Bool.and_eq_true_iff.mp z).1) XL.keeps a b c (fun s z => recFacts_of (Bool.and_eq_true_iff.mp z).2) e f g B hw hc
end Jm
open PySem PySem.W PyProof.Rows
set_option maxHeartbeats 0 in
theorem PySem.Challenge.cw_joinmill_k11_blocks_of_units_holds : PySem.Challenge.rw_joinmill_k11_blocks_of_units.Holds := by
 w_on; o_law; refine Jm.hd rfl rfl rfl rfl (by assumption) kL ⟨rfl, rfl, rfl, rfl, rfl, by decide +kernel⟩ ?_ ?_
 ·w_witness2
 k_fill
 refine R.walk_ofU (l := PySem.Challenge.rw_joinmill_k11_blocks_of_units) (k := 21) (x := "_law_script") rfl rfl ⟨rfl, by decide, by decide⟩ (ts := []) (fun w h Y => W.kIn_of Y) (fun w h Y P hP => by cases hP) ?F
 case F =>
  intro w mg fa h KX G hmg hT hbm
  refine' Jm.all_mk KX G hmg hbm ?a0 ?l0 ?c0 ?k0 ?a1 ?l1 ?c1 ?k1 ?a2 ?l2 ?c2 ?k2 ?a3 ?l3 ?c3 ?k3 ?a4 ?l4 ?c4 ?k4 ?a5 ?l5 ?c5 ?k5 ?a6 ?l6 ?c6 ?k6 ?a7 ?l7 ?c7 ?k7 ?a8 ?l8 ?c8 ?k8 ?a9 ?l9 ?c9 ?k9 ?a10 ?l10 ?c10 ?k10 ?a11 ?l11 ?c11 ?k11 ?a12 ?l12 ?c12 ?k12 ?a13 ?l13 ?c13 ?k13 ?a14 ?l14 ?c14 ?k14 ?a15 ?l15 ?c15 ?k15 ?a16 ?l16 ?c16 ?k16 ?a17 ?l17 ?c17 ?k17 ?a18 ?l18 ?c18 ?k18 ?a19 ?l19 ?c19 ?k19 ?a20 ?l20 ?c20 ?k20 ?a21 ?l21 ?c21 ?k21 ?a22 ?l22 ?c22 ?k22 ?a23 ?l23 ?c23 ?k23 ?a24 ?l24 ?c24 ?k24 ?a25 ?l25 ?c25 ?k25 ?a26 ?l26 ?c26 ?k26 ?a27 ?l27 ?c27 ?k27 ?a28 ?l28 ?c28 ?k28 ?a29 ?l29 ?c29 ?k29 ?a30 ?l30 ?c30 ?k30 ?a31 ?l31 ?c31 ?k31 ?a32 ?l32 ?c32 ?k32 ?a33 ?l33 ?c33 ?k33 ?z_dict ?z_int ?z_len ?z_list ?z_max ?z_min ?z_range ?z_tuple ?z_zip ?e_NAME_SORTS ?l_NAME_SORTS ?t_NAME_SORTS ?e_PART_SORTS ?l_PART_SORTS ?t_PART_SORTS ?e_STATEMENT_FORMS ?l_STATEMENT_FORMS ?t_STATEMENT_FORMS ?h_STATEMENT_FORMS ?s_STATEMENT_FORMS ?e_WORD ?l_WORD ?t_WORD
  case a0 | l0 | c0 | k0 | a1 | l1 | c1 | k1 | a2 | l2 | c2 | k2 | a3 | l3 | c3 | k3 | a4 | l4 | c4 | k4 | a5 | l5 | c5 | k5 | a6 | l6 | c6 | k6 | a7 | l7 | c7 | k7 | a8 | l8 | c8 | k8 | a9 | l9 | c9 | k9 | a10 | l10 | c10 | k10 | a11 | l11 | c11 | k11 | a12 | l12 | c12 | k12 | a13 | l13 | c13 | k13 | a14 | l14 | c14 | k14 | a15 | l15 | c15 | k15 | a16 | l16 | c16 | k16 | a17 | l17 | c17 | k17 | a18 | l18 | c18 | k18 | a19 | l19 | c19 | k19 | a20 | l20 | c20 | k20 | a21 | l21 | c21 | k21 | a22 | l22 | c22 | k22 | a23 | l23 | c23 | k23 | a24 | l24 | c24 | k24 | a25 | l25 | c25 | k25 | a26 | l26 | c26 | k26 | a27 | l27 | c27 | k27 | a28 | l28 | c28 | k28 | a29 | l29 | c29 | k29 | a30 | l30 | c30 | k30 | a31 | l31 | c31 | k31 | a32 | l32 | c32 | k32 | a33 | l33 | c33 | k33 | z_dict | z_int | z_len | z_list | z_max | z_min | z_range | z_tuple | z_zip | e_NAME_SORTS | l_NAME_SORTS => k_is
  case t_NAME_SORTS => rfl
  case e_PART_SORTS | l_PART_SORTS => k_is
  case t_PART_SORTS => rfl
  case e_STATEMENT_FORMS | l_STATEMENT_FORMS => k_is
  case t_STATEMENT_FORMS => kernel_rfl
  case h_STATEMENT_FORMS | s_STATEMENT_FORMS => rfl
  case e_WORD | l_WORD => k_is
  case t_WORD => rfl
#print axioms PySem.Challenge.cw_joinmill_k11_blocks_of_units_holds
end

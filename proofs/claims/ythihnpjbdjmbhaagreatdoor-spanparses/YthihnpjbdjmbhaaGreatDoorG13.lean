/-
  Contracts of a place's cmp, later, put, only.
  Rows of whatever elements: a slice that is there; one of the call's own, with append onto it as one law; its pieces. Rows of spans; rows of rows of spans.
-/
import Derived.Test.YthihnpjbdjmbhaaGreatDoorG09
import Derived.Test.YthihnpjbdjmbhaaGreatDoorG12
import Derived.Deep.DeepCutAuto
import Derived.Deep.RegionLaw
import Derived.Maps.AppendAt

namespace Go.Proofs.YthihnpjbdjmbhaaGreatDoor
set_option linter.unusedSimpArgs false
set_option linter.unusedVariables false
open Go.RowKit Go.Vr Go.Sort Go.Tx Go.Lib
attribute [local go_sem] setCellDrewN allocDrewN

/-- A variable's block. -/
structure Box (w : World) (N : Nat) (vs : Array Value) : Prop where
  lt : N < w.heap.size
  c : ∀ i, w.cell? ⟨N, i, none⟩ = vs[i]?
  f : ∀ i, w.frozen? ⟨N, i, none⟩ = false
theorem Box.new (w : World) (vs : Array Value) (T : TypeId) : Box (w.alloc (.cells vs T)) w.heap.size vs :=
  ⟨by simp, fun i => by simp [go_sem], fun i => by simp [go_sem]⟩
theorem Box.later {w w' : World} {N : Nat} {vs : Array Value} (h : Box w N vs) (hb : Below w.heap.size w w') : Box w' N vs := by
  obtain ⟨h1, h2⟩ := bcell hb
  exact ⟨Nat.lt_of_lt_of_le h.lt hb.size, fun i => by rw [h1 _ _ h.lt]; exact h.c i, fun i => by rw [h2 _ _ h.lt]; exact h.f i⟩
theorem Box.alloc {w : World} {N : Nat} {vs : Array Value} (h : Box w N vs) (o : Obj) : Box (w.alloc o) N vs := h.later (by repeat (first | with_reducible assumption | with_reducible exact Below.refl _ _ | with_reducible refine Below.setCell ?_ (by first | exact Nat.le_refl _ | (simp; done) | (simp; omega)) _ | with_reducible refine bal ?_ _ | with_reducible refine Below.alloc ?_ (by first | exact Nat.le_refl _ | (simp; done) | (simp; omega)) _ | with_reducible refine Below.drew ?_))
theorem Box.drew {w : World} {N : Nat} {vs : Array Value} (h : Box w N vs) : Box w.drew N vs := h.later (by repeat (first | with_reducible assumption | with_reducible exact Below.refl _ _ | with_reducible refine Below.setCell ?_ (by first | exact Nat.le_refl _ | (simp; done) | (simp; omega)) _ | with_reducible refine bal ?_ _ | with_reducible refine Below.alloc ?_ (by first | exact Nat.le_refl _ | (simp; done) | (simp; omega)) _ | with_reducible refine Below.drew ?_))
theorem Box.regrown {w : World} {N : Nat} {vs : Array Value} (h : Box w N vs) (d : Nat) (os : Array Obj) : Box (grow (redrawn w d) os) N vs := h.later (below_regrown w d os)

/-- A place as a value. -/
def valC : Sp.C → Value
  | none => cutv 0 0 0 ⟨#[]⟩ false true
  | some p => cutv p.1.a p.1.b p.1.c p.1.p p.2 false

set_option maxHeartbeats 4000000 in
theorem ccmp_some (v u : V) (x y : Bool) (hv : v.ok = true) (hu : u.ok = true) (w : World) (he : Env w) :
    Calls Tryz.prog 34 #[cutv v.a v.b v.c v.p x false, cutv u.a u.b u.c u.p y false] w fun e w' => e = .returned (.int .i64 (Sp.cmpC (some (v, x)) (some (u, y)))) ∧ Below w.heap.size w w' := by
  have HX : Hid (Sp.cmpC (some (v, x)) (some (u, y)) = seq (cmpV v u) (Sp.cmpB x y)) := rfl
  have CV : Hid (∀ W, Env W → Calls Tryz.prog 61 #[ver v.a v.b v.c v.p, ver u.a u.b u.c u.p] W fun e w' => e = .returned (.int .i64 (cmpV v u)) ∧ Below W.heap.size W w') := fun W hW => cmp_any v u W hv hu hW
  have HE := hide he
  clear hv hu he
  go_enter Tryz.func34, Tryz.ntmps34
  go_wp2_with fail
  have hB : Below w.heap.size w ((w.alloc (.cells #[.int .i64 v.a, .int .i64 v.b, .int .i64 v.c, .string v.p, .bool x, .bool false] 63)).alloc (.cells #[.int .i64 u.a, .int .i64 u.b, .int .i64 u.c, .string u.p, .bool y, .bool false] 63)) := (by repeat (first | with_reducible assumption | with_reducible exact Below.refl _ _ | with_reducible refine Below.setCell ?_ (by first | exact Nat.le_refl _ | (simp; done) | (simp; omega)) _ | with_reducible refine bal ?_ _ | with_reducible refine Below.alloc ?_ (by first | exact Nat.le_refl _ | (simp; done) | (simp; omega)) _ | with_reducible refine Below.drew ?_))
  have X := (Box.new w #[.int .i64 v.a, .int .i64 v.b, .int .i64 v.c, .string v.p, .bool x, .bool false] 63).alloc (.cells #[.int .i64 u.a, .int .i64 u.b, .int .i64 u.c, .string u.p, .bool y, .bool false] 63)
  have Y := Box.new (w.alloc (.cells #[.int .i64 v.a, .int .i64 v.b, .int .i64 v.c, .string v.p, .bool x, .bool false] 63)) #[.int .i64 u.a, .int .i64 u.b, .int .i64 u.c, .string u.p, .bool y, .bool false] 63
  have hs : (w.alloc (.cells #[.int .i64 v.a, .int .i64 v.b, .int .i64 v.c, .string v.p, .bool x, .bool false] 63)).heap.size = w.heap.size + 1 := by simp
  rw [hs] at Y
  clear hs
  generalize (w.alloc (.cells #[.int .i64 v.a, .int .i64 v.b, .int .i64 v.c, .string v.p, .bool x, .bool false] 63)).alloc (.cells #[.int .i64 u.a, .int .i64 u.b, .int .i64 u.c, .string u.p, .bool y, .bool false] 63) = W at *
  have EW := hide (HE.out.later hB)
  have KX : ∀ w', Below W.heap.size W w' → ∀ i, w'.cell? ⟨w.heap.size, i, none⟩ = (#[.int .i64 v.a, .int .i64 v.b, .int .i64 v.c, .string v.p, .bool x, .bool false] : Array Value)[i]? := fun w' h => (X.later h).c
  generalize hN : w.heap.size + 1 = N1 at *
  have KY : ∀ w', Below W.heap.size W w' → ∀ i, w'.cell? ⟨N1, i, none⟩ = (#[.int .i64 u.a, .int .i64 u.b, .int .i64 u.c, .string u.p, .bool y, .bool false] : Array Value)[i]? := fun w' h => (Y.later h).c
  have HB := hide hB
  have hB := Below.refl W.heap.size W
  clear X Y hN
  go_region_held3 (fun w' => Below W.heap.size W w') (first | assumption | exact (by repeat (first | with_reducible assumption | with_reducible exact Below.refl _ _ | with_reducible refine Below.setCell ?_ (by first | exact Nat.le_refl _ | (simp; done) | (simp; omega)) _ | with_reducible refine bal ?_ _ | with_reducible refine Below.alloc ?_ (by first | exact Nat.le_refl _ | (simp; done) | (simp; omega)) _ | with_reducible refine Below.drew ?_))) (first
    | (go_at_call 61; refine (CV.out _ (EW.out.later (by assumption))).mono ?_; rintro e w2 ⟨rfl, b2⟩; have b2 : Below W.heap.size W w2 := (by refine Below.trans ?_ (Below.mono b2 ?_); rotate_left; exact Below.size (by with_reducible assumption); with_reducible assumption))
    | (go_at_call 59; refine (cmpBool_raw _ _ _).mono ?_; rintro e w2 ⟨rfl, rfl⟩)
    | (go_at_call 60; refine (or2 _ _ _).mono ?_; rintro e w2 ⟨rfl, b3⟩; have b3 : Below W.heap.size W w2 := (by refine Below.trans ?_ (Below.mono b3 ?_); rotate_left; exact Below.size (by with_reducible assumption); with_reducible assumption)))
  rename_i hHeld
  go_wp2_with fail
  go_ret
  exact ⟨ret_int HX.out.symm, HB.out.trans (hHeld.mono HB.out.size)⟩
end Go.Proofs.YthihnpjbdjmbhaaGreatDoor

namespace Go.Proofs.YthihnpjbdjmbhaaGreatDoor
set_option linter.unusedSimpArgs false
set_option linter.unusedVariables false
open Go.RowKit Go.Vr Go.Sort Go.Tx Go.Lib

/-- What kind of elements. -/
structure El (α : Type) where
  enc : α → List Value
  k : Nat
  T : TypeId
  TS : TypeId
  z : Value
  bytes : Nat
  hk : ∀ x, (enc x).length = k
  one : ∀ x, ∀ u ∈ enc x, u.oneCell' = true
  ht : Tryz.prog.underlying TS = some (.slice T)
  hi : ∃ i : TypeInfo, Tryz.prog.info? T = some i ∧ i.zero = some z ∧ i.size = k ∧ i.bytes = bytes
  hzs : z.cells.size = k
  hk0 : 0 < k
  hby : bytes ≤ 1000000

section
variable {α : Type} (E : El α)
def El.encs (l : List α) : List Value := l.flatMap E.enc
theorem El.encs_len : ∀ l : List α, (E.encs l).length = l.length * E.k
  | [] => by simp [El.encs]
  | x :: r => by
    have := El.encs_len r
    show (E.enc x ++ E.encs r).length = _
    rw [List.length_append, this, List.length_cons, E.hk, Nat.add_mul]
    omega
theorem El.encs_app (l m : List α) : E.encs (l ++ m) = E.encs l ++ E.encs m := by unfold El.encs; rw [List.flatMap_append]
theorem El.encs_one (l : List α) : ∀ u ∈ E.encs l, u.oneCell' = true := by
  intro u hu
  obtain ⟨x, _, hu⟩ := List.mem_flatMap.1 hu
  exact E.one x u hu
theorem El.encs_at : ∀ (l : List α) (j : Nat) (x : α) (i : Nat), l[j]? = some x → i < E.k → (E.encs l)[j * E.k + i]? = (E.enc x)[i]?
  | [], _, _, _, h, _ => by simp at h
  | y :: r, 0, x, i, h, hi => by
    obtain rfl : y = x := by simpa using h
    show (E.enc y ++ E.encs r)[0 * E.k + i]? = _
    rw [List.getElem?_append_left (by rw [E.hk]; omega), Nat.zero_mul, Nat.zero_add]
  | y :: r, j + 1, x, i, h, hi => by
    have := El.encs_at r j x i (by simpa using h) hi
    show (E.enc y ++ E.encs r)[(j + 1) * E.k + i]? = _
    rw [List.getElem?_append_right (by rw [E.hk, Nat.add_mul]; omega), E.hk]
    have e : (j + 1) * E.k + i - E.k = j * E.k + i := by rw [Nat.add_mul]; omega
    rw [e, this]

/-- A slice of them that is there. -/
structure ERow (w : World) (a : Option Addr) (len : Nat) (l : List α) : Prop where
  n : l.length = len
  nil : a = none → len = 0
  cell : ∀ x, a = some x → ∀ j v, (E.encs l)[j]? = some v → w.cell? (x.add j) = some v
variable {E}
theorem ERow.later {w w' : World} {a : Option Addr} {len : Nat} {l : List α} (h : ERow E w a len l) (hb : Below w.heap.size w w') : ERow E w' a len l :=
  ⟨h.n, h.nil, fun x e j v hj => cellLater hb (h.cell x e j v hj)⟩
theorem ERow.none (w : World) : ERow E w none 0 [] := ⟨rfl, fun _ => rfl, fun _ e => nomatch e⟩
theorem ERow.empty {w : World} {a : Option Addr} {l : List α} (h : ERow E w a 0 l) : l = [] := List.eq_nil_of_length_eq_zero h.n
theorem ERow.spot {w : World} {a : Option Addr} {len : Nat} {l : List α} (h : ERow E w a len l) (h0 : 0 < len) : ∃ b off, a = some ⟨b, off, .none⟩ := by
  cases a with
  | none => have := h.nil rfl; omega
  | some x =>
    obtain ⟨b, off, spot⟩ := x
    have hl : 0 < l.length := by rw [h.n]; exact h0
    have he := E.encs_at l 0 l[0] 0 (List.getElem?_eq_getElem hl) E.hk0
    have hx : 0 < (E.enc l[0]).length := by rw [E.hk]; exact E.hk0
    rw [List.getElem?_eq_getElem hx, Nat.zero_mul, Nat.zero_add] at he
    have := h.cell _ rfl 0 _ he
    have hs : spot = .none := by simpa [Addr.add] using World.cell?_spot this
    subst hs
    exact ⟨b, off, rfl⟩
theorem ERow.at_ {w : World} {b off len : Nat} {l : List α} (h : ERow E w (some ⟨b, off, .none⟩) len l) (j : Nat) (x : α) (hj : l[j]? = some x) (i : Nat) (v : Value) (hv : (E.enc x)[i]? = some v) : w.cell? ⟨b, off + j * E.k + i, .none⟩ = some v := by
  have hi : i < E.k := by rw [← E.hk x]; exact (List.getElem?_eq_some_iff.1 hv).1
  have := h.cell _ rfl (j * E.k + i) v (by rw [E.encs_at l j x i hj hi]; exact hv)
  rw [addr_add] at this
  rw [Nat.add_assoc]; exact this
theorem ERow.lt {w : World} {b off len : Nat} {l : List α} (h : ERow E w (some ⟨b, off, .none⟩) len l) (h0 : 0 < len) : b < w.heap.size := by
  have hl : 0 < l.length := by rw [h.n]; exact h0
  have hx : 0 < (E.enc l[0]).length := by rw [E.hk]; exact E.hk0
  exact World.block_lt_of_cell? _ _ (h.at_ 0 l[0] (List.getElem?_eq_getElem hl) 0 _ (List.getElem?_eq_getElem hx))
theorem ERow.pre {w : World} {a : Option Addr} {n : Nat} {l : List α} (h : ERow E w a n l) (j : Nat) (hj : j ≤ n) : ERow E w a j (l.take j) := by
  have hn := h.n
  refine ⟨by rw [List.length_take, hn]; omega, fun e => by have := h.nil e; omega, fun x e i v hi => h.cell x e i v ?_⟩
  have e2 : E.encs l = E.encs (l.take j) ++ E.encs (l.drop j) := by rw [← E.encs_app, List.take_append_drop]
  rw [e2, List.getElem?_append_left (List.getElem?_eq_some_iff.1 hi).1]
  exact hi
theorem ERow.suf {w : World} {g n : Nat} {l : List α} (h : ERow E w (some ⟨g, 0, .none⟩) n l) (j : Nat) (hj : j ≤ n) : ERow E w (some ⟨g, j * E.k, .none⟩) (n - j) (l.drop j) := by
  have hn := h.n
  refine ⟨by rw [List.length_drop, hn], (fun e => nomatch e), fun x e i v hi => ?_⟩
  obtain rfl : ⟨g, j * E.k, .none⟩ = x := by simpa using e
  have e2 : E.encs l = E.encs (l.take j) ++ E.encs (l.drop j) := by rw [← E.encs_app, List.take_append_drop]
  have hl : (E.encs (l.take j)).length = j * E.k := by rw [E.encs_len, List.length_take, hn, Nat.min_eq_left hj]
  have hc := h.cell _ rfl (j * E.k + i) v (by rw [e2, List.getElem?_append_right (by omega), hl, Nat.add_sub_cancel_left]; exact hi)
  rw [addr_add] at hc ⊢
  rw [Nat.zero_add] at hc
  exact hc
theorem ERow.tail {w : World} {g n cap : Nat} {l : List α} (h : ERow E w (some ⟨g, 0, .none⟩) n l) (j : Nat) (hj : j ≤ n) (hc : n ≤ cap) : ERow E w (if cap = j then some ⟨g, 0, .none⟩ else some ⟨g, j * E.k, .none⟩) (n - j) (l.drop j) := by
  by_cases e : cap = j
  · rw [if_pos e]
    have hn := h.n
    have hd : l.drop j = [] := List.drop_eq_nil_of_le (by omega)
    rw [hd]
    exact ⟨by simp; omega, (fun e => nomatch e), fun x _ i v hi => by simp [El.encs] at hi⟩
  · rw [if_neg e]
    exact h.suf j hj

variable (E) in
/-- One of the call's own. -/
def EOwn (w : World) (B : Nat) (v : Value) (l : List α) : Prop := w.ownsRow B E.T E.k v l.length (E.encs l)
theorem EOwn.nil (w : World) (B : Nat) : EOwn E w B (.slice .none 0 0) [] := World.ownsRow_nil w B E.T E.k
theorem EOwn.form {w : World} {B : Nat} {v : Value} {l : List α} (h : EOwn E w B v l) : (v = .slice .none 0 0 ∧ l = []) ∨ ∃ g cap, v = .slice (some ⟨g, 0, .none⟩) l.length cap ∧ B ≤ g ∧ g < w.heap.size ∧ l.length ≤ cap ∧ cap ≤ maxLen ∧ ERow E w (some ⟨g, 0, .none⟩) l.length l := by
  have hr := h
  rcases h.2 with ⟨rfl, h'⟩ | ⟨g, cap, cur, rfl, hb, hg, hnc, hcm, _⟩
  · exact .inl ⟨rfl, List.eq_nil_of_length_eq_zero h'⟩
  · exact .inr ⟨g, cap, rfl, hb, (Array.getElem?_eq_some_iff.1 hg).1, hnc, hcm, rfl, (fun e => nomatch e), fun x e j v hj => (show (⟨g, 0, .none⟩ : Addr) = x by simpa using e) ▸ World.ownsRow.cells hr rfl j v hj⟩
theorem EOwn.any {w : World} {B : Nat} {v : Value} {l : List α} (h : EOwn E w B v l) : ∃ ad cap, v = .slice ad l.length cap ∧ l.length ≤ cap ∧ cap ≤ maxLen ∧ ERow E w ad l.length l := by
  rcases h.form with ⟨rfl, rfl⟩ | ⟨g, cap, rfl, _, _, hnc, hm, hr⟩
  · exact ⟨.none, 0, rfl, Nat.le_refl _, Nat.zero_le _, ERow.none w⟩
  · exact ⟨_, cap, rfl, hnc, hm, hr⟩
theorem EOwn.later {w w' : World} {B : Nat} {v : Value} {l : List α} (h : EOwn E w B v l) (hb : Below w.heap.size w w') : EOwn E w' B v l := by
  refine ⟨h.1, ?_⟩
  rcases h.2 with h' | ⟨g, cap, cur, e, h1, h2, h3⟩
  · exact .inl h'
  · exact .inr ⟨g, cap, cur, e, h1, by rw [hb.block g (Array.getElem?_eq_some_iff.1 h2).1]; exact h2, h3⟩
theorem EOwn.kept {w w' : World} {B : Nat} {v : Value} {l : List α} {row : Option Nat} (h : EOwn E w B v l) (hg : w.grownBy w' row) (hne : v.ownBlock = .none ∨ v.ownBlock ≠ row) : EOwn E w' B v l := World.ownsRow.kept h hg hne
theorem EOwn.base {w : World} {B B' : Nat} {v : Value} {l : List α} (h : EOwn E w B v l) (hB : B' ≤ B) : EOwn E w B' v l := by
  refine ⟨h.1, ?_⟩
  rcases h.2 with h' | ⟨g, cap, cur, e, h1, h2, h3⟩
  · exact .inl h'
  · exact .inr ⟨g, cap, cur, e, Nat.le_trans hB h1, h2, h3⟩
theorem EOwn.low {w : World} {B : Nat} {v : Value} {l : List α} (h : EOwn E w B v l) : ∀ k, v.ownBlock = some k → B ≤ k ∧ k < w.heap.size := World.ownsRow.lt h

theorem eapp_run {w : World} {B : Nat} {v : Value} {l : List α} (ty : TypeId) (hown : EOwn E w B v l) (ad : Option Addr) (m c : Nat) (us : List α) (hs : ERow E w ad m us) (hn : l.length + m ≤ 100000) (hb : B ≤ w.heap.size) :
    ∃ v' w', (Builtin.append_ #[E.TS, E.TS] ty #[v, .slice ad m c]).run Tryz.prog w = .ok v' w' ∧ EOwn E w' B v' (l ++ us) ∧ w.grownBy w' v.ownBlock ∧ (v'.ownBlock = v.ownBlock ∨ v'.ownBlock = some w.heap.size) := by
  have hm := hs.n
  have hby : (l.length + m) * E.bytes ≤ 140737488355328 := Nat.le_trans (Nat.mul_le_mul hn E.hby) (by decide)
  obtain ⟨i, hi, hz, hs', hb'⟩ := E.hi
  cases ad with
  | some x =>
    obtain ⟨v', w', h1, h2, h3, _, h5⟩ := run_append_own_at (P := Tryz.prog) w B E.TS ty E.T i E.z E.k E.bytes E.ht hi hz hs' hb' E.hzs E.hk0 v l.length (E.encs l) hown x m c (E.encs us) (by rw [E.encs_len, hs.n]) (hs.cell x rfl) (E.encs_one us) (by unfold maxLen; omega) hby hb
    refine ⟨v', w', h1, ?_, h3, h5⟩
    unfold EOwn
    rw [E.encs_app, List.length_append, hm]; exact h2
  | none =>
    obtain rfl := hs.nil rfl
    have hu : us = [] := List.eq_nil_of_length_eq_zero hs.n
    subst hu
    refine ⟨v, w, ?_, by rw [List.append_nil]; exact hown, ⟨rfl, rfl, rfl, Nat.le_refl _, fun _ _ _ => rfl⟩, .inl rfl⟩
    rcases hown.2 with ⟨rfl, hz⟩ | ⟨g, cap, cur, rfl, _, hg, hnc, _, _, _⟩
    · simp [Builtin.append_, run_underlying E.ht, sizeOf, typeInfo, hi, Builtin.lenOf, Builtin.firstCells]
    · simp [Builtin.append_, run_underlying E.ht, sizeOf, typeInfo, hi, Builtin.lenOf, Builtin.firstCells, loadCells, hnc, storeCells]

/-- At the operation. -/
theorem wp_eapp {w : World} {o : Oper} {a : Act} {K : Act → World → Prop} {Q : Exit → Act → World → Prop} (E : El α) (s x : Operand) (ho : o.op = .call { callee := .builtin .append, args := #[s, x], argTypes := #[E.TS, E.TS] })
    (B : Nat) (v : Value) (l : List α) (ad : Option Addr) (m c : Nat) (us : List α) (hv : a.eval s = v) (hx : a.eval x = .slice ad m c) (hown : EOwn E w B v l) (hs : ERow E w ad m us) (hn : l.length + m ≤ 100000) (hb : B ≤ w.heap.size)
    (h : ∀ v' w', EOwn E w' B v' (l ++ us) → w.grownBy w' v.ownBlock → (v'.ownBlock = v.ownBlock ∨ v'.ownBlock = some w.heap.size) → K (a.put o.dst v') w') : o.wp Tryz.prog a w K Q := by
  obtain ⟨v', w', hr, h2, h3, h4⟩ := eapp_run o.type hown ad m c us hs hn hb
  unfold Oper.wp execOp
  simp only [ho, resolve, invoke, builtin, Sem.run_bind, Sem.run_pure, Result.andThen_ok, List.map_toArray, List.map_cons, List.map_nil, hv, hx, hr]
  exact h v' w' h2 h3 h4
theorem step_eapp {w : World} {ops : Array Oper} {o : Oper} {a : Act} {K : Act → World → Prop} {Q : Exit → Act → World → Prop} {F : Prop} (E : El α) (hw : Region.wanted o (yielded ops a.tmps) = true) (s x : Operand) (ho : o.op = .call { callee := .builtin .append, args := #[s, x], argTypes := #[E.TS, E.TS] })
    (B : Nat) (v : Value) (l : List α) (ad : Option Addr) (m c : Nat) (us : List α) (hv : a.eval s = v) (hx : a.eval x = .slice ad m c) (hown : EOwn E w B v l) (hs : ERow E w ad m us) (hn : l.length + m ≤ 100000) (hb : B ≤ w.heap.size)
    (h : ∀ v' w', EOwn E w' B v' (l ++ us) → w.grownBy w' v.ownBlock → (v'.ownBlock = v.ownBlock ∨ v'.ownBlock = some w.heap.size) → K (a.put o.dst v') w') :
    if Region.wanted o (yielded ops a.tmps) = true then Oper.wp Tryz.prog o a w K Q else F := by
  rw [if_pos hw]
  exact wp_eapp E s x ho B v l ad m c us hv hx hown hs hn hb h
theorem wpList_eapp {w : World} {ops : Array Oper} {rest : List Oper} {o : Oper} {a : Act} {Q : Exit → Act → World → Prop} (E : El α) (hw : Region.wanted o (yielded ops a.tmps) = true) (s x : Operand) (ho : o.op = .call { callee := .builtin .append, args := #[s, x], argTypes := #[E.TS, E.TS] })
    (B : Nat) (v : Value) (l : List α) (ad : Option Addr) (m c : Nat) (us : List α) (hv : a.eval s = v) (hx : a.eval x = .slice ad m c) (hown : EOwn E w B v l) (hs : ERow E w ad m us) (hn : l.length + m ≤ 100000) (hb : B ≤ w.heap.size)
    (h : ∀ v' w', EOwn E w' B v' (l ++ us) → w.grownBy w' v.ownBlock → (v'.ownBlock = v.ownBlock ∨ v'.ownBlock = some w.heap.size) → wpList Tryz.prog ops Q rest (a.put o.dst v') w') : wpList Tryz.prog ops Q (o :: rest) a w :=
  wpList_step fun K hK => step_eapp E hw s x ho B v l ad m c us hv hx hown hs hn hb fun v' w' h1 h2 h3 => hK _ _ (h v' w' h1 h2 h3)
theorem ERow.new (E : El α) (w : World) (x : α) (T : TypeId) : ERow E (w.alloc (.cells (E.enc x).toArray T)) (some ⟨w.heap.size, 0, .none⟩) 1 [x] := by
  refine ⟨rfl, (fun e => nomatch e), fun y e j v hj => ?_⟩
  obtain rfl : ⟨w.heap.size, 0, .none⟩ = y := by simpa using e
  have e2 : E.encs [x] = E.enc x := by simp [El.encs]
  rw [e2] at hj
  rw [addr_add, Nat.zero_add, (Box.new w (E.enc x).toArray T).c]
  simpa using hj
theorem EOwn.fresh {w : World} {B g : Nat} (hg : w.heap[g]? = some (.cells #[] E.T (0, 0))) (hb : B ≤ g) : EOwn E w B (.slice (some ⟨g, 0, .none⟩) 0 0) [] :=
  ⟨by simp [El.encs], .inr ⟨g, 0, #[], rfl, hb, hg, Nat.le_refl _, Nat.zero_le _, by simp, by simp [El.encs]⟩⟩
end

/-- One behind the other: a row of the call's own was written, and what was laid since. -/
theorem grownBy_trans {w w1 w2 : World} {r r1 : Option Nat} (h : w.grownBy w1 r) (k : w1.grownBy w2 r1) (hr : r1 = r ∨ ∀ n, r1 = some n → w.heap.size ≤ n) : w.grownBy w2 r :=
  ⟨k.os.trans h.os, k.tape.trans h.tape, k.output.trans h.output, Nat.le_trans h.size k.size, fun n hn hne => by
    refine (k.block n (Nat.lt_of_lt_of_le hn h.size) ?_).trans (h.block n hn hne)
    rcases hr with rfl | hr
    · exact hne
    · intro e; have := hr n e.symm; omega⟩
theorem grownBy_below {w w1 : World} (r : Option Nat) (h : Below w.heap.size w w1) : w.grownBy w1 r := ⟨h.os, h.tape, h.output, h.size, fun n hn _ => h.block n hn⟩

/-- A span's cells. -/
def lo (s : Sp.S) : V × Bool := s.1.getD (V.zero, false)
def hi (s : Sp.S) : V × Bool := s.2.getD (V.zero, false)
def encS (s : Sp.S) : List Value := [.int .i64 (lo s).1.a, .int .i64 (lo s).1.b, .int .i64 (lo s).1.c, .string (lo s).1.p, .int .i64 (hi s).1.a, .int .i64 (hi s).1.b, .int .i64 (hi s).1.c, .string (hi s).1.p, .bool (lo s).2, .bool (hi s).2, .bool s.2.isNone]
def valS (s : Sp.S) : Value := .agg (encS s).toArray
theorem valS_is (s : Sp.S) : valS s = spv (lo s).1.a (lo s).1.b (lo s).1.c (lo s).1.p (hi s).1.a (hi s).1.b (hi s).1.c (hi s).1.p (lo s).2 (hi s).2 s.2.isNone := rfl
def ES : El Sp.S where
  enc := encS
  k := 11
  T := 44
  TS := 28
  z := spv 0 0 0 ⟨#[]⟩ 0 0 0 ⟨#[]⟩ false false false
  bytes := 88
  hk := fun _ => rfl
  one := by
    intro x u hu
    unfold encS at hu
    simp only [List.mem_cons, List.not_mem_nil, or_false] at hu
    rcases hu with rfl | rfl | rfl | rfl | rfl | rfl | rfl | rfl | rfl | rfl | rfl <;> rfl
  ht := Tryz.underlying28
  hi := ⟨Tryz.t44, by kernel_rfl, by kernel_rfl, by kernel_rfl, by kernel_rfl⟩
  hzs := by kernel_rfl
  hk0 := by decide
  hby := by decide
end Go.Proofs.YthihnpjbdjmbhaaGreatDoor

/-
  Blocks of variables; rows of whatever elements, one of the call's own, with append onto it as one law.
-/
import Derived.Test.YtnmmhihfnphjeaaGreatDoorG11
import Derived.Deep.DeepCutAuto
import Derived.Deep.RegionLaw
import Derived.Maps.AppendAt
import Derived.Deep.RegionHeld3
import Derived.BigQuiet

namespace Go.Proofs.YtnmmhihfnphjeaaGreatDoor.B
set_option linter.unusedSimpArgs false
set_option linter.unusedVariables false
open Go.RowKit Go.Vr Go.Sort Go.Tx Go.Lib
attribute [local go_sem] setCellDrewN allocDrewN

theorem ret_int {k : IntKind} {a b : Int} (h : a = b) : Ending.returned (.int k a) = .returned (.int k b) := by rw [h]
theorem ret_bool {a b : Bool} (h : a = b) : Ending.returned (.bool a) = .returned (.bool b) := by rw [h]
theorem ret_str {a b : ByteArray} (h : a = b) : Ending.returned (.string a) = .returned (.string b) := by rw [h]
theorem bcell {W w1 : World} (hb : Below W.heap.size W w1) : (∀ b o, b < W.heap.size → w1.cell? ⟨b, o, none⟩ = W.cell? ⟨b, o, none⟩) ∧ (∀ b o, b < W.heap.size → w1.frozen? ⟨b, o, none⟩ = W.frozen? ⟨b, o, none⟩) :=
  ⟨fun b o h => hb.cell (p := ⟨b, o, none⟩) h, fun b o h => hb.frozen (p := ⟨b, o, none⟩) h⟩
theorem bal {a w : World} (h : Below a.heap.size a w) (o : Obj) : Below a.heap.size a (w.alloc o) := h.alloc h.size o
/-- A variable's block behind a call that turns nothing of what was there. -/
theorem keep {w w1 : World} {vs : Array Value} {T : TypeId} (N : Nat) (hN : w.heap.size = N) (hb : Below (w.alloc (.cells vs T)).heap.size (w.alloc (.cells vs T)) w1) :
    (∀ i, w1.cell? ⟨N, i, none⟩ = vs[i]?) ∧ (∀ i, w1.frozen? ⟨N, i, none⟩ = false) ∧ N < w1.heap.size ∧ Below w.heap.size w w1 := by
  subst hN
  obtain ⟨h1, h2⟩ := bcell hb
  refine ⟨fun i => ?_, fun i => ?_, ?_, ?_⟩
  · rw [h1 _ _ (by simp)]; simp [go_sem]
  · rw [h2 _ _ (by simp)]; simp [go_sem]
  · have := hb.size; simp at this; omega
  · exact ((Below.refl _ _).alloc (Nat.le_refl _) _).trans (hb.mono (by simp))

/-- A variable's block. -/
structure Box (w : World) (N : Nat) (vs : Array Value) : Prop where
  lt : N < w.heap.size
  c : ∀ i, w.cell? ⟨N, i, none⟩ = vs[i]?
  f : ∀ i, w.frozen? ⟨N, i, none⟩ = false
theorem Box.new (w : World) (vs : Array Value) (T : TypeId) : Box (w.alloc (.cells vs T)) w.heap.size vs :=
  ⟨by simp, fun i => by simp [go_sem], fun i => by simp [go_sem]⟩
theorem Box.later {w w' : World} {N : Nat} {vs : Array Value} (h : Box w N vs) (hb : Below w.heap.size w w') : Box w' N vs := by
  obtain ⟨h1, h2⟩ := bcell hb
  exact ⟨Nat.lt_of_lt_of_le h.lt hb.size, fun i => by rw [h1 _ _ h.lt]; exact h.c i, fun i => by rw [h2 _ _ h.lt]; exact h.f i⟩
theorem Box.alloc {w : World} {N : Nat} {vs : Array Value} (h : Box w N vs) (o : Obj) : Box (w.alloc o) N vs := h.later (by repeat (first | with_reducible assumption | with_reducible exact Below.refl _ _ | with_reducible refine Below.setCell ?_ (by first | exact Nat.le_refl _ | (simp; done) | (simp; omega)) _ | with_reducible refine bal ?_ _ | with_reducible refine Below.alloc ?_ (by first | exact Nat.le_refl _ | (simp; done) | (simp; omega)) _ | with_reducible refine Below.drew ?_))

/-- What kind of elements. -/
structure El (α : Type) where
  enc : α → List Value
  k : Nat
  T : TypeId
  TS : TypeId
  z : Value
  bytes : Nat
  hk : ∀ x, (enc x).length = k
  one : ∀ x, ∀ u ∈ enc x, u.oneCell' = true
  ht : Tryz.prog.underlying TS = some (.slice T)
  hi : ∃ i : TypeInfo, Tryz.prog.info? T = some i ∧ i.zero = some z ∧ i.size = k ∧ i.bytes = bytes
  hzs : z.cells.size = k
  hk0 : 0 < k
  hby : bytes ≤ 1000000

section
variable {α : Type} (E : El α)
def El.encs (l : List α) : List Value := l.flatMap E.enc
theorem El.encs_len : ∀ l : List α, (E.encs l).length = l.length * E.k
  | [] => by simp [El.encs]
  | x :: r => by
    have := El.encs_len r
    show (E.enc x ++ E.encs r).length = _
    rw [List.length_append, this, List.length_cons, E.hk, Nat.add_mul]
    omega
theorem El.encs_app (l m : List α) : E.encs (l ++ m) = E.encs l ++ E.encs m := by unfold El.encs; rw [List.flatMap_append]
theorem El.encs_one (l : List α) : ∀ u ∈ E.encs l, u.oneCell' = true := by
  intro u hu
  obtain ⟨x, _, hu⟩ := List.mem_flatMap.1 hu
  exact E.one x u hu
theorem El.encs_at : ∀ (l : List α) (j : Nat) (x : α) (i : Nat), l[j]? = some x → i < E.k → (E.encs l)[j * E.k + i]? = (E.enc x)[i]?
  | [], _, _, _, h, _ => by simp at h
  | y :: r, 0, x, i, h, hi => by
    obtain rfl : y = x := by simpa using h
    show (E.enc y ++ E.encs r)[0 * E.k + i]? = _
    rw [List.getElem?_append_left (by rw [E.hk]; omega), Nat.zero_mul, Nat.zero_add]
  | y :: r, j + 1, x, i, h, hi => by
    have := El.encs_at r j x i (by simpa using h) hi
    show (E.enc y ++ E.encs r)[(j + 1) * E.k + i]? = _
    rw [List.getElem?_append_right (by rw [E.hk, Nat.add_mul]; omega), E.hk]
    have e : (j + 1) * E.k + i - E.k = j * E.k + i := by rw [Nat.add_mul]; omega
    rw [e, this]

/-- A slice of them that is there. -/
structure ERow (w : World) (a : Option Addr) (len : Nat) (l : List α) : Prop where
  n : l.length = len
  nil : a = none → len = 0
  cell : ∀ x, a = some x → ∀ j v, (E.encs l)[j]? = some v → w.cell? (x.add j) = some v
variable {E}
theorem ERow.later {w w' : World} {a : Option Addr} {len : Nat} {l : List α} (h : ERow E w a len l) (hb : Below w.heap.size w w') : ERow E w' a len l :=
  ⟨h.n, h.nil, fun x e j v hj => cellLater hb (h.cell x e j v hj)⟩
theorem ERow.none (w : World) : ERow E w none 0 [] := ⟨rfl, fun _ => rfl, fun _ e => nomatch e⟩
theorem ERow.empty {w : World} {a : Option Addr} {l : List α} (h : ERow E w a 0 l) : l = [] := List.eq_nil_of_length_eq_zero h.n
theorem ERow.spot {w : World} {a : Option Addr} {len : Nat} {l : List α} (h : ERow E w a len l) (h0 : 0 < len) : ∃ b off, a = some ⟨b, off, .none⟩ := by
  cases a with
  | none => have := h.nil rfl; omega
  | some x =>
    obtain ⟨b, off, spot⟩ := x
    have hl : 0 < l.length := by rw [h.n]; exact h0
    have he := E.encs_at l 0 l[0] 0 (List.getElem?_eq_getElem hl) E.hk0
    have hx : 0 < (E.enc l[0]).length := by rw [E.hk]; exact E.hk0
    rw [List.getElem?_eq_getElem hx, Nat.zero_mul, Nat.zero_add] at he
    have := h.cell _ rfl 0 _ he
    have hs : spot = .none := by simpa [Addr.add] using World.cell?_spot this
    subst hs
    exact ⟨b, off, rfl⟩
theorem ERow.at_ {w : World} {b off len : Nat} {l : List α} (h : ERow E w (some ⟨b, off, .none⟩) len l) (j : Nat) (x : α) (hj : l[j]? = some x) (i : Nat) (v : Value) (hv : (E.enc x)[i]? = some v) : w.cell? ⟨b, off + j * E.k + i, .none⟩ = some v := by
  have hi : i < E.k := by rw [← E.hk x]; exact (List.getElem?_eq_some_iff.1 hv).1
  have := h.cell _ rfl (j * E.k + i) v (by rw [E.encs_at l j x i hj hi]; exact hv)
  rw [addr_add] at this
  rw [Nat.add_assoc]; exact this
theorem ERow.lt {w : World} {b off len : Nat} {l : List α} (h : ERow E w (some ⟨b, off, .none⟩) len l) (h0 : 0 < len) : b < w.heap.size := by
  have hl : 0 < l.length := by rw [h.n]; exact h0
  have hx : 0 < (E.enc l[0]).length := by rw [E.hk]; exact E.hk0
  exact World.block_lt_of_cell? _ _ (h.at_ 0 l[0] (List.getElem?_eq_getElem hl) 0 _ (List.getElem?_eq_getElem hx))
theorem ERow.pre {w : World} {a : Option Addr} {n : Nat} {l : List α} (h : ERow E w a n l) (j : Nat) (hj : j ≤ n) : ERow E w a j (l.take j) := by
  have hn := h.n
  refine ⟨by rw [List.length_take, hn]; omega, fun e => by have := h.nil e; omega, fun x e i v hi => h.cell x e i v ?_⟩
  have e2 : E.encs l = E.encs (l.take j) ++ E.encs (l.drop j) := by rw [← E.encs_app, List.take_append_drop]
  rw [e2, List.getElem?_append_left (List.getElem?_eq_some_iff.1 hi).1]
  exact hi
theorem ERow.suf {w : World} {g n : Nat} {l : List α} (h : ERow E w (some ⟨g, 0, .none⟩) n l) (j : Nat) (hj : j ≤ n) : ERow E w (some ⟨g, j * E.k, .none⟩) (n - j) (l.drop j) := by
  have hn := h.n
  refine ⟨by rw [List.length_drop, hn], (fun e => nomatch e), fun x e i v hi => ?_⟩
  obtain rfl : ⟨g, j * E.k, .none⟩ = x := by simpa using e
  have e2 : E.encs l = E.encs (l.take j) ++ E.encs (l.drop j) := by rw [← E.encs_app, List.take_append_drop]
  have hl : (E.encs (l.take j)).length = j * E.k := by rw [E.encs_len, List.length_take, hn, Nat.min_eq_left hj]
  have hc := h.cell _ rfl (j * E.k + i) v (by rw [e2, List.getElem?_append_right (by omega), hl, Nat.add_sub_cancel_left]; exact hi)
  rw [addr_add] at hc ⊢
  rw [Nat.zero_add] at hc
  exact hc
theorem ERow.tail {w : World} {g n cap : Nat} {l : List α} (h : ERow E w (some ⟨g, 0, .none⟩) n l) (j : Nat) (hj : j ≤ n) (hc : n ≤ cap) : ERow E w (if cap = j then some ⟨g, 0, .none⟩ else some ⟨g, j * E.k, .none⟩) (n - j) (l.drop j) := by
  by_cases e : cap = j
  · rw [if_pos e]
    have hn := h.n
    have hd : l.drop j = [] := List.drop_eq_nil_of_le (by omega)
    rw [hd]
    exact ⟨by simp; omega, (fun e => nomatch e), fun x _ i v hi => by simp [El.encs] at hi⟩
  · rw [if_neg e]
    exact h.suf j hj

variable (E) in
/-- One of the call's own. -/
def EOwn (w : World) (B : Nat) (v : Value) (l : List α) : Prop := w.ownsRow B E.T E.k v l.length (E.encs l)
theorem EOwn.nil (w : World) (B : Nat) : EOwn E w B (.slice .none 0 0) [] := World.ownsRow_nil w B E.T E.k
theorem EOwn.form {w : World} {B : Nat} {v : Value} {l : List α} (h : EOwn E w B v l) : (v = .slice .none 0 0 ∧ l = []) ∨ ∃ g cap, v = .slice (some ⟨g, 0, .none⟩) l.length cap ∧ B ≤ g ∧ g < w.heap.size ∧ l.length ≤ cap ∧ cap ≤ maxLen ∧ ERow E w (some ⟨g, 0, .none⟩) l.length l := by
  have hr := h
  rcases h.2 with ⟨rfl, h'⟩ | ⟨g, cap, cur, rfl, hb, hg, hnc, hcm, _⟩
  · exact .inl ⟨rfl, List.eq_nil_of_length_eq_zero h'⟩
  · exact .inr ⟨g, cap, rfl, hb, (Array.getElem?_eq_some_iff.1 hg).1, hnc, hcm, rfl, (fun e => nomatch e), fun x e j v hj => (show (⟨g, 0, .none⟩ : Addr) = x by simpa using e) ▸ World.ownsRow.cells hr rfl j v hj⟩
theorem EOwn.any {w : World} {B : Nat} {v : Value} {l : List α} (h : EOwn E w B v l) : ∃ ad cap, v = .slice ad l.length cap ∧ l.length ≤ cap ∧ cap ≤ maxLen ∧ ERow E w ad l.length l := by
  rcases h.form with ⟨rfl, rfl⟩ | ⟨g, cap, rfl, _, _, hnc, hm, hr⟩
  · exact ⟨.none, 0, rfl, Nat.le_refl _, Nat.zero_le _, ERow.none w⟩
  · exact ⟨_, cap, rfl, hnc, hm, hr⟩
theorem EOwn.later {w w' : World} {B : Nat} {v : Value} {l : List α} (h : EOwn E w B v l) (hb : Below w.heap.size w w') : EOwn E w' B v l := by
  refine ⟨h.1, ?_⟩
  rcases h.2 with h' | ⟨g, cap, cur, e, h1, h2, h3⟩
  · exact .inl h'
  · exact .inr ⟨g, cap, cur, e, h1, by rw [hb.block g (Array.getElem?_eq_some_iff.1 h2).1]; exact h2, h3⟩
theorem EOwn.kept {w w' : World} {B : Nat} {v : Value} {l : List α} {row : Option Nat} (h : EOwn E w B v l) (hg : w.grownBy w' row) (hne : v.ownBlock = .none ∨ v.ownBlock ≠ row) : EOwn E w' B v l := World.ownsRow.kept h hg hne
theorem EOwn.base {w : World} {B B' : Nat} {v : Value} {l : List α} (h : EOwn E w B v l) (hB : B' ≤ B) : EOwn E w B' v l := by
  refine ⟨h.1, ?_⟩
  rcases h.2 with h' | ⟨g, cap, cur, e, h1, h2, h3⟩
  · exact .inl h'
  · exact .inr ⟨g, cap, cur, e, Nat.le_trans hB h1, h2, h3⟩
theorem EOwn.low {w : World} {B : Nat} {v : Value} {l : List α} (h : EOwn E w B v l) : ∀ k, v.ownBlock = some k → B ≤ k ∧ k < w.heap.size := World.ownsRow.lt h

theorem eapp_run {w : World} {B : Nat} {v : Value} {l : List α} (ty : TypeId) (hown : EOwn E w B v l) (ad : Option Addr) (m c : Nat) (us : List α) (hs : ERow E w ad m us) (hn : l.length + m ≤ 100000) (hb : B ≤ w.heap.size) :
    ∃ v' w', (Builtin.append_ #[E.TS, E.TS] ty #[v, .slice ad m c]).run Tryz.prog w = .ok v' w' ∧ EOwn E w' B v' (l ++ us) ∧ w.grownBy w' v.ownBlock ∧ (v'.ownBlock = v.ownBlock ∨ v'.ownBlock = some w.heap.size) := by
  have hm := hs.n
  have hby : (l.length + m) * E.bytes ≤ 140737488355328 := Nat.le_trans (Nat.mul_le_mul hn E.hby) (by decide)
  obtain ⟨i, hi, hz, hs', hb'⟩ := E.hi
  cases ad with
  | some x =>
    obtain ⟨v', w', h1, h2, h3, _, h5⟩ := run_append_own_at (P := Tryz.prog) w B E.TS ty E.T i E.z E.k E.bytes E.ht hi hz hs' hb' E.hzs E.hk0 v l.length (E.encs l) hown x m c (E.encs us) (by rw [E.encs_len, hs.n]) (hs.cell x rfl) (E.encs_one us) (by unfold maxLen; omega) hby hb
    refine ⟨v', w', h1, ?_, h3, h5⟩
    unfold EOwn
    rw [E.encs_app, List.length_append, hm]; exact h2
  | none =>
    obtain rfl := hs.nil rfl
    have hu : us = [] := List.eq_nil_of_length_eq_zero hs.n
    subst hu
    refine ⟨v, w, ?_, by rw [List.append_nil]; exact hown, ⟨rfl, rfl, rfl, Nat.le_refl _, fun _ _ _ => rfl⟩, .inl rfl⟩
    rcases hown.2 with ⟨rfl, hz⟩ | ⟨g, cap, cur, rfl, _, hg, hnc, _, _, _⟩
    · simp [Builtin.append_, run_underlying E.ht, sizeOf, typeInfo, hi, Builtin.lenOf, Builtin.firstCells]
    · simp [Builtin.append_, run_underlying E.ht, sizeOf, typeInfo, hi, Builtin.lenOf, Builtin.firstCells, loadCells, hnc, storeCells]

/-- At the operation. -/
theorem wp_eapp {w : World} {o : Oper} {a : Act} {K : Act → World → Prop} {Q : Exit → Act → World → Prop} (E : El α) (s x : Operand) (ho : o.op = .call { callee := .builtin .append, args := #[s, x], argTypes := #[E.TS, E.TS] })
    (B : Nat) (v : Value) (l : List α) (ad : Option Addr) (m c : Nat) (us : List α) (hv : a.eval s = v) (hx : a.eval x = .slice ad m c) (hown : EOwn E w B v l) (hs : ERow E w ad m us) (hn : l.length + m ≤ 100000) (hb : B ≤ w.heap.size)
    (h : ∀ v' w', EOwn E w' B v' (l ++ us) → w.grownBy w' v.ownBlock → (v'.ownBlock = v.ownBlock ∨ v'.ownBlock = some w.heap.size) → K (a.put o.dst v') w') : o.wp Tryz.prog a w K Q := by
  obtain ⟨v', w', hr, h2, h3, h4⟩ := eapp_run o.type hown ad m c us hs hn hb
  unfold Oper.wp execOp
  simp only [ho, resolve, invoke, builtin, Sem.run_bind, Sem.run_pure, Result.andThen_ok, List.map_toArray, List.map_cons, List.map_nil, hv, hx, hr]
  exact h v' w' h2 h3 h4
theorem step_eapp {w : World} {ops : Array Oper} {o : Oper} {a : Act} {K : Act → World → Prop} {Q : Exit → Act → World → Prop} {F : Prop} (E : El α) (hw : Region.wanted o (yielded ops a.tmps) = true) (s x : Operand) (ho : o.op = .call { callee := .builtin .append, args := #[s, x], argTypes := #[E.TS, E.TS] })
    (B : Nat) (v : Value) (l : List α) (ad : Option Addr) (m c : Nat) (us : List α) (hv : a.eval s = v) (hx : a.eval x = .slice ad m c) (hown : EOwn E w B v l) (hs : ERow E w ad m us) (hn : l.length + m ≤ 100000) (hb : B ≤ w.heap.size)
    (h : ∀ v' w', EOwn E w' B v' (l ++ us) → w.grownBy w' v.ownBlock → (v'.ownBlock = v.ownBlock ∨ v'.ownBlock = some w.heap.size) → K (a.put o.dst v') w') :
    if Region.wanted o (yielded ops a.tmps) = true then Oper.wp Tryz.prog o a w K Q else F := by
  rw [if_pos hw]
  exact wp_eapp E s x ho B v l ad m c us hv hx hown hs hn hb h
theorem wpList_eapp {w : World} {ops : Array Oper} {rest : List Oper} {o : Oper} {a : Act} {Q : Exit → Act → World → Prop} (E : El α) (hw : Region.wanted o (yielded ops a.tmps) = true) (s x : Operand) (ho : o.op = .call { callee := .builtin .append, args := #[s, x], argTypes := #[E.TS, E.TS] })
    (B : Nat) (v : Value) (l : List α) (ad : Option Addr) (m c : Nat) (us : List α) (hv : a.eval s = v) (hx : a.eval x = .slice ad m c) (hown : EOwn E w B v l) (hs : ERow E w ad m us) (hn : l.length + m ≤ 100000) (hb : B ≤ w.heap.size)
    (h : ∀ v' w', EOwn E w' B v' (l ++ us) → w.grownBy w' v.ownBlock → (v'.ownBlock = v.ownBlock ∨ v'.ownBlock = some w.heap.size) → wpList Tryz.prog ops Q rest (a.put o.dst v') w') : wpList Tryz.prog ops Q (o :: rest) a w :=
  wpList_step fun K hK => step_eapp E hw s x ho B v l ad m c us hv hx hown hs hn hb fun v' w' h1 h2 h3 => hK _ _ (h v' w' h1 h2 h3)
theorem ERow.new (E : El α) (w : World) (x : α) (T : TypeId) : ERow E (w.alloc (.cells (E.enc x).toArray T)) (some ⟨w.heap.size, 0, .none⟩) 1 [x] := by
  refine ⟨rfl, (fun e => nomatch e), fun y e j v hj => ?_⟩
  obtain rfl : ⟨w.heap.size, 0, .none⟩ = y := by simpa using e
  have e2 : E.encs [x] = E.enc x := by simp [El.encs]
  rw [e2] at hj
  rw [addr_add, Nat.zero_add, (Box.new w (E.enc x).toArray T).c]
  simpa using hj
theorem EOwn.fresh {w : World} {B g : Nat} (hg : w.heap[g]? = some (.cells #[] E.T (0, 0))) (hb : B ≤ g) : EOwn E w B (.slice (some ⟨g, 0, .none⟩) 0 0) [] :=
  ⟨by simp [El.encs], .inr ⟨g, 0, #[], rfl, hb, hg, Nat.le_refl _, Nat.zero_le _, by simp, by simp [El.encs]⟩⟩
end

/-- One behind the other: a row of the call's own was written, and what was laid since. -/
theorem grownBy_trans {w w1 w2 : World} {r r1 : Option Nat} (h : w.grownBy w1 r) (k : w1.grownBy w2 r1) (hr : r1 = r ∨ ∀ n, r1 = some n → w.heap.size ≤ n) : w.grownBy w2 r :=
  ⟨k.os.trans h.os, k.tape.trans h.tape, k.output.trans h.output, Nat.le_trans h.size k.size, fun n hn hne => by
    refine (k.block n (Nat.lt_of_lt_of_le hn h.size) ?_).trans (h.block n hn hne)
    rcases hr with rfl | hr
    · exact hne
    · intro e; have := hr n e.symm; omega⟩
theorem grownBy_below {w w1 : World} (r : Option Nat) (h : Below w.heap.size w w1) : w.grownBy w1 r := ⟨h.os, h.tape, h.output, h.size, fun n hn _ => h.block n hn⟩

theorem grownBy_setCell (w : World) (N o : Nat) (v : Value) : w.grownBy (w.setCell ⟨N, o, none⟩ v) (some N) :=
  ⟨rfl, rfl, rfl, by simp [World.setCell], fun k hk hne => Below.heap_setCell _ _ _ _ (fun e => hne (by rw [e]))⟩
theorem Box.set {w : World} {N : Nat} {vs : Array Value} (h : Box w N vs) (o : Nat) (v : Value) (ho : o < vs.size) : Box (w.setCell ⟨N, o, none⟩ v) N (vs.setIfInBounds o v) := by
  refine ⟨by simp [World.setCell]; exact h.lt, fun i => ?_, fun i => by rw [World.frozen?_setCell]; exact h.f i⟩
  by_cases e : i = o
  · subst e
    rw [World.cell?_setCell_same' _ _ _ (by rw [h.c, Array.getElem?_eq_getElem ho]; rfl)]
    rw [Array.getElem?_setIfInBounds]
    simp [ho]
  · have hne : (⟨N, o, none⟩ : Addr) ≠ ⟨N, i, none⟩ := by intro k; injection k with _ k; exact e k.symm
    rw [World.cell?_setCell_other (h := hne), h.c, Array.getElem?_setIfInBounds]
    rw [if_neg (fun k => e k.symm)]
theorem Box.kept {w w' : World} {N : Nat} {vs : Array Value} {r : Option Nat} (h : Box w N vs) (hg : w.grownBy w' r) (hne : r ≠ some N) : Box w' N vs := by
  have hb := hg.block N h.lt (fun e => hne e.symm)
  exact ⟨Nat.lt_of_lt_of_le h.lt hg.size, fun i => by rw [World.cell?_of_block (a := ⟨N, i, none⟩) hb]; exact h.c i, fun i => by rw [World.frozen?_of_block (a := ⟨N, i, none⟩) hb]; exact h.f i⟩
theorem below_grown {B : Nat} {a w w' : World} {r : Option Nat} (h : Below B a w) (hg : w.grownBy w' r) (hB : B ≤ w.heap.size) (hr : ∀ k, r = some k → B ≤ k) : Below B a w' := h.grown hg hB hr
theorem own_bel {α : Type} {E : El α} {B : Nat} {a w w' : World} {v : Value} {l : List α} (h : Below B a w) (ho : EOwn E w B v l) (hg : w.grownBy w' v.ownBlock) (hB : B ≤ w.heap.size) : Below B a w' := h.grown hg hB (fun k e => (ho.low k e).1)
theorem Box.of_block {w w' : World} {N : Nat} {vs : Array Value} (h : Box w N vs) (e : w'.heap[N]? = w.heap[N]?) : Box w' N vs := by
  have hl : N < w'.heap.size := by
    rcases Nat.lt_or_ge N w'.heap.size with h1 | h1
    · exact h1
    · rw [Array.getElem?_eq_none h1] at e
      have := h.lt
      rw [Array.getElem?_eq_getElem this] at e
      cases e
  exact ⟨hl, fun i => by rw [World.cell?_of_block (a := ⟨N, i, none⟩) e]; exact h.c i, fun i => by rw [World.frozen?_of_block (a := ⟨N, i, none⟩) e]; exact h.f i⟩
theorem Box.drewN {w : World} {N : Nat} {vs : Array Value} (h : Box w N vs) (n : Nat) : Box (w.drewN n) N vs := h.of_block (w' := w.drewN n) rfl

end Go.Proofs.YtnmmhihfnphjeaaGreatDoor.B

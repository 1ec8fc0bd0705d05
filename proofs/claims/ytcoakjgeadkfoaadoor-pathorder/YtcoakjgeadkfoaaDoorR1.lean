/-
  Slices of texts: those that are there, those that the call owns; append.
-/
import Derived.Test.YtcoakjgeadkfoaaDoorProg
import Derived.Test.YtcoakjgeadkfoaaDoorM1
import Derived.Sort.EncStr
import Derived.Maps.AppendAt
import Derived.WalkKit
import Derived.WalkSpells
import Derived.WalkLawsBesides
import Derived.Laws.AppendOwnNone
set_option linter.unusedSimpArgs false
namespace Go.Proofs.YtcoakjgeadkfoaaDoor
set_option linter.unusedVariables false
open Go.RowKit Go.Tx Go.Sort

theorem addr_add (b off i : Nat) : (⟨b, off, none⟩ : Addr).add i = ⟨b, off + i, none⟩ := by unfold Addr.add; split <;> simp_all
theorem cellLater {w wx : World} {a : Addr} {v : Value} (hb : Below w.heap.size w wx) (h : w.cell? a = some v) : wx.cell? a = some v := (hb.cell (World.block_lt_of_cell? _ _ h)).trans h
theorem step {w W v : World} (h : Below w.heap.size w W) (k : Below W.heap.size W v) : Below w.heap.size w v := h.trans (k.mono h.size)
theorem setCellDrewN (w : World) (n : Nat) (a : Addr) (v : Value) : (w.drewN n).setCell a v = (w.setCell a v).drewN n := rfl
theorem allocDrewN (w : World) (n : Nat) (o : Obj) : (w.drewN n).alloc o = (w.alloc o).drewN n := rfl
theorem belDrewN (w : World) : ∀ n, Below w.heap.size w (w.drewN n)
  | 0 => Below.refl _ _
  | n + 1 => (belDrewN w n).drew

/-- A slice of texts that is there. -/
structure SRow (w : World) (a : Option Addr) (len cap : Nat) (ss : List (List UInt8)) : Prop where
  n : ss.length = len
  nil : a = none → len = 0
  cell : ∀ x, a = some x → ∀ j v, (ss.map encStr)[j]? = some v → w.cell? (x.add j) = some v

theorem infoS : Tryd.prog.info? 9 = some Tryd.t9 := by kernel_rfl
theorem sizeS : (Tryd.prog.info? 9).map (·.size) = some 1 := by kernel_rfl

theorem enc_one (ss : List (List UInt8)) : ∀ u ∈ ss.map encStr, u.oneCell' = true := by
  intro u hu
  simp at hu
  obtain ⟨z, _, rfl⟩ := hu
  rfl

theorem SRow.at_ {w : World} {a : Option Addr} {len cap : Nat} {ss : List (List UInt8)} (h : SRow w a len cap ss) (h0 : 0 < len) : ∃ b off, a = some ⟨b, off, none⟩ ∧ ∀ (i : Nat) (hi : i < len), w.cell? ⟨b, off + i, none⟩ = some (.string (str (ss.getD i []))) := by
  cases a with
  | none => have := h.nil rfl; omega
  | some x =>
    obtain ⟨b, off, spot⟩ := x
    have hk : ∀ (i : Nat) (hi : i < len), w.cell? ((⟨b, off, spot⟩ : Addr).add i) = some (.string (str (ss.getD i []))) := by
      intro i hi
      have hl : i < ss.length := by rw [h.n]; exact hi
      have := h.cell _ rfl i (encStr ss[i]) (by simp [List.getElem?_eq_getElem hl])
      rw [this]
      simp [List.getD, List.getElem?_eq_getElem hl, encStr, str]
    have hspot : spot = none := by simpa [Addr.add] using World.cell?_spot (hk 0 h0)
    subst hspot
    exact ⟨b, off, rfl, fun i hi => by have := hk i hi; rw [addr_add] at this; exact this⟩

theorem SRow.later {w w' : World} {a : Option Addr} {len cap : Nat} {ss : List (List UInt8)} (h : SRow w a len cap ss) (hb : Below w.heap.size w w') : SRow w' a len cap ss :=
  ⟨h.n, h.nil, fun x e j v hj => cellLater hb (h.cell x e j v hj)⟩

theorem own_row {w : World} {B g n cap : Nat} {ts : List (List UInt8)} (h : w.ownsRow B 9 1 (.slice (some ⟨g, 0, none⟩) n cap) n (ts.map encStr)) : SRow w (some ⟨g, 0, none⟩) n cap ts :=
  ⟨by have := h.1; simpa using this, (fun e => nomatch e), fun x e j v hj => (show (⟨g, 0, none⟩ : Addr) = x by simpa using e) ▸ h.cells rfl j v hj⟩

theorem app_run {w : World} {B n : Nat} {v : Value} {ts : List (List UInt8)} (ty : TypeId) (hown : w.ownsRow B 9 1 v n (ts.map encStr)) (ad : Option Addr) (m c : Nat) (us : List (List UInt8)) (hs : SRow w ad m c us) (hn : n + m ≤ 10000) (hb : B ≤ w.heap.size) :
    ∃ v' w', (Builtin.append_ #[24, 24] ty #[v, .slice ad m c]).run Tryd.prog w = .ok v' w' ∧ w'.ownsRow B 9 1 v' (n + m) ((ts ++ us).map encStr) ∧ w.grownBy w' v.ownBlock ∧ (v'.ownBlock = v.ownBlock ∨ v'.ownBlock = some w.heap.size) := by
  have ht : Tryd.prog.underlying 24 = some (.slice 9) := Tryd.underlying24
  cases ad with
  | some x =>
    obtain ⟨v', w', h1, h2, h3, _, h5⟩ := run_append_own_at (P := Tryd.prog) w B 24 ty 9 Tryd.t9 (.string ⟨#[]⟩) 1 16 ht infoS rfl rfl rfl rfl (by decide) v n (ts.map encStr) hown x m c (us.map encStr) (by simp [hs.n]) (hs.cell x rfl) (enc_one us) (by unfold maxLen; omega) (by omega) hb
    exact ⟨v', w', h1, by rw [List.map_append]; exact h2, h3, h5⟩
  | none =>
    obtain rfl := hs.nil rfl
    have hu : us = [] := List.eq_nil_of_length_eq_zero hs.n
    subst hu
    refine ⟨v, w, ?_, by simpa using hown, ⟨rfl, rfl, rfl, Nat.le_refl _, fun _ _ _ => rfl⟩, .inl rfl⟩
    rcases hown.2 with ⟨rfl, rfl⟩ | ⟨g, cap, cur, rfl, _, hg, hnc, _, _, _⟩
    · simp [Builtin.append_, run_underlying ht, sizeOf, typeInfo, infoS, Builtin.lenOf, Builtin.firstCells, loadCells, loadCellsFrom]
    · simp [Builtin.append_, run_underlying ht, sizeOf, typeInfo, infoS, Builtin.lenOf, Builtin.firstCells, loadCells, loadCellsFrom, hnc, storeCells]

/-- At the operation. -/
theorem wp_app {w : World} {o : Oper} {a : Act} {K : Act → World → Prop} {Q : Exit → Act → World → Prop} (s x : Operand) (ho : o.op = .call { callee := .builtin .append, args := #[s, x], argTypes := #[24, 24] })
    (B n : Nat) (v : Value) (ts : List (List UInt8)) (ad : Option Addr) (m c : Nat) (us : List (List UInt8)) (hv : a.eval s = v) (hx : a.eval x = .slice ad m c) (hown : w.ownsRow B 9 1 v n (ts.map encStr)) (hs : SRow w ad m c us) (hn : n + m ≤ 10000) (hb : B ≤ w.heap.size)
    (h : ∀ v' w', w'.ownsRow B 9 1 v' (n + m) ((ts ++ us).map encStr) → w.grownBy w' v.ownBlock → (v'.ownBlock = v.ownBlock ∨ v'.ownBlock = some w.heap.size) → K (a.put o.dst v') w') : o.wp Tryd.prog a w K Q := by
  obtain ⟨v', w', hr, h2, h3, h4⟩ := app_run o.type hown ad m c us hs hn hb
  unfold Oper.wp execOp
  simp only [ho, resolve, invoke, builtin, Sem.run_bind, Sem.run_pure, Result.andThen_ok, List.map_toArray, List.map_cons, List.map_nil, hv, hx, hr]
  exact h v' w' h2 h3 h4

theorem step_app {w : World} {ops : Array Oper} {o : Oper} {a : Act} {K : Act → World → Prop} {Q : Exit → Act → World → Prop} {E : Prop} (hw : Region.wanted o (yielded ops a.tmps) = true) (s x : Operand) (ho : o.op = .call { callee := .builtin .append, args := #[s, x], argTypes := #[24, 24] })
    (B n : Nat) (v : Value) (ts : List (List UInt8)) (ad : Option Addr) (m c : Nat) (us : List (List UInt8)) (hv : a.eval s = v) (hx : a.eval x = .slice ad m c) (hown : w.ownsRow B 9 1 v n (ts.map encStr)) (hs : SRow w ad m c us) (hn : n + m ≤ 10000) (hb : B ≤ w.heap.size)
    (h : ∀ v' w', w'.ownsRow B 9 1 v' (n + m) ((ts ++ us).map encStr) → w.grownBy w' v.ownBlock → (v'.ownBlock = v.ownBlock ∨ v'.ownBlock = some w.heap.size) → K (a.put o.dst v') w') :
    if Region.wanted o (yielded ops a.tmps) = true then Oper.wp Tryd.prog o a w K Q else E := by
  rw [if_pos hw]
  exact wp_app s x ho B n v ts ad m c us hv hx hown hs hn hb h

theorem wpList_app {w : World} {ops : Array Oper} {rest : List Oper} {o : Oper} {a : Act} {Q : Exit → Act → World → Prop} (hw : Region.wanted o (yielded ops a.tmps) = true) (s x : Operand) (ho : o.op = .call { callee := .builtin .append, args := #[s, x], argTypes := #[24, 24] })
    (B n : Nat) (v : Value) (ts : List (List UInt8)) (ad : Option Addr) (m c : Nat) (us : List (List UInt8)) (hv : a.eval s = v) (hx : a.eval x = .slice ad m c) (hown : w.ownsRow B 9 1 v n (ts.map encStr)) (hs : SRow w ad m c us) (hn : n + m ≤ 10000) (hb : B ≤ w.heap.size)
    (h : ∀ v' w', w'.ownsRow B 9 1 v' (n + m) ((ts ++ us).map encStr) → w.grownBy w' v.ownBlock → (v'.ownBlock = v.ownBlock ∨ v'.ownBlock = some w.heap.size) → wpList Tryd.prog ops Q rest (a.put o.dst v') w') : wpList Tryd.prog ops Q (o :: rest) a w :=
  wpList_step fun K hK => step_app hw s x ho B n v ts ad m c us hv hx hown hs hn hb fun v' w' h1 h2 h3 => hK _ _ (h v' w' h1 h2 h3)

theorem own_at {w : World} {B n : Nat} {v : Value} {ts : List (List UInt8)} (h : w.ownsRow B 9 1 v n (ts.map encStr)) (h0 : 0 < n) : ∃ g cap, v = .slice (some ⟨g, 0, none⟩) n cap ∧ B ≤ g ∧ n ≤ cap ∧ cap ≤ maxLen ∧ ∀ i, i < n → w.cell? ⟨g, i, none⟩ = some (.string (str (ts.getD i []))) := by
  rcases h.2 with ⟨_, hn⟩ | ⟨g, cap, cur, rfl, hb, hg, hnc, hcm, _⟩
  · omega
  · obtain ⟨b, off, e, hc⟩ := (own_row h).at_ h0
    simp only [Option.some.injEq, Addr.mk.injEq, and_true] at e
    obtain ⟨rfl, rfl⟩ := e
    exact ⟨g, cap, rfl, hb, hnc, hcm, fun i hi => by have := hc i hi; rwa [Nat.zero_add] at this⟩

theorem fresh_own {w : World} {B g : Nat} (hg : w.heap[g]? = some (.cells #[] 9 (0, 0))) (hb : B ≤ g) : w.ownsRow B 9 1 (.slice (some ⟨g, 0, none⟩) 0 0) 0 (([] : List (List UInt8)).map encStr) :=
  ⟨rfl, .inr ⟨g, 0, #[], rfl, hb, hg, Nat.le_refl _, Nat.zero_le _, rfl, rfl⟩⟩

theorem one_row {w : World} {h c : Nat} {x : List UInt8} (hc : w.cell? ⟨h, 0, none⟩ = some (.string (str x))) : SRow w (some ⟨h, 0, none⟩) 1 c [x] := by
  refine ⟨rfl, (fun e => nomatch e), fun y e j v hj => ?_⟩
  obtain rfl : ⟨h, 0, none⟩ = y := by simpa using e
  cases j with
  | zero =>
    simp at hj
    subst hj
    rw [addr_add]
    exact hc
  | succ j => simp at hj

theorem own_pre {w : World} {B g n cap : Nat} {ts : List (List UInt8)} (h : w.ownsRow B 9 1 (.slice (some ⟨g, 0, none⟩) n cap) n (ts.map encStr)) (j c : Nat) (hj : j ≤ n) : SRow w (some ⟨g, 0, none⟩) j c (ts.take j) := by
  have hr := own_row h
  have hn := hr.n
  refine ⟨by rw [List.length_take, hn]; omega, (fun e => nomatch e), fun x e i v hi => hr.cell x e i v ?_⟩
  rw [List.map_take, List.getElem?_take] at hi
  split at hi
  · exact hi
  · cases hi

theorem own_suf {w : World} {B g n cap : Nat} {ts : List (List UInt8)} (h : w.ownsRow B 9 1 (.slice (some ⟨g, 0, none⟩) n cap) n (ts.map encStr)) (j c : Nat) (hj : j ≤ n) : SRow w (some ⟨g, j, none⟩) (n - j) c (ts.drop j) := by
  have hr := own_row h
  have hn := hr.n
  refine ⟨by rw [List.length_drop, hn], (fun e => nomatch e), fun x e i v hi => ?_⟩
  obtain rfl : ⟨g, j, none⟩ = x := by simpa using e
  rw [List.map_drop, List.getElem?_drop] at hi
  have := hr.cell _ rfl (j + i) v hi
  rw [addr_add] at this ⊢
  simpa using this

theorem bel_app {B : Nat} {a w w' : World} {T : TypeId} {v : Value} {n : Nat} {xs : List Value} (h : Below B a w) (ho : w.ownsRow B T 1 v n xs) (hg : w.grownBy w' v.ownBlock) (hB : B ≤ w.heap.size) : Below B a w' := h.grown hg hB (fun k e => (ho.lt k e).1)

theorem at_new (w : World) (o : Obj) (n : Nat) (h : n = w.heap.size) : (w.alloc o).heap[n]? = some o := by subst h; exact heap_alloc_new w o
theorem at_old (w : World) (o : Obj) (n : Nat) (h : n < w.heap.size) {r : Option Obj} (hr : w.heap[n]? = r) : (w.alloc o).heap[n]? = r := (Below.heap_alloc w o n h).trans hr

theorem own_form {w : World} {B n : Nat} {v : Value} {ts : List (List UInt8)} (h : w.ownsRow B 9 1 v n (ts.map encStr)) : (v = .slice none 0 0 ∧ n = 0) ∨ ∃ g cap, v = .slice (some ⟨g, 0, none⟩) n cap ∧ B ≤ g ∧ n ≤ cap ∧ cap ≤ maxLen ∧ ∀ i, i < n → w.cell? ⟨g, i, none⟩ = some (.string (str (ts.getD i []))) := by
  rcases h.2 with h' | ⟨g, cap, cur, rfl, hb, hg, hnc, hcm, _⟩
  · exact .inl h'
  · refine .inr ⟨g, cap, rfl, hb, hnc, hcm, fun i hi => ?_⟩
    obtain ⟨b, off, e, hc⟩ := (own_row h).at_ (by omega)
    simp only [Option.some.injEq, Addr.mk.injEq, and_true] at e
    obtain ⟨rfl, rfl⟩ := e
    have := hc i hi
    rwa [Nat.zero_add] at this

theorem own_tail {w : World} {B g n cap : Nat} {ts : List (List UInt8)} (h : w.ownsRow B 9 1 (.slice (some ⟨g, 0, none⟩) n cap) n (ts.map encStr)) (j c : Nat) (hj : j ≤ n) (hc : n ≤ cap) : SRow w (if cap = j then some ⟨g, 0, none⟩ else some ⟨g, j, none⟩) (n - j) c (ts.drop j) := by
  by_cases e : cap = j
  · rw [if_pos e]
    have hn := (own_row h).n
    have hd : ts.drop j = [] := List.drop_eq_nil_of_le (by omega)
    rw [hd]
    exact ⟨by simp; omega, (fun e => nomatch e), fun x _ i v hi => by simp at hi⟩
  · rw [if_neg e]
    exact own_suf h j c hj

theorem own_mono {w : World} {B B' n : Nat} {T : TypeId} {v : Value} {xs : List Value} (h : w.ownsRow B T 1 v n xs) (hb : B' ≤ B) : w.ownsRow B' T 1 v n xs := by
  refine ⟨h.1, ?_⟩
  rcases h.2 with h' | ⟨g, cap, cur, e, h1, h2⟩
  · exact .inl h'
  · exact .inr ⟨g, cap, cur, e, Nat.le_trans hb h1, h2⟩

theorem none_row (w : World) : SRow w none 0 0 [] := ⟨rfl, fun _ => rfl, fun _ e => nomatch e⟩

end Go.Proofs.YtcoakjgeadkfoaaDoor

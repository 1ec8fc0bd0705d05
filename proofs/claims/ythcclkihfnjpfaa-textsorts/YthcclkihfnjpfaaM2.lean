/-
  Plain mathematics of places: lines and columns.
-/
import Derived.Test.YthcclkihfnjpfaaM1
import Derived.Lib.LastIndexByte
import Derived.Lib.Bytealg
namespace Go.Tx
set_option linter.unusedVariables false

/-- A byte further: the line and the column. -/
def stp (p : Nat × Nat) (c : UInt8) : Nat × Nat := if c = 10 then (p.1 + 1, 1) else (p.1, p.2 + 1)
/-- The line and the column behind a row of bytes. -/
def st (l : List UInt8) : Nat × Nat := l.foldl stp (1, 1)

theorem st_nil : st [] = (1, 1) := rfl
theorem st_snoc (l : List UInt8) (c : UInt8) : st (l ++ [c]) = stp (st l) c := by simp [st]
theorem st_app (l r : List UInt8) : st (l ++ r) = r.foldl stp (st l) := by simp [st]

theorem stp_bd (p : Nat × Nat) (c : UInt8) (n : Nat) (h : 1 ≤ p.1 ∧ p.1 ≤ n + 1 ∧ 1 ≤ p.2 ∧ p.2 ≤ n + 1) : 1 ≤ (stp p c).1 ∧ (stp p c).1 ≤ n + 1 + 1 ∧ 1 ≤ (stp p c).2 ∧ (stp p c).2 ≤ n + 1 + 1 := by
  unfold stp; split <;> simp <;> omega

theorem fold_bd : ∀ (l : List UInt8) (p : Nat × Nat) (n : Nat), (1 ≤ p.1 ∧ p.1 ≤ n + 1 ∧ 1 ≤ p.2 ∧ p.2 ≤ n + 1) → 1 ≤ (l.foldl stp p).1 ∧ (l.foldl stp p).1 ≤ n + l.length + 1 ∧ 1 ≤ (l.foldl stp p).2 ∧ (l.foldl stp p).2 ≤ n + l.length + 1
  | [], p, n, h => by simpa using h
  | c :: l, p, n, h => by
    have := fold_bd l (stp p c) (n + 1) (stp_bd p c n h)
    simp only [List.foldl_cons, List.length_cons]
    omega

theorem st_bd (l : List UInt8) : 1 ≤ (st l).1 ∧ (st l).1 ≤ l.length + 1 ∧ 1 ≤ (st l).2 ∧ (st l).2 ≤ l.length + 1 := by
  have := fold_bd l (1, 1) 0 (by simp)
  simpa [st] using this

theorem cnt_zero (r : ByteArray) : ∀ k, k ≤ r.size → Lib.lastIdx r 10 k < 0 → (r.data.toList.take k).count 10 = 0
  | 0, _, _ => by simp
  | k + 1, h, hn => by
    have hg : r.data[k]! = r[k]'(by omega) := getElem!_pos r.data k (by show k < r.size; omega)
    by_cases hc : r[k]'(by omega) = 10
    · rw [Lib.lastIdx_hit r 10 k (by rw [hg, hc]; rfl)] at hn; omega
    · rw [Lib.lastIdx_miss r 10 k (by rw [hg]; intro e; apply hc; apply UInt8.toNat_inj.1; show _ = 10; omega)] at hn
      have ih := cnt_zero r k (by omega) hn
      rw [take_snoc r k (by omega), List.count_append, ih]
      simp [hc]

/-- What the last line's end in the first k bytes says of the place behind them. -/
theorem last_says (r : ByteArray) (p : Nat × Nat) : ∀ k, k ≤ r.size →
    (Lib.lastIdx r 10 k < 0 → (r.data.toList.take k).foldl stp p = (p.1, p.2 + k)) ∧
    (0 ≤ Lib.lastIdx r 10 k → Lib.lastIdx r 10 k < k ∧ (r.data.toList.take k).foldl stp p = (p.1 + (r.data.toList.take k).count 10, k - (Lib.lastIdx r 10 k).toNat))
  | 0, _ => by simp [Lib.lastIdx]
  | k + 1, h => by
    have ih := last_says r p k (by omega)
    have hg : r.data[k]! = r[k]'(by omega) := getElem!_pos r.data k (by show k < r.size; omega)
    rw [take_snoc r k (by omega), List.foldl_append, List.foldl_cons, List.foldl_nil, List.count_append]
    by_cases hc : r[k]'(by omega) = 10
    · have h1 : Lib.lastIdx r 10 (k + 1) = k := Lib.lastIdx_hit r 10 k (by rw [hg, hc]; rfl)
      rw [h1, hc]
      refine ⟨fun hn => by omega, fun _ => ⟨by omega, ?_⟩⟩
      have hp : ((r.data.toList.take k).foldl stp p).1 = p.1 + (r.data.toList.take k).count 10 := by
        by_cases hn : Lib.lastIdx r 10 k < 0
        · rw [ih.1 hn]
          have := cnt_zero r k (by omega) hn
          omega
        · rw [(ih.2 (by omega)).2]
      simp [stp, hp]
      omega
    · have h1 : Lib.lastIdx r 10 (k + 1) = Lib.lastIdx r 10 k := Lib.lastIdx_miss r 10 k (by
        rw [hg]; intro e; apply hc; apply UInt8.toNat_inj.1; show _ = 10; omega)
      rw [h1]
      refine ⟨fun hn => ?_, fun hn => ⟨by have := (ih.2 hn).1; omega, ?_⟩⟩
      · rw [ih.1 hn]; simp [stp, hc]; omega
      · obtain ⟨h2, h3⟩ := ih.2 hn
        rw [h3]
        simp [stp, hc]
        omega

theorem pass_none (l : List UInt8) (r : ByteArray) (h : Lib.lastIndexByte r 10 < 0) : st (l ++ r.data.toList) = ((st l).1, (st l).2 + r.size) := by
  have := (last_says r (st l) r.size (Nat.le_refl _)).1 h
  rw [take_all r r.size (Nat.le_refl _)] at this
  rw [st_app, this]

theorem pass_some (l : List UInt8) (r : ByteArray) (h : 0 ≤ Lib.lastIndexByte r 10) : Lib.lastIndexByte r 10 < r.size ∧ st (l ++ r.data.toList) = ((st l).1 + Lib.countByte r.data.toList 10, r.size - (Lib.lastIndexByte r 10).toNat) := by
  have := (last_says r (st l) r.size (Nat.le_refl _)).2 h
  rw [take_all r r.size (Nat.le_refl _)] at this
  rw [st_app]
  exact this

theorem count_le (r : ByteArray) : Lib.countByte r.data.toList 10 ≤ r.size := by
  have := List.count_le_length (a := (10 : UInt8)) (l := r.data.toList)
  rw [len_eq] at this
  exact this

end Go.Tx

/-
  Plain mathematics of the law's own paths: which one is made of a number; each may be.
-/
import Derived.Test.YtcoakjgeadkfoaaDoorM31
namespace Go.Pa
set_option linter.unusedVariables false
open Go.Lib Go.Tx Go.Vr

theorem right_slash (s w : Bs) (h : ∀ c ∈ w, c ≠ 47) : (sw (s ++ 47 :: w)).all wOk = ((sw s).all wOk && wOk w) := by
  rw [sw_app, sw_one w h, List.all_append]
  simp
theorem wOk_noslash {w : Bs} (h : wOk w = true) : ∀ c ∈ w, c ≠ 47 := by
  unfold wOk at h
  rw [Bool.and_eq_true, List.all_eq_true] at h
  intro c hc e
  subst e
  have := h.2 47 hc
  exact absurd this (by decide)

/-- The words that the law takes. -/
def pw : List Bs := [[97], [98], [97, 46, 98], [99, 45, 100], [118, 50], [118, 51], [118, 49], [118, 48, 50], [95], [108, 105, 98], [118, 50, 48]]
def pwA (j : Nat) : Bs := pw.getD j []
theorem pw_ok : ∀ i, i < 11 → wOk (pwA i) = true ∧ (pwA i).length ≤ 3 := by
  have h : ((List.range 11).all fun i => wOk (pwA i) && decide ((pwA i).length ≤ 3)) = true := by decide +kernel
  intro i hi
  have := List.all_eq_true.1 h i (List.mem_range.2 hi)
  rw [Bool.and_eq_true, decide_eq_true_eq] at this
  exact this
/-- So many words more. -/
def mkLoop : Nat → Nat → Bs → Bs
  | 0, _, s => s
  | i + 1, k, s => mkLoop i (k / 4) (s ++ 47 :: pwA (k / 4 % 11))
def mkN (k : Nat) : Bs := mkLoop (k / 11 % 4) (k / 11) (pwA (k % 11))
/-- The path of a number. -/
def mkP (n : Int) : Bs := mkN (n % 1099511627776).toNat
theorem mkLoop_ok : ∀ (i k : Nat) (s : Bs), (sw s).all wOk = true → (sw (mkLoop i k s)).all wOk = true ∧ (mkLoop i k s).length ≤ s.length + 4 * i
  | 0, k, s, h => ⟨h, by simp [mkLoop]⟩
  | i + 1, k, s, h => by
    obtain ⟨h1, h2⟩ := pw_ok (k / 4 % 11) (Nat.mod_lt _ (by omega))
    obtain ⟨h3, h4⟩ := mkLoop_ok i (k / 4) (s ++ 47 :: pwA (k / 4 % 11)) (by rw [right_slash _ _ (wOk_noslash h1), h, h1]; rfl)
    refine ⟨h3, Nat.le_trans h4 ?_⟩
    rw [List.length_append, List.length_cons]
    omega
theorem mkN_ok (k : Nat) : (sw (mkN k)).all wOk = true ∧ (mkN k).length ≤ 15 := by
  obtain ⟨h1, h2⟩ := pw_ok (k % 11) (Nat.mod_lt _ (by omega))
  obtain ⟨h3, h4⟩ := mkLoop_ok (k / 11 % 4) (k / 11) (pwA (k % 11)) (by rw [sw_one _ (wOk_noslash h1)]; simp [h1])
  have : k / 11 % 4 < 4 := Nat.mod_lt _ (by omega)
  exact ⟨h3, by unfold mkN; omega⟩
theorem mkP_ok (n : Int) : right (mkP n) = true ∧ 1 ≤ (mkP n).length ∧ (mkP n).length ≤ 15 := by
  obtain ⟨h1, h2⟩ := mkN_ok (n % 1099511627776).toNat
  have hr : right (mkP n) = true := by
    unfold right mkP
    rw [h1, decide_eq_true (by omega)]; rfl
  exact ⟨hr, (right_short hr).1, h2⟩

end Go.Pa

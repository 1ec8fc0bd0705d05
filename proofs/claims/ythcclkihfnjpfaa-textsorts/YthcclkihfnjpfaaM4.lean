/-
  Plain mathematics of sorted texts: each once, rising; there is just one such list of given texts.
-/
import Derived.Lib.SlicesCompact
import Derived.Sort.Walk0
namespace Go.Tx
set_option linter.unusedVariables false
open Go.Sort

abbrev Bs := List UInt8

theorem bs_le_trans {a b c : Bs} (h : a ≤ b) (k : b ≤ c) : a ≤ c := List.le_trans h k
theorem bs_lt_of_le_of_ne {a b : Bs} (h : a ≤ b) (k : a ≠ b) : a < b := by
  by_cases h2 : a < b
  · exact h2
  · exact absurd (List.le_antisymm h (List.not_lt.1 h2)) k
theorem bs_lt_irrefl (a : Bs) : ¬ a < a := List.lt_irrefl a
theorem bs_lt_of_le_of_lt {a b c : Bs} (h : a ≤ b) (k : b < c) : a < c := List.lt_of_le_of_lt h k
theorem bs_le_total (a b : Bs) : a ≤ b ∨ b ≤ a := List.le_total a b
theorem bs_lt_trans {a b c : Bs} (h : a < b) (k : b < c) : a < c := List.lt_trans h k
theorem bs_le_of_lt {a b : Bs} (h : a < b) : a ≤ b := List.le_of_lt h

/-- Each once, rising. -/
def srt (ss : List Bs) : List Bs := Lib.compact (ss.mergeSort fun x y => decide (x ≤ y))

/-- Of a row that rises what is kept rises strictly, and is what was there. -/
theorem kept_says (d : Array Bs) (hd : ∀ i j, i ≤ j → j < d.size → d[i]! ≤ d[j]!) : ∀ m, m ≤ d.size →
    (Lib.compactUpTo d m).Pairwise (· < ·) ∧ ∀ x, x ∈ Lib.compactUpTo d m ↔ ∃ j, j < m ∧ d[j]! = x
  | 0, _ => by simp [Lib.compactUpTo]
  | m + 1, h => by
    obtain ⟨h1, h2⟩ := kept_says d hd m (by omega)
    rw [Lib.compactUpTo_succ]
    by_cases hk : m = 0 ∨ d[m]! ≠ d[m - 1]!
    · have hkk : Lib.keeps d m = true := by simp [Lib.keeps, hk]
      rw [hkk]
      simp only [if_true]
      refine ⟨?_, fun x => ?_⟩
      · rw [List.pairwise_append]
        refine ⟨h1, List.pairwise_singleton _ _, fun a ha b hb => ?_⟩
        rw [List.mem_singleton] at hb
        subst hb
        obtain ⟨j, hj, rfl⟩ := (h2 a).1 ha
        rcases hk with hk | hk
        · omega
        · exact bs_lt_of_le_of_lt (hd j (m - 1) (by omega) (by omega)) (bs_lt_of_le_of_ne (hd (m - 1) m (by omega) (by omega)) (fun e => hk e.symm))
      · rw [List.mem_append, List.mem_singleton, h2 x]
        constructor
        · rintro (⟨j, hj, e⟩ | e)
          · exact ⟨j, by omega, e⟩
          · exact ⟨m, by omega, e.symm⟩
        · rintro ⟨j, hj, e⟩
          by_cases hjm : j = m
          · right; rw [← e, hjm]
          · left; exact ⟨j, by omega, e⟩
    · have hk2 : m ≠ 0 ∧ d[m]! = d[m - 1]! := by
        refine ⟨fun e => hk (.inl e), ?_⟩
        by_cases e : d[m]! = d[m - 1]!
        · exact e
        · exact absurd (.inr e) hk
      have hkk : Lib.keeps d m = false := by simp [Lib.keeps, hk2.1, hk2.2]
      rw [hkk]
      simp only [Bool.false_eq_true, if_false, List.append_nil]
      refine ⟨h1, fun x => ?_⟩
      rw [h2 x]
      constructor
      · rintro ⟨j, hj, e⟩; exact ⟨j, by omega, e⟩
      · rintro ⟨j, hj, e⟩
        by_cases hjm : j = m
        · exact ⟨m - 1, by omega, by rw [← e, hjm]; exact hk2.2.symm⟩
        · exact ⟨j, by omega, e⟩

theorem sorted_at (ss : List Bs) : ∀ i j, i ≤ j → j < (ss.mergeSort fun x y => decide (x ≤ y)).toArray.size → (ss.mergeSort fun x y => decide (x ≤ y)).toArray[i]! ≤ (ss.mergeSort fun x y => decide (x ≤ y)).toArray[j]! := by
  intro i j hij hj
  have hs : (ss.mergeSort fun x y => decide (x ≤ y)).Pairwise (fun a b => decide (a ≤ b) = true) :=
    List.pairwise_mergeSort (fun a b c h k => by simp at h k ⊢; exact bs_le_trans h k) (fun a b => by simp; exact bs_le_total a b) ss
  generalize (ss.mergeSort fun x y => decide (x ≤ y)) = l at *
  simp at hj
  rw [getElem!_pos _ i (by simp; omega), getElem!_pos _ j (by simp; omega)]
  simp only [List.getElem_toArray]
  by_cases e : i = j
  · subst e; exact List.le_refl _
  · have := List.pairwise_iff_getElem.1 hs i j (by omega) (by omega) (by omega)
    simpa using this

theorem srt_rises (ss : List Bs) : (srt ss).Pairwise (· < ·) := by
  unfold srt Lib.compact
  exact (kept_says _ (sorted_at ss) _ (by simp)).1

theorem srt_mem (ss : List Bs) (x : Bs) : x ∈ srt ss ↔ x ∈ ss := by
  unfold srt Lib.compact
  rw [(kept_says _ (sorted_at ss) _ (by simp)).2 x]
  have hm : x ∈ (ss.mergeSort fun x y => decide (x ≤ y)) ↔ x ∈ ss := List.mem_mergeSort
  rw [← hm]
  generalize (ss.mergeSort fun x y => decide (x ≤ y)) = l
  rw [List.mem_iff_getElem]
  constructor
  · rintro ⟨j, hj, e⟩
    refine ⟨j, hj, ?_⟩
    rw [getElem!_pos _ j (by simpa using hj)] at e
    simpa using e
  · rintro ⟨j, hj, e⟩
    refine ⟨j, hj, ?_⟩
    rw [getElem!_pos _ j (by simpa using hj)]
    simpa using e

/-- Two lists that rise strictly, of the same elements, are one. -/
theorem rise_ext : ∀ (a b : List Bs), a.Pairwise (· < ·) → b.Pairwise (· < ·) → (∀ x, x ∈ a ↔ x ∈ b) → a = b
  | [], [], _, _, _ => rfl
  | [], y :: b, _, _, h => by have := (h y).2 (by simp); simp at this
  | x :: a, [], _, _, h => by have := (h x).1 (by simp); simp at this
  | x :: a, y :: b, ha, hb, h => by
    rw [List.pairwise_cons] at ha hb
    have e : x = y := by
      have h1 := (h x).1 (by simp)
      have h2 := (h y).2 (by simp)
      rw [List.mem_cons] at h1 h2
      rcases h1 with h1 | h1
      · exact h1
      · rcases h2 with h2 | h2
        · exact h2.symm
        · exact absurd (bs_lt_trans (ha.1 y h2) (hb.1 x h1)) (bs_lt_irrefl x)
    subst e
    congr 1
    refine rise_ext a b ha.2 hb.2 fun z => ?_
    have hz := h z
    rw [List.mem_cons, List.mem_cons] at hz
    constructor
    · intro hza
      rcases hz.1 (.inr hza) with e | e
      · subst e; exact absurd (ha.1 z hza) (bs_lt_irrefl z)
      · exact e
    · intro hzb
      rcases hz.2 (.inr hzb) with e | e
      · subst e; exact absurd (hb.1 z hzb) (bs_lt_irrefl z)
      · exact e

theorem srt_unique (ss l : List Bs) (h1 : l.Pairwise (· < ·)) (h2 : ∀ x, x ∈ l ↔ x ∈ ss) : srt ss = l :=
  rise_ext _ _ (srt_rises ss) h1 fun x => by rw [srt_mem, h2]

theorem srt_congr (a b : List Bs) (h : ∀ x, x ∈ a ↔ x ∈ b) : srt a = srt b := srt_unique a _ (srt_rises b) fun x => by rw [srt_mem, h]

end Go.Tx

/-
  Plain mathematics of texts of versions: which bytes are in them.
-/
import Derived.Test.YtninheehoabbbaaGreatDoorM18
namespace Go.Sp
set_option linter.unusedVariables false
open Go.Vr Go.Tx Go.Lib

/-- A byte of a version's text. -/
def isVb (c : UInt8) : Bool := isWd c || c == 46
theorem words_mem : ∀ (l : Bs), ∀ c ∈ l, c = 46 ∨ ∃ w ∈ words l, c ∈ w
  | [], c, h => by simp at h
  | d :: l, c, h => by
    by_cases hd : d = 46
    · subst hd
      rw [words_dot]
      rcases List.mem_cons.1 h with rfl | h
      · exact .inl rfl
      · rcases words_mem l c h with e | ⟨w, hw, hc⟩
        · exact .inl e
        · exact .inr ⟨w, by simp [hw], hc⟩
    · cases e : words l with
      | nil => exact absurd e (words_ne l)
      | cons v vs =>
        rw [words_cons hd e]
        rcases List.mem_cons.1 h with rfl | h
        · exact .inr ⟨c :: v, by simp, by simp⟩
        · rcases words_mem l c h with e2 | ⟨w, hw, hc⟩
          · exact .inl e2
          · rw [e] at hw
            rcases List.mem_cons.1 hw with rfl | hw
            · exact .inr ⟨d :: w, by simp, by simp [hc]⟩
            · exact .inr ⟨w, by simp [hw], hc⟩
theorem pre_bytes {p : Bs} (h : preOk p = true) : ∀ c ∈ p, isVb c = true := by
  intro c hc
  unfold preOk at h
  rw [Bool.and_eq_true, Bool.or_eq_true] at h
  have hp : (words p).all wordOk = true := h.2.resolve_left (by intro e; have := List.isEmpty_iff.1 e; subst this; simp at hc)
  rcases words_mem p c hc with rfl | ⟨w, hw, hcw⟩
  · decide
  · have := List.all_eq_true.1 hp w hw
    unfold wordOk at this
    simp only [Bool.and_eq_true] at this
    have := List.all_eq_true.1 this.2 c hcw
    unfold isVb; rw [this]; rfl
theorem dig_vb {x : Bs} (h : x.all isDig = true) : ∀ c ∈ x, isVb c = true := by
  intro c hc
  have := List.all_eq_true.1 h c hc
  unfold isVb isWd; rw [this]; rfl
theorem txt_bytes {v : V} (h : v.ok = true) : ∀ c ∈ txt v, isVb c = true := by
  obtain ⟨h1, h2, h3, h4⟩ := ok_parts h
  have i1 := dig_vb (itoa_ok v.a h1.1 (by omega)).2.2.1
  have i2 := dig_vb (itoa_ok v.b h2.1 (by omega)).2.2.1
  have i3 := dig_vb (itoa_ok v.c h3.1 (by omega)).2.2.1
  have i4 := pre_bytes h4
  intro c hc
  unfold txt tail at hc
  simp only [List.mem_cons, List.mem_append] at hc
  rcases hc with rfl | hc | rfl | hc | rfl | hc | hc
  · decide
  · exact i1 c hc
  · decide
  · exact i2 c hc
  · decide
  · exact i3 c hc
  · split at hc
    · simp at hc
    · rcases List.mem_cons.1 hc with rfl | hc
      · decide
      · exact i4 c hc
theorem txt_ne {v : V} (h : v.ok = true) (d : UInt8) (hd : isVb d = false) : ∀ c ∈ txt v, c ≠ d := by
  rintro c hc rfl
  rw [txt_bytes h c hc] at hd
  exact nomatch hd
theorem vb_small (c : UInt8) (h : isVb c = true) : c.toNat < 128 := by
  unfold isVb isWd isDig isLet at h
  simp only [Bool.or_eq_true, Bool.and_eq_true, decide_eq_true_eq, beq_iff_eq] at h
  rcases h with (h | h) | h
  · omega
  · omega
  · subst h; decide
theorem txt_inj {v u : V} (hv : v.ok = true) (hu : u.ok = true) (h : txt v = txt u) : v = u := by
  have h1 := parse_txt hv
  rw [h, parse_txt hu] at h1
  exact (Option.some.inj h1).symm
/-- Up to the first byte of a kind. -/
theorem cut_eq {p : UInt8 → Bool} {x y : Bs} {c d : UInt8} {r t : Bs} (hx : ∀ b ∈ x, p b = true) (hy : ∀ b ∈ y, p b = true) (hc : p c = false) (hd : p d = false) (h : x ++ c :: r = y ++ d :: t) : x = y ∧ c = d ∧ r = t := by
  induction x generalizing y with
  | nil =>
    cases y with
    | nil =>
      injection h with h1 h2
      exact ⟨rfl, h1, h2⟩
    | cons b y =>
      injection h with h1 h2
      rw [h1, hy b (by simp)] at hc
      exact nomatch hc
  | cons a x ih =>
    cases y with
    | nil =>
      injection h with h1 h2
      rw [← h1, hx a (by simp)] at hd
      exact nomatch hd
    | cons b y =>
      injection h with h1 h2
      obtain ⟨e1, e2, e3⟩ := ih (fun b hb => hx b (by simp [hb])) (fun b hb => hy b (by simp [hb])) h2
      exact ⟨by rw [h1, e1], e2, e3⟩
end Go.Sp

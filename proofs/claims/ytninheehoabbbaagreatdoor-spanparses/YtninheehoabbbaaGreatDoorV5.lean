/-
  Contract of the reference's Right.
-/
import Derived.Test.YtninheehoabbbaaGreatDoorV4
namespace Go.Proofs.YtninheehoabbbaaGreatDoor
set_option linter.unusedSimpArgs false
set_option linter.unusedVariables false
open Go.RowKit Go.Vr Go.Sort Go.Tx

/-- A version as a value. -/
abbrev ver (a b c : Int) (p : ByteArray) : Value := .agg #[.int .i64 a, .int .i64 b, .int .i64 c, .string p]

theorem words_short : ∀ (l : Bs), l.length ≤ 40 → ∀ x ∈ words l, x.length ≤ 40 := by
  have key : ∀ (l : Bs), ∀ x ∈ words l, x.length ≤ l.length := by
    intro l
    induction l with
    | nil => simp [words]
    | cons c l ih =>
      by_cases h : c = 46
      · subst h
        rw [words_dot]
        intro x hx
        rcases List.mem_cons.1 hx with rfl | hx
        · simp
        · have := ih x hx; simp; omega
      · cases e : words l with
        | nil => exact absurd e (words_ne l)
        | cons v vs =>
          rw [words_cons h e]
          rw [e] at ih
          intro x hx
          rcases List.mem_cons.1 hx with rfl | hx
          · have := ih v (by simp); simp; omega
          · have := ih x (by simp [hx]); simp; omega
  intro l hl x hx
  have := key l x hx
  omega
theorem words_count : ∀ (l : Bs), (words l).length ≤ l.length + 1 := by
  intro l
  induction l with
  | nil => simp [words]
  | cons c l ih =>
    by_cases h : c = 46
    · subst h
      rw [words_dot]; simp; omega
    · cases e : words l with
      | nil => exact absurd e (words_ne l)
      | cons v vs =>
        rw [words_cons h e]
        rw [e] at ih
        simp at ih ⊢; omega

set_option maxHeartbeats 800000 in
set_option maxRecDepth 100000 in
theorem rright_any (a b c : Int) (p : ByteArray) (w : World) (hs : p.size ≤ maxLen) :
    Calls Tryz.prog 22 #[ver a b c p] w fun e w' => e = .returned (.bool (verOk a b c p.data.toList)) ∧ Below w.heap.size w w' := by
  have hs0 := hs
  unfold maxLen at hs
  by_cases h1 : a < 0
  · have d1 : decide (a < 0) = true := by simpa using h1
    go_enter Tryz.func22, Tryz.ntmps22
    go_wp2
    go_ret
    exact ⟨ret_bool (by simp [verOk, partOk, h1]; omega), (Below.refl _ _).alloc (Nat.le_refl _) _⟩
  have d1 : decide (a < 0) = false := by simpa using h1
  by_cases h2 : b < 0
  · have d2 : decide (b < 0) = true := by simpa using h2
    go_enter Tryz.func22, Tryz.ntmps22
    go_wp2
    go_ret
    exact ⟨ret_bool (by simp [verOk, partOk, h2]; omega), (Below.refl _ _).alloc (Nat.le_refl _) _⟩
  have d2 : decide (b < 0) = false := by simpa using h2
  by_cases h3 : c < 0
  · have d3 : decide (c < 0) = true := by simpa using h3
    go_enter Tryz.func22, Tryz.ntmps22
    go_wp2
    go_ret
    exact ⟨ret_bool (by simp [verOk, partOk, h3]; omega), (Below.refl _ _).alloc (Nat.le_refl _) _⟩
  have d3 : decide (c < 0) = false := by simpa using h3
  by_cases h4 : p.size ≤ 40 ∧ a ≤ 999999 ∧ b ≤ 999999 ∧ c ≤ 999999
  · obtain ⟨hp, ha, hb, hc⟩ := h4
    have d4 : decide ((40 : Int) < (p.size : Int)) = false := by simp; omega
    have e1 : decide ((999999 : Int) < a) = false := by simp; omega
    have e2 : decide ((999999 : Int) < b) = false := by simp; omega
    have e3 : decide ((999999 : Int) < c) = false := by simp; omega
    have HP : Hid (verOk a b c p.data.toList = (p.data.toList.isEmpty || (words p.data.toList).all wordOk)) := by
      have hl : p.data.toList.length ≤ 40 := by rw [len_eq]; exact hp
      show verOk a b c p.data.toList = _
      have g1 : partOk a = true := by simp [partOk]; omega
      have g2 : partOk b = true := by simp [partOk]; omega
      have g3 : partOk c = true := by simp [partOk]; omega
      unfold verOk preOk
      rw [g1, g2, g3, decide_eq_true hl]; rfl
    by_cases h0 : p.size = 0
    · have he : p.toList.isEmpty = true := by rw [empty_eq]; simpa using h0
      have HT : Hid (verOk a b c p.data.toList = true) := by show verOk a b c p.data.toList = true; rw [HP.out, isEmpty_eq, decide_eq_true h0]; rfl
      clear h0
      go_enter Tryz.func22, Tryz.ntmps22
      go_wp2_with fail
      all_goals
        go_ret
        exact ⟨ret_bool HT.out.symm, (Below.refl _ _).alloc (Nat.le_refl _) _⟩
    · have he : p.toList.isEmpty = false := by rw [empty_eq]; simpa using h0
      have HT : Hid (verOk a b c p.data.toList = (words p.data.toList).all wordOk) := by show verOk a b c p.data.toList = _; rw [HP.out, isEmpty_eq, decide_eq_false h0]; rfl
      have hwl : ∀ x ∈ words p.data.toList, x.length ≤ 40 := words_short _ (by rw [len_eq]; exact hp)
      have hwn := words_count p.data.toList
      have hwn : (words p.data.toList).length ≤ 41 := by rw [len_eq] at hwn; omega
      clear h0 HP
      go_enter Tryz.func22, Tryz.ntmps22
      go_wp2_with fail
      all_goals
        refine (rwords_any p _ (by omega)).mono ?_
        rintro e w1 ⟨v, rfl, hown, hB⟩
        have hB1 := ((Below.refl w.heap.size w).alloc (Nat.le_refl _) (.cells #[.int .i64 a, .int .i64 b, .int .i64 c, .string p] 37)).trans (hB.mono (by simp))
        have hne := words_ne p.data.toList
        generalize words p.data.toList = ws at *
        have hpos : 0 < ws.length := by
          cases ws with
          | nil => exact absurd rfl hne
          | cons x y => simp
        obtain ⟨g, cap, rfl, hg, hnc, hcm, hcell⟩ := own_at hown hpos
        clear hown hne hB hg hcm
        go_wp2_with fail
        go_loop [4] (fun i => ∃ k : Nat, k ≤ ws.length ∧ i = .int .i64 k ∧ Hid ((ws.take k).all wordOk = true)) (fun i => ws.length - (intOf i).toNat)
        case atStart => exact ⟨0, Nat.zero_le _, rfl, rfl⟩
        case round =>
          obtain ⟨k, hk, rfl, hq⟩ := hrel
          by_cases hlt : k < ws.length
          · have hc := hcell k hlt
            have hx : (ws.getD k []) ∈ ws := by
              rw [List.getD_eq_getElem?_getD, List.getElem?_eq_getElem hlt]; exact List.getElem_mem _
            have hxl := hwl _ hx
            have HSN : Hid (ws.take (k + 1) = ws.take k ++ [ws.getD k []]) := by
              show ws.take (k + 1) = _
              rw [List.take_add_one]
              simp [List.getD, List.getElem?_eq_getElem hlt]
            generalize ws.getD k [] = x at *
            have hi1 : (0 : Int) ≤ (k : Int) := by omega
            have hi2 : (k : Int) < (ws.length : Int) := by omega
            clear hcell hwl
            cases ho : wordOk x with
            | true =>
              have HT2 : Hid ((ws.take (k + 1)).all wordOk = true) := by show List.all _ _ = true; rw [HSN.out, List.all_append, hq.out]; simp [ho]
              have HO : Hid (wordOk (str x).data.toList = true) := ho
              clear ho
              go_wp2_with (go_at_call 51; refine (rword_any _ _ (by unfold maxLen; rw [str_size]; omega)).mono ?_; rw [HO.out]; rintro e w' ⟨rfl, rfl⟩)
              go_round
              case rel => exact ⟨k + 1, by omega, by go_num, HT2⟩
              case measure => simp [intOf]; omega
            | false =>
              have HF2 : Hid (ws.all wordOk = false) := by
                show List.all _ _ = false
                rw [List.all_eq_false]
                exact ⟨x, hx, by simp [ho]⟩
              have HO : Hid (wordOk (str x).data.toList = false) := ho
              clear ho
              go_wp2_with (go_at_call 51; refine (rword_any _ _ (by unfold maxLen; rw [str_size]; omega)).mono ?_; rw [HO.out]; rintro e w' ⟨rfl, rfl⟩)
              go_ret
              exact ⟨ret_bool (by rw [HT.out, HF2.out]), hB1⟩
          · have hd : decide ((k : Int) < (ws.length : Int)) = false := by simp; omega
            have HT2 : Hid (ws.all wordOk = true) := by
              have := hq.out
              rw [List.take_of_length_le (by omega)] at this
              exact this
            go_wp2_with fail
            go_ret
            exact ⟨ret_bool (by rw [HT.out, HT2.out]), hB1⟩
  · have HF : Hid (verOk a b c p.data.toList = false) := by
      show verOk a b c p.data.toList = false
      have hl : p.data.toList.length = p.size := len_eq p
      simp only [verOk, preOk, partOk, hl]
      by_cases q1 : a ≤ 999999
      · by_cases q2 : b ≤ 999999
        · by_cases q3 : c ≤ 999999
          · have q4 : ¬ p.size ≤ 40 := fun q => h4 ⟨q, q1, q2, q3⟩
            simp [q4]
          · simp [q3]
        · simp [q2]
      · simp [q1]
    go_enter Tryz.func22, Tryz.ntmps22
    go_wp2_with fail
    all_goals first
      | (exfalso; omega)
      | (go_ret
         exact ⟨ret_bool HF.out.symm, (Below.refl _ _).alloc (Nat.le_refl _) _⟩)

end Go.Proofs.YtninheehoabbbaaGreatDoor

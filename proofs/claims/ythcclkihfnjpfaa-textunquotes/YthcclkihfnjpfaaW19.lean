/-
  Contract of the reference's Unquote.
-/
import Derived.Test.YthcclkihfnjpfaaW18
namespace Go.Proofs.Ythcclkihfnjpfaa
set_option linter.unusedVariables false
open Go.RowKit Go.Joins Go.Tx

theorem unq_a (s : ByteArray) (k : Nat) (h : k < s.size) (sd : List UInt8) (uq : Option (List UInt8 × Nat)) (H : Hid ((unq (s.data.toList.drop k)).map (fun y => (sd ++ y.1, y.2 + k)) = uq)) (hc : ((s[k].toNat : Int) == 34) = true) : Hid (uq = some (sd, k + 1)) := by
  have e : s[k] = 34 := u8_of (n := 34) (by decide) (by simpa using hc)
  show _ = _
  rw [← H.out, drop_cons s k h, e, unq_cons, if_pos rfl]; simp; omega

theorem unq_b (s : ByteArray) (k : Nat) (h : k < s.size) (sd : List UInt8) (uq : Option (List UInt8 × Nat)) (H : Hid ((unq (s.data.toList.drop k)).map (fun y => (sd ++ y.1, y.2 + k)) = uq)) (h1 : ¬ s[k] = 34) (h2 : ¬ s[k] = 92) (hp : prB (s[k].toNat : Int) = false) : Hid (uq = none) := by
  show _ = _
  rw [← H.out, drop_cons s k h, unq_cons, if_neg h1, if_neg h2, if_neg (by rw [hp]; simp)]; rfl

theorem unq_d (s : ByteArray) (k : Nat) (h : k < s.size) (sd : List UInt8) (uq : Option (List UInt8 × Nat)) (H : Hid ((unq (s.data.toList.drop k)).map (fun y => (sd ++ y.1, y.2 + k)) = uq)) (h1 : ¬ s[k] = 34) (h2 : ¬ s[k] = 92) (hp : prB (s[k].toNat : Int) = true) : Hid ((unq (s.data.toList.drop (k + 1))).map (fun y => ((sd ++ [s[k]]) ++ y.1, y.2 + (k + 1))) = uq) := by
  show _ = _
  rw [← H.out, drop_cons s k h, unq_cons, if_neg h1, if_neg h2, if_pos hp]
  cases unq (s.data.toList.drop (k + 1)) with
  | none => rfl
  | some z => simp; omega

theorem unq_c1 (s : ByteArray) (k : Nat) (h : k < s.size) (sd : List UInt8) (uq : Option (List UInt8 × Nat)) (H : Hid ((unq (s.data.toList.drop k)).map (fun y => (sd ++ y.1, y.2 + k)) = uq)) (h2 : s[k] = 92) (hk : ¬ k + 1 < s.size) : Hid (uq = none) := by
  show _ = _
  rw [← H.out, drop_cons s k h, h2, unq_cons, if_neg (by decide), if_pos rfl, List.drop_eq_nil_of_le (by rw [len_eq]; omega)]; rfl

theorem unq_c2 (s : ByteArray) (k : Nat) (h : k < s.size) (sd : List UInt8) (uq : Option (List UInt8 × Nat)) (H : Hid ((unq (s.data.toList.drop k)).map (fun y => (sd ++ y.1, y.2 + k)) = uq)) (h2 : s[k] = 92) (hk : k + 1 < s.size) (hu : unesc s[k + 1] = none) : Hid (uq = none) := by
  show _ = _
  rw [← H.out, drop_cons s k h, h2, unq_cons, if_neg (by decide), if_pos rfl, drop_cons s (k + 1) hk]
  simp only [hu]
  rfl

theorem unq_c3 (s : ByteArray) (k : Nat) (h : k < s.size) (sd : List UInt8) (uq : Option (List UInt8 × Nat)) (H : Hid ((unq (s.data.toList.drop k)).map (fun y => (sd ++ y.1, y.2 + k)) = uq)) (h2 : s[k] = 92) (hk : k + 1 < s.size) (x : UInt8) (hu : unesc s[k + 1] = some x) : Hid ((unq (s.data.toList.drop (k + 2))).map (fun y => ((sd ++ [x]) ++ y.1, y.2 + (k + 2))) = uq) := by
  show _ = _
  rw [← H.out, drop_cons s k h, h2, unq_cons, if_neg (by decide), if_pos rfl, drop_cons s (k + 1) hk]
  simp only [hu]
  cases unq (s.data.toList.drop (k + 2)) with
  | none => simp
  | some z => simp; omega

theorem unesc_a (c : UInt8) (h : ((c.toNat : Int) == 34) = true) : unesc c = some c := by
  obtain rfl : c = 34 := u8_of (n := 34) (by decide) (by simpa using h)
  rfl
theorem unesc_b (c : UInt8) (h : ((c.toNat : Int) == 92) = true) : unesc c = some c := by
  obtain rfl : c = 92 := u8_of (n := 92) (by decide) (by simpa using h)
  rfl
theorem unesc_c (c : UInt8) (h : ((c.toNat : Int) == 47) = true) : unesc c = some c := by
  obtain rfl : c = 47 := u8_of (n := 47) (by decide) (by simpa using h)
  rfl
theorem unesc_n (c : UInt8) (h : ((c.toNat : Int) == 110) = true) : unesc c = some 10 := by
  obtain rfl : c = 110 := u8_of (n := 110) (by decide) (by simpa using h)
  rfl
theorem unesc_t (c : UInt8) (h : ((c.toNat : Int) == 116) = true) : unesc c = some 9 := by
  obtain rfl : c = 116 := u8_of (n := 116) (by decide) (by simpa using h)
  rfl
theorem unesc_no (c : UInt8) (h1 : ((c.toNat : Int) == 34) = false) (h2 : ((c.toNat : Int) == 92) = false) (h3 : ((c.toNat : Int) == 47) = false) (h4 : ((c.toNat : Int) == 110) = false) (h5 : ((c.toNat : Int) == 116) = false) : unesc c = none := by
  have e1 : c ≠ 34 := by rintro rfl; cases h1
  have e2 : c ≠ 92 := by rintro rfl; cases h2
  have e3 : c ≠ 47 := by rintro rfl; cases h3
  have e4 : c ≠ 110 := by rintro rfl; cases h4
  have e5 : c ≠ 116 := by rintro rfl; cases h5
  simp [unesc, e1, e2, e3, e4, e5]

set_option maxHeartbeats 1000000 in
set_option maxRecDepth 100000 in
theorem runquote_any (s : ByteArray) (w : World) (hs : s.size ≤ 2000000000000) (uq : Option (List UInt8 × Nat)) (HU : Hid (unquote s.data.toList = uq)) :
    Calls Try.prog 38 #[.string s] w fun x w' => x = .returned (unqV uq) ∧ w' = w := by
  by_cases h0 : s.size = 0
  · obtain rfl : s = ⟨#[]⟩ := ba_ext (List.eq_nil_of_length_eq_zero (by rw [len_eq]; exact h0))
    have HN : Hid (uq = none) := by show _ = _; rw [← HU.out]; rfl
    go_enter Try.func38, Try.ntmps38
    go_wp2_with fail
    go_ret3
    exact ⟨by rw [HN.out]; rfl, rfl⟩
  have hne : s.toList.isEmpty = false := by
    rw [ByteArray.toList_eq]
    cases hl : s.data.toList with
    | nil => exact absurd (by rw [← len_eq, hl]; rfl) h0
    | cons a l => rfl
  have hl0 : s.data.toList = s[0] :: s.data.toList.drop 1 := drop_cons s 0 (by omega)
  by_cases h34 : (s[0].toNat : Int) = 34
  · have e34 : s[0] = 34 := u8_of (n := 34) (by decide) h34
    have HQ : Hid ((unq (s.data.toList.drop 1)).map (fun y => (([] : List UInt8) ++ y.1, y.2 + 1)) = uq) := by
      show _ = _
      rw [← HU.out]
      conv => rhs; rw [hl0, e34]
      rfl
    have hd : ((s[0].toNat : Int) != 34) = false := by simp [h34]
    have hsz : 1 ≤ s.size := by omega
    clear hl0 e34 h34 HU
    go_enter Try.func38, Try.ntmps38
    go_wp2_with fail
    go_loop [5, 6] (fun o i => ∃ (k : Nat) (sd : List UInt8), 1 ≤ k ∧ k ≤ s.size ∧ sd.length ≤ k ∧ i = .int .i64 k ∧ o = .string (str sd) ∧ Hid ((unq (s.data.toList.drop k)).map (fun y => (sd ++ y.1, y.2 + k)) = uq)) (fun _ i => s.size - (intOf i).toNat)
    case atStart => exact ⟨1, [], by omega, hsz, by simp, rfl, rfl, HQ⟩
    case round =>
      obtain ⟨k, sd, hk1, hks, hsd, rfl, rfl, H⟩ := hrel
      clear HQ hd hne
      have hss : (str sd).size ≤ k := by rw [str_size]; exact hsd
      by_cases hlt : k < s.size
      · have HO : Hid (s.extract k (k + 1) = str [s[k]]) := one_cut s k hlt
        by_cases c1 : s[k] = 34
        · have q1 : ((s[k].toNat : Int) == 34) = true := by rw [c1]; rfl
          have HR := unq_a s k hlt sd uq H q1
          clear c1 H
          go_wp2_with fail
          go_ret3
          exact ⟨by rw [HR.out]; rfl, rfl⟩
        have q1 : ((s[k].toNat : Int) == 34) = false := by simp; intro e; exact c1 (u8_of (n := 34) (by decide) e)
        by_cases c2 : s[k] = 92
        · have q2 : ((s[k].toNat : Int) == 92) = true := by rw [c2]; rfl
          have q3 : decide ((s[k].toNat : Int) < 32) = false := by rw [c2]; rfl
          have q4 : decide (126 < (s[k].toNat : Int)) = false := by rw [c2]; rfl
          by_cases hk2 : k + 1 < s.size
          · have HO2 : Hid (s.extract (k + 1) (k + 1 + 1) = str [s[k + 1]]) := one_cut s (k + 1) hk2
            have HC2 : Hid _ := unq_c2 s k hlt sd uq H c2 hk2
            have HC3 : Hid _ := unq_c3 s k hlt sd uq H c2 hk2
            clear c1 c2 H
            go_wp2_with fail
            · go_round
              case rel => exact ⟨k + 2, sd ++ [s[k + 1]], by omega, by omega, by simp; omega, by go_num, by rw [HO2.out, str_app], HC3.out _ (unesc_a _ (by assumption))⟩
              case measure => simp [intOf]; omega
            · go_round
              case rel => exact ⟨k + 2, sd ++ [s[k + 1]], by omega, by omega, by simp; omega, by go_num, by rw [HO2.out, str_app], HC3.out _ (unesc_b _ (by assumption))⟩
              case measure => simp [intOf]; omega
            · go_round
              case rel => exact ⟨k + 2, sd ++ [s[k + 1]], by omega, by omega, by simp; omega, by go_num, by rw [HO2.out, str_app], HC3.out _ (unesc_c _ (by assumption))⟩
              case measure => simp [intOf]; omega
            · go_round
              case rel => exact ⟨k + 2, sd ++ [10], by omega, by omega, by simp; omega, by go_num, (congrArg Value.string (str_app sd [10])), HC3.out _ (unesc_n _ (by assumption))⟩
              case measure => simp [intOf]; omega
            · go_round
              case rel => exact ⟨k + 2, sd ++ [9], by omega, by omega, by simp; omega, by go_num, (congrArg Value.string (str_app sd [9])), HC3.out _ (unesc_t _ (by assumption))⟩
              case measure => simp [intOf]; omega
            · have HR := HC2.out (unesc_no _ (by assumption) (by assumption) (by assumption) (by assumption) (by assumption))
              go_ret3
              exact ⟨by rw [HR.out]; rfl, rfl⟩
          · have HR := unq_c1 s k hlt sd uq H c2 hk2
            clear c1 c2 H
            go_wp2_with fail
            go_ret3
            exact ⟨by rw [HR.out]; rfl, rfl⟩
        · have q2 : ((s[k].toNat : Int) == 92) = false := by simp; intro e; exact c2 (u8_of (n := 92) (by decide) e)
          by_cases c3 : (s[k].toNat : Int) < 32
          · have q3 : decide ((s[k].toNat : Int) < 32) = true := by simpa using c3
            have HR := unq_b s k hlt sd uq H c1 c2 (by simp [prB]; omega)
            clear c1 c2 H c3
            go_wp2_with fail
            go_ret3
            exact ⟨by rw [HR.out]; rfl, rfl⟩
          have q3 : decide ((s[k].toNat : Int) < 32) = false := by simpa using c3
          by_cases c4 : 126 < (s[k].toNat : Int)
          · have q4 : decide (126 < (s[k].toNat : Int)) = true := by simpa using c4
            have HR := unq_b s k hlt sd uq H c1 c2 (by simp [prB]; omega)
            clear c1 c2 H c3 c4
            go_wp2_with fail
            go_ret3
            exact ⟨by rw [HR.out]; rfl, rfl⟩
          · have q4 : decide (126 < (s[k].toNat : Int)) = false := by simpa using c4
            have HR := unq_d s k hlt sd uq H c1 c2 (by simp [prB]; omega)
            clear c1 c2 H c3 c4
            go_wp2_with fail
            go_round
            case rel => exact ⟨k + 1, sd ++ [s[k]], by omega, by omega, by simp; omega, by go_num, by rw [HO.out, str_app], HR⟩
            case measure => simp [intOf]; omega
      · have HR : Hid (uq = none) := by
          show _ = _
          rw [← H.out, List.drop_eq_nil_of_le (by rw [len_eq]; omega)]; rfl
        clear H
        go_wp2_with fail
        go_ret3
        exact ⟨by rw [HR.out]; rfl, rfl⟩
  · have HN : Hid (uq = none) := by
      show _ = _
      rw [← HU.out, hl0]
      exact if_neg (fun e => h34 (by rw [e]; rfl))
    have hd : ((s[0].toNat : Int) != 34) = true := by simpa using h34
    clear hl0
    go_enter Try.func38, Try.ntmps38
    go_wp2_with fail
    go_ret3
    exact ⟨by rw [HN.out]; rfl, rfl⟩

end Go.Proofs.Ythcclkihfnjpfaa

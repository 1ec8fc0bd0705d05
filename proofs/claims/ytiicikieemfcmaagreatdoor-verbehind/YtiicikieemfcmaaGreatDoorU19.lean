/-
  Contract of the reference's Behind.
-/
import Derived.Test.YtiicikieemfcmaaGreatDoorU18
namespace Go.Proofs.YtiicikieemfcmaaGreatDoor
set_option linter.unusedSimpArgs false
set_option linter.unusedVariables false
open Go.RowKit Go.Vr Go.Sort Go.Tx Go.Lib
attribute [local go_sem] setCellDrewN allocDrewN

theorem stamp_size (x : ByteArray) (h : x.size ≠ 27) : isStamp x.data.toList = false := by
  unfold isStamp; rw [len_eq]; simp [h]
theorem stamp_mid (x : ByteArray) (h : 14 < x.size) (h2 : x[14] ≠ 45) : isStamp x.data.toList = false := by
  unfold isStamp
  have e : x.data.toList[14]? = some x[14] := by
    rw [List.getElem?_eq_getElem (by rw [len_eq]; exact h)]; rfl
  rw [e]; simp [h2]
theorem stamp_rest (x : ByteArray) (h : x.size = 27) (h2 : x[14] = 45) : isStamp x.data.toList = (digs (x.extract 0 14).data.toList && idOk (x.extract 15 x.size).data.toList) := by
  have e : x.data.toList[14]? = some x[14] := by
    rw [List.getElem?_eq_getElem (by rw [len_eq]; omega)]; rfl
  have e1 : (x.extract 0 14).data.toList = x.data.toList.take 14 := by rw [ext_list]; simp
  have e2 : (x.extract 15 x.size).data.toList = x.data.toList.drop 15 := by
    rw [ext_list]; exact List.take_of_length_le (by rw [List.length_drop, len_eq]; omega)
  have l1 : (x.data.toList.take 14).length = 14 := by rw [List.length_take, len_eq]; omega
  have l2 : (x.data.toList.drop 15).length = 12 := by rw [List.length_drop, len_eq]; omega
  unfold isStamp digs idOk
  rw [e, e1, e2, len_eq, h2, l2]
  have l3 : (x.data.toList.take 14).isEmpty = false := by
    cases he : x.data.toList.take 14 with
    | nil => rw [he] at l1; simp at l1
    | cons c l => rfl
  rw [l3]
  simp [h]
theorem bret_none (l : Bs) (h : isStamp (lastW l) = false) : Ending.returned (.tuple #[.int .i64 0, .string ⟨#[]⟩, .bool false]) = .returned (bret (behind l)) := by
  unfold behind; rw [h]; rfl
theorem digit_bd (x : ByteArray) (k : Nat) (h : k < x.size) (hk : k < 14) (hd : (x.data.toList.take 14).all isDig = true) : 48 ≤ ((x[k]).toNat : Int) ∧ ((x[k]).toNat : Int) ≤ 57 := by
  have hm : x[k] ∈ x.data.toList.take 14 := by
    have : (x.data.toList.take 14)[k]? = some x[k] := by
      rw [List.getElem?_take_of_lt hk, List.getElem?_eq_getElem (by rw [len_eq]; exact h)]; rfl
    exact List.mem_of_getElem? this
  have := List.all_eq_true.1 hd _ hm
  simp only [isDig, Bool.and_eq_true, decide_eq_true_eq] at this
  exact this
theorem val_bd (x : ByteArray) (k : Nat) (h : k ≤ x.size) (hk : k ≤ 14) (hd : (x.data.toList.take 14).all isDig = true) : 0 ≤ numVal (x.data.toList.take k) ∧ numVal (x.data.toList.take k) ≤ 99999999999999 := by
  have hd2 : (x.data.toList.take k).all isDig = true := by
    have : x.data.toList.take k = (x.data.toList.take 14).take k := by rw [List.take_take]; congr 1; omega
    rw [this]; exact all_take k _ hd
  obtain ⟨h1, h2⟩ := numVal_bd x k h hd2
  have h3 : ((10 ^ k : Nat) : Int) ≤ ((10 ^ 14 : Nat) : Int) := Int.ofNat_le.2 (Nat.pow_le_pow_right (by omega) hk)
  have h5 : ((10 ^ k : Nat) : Int) = (10 : Int) ^ k := by simp
  rw [h5] at h3
  omega

set_option maxHeartbeats 4000000 in
set_option maxRecDepth 100000 in
theorem rbehind_any (v : V) (w : World) (hp : v.p.size ≤ 1000) :
    Calls Tryz.prog 32 #[val v] w fun e w' => e = .returned (bret (behind v.p.data.toList)) ∧ Below w.heap.size w w' := by
  obtain ⟨a, b, c, p⟩ := v
  have hp : p.size ≤ 1000 := hp
  show Calls _ _ _ _ fun e w' => e = .returned (bret (behind p.data.toList)) ∧ Below w.heap.size w w'
  go_enter Tryz.func32, Tryz.ntmps32
  go_wp2_with fail
  refine (rwords_any p _ (by omega)).mono ?_
  rintro e w1 ⟨v, rfl, hown, hB⟩
  have hB1 := ((Below.refl w.heap.size w).alloc (Nat.le_refl _) (.cells #[.int .i64 a, .int .i64 b, .int .i64 c, .string p] 24)).trans (hB.mono (by simp))
  have hne := words_ne p.data.toList
  have hcnt := words_count p.data.toList
  have HL : Hid ((words p.data.toList).getD ((words p.data.toList).length - 1) [] = lastW p.data.toList) := by
    show _ = _
    unfold lastW
    rw [List.getLast_eq_getElem, List.getD_eq_getElem?_getD, List.getElem?_eq_getElem (by have := List.length_pos_iff.2 hne; omega)]; rfl
  have hlen : (words p.data.toList).length ≤ 5000 := by rw [len_eq] at hcnt; omega
  have BN := hide (bret_none p.data.toList)
  have BH : Hid (isStamp (lastW p.data.toList) = true → bret (behind p.data.toList) = bret (some (numVal ((lastW p.data.toList).take 14), (lastW p.data.toList).drop 15))) := fun h => by unfold behind; rw [if_pos h]
  obtain ⟨L, hL⟩ : ∃ L, (words p.data.toList).length = L + 1 := ⟨(words p.data.toList).length - 1, by have := List.length_pos_iff.2 hne; omega⟩
  obtain ⟨g, cap, rfl, hg, hnc, hcm, hcell⟩ := own_at hown (List.length_pos_iff.2 hne)
  have cl := hcell L (by omega)
  rw [hL] at HL
  have HL2 : Hid (str ((words p.data.toList).getD L []) = str (lastW p.data.toList)) := by
    show _ = _
    have := HL.out
    rw [show L + 1 - 1 = L by omega] at this
    rw [this]
  rw [HL2.out] at cl
  clear hown hne hB hg hcm hcell HL HL2 hcnt
  generalize (words p.data.toList).length = n at *
  obtain ⟨x, hx⟩ : ∃ x : ByteArray, x = str (lastW p.data.toList) := ⟨_, rfl⟩
  have hxl : x.data.toList = lastW p.data.toList := by rw [hx, str_list]
  rw [← hx] at cl
  rw [← hxl] at BN BH
  clear hx hxl
  subst hL
  have wL : IntKind.i64.wrap (((L + 1 : Nat) : Int) - 1) = (L : Int) := by rw [IntKind.wrap_i64]; omega
  have i1 : (0 : Int) ≤ (L : Int) := by omega
  have i2 : (L : Int) < ((L + 1 : Nat) : Int) := by omega
  by_cases h27 : x.size = 27
  · have d27 : ((x.size : Int) != 27) = false := by simp; omega
    have k14 : (14 : Int) < (x.size : Int) := by omega
    have k14' : (14 : Int) ≤ (x.size : Int) := by omega
    have k15 : (15 : Int) ≤ (x.size : Int) := by omega
    have kk : (14 : Nat) < x.size := by omega
    have HS := hide h27
    clear h27
    by_cases h45 : x[14] = 45
    · have d45 : (((x[14]).toNat : Int) != 45) = false := by rw [h45]; rfl
      have SR := hide (stamp_rest x HS.out h45)
      have CD := hide (fun W => rdigs_any (x.extract 0 14) W (by rw [ByteArray.size_extract]; unfold maxLen; have := HS.out; omega))
      have CI := hide (fun W => rid_any (x.extract 15 x.size) W (by rw [ByteArray.size_extract]; unfold maxLen; have := HS.out; omega))
      have H45 := hide h45
      clear h45
      cases hdg : digs (x.extract 0 14).data.toList with
      | false =>
        rw [hdg] at CD SR
        go_wp2_with fail
        refine (CD.out _).mono ?_
        rintro e w2 ⟨rfl, rfl⟩
        go_wp2_with fail
        go_ret3
        exact ⟨BN.out (by rw [SR.out]; rfl), hB1⟩
      | true =>
        rw [hdg] at CD SR
        cases hid : idOk (x.extract 15 x.size).data.toList with
        | false =>
          rw [hid] at CI SR
          go_wp2_with fail
          refine (CD.out _).mono ?_
          rintro e w2 ⟨rfl, rfl⟩
          go_wp2_with fail
          refine (CI.out _).mono ?_
          rintro e w3 ⟨rfl, rfl⟩
          go_wp2_with fail
          go_ret3
          exact ⟨BN.out (by rw [SR.out]; rfl), hB1⟩
        | true =>
          rw [hid] at CI SR
          have hall : (x.data.toList.take 14).all isDig = true := by
            have := hdg
            unfold digs at this
            rw [Bool.and_eq_true] at this
            have e1 : (x.extract 0 14).data.toList = x.data.toList.take 14 := by rw [ext_list]; simp
            rw [e1] at this
            exact this.2
          have HA := hide hall
          have FN : Hid (Ending.returned (.tuple #[.int .i64 (numVal (x.data.toList.take 14)), .string (x.extract 15 x.size), .bool true]) = .returned (bret (behind p.data.toList))) := by
            show _ = _
            have e2 : (x.extract 15 x.size).data.toList = x.data.toList.drop 15 := by
              rw [ext_list]; exact List.take_of_length_le (by rw [List.length_drop, len_eq]; omega)
            rw [BH.out (by rw [SR.out]; rfl), bret_some, e2]
          clear hall hdg hid
          go_wp2_with fail
          refine (CD.out _).mono ?_
          rintro e w2 ⟨rfl, rfl⟩
          go_wp2_with fail
          refine (CI.out _).mono ?_
          rintro e w3 ⟨rfl, rfl⟩
          go_wp2_with fail
          go_loop [7, 8] (fun n i => ∃ k : Nat, k ≤ 14 ∧ i = .int .i64 k ∧ n = .int .i64 (numVal (x.data.toList.take k))) (fun _ i => 14 - (RowKit.intOf i).toNat)
          case atStart => exact ⟨0, Nat.zero_le _, rfl, rfl⟩
          case round =>
            obtain ⟨k, hk, rfl, rfl⟩ := hrel
            obtain ⟨b1, b2⟩ := val_bd x k (by have := HS.out; omega) hk HA.out
            by_cases hlt : k < 14
            · have hks : k < x.size := by have := HS.out; omega
              have HV : Hid (numVal (x.data.toList.take (k + 1)) = numVal (x.data.toList.take k) * 10 + (((x[k]).toNat : Int) - 48)) := numVal_take x k hks
              obtain ⟨g1, g2⟩ := digit_bd x k hks hlt HA.out
              have dl : decide ((k : Int) < 14) = true := by simp; omega
              generalize numVal (x.data.toList.take k) = nv at *
              go_wp2
              go_round
              case rel => exact ⟨k + 1, by omega, by go_num, by rw [HV.out]; try go_num⟩
              case measure => simp [RowKit.intOf]; omega
            · obtain rfl : k = 14 := by omega
              have dl : decide (((14 : Nat) : Int) < 14) = false := by simp
              go_wp2_with fail
              go_quiet (fail)
              go_wp2_with fail
              go_ret3
              exact ⟨FN.out, step hB1 (belDrewN _ _)⟩
    · have d45 : (((x[14]).toNat : Int) != 45) = true := by
        simp
        intro e
        apply h45
        have : (x[14]).toNat = 45 := by omega
        exact UInt8.toNat_inj.1 this
      go_wp2_with fail
      go_ret3
      exact ⟨BN.out (stamp_mid x kk h45), hB1⟩
  · have d27 : ((x.size : Int) != 27) = true := by simp; omega
    go_wp2_with fail
    go_ret3
    exact ⟨BN.out (stamp_size x h27), hB1⟩

end Go.Proofs.YtiicikieemfcmaaGreatDoor

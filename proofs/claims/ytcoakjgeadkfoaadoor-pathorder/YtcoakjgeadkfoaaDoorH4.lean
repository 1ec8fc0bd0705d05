/-
  Contracts of the reference's Fits; of path's Within, rightWord, Right, number, lineOf, Major, Fits.
-/
import Derived.Test.YtcoakjgeadkfoaaDoorH3
namespace Go.Proofs.YtcoakjgeadkfoaaDoor
set_option linter.unusedSimpArgs false
set_option linter.unusedVariables false
open Go.RowKit Go.Vr Go.Sort Go.Tx Go.Pa Go.Lib
attribute [local go_sem] setCellDrewN allocDrewN

theorem fits_when (s : Bs) (a : Int) : fits s a = (((maj s).2 == a) || (((maj s).2 == 0) && (a == 1))) := rfl

theorem inside_when (s r : ByteArray) : inside s.data.toList r.data.toList = (hasPrefix s.data.toList r.data.toList && ((str (trimPrefix s.data.toList r.data.toList)).toList.isEmpty || (match trimPrefix s.data.toList r.data.toList with | [] => true | c :: _ => c == 47))) := by
  unfold inside trimPrefix
  cases h : hasPrefix s.data.toList r.data.toList with
  | false => rfl
  | true =>
    simp only [if_true, Bool.true_and]
    rw [toList_data, str_list]
    cases s.data.toList.drop r.data.toList.length with
    | nil => rfl
    | cons c d => rfl

set_option maxHeartbeats 2000000 in
set_option maxRecDepth 100000 in
theorem pwithin_any (s r : ByteArray) (w : World) :
    Calls Tryd.prog 14 #[.string s, .string r] w fun e w' => e = .returned (.bool (inside s.data.toList r.data.toList)) ∧ w' = w := by
  have CC := hide (fun W => cutPrefix_any s r W)
  have HI := hide (inside_when s r)
  cases hp : hasPrefix s.data.toList r.data.toList with
  | false =>
    have HX : Hid (inside s.data.toList r.data.toList = false) := by show _ = _; rw [HI.out, hp]; rfl
    rw [hp] at CC
    clear HI hp
    go_enter Tryd.func14, Tryd.ntmps14
    go_wp2_with fail
    refine (CC.out _).mono ?_
    rintro e w1 ⟨rfl, rfl⟩
    go_wp2_with fail
    go_ret
    exact ⟨ret_bool HX.out.symm, rfl⟩
  | true =>
    rw [hp] at CC
    cases ht : trimPrefix s.data.toList r.data.toList with
    | nil =>
      have HX : Hid (inside s.data.toList r.data.toList = true) := by show _ = _; rw [HI.out, hp, ht]; simp
      rw [ht] at CC
      have e0 : (str []).toList.isEmpty = true := by rw [toList_data]; rfl
      generalize str [] = x at *
      clear HI hp ht
      go_enter Tryd.func14, Tryd.ntmps14
      go_wp2_with fail
      refine (CC.out _).mono ?_
      rintro e w1 ⟨rfl, rfl⟩
      go_wp2_with fail
      go_ret
      exact ⟨ret_bool HX.out.symm, rfl⟩
    | cons c d =>
      have HX : Hid (inside s.data.toList r.data.toList = (c == 47)) := by
        show _ = _
        rw [HI.out, hp, ht]
        have : (str (c :: d)).toList.isEmpty = false := by rw [toList_data]; rfl
        rw [this]; rfl
      rw [ht] at CC
      have e0 : (str (c :: d)).toList.isEmpty = false := by rw [toList_data]; rfl
      have e1 : 0 < (str (c :: d)).size := by rw [str_size]; simp
      have e2 : (str (c :: d))[0] = c := rfl
      generalize str (c :: d) = x at *
      have e3 : (c == 47) = (((x[0]).toNat : Int) == 47) := by
        rw [e2, Bool.eq_iff_iff, beq_iff_eq, beq_iff_eq]
        constructor
        · rintro rfl; rfl
        · intro h; exact UInt8.toNat_inj.1 (by show _ = 47; omega)
      rw [e3] at HX
      clear HI hp ht e2 e3
      go_enter Tryd.func14, Tryd.ntmps14
      go_wp2_with fail
      refine (CC.out _).mono ?_
      rintro e w1 ⟨rfl, rfl⟩
      go_wp2_with fail
      go_ret
      exact ⟨ret_bool HX.out.symm, rfl⟩

theorem trim_len (s p : Bs) : (trimPrefix s p).length ≤ s.length := by
  unfold trimPrefix
  split
  · simp
  · simp
theorem wOk_when (s : ByteArray) : wOk s.data.toList = (!(s.toList.isEmpty || (s.toList == [46]) || (s.toList == [46, 46])) && s.data.toList.all sgn) := by
  unfold wOk badW
  rw [toList_data]
  cases s.data.toList with
  | nil => rfl
  | cons c d => rfl

set_option maxHeartbeats 2000000 in
set_option maxRecDepth 100000 in
theorem rightWord_any (s : ByteArray) (w : World) (hs : s.size ≤ 5000) :
    Calls Tryd.prog 23 #[.string s] w fun e w' => e = .returned (.bool (wOk s.data.toList)) ∧ w' = w := by
  have HW := hide (wOk_when s)
  cases h0 : s.toList.isEmpty with
  | true =>
    have HX : Hid (wOk s.data.toList = false) := by show _ = _; rw [HW.out, h0]; rfl
    go_enter Tryd.func23, Tryd.ntmps23
    go_wp2_with fail
    go_ret
    exact ⟨ret_bool HX.out.symm, rfl⟩
  | false =>
    cases h1 : (s.toList == [46]) with
    | true =>
      have HX : Hid (wOk s.data.toList = false) := by show _ = _; rw [HW.out, h0, h1]; rfl
      go_enter Tryd.func23, Tryd.ntmps23
      go_wp2_with fail
      go_ret
      exact ⟨ret_bool HX.out.symm, rfl⟩
    | false =>
      cases h2 : (s.toList == [46, 46]) with
      | true =>
        have HX : Hid (wOk s.data.toList = false) := by show _ = _; rw [HW.out, h0, h1, h2]; rfl
        go_enter Tryd.func23, Tryd.ntmps23
        go_wp2_with fail
        go_ret
        exact ⟨ret_bool HX.out.symm, rfl⟩
      | false =>
        have HX : Hid (wOk s.data.toList = s.data.toList.all sgn) := by show _ = _; rw [HW.out, h0, h1, h2]; rfl
        clear HW
        have CI : Hid (∀ (c : Int) (W : World), Calls Tryd.prog 28 #[.string ⟨#[97, 98, 99, 100, 101, 102, 103, 104, 105, 106, 107, 108, 109, 110, 111, 112, 113, 114, 115, 116, 117, 118, 119, 120, 121, 122, 48, 49, 50, 51, 52, 53, 54, 55, 56, 57, 46, 45, 95]⟩, .int .u8 c] W fun e w' => e = .returned (.int .i64 (indexByte sgL c.toNat.toUInt8)) ∧ w' = W) := fun c W => indexByte_any _ c W
        go_enter Tryd.func23, Tryd.ntmps23
        go_wp2_with fail
        go_loop [16] (fun i => ∃ k : Nat, k ≤ s.size ∧ i = .int .i64 k ∧ Hid ((s.data.toList.take k).all sgn = true)) (fun i => s.size - (RowKit.intOf i).toNat)
        case atStart => exact ⟨0, Nat.zero_le _, rfl, rfl⟩
        case round =>
          obtain ⟨k, hk, rfl, hp⟩ := hrel
          by_cases hlt : k < s.size
          · have hb := sgn_is s[k]
            have hbk : ((((s[k]).toNat : Int)).toNat).toUInt8 = s[k] := by simp
            cases hc : sgn s[k] with
            | true =>
              have HT : Hid ((s.data.toList.take (k + 1)).all sgn = true) := by
                show List.all _ _ = true
                rw [all_take_succ _ s k hlt, hp.out, hc]; rfl
              rw [hc] at hb
              have CK := CI.out ((s[k]).toNat : Int)
              rw [hbk] at CK
              have CK2 := hide CK
              generalize indexByte sgL s[k] = q at *
              clear CK CI hbk hc
              go_wp2_with fail
              refine (CK2.out _).mono ?_
              rintro e w1 ⟨rfl, rfl⟩
              go_wp2_with fail
              go_round
              case rel => exact ⟨k + 1, by omega, by go_num, HT⟩
              case measure => simp [RowKit.intOf]; omega
            | false =>
              have HF : Hid (s.data.toList.all sgn = false) := all_not _ s k hlt hc
              rw [hc] at hb
              have CK := CI.out ((s[k]).toNat : Int)
              rw [hbk] at CK
              have CK2 := hide CK
              generalize indexByte sgL s[k] = q at *
              clear CK CI hbk hc
              go_wp2_with fail
              refine (CK2.out _).mono ?_
              rintro e w1 ⟨rfl, rfl⟩
              go_wp2_with fail
              go_ret
              exact ⟨ret_bool (by rw [HX.out, HF.out]), rfl⟩
          · have dk : decide ((k : Int) < (s.size : Int)) = false := by simp; omega
            have HT : Hid (s.data.toList.all sgn = true) := by rw [← Tx.take_all s k (by omega)]; exact hp
            go_wp2_with fail
            go_ret
            exact ⟨ret_bool (by rw [HX.out, HT.out]), rfl⟩

end Go.Proofs.YtcoakjgeadkfoaaDoor

/-
  Contracts of the reference's order, Id.
-/
import Derived.Test.YtninheehoabbbaaGreatDoorV7
namespace Go.Proofs.YtninheehoabbbaaGreatDoor
set_option linter.unusedSimpArgs false
set_option linter.unusedVariables false
open Go.RowKit Go.Vr Go.Sort Go.Tx Go.Lib

theorem less_cmp : ∀ l k : List UInt8, compareBytes l k = if Op.bytesLess l k = true then -1 else if (l == k) = true then 0 else 1
  | [], [] => rfl
  | [], _ :: _ => rfl
  | _ :: _, [] => rfl
  | a :: l, b :: k => by
    have ih := less_cmp l k
    unfold compareBytes Op.bytesLess
    by_cases h1 : a < b
    · simp [h1]
    · by_cases h2 : b < a
      · have hne : a ≠ b := by rintro rfl; exact h1 h2
        simp [h1, h2, hne]
      · have : a = b := by
          rw [UInt8.lt_iff_toNat_lt] at h1 h2
          exact UInt8.toNat_inj.1 (by omega)
        subst this
        rw [if_neg h1, if_neg h2, ih]
        simp
theorem cmp_less {x y : ByteArray} (h : Op.bytesLess x.toList y.toList = true) : compareBytes x.data.toList y.data.toList = -1 := by
  rw [less_cmp, ← toList_data, ← toList_data, if_pos h]
theorem cmp_more {x y : ByteArray} (h : Op.bytesLess x.toList y.toList = false) (k : (!x.toList == y.toList) = true) : compareBytes x.data.toList y.data.toList = 1 := by
  rw [less_cmp, ← toList_data, ← toList_data, if_neg (by simp [h]), if_neg (by simpa using k)]
theorem cmp_same {x y : ByteArray} (h : Op.bytesLess x.toList y.toList = false) (k : (!x.toList == y.toList) = false) : compareBytes x.data.toList y.data.toList = 0 := by
  rw [less_cmp, ← toList_data, ← toList_data, if_neg (by simp [h]), if_pos (by simpa using k)]
theorem cmpW_both {x y : List UInt8} (hp : digs x = true) (hq : digs y = true) : cmpW x y = seq (compareInt x.length y.length) (compareBytes x y) := by
  unfold cmpW kind klen
  rw [hp, hq]; rfl
theorem cmpW_none {x y : List UInt8} (hp : digs x = false) (hq : digs y = false) : cmpW x y = compareBytes x y := by
  unfold cmpW kind klen
  rw [hp, hq]; rfl
theorem cmpW_left {x y : List UInt8} (hp : digs x = true) (hq : digs y = false) : cmpW x y = -1 := by
  unfold cmpW kind klen
  rw [hp, hq]; rfl
theorem cmpW_right {x y : List UInt8} (hp : digs x = false) (hq : digs y = true) : cmpW x y = 1 := by
  unfold cmpW kind klen
  rw [hp, hq]; rfl

set_option maxHeartbeats 1000000 in
theorem rorder_any (x y : ByteArray) (w : World) (hx : x.size ≤ 10000) (hy : y.size ≤ 10000) :
    Calls Tryz.prog 127 #[.string x, .string y] w fun e w' => e = .returned (.int .i64 (cmpW x.data.toList y.data.toList)) ∧ w' = w := by
  cases hp : digs x.data.toList with
  | true =>
    cases hq : digs y.data.toList with
    | true =>
      have HP : Hid _ := hp
      have HQ : Hid _ := hq
      have HC : Hid (cmpW x.data.toList y.data.toList = seq (compareInt x.size y.size) (compareBytes x.data.toList y.data.toList)) := by show cmpW _ _ = _; rw [cmpW_both hp hq, len_eq, len_eq]
      clear hp hq
      by_cases he : x.size = y.size
      · have h1 : ((x.size : Int) != (y.size : Int)) = false := by simp; omega
        have HE : Hid (compareInt x.size y.size = 0) := by show compareInt _ _ = 0; rw [he]; exact ord_int.refl _
        clear he
        go_enter Tryz.func127, Tryz.ntmps127
        go_wp2_with fail
        refine (rdigs_any _ _ (by unfold maxLen; omega)).mono ?_
        rw [HP.out]
        rintro e w1 ⟨rfl, rfl⟩
        go_wp2_with fail
        refine (rdigs_any _ _ (by unfold maxLen; omega)).mono ?_
        rw [HQ.out]
        rintro e w1 ⟨rfl, rfl⟩
        go_wp2_with fail
        all_goals
          go_ret
          exact ⟨ret_int (by rw [HC.out, HE.out, seq_zero]; first | rw [cmp_less ‹_›] | rw [cmp_more ‹_› ‹_›] | rw [cmp_same ‹_› ‹_›]), rfl⟩
      · have h1 : ((x.size : Int) != (y.size : Int)) = true := by simp; omega
        have HE : Hid (compareInt x.size y.size ≠ 0) := by
          show compareInt _ _ ≠ 0
          intro e; have := (ord_int.eq _ _).1 e; omega
        clear he
        go_enter Tryz.func127, Tryz.ntmps127
        go_wp2_with fail
        refine (rdigs_any _ _ (by unfold maxLen; omega)).mono ?_
        rw [HP.out]
        rintro e w1 ⟨rfl, rfl⟩
        go_wp2_with fail
        refine (rdigs_any _ _ (by unfold maxLen; omega)).mono ?_
        rw [HQ.out]
        rintro e w1 ⟨rfl, rfl⟩
        go_wp2_with fail
        refine (rsign_any _ _ _).mono ?_
        rintro e w1 ⟨rfl, rfl⟩
        go_wp2_with fail
        go_ret
        exact ⟨ret_int (by rw [HC.out, seq_ne HE.out]), rfl⟩
    | false =>
      have HP : Hid _ := hp
      have HQ : Hid _ := hq
      have HC : Hid _ := cmpW_left hp hq
      clear hp hq
      go_enter Tryz.func127, Tryz.ntmps127
      go_wp2_with fail
      refine (rdigs_any _ _ (by unfold maxLen; omega)).mono ?_
      rw [HP.out]
      rintro e w1 ⟨rfl, rfl⟩
      go_wp2_with fail
      refine (rdigs_any _ _ (by unfold maxLen; omega)).mono ?_
      rw [HQ.out]
      rintro e w1 ⟨rfl, rfl⟩
      go_wp2_with fail
      go_ret
      exact ⟨ret_int (by rw [HC.out]), rfl⟩
  | false =>
    cases hq : digs y.data.toList with
    | true =>
      have HP : Hid _ := hp
      have HQ : Hid _ := hq
      have HC : Hid _ := cmpW_right hp hq
      clear hp hq
      go_enter Tryz.func127, Tryz.ntmps127
      go_wp2_with fail
      refine (rdigs_any _ _ (by unfold maxLen; omega)).mono ?_
      rw [HP.out]
      rintro e w1 ⟨rfl, rfl⟩
      go_wp2_with fail
      refine (rdigs_any _ _ (by unfold maxLen; omega)).mono ?_
      rw [HQ.out]
      rintro e w1 ⟨rfl, rfl⟩
      go_wp2_with fail
      go_ret
      exact ⟨ret_int (by rw [HC.out]), rfl⟩
    | false =>
      have HP : Hid _ := hp
      have HQ : Hid _ := hq
      have HC : Hid _ := cmpW_none hp hq
      clear hp hq
      go_enter Tryz.func127, Tryz.ntmps127
      go_wp2_with fail
      refine (rdigs_any _ _ (by unfold maxLen; omega)).mono ?_
      rw [HP.out]
      rintro e w1 ⟨rfl, rfl⟩
      go_wp2_with fail
      refine (rdigs_any _ _ (by unfold maxLen; omega)).mono ?_
      rw [HQ.out]
      rintro e w1 ⟨rfl, rfl⟩
      go_wp2_with fail
      all_goals
        go_ret
        exact ⟨ret_int (by rw [HC.out]; first | rw [cmp_less ‹_›] | rw [cmp_more ‹_› ‹_›] | rw [cmp_same ‹_› ‹_›]), rfl⟩

theorem idOk_eq (s : ByteArray) : idOk s.data.toList = (decide (12 ≤ s.size) && decide (s.size ≤ 40) && s.data.toList.all isHex) := by unfold idOk; rw [len_eq]

end Go.Proofs.YtninheehoabbbaaGreatDoor

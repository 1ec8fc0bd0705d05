/-
  Contracts of rightTime, rightId, stamp.
-/
import Derived.Test.YtiicikieemfcmaaGreatDoorU10
import Derived.Lib.ItoaLen
namespace Go.Proofs.YtiicikieemfcmaaGreatDoor
set_option linter.unusedSimpArgs false
set_option linter.unusedVariables false
open Go.RowKit Go.Vr Go.Sort Go.Tx Go.Lib
attribute [local go_sem] setCellDrewN allocDrewN

set_option maxHeartbeats 1000000 in
theorem rightTime_any (t : Int) (w : World) (h0 : -9223372036854775808 ≤ t) (h1 : t ≤ 9223372036854775807) (he : Env w) :
    Calls Tryz.prog 55 #[.int .i64 t] w fun e w' => e = .returned (.bool (timeOk t)) ∧ Below w.heap.size w w' := by
  have HE := hide he
  clear he
  by_cases h2 : 0 ≤ t
  · have d2 : decide (0 ≤ t) = true := by simpa using h2
    have HT : Hid (timeOk t = decide ((str (itoa t)).size ≤ 14)) := by
      show timeOk t = _
      unfold timeOk
      rw [d2, Tx.str_size, Bool.true_and, Bool.eq_iff_iff, decide_eq_true_eq, decide_eq_true_eq, time_iff t h2]
    have hI := hide (itoa_any t w h0 h1 HE.out)
    have hsz := itoa_length_le t h0 h1
    have hsz2 : (str (itoa t)).size ≤ 21 := by rw [Tx.str_size]; exact hsz
    clear hsz
    generalize str (itoa t) = xs at *
    go_enter Tryz.func55, Tryz.ntmps55
    go_wp2_with fail
    refine hI.out.mono ?_
    rintro e w1 ⟨rfl, b1⟩
    go_wp2_with fail
    go_ret
    exact ⟨ret_bool (by rw [HT.out]; simp; omega), b1⟩
  · have d2 : decide (0 ≤ t) = false := by simpa using h2
    go_enter Tryz.func55, Tryz.ntmps55
    go_wp2_with fail
    go_ret
    exact ⟨ret_bool (by unfold timeOk; rw [d2]; rfl), Below.refl _ _⟩

set_option maxHeartbeats 1000000 in
set_option maxRecDepth 100000 in
theorem rightId_any (s : ByteArray) (w : World) (hs : s.size ≤ maxLen) :
    Calls Tryz.prog 56 #[.string s] w fun e w' => e = .returned (.bool (idOk s.data.toList)) ∧ Below w.heap.size w w' := by
  unfold maxLen at hs
  by_cases h1 : 12 ≤ s.size
  · have d1 : decide ((12 : Int) ≤ (s.size : Int)) = true := by simp; omega
    by_cases h2 : s.size ≤ 40
    · have d2 : decide ((s.size : Int) ≤ 40) = true := by simp; omega
      have HI : Hid (idOk s.data.toList = s.data.toList.all isHex) := by show idOk _ = _; rw [idOk_eq, decide_eq_true h1, decide_eq_true h2]; rfl
      have HM : Hid (∀ W : World, Calls Tryz.prog 61 #[.string s, .slice (some ⟨W.heap.size, 0, none⟩) 2 2] (W.alloc (.cells #[.string ⟨#[48, 49, 50, 51, 52, 53, 54, 55, 56, 57]⟩, .string ⟨#[97, 98, 99, 100, 101, 102]⟩] 9)) fun e w' => e = .returned (.bool (s.data.toList.all isHex)) ∧ Below W.heap.size W w') := fun W => by
        have := made_any s W.heap.size 0 2 2 [digitsL, hexL] _ (by omega) (row_new W [digitsL, hexL] 2) (by omega)
        rw [hex_is] at this
        generalize s.data.toList.all isHex = q at this ⊢
        simp [digitsL, hexL] at this
        exact this.mono fun e w' h => ⟨h.1, ((Below.refl _ _).alloc (Nat.le_refl _) _).trans (h.2.mono (by omega))⟩
      generalize s.data.toList.all isHex = q at *
      go_enter Tryz.func56, Tryz.ntmps56
      go_wp2_with fail
      refine (HM.out _).mono ?_
      rintro e w1 ⟨rfl, b1⟩
      go_wp2_with fail
      go_ret
      exact ⟨ret_bool HI.out.symm, b1⟩
    · have d2 : decide ((s.size : Int) ≤ 40) = false := by simp; omega
      have HI : Hid (idOk s.data.toList = false) := by show idOk _ = _; rw [idOk_eq, decide_eq_false h2]; simp
      go_enter Tryz.func56, Tryz.ntmps56
      go_wp2_with fail
      go_ret
      exact ⟨ret_bool HI.out.symm, Below.refl _ _⟩
  · have d1 : decide ((12 : Int) ≤ (s.size : Int)) = false := by simp; omega
    have HI : Hid (idOk s.data.toList = false) := by show idOk _ = _; rw [idOk_eq, decide_eq_false h1]; simp
    go_enter Tryz.func56, Tryz.ntmps56
    go_wp2_with fail
    go_ret
    exact ⟨ret_bool HI.out.symm, Below.refl _ _⟩

theorem repeat_one (c : UInt8) : ∀ n, repeatL [c] n = List.replicate n c
  | 0 => rfl
  | n + 1 => by rw [repeatL, repeat_one c n, List.replicate_succ]; rfl

set_option maxHeartbeats 1000000 in
set_option maxRecDepth 100000 in
theorem stamp_any (t : Int) (id : ByteArray) (w : World) (ht : timeOk t = true) (hi : 12 ≤ id.size) (hj : id.size ≤ 1000) (he : Env w) :
    Calls Tryz.prog 58 #[.int .i64 t, .string id] w fun e w' => e = .returned (.string (str (stamp t id.data.toList))) ∧ Below w.heap.size w w' := by
  obtain ⟨l1, l2, -, -⟩ := time_len t ht
  have tb : 0 ≤ t ∧ t ≤ 99999999999999 := by simpa [timeOk] using ht
  have hI := hide (itoa_any t w (by omega) (by omega) he)
  have HX : Hid (str (stamp t id.data.toList) = ((str (repeatL [48] (14 - (str (itoa t)).size)) ++ str (itoa t)) ++ ⟨#[45]⟩) ++ id.extract 0 12) := by
    show str _ = _
    refine ba_ext ?_
    simp only [ba_app, str_list, stamp, pad, Tx.str_size, repeat_one, Lib.extract_data]
    simp
  have hs1 : (str (itoa t)).size ≤ 14 := by rw [Tx.str_size]; exact l1
  have HR : Hid (∀ W d os, Calls Tryz.prog 74 #[.string ⟨#[48]⟩, .int .i64 (14 - ((str (itoa t)).size : Int))] (grow (redrawn W d) os) fun e w'' => e = .returned (.string (str (repeatL [48] (14 - (str (itoa t)).size)))) ∧ ∃ q : Regrown, w'' = grow (redrawn W q.d) q.os) := fun W d os => by
    have e : (14 - ((str (itoa t)).size : Int)) = ((14 - (str (itoa t)).size : Nat) : Int) := by omega
    rw [e]
    exact Calls.regrown_of (repeat_any ⟨#[48]⟩ (14 - (str (itoa t)).size) _ (by omega) (by decide))
  have hs2 : (str (repeatL [48] (14 - (str (itoa t)).size))).size ≤ 14 := by rw [Tx.str_size, repeat_one]; simp
  clear l1 l2 tb ht he
  generalize str (itoa t) = xs at *
  generalize str (repeatL [48] (14 - xs.size)) = xr at *
  have n1 : ¬ 9223372036854775807 < xr.size + xs.size := by omega
  have n2 : ¬ 9223372036854775807 < xr.size + xs.size + 1 := by omega
  have n3 : ¬ 9223372036854775807 < xr.size + xs.size + 1 + (id.extract 0 12).size := by rw [ByteArray.size_extract]; omega
  have n4 : ¬ 9223372036854775807 < xr.size + xs.size + 1 + min 12 id.size := by omega
  have n5 : ¬ 9223372036854775807 < xr.size + xs.size + 1 + 12 := by omega
  have i1 : (12 : Int) ≤ (id.size : Int) := by omega
  have wr : IntKind.i64.wrap (14 - (xs.size : Int)) = 14 - (xs.size : Int) := by rw [IntKind.wrap_i64]; omega
  go_enter Tryz.func58, Tryz.ntmps58
  go_wp2_with fail
  refine hI.out.mono ?_
  rintro e w1 ⟨rfl, b1⟩
  go_wp2_with fail
  refine wp_region_quiet_below mixed (by kernel_rfl) ?_
  iterate 3 (quiet_step (fail))
  quiet_step (exact HR.out _ _ _)
  iterate 7 (quiet_step (fail))
  refine wpQuiet_nil ?_
  intro w2 hw2
  have r2 := regrown_below hw2
  clear hw2
  go_wp2_with fail
  go_ret
  exact ⟨ret_str HX.out.symm, step b1 r2⟩

end Go.Proofs.YtiicikieemfcmaaGreatDoor

/-
  The walk of TextQuotes.
-/
import Derived.Test.YthcclkihfnjpfaaW19
namespace Go.Proofs.Ythcclkihfnjpfaa.textQuotes
set_option linter.unusedVariables false
open Go.RowKit Go.Tx Go.Joins
attribute [local go_sem ↓] Go.wp_at_zero Go.wp_at_succ

theorem unqV_some (o : List UInt8) (n : Nat) : unqV (some (o, n)) = .tuple #[.string (str o), .int .i64 n, .bool true] := rfl

theorem rquote_is (s q : ByteArray) (w : World) (hs : s.size ≤ 2000000000000) (h : Hid (str (quote s.data.toList) = q)) :
    Calls Try.prog 35 #[.string s] w fun x w' => x = .returned (.string q) ∧ w' = w := by
  rw [← h.out]; exact rquote_any s w hs
theorem plain_is (s : ByteArray) (v : Bool) (w : World) (hs : s.size ≤ 2000000000000) (h : Hid (plain s.data.toList = v)) :
    Calls Try.prog 36 #[.string s] w fun x w' => x = .returned (.bool v) ∧ w' = w := by
  rw [← h.out]; exact plain_any s w (by unfold maxLen; omega)
theorem rplain_is (s : ByteArray) (v : Bool) (w : World) (hs : s.size ≤ 2000000000000) (h : Hid (plain s.data.toList = v)) :
    Calls Try.prog 37 #[.string s] w fun x w' => x = .returned (.bool v) ∧ w' = w := by
  rw [← h.out]; exact rplain_any s w (by unfold maxLen; omega)

set_option maxHeartbeats 400000 in
set_option maxRecDepth 100000 in
theorem walk (a0 : Option Addr) (len0 cap0 : Nat) (z0 : List Int) (a1 : ByteArray) (w : World) (w0 : IsRow .u8 w a0 len0 cap0 z0) (w1 : a1.size ≤ maxLen) :
    Calls Try.prog 6 #[.slice a0 len0 cap0, .string a1] w fun e w' => e = .returned (.bool true) ∧ Below w.heap.size w w' := by
  have hr := w0.row
  have hle := hr.le
  have hmx := hr.mx
  unfold maxLen at hmx w1
  clear w0
  by_cases hl0 : 200 < len0
  · have d0 : decide ((200 : Int) < (len0 : Int)) = true := by simp; omega
    go_enter Try.func6, Try.ntmps6
    go_wp2_with (go_at_call 13; refine (known_any w).mono ?_; rintro e v1 ⟨rfl, hv1⟩)
    go_ret
    exact ⟨rfl, hv1⟩
  have d0 : decide ((200 : Int) < (len0 : Int)) = false := by simp; omega
  by_cases hl1 : 60 < a1.size
  · have d1 : decide ((60 : Int) < (a1.size : Int)) = true := by simp; omega
    go_enter Try.func6, Try.ntmps6
    go_wp2_with (go_at_call 13; refine (known_any w).mono ?_; rintro e v1 ⟨rfl, hv1⟩)
    go_ret
    exact ⟨rfl, hv1⟩
  have d1 : decide ((60 : Int) < (a1.size : Int)) = false := by simp; omega
  have hp := sg_plain ((z0.take len0).take 200)
  have hz := sg_size (z0.take len0) 200
  have hz2 : (strOfNums (z0.take len0)).size ≤ 200 := by rw [strOfNums_size, hr.n]; omega
  obtain ⟨pr, HPR⟩ : ∃ pr, Hid (plain (strOfNums (z0.take len0)).data.toList = pr) := ⟨_, rfl⟩
  go_enter Try.func6, Try.ntmps6
  go_wp2_with fail
  refine (known_any w).mono ?_
  rintro e v1 ⟨rfl, hv1⟩
  go_wp2_with fail
  refine (lplain_any a0 len0 cap0 _ 200 v1 (hr.later hv1) (by omega)).mono ?_
  rintro e v2 ⟨rfl, hv2⟩
  have hB2 := step hv1 hv2
  have HP : Hid (plain (str (sg ((z0.take len0).take 200))).data.toList = true) := hp
  generalize str (sg ((z0.take len0).take 200)) = s at *
  clear hv1 hv2 hp
  go_wp2_with fail
  refine (quote_any s _ (by omega)).mono ?_
  rintro e v3 ⟨rfl, hv3⟩
  have hB3 := step hB2 hv3
  have hql : (str (quote s.data.toList)).size ≤ 2 * s.size + 2 := by
    rw [str_size]; have := escs_len s.data.toList; rw [len_eq] at this; simp [quote]; omega
  have HU : Hid (unquote (str (quote s.data.toList) ++ a1).data.toList = some (s.data.toList, (str (quote s.data.toList)).size)) := by
    show _ = _
    rw [ba_app, str_list, str_size]; exact unquote_quote _ _ HP.out
  generalize hq : str (quote s.data.toList) = q at *
  have HQ : Hid (str (quote s.data.toList) = q) := hq
  clear hq hB2 hv3
  go_wp2_with fail
  refine (unquote_any (q ++ a1) _ (by rw [ByteArray.size_append]; omega) _ HU).mono ?_
  rw [unqV_some, str_of]
  rintro e v4 ⟨rfl, hv4⟩
  have hB4 := step hB3 hv4
  have hcv0 : ∀ n, (convert 22 9 (.slice a0 len0 cap0)).run Try.prog (v4.drewN n) = .ok (.string (strOfNums (z0.take len0))) (v4.drewN n) := fun n => (hr.later (hB4.trans ((Oth.drewN w.heap.size _ n).below (Nat.le_refl _)))).conv
  have hcv1 : (convert 22 9 (.slice a0 len0 cap0)).run Try.prog v4.drew = .ok (.string (strOfNums (z0.take len0))) v4.drew := hcv0 1
  generalize strOfNums (z0.take len0) = r at *
  clear hr hB3 hv4
  go_wp2_with fail
  go_quiet ((first | (go_at_call 35; exact Calls.quiet_of_same (rquote_is s q _ (by omega) HQ)) | (go_at_call 37; exact Calls.quiet_of_same (rplain_is r pr _ (by omega) HPR)) | (go_at_call_of 36 s; exact Calls.quiet_of_same (plain_is s true _ (by omega) HP)) | (go_at_call_of 36 r; exact Calls.quiet_of_same (plain_is r pr _ (by omega) HPR))))
  go_wp2_with fail
  go_ret
  exact ⟨rfl, hB4.trans ((Oth.drewN w.heap.size _ _).below (Nat.le_refl _))⟩

end Go.Proofs.Ythcclkihfnjpfaa.textQuotes

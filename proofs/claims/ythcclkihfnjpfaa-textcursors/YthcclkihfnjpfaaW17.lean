/-
  Contract of the reference cursor's While.
-/
import Derived.Test.YthcclkihfnjpfaaW16
import Derived.Deep.LoopGhost
namespace Go.Proofs.Ythcclkihfnjpfaa
set_option linter.unusedVariables false
open Go.RowKit Go.Joins Go.Tx
attribute [local go_sem ↓] Go.wp_at_zero Go.wp_at_succ

theorem rin_is (s : ByteArray) (c : UInt8) (v : Bool) (w : World) (hs : s.size ≤ 2000000000000) (h : Hid (inSet s.data.toList c.toNat = v)) :
    Calls Try.prog 47 #[.string s, .int .u8 (c.toNat : Int)] w fun e w' => e = .returned (.bool v) ∧ w' = w := by
  rw [← h.out]; exact rin_any s c w hs

theorem tw_stop (l : List UInt8) (f : UInt8 → Bool) (k : Nat) (h : (l.take k).all f = true) (hs : l.drop k = [] ∨ ∃ c l', l.drop k = c :: l' ∧ f c = false) : l.takeWhile f = l.take k := by
  have h1 : (l.take k ++ l.drop k).takeWhile f = l.take k ++ (l.drop k).takeWhile f := List.takeWhile_append_of_pos (fun a ha => List.all_eq_true.1 h a ha)
  rw [List.take_append_drop] at h1
  rw [h1]
  rcases hs with hs | ⟨c, l', hs, hf⟩
  · rw [hs]; simp
  · rw [hs, List.takeWhile_cons, hf]; simp

theorem cut_list (s : ByteArray) (p q : Nat) : (s.extract p q).data.toList = (s.data.toList.drop p).take (q - p) := by simp

set_option maxHeartbeats 1000000 in
set_option maxRecDepth 100000 in
theorem rwhile_any (b : Nat) (s t : ByteArray) (p : Nat) (w : World) (h : RCur w b s p) (hs : s.size ≤ 2000000000000) (ht : t.size ≤ 2000000000000) :
    Calls Try.prog 25 #[.pointer (some ⟨b, 0, none⟩), .string t] w fun x w' => x = .returned (.string (str ((s.data.toList.drop p).takeWhile (fun c => inSet t.data.toList c.toNat)))) ∧ RCur w' b s (p + ((s.data.toList.drop p).takeWhile (fun c => inSet t.data.toList c.toNat)).length) ∧ Oth b w w' := by
  have c1 := h.c1
  have hle := h.le
  go_enter Try.func25, Try.ntmps25
  go_wp2_with fail
  go_loopg [10] (s.size - p) (fun g _ wr => ∃ q : Nat, p ≤ q ∧ q ≤ s.size ∧ g = s.size - q ∧ RCur wr b s q ∧ Oth b w wr ∧ Hid (((s.data.toList.drop p).take (q - p)).all (fun c => inSet t.data.toList c.toNat) = true))
  case atStart => exact ⟨p, Nat.le_refl _, hle, rfl, h, Oth.refl b w, by rw [Nat.sub_self]; rfl⟩
  case round =>
    obtain ⟨q, hpq, hq, rfl, hr, ho, hall⟩ := hrel
    have e0 := hr.c0
    have e1 := hr.c1
    have f1 := unfrozen_of_block hr.hb 1
    clear h c1
    have fin : ∀ n m : Nat, Hid ((s.data.toList.drop p).takeWhile (fun c => inSet t.data.toList c.toNat) = (s.data.toList.drop p).take (q - p)) → str ((s.data.toList.drop p).takeWhile (fun c => inSet t.data.toList c.toNat)) = s.extract p q ∧ RCur ((wr.drewN n).drewN m) b s (p + ((s.data.toList.drop p).takeWhile (fun c => inSet t.data.toList c.toNat)).length) ∧ Oth b w ((wr.drewN n).drewN m) := by
      intro n m HW
      rw [HW.out]
      refine ⟨ba_ext (by rw [str_list, cut_list]), ?_, (ho.trans (Oth.drewN b wr n)).trans (Oth.drewN b _ m)⟩
      rw [List.length_take, List.length_drop, len_eq, show p + min (q - p) (s.size - p) = q by omega]
      exact (hr.drewN n).drewN m
    by_cases hlt : q < s.size
    · have i1 : (0 : Int) ≤ (q : Int) := by omega
      have i2 : (q : Int) < (s.size : Int) := by omega
      have hd : decide ((q : Int) < (s.size : Int)) = true := by simpa using i2
      have HD : Hid ((s.data.toList.drop p).drop (q - p) = s[q] :: s.data.toList.drop (q + 1)) := by
        show _ = _
        rw [List.drop_drop, show p + (q - p) = q by omega, drop_cons s q hlt]
      cases hin : inSet t.data.toList (s[q]).toNat with
      | true =>
        have HI : Hid (inSet t.data.toList (s[q]).toNat = true) := hin
        have HA : Hid (((s.data.toList.drop p).take (q + 1 - p)).all (fun c => inSet t.data.toList c.toNat) = true) := by
          show List.all _ _ = true
          have hg : (s.data.toList.drop p)[q - p]? = some s[q] := by
            have := congrArg List.head? HD.out
            rw [List.head?_drop] at this
            simpa using this
          rw [show q + 1 - p = (q - p) + 1 by omega, List.take_add_one, hg, List.all_append, hall.out]
          simp [hin]
        clear hin HD fin
        go_wp2_with fail
        go_quiet ((go_at_call 47; exact Calls.quiet_of_same (rin_is t s[q] true _ ht HI)))
        go_wp2_with fail
        obtain ⟨h1, h2⟩ := (hr.drewN nq).set (q + 1) (by omega)
        rw [show ((q + 1 : Nat) : Int) = (q : Int) + 1 by omega] at h1 h2
        go_roundg (s.size - (q + 1))
        case measure => omega
        case rel => exact ⟨q + 1, by omega, by omega, rfl, h1, (ho.trans (Oth.drewN b wr _)).trans h2, HA⟩
      | false =>
        have HI : Hid (inSet t.data.toList (s[q]).toNat = false) := hin
        have HW : Hid ((s.data.toList.drop p).takeWhile (fun c => inSet t.data.toList c.toNat) = (s.data.toList.drop p).take (q - p)) := tw_stop _ _ _ hall.out (.inr ⟨_, _, HD.out, hin⟩)
        have i3 : (p : Int) ≤ (q : Int) := by omega
        have i4 : (q : Int) ≤ (s.size : Int) := by omega
        have i5 : (0 : Int) ≤ (p : Int) := by omega
        have FIN : Hid _ := fin
        clear hin HD fin
        go_wp2_with fail
        go_quiet ((go_at_call 47; exact Calls.quiet_of_same (rin_is t s[q] false _ ht HI)))
        go_wp2_with fail
        go_quiet (fail)
        go_wp2_with fail
        go_ret
        obtain ⟨g1, g2, g3⟩ := FIN.out _ _ HW
        exact ⟨ret_str g1.symm, g2, g3⟩
    · have HW : Hid ((s.data.toList.drop p).takeWhile (fun c => inSet t.data.toList c.toNat) = (s.data.toList.drop p).take (q - p)) := tw_stop _ _ _ hall.out (.inl (by rw [List.drop_drop]; exact List.drop_eq_nil_of_le (by rw [len_eq]; omega)))
      have hd : decide ((q : Int) < (s.size : Int)) = false := by simp; omega
      have i3 : (p : Int) ≤ (q : Int) := by omega
      have i4 : (q : Int) ≤ (s.size : Int) := by omega
      have i5 : (0 : Int) ≤ (p : Int) := by omega
      have FIN : Hid _ := fin
      clear fin
      go_wp2_with fail
      go_quiet (fail)
      go_wp2_with fail
      go_quiet (fail)
      go_wp2_with fail
      go_ret
      obtain ⟨g1, g2, g3⟩ := FIN.out _ _ HW
      exact ⟨ret_str g1.symm, g2, g3⟩

end Go.Proofs.Ythcclkihfnjpfaa

/-
  Contract of the reference's Digits.
-/
import Derived.Test.YtnmmhihfnphjeaaGreatDoorG02
import Derived.Laws.BytesArg

namespace Go.Proofs.YtnmmhihfnphjeaaGreatDoor.W
set_option linter.unusedVariables false
open Go.RowKit

/-- string(b) of a row of bytes just made. -/
theorem conv_new (w : World) (xs : List Int) (cap : Nat) (o : Obj) (hc : ∀ i, i < xs.length → (w.alloc o).cell? ⟨w.heap.size, i, none⟩ = some (.int .u8 (xs.getD i 0))) :
    (convert 38 9 (.slice (some ⟨w.heap.size, 0, none⟩) xs.length cap)).run Tryz.prog (w.alloc o) = .ok (.string (strOfNums xs)) (w.alloc o) :=
  run_convert_bytes_arg (w.alloc o) 38 5 Tryz.underlying38 Tryz.underlying5 w.heap.size 0 xs.length cap xs rfl (fun i hi => by rw [Nat.zero_add]; exact hc i hi) 9 Tryz.underlying9

theorem conv_one (w : World) (n : Int) :
    (convert 38 9 (.slice (some ⟨w.heap.size, 0, none⟩) 1 1)).run Tryz.prog (w.alloc (.cells #[.int .u8 n] 5)) = .ok (.string ⟨#[UInt8.ofNat n.toNat]⟩) (w.alloc (.cells #[.int .u8 n] 5)) :=
  conv_new w [n] 1 _ (fun i hi => by
    have : i = 0 := by simpa using hi
    subst this
    simp [go_sem])

set_option maxHeartbeats 400000 in
set_option maxRecDepth 100000 in
theorem digits_one (n : Nat) (w : World) (h : n < 10) :
    Calls Tryz.prog 29 #[.int .i64 n] w fun e w' => e = .returned (.string ⟨#[Tx.dg n]⟩) ∧ Below w.heap.size w w' := by
  have hcv := conv_one w (48 + n)
  have e0 : UInt8.ofNat (48 + (n : Int)).toNat = Tx.dg n := by rw [Tx.dg]; congr 1
  rw [e0] at hcv
  clear e0
  go_enter Tryz.func29, Tryz.ntmps29
  go_wp2_with fail
  go_ret
  exact ⟨rfl, (Below.refl _ _).alloc (Nat.le_refl _) _⟩

set_option maxHeartbeats 400000 in
set_option maxRecDepth 100000 in
theorem digits_any : ∀ (f n : Nat) (w : World), n < 10 ^ (f + 1) → f ≤ 8 →
    Calls Tryz.prog 29 #[.int .i64 n] w fun e w' => e = .returned (.string (Tx.str (Tx.digF (f + 1) n))) ∧ Below w.heap.size w w'
  | 0, n, w, h, _ => by
    have h10 : n < 10 := by simpa using h
    have := digits_one n w h10
    simpa [Tx.digF, h10, Tx.str] using this
  | f + 1, n, w, h, hf => by
    by_cases h10 : n < 10
    · have := digits_one n w h10
      simpa [Tx.digF, h10, Tx.str] using this
    · have hq : n / 10 < 10 ^ (f + 1) := by rw [Nat.pow_succ] at h; omega
      have hb : n < 10000000000 := by
        have h2 : (10 : Nat) ^ (f + 1 + 1) ≤ 10 ^ 10 := Nat.pow_le_pow_right (by omega) (by omega)
        have e : (10 : Nat) ^ 10 = 10000000000 := by decide
        exact Nat.lt_of_lt_of_le h (e ▸ h2)
      have e1 : ((n / 10 : Nat) : Int) = (n : Int) / 10 := by omega
      have e2 : ((n % 10 : Nat) : Int) = (n : Int) % 10 := by omega
      have IH : ∀ w, Calls Tryz.prog 29 #[.int .i64 ((n : Int) / 10)] w fun e w' => e = .returned (.string (Tx.str (Tx.digF (f + 1) (n / 10)))) ∧ Below w.heap.size w w' := fun w => e1 ▸ digits_any f (n / 10) w hq (by omega)
      have IG : ∀ w, Calls Tryz.prog 29 #[.int .i64 ((n : Int) % 10)] w fun e w' => e = .returned (.string ⟨#[Tx.dg (n % 10)]⟩) ∧ Below w.heap.size w w' := fun w => e2 ▸ digits_one (n % 10) w (by omega)
      have HIH : Hid _ := IH
      have HIG : Hid _ := IG
      have HE : Hid (Tx.digF (f + 2) n = Tx.digF (f + 1) (n / 10) ++ [Tx.dg (n % 10)]) := by show Tx.digF (f + 2) n = _; rw [Tx.digF, if_neg h10]
      have hl : (Tx.str (Tx.digF (f + 1) (n / 10))).size ≤ 9 := by rw [Tx.str_size]; exact Nat.le_trans (Tx.digF_len _ _) (by omega)
      clear h hq e1 e2 IH IG
      go_enter Tryz.func29, Tryz.ntmps29
      go_wp2_with fail
      refine (HIH.out _).mono ?_
      rintro e w1 ⟨rfl, hb1⟩
      go_wp2_with fail
      refine (HIG.out _).mono ?_
      rintro e w2 ⟨rfl, hb2⟩
      go_wp2_with fail
      go_ret
      exact ⟨ret_str (by rw [HE.out]; exact Tx.str_app _ [_]), hb1.trans (hb2.mono hb1.size)⟩

end Go.Proofs.YtnmmhihfnphjeaaGreatDoor.W

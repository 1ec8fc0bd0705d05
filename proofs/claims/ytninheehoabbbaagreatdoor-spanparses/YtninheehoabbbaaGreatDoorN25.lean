/-
  strings.IndexRune on ' |' at a rune above 127.
-/
import Derived.Test.YtninheehoabbbaaGreatDoorN24
namespace Go.Proofs.YtninheehoabbbaaGreatDoor
set_option linter.unusedSimpArgs false
set_option linter.unusedVariables false
open Go.RowKit Go.Vr Go.Sort Go.Tx Go.Lib
attribute [local go_sem] setCellDrewN allocDrewN

set_option maxHeartbeats 4000000 in
set_option maxRecDepth 100000 in
theorem idx_rune (r : Int) (w : World) (h : 128 ≤ r) : Calls Tryz.prog 134 #[.string ⟨#[32, 124]⟩, .int .i32 r] w fun e w' => e = .returned (.int .i64 (-1)) ∧ RowKit.Below w.heap.size w w' := by
  have k1 : (0 : Int) ≤ r := by omega
  have k2 : ¬ r < 128 := by omega
  have k3 : decide (r < 128) = false := decide_eq_false k2
  by_cases he : r = 65533
  · subst he
    go_enter Tryz.func134, Tryz.ntmps134
    go_wp2_with fail
    go_loopg [5, 6] 2 (fun g _ _ wx => ∃ i : Nat, i + g = 2 ∧ wx = w.iter ⟨#[32, 124]⟩ i)
    case atStart => exact ⟨0, by omega, rfl⟩
    case round =>
      obtain ⟨i, hig, rfl⟩ := hrel
      cases gk with
      | zero =>
        obtain rfl : i = 2 := by omega
        have hnx := run_next_end (P := Tryz.prog) w ⟨#[32, 124]⟩ 2
        go_wp2_with fail
        go_ret
        exact ⟨rfl, (RowKit.Below.refl _ _).alloc (Nat.le_refl _) _⟩
      | succ g =>
        have hi2 : i = 0 ∨ i = 1 := by omega
        rcases hi2 with rfl | rfl
        · have hnx := fun ty => run_next_ascii (P := Tryz.prog) w ⟨#[32, 124]⟩ 0 ty (by decide) (by decide)
          go_wp2_with fail
          go_roundg g
          case measure => omega
          case rel => exact ⟨1, by omega, rfl⟩
        · have hnx := fun ty => run_next_ascii (P := Tryz.prog) w ⟨#[32, 124]⟩ 1 ty (by decide) (by decide)
          go_wp2_with fail
          go_roundg g
          case measure => omega
          case rel => exact ⟨2, by omega, rfl⟩
  · have k4 : (r == 65533) = false := by simpa using he
    have HE := hide (enc_cases r h)
    generalize hz : Utf8.encode r = z at *
    have HZ := hide hz
    clear hz
    go_enter Tryz.func134, Tryz.ntmps134
    go_wp2_with fail
    refine (valid_rune r w).mono ?_
    rintro e w1 ⟨b, rfl, rfl⟩
    cases b with
    | false =>
      go_wp2_with fail
      go_ret
      exact ⟨rfl, (by repeat (first | with_reducible assumption | with_reducible exact Below.refl _ _ | with_reducible refine Below.setCell ?_ (by first | exact Nat.le_refl _ | (simp; done) | (simp; omega)) _ | with_reducible refine bal ?_ _ | with_reducible refine Below.alloc ?_ (by first | exact Nat.le_refl _ | (simp; done) | (simp; omega)) _ | with_reducible refine Below.drew ?_))⟩
    | true =>
      have u21 : (Tryz.prog.underlying 21).isSome = true := by kernel_rfl
      have hcv : ∀ w0 : World, (convert 21 9 (.int .i32 r)).run Tryz.prog w0 = .ok (.string z) w0 := fun w0 => by rw [run_convert_int_string w0 _ _ _ _ u21 Tryz.underlying9, HZ.out]
      rcases HE.out with ⟨a, b, rfl, hb⟩ | ⟨a, b, c, rfl⟩ | ⟨a, b, c, d, rfl⟩
      · go_wp2_with fail
        go_step3
        go_wp2_with fail
        have ww2 : IntKind.i64.wrap 2 = 2 := by decide
        have p1 : 1 < (⟨#[32, 124]⟩ : ByteArray).size := by decide
        have p2 : 1 < (⟨#[a, b]⟩ : ByteArray).size := by show 1 < 2; omega
        have CB : Hid (∀ W' : World, Calls Tryz.prog 120 #[.string (ByteArray.empty), .int .u8 (((⟨#[a, b]⟩ : ByteArray)[1]'p2).toNat : Int)] W' fun e w' => e = .returned (.int .i64 (-1)) ∧ w' = W') := fun W' => Any.strings_IndexByte { Tryz.lays153 with } (ByteArray.empty) (((⟨#[a, b]⟩ : ByteArray)[1]'p2).toNat : Int) W'
        have hne : ((124 : Int) == (b.toNat : Int)) = false := by simp; omega
        have hne2 : ¬ (124 : Int) = (b.toNat : Int) := by omega
        have hne3 : ¬ (124 : UInt8) = b := fun h => by rw [← h] at hb; exact absurd hb (by decide)
        have hne4 : ¬ 124 = b.toNat := by omega
        have hne5 : ((124 : Int) != (b.toNat : Int)) = true := by rw [bne, hne]; rfl
        have hne6 : (!(124 : Int) == (b.toNat : Int)) = true := by rw [hne]; rfl
        have hne7 : ((124 : UInt8).toNat == b.toNat) = false := by simp; omega
        have hne11 : ((((⟨#[32, 124]⟩ : ByteArray)[1]'p1).toNat : Int) != (((⟨#[a, b]⟩ : ByteArray)[1]'p2).toNat : Int)) = true := hne5
        have hne8 : ¬ b.toNat = 124 := by omega
        have hne9 : ¬ b = 124 := fun h => hne3 h.symm
        have hne10 : ((b.toNat : Int) == (124 : Int)) = false := by simp; omega
        go_loopw [9] (fun x wr => x = .int .i64 1 ∧ wr = w1) (fun _ _ => 0)
        case atStart => exact ⟨rfl, rfl⟩
        case round =>
          obtain ⟨rfl, rfl⟩ := hrel
          go_wp2_with fail
          go_step3
          go_wp2_with fail
          go_quiet (fail)
          have HB1 : Hid (RowKit.Below wr.heap.size wr (wr.drewN nq)) := hide (belDrewN wr nq)
          generalize wr.drewN nq = w2 at *
          go_wp2_with fail
          refine wp_region_quiet_lit (by kernel_rfl) (by kernel_rfl) ?_
          go_big_quiet_step (fail)
          go_big_quiet_step (fail)
          go_big_quiet_step (fail)
          go_big_quiet_step (fail)
          go_big_quiet_step (fail)
          go_big_quiet_step (fail)
          go_big_quiet_step (fail)
          go_big_quiet_step (exact Calls.quiet_of_same (CB.out _))
          go_big_quiet_step (fail)
          refine wpQuiet_nil ?_
          intro _ hw'
          obtain ⟨nq2, hw''⟩ := hw'
          subst hw''
          go_wp2_with fail
          show bodyPost Tryz.prog Tryz.f134 (fun e w' => e = .returned (.int .i64 (-1)) ∧ RowKit.Below wr.heap.size wr w') Exit.ret _ _
          go_ret
          exact ⟨rfl, step HB1.out (belDrewN w2 nq2)⟩
      · go_wp2_with fail
        go_step3
        go_wp2_with fail
        go_loopw [9] (fun x wr => x = .int .i64 2 ∧ wr = w1) (fun _ _ => 0)
        case atStart => exact ⟨rfl, rfl⟩
        case round =>
          obtain ⟨rfl, rfl⟩ := hrel
          go_wp2_with fail
          rw [Exit.noGoto_ret]
          go_ret
          exact ⟨rfl, (by repeat (first | with_reducible assumption | with_reducible exact Below.refl _ _ | with_reducible refine Below.setCell ?_ (by first | exact Nat.le_refl _ | (simp; done) | (simp; omega)) _ | with_reducible refine bal ?_ _ | with_reducible refine Below.alloc ?_ (by first | exact Nat.le_refl _ | (simp; done) | (simp; omega)) _ | with_reducible refine Below.drew ?_))⟩
      · go_wp2_with fail
        go_step3
        go_wp2_with fail
        go_loopw [9] (fun x wr => x = .int .i64 3 ∧ wr = w1) (fun _ _ => 0)
        case atStart => exact ⟨rfl, rfl⟩
        case round =>
          obtain ⟨rfl, rfl⟩ := hrel
          go_wp2_with fail
          rw [Exit.noGoto_ret]
          go_ret
          exact ⟨rfl, (by repeat (first | with_reducible assumption | with_reducible exact Below.refl _ _ | with_reducible refine Below.setCell ?_ (by first | exact Nat.le_refl _ | (simp; done) | (simp; omega)) _ | with_reducible refine bal ?_ _ | with_reducible refine Below.alloc ?_ (by first | exact Nat.le_refl _ | (simp; done) | (simp; omega)) _ | with_reducible refine Below.drew ?_))⟩
end Go.Proofs.YtninheehoabbbaaGreatDoor

/-
  Contract of the reference's Max.
-/
import Derived.Test.YtiicikieemfcmaaGreatDoorU18
namespace Go.Proofs.YtiicikieemfcmaaGreatDoor
set_option linter.unusedSimpArgs false
set_option linter.unusedVariables false
open Go.RowKit Go.Vr Go.Sort Go.Tx Go.Lib
attribute [local go_sem] setCellDrewN allocDrewN

set_option maxHeartbeats 4000000 in
set_option maxRecDepth 100000 in
theorem rmax_any (b off n cap : Nat) (vs : List V) (w : World) (hn : vs.length = n) (h1 : n ≤ 1000) (hr : ∀ j, j < n → VerAt w b (off + j * 4) (vs.getD j V.zero)) (ho : ∀ v ∈ vs, v.ok = true) :
    Calls Tryz.prog 28 #[.slice (some ⟨b, off, none⟩) n cap] w fun e w' => e = .returned (val (maxV vs)) ∧ Below w.heap.size w w' := by
  have HR := hide hr
  have HO := hide ho
  have HN := hide hn
  clear hr ho hn
  have V0 : VarAt (w.alloc (.cells #[.int .i64 0, .int .i64 0, .int .i64 0, .string ⟨#[]⟩] 24)) w.heap.size V.zero := VarAt.new w V.zero
  have V1 : VarAt ((w.alloc (.cells #[.int .i64 0, .int .i64 0, .int .i64 0, .string ⟨#[]⟩] 24)).alloc (.cells #[.int .i64 0, .int .i64 0, .int .i64 0, .string ⟨#[]⟩] 24)) (w.alloc (.cells #[.int .i64 0, .int .i64 0, .int .i64 0, .string ⟨#[]⟩] 24)).heap.size V.zero := VarAt.new _ V.zero
  have hz1 : (w.alloc (.cells #[.int .i64 0, .int .i64 0, .int .i64 0, .string ⟨#[]⟩] 24)).heap.size = w.heap.size + 1 := by simp
  rw [hz1] at V1
  have HV0 := hide (V0.later ((Below.refl _ _).alloc (Nat.le_refl _) (.cells #[.int .i64 0, .int .i64 0, .int .i64 0, .string ⟨#[]⟩] 24)))
  have HV1 := hide V1
  clear V0 V1 hz1
  go_enter Tryz.func28, Tryz.ntmps28
  go_wp2_with fail
  go_loopw [4] (fun i wr => ∃ k : Nat, k ≤ n ∧ i = .int .i64 k ∧ VarAt wr w.heap.size V.zero ∧ VarAt wr (w.heap.size + 1) (maxV (vs.take k)) ∧ Below w.heap.size w wr) (fun i _ => n - (RowKit.intOf i).toNat)
  case atStart => exact ⟨0, by omega, rfl, HV0.out, HV1.out, ((Below.refl _ _).alloc (Nat.le_refl _) _).alloc (by simp) _⟩
  case round =>
    obtain ⟨k, hk2, rfl, VZ, VM, hB⟩ := hrel
    clear HV0 HV1
    by_cases hlt : k < n
    · obtain ⟨e0, e1, e2, e3⟩ := (HR.out k hlt).later hB
      have hkl : k < vs.length := by rw [HN.out]; exact hlt
      have hok := HO.out _ (vmem vs k hkl)
      have i1 : (0 : Int) ≤ (k : Int) := by omega
      have i2 : (k : Int) < (n : Int) := by omega
      by_cases hk0 : k = 0
      · have dk : ((k : Int) == 0) = true := by simp; omega
        have HM2 : Hid (maxV (vs.take (k + 1)) = vs.getD k V.zero) := by
          show _ = _
          rw [vtake vs k hkl, hk0]; rfl
        clear hk0
        generalize vs.getD k V.zero = v at *
        generalize maxV (vs.take k) = m at *
        have HVP' := hide (VM.put v)
        have HVF' := hide (VZ.far v (N := w.heap.size + 1) (by omega))
        have HBP' := hide (putV_below hB (N := w.heap.size + 1) (by omega) v)
        obtain ⟨lt, c0, c1, c2, c3, f0, f1, f2, f3⟩ := VM
        go_wp2_with fail
        go_quiet (fail)
        go_wp2_with fail
        go_roundw
        case rel => exact ⟨k + 1, by omega, by go_num, HVF'.out.later (belDrewN _ _), by rw [HM2.out]; exact HVP'.out.later (belDrewN _ _), step HBP'.out (belDrewN _ _)⟩
        case measure => simp [RowKit.intOf]; omega
      · have dk : ((k : Int) == 0) = false := by simp; omega
        have hne : vs.take k ≠ [] := fun e => by have := congrArg List.length e; rw [List.length_take] at this; simp only [List.length_nil] at this; omega
        have hmk : (maxV (vs.take k)).ok = true := HO.out _ (List.mem_of_mem_take (maxV_mem _ hne))
        have HM : Hid (maxV (vs.take (k + 1)) = if 0 < cmpV (vs.getD k V.zero) (maxV (vs.take k)) then vs.getD k V.zero else maxV (vs.take k)) := by
          show _ = _
          rw [vtake vs k hkl, maxV_snoc _ _ hne]
        generalize vs.getD k V.zero = v at *
        generalize maxV (vs.take k) = m at *
        have FC : Hid (∀ d os, Calls Tryz.prog 26 #[val v, val m] (grow (redrawn wr d) os) fun e w'' => e = .returned (.int .i64 (cmpV v m)) ∧ ∃ q : Regrown, w'' = grow (redrawn wr q.d) q.os) := fun d os => Calls.regrown_of (rcmp_any v m _ (by have := ok_size hok; omega) (by have := ok_size hmk; omega))
        clear hok hmk hne
        obtain ⟨lt, c0, c1, c2, c3, f0, f1, f2, f3⟩ := VM
        have ke0 := cell_regrown e0
        have ke1 := cell_regrown e1
        have ke2 := cell_regrown e2
        have ke3 := cell_regrown e3
        have kc0 := cell_regrown c0
        have kc1 := cell_regrown c1
        have kc2 := cell_regrown c2
        have kc3 := cell_regrown c3
        go_wp2_with fail
        refine wp_region_quiet_below mixed (by kernel_rfl) ?_
        iterate 8 (quiet_step (fail))
        quiet_step (exact FC.out _ _)
        iterate 2 (quiet_step (fail))
        refine wpQuiet_nil ?_
        intro w1 hw1
        have r1 := regrown_below hw1
        have hB1 := step hB r1
        have VM1 : VarAt w1 (w.heap.size + 1) m := VarAt.later ⟨lt, c0, c1, c2, c3, f0, f1, f2, f3⟩ r1
        have VZ1 := VZ.later r1
        have g0 := cellLater r1 e0
        have g1 := cellLater r1 e1
        have g2 := cellLater r1 e2
        have g3 := cellLater r1 e3
        clear hw1 r1 ke0 ke1 ke2 ke3 kc0 kc1 kc2 kc3 e0 e1 e2 e3 c0 c1 c2 c3 f0 f1 f2 f3 lt FC VZ hB
        by_cases hq : 0 < cmpV v m
        · have dq : decide (0 < cmpV v m) = true := by simpa using hq
          have HM2 : Hid (maxV (vs.take (k + 1)) = v) := by show _ = _; rw [HM.out, if_pos hq]
          have HVP := hide (VM1.put v)
          have HVF := hide (VZ1.far v (N := w.heap.size + 1) (by omega))
          have HBP := hide (putV_below hB1 (N := w.heap.size + 1) (by omega) v)
          obtain ⟨lt, c0, c1, c2, c3, f0, f1, f2, f3⟩ := VM1
          go_wp2_with fail
          go_roundw
          case rel => exact ⟨k + 1, by omega, by go_num, HVF.out, by rw [HM2.out]; exact HVP.out, HBP.out⟩
          case measure => simp [RowKit.intOf]; omega
        · have dq : decide (0 < cmpV v m) = false := by simpa using hq
          have HM2 : Hid (maxV (vs.take (k + 1)) = m) := by show _ = _; rw [HM.out, if_neg hq]
          go_wp2_with fail
          go_roundw
          case rel => exact ⟨k + 1, by omega, by go_num, VZ1, by rw [HM2.out]; exact VM1, hB1⟩
          case measure => simp [RowKit.intOf]; omega
    · have hd : decide ((k : Int) < (n : Int)) = false := by simp; omega
      have HM2 : Hid (maxV (vs.take k) = maxV vs) := by show _ = _; rw [List.take_of_length_le (by rw [HN.out]; omega)]
      generalize maxV (vs.take k) = m at *
      obtain ⟨lt, c0, c1, c2, c3, f0, f1, f2, f3⟩ := VM
      obtain ⟨zt, z0, z1, z2, z3, y0, y1, y2, y3⟩ := VZ
      go_wp2_with fail
      exact bodyPost_ret (v := val m) (by simp [results, Tryz.results28, go_sem, z0, z1, z2, z3]) rfl ⟨by rw [HM2.out], (((hB.setCell (by simp) _).setCell (by simp) _).setCell (by simp) _).setCell (by simp) _⟩

end Go.Proofs.YtiicikieemfcmaaGreatDoor

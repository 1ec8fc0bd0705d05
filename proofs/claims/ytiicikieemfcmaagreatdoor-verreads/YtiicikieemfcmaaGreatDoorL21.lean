/-
  The walk of VerReads.
-/
import Derived.Test.YtiicikieemfcmaaGreatDoorU24
import Derived.BigRegion
import Derived.BigQuiet
import Derived.Deep.DeepCutAuto
namespace Go.Proofs.YtiicikieemfcmaaGreatDoor.verReads
set_option linter.unusedSimpArgs false
set_option linter.unusedVariables false
open Go.RowKit Go.Vr Go.Sort Go.Tx Go.Lib
attribute [local go_sem] setCellDrewN allocDrewN

theorem ten (w : World) (s0 s1 s2 s3 s4 s5 s6 s7 s8 s9 : ByteArray) (h : ∀ s ∈ [s0, s1, s2, s3, s4, s5, s6, s7, s8, s9], s.size ≤ 1000) :
    ∀ k, k < 10 → ∃ t : ByteArray, t.size ≤ 1000 ∧ (w.alloc (.cells #[.string s0, .string s1, .string s2, .string s3, .string s4, .string s5, .string s6, .string s7, .string s8, .string s9] 9)).cell? ⟨w.heap.size, k, none⟩ = some (.string t) := by
  intro k hk
  have hk' : k = 0 ∨ k = 1 ∨ k = 2 ∨ k = 3 ∨ k = 4 ∨ k = 5 ∨ k = 6 ∨ k = 7 ∨ k = 8 ∨ k = 9 := by omega
  rcases hk' with rfl | rfl | rfl | rfl | rfl | rfl | rfl | rfl | rfl | rfl
  · exact ⟨s0, h _ (by simp), by simp [go_sem]⟩
  · exact ⟨s1, h _ (by simp), by simp [go_sem]⟩
  · exact ⟨s2, h _ (by simp), by simp [go_sem]⟩
  · exact ⟨s3, h _ (by simp), by simp [go_sem]⟩
  · exact ⟨s4, h _ (by simp), by simp [go_sem]⟩
  · exact ⟨s5, h _ (by simp), by simp [go_sem]⟩
  · exact ⟨s6, h _ (by simp), by simp [go_sem]⟩
  · exact ⟨s7, h _ (by simp), by simp [go_sem]⟩
  · exact ⟨s8, h _ (by simp), by simp [go_sem]⟩
  · exact ⟨s9, h _ (by simp), by simp [go_sem]⟩

theorem cells10 {g : Nat} {w w' : World} (h : ∀ k, k < 10 → ∃ t : ByteArray, t.size ≤ 1000 ∧ w.cell? ⟨g, k, none⟩ = some (.string t)) (b : Below w.heap.size w w') : ∀ k, k < 10 → ∃ t : ByteArray, t.size ≤ 1000 ∧ w'.cell? ⟨g, k, none⟩ = some (.string t) := by
  intro k hk
  obtain ⟨t, ht, hc⟩ := h k hk
  exact ⟨t, ht, cellLater b hc⟩
theorem str_back (t : ByteArray) : str t.data.toList = t := by unfold str; simp

set_option maxHeartbeats 8000000 in
set_option maxRecDepth 100000 in
theorem walk (a0 a1 a2 a3 a4 : Int) (s5 s6 : ByteArray) (w : World) (he : Env w) (h0 : -9223372036854775808 ≤ a0 ∧ a0 ≤ 9223372036854775807) (h1 : -9223372036854775808 ≤ a1 ∧ a1 ≤ 9223372036854775807) (h2 : -9223372036854775808 ≤ a2 ∧ a2 ≤ 9223372036854775807) (h3 : 0 ≤ a3 ∧ a3 ≤ 255) (h4 : -9223372036854775808 ≤ a4 ∧ a4 ≤ 9223372036854775807) (h5 : s5.size ≤ maxLen) (h6 : s6.size ≤ maxLen) :
    Calls Tryz.prog 4 #[.int .i64 a0, .int .i64 a1, .int .i64 a2, .int .u8 a3, .int .i64 a4, .string s5, .string s6] w fun e w' => e = .returned (.bool true) ∧ Below w.heap.size w w' := by
  have HE := hide he
  clear he
  by_cases l5 : 30 < s5.size
  · have hd : (30 : Int) < (s5.size : Int) := by omega
    go_enter Tryz.func4, Tryz.ntmps4
    go_wp2_with fail
    refine (known_any w HE.out).mono ?_
    rintro e w1 ⟨rfl, b1⟩
    go_wp2_with fail
    go_ret
    exact ⟨by first | rfl | simp, b1⟩
  have d5 : ¬ (30 : Int) < (s5.size : Int) := by omega
  by_cases l6 : 60 < s6.size
  · have hd : (60 : Int) < (s6.size : Int) := by omega
    go_enter Tryz.func4, Tryz.ntmps4
    go_wp2_with fail
    refine (known_any w HE.out).mono ?_
    rintro e w1 ⟨rfl, b1⟩
    go_wp2_with fail
    go_ret
    exact ⟨by first | rfl | simp, b1⟩
  have d6 : ¬ (60 : Int) < (s6.size : Int) := by omega
  clear h5 h6
  go_enter Tryz.func4, Tryz.ntmps4
  go_wp2_with fail
  refine (known_any w HE.out).mono ?_
  rintro e w1 ⟨rfl, b1⟩
  go_wp2_with fail
  refine (make_any a0 a1 _ h0 h1).mono ?_
  rintro e w2 ⟨v, rfl, hv, b2⟩
  have hB2 := step b1 b2
  clear b1 b2 h0 h1
  obtain ⟨p1, p2, p3⟩ := ok_bd hv
  have CF := hide (fun W => rtext_any v.a v.b v.c v.p W (by have := ok_size hv; omega) p1 p2 p3)
  obtain ⟨t1, t2⟩ := ok_txt hv
  obtain ⟨va, vb, vc, vp⟩ := v
  simp only at CF
  clear hv p1 p2 p3
  generalize str (txt ⟨va, vb, vc, vp⟩) = q at *
  go_wp2_with fail
  refine (CF.out _).mono ?_
  rintro e v3 ⟨rfl, b3⟩
  have hB3 := step hB2 b3
  clear hB2 b3 CF
  obtain ⟨bc, v4, xs, hcv, hrow, hfz, hb4, hlt4⟩ := conv_bytes q v3 (by omega)
  have hbc := hrow.le
  have hbm := hrow.mx
  unfold maxLen at hbm
  go_wp2_with fail
  refine (within_nat _ _ _ (by omega) (by omega) (by omega) (by omega)).mono ?_
  rintro e v5 ⟨j, rfl, hj, -, rfl⟩
  have hjn : j < q.size := by omega
  have hce := hrow.cell _ rfl j hjn
  rw [addr_add, Nat.zero_add] at hce
  have hfj := hfz j hjn
  have hzb : 0 ≤ xs.getD j 0 ∧ xs.getD j 0 ≤ 255 := by
    have hl : j < xs.length := by rw [hrow.n]; exact hjn
    have e : xs.getD j 0 = xs[j] := by simp [List.getD, List.getElem?_eq_getElem hl]
    rw [e]; exact bd8 (hrow.wf _ (List.getElem_mem hl))
  obtain ⟨hy1, hy2⟩ := hzb
  have HROW : Hid (Row .u8 v5 (some ⟨v3.heap.size, 0, none⟩) q.size bc xs) := hrow
  generalize xs.getD j 0 = y at *
  clear hrow hcv hfz
  have j1 : (0 : Int) ≤ (j : Int) := by omega
  have hwq : IntKind.i64.wrap ((q.size : Int) + 1) = (q.size : Int) + 1 := by rw [IntKind.wrap_i64]; omega
  go_wp2_with fail
  refine (within_nat _ _ _ (by omega) (by omega) (by omega) (by omega)).mono ?_
  rintro e v6 ⟨m, rfl, hm, -, rfl⟩
  have hrV := Row.put HROW.out j hjn ((y + a3) % 256) (WalkArith.wf_u8 (by omega))
  have hBV : Below w.heap.size w (v5.setCell ⟨v3.heap.size, j, none⟩ (.int .u8 ((y + a3) % 256))) := (step hB3 hb4).setCell hB3.size _
  generalize v5.setCell ⟨v3.heap.size, j, none⟩ (.int .u8 ((y + a3) % 256)) = V at *
  have hxl : (xs.set j ((y + a3) % 256)).length = q.size := hrV.n
  have hcv1 : (convert 31 9 (.slice (some ⟨v3.heap.size, 0, none⟩) q.size bc)).run Tryz.prog V.drew = .ok (.string (strOfNums (xs.set j ((y + a3) % 256)))) V.drew := (hrV.later (Below.refl _ _).drew).conv
  have hs0 : (strOfNums (xs.set j ((y + a3) % 256))).size ≤ 1000 := by rw [strOfNums_size, hxl]; omega
  generalize strOfNums (xs.set j ((y + a3) % 256)) = s0 at *
  have hmq : m ≤ q.size := by omega
  have j3 : (0 : Int) ≤ (m : Int) := by omega
  have j4 : (m : Int) ≤ (q.size : Int) := by omega
  have z1 : (q.extract 0 m).size = m := by rw [ByteArray.size_extract]; omega
  have z1' : (q.extract m q.size).size = q.size - m := by rw [ByteArray.size_extract]; omega
  have n1 : ¬ 9223372036854775807 < m + s5.size := by omega
  have n2 : ¬ 9223372036854775807 < m + s5.size + (q.size - m) := by omega
  have n3 : ¬ 9223372036854775807 < 7 + s6.size := by omega
  have n4 : ¬ 9223372036854775807 < 6 + s5.size := by omega
  have e6 : (ByteArray.mk #[118, 49, 46, 50, 46, 51]).size = 6 := rfl
  have e7 : (ByteArray.mk #[118, 49, 46, 50, 46, 51, 45]).size = 7 := rfl
  have hT := hide (ten V s0 (q.extract 0 m) (q.extract 0 m ++ s5 ++ q.extract m q.size) s6 (⟨#[118, 49, 46, 50, 46, 51, 45]⟩ ++ s6) (⟨#[118, 49, 46, 50, 46, 51]⟩ ++ s5) ⟨#[118, 48, 49, 46, 50, 46, 51]⟩ ⟨#[118, 49, 46, 50, 46, 51, 45, 48, 49]⟩ ⟨#[118, 49, 46, 50, 46, 51, 45, 46]⟩ ⟨#[118, 49, 46, 50, 46, 51, 45]⟩ (by
    intro s hs
    simp only [List.mem_cons, List.not_mem_nil, or_false] at hs
    rcases hs with rfl | rfl | rfl | rfl | rfl | rfl | rfl | rfl | rfl | rfl
    · exact hs0
    · omega
    · rw [ByteArray.size_append, ByteArray.size_append]; omega
    · omega
    · rw [ByteArray.size_append]; omega
    · rw [ByteArray.size_append]; omega
    all_goals decide))
  clear hce hfj HROW hrV hxl hb4 hlt4 hB3 hjn hj hy1 hy2 hbc hbm t1 t2 h2 h3 h4 e6 e7
  go_wp2_with fail
  go_cut [18] (fun l wc => ∃ g, l = .slice (some ⟨g, 0, none⟩) 10 10 ∧ (∀ k, k < 10 → ∃ t : ByteArray, t.size ≤ 1000 ∧ wc.cell? ⟨g, k, none⟩ = some (.string t)) ∧ Below w.heap.size w wc)
  case first =>
    go_region
    all_goals
      go_wp2_with fail
      go_meet
      case rel =>
        exact ⟨V.heap.size, rfl, hT.out, (hBV.alloc hBV.size _).drew⟩
  case rest =>
    obtain ⟨g, rfl, hg, hB⟩ := hcut
    have HG := hide hg
    clear hcv1 hBV hT n1 n2 n3 n4 z1 z1' j3 j4 hmq hs0 hm hwq j1 hg
    go_wp2_with fail
    go_loopw [19] (fun i wr => ∃ k : Nat, k ≤ 10 ∧ i = .int .i64 k ∧ (∀ k, k < 10 → ∃ t : ByteArray, t.size ≤ 1000 ∧ wr.cell? ⟨g, k, none⟩ = some (.string t)) ∧ Below w.heap.size w wr) (fun i _ => 10 - (RowKit.intOf i).toNat)
    case atStart => exact ⟨0, by omega, rfl, HG.out, hB⟩
    case round =>
      obtain ⟨k, hk, rfl, hck0, hBk⟩ := hrel
      have hck := hide hck0
      clear hck0 HG hB
      by_cases hk2 : k < 10
      · obtain ⟨t, ht, hc⟩ := hck.out k hk2
        have i1 : (0 : Int) ≤ (k : Int) := by omega
        have i2 : (k : Int) < 10 := by omega
        have hglt : g < wr.heap.size := World.block_lt_of_cell? _ _ hc
        have CP := hide (fun W hW => parse_any t W ht hW)
        have CR := hide (fun W => rparse_any t W ht)
        rcases hps : parse t.data.toList with _ | ⟨ua, ub, uc, up⟩
        all_goals rw [hps] at CP CR
        · clear hps
          obtain ⟨⟨ua, ub, uc, up⟩, hz⟩ : ∃ u : Vr.V, pret none = .tuple #[ver u.a u.b u.c u.p, .bool false] := ⟨_, rfl⟩
          rw [hz] at CP CR
          clear hz
          go_wp2_with fail
          refine (CP.out _ (HE.out.later hBk)).mono ?_
          rintro e u1 ⟨rfl, b1⟩
          have ba1 : Below u1.heap.size u1 (u1.alloc (.cells #[.int .i64 ua, .int .i64 ub, .int .i64 uc, .string up] 24)) := (Below.refl _ _).alloc (Nat.le_refl _) _
          have hB1 := step (step hBk b1) ba1
          have hc1 := cellLater b1 hc
          have hg1 : ¬ g = u1.heap.size := by have := b1.size; omega
          have X1 := hide (VarAt.new u1 ⟨ua, ub, uc, up⟩)
          have hc1' := hide (cellLater ba1 hc1)
          have hc1x := cellLater ba1 hc1
          have HT1 := hide (cells10 (cells10 hck.out b1) ba1)
          clear ba1 b1 hBk hc hck hglt
          go_wp2_with fail
          refine (CR.out _).mono ?_
          rintro e u2 ⟨rfl, b2⟩
          have ba2 : Below u2.heap.size u2 (u2.alloc (.cells #[.int .i64 ua, .int .i64 ub, .int .i64 uc, .string up] 24)) := (Below.refl _ _).alloc (Nat.le_refl _) _
          have hB2 := step (step hB1 b2) ba2
          have X2 := hide ((X1.out.later b2).later ba2)
          have Y2 := hide (VarAt.new u2 ⟨ua, ub, uc, up⟩)
          have hc2 := hide (cellLater ba2 (cellLater b2 hc1'.out))
          have HT2 := hide (cells10 (cells10 HT1.out b2) ba2)
          clear ba2 b2 hB1 hc1 hc1x hg1 X1 hc1' HT1
          go_wp2_with fail
          generalize u2.alloc (.cells #[.int .i64 ua, .int .i64 ub, .int .i64 uc, .string up] 24) = W at *
          generalize u1.heap.size = N1 at *
          generalize u2.heap.size = N2 at *
          obtain ⟨-, v0, v1, v2, v3, -, -, -, -⟩ := X2.out
          obtain ⟨-, x0, x1, x2, x3, -, -, -, -⟩ := Y2.out
          have hcc := hc2.out
          have k0 := cell_regrown v0
          have k1 := cell_regrown v1
          have k2 := cell_regrown v2
          have k3 := cell_regrown v3
          have k4 := cell_regrown x0
          have k5 := cell_regrown x1
          have k6 := cell_regrown x2
          have k7 := cell_regrown x3
          have k8 := cell_regrown hcc
          clear v0 v1 v2 v3 x0 x1 x2 x3 hcc X2 Y2 hc2
          refine wp_region_quiet_below mixed (by kernel_rfl) ?_
          iterate 20 (first | go_big_quiet_skip | quiet_step (fail))
          refine wpQuiet_nil ?_
          intro w5 hw5
          have r5 := regrown_below hw5
          have hB5 := step hB2 r5
          go_wp2_with fail
          go_roundw
          case rel => exact ⟨k + 1, by omega, by go_num, cells10 HT2.out r5, hB5⟩
          case measure => simp [RowKit.intOf]; omega
        · have CT : Hid (∀ W, Env W → Calls Tryz.prog 18 #[ver ua ub uc up] W fun e w' => e = .returned (.string t) ∧ Below W.heap.size W w') := fun W hW => by
            obtain ⟨ho, ht2⟩ := parse_some hps
            have := text_any ⟨ua, ub, uc, up⟩ W ho hW
            rw [ht2, str_back] at this
            exact this
          clear hps
          simp only [pret, Option.getD_some, Option.isSome_some, Option.getD_none, Option.isSome_none, Vr.V.zero] at CP CR
          go_wp2_with fail
          refine (CP.out _ (HE.out.later hBk)).mono ?_
          rintro e u1 ⟨rfl, b1⟩
          have ba1 : Below u1.heap.size u1 (u1.alloc (.cells #[.int .i64 ua, .int .i64 ub, .int .i64 uc, .string up] 24)) := (Below.refl _ _).alloc (Nat.le_refl _) _
          have hB1 := step (step hBk b1) ba1
          have hc1 := cellLater b1 hc
          have hg1 : ¬ g = u1.heap.size := by have := b1.size; omega
          have X1 := hide (VarAt.new u1 ⟨ua, ub, uc, up⟩)
          have hc1' := hide (cellLater ba1 hc1)
          have hc1x := cellLater ba1 hc1
          have HT1 := hide (cells10 (cells10 hck.out b1) ba1)
          clear ba1 b1 hBk hc hck hglt
          go_wp2_with fail
          refine (CR.out _).mono ?_
          rintro e u2 ⟨rfl, b2⟩
          have ba2 : Below u2.heap.size u2 (u2.alloc (.cells #[.int .i64 ua, .int .i64 ub, .int .i64 uc, .string up] 24)) := (Below.refl _ _).alloc (Nat.le_refl _) _
          have hB2 := step (step hB1 b2) ba2
          have X2 := hide ((X1.out.later b2).later ba2)
          have Y2 := hide (VarAt.new u2 ⟨ua, ub, uc, up⟩)
          have hc2 := hide (cellLater ba2 (cellLater b2 hc1'.out))
          have HT2 := hide (cells10 (cells10 HT1.out b2) ba2)
          clear ba2 b2 hB1 hc1 hc1x hg1 X1 hc1' HT1
          go_wp2_with fail
          generalize u2.alloc (.cells #[.int .i64 ua, .int .i64 ub, .int .i64 uc, .string up] 24) = W at *
          generalize u1.heap.size = N1 at *
          generalize u2.heap.size = N2 at *
          obtain ⟨-, v0, v1, v2, v3, -, -, -, -⟩ := X2.out
          obtain ⟨-, x0, x1, x2, x3, -, -, -, -⟩ := Y2.out
          have hcc := hc2.out
          have k0 := cell_regrown v0
          have k1 := cell_regrown v1
          have k2 := cell_regrown v2
          have k3 := cell_regrown v3
          have k4 := cell_regrown x0
          have k5 := cell_regrown x1
          have k6 := cell_regrown x2
          have k7 := cell_regrown x3
          have k8 := cell_regrown hcc
          clear v0 v1 v2 v3 x0 x1 x2 x3 hcc X2 Y2 hc2
          have F1 : Hid (∀ d os, Calls Tryz.prog 18 #[ver ua ub uc up] (grow (redrawn W d) os) fun e w'' => e = .returned (.string t) ∧ ∃ q : Regrown, w'' = grow (redrawn W q.d) q.os) := fun d os => Calls.regrown_of (CT.out _ (HE.out.later (step hB2 (below_regrown W d os))))
          refine wp_region_quiet_below mixed (by kernel_rfl) ?_
          iterate 12 (quiet_step (fail))
          quiet_step (exact F1.out _ _)
          iterate 7 (quiet_step (fail))
          refine wpQuiet_nil ?_
          intro w5 hw5
          have r5 := regrown_below hw5
          have hB5 := step hB2 r5
          go_wp2_with fail
          go_roundw
          case rel => exact ⟨k + 1, by omega, by go_num, cells10 HT2.out r5, hB5⟩
          case measure => simp [RowKit.intOf]; omega
      · have i2 : ¬ (k : Int) < 10 := by omega
        go_wp2_with fail
        go_ret
        exact ⟨by first | rfl | simp, hBk⟩

end Go.Proofs.YtiicikieemfcmaaGreatDoor.verReads

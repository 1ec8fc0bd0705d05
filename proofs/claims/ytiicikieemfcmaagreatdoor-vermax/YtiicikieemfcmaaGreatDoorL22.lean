/-
  The walk of VerMax.
-/
import Derived.Test.YtiicikieemfcmaaGreatDoorU25
import Derived.BigQuiet
import Derived.Deep.CutBlock
namespace Go.Proofs.YtiicikieemfcmaaGreatDoor.verMax
set_option linter.unusedSimpArgs false
set_option linter.unusedVariables false
open Go.RowKit Go.Vr Go.Sort Go.Tx Go.Lib
attribute [local go_sem] setCellDrewN allocDrewN

set_option maxHeartbeats 4000000 in
set_option maxRecDepth 100000 in
theorem rmax_none (a : Option Addr) (cap : Nat) (w : World) :
    Calls Tryz.prog 28 #[.slice a 0 cap] w fun e w' => e = .returned (ver 0 0 0 ⟨#[]⟩) ∧ Below w.heap.size w w' := by
  have hB0 : Below w.heap.size w ((w.alloc (.cells #[.int .i64 0, .int .i64 0, .int .i64 0, .string ⟨#[]⟩] 24)).alloc (.cells #[.int .i64 0, .int .i64 0, .int .i64 0, .string ⟨#[]⟩] 24)) := ((Below.refl _ _).alloc (Nat.le_refl _) _).alloc (by simp) _
  go_enter Tryz.func28, Tryz.ntmps28
  go_wp2_with fail
  go_loopw [4] (fun i wr => i = .int .i64 0 ∧ wr = ((w.alloc (.cells #[.int .i64 0, .int .i64 0, .int .i64 0, .string ⟨#[]⟩] 24)).alloc (.cells #[.int .i64 0, .int .i64 0, .int .i64 0, .string ⟨#[]⟩] 24))) (fun _ _ => 0)
  case atStart => exact ⟨rfl, rfl⟩
  case round =>
    obtain ⟨rfl, rfl⟩ := hrel
    go_wp2_with fail
    exact bodyPost_ret (v := ver 0 0 0 ⟨#[]⟩) (by simp [results, Tryz.results28, go_sem]) rfl ⟨rfl, by first | exact hB0 | exact ((Below.refl _ _).alloc (Nat.le_refl _) _).alloc (by simp) _⟩

set_option maxHeartbeats 8000000 in
set_option maxRecDepth 100000 in
theorem walk (a0 : Option Addr) (len0 cap0 : Nat) (z0 : List Int) (a1 : Option Addr) (len1 cap1 : Nat) (z1 : List Int) (w : World) (he : Env w) (w0 : IsRow .i64 w a0 len0 cap0 z0) (w1 : IsRow .i64 w a1 len1 cap1 z1) :
    Calls Tryz.prog 7 #[.slice a0 len0 cap0, .slice a1 len1 cap1] w fun e w' => e = .returned (.bool true) ∧ Below w.heap.size w w' := by
  have HE := hide he
  have HR0 := hide w0.row
  have HR1 := hide w1.row
  have hle := HR0.out.le
  have hmx := HR0.out.mx
  have hle1 := HR1.out.le
  have hmx1 := HR1.out.mx
  unfold maxLen at hmx hmx1
  clear w0 w1 he
  go_enter Tryz.func7, Tryz.ntmps7
  go_wp2_with fail
  refine (known_any w HE.out).mono ?_
  rintro e v1 ⟨rfl, b1⟩
  go_upto_block 0 with fail
  go_cut [5] (fun l wc => ∃ (k : Nat) (ls : List Vr.V), k ≤ 12 ∧ (∀ v ∈ ls, v.ok = true) ∧ wc.ownsRow v1.heap.size 24 4 l k (encs ls) ∧ Below v1.heap.size v1 wc)
  case first =>
    go_wp2_with fail
    go_loopw [5, 6] (fun v i wr => ∃ (k : Nat) (ls : List Vr.V), k ≤ 12 ∧ i = .int .i64 k ∧ (∀ v ∈ ls, v.ok = true) ∧ wr.ownsRow v1.heap.size 24 4 v k (encs ls) ∧ Below v1.heap.size v1 wr) (fun _ i _ => 12 - (RowKit.intOf i).toNat)
    case atStart => exact ⟨0, [], by omega, rfl, by simp, World.ownsRow_nil _ _ _ _, Below.refl _ _⟩
    case round =>
      obtain ⟨k, ls, hk, rfl, hok, hown, hB⟩ := hrel
      have HOK := hide hok
      have HOWN := hide hown
      clear hok hown
      by_cases hi : k < len0 ∧ k < len1 ∧ k < 12
      · obtain ⟨hi0, hi1, hi2⟩ := hi
        have hBw := step b1 hB
        obtain ⟨x0, o0, rfl, hc0⟩ := row_at (HR0.out.later hBw) (by omega)
        obtain ⟨x1, o1, rfl, hc1⟩ := row_at (HR1.out.later hBw) (by omega)
        have e0 := hc0 k hi0
        have e1 := hc1 k hi1
        have y0 := row_bd (HR0.out.later hBw) k hi0
        have y1 := row_bd (HR1.out.later hBw) k hi1
        generalize (List.take len0 z0).getD k 0 = n0 at *
        generalize (List.take len1 z1).getD k 0 = n1 at *
        clear hc0 hc1
        have j1 : (0 : Int) ≤ (k : Int) := by omega
        have j2 : (k : Int) < (len0 : Int) := by omega
        have j3 : (k : Int) < (len1 : Int) := by omega
        have j4 : (k : Int) < 12 := by omega
        have hbs := hB.size
        have CM := hide (fun W => make_any n0 n1 W y0 y1)
        clear y0 y1 HR0 HR1 hBw
        go_wp2_with fail
        go_region_law (first
          | (go_simp; go_at_call 17; refine (CM.out _).mono ?_; rintro e u2 ⟨⟨va, vb, vc, vp⟩, rfl, hv, b2⟩; have B2 : Below wr.heap.size wr u2 := Below.trans (by first | exact (Below.refl _ _).drew | exact belDrewN _ _) (b2.mono (by first | exact Nat.le_refl _ | simp)))
          | (refine step_vapp rfl _ _ rfl v1.heap.size k _ ls (some ⟨u2.heap.size, 0, none⟩) 1 1 [⟨va, vb, vc, vp⟩] rfl rfl (vown_later (vown_later HOWN.out B2) ((Below.refl _ _).alloc (Nat.le_refl _) _)) (vone_new u2 ⟨va, vb, vc, vp⟩) (by omega) (by have := B2.size; simp; omega) ?_; intro v' w' o' g' t'))
        all_goals
          have B3 : Below v1.heap.size v1 (u2.alloc (.cells #[.int .i64 va, .int .i64 vb, .int .i64 vc, .string vp] 24)) := (hB.trans (B2.mono hbs)).alloc (by have := B2.size; omega) _
          have B4 := vbel_app B3 (vown_later (vown_later HOWN.out B2) ((Below.refl _ _).alloc (Nat.le_refl _) _)) g' B3.size
          have HO' := hide o'
          clear o' g' t' B3 e0 e1
          go_wp2_with fail
          go_roundw
          case rel => exact ⟨k + 1, ls ++ [⟨va, vb, vc, vp⟩], by omega, by go_num, fun u hu => by rcases List.mem_append.1 hu with h | h; exact HOK.out u h; rw [List.mem_singleton.1 h]; exact hv, HO'.out, B4⟩
          case measure => simp [RowKit.intOf]; omega
      · clear HR0 HR1
        go_wp2_with fail
        all_goals first
          | (exfalso; omega)
          | (go_meet; case rel => exact ⟨k, ls, hk, HOK.out, HOWN.out, hB⟩)
  case rest =>
    obtain ⟨k, ls, hk, hok, hown, hB⟩ := hcut
    have hBw := step b1 hB
    obtain ⟨ad, cap, rfl, hkc, hrow⟩ := vown_any hown
    have HROW := hide hrow
    have HOK := hide hok
    clear hrow hok hown HR0 HR1 hB b1 hle hmx hle1 hmx1
    by_cases hk0 : k = 0
    · subst hk0
      have CM : Hid (∀ W, Calls Tryz.prog 27 #[.slice ad 0 cap] W fun e w' => e = .returned (ver 0 0 0 ⟨#[]⟩) ∧ Below W.heap.size W w') := fun W => max_none ad cap W
      go_wp2_with fail
      refine (CM.out _).mono ?_
      rintro e w2 ⟨rfl, b2⟩
      have ba2 : Below w2.heap.size w2 (w2.alloc (.cells #[.int .i64 0, .int .i64 0, .int .i64 0, .string ⟨#[]⟩] 24)) := (Below.refl _ _).alloc (Nat.le_refl _) _
      have hB2 := step (step hBw b2) ba2
      have M2 := hide (VarAt.new w2 ⟨0, 0, 0, ⟨#[]⟩⟩)
      clear ba2 b2
      go_wp2_with fail
      go_loopw [8, 9] (fun f i wr => f = .bool true ∧ i = .int .i64 0 ∧ wr = w2.alloc (.cells #[.int .i64 0, .int .i64 0, .int .i64 0, .string ⟨#[]⟩] 24)) (fun _ _ _ => 0)
      case atStart => exact ⟨rfl, rfl, rfl⟩
      case round =>
        obtain ⟨rfl, rfl, rfl⟩ := hrel
        go_wp2_with fail
        generalize w2.alloc (.cells #[.int .i64 0, .int .i64 0, .int .i64 0, .string ⟨#[]⟩] 24) = W at *
        generalize w2.heap.size = N2 at *
        obtain ⟨-, c0, c1, c2, c3, -, -, -, -⟩ := M2.out
        have k0 := cell_regrown c0
        have k1 := cell_regrown c1
        have k2 := cell_regrown c2
        have k3 := cell_regrown c3
        have F1 : Hid (∀ d os, Calls Tryz.prog 28 #[.slice ad 0 cap] (grow (redrawn W d) os) fun e w'' => e = .returned (ver 0 0 0 ⟨#[]⟩) ∧ ∃ q : Regrown, w'' = grow (redrawn W q.d) q.os) := fun d os => Calls.regrown_of (rmax_none ad cap _)
        refine wp_region_quiet_below mixed (by kernel_rfl) ?_
        iterate 4 (quiet_step (fail))
        quiet_step (exact F1.out _ _)
        iterate 3 (quiet_step (fail))
        refine wpQuiet_nil ?_
        intro w5 hw5
        have hB5 := step hB2 (regrown_below hw5)
        go_wp2_with fail
        go_ret
        exact ⟨by first | rfl | simp, hB5⟩
    · have h0 : 0 < k := by omega
      have hlen := HROW.out.n
      obtain ⟨b, off, rfl, hat⟩ := HROW.out.at_ h0
      have HAT := hide hat
      have hne : ls ≠ [] := fun e => by rw [e] at hlen; simp at hlen; omega
      have CM := hide (max_any b off k cap ls wc hlen h0 (by omega) hat HOK.out (HE.out.later hBw))
      have CR : Hid (∀ W, Below wc.heap.size wc W → Calls Tryz.prog 28 #[.slice (some ⟨b, off, none⟩) k cap] W fun e w' => e = .returned (val (maxV ls)) ∧ Below W.heap.size W w') := fun W hW => rmax_any b off k cap ls W hlen (by omega) (fun j hj => (hat j hj).later hW) HOK.out
      have HMM := hide (maxV_mem ls hne)
      have HMG := hide (fun x hx => maxV_ge ls x hx)
      have HMO := hide (HOK.out _ HMM.out)
      have HLEN := hide hlen
      clear hat hne hlen HROW
      generalize maxV ls = M at *
      obtain ⟨ma, mb, mc, mp⟩ := M
      have dk : ((k : Int) == 0) = false := by simp; omega
      go_wp2_with fail
      refine CM.out.mono ?_
      rintro e w2 ⟨rfl, b2⟩
      have ba2 : Below w2.heap.size w2 (w2.alloc (.cells #[.int .i64 ma, .int .i64 mb, .int .i64 mc, .string mp] 24)) := (Below.refl _ _).alloc (Nat.le_refl _) _
      have hBw1 := step b2 ba2
      have hBw2 := step hBw hBw1
      have M2 := hide (VarAt.new w2 ⟨ma, mb, mc, mp⟩)
      clear ba2 b2 CM
      go_wp2_with fail
      generalize w2.alloc (.cells #[.int .i64 ma, .int .i64 mb, .int .i64 mc, .string mp] 24) = W2 at *
      generalize w2.heap.size = N2 at *
      go_loopw [8, 9] (fun f i wr => ∃ (j : Nat) (g : Bool), j ≤ k ∧ i = .int .i64 j ∧ f = .bool g ∧ (g = true ∨ ∀ i, i < j → ls.getD i Vr.V.zero ≠ ⟨ma, mb, mc, mp⟩) ∧ Below W2.heap.size W2 wr) (fun _ i _ => k - (RowKit.intOf i).toNat)
      case atStart => exact ⟨0, false, by omega, rfl, rfl, .inr (fun i hi => by omega), Below.refl _ _⟩
      case round =>
        obtain ⟨j, g, hj, rfl, rfl, hg, hBr⟩ := hrel
        have HG := hide hg
        have MR := hide (M2.out.later hBr)
        clear hg
        by_cases hlt : j < k
        · obtain ⟨e0, e1, e2, e3⟩ := ((HAT.out j hlt).later hBw1).later hBr
          have hjl : j < ls.length := by rw [HLEN.out]; exact hlt
          have hmem := vmem ls j hjl
          have hxo := HOK.out _ hmem
          have hge := HMG.out _ hmem
          obtain ⟨v, hv⟩ : ∃ v, Hid (ls.getD j Vr.V.zero = v) := ⟨_, rfl⟩
          rw [hv.out] at e0 e1 e2 e3 hxo hge
          obtain ⟨xa, xb, xc, xp⟩ := v
          have CC := hide (fun W hW => cmp_any ⟨xa, xb, xc, xp⟩ ⟨ma, mb, mc, mp⟩ W hxo HMO.out hW)
          have i1 : (0 : Int) ≤ (j : Int) := by omega
          have i2 : (j : Int) < (k : Int) := by omega
          obtain ⟨-, c0, c1, c2, c3, -, -, -, -⟩ := MR.out
          clear hmem hjl hxo
          generalize cmpV ⟨xa, xb, xc, xp⟩ ⟨ma, mb, mc, mp⟩ = c at *
          have dc : decide (0 < c) = false := by simp; omega
          cases g
          · by_cases heq : (⟨xa, xb, xc, xp⟩ : Vr.V) = ⟨ma, mb, mc, mp⟩
            · injection heq with q1 q2 q3 q4
              subst q1 q2 q3 q4
              go_wp2_with fail
              go_quiet (fail)
              go_wp2_with fail
              have rd := belDrewN wr nq
              have hB3 := step hBr rd
              have g0 := cellLater rd e0
              have g1 := cellLater rd e1
              have g2 := cellLater rd e2
              have g3 := cellLater rd e3
              obtain ⟨-, m0, m1, m2, m3, -, -, -, -⟩ := MR.out.later rd
              clear e0 e1 e2 e3 c0 c1 c2 c3 rd
              generalize wr.drewN nq = U at *
              have k0 := cell_regrown g0
              have k1 := cell_regrown g1
              have k2 := cell_regrown g2
              have k3 := cell_regrown g3
              have k4 := cell_regrown m0
              have k5 := cell_regrown m1
              have k6 := cell_regrown m2
              have k7 := cell_regrown m3
              have F1 : Hid (∀ d os, Calls Tryz.prog 25 #[ver xa xb xc xp, ver xa xb xc xp] (grow (redrawn U d) os) fun e w'' => e = .returned (.int .i64 c) ∧ ∃ q : Regrown, w'' = grow (redrawn U q.d) q.os) := fun d os => Calls.regrown_of (CC.out _ (HE.out.later (step hBw2 (step hB3 (below_regrown U d os)))))
              clear g0 g1 g2 g3 m0 m1 m2 m3
              refine wp_region_quiet_below mixed (by kernel_rfl) ?_
              iterate 5 (quiet_step (fail))
              quiet_step (exact F1.out _ _)
              iterate 1 (quiet_step (fail))
              refine wpQuiet_nil ?_
              intro w5 hw5
              have hB5 := step hB3 (regrown_below hw5)
              clear k0 k1 k2 k3 k4 k5 k6 k7 F1 hw5
              go_wp2_with fail
              go_roundw
              case rel => exact ⟨j + 1, true, by omega, by go_num, rfl, .inl rfl, hB5⟩
              case measure => simp [RowKit.intOf]; omega
            · have four : Hid ((xa == ma) = false ∨ ((xa == ma) = true ∧ (xb == mb) = false) ∨ ((xa == ma) = true ∧ (xb == mb) = true ∧ (xc == mc) = false) ∨ ((xa == ma) = true ∧ (xb == mb) = true ∧ (xc == mc) = true ∧ (xp.toList == mp.toList) = false)) := by
                show _ ∨ _
                by_cases e1 : xa = ma
                · by_cases e2 : xb = mb
                  · by_cases e3 : xc = mc
                    · refine .inr (.inr (.inr ⟨by simp [e1], by simp [e2], by simp [e3], ?_⟩))
                      cases h : (xp.toList == mp.toList) with
                      | false => rfl
                      | true =>
                        refine absurd ?_ heq
                        have e4 : xp = mp := by
                          have := eq_of_beq h
                          refine ba_ext ?_
                          rw [← toList_data, ← toList_data, this]
                        rw [e1, e2, e3, e4]
                    · exact .inr (.inr (.inl ⟨by simp [e1], by simp [e2], by simpa using e3⟩))
                  · exact .inr (.inl ⟨by simp [e1], by simpa using e2⟩)
                · exact .inl (by simpa using e1)
              have HNE : Hid (∀ i, i < j + 1 → ls.getD i Vr.V.zero ≠ ⟨ma, mb, mc, mp⟩) := by
                show ∀ i, _
                intro i hi
                by_cases hij : i < j
                · rcases HG.out with h | h
                  · cases h
                  · exact h i hij
                · obtain rfl : i = j := by omega
                  rw [hv.out]; exact heq
              clear heq
              rcases four.out with f | ⟨f, g⟩ | ⟨f, g, h⟩ | ⟨f, g, h, m⟩
              all_goals
                clear four
                go_wp2_with fail
                go_quiet (fail)
                go_wp2_with fail
                have rd := belDrewN wr nq
                have hB3 := step hBr rd
                have g0 := cellLater rd e0
                have g1 := cellLater rd e1
                have g2 := cellLater rd e2
                have g3 := cellLater rd e3
                obtain ⟨-, m0, m1, m2, m3, -, -, -, -⟩ := MR.out.later rd
                clear e0 e1 e2 e3 c0 c1 c2 c3 rd
                generalize wr.drewN nq = U at *
                have k0 := cell_regrown g0
                have k1 := cell_regrown g1
                have k2 := cell_regrown g2
                have k3 := cell_regrown g3
                have k4 := cell_regrown m0
                have k5 := cell_regrown m1
                have k6 := cell_regrown m2
                have k7 := cell_regrown m3
                have F1 : Hid (∀ d os, Calls Tryz.prog 25 #[ver xa xb xc xp, ver ma mb mc mp] (grow (redrawn U d) os) fun e w'' => e = .returned (.int .i64 c) ∧ ∃ q : Regrown, w'' = grow (redrawn U q.d) q.os) := fun d os => Calls.regrown_of (CC.out _ (HE.out.later (step hBw2 (step hB3 (below_regrown U d os)))))
                clear g0 g1 g2 g3 m0 m1 m2 m3
                refine wp_region_quiet_below mixed (by kernel_rfl) ?_
                iterate 5 (quiet_step (fail))
                quiet_step (exact F1.out _ _)
                iterate 1 (quiet_step (fail))
                refine wpQuiet_nil ?_
                intro w5 hw5
                have hB5 := step hB3 (regrown_below hw5)
                clear k0 k1 k2 k3 k4 k5 k6 k7 F1 hw5
                go_wp2_with fail
                go_roundw
                case rel => exact ⟨j + 1, false, by omega, by go_num, rfl, .inr HNE.out, hB5⟩
                case measure => simp [RowKit.intOf]; omega
          · go_wp2_with fail
            go_quiet (fail)
            go_wp2_with fail
            have rd := belDrewN wr nq
            have hB3 := step hBr rd
            have g0 := cellLater rd e0
            have g1 := cellLater rd e1
            have g2 := cellLater rd e2
            have g3 := cellLater rd e3
            obtain ⟨-, m0, m1, m2, m3, -, -, -, -⟩ := MR.out.later rd
            clear e0 e1 e2 e3 c0 c1 c2 c3 rd
            generalize wr.drewN nq = U at *
            have k0 := cell_regrown g0
            have k1 := cell_regrown g1
            have k2 := cell_regrown g2
            have k3 := cell_regrown g3
            have k4 := cell_regrown m0
            have k5 := cell_regrown m1
            have k6 := cell_regrown m2
            have k7 := cell_regrown m3
            have F1 : Hid (∀ d os, Calls Tryz.prog 25 #[ver xa xb xc xp, ver ma mb mc mp] (grow (redrawn U d) os) fun e w'' => e = .returned (.int .i64 c) ∧ ∃ q : Regrown, w'' = grow (redrawn U q.d) q.os) := fun d os => Calls.regrown_of (CC.out _ (HE.out.later (step hBw2 (step hB3 (below_regrown U d os)))))
            clear g0 g1 g2 g3 m0 m1 m2 m3
            refine wp_region_quiet_below mixed (by kernel_rfl) ?_
            iterate 5 (quiet_step (fail))
            quiet_step (exact F1.out _ _)
            iterate 1 (quiet_step (fail))
            refine wpQuiet_nil ?_
            intro w5 hw5
            have hB5 := step hB3 (regrown_below hw5)
            clear k0 k1 k2 k3 k4 k5 k6 k7 F1 hw5
            go_wp2_with fail
            go_roundw
            case rel => exact ⟨j + 1, true, by omega, by go_num, rfl, .inl rfl, hB5⟩
            case measure => simp [RowKit.intOf]; omega
        · have hd : decide ((j : Int) < (k : Int)) = false := by simp; omega
          have hg : g = true := by
            rcases HG.out with h | h
            · exact h
            · obtain ⟨i, hi, e⟩ := List.mem_iff_getElem.1 HMM.out
              have hik : i < k := by rw [← HLEN.out]; exact hi
              exact absurd (by rw [← e]; simp [List.getD, hi]) (h i (by omega))
          subst hg
          obtain ⟨-, c0, c1, c2, c3, -, -, -, -⟩ := MR.out
          have k0 := cell_regrown c0
          have k1 := cell_regrown c1
          have k2 := cell_regrown c2
          have k3 := cell_regrown c3
          have F1 : Hid (∀ d os, Calls Tryz.prog 28 #[.slice (some ⟨b, off, none⟩) k cap] (grow (redrawn wr d) os) fun e w'' => e = .returned (ver ma mb mc mp) ∧ ∃ q : Regrown, w'' = grow (redrawn wr q.d) q.os) := fun d os => Calls.regrown_of (CR.out _ (step hBw1 (step hBr (below_regrown wr d os))))
          clear c0 c1 c2 c3
          go_wp2_with fail
          refine wp_region_quiet_below mixed (by kernel_rfl) ?_
          iterate 4 (quiet_step (fail))
          quiet_step (exact F1.out _ _)
          iterate 3 (quiet_step (fail))
          refine wpQuiet_nil ?_
          intro w5 hw5
          have hB5 := step (step hBw2 hBr) (regrown_below hw5)
          go_wp2_with fail
          go_ret
          exact ⟨by first | rfl | simp, hB5⟩

end Go.Proofs.YtiicikieemfcmaaGreatDoor.verMax

/-
  The walk of SpanParses.
-/
import Derived.Test.YthihnpjbdjmbhaaGreatDoorG41
import Derived.Test.YthihnpjbdjmbhaaGreatDoorG33
import Derived.BigRegion
import Derived.BigQuiet
import Derived.Deep.DeepCutAuto

namespace Go.Proofs.YthihnpjbdjmbhaaGreatDoor.spanParses
set_option linter.unusedSimpArgs false
set_option linter.unusedVariables false
open Go.RowKit Go.Vr Go.Sort Go.Tx Go.Lib
attribute [local go_sem] setCellDrewN allocDrewN

theorem ten (w : World) (s0 s1 s2 s3 s4 s5 s6 s7 s8 s9 : ByteArray) (h : ∀ s ∈ [s0, s1, s2, s3, s4, s5, s6, s7, s8, s9], s.size ≤ 1200) :
    ∀ k, k < 10 → ∃ t : ByteArray, t.size ≤ 1200 ∧ (w.alloc (.cells #[.string s0, .string s1, .string s2, .string s3, .string s4, .string s5, .string s6, .string s7, .string s8, .string s9] 9)).cell? ⟨w.heap.size, k, none⟩ = some (.string t) := by
  intro k hk
  have hk' : k = 0 ∨ k = 1 ∨ k = 2 ∨ k = 3 ∨ k = 4 ∨ k = 5 ∨ k = 6 ∨ k = 7 ∨ k = 8 ∨ k = 9 := by omega
  rcases hk' with rfl | rfl | rfl | rfl | rfl | rfl | rfl | rfl | rfl | rfl
  · exact ⟨s0, h _ (by simp), by simp [go_sem]⟩
  · exact ⟨s1, h _ (by simp), by simp [go_sem]⟩
  · exact ⟨s2, h _ (by simp), by simp [go_sem]⟩
  · exact ⟨s3, h _ (by simp), by simp [go_sem]⟩
  · exact ⟨s4, h _ (by simp), by simp [go_sem]⟩
  · exact ⟨s5, h _ (by simp), by simp [go_sem]⟩
  · exact ⟨s6, h _ (by simp), by simp [go_sem]⟩
  · exact ⟨s7, h _ (by simp), by simp [go_sem]⟩
  · exact ⟨s8, h _ (by simp), by simp [go_sem]⟩
  · exact ⟨s9, h _ (by simp), by simp [go_sem]⟩

theorem cells10 {g : Nat} {w w' : World} (h : ∀ k, k < 10 → ∃ t : ByteArray, t.size ≤ 1200 ∧ w.cell? ⟨g, k, none⟩ = some (.string t)) (b : RowKit.Below w.heap.size w w') : ∀ k, k < 10 → ∃ t : ByteArray, t.size ≤ 1200 ∧ w'.cell? ⟨g, k, none⟩ = some (.string t) := by
  intro k hk
  obtain ⟨t, ht, hc⟩ := h k hk
  exact ⟨t, ht, cellLater b hc⟩
theorem good_ne {x : Bs} {K : Nat} (h : GoodT x K) : x ≠ [] := by
  rintro rfl
  obtain ⟨⟨qs, h1, -⟩, -⟩ := h
  have h2 := Sp.parse_parts h1
  have h3 : (Sp.parseS []).1.isNone = true := by decide +kernel
  rw [h2] at h3
  exact absurd h3 (by simp)

set_option maxHeartbeats 8000000 in
set_option maxRecDepth 100000 in
theorem walk (a0 : Option Addr) (len0 cap0 : Nat) (z0 : List Int) (a1 a2 a3 : Int) (s4 s5 : ByteArray) (w : World) (he : Env w) (w0 : IsRow .i64 w a0 len0 cap0 z0) (h1 : -9223372036854775808 ≤ a1 ∧ a1 ≤ 9223372036854775807) (h2 : 0 ≤ a2 ∧ a2 ≤ 255) (h3 : -9223372036854775808 ≤ a3 ∧ a3 ≤ 9223372036854775807) (h4 : s4.size ≤ maxLen) (h5 : s5.size ≤ maxLen) :
    Calls Tryz.prog 3 #[.slice a0 len0 cap0, .int .i64 a1, .int .u8 a2, .int .i64 a3, .string s4, .string s5] w fun e w' => e = .returned (.bool true) ∧ RowKit.Below w.heap.size w w' := by
  have HE := hide he
  have HR0 := hide w0.row
  clear he w0
  by_cases l4 : 30 < s4.size
  · have hd : decide ((30 : Int) < (s4.size : Int)) = true := decide_eq_true (by omega)
    clear l4
    go_enter Tryz.func3, Tryz.ntmps3
    go_wp2_with fail
    refine (known3_any w HE.out).mono ?_
    rintro e w1 ⟨rfl, b1⟩
    go_wp2_with fail
    go_ret
    exact ⟨rfl, b1⟩
  have d4 : decide ((30 : Int) < (s4.size : Int)) = false := decide_eq_false (by omega)
  by_cases l5 : 100 < s5.size
  · have hd : decide ((100 : Int) < (s5.size : Int)) = true := decide_eq_true (by omega)
    clear l4 l5
    go_enter Tryz.func3, Tryz.ntmps3
    go_wp2_with fail
    refine (known3_any w HE.out).mono ?_
    rintro e w1 ⟨rfl, b1⟩
    go_wp2_with fail
    go_ret
    exact ⟨rfl, b1⟩
  have d5 : decide ((100 : Int) < (s5.size : Int)) = false := decide_eq_false (by omega)
  clear h4 h5
  go_enter Tryz.func3, Tryz.ntmps3
  go_wp2_with fail
  refine (known3_any w HE.out).mono ?_
  rintro e w1 ⟨rfl, b1⟩
  have CW := hide (words3_any a0 len0 cap0 (z0.take len0) w1 (HR0.out.later b1))
  go_wp2_with fail
  refine CW.out.mono ?_
  rintro e v3 ⟨q, rfl, hqs, HG, b3⟩
  have hB3 := step b1 b3
  have hq1 : 1 ≤ q.size := by
    have h9 := good_ne HG.out
    have : q.data.toList.length ≠ 0 := fun e => h9 (List.eq_nil_of_length_eq_zero e)
    rw [len_eq] at this
    omega
  clear b1 b3 CW HR0 HG
  obtain ⟨bc, v4, xs, hcv, hrow, hfz, hb4, hlt4⟩ := conv_bytes q v3 (by omega)
  have hbc := hrow.le
  have hbm := hrow.mx
  unfold maxLen at hbm
  go_wp2_with fail
  refine (within3 _ _ _ (by omega) (by omega) (by omega) (by omega)).mono ?_
  rintro e v5 ⟨j, rfl, hj, -, hw⟩
  rw [hw]
  clear hw v5
  have hjn : j < q.size := by omega
  have hce := hrow.cell _ rfl j hjn
  rw [addr_add, Nat.zero_add] at hce
  have hfj := hfz j hjn
  have hzb : 0 ≤ xs.getD j 0 ∧ xs.getD j 0 ≤ 255 := by
    have hl : j < xs.length := by rw [hrow.n]; exact hjn
    have e : xs.getD j 0 = xs[j] := by simp [List.getD, List.getElem?_eq_getElem hl]
    rw [e]; exact bd8 (hrow.wf _ (List.getElem_mem hl))
  obtain ⟨hy1, hy2⟩ := hzb
  have HROW : Hid (Row .u8 v4 (some ⟨v3.heap.size, 0, none⟩) q.size bc xs) := hrow
  generalize xs.getD j 0 = y at *
  clear hrow hcv hfz
  have j1 : (0 : Int) ≤ (j : Int) := by omega
  have hwq : IntKind.i64.wrap ((q.size : Int) + 1) = (q.size : Int) + 1 := by rw [IntKind.wrap_i64]; omega
  go_wp2_with fail
  refine (within3 _ _ _ (by omega) (by omega) (by omega) (by omega)).mono ?_
  rintro e v6 ⟨m, rfl, hm, -, hw⟩
  rw [hw]
  clear hw v6
  have hrV := Row.put HROW.out j hjn ((y + a2) % 256) (WalkArith.wf_u8 (by omega))
  have hBV : RowKit.Below w.heap.size w (v4.setCell ⟨v3.heap.size, j, none⟩ (.int .u8 ((y + a2) % 256))) := (step hB3 hb4).setCell hB3.size _
  generalize v4.setCell ⟨v3.heap.size, j, none⟩ (.int .u8 ((y + a2) % 256)) = V at *
  have hxl : (xs.set j ((y + a2) % 256)).length = q.size := hrV.n
  have hcv1 : (convert 25 9 (.slice (some ⟨v3.heap.size, 0, none⟩) q.size bc)).run Tryz.prog V.drew = .ok (.string (strOfNums (xs.set j ((y + a2) % 256)))) V.drew := (hrV.later (RowKit.Below.refl _ _).drew).conv
  have hs0 : (strOfNums (xs.set j ((y + a2) % 256))).size ≤ 1200 := by rw [strOfNums_size, hxl]; omega
  generalize strOfNums (xs.set j ((y + a2) % 256)) = s0 at *
  have hmq : m ≤ q.size := by omega
  have j3 : (0 : Int) ≤ (m : Int) := by omega
  have j4 : (m : Int) ≤ (q.size : Int) := by omega
  have z1 : (q.extract 0 m).size = m := by rw [ByteArray.size_extract]; omega
  have z1' : (q.extract m q.size).size = q.size - m := by rw [ByteArray.size_extract]; omega
  have n1 : ¬ 9223372036854775807 < m + s4.size := by omega
  have n2 : ¬ 9223372036854775807 < m + s4.size + (q.size - m) := by omega
  have n3 : ¬ 9223372036854775807 < 1 + q.size := by omega
  have n4 : ¬ 9223372036854775807 < 1 + q.size + 2 := by omega
  have n5 : ¬ 9223372036854775807 < q.size + 2 := by omega
  have n6 : ¬ 9223372036854775807 < q.size + 3 := by omega
  have n7 : ¬ 9223372036854775807 < 3 + q.size := by omega
  have n8 : ¬ 9223372036854775807 < q.size + 3 + s5.size := by omega
  have e1 : (ByteArray.mk #[32]).size = 1 := rfl
  have e2 : (ByteArray.mk #[32, 32]).size = 2 := rfl
  have e3 : (ByteArray.mk #[32, 124]).size = 2 := rfl
  have e4 : (ByteArray.mk #[32, 124, 124]).size = 3 := rfl
  have e5 : (ByteArray.mk #[124, 124, 32]).size = 3 := rfl
  have e6 : (ByteArray.mk #[32, 45, 32]).size = 3 := rfl
  have hT := hide (ten V q s0 (q.extract 0 m) (q.extract 0 m ++ s4 ++ q.extract m q.size) s5 (⟨#[32]⟩ ++ q ++ ⟨#[32, 32]⟩) (q ++ ⟨#[32, 124]⟩) (q ++ ⟨#[32, 124, 124]⟩) (⟨#[124, 124, 32]⟩ ++ q) (q ++ ⟨#[32, 45, 32]⟩ ++ s5) (by
    intro s hs
    simp only [List.mem_cons, List.not_mem_nil, or_false] at hs
    rcases hs with rfl | rfl | rfl | rfl | rfl | rfl | rfl | rfl | rfl | rfl
    · omega
    · exact hs0
    · omega
    · rw [ByteArray.size_append, ByteArray.size_append]; omega
    · omega
    · rw [ByteArray.size_append, ByteArray.size_append]; omega
    · rw [ByteArray.size_append]; omega
    · rw [ByteArray.size_append]; omega
    · rw [ByteArray.size_append]; omega
    · rw [ByteArray.size_append, ByteArray.size_append]; omega))
  clear hce hfj HROW hrV hxl hb4 hlt4 hB3 hjn hj hy1 hy2 hbc hbm h2 h3 h1 e1 e2 e3 e4 e5 e6
  go_wp2_with fail
  go_cut [16] (fun l wc => ∃ g, l = .slice (some ⟨g, 0, none⟩) 10 10 ∧ (∀ k, k < 10 → ∃ t : ByteArray, t.size ≤ 1200 ∧ wc.cell? ⟨g, k, none⟩ = some (.string t)) ∧ RowKit.Below w.heap.size w wc)
  case first =>
    go_region
    all_goals
      go_wp2_with fail
      go_meet
      case rel =>
        exact ⟨V.heap.size, rfl, hT.out, (hBV.alloc hBV.size _).drew⟩
  case rest =>
    obtain ⟨g, rfl, hg, hB⟩ := hcut
    have HG := hide hg
    have HB := hide hB
    clear hcv1 hBV hT n1 n2 n3 n4 n5 n6 n7 n8 z1 z1' j3 j4 hmq hs0 hm hwq j1 hg hB hqs hq1
    go_wp2_with fail
    go_loopw [17] (fun i wr => ∃ k : Nat, k ≤ 10 ∧ i = .int .i64 k ∧ Hid (∀ k, k < 10 → ∃ t : ByteArray, t.size ≤ 1200 ∧ wr.cell? ⟨g, k, none⟩ = some (.string t)) ∧ Hid (RowKit.Below w.heap.size w wr)) (fun i _ => 10 - (RowKit.intOf i).toNat)
    case atStart => exact ⟨0, by omega, rfl, HG, HB⟩
    case round =>
      obtain ⟨k, hk, rfl, hck, HBk⟩ := hrel
      clear HG HB
      by_cases hk2 : k < 10
      · obtain ⟨t, ht, hc⟩ := hck.out k hk2
        have i1 : (0 : Int) ≤ (k : Int) := by omega
        have i2 : (k : Int) < 10 := by omega
        have hc0 := hide hc
        have CP := hide (fun W hW => sparse_any t W (by omega) (ia_any t (by omega)) hW)
        have CR := hide (fun W => rparseS_any t W (by omega))
        have E5 := hide (HE.out.later HBk.out)
        clear ht
        rcases hps : Sp.parseS t.data.toList with ⟨o, qn⟩
        rw [hps] at CP CR
        clear hps
        cases o with
        | none =>
          go_wp2_with fail
          refine (CP.out _ E5.out).mono ?_
          rintro e w6 ⟨h6, b6⟩
          have h6 : e = .returned (.tuple #[.slice none 0 0, .int .i64 qn, .int .i64 6]) := h6
          subst h6
          have hc := cellLater b6 hc0.out
          have HB6 := hide (step HBk.out b6)
          have HK6 := hide (cells10 hck.out b6)
          clear b6
          go_wp2_with fail
          refine (CR.out _).mono ?_
          rintro e w7 ⟨h7, b7⟩
          have h7 : e = .returned (.tuple #[.slice none 0 0, .int .i64 qn, .int .i64 6]) := h7
          subst h7
          have HB7 := hide (step HB6.out b7)
          have HK7 := hide (cells10 HK6.out b7)
          have CS := hide (same_sl w7 none none 0 0 0 0 [] [] 4000 4000 (SR.nil w7 4000) (SR.nil w7 4000) (by omega) rfl)
          clear b7 HB6 HK6 hc
          go_wp2_with fail
          refine CS.out.mono ?_
          rintro e w8 ⟨rfl, b8⟩
          go_wp2_with fail
          go_roundw
          case rel => exact ⟨k + 1, by omega, by go_num, hide (cells10 HK7.out b8), hide (step HB7.out b8)⟩
          case measure => simp [RowKit.intOf]; omega
        | some l =>
          go_wp2_with fail
          refine (CP.out _ E5.out).mono ?_
          rintro e w6 ⟨h6, b6⟩
          obtain ⟨v', h6, ho⟩ : ∃ v', e = .returned (.tuple #[v', .int .i64 0, .int .i64 0]) ∧ EOwn ES w6 wr.heap.size v' l := h6
          subst h6
          obtain ⟨ad, cp, rfl, -, -, hr⟩ := ho.any
          have HR := hide hr
          have hc := cellLater b6 hc0.out
          have HB6 := hide (step HBk.out b6)
          have HK6 := hide (cells10 hck.out b6)
          clear b6 ho hr
          go_wp2_with fail
          refine (CR.out _).mono ?_
          rintro e w7 ⟨h7, b7⟩
          obtain ⟨ad2, n2, cp2, h7, sr⟩ : ∃ ad n cp, e = .returned (.tuple #[.slice ad n cp, .int .i64 0, .int .i64 0]) ∧ SR w7 ad n l 4000 := h7
          subst h7
          have HB7 := hide (step HB6.out b7)
          have HK7 := hide (cells10 HK6.out b7)
          have S1 : SR w7 ad l.length l 4000 := ⟨HR.out.later b7, sr.row, by have h8 := sr.r.n; have h9 := sr.le; omega⟩
          have CS := hide (same_sl w7 ad ad2 l.length n2 cp cp2 l l 4000 4000 S1 sr (by omega) rfl)
          clear b7 HB6 HK6 hc S1 sr HR
          go_wp2_with fail
          refine CS.out.mono ?_
          rintro e w8 ⟨rfl, b8⟩
          go_wp2_with fail
          go_roundw
          case rel => exact ⟨k + 1, by omega, by go_num, hide (cells10 HK7.out b8), hide (step HB7.out b8)⟩
          case measure => simp [RowKit.intOf]; omega
      · have dk : decide ((k : Int) < 10) = false := decide_eq_false (by omega)
        go_wp2_with fail
        go_ret
        exact ⟨rfl, HBk.out⟩

end Go.Proofs.YthihnpjbdjmbhaaGreatDoor.spanParses

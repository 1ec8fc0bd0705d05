/-
  The walk of PathRight.
-/
import Derived.Test.YtfnagahmgncehaaDoorH11
import Derived.BigRegion
import Derived.BigQuiet
import Derived.Deep.DeepCutAuto
import Derived.Deep.RegionHeld3
namespace Go.Proofs.YtfnagahmgncehaaDoor.pathRight
set_option linter.unusedSimpArgs false
set_option linter.unusedVariables false
open Go.RowKit Go.Vr Go.Sort Go.Tx Go.Pa Go.Lib
attribute [local go_sem] setCellDrewN allocDrewN

theorem ten (w : World) (s0 s1 s2 s3 s4 s5 s6 s7 s8 s9 : ByteArray) (h : ∀ s ∈ [s0, s1, s2, s3, s4, s5, s6, s7, s8, s9], s.size ≤ 1000) :
    ∀ k, k < 10 → ∃ t : ByteArray, t.size ≤ 1000 ∧ (w.alloc (.cells #[.string s0, .string s1, .string s2, .string s3, .string s4, .string s5, .string s6, .string s7, .string s8, .string s9] 9)).cell? ⟨w.heap.size, k, none⟩ = some (.string t) := by
  intro k hk
  have hk' : k = 0 ∨ k = 1 ∨ k = 2 ∨ k = 3 ∨ k = 4 ∨ k = 5 ∨ k = 6 ∨ k = 7 ∨ k = 8 ∨ k = 9 := by omega
  rcases hk' with rfl | rfl | rfl | rfl | rfl | rfl | rfl | rfl | rfl | rfl
  · exact ⟨s0, h _ (by simp), by simp [go_sem]⟩
  · exact ⟨s1, h _ (by simp), by simp [go_sem]⟩
  · exact ⟨s2, h _ (by simp), by simp [go_sem]⟩
  · exact ⟨s3, h _ (by simp), by simp [go_sem]⟩
  · exact ⟨s4, h _ (by simp), by simp [go_sem]⟩
  · exact ⟨s5, h _ (by simp), by simp [go_sem]⟩
  · exact ⟨s6, h _ (by simp), by simp [go_sem]⟩
  · exact ⟨s7, h _ (by simp), by simp [go_sem]⟩
  · exact ⟨s8, h _ (by simp), by simp [go_sem]⟩
  · exact ⟨s9, h _ (by simp), by simp [go_sem]⟩

theorem cells10 {g : Nat} {w w' : World} (h : ∀ k, k < 10 → ∃ t : ByteArray, t.size ≤ 1000 ∧ w.cell? ⟨g, k, none⟩ = some (.string t)) (b : Below w.heap.size w w') : ∀ k, k < 10 → ∃ t : ByteArray, t.size ≤ 1000 ∧ w'.cell? ⟨g, k, none⟩ = some (.string t) := by
  intro k hk
  obtain ⟨t, ht, hc⟩ := h k hk
  exact ⟨t, ht, cellLater b hc⟩

set_option maxHeartbeats 8000000 in
set_option maxRecDepth 100000 in
theorem walk (a0 a1 a2 a3 : Int) (s4 : ByteArray) (w : World) (he : Env w) (h0 : -9223372036854775808 ≤ a0 ∧ a0 ≤ 9223372036854775807) (h1 : -9223372036854775808 ≤ a1 ∧ a1 ≤ 9223372036854775807) (h2 : 0 ≤ a2 ∧ a2 ≤ 255) (h3 : -9223372036854775808 ≤ a3 ∧ a3 ≤ 9223372036854775807) (h4 : s4.size ≤ maxLen) :
    Calls Tryd.prog 3 #[.int .i64 a0, .int .i64 a1, .int .u8 a2, .int .i64 a3, .string s4] w fun e w' => e = .returned (.bool true) ∧ Below w.heap.size w w' := by
  have CK := hide (known4_any w he)
  have HE := hide he
  clear he
  by_cases l4 : 60 < s4.size
  · have hd : decide ((60 : Int) < (s4.size : Int)) = true := decide_eq_true (by omega)
    clear l4
    go_enter Tryd.func3, Tryd.ntmps3
    go_wp2_with fail
    refine CK.out.mono ?_
    rintro e w1 ⟨rfl, b1⟩
    go_wp2_with fail
    go_ret
    exact ⟨rfl, b1⟩
  have d4 : decide ((60 : Int) < (s4.size : Int)) = false := decide_eq_false (by omega)
  clear h4
  obtain ⟨hr0, hz1, hz2⟩ := mkP_ok a0
  have hq1 : 1 ≤ (str (mkP a0)).size := by rw [str_size]; exact hz1
  have hq2 : (str (mkP a0)).size ≤ 15 := by rw [str_size]; exact hz2
  have CA := hide (fun W => make4_any a0 W h0)
  have CS := hide (fun W hW => pright_any (str (mkP a0)) W (by omega) hW)
  rw [str_list, hr0] at CS
  clear hr0 hz1 hz2 h0
  generalize str (mkP a0) = q at *
  go_enter Tryd.func3, Tryd.ntmps3
  go_wp2_with fail
  refine CK.out.mono ?_
  rintro e w1 ⟨rfl, b1⟩
  go_wp2_with fail
  refine (CA.out _).mono ?_
  rintro e v3 ⟨rfl, b3⟩
  have hB3 := step b1 b3
  clear b1 b3 CA CK
  obtain ⟨bc, v4, xs, hcv, hrow, hfz, hb4, hlt4⟩ := conv_bytes q v3 (by omega)
  have hbc := hrow.le
  have hbm := hrow.mx
  unfold maxLen at hbm
  go_wp2_with fail
  refine (within4_nat _ _ _ (by omega) (by omega) (by omega) (by omega)).mono ?_
  rintro e v5 ⟨j, rfl, hj, -, hw⟩
  rw [hw]
  clear hw v5
  have hjn : j < q.size := by omega
  have hce := hrow.cell _ rfl j hjn
  rw [addr_add, Nat.zero_add] at hce
  have hfj := hfz j hjn
  have hzb : 0 ≤ xs.getD j 0 ∧ xs.getD j 0 ≤ 255 := by
    have hl : j < xs.length := by rw [hrow.n]; exact hjn
    have e : xs.getD j 0 = xs[j] := by simp [List.getD, List.getElem?_eq_getElem hl]
    rw [e]; exact bd8 (hrow.wf _ (List.getElem_mem hl))
  obtain ⟨hy1, hy2⟩ := hzb
  have HROW : Hid (Row .u8 v4 (some ⟨v3.heap.size, 0, none⟩) q.size bc xs) := hrow
  generalize xs.getD j 0 = y at *
  clear hrow hcv hfz
  have j1 : (0 : Int) ≤ (j : Int) := by omega
  have hwq : IntKind.i64.wrap ((q.size : Int) + 1) = (q.size : Int) + 1 := by rw [IntKind.wrap_i64]; omega
  go_wp2_with fail
  refine (within4_nat _ _ _ (by omega) (by omega) (by omega) (by omega)).mono ?_
  rintro e v6 ⟨m, rfl, hm, -, hw⟩
  rw [hw]
  clear hw v6
  have hrV := Row.put HROW.out j hjn ((y + a2) % 256) (WalkArith.wf_u8 (by omega))
  have hBV : Below w.heap.size w (v4.setCell ⟨v3.heap.size, j, none⟩ (.int .u8 ((y + a2) % 256))) := (step hB3 hb4).setCell hB3.size _
  generalize v4.setCell ⟨v3.heap.size, j, none⟩ (.int .u8 ((y + a2) % 256)) = V at *
  have hxl : (xs.set j ((y + a2) % 256)).length = q.size := hrV.n
  have hcv1 : (convert 24 9 (.slice (some ⟨v3.heap.size, 0, none⟩) q.size bc)).run Tryd.prog V.drew = .ok (.string (strOfNums (xs.set j ((y + a2) % 256)))) V.drew := (hrV.later (Below.refl _ _).drew).conv
  have hs0 : (strOfNums (xs.set j ((y + a2) % 256))).size ≤ 1000 := by rw [strOfNums_size, hxl]; omega
  generalize strOfNums (xs.set j ((y + a2) % 256)) = s0 at *
  have hmq : m ≤ q.size := by omega
  have j3 : (0 : Int) ≤ (m : Int) := by omega
  have j4 : (m : Int) ≤ (q.size : Int) := by omega
  have z1 : (q.extract 0 m).size = m := by rw [ByteArray.size_extract]; omega
  have z1' : (q.extract m q.size).size = q.size - m := by rw [ByteArray.size_extract]; omega
  have n1 : ¬ 9223372036854775807 < m + s4.size := by omega
  have n2 : ¬ 9223372036854775807 < m + s4.size + (q.size - m) := by omega
  have n3 : ¬ 9223372036854775807 < q.size + 1 := by omega
  have n4 : ¬ 9223372036854775807 < 1 + q.size := by omega
  have n5 : ¬ 9223372036854775807 < q.size + 1 + q.size := by omega
  have n6 : ¬ 9223372036854775807 < q.size + 1 + q.size + 1 := by omega
  have n7 : ¬ 9223372036854775807 < q.size + 1 + q.size + 1 + q.size := by omega
  have e1 : (ByteArray.mk #[47]).size = 1 := rfl
  have hT := hide (ten V s0 (q.extract 0 m) (q.extract 0 m ++ s4 ++ q.extract m q.size) s4 (q ++ ⟨#[47]⟩) (⟨#[47]⟩ ++ q) (q ++ ⟨#[47]⟩ ++ q ++ ⟨#[47]⟩ ++ q) ⟨#[97, 47, 46, 47, 98]⟩ ⟨#[46, 46]⟩ ⟨#[]⟩ (by
    intro s hs
    simp only [List.mem_cons, List.not_mem_nil, or_false] at hs
    rcases hs with rfl | rfl | rfl | rfl | rfl | rfl | rfl | rfl | rfl | rfl
    · exact hs0
    · omega
    · rw [ByteArray.size_append, ByteArray.size_append]; omega
    · omega
    · rw [ByteArray.size_append]; omega
    · rw [ByteArray.size_append]; omega
    · rw [ByteArray.size_append, ByteArray.size_append, ByteArray.size_append, ByteArray.size_append]; omega
    all_goals decide))
  clear hce hfj HROW hrV hxl hb4 hlt4 hB3 hjn hj hy1 hy2 hbc hbm h2 h3 h1 e1
  go_wp2_with fail
  go_cut [14] (fun l wc => ∃ g, l = .slice (some ⟨g, 0, none⟩) 10 10 ∧ (∀ k, k < 10 → ∃ t : ByteArray, t.size ≤ 1000 ∧ wc.cell? ⟨g, k, none⟩ = some (.string t)) ∧ Below w.heap.size w wc)
  case first =>
    go_region
    all_goals
      go_wp2_with fail
      go_meet
      case rel =>
        exact ⟨V.heap.size, rfl, hT.out, (hBV.alloc hBV.size _).drew⟩
  case rest =>
    obtain ⟨g, rfl, hg, hB⟩ := hcut
    have HG := hide hg
    clear hcv1 hBV hT n1 n2 n3 n4 n5 n6 n7 z1 z1' j3 j4 hmq hs0 hm hwq j1 hg
    go_wp2_with fail
    go_loopw [15] (fun i wr => ∃ k : Nat, k ≤ 10 ∧ i = .int .i64 k ∧ Hid (∀ k, k < 10 → ∃ t : ByteArray, t.size ≤ 1000 ∧ wr.cell? ⟨g, k, none⟩ = some (.string t)) ∧ Hid (Below w.heap.size w wr)) (fun i _ => 10 - (RowKit.intOf i).toNat)
    case atStart => exact ⟨0, by omega, rfl, HG, hide hB⟩
    case round =>
      obtain ⟨k, hk, rfl, hck, HBk⟩ := hrel
      clear HG hB
      by_cases hk2 : k < 10
      · obtain ⟨t, ht, hc⟩ := hck.out k hk2
        have i1 : (0 : Int) ≤ (k : Int) := by omega
        have i2 : (k : Int) < 10 := by omega
        have E5 := hide (HE.out.later HBk.out)
        have CP := hide (fun W hW => pright_any t W (by omega) hW)
        have CR := hide (fun W => prright_any t W (by omega))
        generalize right t.data.toList = R at *
        have K0 : ∀ w', Below wr.heap.size wr w' → w'.cell? ⟨g, k, none⟩ = some (.string t) := fun w' h => cellLater h hc
        have hB0 := Below.refl wr.heap.size wr
        clear hc ht
        go_wp2_with fail
        go_region_held3 (fun w' => Below wr.heap.size wr w') (first | assumption | exact (by repeat (first | with_reducible assumption | with_reducible exact Below.refl _ _ | with_reducible refine Below.setCell ?_ (by first | exact Nat.le_refl _ | (simp; done) | (simp; omega)) _ | with_reducible refine bal ?_ _ | with_reducible refine Below.alloc ?_ (by first | exact Nat.le_refl _ | (simp; done) | (simp; omega)) _ | with_reducible refine Below.drew ?_))) (first
          | (go_at_call 15; refine (CP.out _ (E5.out.later (by first | assumption | exact (by repeat (first | with_reducible assumption | with_reducible exact Below.refl _ _ | with_reducible refine Below.setCell ?_ (by first | exact Nat.le_refl _ | (simp; done) | (simp; omega)) _ | with_reducible refine bal ?_ _ | with_reducible refine Below.alloc ?_ (by first | exact Nat.le_refl _ | (simp; done) | (simp; omega)) _ | with_reducible refine Below.drew ?_))))).mono ?_; rintro e w5 ⟨rfl, b5⟩; have b5 : Below wr.heap.size wr w5 := (by refine Below.trans ?_ (Below.mono b5 ?_); rotate_left; exact Below.size (by with_reducible assumption); with_reducible assumption))
          | (go_at_call 16; refine (CR.out _).mono ?_; rintro e w5 ⟨rfl, b5⟩; have b5 : Below wr.heap.size wr w5 := (by refine Below.trans ?_ (Below.mono b5 ?_); rotate_left; exact Below.size (by with_reducible assumption); with_reducible assumption)))
        rename_i hHeld
        go_wp2_with fail
        go_roundw
        case rel => exact ⟨k + 1, by omega, by go_num, hide (cells10 hck.out hHeld), hide (step HBk.out hHeld)⟩
        case measure => simp [RowKit.intOf]; omega
      · have dk : decide ((k : Int) < 10) = false := decide_eq_false (by omega)
        go_wp2_with fail
        refine (CS.out _ (HE.out.later HBk.out)).mono ?_
        rintro e w5 ⟨rfl, b5⟩
        go_wp2_with fail
        go_ret
        exact ⟨rfl, step HBk.out b5⟩

end Go.Proofs.YtfnagahmgncehaaDoor.pathRight

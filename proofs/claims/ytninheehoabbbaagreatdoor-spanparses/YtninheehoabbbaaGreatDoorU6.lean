/-
  Contract of Parse.
-/
import Derived.Test.YtninheehoabbbaaGreatDoorU5
namespace Go.Proofs.YtninheehoabbbaaGreatDoor
set_option linter.unusedSimpArgs false
set_option linter.unusedVariables false
open Go.RowKit Go.Vr Go.Sort Go.Tx Go.Lib
attribute [local go_sem] setCellDrewN allocDrewN

theorem cut_len (s sep : Bs) : (cut s sep).1.length ≤ s.length ∧ (cut s sep).2.1.length ≤ s.length := by
  unfold cut
  split
  · simp; omega
  · simp
theorem trim_len (s p : Bs) : (trimPrefix s p).length ≤ s.length := by
  unfold trimPrefix
  split
  · simp
  · simp
theorem num_bd (l : Bs) : -9223372036854775808 ≤ num l ∧ num l ≤ 9223372036854775807 := by
  unfold num
  split
  · rename_i h; exact atoiAll_bounds h
  · omega
  · exact atoiSat_bounds l

set_option maxHeartbeats 4000000 in
set_option maxRecDepth 100000 in
theorem parse_any (s : ByteArray) (w : World) (hs : s.size ≤ 4000) (he : Env w) :
    Calls Tryz.prog 101 #[.string s] w fun e w' => e = .returned (pret (parse s.data.toList)) ∧ Below w.heap.size w w' := by
  have hB0 : Below w.heap.size w (w.alloc (.cells #[.int .i64 0, .int .i64 0, .int .i64 0, .string ⟨#[]⟩] 37)) := (Below.refl _ _).alloc (Nat.le_refl _) _
  have E0 : Hid (Env (w.alloc (.cells #[.int .i64 0, .int .i64 0, .int .i64 0, .string ⟨#[]⟩] 37))) := he.later hB0
  clear he
  have HI := hide (parse_is s.data.toList)
  have l1 := trim_len s.data.toList [118]
  rw [len_eq] at l1
  have hx1 : (str (trimPrefix s.data.toList [118])).size ≤ 4000 := by rw [Tx.str_size]; omega
  have H0 : Hid (parse0 s.data.toList = ⟨num (cut (cut (str (trimPrefix s.data.toList [118])).data.toList [45]).1 [46]).1, num (cut (cut (cut (str (trimPrefix s.data.toList [118])).data.toList [45]).1 [46]).2.1 [46]).1, num (cut (cut (cut (str (trimPrefix s.data.toList [118])).data.toList [45]).1 [46]).2.1 [46]).2.1, str (cut (str (trimPrefix s.data.toList [118])).data.toList [45]).2.1⟩) := rfl
  go_enter Tryz.func101, Tryz.ntmps101
  go_wp2_with fail
  refine (trimPrefix_any _ _ _).mono ?_
  rintro e w1 ⟨rfl, rfl⟩
  simp only [show (ByteArray.mk #[118]).data.toList = [118] from rfl]
  generalize str (trimPrefix s.data.toList [118]) = x1 at *
  go_wp2_with fail
  refine (cut_any x1 _ _ (by omega) E0.out).mono ?_
  simp only [show (ByteArray.mk #[45]).data.toList = [45] from rfl]
  rintro e w2 ⟨rfl, b2⟩
  have hB2 : Below w.heap.size w w2 := hB0.trans (b2.mono (by simp))
  have E2 := hide (E0.out.later b2)
  have k2 : w.heap.size < w2.heap.size := by have := b2.size; simp at this; omega
  obtain ⟨hc2, hf2⟩ := bcell b2
  have c0 := hc2 w.heap.size 0 (by simp)
  have c1 := hc2 w.heap.size 1 (by simp)
  have c2 := hc2 w.heap.size 2 (by simp)
  have c3 := hc2 w.heap.size 3 (by simp)
  have f0 := hf2 w.heap.size 0 (by simp)
  have f1 := hf2 w.heap.size 1 (by simp)
  have f2 := hf2 w.heap.size 2 (by simp)
  have f3 := hf2 w.heap.size 3 (by simp)
  simp [go_sem] at c0 c1 c2 c3 f0 f1 f2 f3
  clear hc2 hf2 b2 E0 hB0
  have l2 := cut_len x1.data.toList [45]
  rw [len_eq] at l2
  generalize (cut x1.data.toList [45]).2.2 = u1 at *
  have m1 : (str (cut x1.data.toList [45]).1).size ≤ 4000 := by rw [Tx.str_size]; omega
  have m2 : (str (cut x1.data.toList [45]).2.1).size ≤ 4000 := by rw [Tx.str_size]; omega
  have H1 : Hid (parse0 s.data.toList = ⟨num (cut (str (cut x1.data.toList [45]).1).data.toList [46]).1, num (cut (cut (str (cut x1.data.toList [45]).1).data.toList [46]).2.1 [46]).1, num (cut (cut (str (cut x1.data.toList [45]).1).data.toList [46]).2.1 [46]).2.1, str (cut x1.data.toList [45]).2.1⟩) := H0
  clear H0 l2
  generalize str (cut x1.data.toList [45]).1 = x2 at *
  generalize str (cut x1.data.toList [45]).2.1 = xp at *
  go_wp2_with fail
  refine (cut_any x2 _ _ (by omega) E2.out).mono ?_
  simp only [show (ByteArray.mk #[46]).data.toList = [46] from rfl]
  rintro e w3 ⟨rfl, b3⟩
  have l3 := cut_len x2.data.toList [46]
  rw [len_eq] at l3
  generalize (cut x2.data.toList [46]).2.2 = u2 at *
  have m3 : (str (cut x2.data.toList [46]).1).size ≤ 4000 := by rw [Tx.str_size]; omega
  have m4 : (str (cut x2.data.toList [46]).2.1).size ≤ 4000 := by rw [Tx.str_size]; omega
  have H2 : Hid (parse0 s.data.toList = ⟨num (str (cut x2.data.toList [46]).1).data.toList, num (cut (str (cut x2.data.toList [46]).2.1).data.toList [46]).1, num (cut (str (cut x2.data.toList [46]).2.1).data.toList [46]).2.1, xp⟩) := H1
  clear H1 l3
  generalize str (cut x2.data.toList [46]).1 = xa at *
  generalize str (cut x2.data.toList [46]).2.1 = xo at *
  have E3 := hide (E2.out.later b3)
  go_wp2_with fail
  refine (cut_any xo _ _ (by omega) E3.out).mono ?_
  simp only [show (ByteArray.mk #[46]).data.toList = [46] from rfl]
  rintro e w4 ⟨rfl, b4⟩
  have l4 := cut_len xo.data.toList [46]
  rw [len_eq] at l4
  generalize (cut xo.data.toList [46]).2.2 = u3 at *
  have m5 : (str (cut xo.data.toList [46]).1).size ≤ 4000 := by rw [Tx.str_size]; omega
  have m6 : (str (cut xo.data.toList [46]).2.1).size ≤ 4000 := by rw [Tx.str_size]; omega
  have H3 : Hid (parse0 s.data.toList = ⟨num xa.data.toList, num (str (cut xo.data.toList [46]).1).data.toList, num (str (cut xo.data.toList [46]).2.1).data.toList, xp⟩) := H2
  clear H2 l4
  generalize str (cut xo.data.toList [46]).1 = xb at *
  generalize str (cut xo.data.toList [46]).2.1 = xc at *
  have E4 := hide (E3.out.later b4)
  go_wp2_with fail
  refine (number_any xa _ (by omega) E4.out).mono ?_
  rintro e w5 ⟨rfl, b5⟩
  have E5 := hide (E4.out.later b5)
  go_wp2_with fail
  refine (number_any xb _ (by omega) E5.out).mono ?_
  rintro e w6 ⟨rfl, b6⟩
  have E6 := hide (E5.out.later b6)
  go_wp2_with fail
  refine (number_any xc _ (by omega) E6.out).mono ?_
  rintro e w7 ⟨rfl, b7⟩
  have E7 := hide (E6.out.later b7)
  have b27 : Below w2.heap.size w2 w7 := step (step (step (step b3 b4) b5) b6) b7
  have d0 := cellLater b27 c0
  have d1 := cellLater b27 c1
  have d2 := cellLater b27 c2
  have d3 := cellLater b27 c3
  have hB7 := hB2.trans (b27.mono hB2.size)
  have k7 : w.heap.size < w7.heap.size := by have := b27.size; omega
  have g0 := (b27.frozen (p := ⟨w.heap.size, 0, none⟩) k2).trans f0
  have g1 := (b27.frozen (p := ⟨w.heap.size, 1, none⟩) k2).trans f1
  have g2 := (b27.frozen (p := ⟨w.heap.size, 2, none⟩) k2).trans f2
  have g3 := (b27.frozen (p := ⟨w.heap.size, 3, none⟩) k2).trans f3
  clear b3 b4 b5 b6 b7 b27 E2 E3 E4 E5 E6 c0 c1 c2 c3 f0 f1 f2 f3 hB2 k2
  generalize num xa.data.toList = na at *
  generalize num xb.data.toList = nb at *
  generalize num xc.data.toList = nc at *
  have hB8 : Below w.heap.size w (w7.alloc (.cells #[.int .i64 na, .int .i64 nb, .int .i64 nc, .string xp] 37)) := hB7.alloc hB7.size _
  have E8 : Hid (Env (w7.alloc (.cells #[.int .i64 na, .int .i64 nb, .int .i64 nc, .string xp] 37))) := E7.out.later ((Below.refl _ _).alloc (Nat.le_refl _) _)
  have ba : Below w7.heap.size w7 (w7.alloc (.cells #[.int .i64 na, .int .i64 nb, .int .i64 nc, .string xp] 37)) := (Below.refl _ _).alloc (Nat.le_refl _) _
  have o0 := cellLater ba d0
  have o1 := cellLater ba d1
  have o2 := cellLater ba d2
  have o3 := cellLater ba d3
  have y0 := (ba.frozen (p := ⟨w.heap.size, 0, none⟩) k7).trans g0
  have y1 := (ba.frozen (p := ⟨w.heap.size, 1, none⟩) k7).trans g1
  have y2 := (ba.frozen (p := ⟨w.heap.size, 2, none⟩) k7).trans g2
  have y3 := (ba.frozen (p := ⟨w.heap.size, 3, none⟩) k7).trans g3
  have r0 : (w7.alloc (.cells #[.int .i64 na, .int .i64 nb, .int .i64 nc, .string xp] 37)).cell? ⟨w7.heap.size, 0, none⟩ = some (.int .i64 na) := by simp [go_sem]
  have r1 : (w7.alloc (.cells #[.int .i64 na, .int .i64 nb, .int .i64 nc, .string xp] 37)).cell? ⟨w7.heap.size, 1, none⟩ = some (.int .i64 nb) := by simp [go_sem]
  have r2 : (w7.alloc (.cells #[.int .i64 na, .int .i64 nb, .int .i64 nc, .string xp] 37)).cell? ⟨w7.heap.size, 2, none⟩ = some (.int .i64 nc) := by simp [go_sem]
  have r3 : (w7.alloc (.cells #[.int .i64 na, .int .i64 nb, .int .i64 nc, .string xp] 37)).cell? ⟨w7.heap.size, 3, none⟩ = some (.string xp) := by simp [go_sem]
  clear ba d0 d1 d2 d3 g0 g1 g2 g3
  cases hok : V.ok ⟨na, nb, nc, xp⟩ with
  | false =>
    have HN : Hid (parse s.data.toList = none) := by
      show parse s.data.toList = none
      rw [HI.out, H3.out, if_neg (fun h => by rw [hok] at h; cases h.1)]
    have HK := hide hok
    clear hok
    go_wp2_with fail
    refine (right_any ⟨na, nb, nc, xp⟩ _ (by unfold maxLen; simp only; omega) E8.out).mono ?_
    rw [HK.out]
    rintro e w9 ⟨rfl, b9⟩
    have p90 := cellLater b9 o0
    have p91 := cellLater b9 o1
    have p92 := cellLater b9 o2
    have p93 := cellLater b9 o3
    have q90 := cellLater b9 r0
    have q91 := cellLater b9 r1
    have q92 := cellLater b9 r2
    have q93 := cellLater b9 r3
    have z90 := (b9.frozen (p := ⟨w.heap.size, 0, none⟩) (by simp; omega)).trans y0
    have z91 := (b9.frozen (p := ⟨w.heap.size, 1, none⟩) (by simp; omega)).trans y1
    have z92 := (b9.frozen (p := ⟨w.heap.size, 2, none⟩) (by simp; omega)).trans y2
    have z93 := (b9.frozen (p := ⟨w.heap.size, 3, none⟩) (by simp; omega)).trans y3
    have hB9 := hB8.trans (b9.mono (by simp; omega))
    clear o0 o1 o2 o3 y0 y1 y2 y3 r0 r1 r2 r3
    go_wp2_with fail
    exact bodyPost_ret (v := .tuple #[ver 0 0 0 ⟨#[]⟩, .bool false]) (by simp [results, Tryz.results101, go_sem, p90, p91, p92, p93]) rfl ⟨pret_none HN.out, (((hB9.setCell (by simp) _).setCell (by simp) _).setCell (by simp) _).setCell (by simp) _⟩
  | true =>
    have HK := hide hok
    have hok2 := hok
    clear hok
    go_wp2_with fail
    refine (right_any ⟨na, nb, nc, xp⟩ _ (by unfold maxLen; simp only; omega) E8.out).mono ?_
    rw [HK.out]
    rintro e w9 ⟨rfl, b9⟩
    have p90 := cellLater b9 o0
    have p91 := cellLater b9 o1
    have p92 := cellLater b9 o2
    have p93 := cellLater b9 o3
    have q90 := cellLater b9 r0
    have q91 := cellLater b9 r1
    have q92 := cellLater b9 r2
    have q93 := cellLater b9 r3
    have z90 := (b9.frozen (p := ⟨w.heap.size, 0, none⟩) (by simp; omega)).trans y0
    have z91 := (b9.frozen (p := ⟨w.heap.size, 1, none⟩) (by simp; omega)).trans y1
    have z92 := (b9.frozen (p := ⟨w.heap.size, 2, none⟩) (by simp; omega)).trans y2
    have z93 := (b9.frozen (p := ⟨w.heap.size, 3, none⟩) (by simp; omega)).trans y3
    have hB9 := hB8.trans (b9.mono (by simp; omega))
    have E9 := hide (E8.out.later b9)
    have k9 : w.heap.size < w9.heap.size := by have := b9.size; simp at this; omega
    clear o0 o1 o2 o3 y0 y1 y2 y3 r0 r1 r2 r3
    have HT : Hid (txt ⟨na, nb, nc, xp⟩ = s.data.toList ↔ (str (txt ⟨na, nb, nc, xp⟩)).toList = s.toList) := by
      show _ ↔ _
      rw [toList_data, toList_data, str_list]
    have HX := hide (text_any ⟨na, nb, nc, xp⟩ w9 hok2 E9.out)
    have HN := hide (by have := HI.out; rw [H3.out] at this; exact this)
    clear HI H3
    generalize hx : str (txt ⟨na, nb, nc, xp⟩) = xt at *
    clear hx
    cases hq : (xt.toList == s.toList) with
    | false =>
      have HZ : Hid (parse s.data.toList = none) := by
        show parse s.data.toList = none
        rw [HN.out, if_neg (fun h => by have := HT.out.1 h.2; rw [this] at hq; simp at hq)]
      go_wp2_with fail
      refine HX.out.mono ?_
      rintro e w10 ⟨rfl, b10⟩
      have hB10 := step hB9 b10
      have k10 : w.heap.size < w10.heap.size := by have := b10.size; omega
      have p100 := cellLater b10 p90
      have p101 := cellLater b10 p91
      have p102 := cellLater b10 p92
      have p103 := cellLater b10 p93
      have z100 := (b10.frozen (p := ⟨w.heap.size, 0, none⟩) k9).trans z90
      have z101 := (b10.frozen (p := ⟨w.heap.size, 1, none⟩) k9).trans z91
      have z102 := (b10.frozen (p := ⟨w.heap.size, 2, none⟩) k9).trans z92
      have z103 := (b10.frozen (p := ⟨w.heap.size, 3, none⟩) k9).trans z93
      clear p90 p91 p92 p93 z90 z91 z92 z93
      go_wp2_with fail
      exact bodyPost_ret (v := .tuple #[ver 0 0 0 ⟨#[]⟩, .bool false]) (by simp [results, Tryz.results101, go_sem, p100, p101, p102, p103]) rfl ⟨pret_none HZ.out, (((hB10.setCell (by simp) _).setCell (by simp) _).setCell (by simp) _).setCell (by simp) _⟩
    | true =>
      have HZ : Hid (parse s.data.toList = some ⟨na, nb, nc, xp⟩) := by
        show parse s.data.toList = _
        rw [HN.out, if_pos ⟨hok2, HT.out.2 (beq_iff_eq.1 hq)⟩]
      go_wp2_with fail
      refine HX.out.mono ?_
      rintro e w10 ⟨rfl, b10⟩
      have hB10 := step hB9 b10
      have k10 : w.heap.size < w10.heap.size := by have := b10.size; omega
      have p100 := cellLater b10 p90
      have p101 := cellLater b10 p91
      have p102 := cellLater b10 p92
      have p103 := cellLater b10 p93
      have q100 := cellLater b10 q90
      have q101 := cellLater b10 q91
      have q102 := cellLater b10 q92
      have q103 := cellLater b10 q93
      have z100 := (b10.frozen (p := ⟨w.heap.size, 0, none⟩) k9).trans z90
      have z101 := (b10.frozen (p := ⟨w.heap.size, 1, none⟩) k9).trans z91
      have z102 := (b10.frozen (p := ⟨w.heap.size, 2, none⟩) k9).trans z92
      have z103 := (b10.frozen (p := ⟨w.heap.size, 3, none⟩) k9).trans z93
      clear p90 p91 p92 p93 z90 z91 z92 z93 q90 q91 q92 q93
      go_wp2_with fail
      exact bodyPost_ret (v := .tuple #[ver na nb nc xp, .bool true]) (by simp [results, Tryz.results101, go_sem, p100, p101, p102, p103]) rfl ⟨pret_some HZ.out, (((hB10.setCell (by simp) _).setCell (by simp) _).setCell (by simp) _).setCell (by simp) _⟩

end Go.Proofs.YtninheehoabbbaaGreatDoor

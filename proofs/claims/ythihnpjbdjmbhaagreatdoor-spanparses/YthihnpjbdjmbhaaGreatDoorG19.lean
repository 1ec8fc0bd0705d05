/-
  Contract of Parse.
  Contract of behind.
  Contract of Pseudo.
  Plain mathematics of the last word.
  Contract of Behind.
  Rows of versions; contracts of slices.MaxFunc by Cmp, of Max.
-/
import Derived.Test.YthihnpjbdjmbhaaGreatDoorG18
import Derived.Deep.DeepCutAuto
import Derived.Test.YthihnpjbdjmbhaaGreatDoorG06
import Derived.Lib.LastIndexByte

namespace Go.Proofs.YthihnpjbdjmbhaaGreatDoor
set_option linter.unusedSimpArgs false
set_option linter.unusedVariables false
open Go.RowKit Go.Vr Go.Sort Go.Tx Go.Lib
attribute [local go_sem] setCellDrewN allocDrewN

theorem cut_len (s sep : Bs) : (cut s sep).1.length ≤ s.length ∧ (cut s sep).2.1.length ≤ s.length := by
  unfold cut
  split
  · simp; omega
  · simp
theorem trim_len (s p : Bs) : (trimPrefix s p).length ≤ s.length := by
  unfold trimPrefix
  split
  · simp
  · simp
theorem num_bd (l : Bs) : -9223372036854775808 ≤ num l ∧ num l ≤ 9223372036854775807 := by
  unfold num
  split
  · rename_i h; exact atoiAll_bounds h
  · omega
  · exact atoiSat_bounds l

set_option maxHeartbeats 4000000 in
set_option maxRecDepth 100000 in
theorem parse_any (s : ByteArray) (w : World) (hs : s.size ≤ 4000) (he : Env w) :
    Calls Tryz.prog 101 #[.string s] w fun e w' => e = .returned (pret (parse s.data.toList)) ∧ Below w.heap.size w w' := by
  have hB0 : Below w.heap.size w (w.alloc (.cells #[.int .i64 0, .int .i64 0, .int .i64 0, .string ⟨#[]⟩] 37)) := (Below.refl _ _).alloc (Nat.le_refl _) _
  have E0 : Hid (Env (w.alloc (.cells #[.int .i64 0, .int .i64 0, .int .i64 0, .string ⟨#[]⟩] 37))) := he.later hB0
  clear he
  have HI := hide (parse_is s.data.toList)
  have l1 := trim_len s.data.toList [118]
  rw [len_eq] at l1
  have hx1 : (str (trimPrefix s.data.toList [118])).size ≤ 4000 := by rw [Tx.str_size]; omega
  have H0 : Hid (parse0 s.data.toList = ⟨num (cut (cut (str (trimPrefix s.data.toList [118])).data.toList [45]).1 [46]).1, num (cut (cut (cut (str (trimPrefix s.data.toList [118])).data.toList [45]).1 [46]).2.1 [46]).1, num (cut (cut (cut (str (trimPrefix s.data.toList [118])).data.toList [45]).1 [46]).2.1 [46]).2.1, str (cut (str (trimPrefix s.data.toList [118])).data.toList [45]).2.1⟩) := rfl
  go_enter Tryz.func101, Tryz.ntmps101
  go_wp2_with fail
  refine (trimPrefix_any _ _ _).mono ?_
  rintro e w1 ⟨rfl, rfl⟩
  simp only [show (ByteArray.mk #[118]).data.toList = [118] from rfl]
  generalize str (trimPrefix s.data.toList [118]) = x1 at *
  go_wp2_with fail
  refine (cut_any x1 _ _ (by omega) E0.out).mono ?_
  simp only [show (ByteArray.mk #[45]).data.toList = [45] from rfl]
  rintro e w2 ⟨rfl, b2⟩
  have hB2 : Below w.heap.size w w2 := hB0.trans (b2.mono (by simp))
  have E2 := hide (E0.out.later b2)
  have k2 : w.heap.size < w2.heap.size := by have := b2.size; simp at this; omega
  obtain ⟨hc2, hf2⟩ := bcell b2
  have c0 := hc2 w.heap.size 0 (by simp)
  have c1 := hc2 w.heap.size 1 (by simp)
  have c2 := hc2 w.heap.size 2 (by simp)
  have c3 := hc2 w.heap.size 3 (by simp)
  have f0 := hf2 w.heap.size 0 (by simp)
  have f1 := hf2 w.heap.size 1 (by simp)
  have f2 := hf2 w.heap.size 2 (by simp)
  have f3 := hf2 w.heap.size 3 (by simp)
  simp [go_sem] at c0 c1 c2 c3 f0 f1 f2 f3
  clear hc2 hf2 b2 E0 hB0
  have l2 := cut_len x1.data.toList [45]
  rw [len_eq] at l2
  generalize (cut x1.data.toList [45]).2.2 = u1 at *
  have m1 : (str (cut x1.data.toList [45]).1).size ≤ 4000 := by rw [Tx.str_size]; omega
  have m2 : (str (cut x1.data.toList [45]).2.1).size ≤ 4000 := by rw [Tx.str_size]; omega
  have H1 : Hid (parse0 s.data.toList = ⟨num (cut (str (cut x1.data.toList [45]).1).data.toList [46]).1, num (cut (cut (str (cut x1.data.toList [45]).1).data.toList [46]).2.1 [46]).1, num (cut (cut (str (cut x1.data.toList [45]).1).data.toList [46]).2.1 [46]).2.1, str (cut x1.data.toList [45]).2.1⟩) := H0
  clear H0 l2
  generalize str (cut x1.data.toList [45]).1 = x2 at *
  generalize str (cut x1.data.toList [45]).2.1 = xp at *
  go_wp2_with fail
  refine (cut_any x2 _ _ (by omega) E2.out).mono ?_
  simp only [show (ByteArray.mk #[46]).data.toList = [46] from rfl]
  rintro e w3 ⟨rfl, b3⟩
  have l3 := cut_len x2.data.toList [46]
  rw [len_eq] at l3
  generalize (cut x2.data.toList [46]).2.2 = u2 at *
  have m3 : (str (cut x2.data.toList [46]).1).size ≤ 4000 := by rw [Tx.str_size]; omega
  have m4 : (str (cut x2.data.toList [46]).2.1).size ≤ 4000 := by rw [Tx.str_size]; omega
  have H2 : Hid (parse0 s.data.toList = ⟨num (str (cut x2.data.toList [46]).1).data.toList, num (cut (str (cut x2.data.toList [46]).2.1).data.toList [46]).1, num (cut (str (cut x2.data.toList [46]).2.1).data.toList [46]).2.1, xp⟩) := H1
  clear H1 l3
  generalize str (cut x2.data.toList [46]).1 = xa at *
  generalize str (cut x2.data.toList [46]).2.1 = xo at *
  have E3 := hide (E2.out.later b3)
  go_wp2_with fail
  refine (cut_any xo _ _ (by omega) E3.out).mono ?_
  simp only [show (ByteArray.mk #[46]).data.toList = [46] from rfl]
  rintro e w4 ⟨rfl, b4⟩
  have l4 := cut_len xo.data.toList [46]
  rw [len_eq] at l4
  generalize (cut xo.data.toList [46]).2.2 = u3 at *
  have m5 : (str (cut xo.data.toList [46]).1).size ≤ 4000 := by rw [Tx.str_size]; omega
  have m6 : (str (cut xo.data.toList [46]).2.1).size ≤ 4000 := by rw [Tx.str_size]; omega
  have H3 : Hid (parse0 s.data.toList = ⟨num xa.data.toList, num (str (cut xo.data.toList [46]).1).data.toList, num (str (cut xo.data.toList [46]).2.1).data.toList, xp⟩) := H2
  clear H2 l4
  generalize str (cut xo.data.toList [46]).1 = xb at *
  generalize str (cut xo.data.toList [46]).2.1 = xc at *
  have E4 := hide (E3.out.later b4)
  go_wp2_with fail
  refine (number_any xa _ (by omega) E4.out).mono ?_
  rintro e w5 ⟨rfl, b5⟩
  have E5 := hide (E4.out.later b5)
  go_wp2_with fail
  refine (number_any xb _ (by omega) E5.out).mono ?_
  rintro e w6 ⟨rfl, b6⟩
  have E6 := hide (E5.out.later b6)
  go_wp2_with fail
  refine (number_any xc _ (by omega) E6.out).mono ?_
  rintro e w7 ⟨rfl, b7⟩
  have E7 := hide (E6.out.later b7)
  have b27 : Below w2.heap.size w2 w7 := step (step (step (step b3 b4) b5) b6) b7
  have d0 := cellLater b27 c0
  have d1 := cellLater b27 c1
  have d2 := cellLater b27 c2
  have d3 := cellLater b27 c3
  have hB7 := hB2.trans (b27.mono hB2.size)
  have k7 : w.heap.size < w7.heap.size := by have := b27.size; omega
  have g0 := (b27.frozen (p := ⟨w.heap.size, 0, none⟩) k2).trans f0
  have g1 := (b27.frozen (p := ⟨w.heap.size, 1, none⟩) k2).trans f1
  have g2 := (b27.frozen (p := ⟨w.heap.size, 2, none⟩) k2).trans f2
  have g3 := (b27.frozen (p := ⟨w.heap.size, 3, none⟩) k2).trans f3
  clear b3 b4 b5 b6 b7 b27 E2 E3 E4 E5 E6 c0 c1 c2 c3 f0 f1 f2 f3 hB2 k2
  generalize num xa.data.toList = na at *
  generalize num xb.data.toList = nb at *
  generalize num xc.data.toList = nc at *
  have hB8 : Below w.heap.size w (w7.alloc (.cells #[.int .i64 na, .int .i64 nb, .int .i64 nc, .string xp] 37)) := hB7.alloc hB7.size _
  have E8 : Hid (Env (w7.alloc (.cells #[.int .i64 na, .int .i64 nb, .int .i64 nc, .string xp] 37))) := E7.out.later ((Below.refl _ _).alloc (Nat.le_refl _) _)
  have ba : Below w7.heap.size w7 (w7.alloc (.cells #[.int .i64 na, .int .i64 nb, .int .i64 nc, .string xp] 37)) := (Below.refl _ _).alloc (Nat.le_refl _) _
  have o0 := cellLater ba d0
  have o1 := cellLater ba d1
  have o2 := cellLater ba d2
  have o3 := cellLater ba d3
  have y0 := (ba.frozen (p := ⟨w.heap.size, 0, none⟩) k7).trans g0
  have y1 := (ba.frozen (p := ⟨w.heap.size, 1, none⟩) k7).trans g1
  have y2 := (ba.frozen (p := ⟨w.heap.size, 2, none⟩) k7).trans g2
  have y3 := (ba.frozen (p := ⟨w.heap.size, 3, none⟩) k7).trans g3
  have r0 : (w7.alloc (.cells #[.int .i64 na, .int .i64 nb, .int .i64 nc, .string xp] 37)).cell? ⟨w7.heap.size, 0, none⟩ = some (.int .i64 na) := by simp [go_sem]
  have r1 : (w7.alloc (.cells #[.int .i64 na, .int .i64 nb, .int .i64 nc, .string xp] 37)).cell? ⟨w7.heap.size, 1, none⟩ = some (.int .i64 nb) := by simp [go_sem]
  have r2 : (w7.alloc (.cells #[.int .i64 na, .int .i64 nb, .int .i64 nc, .string xp] 37)).cell? ⟨w7.heap.size, 2, none⟩ = some (.int .i64 nc) := by simp [go_sem]
  have r3 : (w7.alloc (.cells #[.int .i64 na, .int .i64 nb, .int .i64 nc, .string xp] 37)).cell? ⟨w7.heap.size, 3, none⟩ = some (.string xp) := by simp [go_sem]
  clear ba d0 d1 d2 d3 g0 g1 g2 g3
  cases hok : V.ok ⟨na, nb, nc, xp⟩ with
  | false =>
    have HN : Hid (parse s.data.toList = none) := by
      show parse s.data.toList = none
      rw [HI.out, H3.out, if_neg (fun h => by rw [hok] at h; cases h.1)]
    have HK := hide hok
    clear hok
    go_wp2_with fail
    refine (right_any ⟨na, nb, nc, xp⟩ _ (by unfold maxLen; simp only; omega) E8.out).mono ?_
    rw [HK.out]
    rintro e w9 ⟨rfl, b9⟩
    have p90 := cellLater b9 o0
    have p91 := cellLater b9 o1
    have p92 := cellLater b9 o2
    have p93 := cellLater b9 o3
    have q90 := cellLater b9 r0
    have q91 := cellLater b9 r1
    have q92 := cellLater b9 r2
    have q93 := cellLater b9 r3
    have z90 := (b9.frozen (p := ⟨w.heap.size, 0, none⟩) (by simp; omega)).trans y0
    have z91 := (b9.frozen (p := ⟨w.heap.size, 1, none⟩) (by simp; omega)).trans y1
    have z92 := (b9.frozen (p := ⟨w.heap.size, 2, none⟩) (by simp; omega)).trans y2
    have z93 := (b9.frozen (p := ⟨w.heap.size, 3, none⟩) (by simp; omega)).trans y3
    have hB9 := hB8.trans (b9.mono (by simp; omega))
    clear o0 o1 o2 o3 y0 y1 y2 y3 r0 r1 r2 r3
    go_wp2_with fail
    exact bodyPost_ret (v := .tuple #[ver 0 0 0 ⟨#[]⟩, .bool false]) (by simp [results, Tryz.results101, go_sem, p90, p91, p92, p93]) rfl ⟨pret_none HN.out, (((hB9.setCell (by simp) _).setCell (by simp) _).setCell (by simp) _).setCell (by simp) _⟩
  | true =>
    have HK := hide hok
    have hok2 := hok
    clear hok
    go_wp2_with fail
    refine (right_any ⟨na, nb, nc, xp⟩ _ (by unfold maxLen; simp only; omega) E8.out).mono ?_
    rw [HK.out]
    rintro e w9 ⟨rfl, b9⟩
    have p90 := cellLater b9 o0
    have p91 := cellLater b9 o1
    have p92 := cellLater b9 o2
    have p93 := cellLater b9 o3
    have q90 := cellLater b9 r0
    have q91 := cellLater b9 r1
    have q92 := cellLater b9 r2
    have q93 := cellLater b9 r3
    have z90 := (b9.frozen (p := ⟨w.heap.size, 0, none⟩) (by simp; omega)).trans y0
    have z91 := (b9.frozen (p := ⟨w.heap.size, 1, none⟩) (by simp; omega)).trans y1
    have z92 := (b9.frozen (p := ⟨w.heap.size, 2, none⟩) (by simp; omega)).trans y2
    have z93 := (b9.frozen (p := ⟨w.heap.size, 3, none⟩) (by simp; omega)).trans y3
    have hB9 := hB8.trans (b9.mono (by simp; omega))
    have E9 := hide (E8.out.later b9)
    have k9 : w.heap.size < w9.heap.size := by have := b9.size; simp at this; omega
    clear o0 o1 o2 o3 y0 y1 y2 y3 r0 r1 r2 r3
    have HT : Hid (txt ⟨na, nb, nc, xp⟩ = s.data.toList ↔ (str (txt ⟨na, nb, nc, xp⟩)).toList = s.toList) := by
      show _ ↔ _
      rw [toList_data, toList_data, str_list]
    have HX := hide (text_any ⟨na, nb, nc, xp⟩ w9 hok2 E9.out)
    have HN := hide (by have := HI.out; rw [H3.out] at this; exact this)
    clear HI H3
    generalize hx : str (txt ⟨na, nb, nc, xp⟩) = xt at *
    clear hx
    cases hq : (xt.toList == s.toList) with
    | false =>
      have HZ : Hid (parse s.data.toList = none) := by
        show parse s.data.toList = none
        rw [HN.out, if_neg (fun h => by have := HT.out.1 h.2; rw [this] at hq; simp at hq)]
      go_wp2_with fail
      refine HX.out.mono ?_
      rintro e w10 ⟨rfl, b10⟩
      have hB10 := step hB9 b10
      have k10 : w.heap.size < w10.heap.size := by have := b10.size; omega
      have p100 := cellLater b10 p90
      have p101 := cellLater b10 p91
      have p102 := cellLater b10 p92
      have p103 := cellLater b10 p93
      have z100 := (b10.frozen (p := ⟨w.heap.size, 0, none⟩) k9).trans z90
      have z101 := (b10.frozen (p := ⟨w.heap.size, 1, none⟩) k9).trans z91
      have z102 := (b10.frozen (p := ⟨w.heap.size, 2, none⟩) k9).trans z92
      have z103 := (b10.frozen (p := ⟨w.heap.size, 3, none⟩) k9).trans z93
      clear p90 p91 p92 p93 z90 z91 z92 z93
      go_wp2_with fail
      exact bodyPost_ret (v := .tuple #[ver 0 0 0 ⟨#[]⟩, .bool false]) (by simp [results, Tryz.results101, go_sem, p100, p101, p102, p103]) rfl ⟨pret_none HZ.out, (((hB10.setCell (by simp) _).setCell (by simp) _).setCell (by simp) _).setCell (by simp) _⟩
    | true =>
      have HZ : Hid (parse s.data.toList = some ⟨na, nb, nc, xp⟩) := by
        show parse s.data.toList = _
        rw [HN.out, if_pos ⟨hok2, HT.out.2 (beq_iff_eq.1 hq)⟩]
      go_wp2_with fail
      refine HX.out.mono ?_
      rintro e w10 ⟨rfl, b10⟩
      have hB10 := step hB9 b10
      have k10 : w.heap.size < w10.heap.size := by have := b10.size; omega
      have p100 := cellLater b10 p90
      have p101 := cellLater b10 p91
      have p102 := cellLater b10 p92
      have p103 := cellLater b10 p93
      have q100 := cellLater b10 q90
      have q101 := cellLater b10 q91
      have q102 := cellLater b10 q92
      have q103 := cellLater b10 q93
      have z100 := (b10.frozen (p := ⟨w.heap.size, 0, none⟩) k9).trans z90
      have z101 := (b10.frozen (p := ⟨w.heap.size, 1, none⟩) k9).trans z91
      have z102 := (b10.frozen (p := ⟨w.heap.size, 2, none⟩) k9).trans z92
      have z103 := (b10.frozen (p := ⟨w.heap.size, 3, none⟩) k9).trans z93
      clear p90 p91 p92 p93 z90 z91 z92 z93 q90 q91 q92 q93
      go_wp2_with fail
      exact bodyPost_ret (v := .tuple #[ver na nb nc xp, .bool true]) (by simp [results, Tryz.results101, go_sem, p100, p101, p102, p103]) rfl ⟨pret_some HZ.out, (((hB10.setCell (by simp) _).setCell (by simp) _).setCell (by simp) _).setCell (by simp) _⟩

end Go.Proofs.YthihnpjbdjmbhaaGreatDoor

namespace Go.Proofs.YthihnpjbdjmbhaaGreatDoor
set_option linter.unusedSimpArgs false
set_option linter.unusedVariables false
open Go.RowKit Go.Vr Go.Sort Go.Tx Go.Lib
attribute [local go_sem] setCellDrewN allocDrewN

/-- What stands behind a version, ending so. -/
def bver (has : Bool) (v : V) (l : ByteArray) : V :=
  if has = true then (if v.p.size = 0 then ⟨v.a, v.b, v.c + 1, str ([48] ++ 46 :: l.data.toList)⟩ else ⟨v.a, v.b, v.c, str (v.p.data.toList ++ 46 :: ([48] ++ 46 :: l.data.toList))⟩) else ⟨0, 0, 0, l⟩
theorem bver_pver (has : Bool) (v : V) (t : Int) (id : Bs) : bver has v (str (stamp t id)) = pver has v t id := by
  unfold bver pver
  cases has with
  | false => rfl
  | true =>
    simp only [if_true]
    have hl := len_eq v.p
    by_cases h : v.p.size = 0
    · have e : v.p.data.toList = [] := List.eq_nil_of_length_eq_zero (by rw [hl]; exact h)
      rw [if_pos h, if_pos e, e]
      rfl
    · have e : ¬ v.p.data.toList = [] := fun e => h (by rw [← hl, e]; rfl)
      rw [if_neg h, if_neg e]
      unfold lead
      simp [e, str_list]

/-- dotted of three, of two, behind a draw. -/
theorem dotted3d (x y z : ByteArray) (w : World) (hx : x.size ≤ 1000) (hy : y.size ≤ 1000) (hz : z.size ≤ 1000) :
    Calls Tryz.prog 78 #[.slice (some ⟨w.heap.size, 0, none⟩) 3 3] (w.alloc (.cells #[.string x, .string y, .string z] 9)).drew fun e w' => e = .returned (.string (str (x.data.toList ++ 46 :: (y.data.toList ++ 46 :: z.data.toList)))) ∧ Below w.heap.size w w' :=
  (dotted3 x y z w.drew hx hy hz).mono fun _ _ h => ⟨h.1, ((Below.refl _ _).drew).trans h.2⟩
theorem dotted2d (x y : ByteArray) (w : World) (hx : x.size ≤ 1000) (hy : y.size ≤ 1000) :
    Calls Tryz.prog 78 #[.slice (some ⟨w.heap.size, 0, none⟩) 2 2] (w.alloc (.cells #[.string x, .string y] 9)).drew fun e w' => e = .returned (.string (str (x.data.toList ++ 46 :: y.data.toList))) ∧ Below w.heap.size w w' :=
  (dotted2 x y w.drew hx hy).mono fun _ _ h => ⟨h.1, ((Below.refl _ _).drew).trans h.2⟩

end Go.Proofs.YthihnpjbdjmbhaaGreatDoor

namespace Go.Proofs.YthihnpjbdjmbhaaGreatDoor
set_option linter.unusedSimpArgs false
set_option linter.unusedVariables false
open Go.RowKit Go.Vr Go.Sort Go.Tx Go.Lib
attribute [local go_sem] setCellDrewN allocDrewN

theorem cutIn {p q : Prop} (h : p) (k : p → q) : q := k h
/-- A version just laid, all noughts. -/
structure ZeroAt (w : World) (N : Nat) : Prop where
  lt : N < w.heap.size
  c0 : w.cell? ⟨N, 0, none⟩ = some (.int .i64 0)
  c1 : w.cell? ⟨N, 1, none⟩ = some (.int .i64 0)
  c2 : w.cell? ⟨N, 2, none⟩ = some (.int .i64 0)
  c3 : w.cell? ⟨N, 3, none⟩ = some (.string ⟨#[]⟩)
  f0 : w.frozen? ⟨N, 0, none⟩ = false
  f1 : w.frozen? ⟨N, 1, none⟩ = false
  f2 : w.frozen? ⟨N, 2, none⟩ = false
  f3 : w.frozen? ⟨N, 3, none⟩ = false
theorem ZeroAt.new (w : World) : ZeroAt (w.alloc (.cells #[.int .i64 0, .int .i64 0, .int .i64 0, .string ⟨#[]⟩] 37)) w.heap.size :=
  ⟨by simp, by simp [go_sem], by simp [go_sem], by simp [go_sem], by simp [go_sem], by simp [go_sem], by simp [go_sem], by simp [go_sem], by simp [go_sem]⟩
theorem ZeroAt.newd (w : World) : ZeroAt (w.alloc (.cells #[.int .i64 0, .int .i64 0, .int .i64 0, .string ⟨#[]⟩] 37)).drew w.heap.size :=
  ⟨by simp, by simp [go_sem], by simp [go_sem], by simp [go_sem], by simp [go_sem], by simp [go_sem], by simp [go_sem], by simp [go_sem], by simp [go_sem]⟩
theorem ZeroAt.later {w w' : World} {N : Nat} (h : ZeroAt w N) (b : Below w.heap.size w w') : ZeroAt w' N :=
  ⟨Nat.lt_of_lt_of_le h.lt b.size, cellLater b h.c0, cellLater b h.c1, cellLater b h.c2, cellLater b h.c3, (b.frozen (p := ⟨N, 0, none⟩) h.lt).trans h.f0, (b.frozen (p := ⟨N, 1, none⟩) h.lt).trans h.f1, (b.frozen (p := ⟨N, 2, none⟩) h.lt).trans h.f2, (b.frozen (p := ⟨N, 3, none⟩) h.lt).trans h.f3⟩

end Go.Proofs.YthihnpjbdjmbhaaGreatDoor

namespace Go.Vr
set_option linter.unusedVariables false
open Go.Lib Go.Tx

theorem lastW_app (a b : Bs) (h : ∀ c ∈ b, c ≠ 46) : lastW (a ++ 46 :: b) = b := by
  have e : words (a ++ 46 :: b) = words a ++ [b] := by rw [words_app, words_one b h]
  unfold lastW
  simp only [e, List.getLast_append, List.getLast_singleton]
  simp
theorem lastW_none (b : Bs) (h : ∀ c ∈ b, c ≠ 46) : lastW b = b := by
  have e := words_one b h
  unfold lastW
  simp only [e, List.getLast_singleton]

theorem get_data (s : ByteArray) (j : Nat) (h : j < s.data.toList.length) : s.data[j]! = s.data.toList[j] := by
  have h2 : j < s.data.size := by simpa using h
  rw [getElem!_pos s.data j h2]; rfl

theorem last_is (s : ByteArray) : -1 ≤ lastIndexByte s 46 ∧ lastIndexByte s 46 < s.size ∧ s.data.toList.drop (lastIndexByte s 46 + 1).toNat = lastW s.data.toList := by
  have hl := len_eq s
  rcases lastIdx_spec s 46 s.size with ⟨e, hn⟩ | ⟨i, hi, e, hc, hn⟩
  · have e' : lastIndexByte s 46 = -1 := e
    rw [e']
    refine ⟨by omega, by omega, ?_⟩
    show s.data.toList.drop 0 = _
    rw [List.drop_zero, lastW_none]
    intro c hc h
    subst h
    obtain ⟨j, hj, e2⟩ := List.getElem_of_mem hc
    refine hn j (by omega) ?_
    rw [get_data s j hj, e2]; rfl
  · have e' : lastIndexByte s 46 = i := e
    rw [e']
    refine ⟨by omega, by omega, ?_⟩
    rw [show ((i : Int) + 1).toNat = i + 1 by omega]
    have hil : i < s.data.toList.length := by omega
    have hci : s.data.toList[i] = 46 := by
      rw [get_data s i hil] at hc
      exact UInt8.toNat_inj.1 (by show _ = 46; omega)
    have hs : s.data.toList = s.data.toList.take i ++ 46 :: s.data.toList.drop (i + 1) := by
      have := List.take_append_drop i s.data.toList
      rw [List.drop_eq_getElem_cons hil, hci] at this
      exact this.symm
    conv => rhs; rw [hs]
    rw [lastW_app]
    intro c hc2 h
    subst h
    obtain ⟨j, hj, e2⟩ := List.getElem_of_mem hc2
    rw [List.length_drop] at hj
    rw [List.getElem_drop] at e2
    refine hn (i + 1 + j) (by omega) (by omega) ?_
    rw [get_data s (i + 1 + j) (by omega), e2]; rfl

/-- As the program asks whether a word is a stamp. -/
def cutOk (x y : Bs) : Bool := decide (x.length = 14) && x.all isDig && (decide (y.length = 12) && idOk y)
theorem cut_form (w x y : Bs) (b : Bool) (h : cut w [45] = (x, y, b)) : w = x ++ 45 :: y ∨ (y = [] ∧ w = x) := by
  unfold cut at h
  split at h
  · rename_i hi
    injection h with h1 h2
    injection h2 with h2 h3
    left
    rw [index_one] at hi h1 h2
    obtain ⟨i, hi2⟩ := Int.eq_ofNat_of_zero_le hi
    rw [hi2, Int.toNat_natCast] at h1 h2
    obtain ⟨g1, g2⟩ := indexByte_some hi2
    obtain ⟨hlt, e⟩ := List.getElem?_eq_some_iff.1 g1
    have := List.take_append_drop i w
    rw [List.drop_eq_getElem_cons hlt, e] at this
    rw [← this, h1]
    simp at h2
    rw [h2]
  · injection h with h1 h2
    injection h2 with h2 h3
    exact .inr ⟨h2.symm, h1⟩
theorem stamp_cut (w : Bs) : isStamp w = cutOk (cut w [45]).1 (cut w [45]).2.1 ∧ (isStamp w = true → (cut w [45]).1 = w.take 14 ∧ (cut w [45]).2.1 = w.drop 15) := by
  have key : isStamp w = true → (cut w [45]).1 = w.take 14 ∧ (cut w [45]).2.1 = w.drop 15 := by
    intro h
    simp only [isStamp, Bool.and_eq_true, decide_eq_true_eq] at h
    obtain ⟨⟨⟨h1, h2⟩, h3⟩, h4⟩ := h
    have hs : w = w.take 14 ++ 45 :: w.drop 15 := by
      obtain ⟨hlt, e⟩ := List.getElem?_eq_some_iff.1 h2
      have := List.take_append_drop 14 w
      rw [List.drop_eq_getElem_cons hlt, e] at this
      exact this.symm
    have hc := cut_at (w.take 14) (w.drop 15) 45 (dig_ne h3 45 rfl)
    rw [← hs] at hc
    rw [hc]; exact ⟨rfl, rfl⟩
  refine ⟨?_, key⟩
  cases h : isStamp w with
  | true =>
    obtain ⟨k1, k2⟩ := key h
    simp only [isStamp, Bool.and_eq_true, decide_eq_true_eq] at h
    obtain ⟨⟨⟨h1, h2⟩, h3⟩, h4⟩ := h
    rw [k1, k2]
    unfold cutOk idOk
    rw [h3, h4, List.length_take, List.length_drop, h1]; rfl
  | false =>
    cases h2 : cutOk (cut w [45]).1 (cut w [45]).2.1 with
    | false => rfl
    | true =>
      exfalso
      have hf := cut_form w (cut w [45]).1 (cut w [45]).2.1 (cut w [45]).2.2 rfl
      generalize (cut w [45]).1 = x at *
      generalize (cut w [45]).2.1 = y at *
      simp only [cutOk, idOk, Bool.and_eq_true, decide_eq_true_eq] at h2
      obtain ⟨⟨a1, a2⟩, a3, ⟨a4, a5⟩, a6⟩ := h2
      rcases hf with hf | ⟨hy, _⟩
      · have : isStamp w = true := by
          subst hf
          have e1 : (x ++ 45 :: y).take 14 = x := by rw [← a1]; simp
          have e2 : (x ++ 45 :: y).drop 15 = y := by rw [show 15 = x.length + 1 by omega, List.drop_append]; simp
          have e3 : (x ++ 45 :: y)[14]? = some 45 := by rw [List.getElem?_append_right (by omega), a1]; rfl
          have e4 : (x ++ 45 :: y).length = 27 := by rw [List.length_append, List.length_cons]; omega
          unfold isStamp
          rw [e1, e2, e3, e4, a2, a6]; rfl
        rw [this] at h; cases h
      · subst hy; simp at a3
theorem num_when (w : Bs) (h : isStamp w = true) : num (w.take 14) = numVal (w.take 14) := by
  simp only [isStamp, Bool.and_eq_true, decide_eq_true_eq] at h
  obtain ⟨⟨⟨h1, h2⟩, h3⟩, h4⟩ := h
  have hl : (w.take 14).length = 14 := by rw [List.length_take]; omega
  unfold num
  rw [num_digits (w.take 14) (fun e => by rw [e] at hl; simp at hl) (by omega) h3]

end Go.Vr

namespace Go.Proofs.YthihnpjbdjmbhaaGreatDoor
set_option linter.unusedSimpArgs false
set_option linter.unusedVariables false
open Go.RowKit Go.Vr Go.Sort Go.Tx Go.Lib
attribute [local go_sem] setCellDrewN allocDrewN

/-- What Behind answers. -/
def bret (o : Option (Int × Bs)) : Value := match o with
  | none => .tuple #[.int .i64 0, .string ⟨#[]⟩, .bool false]
  | some (n, i) => .tuple #[.int .i64 n, .string (str i), .bool true]

theorem bret_some (n : Int) (y : ByteArray) : Ending.returned (.tuple #[.int .i64 n, .string y, .bool true]) = .returned (bret (some (n, y.data.toList))) := by
  show _ = Ending.returned (.tuple #[.int .i64 n, .string (str y.data.toList), .bool true])
  rw [str_of]

set_option maxHeartbeats 400000 in
theorem madeDig_any (s : ByteArray) (W : World) (hs : s.size ≤ 100000) :
    Calls Tryz.prog 111 #[.string s, .slice (some ⟨W.heap.size, 0, none⟩) 1 1] (W.alloc (.cells #[.string ⟨#[48, 49, 50, 51, 52, 53, 54, 55, 56, 57]⟩] 9)) fun e w' => e = .returned (.bool (s.data.toList.all isDig)) ∧ Below W.heap.size W w' := by
  have := made_any s W.heap.size 0 1 1 [digitsL] _ hs (row_new W [digitsL] 1) (by omega)
  rw [dig_is] at this
  generalize s.data.toList.all isDig = q at this ⊢
  simp [digitsL] at this
  exact this.mono fun e w' h => ⟨h.1, ((Below.refl _ _).alloc (Nat.le_refl _) _).trans (h.2.mono (by omega))⟩

end Go.Proofs.YthihnpjbdjmbhaaGreatDoor

namespace Go.Proofs.YthihnpjbdjmbhaaGreatDoor
set_option linter.unusedSimpArgs false
set_option linter.unusedVariables false
open Go.RowKit Go.Vr Go.Sort Go.Tx Go.Lib
attribute [local go_sem] setCellDrewN allocDrewN

/-- A version in memory. -/
structure VerAt (w : World) (b o : Nat) (v : V) : Prop where
  c0 : w.cell? ⟨b, o, none⟩ = some (.int .i64 v.a)
  c1 : w.cell? ⟨b, o + 1, none⟩ = some (.int .i64 v.b)
  c2 : w.cell? ⟨b, o + 2, none⟩ = some (.int .i64 v.c)
  c3 : w.cell? ⟨b, o + 3, none⟩ = some (.string v.p)
theorem VerAt.later {w w' : World} {b o : Nat} {v : V} (h : VerAt w b o v) (hb : Below w.heap.size w w') : VerAt w' b o v :=
  ⟨cellLater hb h.c0, cellLater hb h.c1, cellLater hb h.c2, cellLater hb h.c3⟩

/-- A variable of the call's own that holds a version. -/
structure VarAt (w : World) (N : Nat) (v : V) : Prop where
  lt : N < w.heap.size
  c0 : w.cell? ⟨N, 0, none⟩ = some (.int .i64 v.a)
  c1 : w.cell? ⟨N, 1, none⟩ = some (.int .i64 v.b)
  c2 : w.cell? ⟨N, 2, none⟩ = some (.int .i64 v.c)
  c3 : w.cell? ⟨N, 3, none⟩ = some (.string v.p)
  f0 : w.frozen? ⟨N, 0, none⟩ = false
  f1 : w.frozen? ⟨N, 1, none⟩ = false
  f2 : w.frozen? ⟨N, 2, none⟩ = false
  f3 : w.frozen? ⟨N, 3, none⟩ = false
theorem VarAt.later {w w' : World} {N : Nat} {v : V} (h : VarAt w N v) (b : Below w.heap.size w w') : VarAt w' N v :=
  ⟨Nat.lt_of_lt_of_le h.lt b.size, cellLater b h.c0, cellLater b h.c1, cellLater b h.c2, cellLater b h.c3, (b.frozen (p := ⟨N, 0, none⟩) h.lt).trans h.f0, (b.frozen (p := ⟨N, 1, none⟩) h.lt).trans h.f1, (b.frozen (p := ⟨N, 2, none⟩) h.lt).trans h.f2, (b.frozen (p := ⟨N, 3, none⟩) h.lt).trans h.f3⟩
theorem VarAt.new (w : World) (v : V) : VarAt (w.alloc (.cells #[.int .i64 v.a, .int .i64 v.b, .int .i64 v.c, .string v.p] 37)) w.heap.size v :=
  ⟨by simp, by simp [go_sem], by simp [go_sem], by simp [go_sem], by simp [go_sem], by simp [go_sem], by simp [go_sem], by simp [go_sem], by simp [go_sem]⟩
/-- Stored anew. -/
def putV (w : World) (N : Nat) (v : V) : World := (((w.setCell ⟨N, 0, none⟩ (.int .i64 v.a)).setCell ⟨N, 1, none⟩ (.int .i64 v.b)).setCell ⟨N, 2, none⟩ (.int .i64 v.c)).setCell ⟨N, 3, none⟩ (.string v.p)
theorem VarAt.put {w : World} {N : Nat} {u : V} (h : VarAt w N u) (v : V) : VarAt (putV w N v) N v := by
  obtain ⟨lt, c0, c1, c2, c3, f0, f1, f2, f3⟩ := h
  unfold putV
  exact ⟨by simpa [World.setCell] using lt, by simp [go_sem, c0, c1, c2, c3], by simp [go_sem, c0, c1, c2, c3], by simp [go_sem, c0, c1, c2, c3], by simp [go_sem, c0, c1, c2, c3], by simp [go_sem, f0], by simp [go_sem, f1], by simp [go_sem, f2], by simp [go_sem, f3]⟩
theorem VarAt.far {w : World} {N M : Nat} {u : V} (h : VarAt w M u) (v : V) (hne : N ≠ M) : VarAt (putV w N v) M u := by
  obtain ⟨lt, c0, c1, c2, c3, f0, f1, f2, f3⟩ := h
  unfold putV
  exact ⟨by simpa [World.setCell] using lt, by simp [go_sem, c0, hne], by simp [go_sem, c1, hne], by simp [go_sem, c2, hne], by simp [go_sem, c3, hne], by simp [go_sem, f0], by simp [go_sem, f1], by simp [go_sem, f2], by simp [go_sem, f3]⟩
theorem putV_below {B : Nat} {w w' : World} {N : Nat} (h : Below B w w') (hB : B ≤ N) (v : V) : Below B w (putV w' N v) :=
  (((h.setCell hB _).setCell hB _).setCell hB _).setCell hB _

theorem cmp_enters : ∀ args w, (callFunc 61 args).run Tryz.prog w = .ok (.enter 61 args) w := enters_of Tryz.func61 (by kernel_rfl) rfl

theorem vtake (vs : List V) (k : Nat) (h : k < vs.length) : vs.take (k + 1) = vs.take k ++ [vs.getD k V.zero] := by
  rw [List.take_add_one]
  simp [List.getD, List.getElem?_eq_getElem h]
theorem vmem (vs : List V) (k : Nat) (h : k < vs.length) : vs.getD k V.zero ∈ vs := by
  rw [List.getD_eq_getElem?_getD, List.getElem?_eq_getElem h]; exact List.getElem_mem _
theorem maxV_snoc (vs : List V) (v : V) (h : vs ≠ []) : maxV (vs ++ [v]) = if 0 < cmpV v (maxV vs) then v else maxV vs := by
  cases vs with
  | nil => exact absurd rfl h
  | cons x l => show (l ++ [v]).foldl maxF x = _; rw [List.foldl_append]; rfl

end Go.Proofs.YthihnpjbdjmbhaaGreatDoor

/-
  Contract of the reference's Same.
-/
import Derived.Test.YtninheehoabbbaaGreatDoorQ3
import Derived.BigQuiet
namespace Go.Proofs.YtninheehoabbbaaGreatDoor
set_option linter.unusedSimpArgs false
set_option linter.unusedVariables false
open Go.RowKit Go.Vr Go.Sort Go.Tx Go.Lib
attribute [local go_sem] setCellDrewN allocDrewN

theorem pt_inj {s t : Sp.S} (hs : Sp.okS s) (ht : Sp.okS t) (h : pt s = pt t) : s = t := by rw [← pS_pt hs, ← pS_pt ht, h]

theorem bytes_inj {s t : ByteArray} (h : s.toList = t.toList) : s = t := by rw [toList_data, toList_data] at h; exact ba_ext h
theorem ne_cases {q r : Pt} (h : ¬ q = r) : (¬ q.a = r.a) ∨ (q.a = r.a ∧ ¬ q.b = r.b) ∨ (q.a = r.a ∧ q.b = r.b ∧ ¬ q.c = r.c) ∨ (q.a = r.a ∧ q.b = r.b ∧ q.c = r.c ∧ ¬ q.p.toList = r.p.toList) ∨ (q.a = r.a ∧ q.b = r.b ∧ q.c = r.c ∧ q.p.toList = r.p.toList ∧ ¬ q.a' = r.a') ∨ (q.a = r.a ∧ q.b = r.b ∧ q.c = r.c ∧ q.p.toList = r.p.toList ∧ q.a' = r.a' ∧ ¬ q.b' = r.b') ∨ (q.a = r.a ∧ q.b = r.b ∧ q.c = r.c ∧ q.p.toList = r.p.toList ∧ q.a' = r.a' ∧ q.b' = r.b' ∧ ¬ q.c' = r.c') ∨ (q.a = r.a ∧ q.b = r.b ∧ q.c = r.c ∧ q.p.toList = r.p.toList ∧ q.a' = r.a' ∧ q.b' = r.b' ∧ q.c' = r.c' ∧ ¬ q.p'.toList = r.p'.toList) ∨ (q.a = r.a ∧ q.b = r.b ∧ q.c = r.c ∧ q.p.toList = r.p.toList ∧ q.a' = r.a' ∧ q.b' = r.b' ∧ q.c' = r.c' ∧ q.p'.toList = r.p'.toList ∧ ¬ q.x = r.x) ∨ (q.a = r.a ∧ q.b = r.b ∧ q.c = r.c ∧ q.p.toList = r.p.toList ∧ q.a' = r.a' ∧ q.b' = r.b' ∧ q.c' = r.c' ∧ q.p'.toList = r.p'.toList ∧ q.x = r.x ∧ ¬ q.y = r.y) ∨ (q.a = r.a ∧ q.b = r.b ∧ q.c = r.c ∧ q.p.toList = r.p.toList ∧ q.a' = r.a' ∧ q.b' = r.b' ∧ q.c' = r.c' ∧ q.p'.toList = r.p'.toList ∧ q.x = r.x ∧ q.y = r.y ∧ ¬ q.z = r.z) := by
  refine Classical.byContradiction fun n => h ?_
  simp only [not_or, not_and, Classical.not_not] at n
  obtain ⟨n0, n1, n2, n3, n4, n5, n6, n7, n8, n9, n10⟩ := n
  have e1 := n1 n0
  have e2 := n2 n0 e1
  have e3 := n3 n0 e1 e2
  have e4 := n4 n0 e1 e2 e3
  have e5 := n5 n0 e1 e2 e3 e4
  have e6 := n6 n0 e1 e2 e3 e4 e5
  have e7 := n7 n0 e1 e2 e3 e4 e5 e6
  have e8 := n8 n0 e1 e2 e3 e4 e5 e6 e7
  have e9 := n9 n0 e1 e2 e3 e4 e5 e6 e7 e8
  have e10 := n10 n0 e1 e2 e3 e4 e5 e6 e7 e8 e9
  have p3 := bytes_inj e3
  have p7 := bytes_inj e7
  cases q
  cases r
  simp only [Pt.mk.injEq]
  exact ⟨n0, e1, e2, p3, e4, e5, e6, p7, e8, e9, e10⟩

set_option maxHeartbeats 8000000 in
set_option maxRecDepth 100000 in
theorem rsame_any (a b : Option Addr) (n m cn cm : Nat) (l k : List Sp.S) (w : World) (hl : ERow ES w a n l) (hk : ERow ES w b m k) (hn : n ≤ 10000) (ho : Sp.okL l) (ho2 : Sp.okL k) :
    Calls Tryz.prog 9 #[.slice a n cn, .slice b m cm] w fun e w' => e = .returned (.bool (decide (l = k))) ∧ RowKit.Below w.heap.size w w' := by
  have HL := hide hl
  have HK := hide hk
  have hln := hl.n
  have hkn := hk.n
  clear hl hk
  by_cases hnm : n = m
  · subst hnm
    go_enter Tryz.func9, Tryz.ntmps9
    go_wp2_with fail
    go_loopw [5] (fun i wr => ∃ j : Nat, j ≤ n ∧ i = .int .i64 j ∧ Hid (l.take j = k.take j) ∧ RowKit.Below w.heap.size w wr) (fun i _ => n - (RowKit.intOf i).toNat)
    case atStart => exact ⟨0, by omega, rfl, rfl, RowKit.Below.refl _ _⟩
    case round =>
      obtain ⟨j, hj, rfl, HT, hB⟩ := hrel
      by_cases hlt : j < n
      · obtain ⟨g, off, rfl⟩ := HL.out.spot (by omega)
        obtain ⟨g2, off2, rfl⟩ := HK.out.spot (by omega)
        have h1 : j < l.length := by omega
        have h2 : j < k.length := by omega
        obtain ⟨d0, d1, d2, d3, d4, d5, d6, d7, d8, d9, d10⟩ := ES_at (HL.out.later hB) j l[j] (List.getElem?_eq_getElem h1)
        obtain ⟨f0, f1, f2, f3, f4, f5, f6, f7, f8, f9, f10⟩ := ES_at (HK.out.later hB) j k[j] (List.getElem?_eq_getElem h2)
        have hp := @pt_inj l[j] k[j] (ho _ (List.getElem_mem h1)) (ho2 _ (List.getElem_mem h2))
        have HT1 : Hid (l.take (j + 1) = l.take j ++ [l[j]]) := List.take_succ_eq_append_getElem h1
        have HT2 : Hid (k.take (j + 1) = k.take j ++ [k[j]]) := List.take_succ_eq_append_getElem h2
        have HG1 : Hid (l[j]? = some l[j]) := List.getElem?_eq_getElem h1
        have HG2 : Hid (k[j]? = some k[j]) := List.getElem?_eq_getElem h2
        generalize l[j] = x at *
        generalize k[j] = y at *
        have i1 : (0 : Int) ≤ (j : Int) := by omega
        have i2 : (j : Int) < (n : Int) := by omega
        by_cases hxy : pt x = pt y
        · have HXY : Hid (x = y) := hp hxy
          rw [← hxy] at f0 f1 f2 f3 f4 f5 f6 f7 f8 f9 f10
          clear hp hxy
          generalize pt x = q at *
          generalize pt y = q2 at *
          go_wp2_with fail
          go_quiet (fail)
          go_wp2_with fail
          go_roundw
          case rel => exact ⟨j + 1, by omega, by go_num, (show l.take (j + 1) = k.take (j + 1) by rw [HT1.out, HT2.out, HT.out, HXY.out]), step hB (belDrewN _ _)⟩
          case measure => simp [RowKit.intOf]; omega
        · have HNE : Hid (l ≠ k) := fun e => by
            have h3 := HG1.out
            rw [e, HG2.out] at h3
            exact hxy (by rw [Option.some.inj h3])
          clear hp
          have hcs := ne_cases hxy
          clear hxy
          generalize pt x = q at *
          generalize pt y = q2 at *
          rcases hcs with c0 | ⟨c0, c1⟩ | ⟨c0, c1, c2⟩ | ⟨c0, c1, c2, c3⟩ | ⟨c0, c1, c2, c3, c4⟩ | ⟨c0, c1, c2, c3, c4, c5⟩ | ⟨c0, c1, c2, c3, c4, c5, c6⟩ | ⟨c0, c1, c2, c3, c4, c5, c6, c7⟩ | ⟨c0, c1, c2, c3, c4, c5, c6, c7, c8⟩ | ⟨c0, c1, c2, c3, c4, c5, c6, c7, c8, c9⟩ | ⟨c0, c1, c2, c3, c4, c5, c6, c7, c8, c9, c10⟩
          all_goals
            go_wp2_with fail
            go_quiet (fail)
            go_wp2_with fail
            go_ret
            exact ⟨ret_b (by rw [decide_eq_false HNE.out]), step hB (belDrewN _ _)⟩
      · have hd : decide ((j : Int) < (n : Int)) = false := by simp; omega
        have HE : Hid (l = k) := by
          have := HT.out
          rw [List.take_of_length_le (by omega), List.take_of_length_le (by omega)] at this
          exact this
        go_wp2_with fail
        go_ret
        exact ⟨ret_b (by rw [decide_eq_true HE.out]), hB⟩
  · have hne : l ≠ k := fun e => hnm (by rw [← hln, ← hkn, e])
    have HNE := hide hne
    have hd : ((n : Int) != (m : Int)) = true := by simp; omega
    have hd2 : ¬ (n : Int) = (m : Int) := by omega
    clear hne
    go_enter Tryz.func9, Tryz.ntmps9
    go_wp2_with fail
    go_ret
    exact ⟨ret_b (by rw [decide_eq_false HNE.out]), RowKit.Below.refl _ _⟩
end Go.Proofs.YtninheehoabbbaaGreatDoor

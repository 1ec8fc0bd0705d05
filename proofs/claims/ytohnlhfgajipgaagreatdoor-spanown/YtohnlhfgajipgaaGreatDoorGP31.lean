/-
  The walk of SpanOwn.
  SpanOwn: what the operations answer is the caller's own: written over, it changes nothing of their arguments: for every input the law answers true, and its arguments read afterwards as before. The library's variables as the program's text lays them.
-/
import Derived.Test.YtohnlhfgajipgaaGreatDoorG35
import Derived.Laws.OwnMore
import Derived.Test.YtohnlhfgajipgaaGreatDoorTie
import Derived.Test.YtohnlhfgajipgaaGreatDoorCards
import Derived.Test.YtohnlhfgajipgaaGreatDoorG08
import Derived.ProofKit
import Derived.OpenShut
import Derived.ShutString
import Derived.LaidMore
import Derived.Lay
import Derived.SevenTiedAt
import Derived.Stop.Joined

namespace Go.Proofs.YtohnlhfgajipgaaGreatDoor.spanOwn
set_option linter.unusedSimpArgs false
set_option linter.unusedVariables false
open Go.RowKit Go.Vr Go.Sort Go.Tx Go.Lib
attribute [local go_sem] setCellDrewN allocDrewN

theorem own_later {w w' : World} {B k n : Nat} {T : TypeId} {v : Value} {xs : List Value} (h : w.ownsRow B T k v n xs) (hb : RowKit.Below w.heap.size w w') : w'.ownsRow B T k v n xs := by
  refine ⟨h.1, ?_⟩
  rcases h.2 with h' | ⟨g, cap, cur, e, h1, h2, h3⟩
  · exact .inl h'
  · exact .inr ⟨g, cap, cur, e, h1, by rw [hb.block g (Array.getElem?_eq_some_iff.1 h2).1]; exact h2, h3⟩
/-- A row of its own, made between two sizes of the heap. -/
def MR (w : World) (lo hi : Nat) (v : Value) : Prop := Mine w lo v ∧ ∀ k, v.ownBlock = some k → lo ≤ k ∧ k < hi
theorem Mine.later {w w' : World} {lo : Nat} {v : Value} (h : Mine w lo v) (hb : RowKit.Below w.heap.size w w') : Mine w' lo v := by
  obtain ⟨ad, n, cp, xs, rfl, hn, ho⟩ := h
  exact ⟨ad, n, cp, xs, rfl, hn, own_later ho hb⟩
theorem MR.of {w w' : World} {lo : Nat} {v : Value} (h : Mine w lo v) (hb : RowKit.Below w.heap.size w w') : MR w' lo w.heap.size v := by
  refine ⟨Mine.later h hb, ?_⟩
  obtain ⟨ad, n, cp, xs, rfl, hn, ho⟩ := h
  exact World.ownsRow.lt ho
theorem MR.far {w w' : World} {lo hi g : Nat} {v : Value} (h : MR w lo hi v) (hg : w.grownBy w' (some g)) (hne : ¬ (lo ≤ g ∧ g < hi)) : MR w' lo hi v := by
  obtain ⟨⟨ad, n, cp, xs, rfl, hn, ho⟩, hk⟩ := h
  exact ⟨⟨ad, n, cp, xs, rfl, hn, World.ownsRow.kept ho hg (.inr fun e => hne (hk g e))⟩, hk⟩
/-- The four rows and the row of them. -/
structure Four (w : World) (S : Nat → Nat) (vs : List Value) (N : Nat) : Prop where
  m : ∀ j v, vs[j]? = some v → MR w (S j) (S (j + 1)) v
  box : Box w N vs.toArray
theorem Four.put {w w' : World} {S : Nat → Nat} {vs : List Value} {N g j : Nat} {v : Value} (h : Four w S vs N) (hS : ∀ i k, i < k → k ≤ 4 → S (i + 1) ≤ S k) (hN : ∀ i, i ≤ 4 → S i ≤ N) (hl : vs.length = 4) (hj : vs[j]? = some v) (hv : v.ownBlock = some g) (hg : w.grownBy w' (some g)) (hm : Mine w' (S j) v) : Four w' S vs N := by
  have hj4 : j < 4 := by rw [← hl]; exact (List.getElem?_eq_some_iff.1 hj).1
  have hgr := (h.m j v hj).2 g hv
  refine ⟨fun i u hi => ?_, h.box.kept hg ?_⟩
  · have hi4 : i < 4 := by rw [← hl]; exact (List.getElem?_eq_some_iff.1 hi).1
    by_cases hij : i = j
    · subst hij
      have e : u = v := by rw [hj] at hi; exact (Option.some.inj hi).symm
      subst e
      exact ⟨hm, (h.m i u hi).2⟩
    · refine (h.m i u hi).far hg ?_
      rcases Nat.lt_or_ge i j with hlt | hge
      · have := hS i j hlt (by omega); omega
      · have := hS j i (by omega) (by omega); omega
  · intro e
    have e := Option.some.inj e
    have := hN (j + 1) (by omega)
    omega
theorem mine_set {w : World} {B g n cp j : Nat} {xs : List Value} (hn : n ≤ 2000) (h : w.ownsRow B 57 11 (.slice (some ⟨g, 0, none⟩) n cp) n xs) (y0 y1 y2 y3 y4 y5 y6 y7 y8 y9 y10 : Value) :
    Mine (((((((((((w.setCell ⟨g, j * 11, none⟩ y0).setCell ⟨g, j * 11 + 1, none⟩ y1).setCell ⟨g, j * 11 + 2, none⟩ y2).setCell ⟨g, j * 11 + 3, none⟩ y3).setCell ⟨g, j * 11 + 4, none⟩ y4).setCell ⟨g, j * 11 + 5, none⟩ y5).setCell ⟨g, j * 11 + 6, none⟩ y6).setCell ⟨g, j * 11 + 7, none⟩ y7).setCell ⟨g, j * 11 + 8, none⟩ y8).setCell ⟨g, j * 11 + 9, none⟩ y9).setCell ⟨g, j * 11 + 10, none⟩ y10) B (.slice (some ⟨g, 0, none⟩) n cp) :=
  ⟨_, _, _, _, rfl, hn, own_set (own_set (own_set (own_set (own_set (own_set (own_set (own_set (own_set (own_set (own_set h _ y0) _ y1) _ y2) _ y3) _ y4) _ y5) _ y6) _ y7) _ y8) _ y9) _ y10⟩
theorem grown_11 {w : World} {g j : Nat} {y0 y1 y2 y3 y4 y5 y6 y7 y8 y9 y10 : Value} :
    w.grownBy (((((((((((w.setCell ⟨g, j * 11, none⟩ y0).setCell ⟨g, j * 11 + 1, none⟩ y1).setCell ⟨g, j * 11 + 2, none⟩ y2).setCell ⟨g, j * 11 + 3, none⟩ y3).setCell ⟨g, j * 11 + 4, none⟩ y4).setCell ⟨g, j * 11 + 5, none⟩ y5).setCell ⟨g, j * 11 + 6, none⟩ y6).setCell ⟨g, j * 11 + 7, none⟩ y7).setCell ⟨g, j * 11 + 8, none⟩ y8).setCell ⟨g, j * 11 + 9, none⟩ y9).setCell ⟨g, j * 11 + 10, none⟩ y10) (some g) :=
  grown_set1 (grown_set1 (grown_set1 (grown_set1 (grown_set1 (grown_set1 (grown_set1 (grown_set1 (grown_set1 (grown_set1 (grownBy_setCell _ _ _ _))))))))))
def bd (s0 s1 s2 s3 s4 : Nat) : Nat → Nat
  | 0 => s0
  | 1 => s1
  | 2 => s2
  | 3 => s3
  | _ => s4

set_option maxHeartbeats 16000000 in
set_option maxRecDepth 100000 in
theorem walk (a0 : Option Addr) (len0 cap0 : Nat) (z0 : List Int) (a1 : Option Addr) (len1 cap1 : Nat) (z1 : List Int) (w : World) (he : Env w) (w0 : IsRow .i64 w a0 len0 cap0 z0) (w1 : IsRow .i64 w a1 len1 cap1 z1) :
    Calls Tryz.prog 13 #[.slice a0 len0 cap0, .slice a1 len1 cap1] w fun e w' => e = .returned (.bool true) ∧ RowKit.Below w.heap.size w w' := by
  have HE := hide he
  have R0 := hide w0.row
  have R1 := hide w1.row
  clear he w0 w1
  generalize z0.take len0 = zs0 at *
  generalize z1.take len1 = zs1 at *
  go_enter Tryz.func13, Tryz.ntmps13
  go_wp2_with fail
  refine (known3_any w HE.out).mono ?_
  rintro e W0 ⟨rfl, b⟩
  have B := hide b
  clear b
  go_wp2_with fail
  refine (mk_is_sl _ _ _ _ _ (R0.out.later B.out)).mono ?_
  rintro e W1 ⟨ada, na, ca, rfl, r, b⟩
  replace B := hide (step B.out b)
  have Sa := hide r
  clear b r
  go_wp2_with fail
  refine (mk_is_sl _ _ _ _ _ (R1.out.later B.out)).mono ?_
  rintro e W2 ⟨adb, nb, cb, rfl, r, b⟩
  replace Sa := hide (Sa.out.later b)
  replace B := hide (step B.out b)
  have Sb := hide r
  clear b r
  go_wp2_with fail
  refine (and_ow _ (HE.out.later B.out) _ _ _ _ _ _ _ _ 7 7 Sa.out Sb.out (by omega) (by omega)).mono ?_
  rintro e W3 ⟨x3, n3, c3, rfl, m3, b3⟩
  have B3 := hide b3
  have M3 := hide m3
  clear b3 m3
  go_wp2_with fail
  refine (or2_ow _ (HE.out.later (step B.out B3.out)) _ _ _ _ _ _ _ _ 7 7 (Sa.out.later B3.out) (Sb.out.later B3.out) (by omega) (by omega)).mono ?_
  rintro e W4 ⟨x4, n4, c4, rfl, m4, b4⟩
  have B4 := hide (step B3.out b4)
  have D4 := hide b4
  have M4 := hide m4
  clear b4 m4
  go_wp2_with fail
  refine (or1_ow _ (HE.out.later (step B.out B4.out)) _ _ _ _ 7 (Sa.out.later B4.out) (by omega)).mono ?_
  rintro e W5 ⟨x5, n5, c5, rfl, m5, b5⟩
  have B5 := hide (step B4.out b5)
  have D5 := hide b5
  have M5 := hide m5
  clear b5 m5
  go_wp2_with fail
  refine (not_ow _ (HE.out.later (step B.out B5.out)) _ _ _ _ 7 (Sa.out.later B5.out) (by omega)).mono ?_
  rintro e W6 ⟨x6, n6, c6, rfl, m6, b6⟩
  have B6 := hide (step B5.out b6)
  have D6 := hide b6
  have M6 := hide m6
  clear b6 m6
  go_wp2_with fail
  have hb7 : RowKit.Below W6.heap.size W6 (W6.alloc (.cells #[.slice x3 n3 c3, .slice x4 n4 c4, .slice x5 n5 c5, .slice x6 n6 c6] 24)) := (by repeat (first | with_reducible assumption | with_reducible exact Below.refl _ _ | with_reducible refine Below.setCell ?_ (by first | exact Nat.le_refl _ | (simp; done) | (simp; omega)) _ | with_reducible refine bal ?_ _ | with_reducible refine Below.alloc ?_ (by first | exact Nat.le_refl _ | (simp; done) | (simp; omega)) _ | with_reducible refine Below.drew ?_))
  have FR : Hid (Four (W6.alloc (.cells #[.slice x3 n3 c3, .slice x4 n4 c4, .slice x5 n5 c5, .slice x6 n6 c6] 24)) (bd W2.heap.size W3.heap.size W4.heap.size W5.heap.size W6.heap.size) [.slice x3 n3 c3, .slice x4 n4 c4, .slice x5 n5 c5, .slice x6 n6 c6] W6.heap.size) := by
    refine ⟨?_, Box.new W6 _ _⟩
    have e3 := MR.of M3.out (step D4.out (step D5.out (step D6.out hb7)))
    have e4 := MR.of M4.out (step D5.out (step D6.out hb7))
    have e5 := MR.of M5.out (step D6.out hb7)
    have e6 := MR.of M6.out hb7
    intro j v hj
    match j, hj with
    | 0, hj => obtain rfl := Option.some.inj hj; exact e3
    | 1, hj => obtain rfl := Option.some.inj hj; exact e4
    | 2, hj => obtain rfl := Option.some.inj hj; exact e5
    | 3, hj => obtain rfl := Option.some.inj hj; exact e6
    | j + 4, hj => exact nomatch hj
  have s3 := B3.out.size
  have s4 := D4.out.size
  have s5 := D5.out.size
  have s6 := D6.out.size
  have HS : Hid (∀ i k, i < k → k ≤ 4 → bd W2.heap.size W3.heap.size W4.heap.size W5.heap.size W6.heap.size (i + 1) ≤ bd W2.heap.size W3.heap.size W4.heap.size W5.heap.size W6.heap.size k) := by
    intro i k hik hk
    match i, k, hik, hk with
    | 0, 1, _, _ => exact Nat.le_refl _
    | 0, 2, _, _ => exact s4
    | 0, 3, _, _ => exact Nat.le_trans s4 s5
    | 0, 4, _, _ => exact Nat.le_trans s4 (Nat.le_trans s5 s6)
    | 1, 2, _, _ => exact Nat.le_refl _
    | 1, 3, _, _ => exact s5
    | 1, 4, _, _ => exact Nat.le_trans s5 s6
    | 2, 3, _, _ => exact Nat.le_refl _
    | 2, 4, _, _ => exact s6
    | 3, 4, _, _ => exact Nat.le_refl _
    | i + 4, k, h1, h2 => omega
    | 0, 0, h1, _ => omega
    | 1, 0, h1, _ => omega
    | 1, 1, h1, _ => omega
    | 2, 0, h1, _ => omega
    | 2, 1, h1, _ => omega
    | 2, 2, h1, _ => omega
    | 3, 0, h1, _ => omega
    | 3, 1, h1, _ => omega
    | 3, 2, h1, _ => omega
    | 3, 3, h1, _ => omega
    | _, k + 5, _, h2 => omega
  have HN : Hid (∀ i, i ≤ 4 → bd W2.heap.size W3.heap.size W4.heap.size W5.heap.size W6.heap.size i ≤ W6.heap.size) := by
    intro i hi
    match i, hi with
    | 0, _ => exact Nat.le_trans s3 (Nat.le_trans s4 (Nat.le_trans s5 s6))
    | 1, _ => exact Nat.le_trans s4 (Nat.le_trans s5 s6)
    | 2, _ => exact Nat.le_trans s5 s6
    | 3, _ => exact s6
    | 4, _ => exact Nat.le_refl _
    | i + 5, h => omega
  have HL : Hid (∀ i, W2.heap.size ≤ bd W2.heap.size W3.heap.size W4.heap.size W5.heap.size W6.heap.size i) := by
    intro i
    match i with
    | 0 => exact Nat.le_refl _
    | 1 => exact s3
    | 2 => exact Nat.le_trans s3 s4
    | 3 => exact Nat.le_trans s3 (Nat.le_trans s4 s5)
    | i + 4 => exact Nat.le_trans s3 (Nat.le_trans s4 (Nat.le_trans s5 s6))
  have HB7 := hide (step B6.out hb7)
  have HV : Hid ([Value.slice x3 n3 c3, .slice x4 n4 c4, .slice x5 n5 c5, .slice x6 n6 c6].length = 4) := rfl
  clear s3 s4 s5 s6 hb7 M3 M4 M5 M6 D4 D5 D6 B3 B4 B5 B6
  generalize bd W2.heap.size W3.heap.size W4.heap.size W5.heap.size W6.heap.size = S at *
  generalize W6.alloc (.cells #[.slice x3 n3 c3, .slice x4 n4 c4, .slice x5 n5 c5, .slice x6 n6 c6] 24) = W7 at *
  generalize [Value.slice x3 n3 c3, .slice x4 n4 c4, .slice x5 n5 c5, .slice x6 n6 c6] = vs at *
  generalize W6.heap.size = N at *
  go_loopw [8] (fun i wr => ∃ k : Nat, k ≤ 4 ∧ i = .int .i64 k ∧ Hid (Four wr S vs N) ∧ Hid (RowKit.Below W2.heap.size W2 wr)) (fun i _ => 4 - (RowKit.intOf i).toNat)
  case atStart => exact ⟨0, by omega, rfl, FR, HB7⟩
  case round =>
    obtain ⟨k, hk, rfl, F, HB⟩ := hrel
    clear FR HB7
    by_cases hlt : k < 4
    · have hvk : vs[k]? = some (vs[k]'(by rw [HV.out]; exact hlt)) := List.getElem?_eq_getElem _
      obtain ⟨⟨ad, n, cp, _, hv, hn, _⟩, _⟩ := F.out.m k _ hvk
      rw [hv] at hvk
      have HVK := hide hvk
      clear hv hvk
      have i1 : (0 : Int) ≤ (k : Int) := by omega
      have i2 : (k : Int) < 4 := by omega
      have dk : decide ((k : Int) < 4) = true := by simp; omega
      go_wp2_with fail
      go_loopw [9] (fun q wq => ∃ j : Nat, j ≤ n ∧ q = .int .i64 j ∧ Hid (Four wq S vs N) ∧ Hid (RowKit.Below W2.heap.size W2 wq)) (fun q _ => n - (RowKit.intOf q).toNat)
      case atStart => exact ⟨0, by omega, rfl, F, HB⟩
      case round =>
        obtain ⟨j, hj, rfl, G, HC⟩ := hrel
        have cN : wr.cell? ⟨N, k, none⟩ = some (.slice ad n cp) := by rw [G.out.box.c, ← HVK.out]; simp
        by_cases hjn : j < n
        · obtain ⟨⟨ad', n', cp', xs, e, _, ho⟩, hr⟩ := G.out.m k _ HVK.out
          injection e with e1 e2 e3
          subst e1
          subst e2
          subst e3
          obtain ⟨g, hg⟩ : ∃ g, ad = some ⟨g, 0, none⟩ := by
            rcases ho.2 with ⟨h, _⟩ | ⟨g, _, _, h, _⟩
            · injection h with h1 h2 h3; omega
            · injection h with h1 h2 h3; exact ⟨g, h1⟩
          subst hg
          have hO := hide ho
          have HG : Hid (S k ≤ g ∧ g < S (k + 1)) := hr g rfl
          have hxl : xs.length = n * 11 := ho.1
          have cl := fun i (hi : i < n * 11) => ho.cellAt i hi
          have fz := ho.frozenAt
          obtain ⟨y0, k0⟩ : ∃ y, wr.cell? ⟨g, j * 11, none⟩ = some y := ⟨_, (cl _ (by omega)).trans (List.getElem?_eq_getElem (by omega))⟩
          obtain ⟨y1, k1⟩ : ∃ y, wr.cell? ⟨g, j * 11 + 1, none⟩ = some y := ⟨_, (cl _ (by omega)).trans (List.getElem?_eq_getElem (by omega))⟩
          obtain ⟨y2, k2⟩ : ∃ y, wr.cell? ⟨g, j * 11 + 2, none⟩ = some y := ⟨_, (cl _ (by omega)).trans (List.getElem?_eq_getElem (by omega))⟩
          obtain ⟨y3, k3⟩ : ∃ y, wr.cell? ⟨g, j * 11 + 3, none⟩ = some y := ⟨_, (cl _ (by omega)).trans (List.getElem?_eq_getElem (by omega))⟩
          obtain ⟨y4, k4⟩ : ∃ y, wr.cell? ⟨g, j * 11 + 4, none⟩ = some y := ⟨_, (cl _ (by omega)).trans (List.getElem?_eq_getElem (by omega))⟩
          obtain ⟨y5, k5⟩ : ∃ y, wr.cell? ⟨g, j * 11 + 5, none⟩ = some y := ⟨_, (cl _ (by omega)).trans (List.getElem?_eq_getElem (by omega))⟩
          obtain ⟨y6, k6⟩ : ∃ y, wr.cell? ⟨g, j * 11 + 6, none⟩ = some y := ⟨_, (cl _ (by omega)).trans (List.getElem?_eq_getElem (by omega))⟩
          obtain ⟨y7, k7⟩ : ∃ y, wr.cell? ⟨g, j * 11 + 7, none⟩ = some y := ⟨_, (cl _ (by omega)).trans (List.getElem?_eq_getElem (by omega))⟩
          obtain ⟨y8, k8⟩ : ∃ y, wr.cell? ⟨g, j * 11 + 8, none⟩ = some y := ⟨_, (cl _ (by omega)).trans (List.getElem?_eq_getElem (by omega))⟩
          obtain ⟨y9, k9⟩ : ∃ y, wr.cell? ⟨g, j * 11 + 9, none⟩ = some y := ⟨_, (cl _ (by omega)).trans (List.getElem?_eq_getElem (by omega))⟩
          obtain ⟨y10, k10⟩ : ∃ y, wr.cell? ⟨g, j * 11 + 10, none⟩ = some y := ⟨_, (cl _ (by omega)).trans (List.getElem?_eq_getElem (by omega))⟩
          clear cl ho hr hxl
          have j1 : (0 : Int) ≤ (j : Int) := by omega
          have j2 : (j : Int) < (n : Int) := by omega
          go_wp2_with fail
          go_roundw
          case rel =>
            refine ⟨j + 1, by omega, by go_num, ?_, ?_⟩
            · exact hide (G.out.put HS.out HN.out HV.out HVK.out rfl grown_11 (mine_set hn hO.out _ _ _ _ _ _ _ _ _ _ _))
            · exact hide (HC.out.grown grown_11 HC.out.size (fun q e => by have := Option.some.inj e; have := HL.out k; have := HG.out; omega))
          case measure => simp [RowKit.intOf]; omega
        · have dj : decide ((j : Int) < (n : Int)) = false := by simp; omega
          go_wp2_with fail
          go_roundw
          case rel => exact ⟨k + 1, by omega, by go_num, G, HC⟩
          case measure => simp [RowKit.intOf]; omega
    · have dk : decide ((k : Int) < 4) = false := by simp; omega
      go_wp2_with fail
      have BW := hide (step B.out HB.out)
      refine (mk_is_sl _ _ _ _ _ (R0.out.later BW.out)).mono ?_
      rintro e W8 ⟨adx, nx, cx, rfl, r, b⟩
      have SA := hide ((Sa.out.later HB.out).later b)
      have SB := hide ((Sb.out.later HB.out).later b)
      have SX := hide r
      replace BW := hide (step BW.out b)
      clear r b
      go_wp2_with fail
      refine (same_sl _ _ _ _ _ _ _ _ _ _ _ SA.out SX.out (by omega) rfl).mono ?_
      rintro e W9 ⟨rfl, b⟩
      replace SB := hide (SB.out.later b)
      replace BW := hide (step BW.out b)
      clear b
      go_wp2_with fail
      refine (mk_is_sl _ _ _ _ _ (R1.out.later BW.out)).mono ?_
      rintro e W10 ⟨ady, ny, cy, rfl, r, b⟩
      replace SB := hide (SB.out.later b)
      have SY := hide r
      replace BW := hide (step BW.out b)
      clear r b
      go_wp2_with fail
      refine (same_sl _ _ _ _ _ _ _ _ _ _ _ SB.out SY.out (by omega) rfl).mono ?_
      rintro e W11 ⟨rfl, b⟩
      replace BW := hide (step BW.out b)
      clear b
      go_wp2_with fail
      go_ret
      exact ⟨rfl, BW.out⟩
end Go.Proofs.YtohnlhfgajipgaaGreatDoor.spanOwn

namespace Go.Proofs.YtohnlhfgajipgaaGreatDoor.spanOwn
open Go.ChangeShapes Go.WideShapes Go.ChangeAt Go.RowKit
open Go.ChangeMaps (open_string shut_string)
set_option linter.unusedVariables false

theorem own : ownKnob Tryz.prog.godebug = none := by kernel_rfl
theorem laidOut : laidOutB Tryz.prog = true := by kernel_rfl

set_option maxRecDepth 100000 in
theorem lifted (os : Os) (started : os.Started) (H : Type) (enc : TypeId × Value → H) :
    ReturnsInHanded {} Tryz.checked os 13 .any (fun w args => (Rows.spanOwnSpec.pre enc Tryz.prog Tryz.f13 Rows.spanOwnRow.domain false w args ∧ laidMetH Tryz.prog Rows.spanOwnRow.laid w) ∧ sizedMet enc Tryz.prog Tryz.f13 (OpenSpec.ofChange Rows.spanOwnSpec) false w args) (Rows.spanOwnSpec.post enc Tryz.prog Tryz.f13 false true false false) := by
  refine handed_laid_shaped (C := Tryz.checked) (laid := Rows.spanOwnRow.laid) own started (by kernel_rfl) Tryz.func13
    (ChangeSpec.witness_shaped (enc := enc) (C := Tryz.checked) (os := os) (X := fun w _ => laidMetH Tryz.prog Rows.spanOwnRow.laid w) false (World.laidAll Tryz.prog os Rows.spanOwnRow.laid) #[.slice none 0 0, .slice none 0 0] 8 (World.laidAll_os _ _ _)
      (World.shaped_of_ZipB (by kernel_rfl) (by kernel_rfl)) (by kernel_rfl) (by kernel_rfl) (by kernel_rfl)
      (by rw [MakeChecks.laidMetH_plain _ _ _ (by kernel_rfl)]; exact laidMet_laidAll _ (by kernel_rfl) (by kernel_rfl))) ?_
  intro W base args ds gs before hval0 hW hsz0 hL hS
  have hE : Env W := env_of hL hS
  have hval : ∀ (j : Nat) t v, Tryz.f13.params[j]? = some t → args[j]? = some v → Value.okWide Tryz.prog W .any base t v := hval0
  have hW' := hW
  obtain ⟨p, q, hA0, hV, rfl, hfz, hnd⟩ := hW
  have hA : DataW.TrodAll enc Tryz.prog W 0 (fun _ => true) true Tryz.f13.params.toList args.toList ds p := hA0
  rw [Tryz.params13] at hA hval
  obtain ⟨v0, vs0, d0, ds0, p0, q0, hargs, rfl, rfl, h0, r0⟩ := trodAll_cons hA
  obtain ⟨v1, vs1, d1, ds1, p1, q1, rfl, rfl, rfl, h1, r1⟩ := trodAll_cons r0
  obtain ⟨rfl, rfl, rfl⟩ := trodAll_nil r1
  obtain rfl : args = #[v0, v1] := by cases args; simp_all
  obtain ⟨rfl, rfl⟩ := trodVars_none hV
  obtain ⟨a0, len0, cap0, rfl⟩ := okWide_slice Tryz.underlying22 (hval 0 22 v0 rfl rfl)
  have k0 := h0
  have lt0 : ∀ x ∈ p0, x.block < W.heap.size := by obtain ⟨m, hm⟩ := k0; exact DataW.trod_lt m _ _ _ hm
  obtain ⟨z0, w0⟩ : ∃ zs, IsRow .i64 W a0 len0 cap0 zs := by
    obtain ⟨fuel, hf⟩ := h0
    rcases open_ints Tryz.underlying22 Tryz.underlying3 (by kernel_rfl) hf with ⟨hcs, _⟩ | ⟨x, l, c, zs, hcs, _, hl, hm, hz, _, hcell, hwz⟩
    · simp [Value.cells] at hcs
      obtain ⟨rfl, rfl, rfl⟩ := hcs
      exact ⟨[], .inl ⟨rfl, rfl, rfl, rfl⟩⟩
    · simp [Value.cells] at hcs
      obtain ⟨rfl, rfl, rfl⟩ := hcs
      exact ⟨zs, .inr ⟨_, rfl, hl, hm, by simpa using hz, hcell, hwz⟩⟩
  obtain ⟨a1, len1, cap1, rfl⟩ := okWide_slice Tryz.underlying22 (hval 1 22 v1 rfl rfl)
  have k1 := h1
  have lt1 : ∀ x ∈ p1, x.block < W.heap.size := by obtain ⟨m, hm⟩ := k1; exact DataW.trod_lt m _ _ _ hm
  obtain ⟨z1, w1⟩ : ∃ zs, IsRow .i64 W a1 len1 cap1 zs := by
    obtain ⟨fuel, hf⟩ := h1
    rcases open_ints Tryz.underlying22 Tryz.underlying3 (by kernel_rfl) hf with ⟨hcs, _⟩ | ⟨x, l, c, zs, hcs, _, hl, hm, hz, _, hcell, hwz⟩
    · simp [Value.cells] at hcs
      obtain ⟨rfl, rfl, rfl⟩ := hcs
      exact ⟨[], .inl ⟨rfl, rfl, rfl, rfl⟩⟩
    · simp [Value.cells] at hcs
      obtain ⟨rfl, rfl, rfl⟩ := hcs
      exact ⟨zs, .inr ⟨_, rfl, hl, hm, by simpa using hz, hcell, hwz⟩⟩
  clear hA0 hval0
  refine (walk a0 len0 cap0 z0 a1 len1 cap1 z1 W hE w0 w1).mono fun e W' ⟨he, bel⟩ => ?_
  subst he
  exact ⟨_, rfl, _, _, _, [], _, [], hW', trodAll_mk1 (shut_bool Tryz.underlying4 _), (trodAll_cons_mk (Below.trod laidOut (by kernel_rfl) (of_decide_eq_true (by kernel_rfl)) k0 bel lt0) (trodAll_cons_mk (Below.trod laidOut (by kernel_rfl) (of_decide_eq_true (by kernel_rfl)) k1 bel lt1) trodAll_mk0)), rfl, bel.frame _, fun h => by cases h⟩

theorem holds : Rows.SpanOwnSaid :=
  OpenClaim.holds_of_wide 13 Tryz.f13 rfl rfl rfl rfl rfl rfl rfl ⟨rfl, rfl, rfl, rfl, rfl⟩ rfl rfl rfl rfl rfl (by kernel_rfl) Tryz.func13 (by kernel_rfl)
    (of_decide_eq_true (by kernel_rfl)) (by unfold Func.isWrapper; first | (rw [if_pos (by decide +kernel)]; kernel_rfl) | (rw [if_neg (by decide +kernel)]; exact ⟨rfl, rfl⟩))
    (fun os started H enc _ => lifted os started H enc)

theorem proved : Rows.SpanOwnCardSaid :=
  Claim7.holds_tied_plain_at .later [] [.data, .data, .data, .data, .sentinel, .sentinel, .pinned] true (true, "677dda388697c3be81f00c8f3e7162a91e326615aec89fc25f0adc6f7f408f5b") true holds (fun _ h => by cases h) (by kernel_rfl) (fun _ h => by cases h) spanOwn_row_tie rfl ⟨rfl, rfl⟩ (by kernel_rfl) rfl
    (fun f fn hf hfn => by
      obtain rfl : f = 13 := Option.some.inj ((show Tryz.prog.funcNamed "transhumance/transhumancelaw3.SpanOwn" = some 13 by kernel_rfl).symm.trans hf) |>.symm
      obtain rfl : fn = Tryz.f13 := (Option.some.inj (Tryz.func13.symm.trans hfn)).symm
      exact ⟨by kernel_rfl, fun j t ht => by
        rw [Tryz.params13] at ht
        have hm : t ∈ ([22, 22] : List TypeId) := by simpa using Array.mem_of_getElem? ht
        have hall : (([22, 22] : List TypeId).all fun u => !Tryz.prog.wantsStandIn u) = true := by kernel_rfl
        exact (show Tryz.prog.wantsStandIn t = false by simpa using List.all_eq_true.1 hall t hm)⟩)
    (by kernel_rfl)

end Go.Proofs.YtohnlhfgajipgaaGreatDoor.spanOwn

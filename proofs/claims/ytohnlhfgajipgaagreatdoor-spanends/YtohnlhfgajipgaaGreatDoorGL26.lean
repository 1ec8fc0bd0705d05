/-
  The walk of SpanEnds.
-/
import Derived.Test.YtohnlhfgajipgaaGreatDoorG28
import Derived.Test.YtohnlhfgajipgaaGreatDoorG31
import Derived.BigQuiet
import Derived.BigRegion
import Derived.Deep.CutBlock
import Derived.Deep.RegionWith

namespace Go.Proofs.YtohnlhfgajipgaaGreatDoor.spanEnds
set_option linter.unusedSimpArgs false
set_option linter.unusedVariables false
open Go.RowKit Go.Vr Go.Sort Go.Tx Go.Lib
attribute [local go_sem] setCellDrewN allocDrewN

/-- Three versions in a row. -/
abbrev c3 (v0 v1 v2 : V) : Array Value := #[.int .i64 v0.a, .int .i64 v0.b, .int .i64 v0.c, .string v0.p, .int .i64 v1.a, .int .i64 v1.b, .int .i64 v1.c, .string v1.p, .int .i64 v2.a, .int .i64 v2.b, .int .i64 v2.c, .string v2.p]
/-- What the passes have done. -/
def inv (i k : Nat) (v0 v1 v2 : V) : Prop := (1 ≤ i ∨ k = 2 → cmpV v0 v2 ≤ 0 ∧ cmpV v1 v2 ≤ 0) ∧ (2 ≤ i ∨ k = 1 ∨ (1 ≤ i ∧ 1 ≤ k) → cmpV v0 v1 ≤ 0)
theorem inv_next {i : Nat} {v0 v1 v2 : V} (h : inv i 2 v0 v1 v2) : inv (i + 1) 0 v0 v1 v2 := by
  refine ⟨fun _ => h.1 (.inr rfl), fun k => h.2 ?_⟩
  rcases k with k | k | k
  · exact .inr (.inr ⟨by omega, by omega⟩)
  · omega
  · omega
theorem inv_0t {i : Nat} {v0 v1 v2 : V} (h : inv i 0 v0 v1 v2) (c : 0 < cmpV v0 v1) : inv i 1 v1 v0 v2 := by
  have ha := ord_ver.anti v0 v1
  refine ⟨fun k => ?_, fun _ => by omega⟩
  rcases k with k | k
  · have := h.1 (.inl k); exact ⟨this.2, this.1⟩
  · omega
theorem inv_0f {i : Nat} {v0 v1 v2 : V} (h : inv i 0 v0 v1 v2) (c : ¬ 0 < cmpV v0 v1) : inv i 1 v0 v1 v2 := by
  refine ⟨fun k => ?_, fun _ => by omega⟩
  rcases k with k | k
  · exact h.1 (.inl k)
  · omega
theorem inv_1t {i : Nat} {v0 v1 v2 : V} (h : inv i 1 v0 v1 v2) (c : 0 < cmpV v1 v2) : inv i 2 v0 v2 v1 := by
  have ha := ord_ver.anti v1 v2
  have h01 := h.2 (.inr (.inl rfl))
  refine ⟨fun _ => ⟨h01, by omega⟩, fun k => ?_⟩
  have hi : 1 ≤ i := by omega
  exact (h.1 (.inl hi)).1
theorem inv_1f {i : Nat} {v0 v1 v2 : V} (h : inv i 1 v0 v1 v2) (c : ¬ 0 < cmpV v1 v2) : inv i 2 v0 v1 v2 := by
  have h01 := h.2 (.inr (.inl rfl))
  have h12 : cmpV v1 v2 ≤ 0 := by omega
  exact ⟨fun _ => ⟨ord_ver.le _ _ _ h01 h12, h12⟩, fun _ => h01⟩
theorem gswap (w : World) (N o : Nat) (y0 y1 y2 y3 y4 y5 y6 y7 : Value) : w.grownBy ((((((((w.setCell ⟨N, o + 0, none⟩ y0).setCell ⟨N, o + 1, none⟩ y1).setCell ⟨N, o + 2, none⟩ y2).setCell ⟨N, o + 3, none⟩ y3).setCell ⟨N, o + 4, none⟩ y4).setCell ⟨N, o + 5, none⟩ y5).setCell ⟨N, o + 6, none⟩ y6).setCell ⟨N, o + 7, none⟩ y7).drew (some N) :=
  grownBy_trans (grownBy_trans (grownBy_trans (grownBy_trans (grownBy_trans (grownBy_trans (grownBy_trans (grownBy_trans (grownBy_setCell _ _ _ _) (grownBy_setCell _ _ _ _) (.inl rfl)) (grownBy_setCell _ _ _ _) (.inl rfl)) (grownBy_setCell _ _ _ _) (.inl rfl)) (grownBy_setCell _ _ _ _) (.inl rfl)) (grownBy_setCell _ _ _ _) (.inl rfl)) (grownBy_setCell _ _ _ _) (.inl rfl)) (grownBy_setCell _ _ _ _) (.inl rfl)) (grownBy_below _ (show RowKit.Below _ _ _ from (by repeat (first | with_reducible assumption | with_reducible exact Below.refl _ _ | with_reducible refine Below.setCell ?_ (by first | exact Nat.le_refl _ | (simp; done) | (simp; omega)) _ | with_reducible refine bal ?_ _ | with_reducible refine Below.alloc ?_ (by first | exact Nat.le_refl _ | (simp; done) | (simp; omega)) _ | with_reducible refine Below.drew ?_)))) (.inl rfl)
theorem sw01 (u0 u1 u2 : V) : (((((((((c3 u0 u1 u2).setIfInBounds 0 (.int .i64 u1.a)).setIfInBounds 1 (.int .i64 u1.b)).setIfInBounds 2 (.int .i64 u1.c)).setIfInBounds 3 (.string u1.p)).setIfInBounds 4 (.int .i64 u0.a)).setIfInBounds 5 (.int .i64 u0.b)).setIfInBounds 6 (.int .i64 u0.c)).setIfInBounds 7 (.string u0.p)) = c3 u1 u0 u2 := by simp [c3]
theorem sw12 (u0 u1 u2 : V) : (((((((((c3 u0 u1 u2).setIfInBounds 4 (.int .i64 u2.a)).setIfInBounds 5 (.int .i64 u2.b)).setIfInBounds 6 (.int .i64 u2.c)).setIfInBounds 7 (.string u2.p)).setIfInBounds 8 (.int .i64 u1.a)).setIfInBounds 9 (.int .i64 u1.b)).setIfInBounds 10 (.int .i64 u1.c)).setIfInBounds 11 (.string u1.p)) = c3 u0 u2 u1 := by simp [c3]

theorem ends_has {u0 u1 u2 : V} (h : cmpV u0 u1 < 0) : [Sp.eX u0 u1 false, Sp.eY u1 u2 true].any (inSp (some (u1, false))) = false := by
  have h1 : Sp.cmpC (some (u1, false)) (some (u1, false)) = 0 := Sp.ord_cut.refl _
  have h2 : Sp.cmpC (some (u1, true)) (some (u1, false)) = 1 := Sp.cmp_same u1 true false
  simp [inSp, Sp.eX, Sp.eY, h1, h2]
theorem vbytes {s t : ByteArray} (h : s.toList = t.toList) : s = t := by rw [toList_data, toList_data] at h; exact ba_ext h
theorem vne_cases {v u : V} (h : ¬ v = u) : ¬ v.a = u.a ∨ (v.a = u.a ∧ ¬ v.b = u.b) ∨ (v.a = u.a ∧ v.b = u.b ∧ ¬ v.c = u.c) ∨ (v.a = u.a ∧ v.b = u.b ∧ v.c = u.c ∧ ¬ v.p.toList = u.p.toList) := by
  refine Classical.byContradiction fun n => h ?_
  simp only [not_or, not_and, Classical.not_not] at n
  obtain ⟨n0, n1, n2, n3⟩ := n
  have e1 := n1 n0
  have e2 := n2 n0 e1
  have e3 := vbytes (n3 n0 e1 e2)
  cases v
  cases u
  simp only [V.mk.injEq]
  exact ⟨n0, e1, e2, e3⟩
theorem vne4 {x0 y0 z0 x1 y1 z1 : Int} {p0 p1 : ByteArray} (h : ¬ (⟨x0, y0, z0, p0⟩ : V) = ⟨x1, y1, z1, p1⟩) : ¬ x0 = x1 ∨ (x0 = x1 ∧ ¬ y0 = y1) ∨ (x0 = x1 ∧ y0 = y1 ∧ ¬ z0 = z1) ∨ (x0 = x1 ∧ y0 = y1 ∧ z0 = z1 ∧ ¬ p0.toList = p1.toList) := vne_cases h

set_option maxHeartbeats 8000000 in
set_option maxRecDepth 100000 in
theorem walk (a0 a1 a2 a3 a4 a5 : Int) (a6 a7 : Bool) (w : World) (he : Env w) (h0 : -9223372036854775808 ≤ a0 ∧ a0 ≤ 9223372036854775807) (h1 : -9223372036854775808 ≤ a1 ∧ a1 ≤ 9223372036854775807) (h2 : -9223372036854775808 ≤ a2 ∧ a2 ≤ 9223372036854775807) (h3 : -9223372036854775808 ≤ a3 ∧ a3 ≤ 9223372036854775807) (h4 : -9223372036854775808 ≤ a4 ∧ a4 ≤ 9223372036854775807) (h5 : -9223372036854775808 ≤ a5 ∧ a5 ≤ 9223372036854775807) :
    Calls Tryz.prog 9 #[.int .i64 a0, .int .i64 a1, .int .i64 a2, .int .i64 a3, .int .i64 a4, .int .i64 a5, .bool a6, .bool a7] w fun e w' => e = .returned (.bool true) ∧ RowKit.Below w.heap.size w w' := by
  have CM0 : Hid (∀ W, Calls Tryz.prog 32 #[.int .i64 a0, .int .i64 a1] W fun e w' => ∃ v : V, e = .returned (val v) ∧ v.ok = true ∧ RowKit.Below W.heap.size W w') := fun W => make_any a0 a1 W h0 h1
  have CM1 : Hid (∀ W, Calls Tryz.prog 32 #[.int .i64 a2, .int .i64 a3] W fun e w' => ∃ v : V, e = .returned (val v) ∧ v.ok = true ∧ RowKit.Below W.heap.size W w') := fun W => make_any a2 a3 W h2 h3
  have CM2 : Hid (∀ W, Calls Tryz.prog 32 #[.int .i64 a4, .int .i64 a5] W fun e w' => ∃ v : V, e = .returned (val v) ∧ v.ok = true ∧ RowKit.Below W.heap.size W w') := fun W => make_any a4 a5 W h4 h5
  have HE := hide he
  clear he h0 h1 h2 h3 h4 h5
  go_enter Tryz.func9, Tryz.ntmps9
  go_wp2_with fail
  refine (known3_any w HE.out).mono ?_
  rintro e w1 ⟨rfl, b1⟩
  go_wp2_with fail
  refine (CM0.out _).mono ?_
  rintro e w2 ⟨v0, rfl, ok0, b2⟩
  have b2' := step b1 b2
  go_wp2_with fail
  refine (CM1.out _).mono ?_
  rintro e w3 ⟨v1, rfl, ok1, b3⟩
  have b3' := step b2' b3
  go_wp2_with fail
  refine (CM2.out _).mono ?_
  rintro e w4 ⟨v2, rfl, ok2, b4⟩
  have b4' := step b3' b4
  have X := Box.new w4 (c3 v0 v1 v2) 34
  have hN : Hid (w.heap.size ≤ w4.heap.size) := b4'.size
  have hB5 : RowKit.Below w.heap.size w (w4.alloc (.cells (c3 v0 v1 v2) 34)) := bal b4' _
  clear b1 b2 b3 b4 b2' b3' b4' CM0 CM1 CM2
  have HOK := hide (And.intro ok0 (And.intro ok1 ok2))
  clear ok0 ok1 ok2
  go_wp2_with fail
  generalize w4.alloc (.cells (c3 v0 v1 v2) 34) = w5 at *
  generalize w4.heap.size = N at *
  go_loopw [18] (fun s wr => ∃ (i : Nat) (u0 u1 u2 : V), i ≤ 3 ∧ s = .int .i64 i ∧ Box wr N (c3 u0 u1 u2) ∧ RowKit.Below w.heap.size w wr ∧ Hid (u0.ok = true ∧ u1.ok = true ∧ u2.ok = true) ∧ Hid (inv i 0 u0 u1 u2)) (fun s _ => 3 - (RowKit.intOf s).toNat)
  case atStart => exact ⟨0, v0, v1, v2, by omega, rfl, X, hB5, HOK, ⟨fun h => by omega, fun h => by omega⟩⟩
  case round =>
    clear X hB5 HOK
    obtain ⟨i, u0, u1, u2, hi, rfl, X, hB, HOK, HI⟩ := hrel
    by_cases hlt : i < 3
    · have hd : decide ((i : Int) < 3) = true := by simp; omega
      have hd2 : (i : Int) < 3 := by omega
      have HX := hide X
      have HB := hide hB
      clear X hB
      go_wp2_with fail
      go_loopw [19] (fun s wq => ∃ (k : Nat) (u0 u1 u2 : V), k ≤ 2 ∧ s = .int .i64 k ∧ Box wq N (c3 u0 u1 u2) ∧ RowKit.Below w.heap.size w wq ∧ Hid (u0.ok = true ∧ u1.ok = true ∧ u2.ok = true) ∧ Hid (inv i k u0 u1 u2)) (fun s _ => 2 - (RowKit.intOf s).toNat)
      case atStart => exact ⟨0, u0, u1, u2, by omega, rfl, HX.out, HB.out, HOK, HI⟩
      case round =>
        clear HX HB HOK HI u0 u1 u2
        obtain ⟨k, u0, u1, u2, hk, rfl, X, hB, HOK, HI⟩ := hrel
        have HX := hide X
        have HB := hide hB
        have KX : ∀ dd os j, (grow (redrawn wr dd) os).cell? ⟨N, j, none⟩ = (c3 u0 u1 u2)[j]? := fun dd os => (X.regrown dd os).c
        clear X hB
        have hk3 : k = 0 ∨ k = 1 ∨ k = 2 := by omega
        clear hk
        rcases hk3 with rfl | rfl | rfl
        · have CC : Hid (∀ W, Calls Tryz.prog 26 #[ver u0.a u0.b u0.c u0.p, ver u1.a u1.b u1.c u1.p] W fun e w' => e = .returned (.int .i64 (cmpV u0 u1)) ∧ RowKit.Below W.heap.size W w') := fun W => rcmp_any u0 u1 W (Nat.le_trans (ok_size (by have := HOK.out; exact this.1)) (by omega)) (Nat.le_trans (ok_size (by have := HOK.out; exact this.2.1)) (by omega))
          have z1 : IntKind.i64.wrap (0 + 1) = 1 := by rw [IntKind.wrap_i64]; rfl
          have z2 : IntKind.i64.wrap (1 + 1) = 2 := by rw [IntKind.wrap_i64]; rfl
          have z3 : IntKind.i64.wrap 1 = 1 := by rw [IntKind.wrap_i64]; rfl
          have z4 : IntKind.i64.wrap 2 = 2 := by rw [IntKind.wrap_i64]; rfl
          go_wp2_with fail
          cases hc : decide (0 < cmpV u0 u1) with
          | true =>
            have HC := hide (of_decide_eq_true hc)
            refine wp_region_quiet_below mixed (by kernel_rfl) ?_
            quiet_step (fail)
            quiet_step (fail)
            quiet_step (fail)
            quiet_step (fail)
            quiet_step (fail)
            quiet_step (fail)
            quiet_step (fail)
            quiet_step (fail)
            quiet_step (fail)
            quiet_step (exact Calls.regrown_of (CC.out _))
            quiet_step (fail)
            refine wpQuiet_nil ?_
            intro w2 hw2
            have hHeld := regrown_below hw2
            clear hw2 KX CC
            have HX2 := HX.out.later hHeld
            have HB2 := hide (step HB.out hHeld)
            clear HX HB hHeld
            have cX2 := HX2.c
            have fX2 := HX2.f
            go_wp2_with fail
            go_region
            all_goals go_wp2_with fail
            all_goals go_roundw
            case rel =>
              have gh : w2.grownBy _ (some N) := gswap w2 N 0 (.int .i64 u1.a) (.int .i64 u1.b) (.int .i64 u1.c) (.string u1.p) (.int .i64 u0.a) (.int .i64 u0.b) (.int .i64 u0.c) (.string u0.p)
              have hbx := ((((((((HX2.set 0 (.int .i64 u1.a) (by simp)).set 1 (.int .i64 u1.b) (by simp)).set 2 (.int .i64 u1.c) (by simp)).set 3 (.string u1.p) (by simp)).set 4 (.int .i64 u0.a) (by simp)).set 5 (.int .i64 u0.b) (by simp)).set 6 (.int .i64 u0.c) (by simp)).set 7 (.string u0.p) (by simp))
              rw [sw01] at hbx
              exact ⟨1, u1, u0, u2, by omega, by go_num, hbx.drew, HB2.out.grown gh HB2.out.size (fun j e => by have := Option.some.inj e; have := hN.out; omega), ⟨HOK.out.2.1, HOK.out.1, HOK.out.2.2⟩, inv_0t HI.out HC.out⟩
            case measure => simp [RowKit.intOf]
          | false =>
            have HC := hide (of_decide_eq_false hc)
            refine wp_region_quiet_below mixed (by kernel_rfl) ?_
            quiet_step (fail)
            quiet_step (fail)
            quiet_step (fail)
            quiet_step (fail)
            quiet_step (fail)
            quiet_step (fail)
            quiet_step (fail)
            quiet_step (fail)
            quiet_step (fail)
            quiet_step (exact Calls.regrown_of (CC.out _))
            quiet_step (fail)
            refine wpQuiet_nil ?_
            intro w2 hw2
            have hHeld := regrown_below hw2
            clear hw2 KX CC
            have HX2 := HX.out.later hHeld
            have HB2 := hide (step HB.out hHeld)
            clear HX HB hHeld
            go_wp2_with fail
            go_roundw
            case rel => exact ⟨1, u0, u1, u2, by omega, by go_num, HX2, HB2.out, HOK, inv_0f HI.out (by have := HC.out; omega)⟩
            case measure => simp [RowKit.intOf]
        · have CC : Hid (∀ W, Calls Tryz.prog 26 #[ver u1.a u1.b u1.c u1.p, ver u2.a u2.b u2.c u2.p] W fun e w' => e = .returned (.int .i64 (cmpV u1 u2)) ∧ RowKit.Below W.heap.size W w') := fun W => rcmp_any u1 u2 W (Nat.le_trans (ok_size (by have := HOK.out; exact this.2.1)) (by omega)) (Nat.le_trans (ok_size (by have := HOK.out; exact this.2.2)) (by omega))
          have z1 : IntKind.i64.wrap (0 + 1) = 1 := by rw [IntKind.wrap_i64]; rfl
          have z2 : IntKind.i64.wrap (1 + 1) = 2 := by rw [IntKind.wrap_i64]; rfl
          have z3 : IntKind.i64.wrap 1 = 1 := by rw [IntKind.wrap_i64]; rfl
          have z4 : IntKind.i64.wrap 2 = 2 := by rw [IntKind.wrap_i64]; rfl
          go_wp2_with fail
          cases hc : decide (0 < cmpV u1 u2) with
          | true =>
            have HC := hide (of_decide_eq_true hc)
            refine wp_region_quiet_below mixed (by kernel_rfl) ?_
            quiet_step (fail)
            quiet_step (fail)
            quiet_step (fail)
            quiet_step (fail)
            quiet_step (fail)
            quiet_step (fail)
            quiet_step (fail)
            quiet_step (fail)
            quiet_step (fail)
            quiet_step (exact Calls.regrown_of (CC.out _))
            quiet_step (fail)
            refine wpQuiet_nil ?_
            intro w2 hw2
            have hHeld := regrown_below hw2
            clear hw2 KX CC
            have HX2 := HX.out.later hHeld
            have HB2 := hide (step HB.out hHeld)
            clear HX HB hHeld
            have cX2 := HX2.c
            have fX2 := HX2.f
            go_wp2_with fail
            go_region
            all_goals go_wp2_with fail
            all_goals go_roundw
            case rel =>
              have gh : w2.grownBy _ (some N) := gswap w2 N 4 (.int .i64 u2.a) (.int .i64 u2.b) (.int .i64 u2.c) (.string u2.p) (.int .i64 u1.a) (.int .i64 u1.b) (.int .i64 u1.c) (.string u1.p)
              have hbx := ((((((((HX2.set 4 (.int .i64 u2.a) (by simp)).set 5 (.int .i64 u2.b) (by simp)).set 6 (.int .i64 u2.c) (by simp)).set 7 (.string u2.p) (by simp)).set 8 (.int .i64 u1.a) (by simp)).set 9 (.int .i64 u1.b) (by simp)).set 10 (.int .i64 u1.c) (by simp)).set 11 (.string u1.p) (by simp))
              rw [sw12] at hbx
              exact ⟨2, u0, u2, u1, by omega, by go_num, hbx.drew, HB2.out.grown gh HB2.out.size (fun j e => by have := Option.some.inj e; have := hN.out; omega), ⟨HOK.out.1, HOK.out.2.2, HOK.out.2.1⟩, inv_1t HI.out HC.out⟩
            case measure => simp [RowKit.intOf]
          | false =>
            have HC := hide (of_decide_eq_false hc)
            refine wp_region_quiet_below mixed (by kernel_rfl) ?_
            quiet_step (fail)
            quiet_step (fail)
            quiet_step (fail)
            quiet_step (fail)
            quiet_step (fail)
            quiet_step (fail)
            quiet_step (fail)
            quiet_step (fail)
            quiet_step (fail)
            quiet_step (exact Calls.regrown_of (CC.out _))
            quiet_step (fail)
            refine wpQuiet_nil ?_
            intro w2 hw2
            have hHeld := regrown_below hw2
            clear hw2 KX CC
            have HX2 := HX.out.later hHeld
            have HB2 := hide (step HB.out hHeld)
            clear HX HB hHeld
            go_wp2_with fail
            go_roundw
            case rel => exact ⟨2, u0, u1, u2, by omega, by go_num, HX2, HB2.out, HOK, inv_1f HI.out (by have := HC.out; omega)⟩
            case measure => simp [RowKit.intOf]
        · clear KX
          go_wp2_with fail
          go_roundw
          case rel => exact ⟨i + 1, u0, u1, u2, by omega, by go_num, HX.out, HB.out, HOK, inv_next HI.out⟩
          case measure => simp [RowKit.intOf]; omega
    · obtain rfl : i = 3 := by omega
      have hd : decide ((3 : Int) < 3) = false := by decide
      obtain ⟨ok0, ok1, ok2⟩ := HOK.out
      have h02 := HI.out.1 (.inl (by omega))
      have h01 := HI.out.2 (.inl (by omega))
      have HX := hide X
      have HB := hide hB
      have cX := X.c
      clear X hB HI
      by_cases e01 : u0 = u1
      · subst e01
        go_wp2_with fail
        go_quiet (fail)
        go_wp2_with fail
        go_ret
        exact ⟨rfl, step HB.out (belDrewN _ _)⟩
      · by_cases e12 : u1 = u2
        · subst e12
          rcases vne_cases e01 with c0 | ⟨c0, c1⟩ | ⟨c0, c1, c2⟩ | ⟨c0, c1, c2, c3⟩
          all_goals
            go_wp2_with fail
            go_quiet (fail)
            go_wp2_with fail
            go_ret
            exact ⟨rfl, step HB.out (belDrewN _ _)⟩
        · have h01' : cmpV u0 u1 < 0 := by have h : ¬ cmpV u0 u1 = 0 := fun h => e01 ((ord_ver.eq u0 u1).1 h); omega
          have h12' : cmpV u1 u2 < 0 := by have h : ¬ cmpV u1 u2 = 0 := fun h => e12 ((ord_ver.eq u1 u2).1 h); omega
          have H01 := hide h01'
          have H12 := hide h12'
          have OK0 := hide ok0
          have OK1 := hide ok1
          have OK2 := hide ok2
          clear h01 h02 h01' h12' ok0 ok1 ok2 HOK
          go_upto_region 12 with fail
          go_cut [85] (fun q wc => q = .bool false ∧ RowKit.Below wr.heap.size wr wc)
          case first =>
            obtain ⟨x0, y0, z0, p0⟩ := u0
            obtain ⟨x1, y1, z1, p1⟩ := u1
            obtain ⟨x2, y2, z2, p2⟩ := u2
            rcases vne4 e01 with g0 | ⟨g0, g1⟩ | ⟨g0, g1, g2⟩ | ⟨g0, g1, g2, g3⟩ <;> rcases vne4 e12 with d0 | ⟨d0, d1⟩ | ⟨d0, d1, d2⟩ | ⟨d0, d1, d2, d3⟩ <;> subst_vars
            all_goals
              go_quiet (fail)
              go_wp2_with fail
              go_meet
              case rel => exact ⟨rfl, belDrewN _ _⟩
          case rest =>
            obtain ⟨rfl, hbc⟩ := hcut
            clear cX e01 e12
            have X1 := HX.out.later hbc
            have HX1 := hide X1
            have HB1 := hide (step HB.out hbc)
            have cX := X1.c
            clear X1 HX HB hbc
            go_wp2_with fail
            go_region
            have rx := ERow.newAt wc (Sp.eX u0 u1 a6) 57 wc.heap.size rfl
            have hbx : RowKit.Below wc.heap.size wc (wc.alloc (.cells (encS (Sp.eX u0 u1 a6)).toArray 57)).drew := (by repeat (first | with_reducible assumption | with_reducible exact Below.refl _ _ | with_reducible refine Below.setCell ?_ (by first | exact Nat.le_refl _ | (simp; done) | (simp; omega)) _ | with_reducible refine bal ?_ _ | with_reducible refine Below.alloc ?_ (by first | exact Nat.le_refl _ | (simp; done) | (simp; omega)) _ | with_reducible refine Below.drew ?_))
            have RX := hide (rx.later (show RowKit.Below _ _ (wc.alloc (.cells (encS (Sp.eX u0 u1 a6)).toArray 57)).drew from (by repeat (first | with_reducible assumption | with_reducible exact Below.refl _ _ | with_reducible refine Below.setCell ?_ (by first | exact Nat.le_refl _ | (simp; done) | (simp; omega)) _ | with_reducible refine bal ?_ _ | with_reducible refine Below.alloc ?_ (by first | exact Nat.le_refl _ | (simp; done) | (simp; omega)) _ | with_reducible refine Below.drew ?_))))
            have HX2 := hide (HX1.out.later hbx)
            have HB2 := hide (step HB1.out hbx)
            clear rx
            generalize hw6 : (wc.alloc (.cells (encS (Sp.eX u0 u1 a6)).toArray 57)).drew = w6 at *
            have hw6' : (wc.alloc (.cells #[.int .i64 u0.a, .int .i64 u0.b, .int .i64 u0.c, .string u0.p, .int .i64 u1.a, .int .i64 u1.b, .int .i64 u1.c, .string u1.p, .bool false, .bool a6, .bool false] 57)).drew = w6 := hw6
            rw [hw6']
            have cX := HX2.out.c
            generalize wc.heap.size = NX at *
            clear hw6 hw6' HX1 HB1 hbx
            go_wp2_with fail
            go_region
            have ry := ERow.newAt w6 (Sp.eY u1 u2 a7) 57 w6.heap.size rfl
            have hby : RowKit.Below w6.heap.size w6 (w6.alloc (.cells (encS (Sp.eY u1 u2 a7)).toArray 57)).drew := (by repeat (first | with_reducible assumption | with_reducible exact Below.refl _ _ | with_reducible refine Below.setCell ?_ (by first | exact Nat.le_refl _ | (simp; done) | (simp; omega)) _ | with_reducible refine bal ?_ _ | with_reducible refine Below.alloc ?_ (by first | exact Nat.le_refl _ | (simp; done) | (simp; omega)) _ | with_reducible refine Below.drew ?_))
            have RY := hide (ry.later (show RowKit.Below _ _ (w6.alloc (.cells (encS (Sp.eY u1 u2 a7)).toArray 57)).drew from (by repeat (first | with_reducible assumption | with_reducible exact Below.refl _ _ | with_reducible refine Below.setCell ?_ (by first | exact Nat.le_refl _ | (simp; done) | (simp; omega)) _ | with_reducible refine bal ?_ _ | with_reducible refine Below.alloc ?_ (by first | exact Nat.le_refl _ | (simp; done) | (simp; omega)) _ | with_reducible refine Below.drew ?_))))
            have RX2 := hide (RX.out.later hby)
            have HX3 := hide (HX2.out.later hby)
            have HB3 := hide (step HB2.out hby)
            clear ry
            generalize hw7 : (w6.alloc (.cells (encS (Sp.eY u1 u2 a7)).toArray 57)).drew = w7 at *
            have hw7' : (w6.alloc (.cells #[.int .i64 u1.a, .int .i64 u1.b, .int .i64 u1.c, .string u1.p, .int .i64 u2.a, .int .i64 u2.b, .int .i64 u2.c, .string u2.p, .bool a7, .bool false, .bool false] 57)).drew = w7 := hw7
            rw [hw7']
            generalize w6.heap.size = NY at *
            clear hw7 hw7' HX2 HB2 hby RX cX
            go_wp2_with fail
            have E7 := hide (HE.out.later HB3.out)
            have SX : Hid (SR w7 (some ⟨NX, 0, none⟩) 1 [Sp.eX u0 u1 a6] 1) := ⟨RX2.out, ⟨Sp.nm_one (Sp.cmp_lt _ _ H01.out), Sp.ok_l1 (Sp.ok_X a6 OK0.out OK1.out)⟩, by omega⟩
            have SY : Hid (SR w7 (some ⟨NY, 0, none⟩) 1 [Sp.eY u1 u2 a7] 1) := ⟨RY.out, ⟨Sp.nm_one (Sp.cmp_lt _ _ H12.out), Sp.ok_l1 (Sp.ok_Y a7 OK1.out OK2.out)⟩, by omega⟩
            clear RX2 RY
            cases a6 <;> cases a7
            · have hor := Sp.ends_or false false H01.out H12.out
              have HL := Sp.ends_and false false OK0.out OK1.out OK2.out H01.out H12.out
              refine (or2_sl w7 E7.out _ _ _ _ _ _ _ _ 1 1 SX.out SY.out (by omega) (by omega)).mono ?_
              rintro e w8 ⟨ao, no, co, rfl, r8, b8⟩
              have hfl : [[Sp.eX u0 u1 false], [Sp.eY u1 u2 false]].flatten = [Sp.eX u0 u1 false, Sp.eY u1 u2 false] := rfl
              rw [hfl, hor] at r8
              obtain rfl : no = 1 := r8.r.n.symm
              obtain ⟨g, off, rfl⟩ := r8.r.spot (by omega)
              have HB8 := hide (step HB3.out b8)
              have SX8 := hide (SX.out.later b8)
              have SY8 := hide (SY.out.later b8)
              have E8 := hide (HE.out.later HB8.out)
              have HL2 := hide HL
              have KX : ∀ w', RowKit.Below w8.heap.size w8 w' → ∀ j, w'.cell? ⟨N, j, none⟩ = (c3 u0 u1 u2)[j]? := fun w' h => (HX3.out.later (step b8 h)).c
              have KO := fun w' (h : RowKit.Below w8.heap.size w8 w') => ES_at (r8.r.later h) 0 (some (u0, false), some (u2, false)) rfl
              simp only [Nat.zero_mul, Nat.add_zero] at KO
              have o0 : ∀ w', RowKit.Below w8.heap.size w8 w' → w'.cell? ⟨g, off, none⟩ = some (.int .i64 u0.a) := fun w' h => (KO w' h).1
              have o1 : ∀ w', RowKit.Below w8.heap.size w8 w' → w'.cell? ⟨g, off + 1, none⟩ = some (.int .i64 u0.b) := fun w' h => (KO w' h).2.1
              have o2 : ∀ w', RowKit.Below w8.heap.size w8 w' → w'.cell? ⟨g, off + 2, none⟩ = some (.int .i64 u0.c) := fun w' h => (KO w' h).2.2.1
              have o3 : ∀ w', RowKit.Below w8.heap.size w8 w' → w'.cell? ⟨g, off + 3, none⟩ = some (.string u0.p) := fun w' h => (KO w' h).2.2.2.1
              have o4 : ∀ w', RowKit.Below w8.heap.size w8 w' → w'.cell? ⟨g, off + 4, none⟩ = some (.int .i64 u2.a) := fun w' h => (KO w' h).2.2.2.2.1
              have o5 : ∀ w', RowKit.Below w8.heap.size w8 w' → w'.cell? ⟨g, off + 5, none⟩ = some (.int .i64 u2.b) := fun w' h => (KO w' h).2.2.2.2.2.1
              have o6 : ∀ w', RowKit.Below w8.heap.size w8 w' → w'.cell? ⟨g, off + 6, none⟩ = some (.int .i64 u2.c) := fun w' h => (KO w' h).2.2.2.2.2.2.1
              have o7 : ∀ w', RowKit.Below w8.heap.size w8 w' → w'.cell? ⟨g, off + 7, none⟩ = some (.string u2.p) := fun w' h => (KO w' h).2.2.2.2.2.2.2.1
              have o8 : ∀ w', RowKit.Below w8.heap.size w8 w' → w'.cell? ⟨g, off + 8, none⟩ = some (.bool false) := fun w' h => (KO w' h).2.2.2.2.2.2.2.2.1
              have o9 : ∀ w', RowKit.Below w8.heap.size w8 w' → w'.cell? ⟨g, off + 9, none⟩ = some (.bool false) := fun w' h => (KO w' h).2.2.2.2.2.2.2.2.2.1
              have o10 : ∀ w', RowKit.Below w8.heap.size w8 w' → w'.cell? ⟨g, off + 10, none⟩ = some (.bool false) := fun w' h => (KO w' h).2.2.2.2.2.2.2.2.2.2
              clear KO
              have hB0 := RowKit.Below.refl w8.heap.size w8
              have CA8 : Hid (∀ W, RowKit.Below w8.heap.size w8 W → Calls Tryz.prog 16 #[.slice (some ⟨NX, 0, none⟩) 1 1, .slice (some ⟨NY, 0, none⟩) 1 1] W fun e w' => ∃ a2 c2, e = .returned (.slice a2 0 c2) ∧ RowKit.Below W.heap.size W w') := fun W hW =>
                (and_sl W (E8.out.later hW) _ _ _ _ 1 1 _ _ 1 1 (SX8.out.later hW) (SY8.out.later hW) (by omega) (by omega)).mono fun e w' ⟨a2, n2, c2, h1, h2, h3⟩ => ⟨a2, c2, by rw [h1, show n2 = 0 from h2.r.n.symm.trans HL2.out], h3⟩
              clear hor HL r8 b8 hfl SX SY HX3 HB3 E7 SX8 SY8 HL2 H01 H12 OK0 OK1 OK2
              go_wp2_with fail
              refine wp_region_noPanic ?_
              refine wp_region_held_drew (S := fun w' => RowKit.Below w8.heap.size w8 w') (by kernel_rfl) ?_ (fun hHeld => ?_)
              · exact (by repeat (first | with_reducible assumption | with_reducible exact Below.refl _ _ | with_reducible refine Below.setCell ?_ (by first | exact Nat.le_refl _ | (simp; done) | (simp; omega)) _ | with_reducible refine bal ?_ _ | with_reducible refine Below.alloc ?_ (by first | exact Nat.le_refl _ | (simp; done) | (simp; omega)) _ | with_reducible refine Below.drew ?_))
              refine wpAnyH_take (i := 0) (oi := ?o0) (v := ?v0) ?hi0 (by kernel_rfl) (by kernel_rfl) (by kernel_rfl) (fun _ _ _ h => h) (Or.inl ⟨?hw0, ?hy0⟩) (by assumption) ?rest0
              case hi0 => (simp only [List.getElem?_toArray, List.getElem?_cons_succ, List.getElem?_cons_zero]; rfl)
              case hw0 => rfl
              case hy0 => (intro w hSw; (try dsimp only at hSw); go_simp; try with_reducible rfl)
              simp only [Act.put, List.setIfInBounds_toArray, List.set_cons_zero, List.set_cons_succ]
              refine wpAnyH_take (i := 1) (oi := ?o1) (v := ?v1) ?hi1 (by kernel_rfl) (by kernel_rfl) (by kernel_rfl) (fun _ _ _ h => h) (Or.inl ⟨?hw1, ?hy1⟩) (by assumption) ?rest1
              case hi1 => (simp only [List.getElem?_toArray, List.getElem?_cons_succ, List.getElem?_cons_zero]; rfl)
              case hw1 => rfl
              case hy1 => (intro w hSw; (try dsimp only at hSw); go_simp; try with_reducible rfl)
              simp only [Act.put, List.setIfInBounds_toArray, List.set_cons_zero, List.set_cons_succ]
              refine wpAnyH_take (i := 2) (oi := ?o2) (v := ?v2) ?hi2 (by kernel_rfl) (by kernel_rfl) (by kernel_rfl) (fun _ _ _ h => h) (Or.inl ⟨?hw2, ?hy2⟩) (by assumption) ?rest2
              case hi2 => (simp only [List.getElem?_toArray, List.getElem?_cons_succ, List.getElem?_cons_zero]; rfl)
              case hw2 => rfl
              case hy2 => (intro w hSw; (try dsimp only at hSw); go_simp; try with_reducible rfl)
              simp only [Act.put, List.setIfInBounds_toArray, List.set_cons_zero, List.set_cons_succ]
              refine wpAnyH_take (i := 3) (oi := ?o3) (v := ?v3) ?hi3 (by kernel_rfl) (by kernel_rfl) (by kernel_rfl) (fun _ _ _ h => h) (Or.inl ⟨?hw3, ?hy3⟩) (by assumption) ?rest3
              case hi3 => (simp only [List.getElem?_toArray, List.getElem?_cons_succ, List.getElem?_cons_zero]; rfl)
              case hw3 => rfl
              case hy3 => (intro w hSw; (try dsimp only at hSw); go_simp; try with_reducible rfl)
              simp only [Act.put, List.setIfInBounds_toArray, List.set_cons_zero, List.set_cons_succ]
              refine wpAnyH_take (i := 4) (oi := ?o4) (v := ?v4) ?hi4 (by kernel_rfl) (by kernel_rfl) (by kernel_rfl) (fun _ _ _ h => h) (Or.inl ⟨?hw4, ?hy4⟩) (by assumption) ?rest4
              case hi4 => (simp only [List.getElem?_toArray, List.getElem?_cons_succ, List.getElem?_cons_zero]; rfl)
              case hw4 => rfl
              case hy4 => (intro w hSw; (try dsimp only at hSw); go_simp; try with_reducible rfl)
              simp only [Act.put, List.setIfInBounds_toArray, List.set_cons_zero, List.set_cons_succ]
              refine wpAnyH_take (i := 5) (oi := ?o5) (v := ?v5) ?hi5 (by kernel_rfl) (by kernel_rfl) (by kernel_rfl) (fun _ _ _ h => h) (Or.inl ⟨?hw5, ?hy5⟩) (by assumption) ?rest5
              case hi5 => (simp only [List.getElem?_toArray, List.getElem?_cons_succ, List.getElem?_cons_zero]; rfl)
              case hw5 => rfl
              case hy5 => (intro w hSw; (try dsimp only at hSw); go_simp; try with_reducible rfl)
              simp only [Act.put, List.setIfInBounds_toArray, List.set_cons_zero, List.set_cons_succ]
              refine wpAnyH_take (i := 6) (oi := ?o6) (v := ?v6) ?hi6 (by kernel_rfl) (by kernel_rfl) (by kernel_rfl) (fun _ _ _ h => h) (Or.inl ⟨?hw6, ?hy6⟩) (by assumption) ?rest6
              case hi6 => (simp only [List.getElem?_toArray, List.getElem?_cons_succ, List.getElem?_cons_zero]; rfl)
              case hw6 => rfl
              case hy6 => (intro w hSw; (try dsimp only at hSw); go_simp; try with_reducible rfl)
              simp only [Act.put, List.setIfInBounds_toArray, List.set_cons_zero, List.set_cons_succ]
              refine wpAnyH_take (i := 7) (oi := ?o7) (v := ?v7) ?hi7 (by kernel_rfl) (by kernel_rfl) (by kernel_rfl) (fun _ _ _ h => h) (Or.inl ⟨?hw7, ?hy7⟩) (by assumption) ?rest7
              case hi7 => (simp only [List.getElem?_toArray, List.getElem?_cons_succ, List.getElem?_cons_zero]; rfl)
              case hw7 => rfl
              case hy7 => (intro w hSw; (try dsimp only at hSw); go_simp; try with_reducible rfl)
              simp only [Act.put, List.setIfInBounds_toArray, List.set_cons_zero, List.set_cons_succ]
              refine wpAnyH_take (i := 8) (oi := ?o8) (v := ?v8) ?hi8 (by kernel_rfl) (by kernel_rfl) (by kernel_rfl) (fun _ _ _ h => h) (Or.inl ⟨?hw8, ?hy8⟩) (by assumption) ?rest8
              case hi8 => (simp only [List.getElem?_toArray, List.getElem?_cons_succ, List.getElem?_cons_zero]; rfl)
              case hw8 => rfl
              case hy8 => (intro w hSw; (try dsimp only at hSw); go_simp; try with_reducible rfl)
              simp only [Act.put, List.setIfInBounds_toArray, List.set_cons_zero, List.set_cons_succ]
              refine wpAnyH_take (i := 9) (oi := ?o9) (v := ?v9) ?hi9 (by kernel_rfl) (by kernel_rfl) (by kernel_rfl) (fun _ _ _ h => h) (Or.inl ⟨?hw9, ?hy9⟩) (by assumption) ?rest9
              case hi9 => (simp only [List.getElem?_toArray, List.getElem?_cons_succ, List.getElem?_cons_zero]; rfl)
              case hw9 => rfl
              case hy9 => (intro w hSw; (try dsimp only at hSw); go_simp; try with_reducible rfl)
              simp only [Act.put, List.setIfInBounds_toArray, List.set_cons_zero, List.set_cons_succ]
              refine wpAnyH_take (i := 10) (oi := ?o10) (v := ?v10) ?hi10 (by kernel_rfl) (by kernel_rfl) (by kernel_rfl) (fun _ _ _ h => h) (Or.inl ⟨?hw10, ?hy10⟩) (by assumption) ?rest10
              case hi10 => (simp only [List.getElem?_toArray, List.getElem?_cons_succ, List.getElem?_cons_zero]; rfl)
              case hw10 => rfl
              case hy10 => (intro w hSw; (try dsimp only at hSw); go_simp; try with_reducible rfl)
              simp only [Act.put, List.setIfInBounds_toArray, List.set_cons_zero, List.set_cons_succ]
              refine wpAnyH_take (i := 11) (oi := ?o11) (v := ?v11) ?hi11 (by kernel_rfl) (by kernel_rfl) (by kernel_rfl) (fun _ _ _ h => h) (Or.inl ⟨?hw11, ?hy11⟩) (by assumption) ?rest11
              case hi11 => (simp only [List.getElem?_toArray, List.getElem?_cons_succ, List.getElem?_cons_zero]; rfl)
              case hw11 => rfl
              case hy11 => (intro w hSw; (try dsimp only at hSw); go_simp; try with_reducible rfl)
              simp only [Act.put, List.setIfInBounds_toArray, List.set_cons_zero, List.set_cons_succ]
              refine wpAnyH_take (i := 12) (oi := ?o12) (v := ?v12) ?hi12 (by kernel_rfl) (by kernel_rfl) (by kernel_rfl) (fun _ _ _ h => h) (Or.inl ⟨?hw12, ?hy12⟩) (by assumption) ?rest12
              case hi12 => (simp only [List.getElem?_toArray, List.getElem?_cons_succ, List.getElem?_cons_zero]; rfl)
              case hw12 => rfl
              case hy12 => (intro w hSw; (try dsimp only at hSw); go_simp; try with_reducible rfl)
              simp only [Act.put, List.setIfInBounds_toArray, List.set_cons_zero, List.set_cons_succ]
              refine wpAnyH_take (i := 13) (oi := ?o13) (v := ?v13) ?hi13 (by kernel_rfl) (by kernel_rfl) (by kernel_rfl) (fun _ _ _ h => h) (Or.inl ⟨?hw13, ?hy13⟩) (by assumption) ?rest13
              case hi13 => (simp only [List.getElem?_toArray, List.getElem?_cons_succ, List.getElem?_cons_zero]; rfl)
              case hw13 => rfl
              case hy13 => (intro w hSw; (try dsimp only at hSw); go_simp; try with_reducible rfl)
              simp only [Act.put, List.setIfInBounds_toArray, List.set_cons_zero, List.set_cons_succ]
              refine wpAnyH_take (i := 14) (oi := ?o14) (v := ?v14) ?hi14 (by kernel_rfl) (by kernel_rfl) (by kernel_rfl) (fun _ _ _ h => h) (Or.inl ⟨?hw14, ?hy14⟩) (by assumption) ?rest14
              case hi14 => (simp only [List.getElem?_toArray, List.getElem?_cons_succ, List.getElem?_cons_zero]; rfl)
              case hw14 => rfl
              case hy14 => (intro w hSw; (try dsimp only at hSw); go_simp; try with_reducible rfl)
              simp only [Act.put, List.setIfInBounds_toArray, List.set_cons_zero, List.set_cons_succ]
              refine wpAnyH_take (i := 15) (oi := ?o15) (v := ?v15) ?hi15 (by kernel_rfl) (by kernel_rfl) (by kernel_rfl) (fun _ _ _ h => h) (Or.inl ⟨?hw15, ?hy15⟩) (by assumption) ?rest15
              case hi15 => (simp only [List.getElem?_toArray, List.getElem?_cons_succ, List.getElem?_cons_zero]; rfl)
              case hw15 => rfl
              case hy15 => (intro w hSw; (try dsimp only at hSw); go_simp; try with_reducible rfl)
              simp only [Act.put, List.setIfInBounds_toArray, List.set_cons_zero, List.set_cons_succ]
              refine wpAnyH_take (i := 16) (oi := ?o16) (v := ?v16) ?hi16 (by kernel_rfl) (by kernel_rfl) (by kernel_rfl) (fun _ _ _ h => h) (Or.inl ⟨?hw16, ?hy16⟩) (by assumption) ?rest16
              case hi16 => (simp only [List.getElem?_toArray, List.getElem?_cons_succ, List.getElem?_cons_zero]; rfl)
              case hw16 => rfl
              case hy16 => (intro w hSw; (try dsimp only at hSw); go_simp; try with_reducible rfl)
              simp only [Act.put, List.setIfInBounds_toArray, List.set_cons_zero, List.set_cons_succ]
              refine wpAnyH_take (i := 17) (oi := ?o17) (v := ?v17) ?hi17 (by kernel_rfl) (by kernel_rfl) (by kernel_rfl) (fun _ _ _ h => h) (Or.inl ⟨?hw17, ?hy17⟩) (by assumption) ?rest17
              case hi17 => (simp only [List.getElem?_toArray, List.getElem?_cons_succ, List.getElem?_cons_zero]; rfl)
              case hw17 => rfl
              case hy17 => (intro w hSw; (try dsimp only at hSw); go_simp; try with_reducible rfl)
              simp only [Act.put, List.setIfInBounds_toArray, List.set_cons_zero, List.set_cons_succ]
              refine wpAnyH_take (i := 18) (oi := ?o18) (v := ?v18) ?hi18 (by kernel_rfl) (by kernel_rfl) (by kernel_rfl) (fun _ _ _ h => h) (Or.inl ⟨?hw18, ?hy18⟩) (by assumption) ?rest18
              case hi18 => (simp only [List.getElem?_toArray, List.getElem?_cons_succ, List.getElem?_cons_zero]; rfl)
              case hw18 => rfl
              case hy18 => (intro w hSw; (try dsimp only at hSw); go_simp; try with_reducible rfl)
              simp only [Act.put, List.setIfInBounds_toArray, List.set_cons_zero, List.set_cons_succ]
              refine wpAnyH_take (i := 22) (oi := ?o22) (v := ?v22) ?hi22 (by kernel_rfl) (by kernel_rfl) (by kernel_rfl) (fun _ _ _ h => h) (Or.inl ⟨?hw22, ?hy22⟩) (by assumption) ?rest22
              case hi22 => (simp only [List.getElem?_toArray, List.getElem?_cons_succ, List.getElem?_cons_zero]; rfl)
              case hw22 => rfl
              case hy22 => (intro w hSw; (try dsimp only at hSw); go_simp; try with_reducible rfl)
              simp only [Act.put, List.setIfInBounds_toArray, List.set_cons_zero, List.set_cons_succ]
              refine wpAnyH_ready (rs := [19]) (by kernel_rfl) (by simp) ?_
              refine AllReadyH.cons (o := ?o19) ?hi19 (fun K hK => ?_) AllReadyH.nil
              case hi19 => (simp only [List.getElem?_toArray, List.getElem?_cons_succ, List.getElem?_cons_zero]; rfl)
              go_simp
              go_at_call 16
              refine (CA8.out _ (by first | assumption | exact (by repeat (first | with_reducible assumption | with_reducible exact Below.refl _ _ | with_reducible refine Below.setCell ?_ (by first | exact Nat.le_refl _ | (simp; done) | (simp; omega)) _ | with_reducible refine bal ?_ _ | with_reducible refine Below.alloc ?_ (by first | exact Nat.le_refl _ | (simp; done) | (simp; omega)) _ | with_reducible refine Below.drew ?_)))).mono ?_
              rintro e w9 ⟨aa, ca, rfl, b9⟩
              have b9 : RowKit.Below w8.heap.size w8 w9 := (by refine Below.trans ?_ (Below.mono b9 ?_); rotate_left; exact Below.size (by with_reducible assumption); with_reducible assumption)
              go_wp2_with fail
              refine hK.out _ _ b9 (fun hHeld => ?_)
              clear hK K
              try simp only [Act.put, List.setIfInBounds_toArray, List.set_cons_zero, List.set_cons_succ]
              refine wpAnyH_take (i := 20) (oi := ?o20) (v := ?v20) ?hi20 (by kernel_rfl) (by kernel_rfl) (by kernel_rfl) (fun _ _ _ h => h) (Or.inl ⟨?hw20, ?hy20⟩) (by assumption) ?rest20
              case hi20 => (simp only [List.getElem?_toArray, List.getElem?_cons_succ, List.getElem?_cons_zero]; rfl)
              case hw20 => rfl
              case hy20 => (intro w hSw; (try dsimp only at hSw); go_simp; try with_reducible rfl)
              simp only [Act.put, List.setIfInBounds_toArray, List.set_cons_zero, List.set_cons_succ]
              refine wpAnyH_take (i := 21) (oi := ?o21) (v := ?v21) ?hi21 (by kernel_rfl) (by kernel_rfl) (by kernel_rfl) (fun _ _ _ h => h) (Or.inl ⟨?hw21, ?hy21⟩) (by assumption) ?rest21
              case hi21 => (simp only [List.getElem?_toArray, List.getElem?_cons_succ, List.getElem?_cons_zero]; rfl)
              case hw21 => rfl
              case hy21 => (intro w hSw; (try dsimp only at hSw); go_simp; try with_reducible rfl)
              simp only [Act.put, List.setIfInBounds_toArray, List.set_cons_zero, List.set_cons_succ]
              refine wpAnyH_take (i := 23) (oi := ?o23) (v := ?v23) ?hi23 (by kernel_rfl) (by kernel_rfl) (by kernel_rfl) (fun _ _ _ h => h) (Or.inl ⟨?hw23, ?hy23⟩) (by assumption) ?rest23
              case hi23 => (simp only [List.getElem?_toArray, List.getElem?_cons_succ, List.getElem?_cons_zero]; rfl)
              case hw23 => rfl
              case hy23 => (intro w hSw; (try dsimp only at hSw); go_simp; try with_reducible rfl)
              simp only [Act.put, List.setIfInBounds_toArray, List.set_cons_zero, List.set_cons_succ]
              refine wpAnyH_take (i := 24) (oi := ?o24) (v := undef) ?hi24 (by kernel_rfl) (by kernel_rfl) (by kernel_rfl) (fun _ _ _ h => h) (Or.inr ⟨?hw24, rfl⟩) (by assumption) ?rest24
              case hi24 => (simp only [List.getElem?_toArray, List.getElem?_cons_succ, List.getElem?_cons_zero]; rfl)
              case hw24 => rfl
              simp only [Act.put, List.setIfInBounds_toArray, List.set_cons_zero, List.set_cons_succ]
              refine wpAnyH_take (i := 25) (oi := ?o25) (v := undef) ?hi25 (by kernel_rfl) (by kernel_rfl) (by kernel_rfl) (fun _ _ _ h => h) (Or.inr ⟨?hw25, rfl⟩) (by assumption) ?rest25
              case hi25 => (simp only [List.getElem?_toArray, List.getElem?_cons_succ, List.getElem?_cons_zero]; rfl)
              case hw25 => rfl
              simp only [Act.put, List.setIfInBounds_toArray, List.set_cons_zero, List.set_cons_succ]
              refine wpAnyH_take (i := 26) (oi := ?o26) (v := ?v26) ?hi26 (by kernel_rfl) (by kernel_rfl) (by kernel_rfl) (fun _ _ _ h => h) (Or.inl ⟨?hw26, ?hy26⟩) (by assumption) ?rest26
              case hi26 => (simp only [List.getElem?_toArray, List.getElem?_cons_succ, List.getElem?_cons_zero]; rfl)
              case hw26 => rfl
              case hy26 => (intro w hSw; (try dsimp only at hSw); go_simp; try with_reducible rfl)
              simp only [Act.put, List.setIfInBounds_toArray, List.set_cons_zero, List.set_cons_succ]
              refine wpAnyH_take (i := 27) (oi := ?o27) (v := ?v27) ?hi27 (by kernel_rfl) (by kernel_rfl) (by kernel_rfl) (fun _ _ _ h => h) (Or.inl ⟨?hw27, ?hy27⟩) (by assumption) ?rest27
              case hi27 => (simp only [List.getElem?_toArray, List.getElem?_cons_succ, List.getElem?_cons_zero]; rfl)
              case hw27 => rfl
              case hy27 => (intro w hSw; (try dsimp only at hSw); go_simp; try with_reducible rfl)
              simp only [Act.put, List.setIfInBounds_toArray, List.set_cons_zero, List.set_cons_succ]
              refine wpAnyH_take (i := 28) (oi := ?o28) (v := ?v28) ?hi28 (by kernel_rfl) (by kernel_rfl) (by kernel_rfl) (fun _ _ _ h => h) (Or.inl ⟨?hw28, ?hy28⟩) (by assumption) ?rest28
              case hi28 => (simp only [List.getElem?_toArray, List.getElem?_cons_succ, List.getElem?_cons_zero]; rfl)
              case hw28 => rfl
              case hy28 => (intro w hSw; (try dsimp only at hSw); go_simp; try with_reducible rfl)
              simp only [Act.put, List.setIfInBounds_toArray, List.set_cons_zero, List.set_cons_succ]
              refine wpAnyH_take (i := 29) (oi := ?o29) (v := ?v29) ?hi29 (by kernel_rfl) (by kernel_rfl) (by kernel_rfl) (fun _ _ _ h => h) (Or.inl ⟨?hw29, ?hy29⟩) (by assumption) ?rest29
              case hi29 => (simp only [List.getElem?_toArray, List.getElem?_cons_succ, List.getElem?_cons_zero]; rfl)
              case hw29 => rfl
              case hy29 => (intro w hSw; (try dsimp only at hSw); go_simp; try with_reducible rfl)
              simp only [Act.put, List.setIfInBounds_toArray, List.set_cons_zero, List.set_cons_succ]
              refine wpAnyH_done (by kernel_rfl) ?_ _
              refine NoPanic.normal ?_
              go_wp2_with fail
              go_ret
              exact ⟨rfl, HB8.out.trans (b9.mono HB8.out.size)⟩
            · have hor := Sp.ends_or false true H01.out H12.out
              have HL := Sp.ends_and false true OK0.out OK1.out OK2.out H01.out H12.out
              refine (or2_sl w7 E7.out _ _ _ _ _ _ _ _ 1 1 SX.out SY.out (by omega) (by omega)).mono ?_
              rintro e w8 ⟨ao, no, co, rfl, r8, b8⟩
              have hfl : [[Sp.eX u0 u1 false], [Sp.eY u1 u2 true]].flatten = [Sp.eX u0 u1 false, Sp.eY u1 u2 true] := rfl
              rw [hfl, hor] at r8
              obtain rfl : no = 2 := r8.r.n.symm
              have HB8 := hide (step HB3.out b8)
              have SX8 := hide (SX.out.later b8)
              have SY8 := hide (SY.out.later b8)
              have E8 := hide (HE.out.later HB8.out)
              have R8 := hide r8
              have HX8 := hide (HX3.out.later b8)
              have HL2 := hide HL
              have HH := hide (ends_has (u2 := u2) H01.out)
              clear hor HL r8 b8 hfl SX SY HX3 HB3 E7
              go_wp2_with fail
              refine (and_sl _ E8.out _ _ _ _ _ _ _ _ 1 1 SX8.out SY8.out (by omega) (by omega)).mono ?_
              rintro e w9 ⟨aa, na, ca, rfl, r9, b9⟩
              obtain rfl : na = 0 := r9.r.n.symm.trans HL2.out
              have cX := (HX8.out.later b9).c
              have CHs : Hid (Calls Tryz.prog 24 #[.slice ao 2 co, ver u1.a u1.b u1.c u1.p] w9 fun e w' => e = .returned (.bool false) ∧ RowKit.Below w9.heap.size w9 w') := by
                have h := has_any ao 2 co [Sp.eX u0 u1 false, Sp.eY u1 u2 true] u1 w9 (R8.out.later b9).r (by omega) R8.out.row.ok OK1.out (E8.out.later b9)
                rw [HH.out] at h
                exact h
              have HB9 := hide (step HB8.out b9)
              clear r9 b9 HX8 R8
              go_wp2_with fail
              refine CHs.out.mono ?_
              rintro e w10 ⟨rfl, b10⟩
              go_wp2_with fail
              go_ret
              exact ⟨rfl, step HB9.out b10⟩
            · have hor := Sp.ends_or true false H01.out H12.out
              have HL := Sp.ends_and true false OK0.out OK1.out OK2.out H01.out H12.out
              refine (or2_sl w7 E7.out _ _ _ _ _ _ _ _ 1 1 SX.out SY.out (by omega) (by omega)).mono ?_
              rintro e w8 ⟨ao, no, co, rfl, r8, b8⟩
              have hfl : [[Sp.eX u0 u1 true], [Sp.eY u1 u2 false]].flatten = [Sp.eX u0 u1 true, Sp.eY u1 u2 false] := rfl
              rw [hfl, hor] at r8
              obtain rfl : no = 1 := r8.r.n.symm
              obtain ⟨g, off, rfl⟩ := r8.r.spot (by omega)
              have HB8 := hide (step HB3.out b8)
              have SX8 := hide (SX.out.later b8)
              have SY8 := hide (SY.out.later b8)
              have E8 := hide (HE.out.later HB8.out)
              have HL2 := hide HL
              have KX : ∀ w', RowKit.Below w8.heap.size w8 w' → ∀ j, w'.cell? ⟨N, j, none⟩ = (c3 u0 u1 u2)[j]? := fun w' h => (HX3.out.later (step b8 h)).c
              have KO := fun w' (h : RowKit.Below w8.heap.size w8 w') => ES_at (r8.r.later h) 0 (some (u0, false), some (u2, false)) rfl
              simp only [Nat.zero_mul, Nat.add_zero] at KO
              have o0 : ∀ w', RowKit.Below w8.heap.size w8 w' → w'.cell? ⟨g, off, none⟩ = some (.int .i64 u0.a) := fun w' h => (KO w' h).1
              have o1 : ∀ w', RowKit.Below w8.heap.size w8 w' → w'.cell? ⟨g, off + 1, none⟩ = some (.int .i64 u0.b) := fun w' h => (KO w' h).2.1
              have o2 : ∀ w', RowKit.Below w8.heap.size w8 w' → w'.cell? ⟨g, off + 2, none⟩ = some (.int .i64 u0.c) := fun w' h => (KO w' h).2.2.1
              have o3 : ∀ w', RowKit.Below w8.heap.size w8 w' → w'.cell? ⟨g, off + 3, none⟩ = some (.string u0.p) := fun w' h => (KO w' h).2.2.2.1
              have o4 : ∀ w', RowKit.Below w8.heap.size w8 w' → w'.cell? ⟨g, off + 4, none⟩ = some (.int .i64 u2.a) := fun w' h => (KO w' h).2.2.2.2.1
              have o5 : ∀ w', RowKit.Below w8.heap.size w8 w' → w'.cell? ⟨g, off + 5, none⟩ = some (.int .i64 u2.b) := fun w' h => (KO w' h).2.2.2.2.2.1
              have o6 : ∀ w', RowKit.Below w8.heap.size w8 w' → w'.cell? ⟨g, off + 6, none⟩ = some (.int .i64 u2.c) := fun w' h => (KO w' h).2.2.2.2.2.2.1
              have o7 : ∀ w', RowKit.Below w8.heap.size w8 w' → w'.cell? ⟨g, off + 7, none⟩ = some (.string u2.p) := fun w' h => (KO w' h).2.2.2.2.2.2.2.1
              have o8 : ∀ w', RowKit.Below w8.heap.size w8 w' → w'.cell? ⟨g, off + 8, none⟩ = some (.bool false) := fun w' h => (KO w' h).2.2.2.2.2.2.2.2.1
              have o9 : ∀ w', RowKit.Below w8.heap.size w8 w' → w'.cell? ⟨g, off + 9, none⟩ = some (.bool false) := fun w' h => (KO w' h).2.2.2.2.2.2.2.2.2.1
              have o10 : ∀ w', RowKit.Below w8.heap.size w8 w' → w'.cell? ⟨g, off + 10, none⟩ = some (.bool false) := fun w' h => (KO w' h).2.2.2.2.2.2.2.2.2.2
              clear KO
              have hB0 := RowKit.Below.refl w8.heap.size w8
              have hB0 := RowKit.Below.refl w8.heap.size w8
              have CA8 : Hid (∀ W, RowKit.Below w8.heap.size w8 W → Calls Tryz.prog 16 #[.slice (some ⟨NX, 0, none⟩) 1 1, .slice (some ⟨NY, 0, none⟩) 1 1] W fun e w' => ∃ a2 c2, e = .returned (.slice a2 1 c2) ∧ RowKit.Below W.heap.size W w') := fun W hW =>
                (and_sl W (E8.out.later hW) _ _ _ _ 1 1 _ _ 1 1 (SX8.out.later hW) (SY8.out.later hW) (by omega) (by omega)).mono fun e w' ⟨a2, n2, c2, h1, h2, h3⟩ => ⟨a2, c2, by rw [h1, show n2 = 1 from h2.r.n.symm.trans HL2.out], h3⟩
              clear hor HL r8 b8 hfl SX SY HX3 HB3 E7 SX8 SY8 HL2 H01 H12 OK0 OK1 OK2
              go_wp2_with fail
              go_region_held3 (fun w' => RowKit.Below w8.heap.size w8 w') (first | assumption | exact (by repeat (first | with_reducible assumption | with_reducible exact Below.refl _ _ | with_reducible refine Below.setCell ?_ (by first | exact Nat.le_refl _ | (simp; done) | (simp; omega)) _ | with_reducible refine bal ?_ _ | with_reducible refine Below.alloc ?_ (by first | exact Nat.le_refl _ | (simp; done) | (simp; omega)) _ | with_reducible refine Below.drew ?_))) (first
                | (go_at_call 16; refine (CA8.out _ (by first | assumption | exact (by repeat (first | with_reducible assumption | with_reducible exact Below.refl _ _ | with_reducible refine Below.setCell ?_ (by first | exact Nat.le_refl _ | (simp; done) | (simp; omega)) _ | with_reducible refine bal ?_ _ | with_reducible refine Below.alloc ?_ (by first | exact Nat.le_refl _ | (simp; done) | (simp; omega)) _ | with_reducible refine Below.drew ?_)))).mono ?_; rintro e w9 ⟨aa, ca, rfl, b9⟩; have b9 : RowKit.Below w8.heap.size w8 w9 := (by refine Below.trans ?_ (Below.mono b9 ?_); rotate_left; exact Below.size (by with_reducible assumption); with_reducible assumption)))
              rename_i hHeld
              go_wp2_with fail
              go_ret
              exact ⟨rfl, HB8.out.trans (hHeld.mono HB8.out.size)⟩
            · have hor := Sp.ends_or true true H01.out H12.out
              have HL := Sp.ends_and true true OK0.out OK1.out OK2.out H01.out H12.out
              refine (or2_sl w7 E7.out _ _ _ _ _ _ _ _ 1 1 SX.out SY.out (by omega) (by omega)).mono ?_
              rintro e w8 ⟨ao, no, co, rfl, r8, b8⟩
              have hfl : [[Sp.eX u0 u1 true], [Sp.eY u1 u2 true]].flatten = [Sp.eX u0 u1 true, Sp.eY u1 u2 true] := rfl
              rw [hfl, hor] at r8
              obtain rfl : no = 1 := r8.r.n.symm
              obtain ⟨g, off, rfl⟩ := r8.r.spot (by omega)
              have HB8 := hide (step HB3.out b8)
              have SX8 := hide (SX.out.later b8)
              have SY8 := hide (SY.out.later b8)
              have E8 := hide (HE.out.later HB8.out)
              have HL2 := hide HL
              have KX : ∀ w', RowKit.Below w8.heap.size w8 w' → ∀ j, w'.cell? ⟨N, j, none⟩ = (c3 u0 u1 u2)[j]? := fun w' h => (HX3.out.later (step b8 h)).c
              have KO := fun w' (h : RowKit.Below w8.heap.size w8 w') => ES_at (r8.r.later h) 0 (some (u0, false), some (u2, false)) rfl
              simp only [Nat.zero_mul, Nat.add_zero] at KO
              have o0 : ∀ w', RowKit.Below w8.heap.size w8 w' → w'.cell? ⟨g, off, none⟩ = some (.int .i64 u0.a) := fun w' h => (KO w' h).1
              have o1 : ∀ w', RowKit.Below w8.heap.size w8 w' → w'.cell? ⟨g, off + 1, none⟩ = some (.int .i64 u0.b) := fun w' h => (KO w' h).2.1
              have o2 : ∀ w', RowKit.Below w8.heap.size w8 w' → w'.cell? ⟨g, off + 2, none⟩ = some (.int .i64 u0.c) := fun w' h => (KO w' h).2.2.1
              have o3 : ∀ w', RowKit.Below w8.heap.size w8 w' → w'.cell? ⟨g, off + 3, none⟩ = some (.string u0.p) := fun w' h => (KO w' h).2.2.2.1
              have o4 : ∀ w', RowKit.Below w8.heap.size w8 w' → w'.cell? ⟨g, off + 4, none⟩ = some (.int .i64 u2.a) := fun w' h => (KO w' h).2.2.2.2.1
              have o5 : ∀ w', RowKit.Below w8.heap.size w8 w' → w'.cell? ⟨g, off + 5, none⟩ = some (.int .i64 u2.b) := fun w' h => (KO w' h).2.2.2.2.2.1
              have o6 : ∀ w', RowKit.Below w8.heap.size w8 w' → w'.cell? ⟨g, off + 6, none⟩ = some (.int .i64 u2.c) := fun w' h => (KO w' h).2.2.2.2.2.2.1
              have o7 : ∀ w', RowKit.Below w8.heap.size w8 w' → w'.cell? ⟨g, off + 7, none⟩ = some (.string u2.p) := fun w' h => (KO w' h).2.2.2.2.2.2.2.1
              have o8 : ∀ w', RowKit.Below w8.heap.size w8 w' → w'.cell? ⟨g, off + 8, none⟩ = some (.bool false) := fun w' h => (KO w' h).2.2.2.2.2.2.2.2.1
              have o9 : ∀ w', RowKit.Below w8.heap.size w8 w' → w'.cell? ⟨g, off + 9, none⟩ = some (.bool false) := fun w' h => (KO w' h).2.2.2.2.2.2.2.2.2.1
              have o10 : ∀ w', RowKit.Below w8.heap.size w8 w' → w'.cell? ⟨g, off + 10, none⟩ = some (.bool false) := fun w' h => (KO w' h).2.2.2.2.2.2.2.2.2.2
              clear KO
              have hB0 := RowKit.Below.refl w8.heap.size w8
              have hB0 := RowKit.Below.refl w8.heap.size w8
              have CA8 : Hid (∀ W, RowKit.Below w8.heap.size w8 W → Calls Tryz.prog 16 #[.slice (some ⟨NX, 0, none⟩) 1 1, .slice (some ⟨NY, 0, none⟩) 1 1] W fun e w' => ∃ a2 c2, e = .returned (.slice a2 0 c2) ∧ RowKit.Below W.heap.size W w') := fun W hW =>
                (and_sl W (E8.out.later hW) _ _ _ _ 1 1 _ _ 1 1 (SX8.out.later hW) (SY8.out.later hW) (by omega) (by omega)).mono fun e w' ⟨a2, n2, c2, h1, h2, h3⟩ => ⟨a2, c2, by rw [h1, show n2 = 0 from h2.r.n.symm.trans HL2.out], h3⟩
              clear hor HL r8 b8 hfl SX SY HX3 HB3 E7 SX8 SY8 HL2 H01 H12 OK0 OK1 OK2
              go_wp2_with fail
              go_region_held3 (fun w' => RowKit.Below w8.heap.size w8 w') (first | assumption | exact (by repeat (first | with_reducible assumption | with_reducible exact Below.refl _ _ | with_reducible refine Below.setCell ?_ (by first | exact Nat.le_refl _ | (simp; done) | (simp; omega)) _ | with_reducible refine bal ?_ _ | with_reducible refine Below.alloc ?_ (by first | exact Nat.le_refl _ | (simp; done) | (simp; omega)) _ | with_reducible refine Below.drew ?_))) (first
                | (go_at_call 16; refine (CA8.out _ (by first | assumption | exact (by repeat (first | with_reducible assumption | with_reducible exact Below.refl _ _ | with_reducible refine Below.setCell ?_ (by first | exact Nat.le_refl _ | (simp; done) | (simp; omega)) _ | with_reducible refine bal ?_ _ | with_reducible refine Below.alloc ?_ (by first | exact Nat.le_refl _ | (simp; done) | (simp; omega)) _ | with_reducible refine Below.drew ?_)))).mono ?_; rintro e w9 ⟨aa, ca, rfl, b9⟩; have b9 : RowKit.Below w8.heap.size w8 w9 := (by refine Below.trans ?_ (Below.mono b9 ?_); rotate_left; exact Below.size (by with_reducible assumption); with_reducible assumption)))
              rename_i hHeld
              go_wp2_with fail
              go_ret
              exact ⟨rfl, HB8.out.trans (hHeld.mono HB8.out.size)⟩
end Go.Proofs.YtohnlhfgajipgaaGreatDoor.spanEnds

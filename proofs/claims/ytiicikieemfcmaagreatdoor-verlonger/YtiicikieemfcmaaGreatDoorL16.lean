/-
  The walk of VerLonger.
-/
import Derived.Test.YtiicikieemfcmaaGreatDoorU18
import Derived.Test.YtiicikieemfcmaaGreatDoorM15
namespace Go.Proofs.YtiicikieemfcmaaGreatDoor.verLonger
set_option linter.unusedSimpArgs false
set_option linter.unusedVariables false
open Go.RowKit Go.Vr Go.Sort Go.Tx Go.Lib
attribute [local go_sem] setCellDrewN allocDrewN

theorem three (w : World) (x y z : ByteArray) : ∀ j, j < 3 → (w.alloc (.cells #[.string x, .string y, .string z] 9)).cell? ⟨w.heap.size, j, none⟩ = some (.string ([x, y, z].getD j ⟨#[]⟩)) := by
  intro j hj
  have : j = 0 ∨ j = 1 ∨ j = 2 := by omega
  rcases this with rfl | rfl | rfl <;> simp [go_sem]
theorem w_fact : ∀ j, j < 3 → preOk (([⟨#[48]⟩, ⟨#[122, 122]⟩, ⟨#[114, 99, 46, 49]⟩] : List ByteArray).getD j ⟨#[]⟩).data.toList = true ∧ (([⟨#[48]⟩, ⟨#[122, 122]⟩, ⟨#[114, 99, 46, 49]⟩] : List ByteArray).getD j ⟨#[]⟩).data.toList ≠ [] := by
  have h : ((List.range 3).all fun j => preOk (([⟨#[48]⟩, ⟨#[122, 122]⟩, ⟨#[114, 99, 46, 49]⟩] : List ByteArray).getD j ⟨#[]⟩).data.toList && decide ((([⟨#[48]⟩, ⟨#[122, 122]⟩, ⟨#[114, 99, 46, 49]⟩] : List ByteArray).getD j ⟨#[]⟩).data.toList ≠ [])) = true := by decide +kernel
  intro j hj
  have := List.all_eq_true.1 h j (List.mem_range.2 hj)
  rw [Bool.and_eq_true] at this
  exact ⟨this.1, of_decide_eq_true this.2⟩
theorem x_fact : ∀ j, j < 3 → (([⟨#[48]⟩, ⟨#[97]⟩, ⟨#[45]⟩] : List ByteArray).getD j ⟨#[]⟩).size = 1 := by
  intro j hj
  have : j = 0 ∨ j = 1 ∨ j = 2 := by omega
  rcases this with rfl | rfl | rfl <;> rfl
theorem ok_pre {a b c : Int} {p q : ByteArray} (h : (V.mk a b c p).ok = true) (hq : preOk q.data.toList = true) : (V.mk a b c q).ok = true := by
  unfold V.ok verOk at h ⊢
  simp only [Bool.and_eq_true] at h ⊢
  exact ⟨h.1, hq⟩

set_option maxHeartbeats 4000000 in
set_option maxRecDepth 100000 in
theorem walk (a0 a1 a2 : Int) (w : World) (he : Env w) (h0 : -9223372036854775808 ≤ a0 ∧ a0 ≤ 9223372036854775807) (h1 : -9223372036854775808 ≤ a1 ∧ a1 ≤ 9223372036854775807) (h2 : -9223372036854775808 ≤ a2 ∧ a2 ≤ 9223372036854775807) :
    Calls Tryz.prog 12 #[.int .i64 a0, .int .i64 a1, .int .i64 a2] w fun e w' => e = .returned (.bool true) ∧ Below w.heap.size w w' := by
  have HE := hide he
  clear he
  go_enter Tryz.func12, Tryz.ntmps12
  go_wp2_with fail
  refine (known_any w HE.out).mono ?_
  rintro e w1 ⟨rfl, b1⟩
  go_wp2_with fail
  refine (make_any a0 a1 w1 h0 h1).mono ?_
  rintro e w2 ⟨v, rfl, hv, b2⟩
  have hB2 := step b1 b2
  clear h0 h1 b1 b2
  have hz := ok_size hv
  obtain ⟨a, b, c, p⟩ := v
  have HV := hide hv
  clear hv
  have hz : p.size ≤ 40 := hz
  have ba2 : Below w2.heap.size w2 (w2.alloc (.cells #[.int .i64 a, .int .i64 b, .int .i64 c, .string p] 24)) := (Below.refl _ _).alloc (Nat.le_refl _) _
  have V2 := VarAt.new w2 ⟨a, b, c, p⟩
  have z2 : (w2.alloc (.cells #[.int .i64 a, .int .i64 b, .int .i64 c, .string p] 24)).heap.size = w2.heap.size + 1 := by simp
  have ba3 : Below (w2.heap.size + 1) (w2.alloc (.cells #[.int .i64 a, .int .i64 b, .int .i64 c, .string p] 24)) ((w2.alloc (.cells #[.int .i64 a, .int .i64 b, .int .i64 c, .string p] 24)).alloc (.cells #[.int .i64 a, .int .i64 b, .int .i64 c, .string p] 24)) := by
    have := (Below.refl _ (w2.alloc (.cells #[.int .i64 a, .int .i64 b, .int .i64 c, .string p] 24))).alloc (Nat.le_refl _) (.cells #[.int .i64 a, .int .i64 b, .int .i64 c, .string p] 24)
    rw [z2] at this; exact this
  have V3 := V2.later (by rw [z2]; exact ba3)
  have W3 := VarAt.new (w2.alloc (.cells #[.int .i64 a, .int .i64 b, .int .i64 c, .string p] 24)) ⟨a, b, c, p⟩
  rw [z2] at W3
  have hB3 := hB2.trans (ba2.mono hB2.size)
  have hB4 := hB3.trans (ba3.mono (by have := hB2.size; omega))
  have hN : (0 : Nat) ≤ w2.heap.size := by omega
  have hNw : w.heap.size ≤ w2.heap.size := hB2.size
  have z3 : ((w2.alloc (.cells #[.int .i64 a, .int .i64 b, .int .i64 c, .string p] 24)).alloc (.cells #[.int .i64 a, .int .i64 b, .int .i64 c, .string p] 24)).heap.size = w2.heap.size + 1 + 1 := by simp
  clear V2 ba2 ba3 z2 hB3 hB2
  by_cases hp0 : p.size = 0
  · have he0 : p.toList.isEmpty = true := by rw [empty_eq]; simpa using hp0
    obtain rfl : p = ⟨#[]⟩ := by refine ba_ext ?_; exact List.eq_nil_of_length_eq_zero (by rw [len_eq]; exact hp0)
    go_wp2_with fail
    generalize (w2.alloc (.cells #[.int .i64 a, .int .i64 b, .int .i64 c, .string ⟨#[]⟩] 24)).alloc (.cells #[.int .i64 a, .int .i64 b, .int .i64 c, .string ⟨#[]⟩] 24) = w4 at *
    have hc := hide (three w4 ⟨#[48]⟩ ⟨#[122, 122]⟩ ⟨#[114, 99, 46, 49]⟩)
    have ba4 : Below w4.heap.size w4 (w4.alloc (.cells #[.string ⟨#[48]⟩, .string ⟨#[122, 122]⟩, .string ⟨#[114, 99, 46, 49]⟩] 9)) := (Below.refl _ _).alloc (Nat.le_refl _) _
    have V5 := hide (V3.later ba4)
    have W5 := hide (W3.later ba4)
    have hB5 := step hB4 ba4
    rw [z3] at hc
    generalize w4.alloc (.cells #[.string ⟨#[48]⟩, .string ⟨#[122, 122]⟩, .string ⟨#[114, 99, 46, 49]⟩] 9) = w5 at *
    clear V3 W3 ba4 hB4 z3
    refine (within_nat _ _ _ (by omega) (by omega) (by omega) (by omega)).mono ?_
    rintro e w6 ⟨j, rfl, hj, -, rfl⟩
    have hj2 : j < 3 := by omega
    have cj := hc.out j hj2
    obtain ⟨f1, f2⟩ := w_fact j hj2
    generalize ([⟨#[48]⟩, ⟨#[122, 122]⟩, ⟨#[114, 99, 46, 49]⟩] : List ByteArray).getD j ⟨#[]⟩ = x at *
    have CC := hide (fun W hW => cmp_any ⟨a, b, c, ⟨#[]⟩⟩ ⟨a, b, c, x⟩ W HV.out (ok_pre HV.out f1) hW)
    rw [(cmp_none a b c x f2).1] at CC
    clear f1 f2 hc
    have i1 : (0 : Int) ≤ (j : Int) := by omega
    have SV := hide (V5.out.far3 (N := w2.heap.size + 1) (o := 3) (.string x) (by omega))
    have SW := hide (W5.out.set3 x)
    have SB := hide (hB5.setCell (p := ⟨w2.heap.size + 1, 3, none⟩) (show w.heap.size ≤ w2.heap.size + 1 by omega) (.string x))
    have SE := hide (HE.out.later SB.out)
    obtain ⟨lt, c0, c1, c2, c3, -, -, -, -⟩ := V5.out
    obtain ⟨lt', d0, d1, d2, d3, e0, e1, e2, e3⟩ := W5.out
    go_wp2_with fail
    refine (CC.out _ SE.out).mono ?_
    rintro e w7 ⟨rfl, b7⟩
    go_wp2_with fail
    go_ret
    exact ⟨rfl, step SB.out b7⟩
  · have he0 : p.toList.isEmpty = false := by rw [empty_eq]; simpa using hp0
    have hpn : p.data.toList ≠ [] := fun e => hp0 (by have := len_eq p; rw [e] at this; simpa using this.symm)
    have HPN := hide hpn
    clear hpn
    have n1 : ¬ 9223372036854775807 < p.size + 1 := by omega
    go_wp2_with fail
    generalize (w2.alloc (.cells #[.int .i64 a, .int .i64 b, .int .i64 c, .string p] 24)).alloc (.cells #[.int .i64 a, .int .i64 b, .int .i64 c, .string p] 24) = w4 at *
    have HV3 := hide V3
    have HW3 := hide W3
    clear V3 W3
    go_cut [8] (fun q wc => q = .pointer (some ⟨w2.heap.size + 1, 0, none⟩) ∧ ∃ (y x : ByteArray), y.data.toList = p.data.toList ++ 46 :: x.data.toList ∧ y.size ≤ 1000 ∧ VarAt wc w2.heap.size ⟨a, b, c, p⟩ ∧ VarAt wc (w2.heap.size + 1) ⟨a, b, c, y⟩ ∧ Below w.heap.size w wc)
    case first =>
      obtain ⟨J, hJ, hJ3⟩ : ∃ J : Nat, a2 % 3 = (J : Int) ∧ J < 3 := ⟨(a2 % 3).toNat, by omega, by omega⟩
      have CW : Hid (∀ W, Calls Tryz.prog 22 #[.int .i64 a2, .int .i64 3] W fun e w' => e = .returned (.int .i64 (J : Int)) ∧ w' = W) := fun W => by
        have := within_any a2 3 W (by omega) (by omega) h2.1 h2.2
        rw [hJ] at this; exact this
      clear hJ
      have cj := three w4 ⟨#[48]⟩ ⟨#[97]⟩ ⟨#[45]⟩ J hJ3
      have hel : ([Value.string ⟨#[48]⟩, Value.string ⟨#[97]⟩, Value.string ⟨#[45]⟩] : List Value)[J]'(by simpa using hJ3) = Value.string (([⟨#[48]⟩, ⟨#[97]⟩, ⟨#[45]⟩] : List ByteArray).getD J ⟨#[]⟩) := by
        have : J = 0 ∨ J = 1 ∨ J = 2 := by omega
        rcases this with rfl | rfl | rfl <;> rfl
      have hx1 := x_fact J hJ3
      generalize ([⟨#[48]⟩, ⟨#[97]⟩, ⟨#[45]⟩] : List ByteArray).getD J ⟨#[]⟩ = x at *
      have n2 : ¬ 9223372036854775807 < p.size + 1 + x.size := by omega
      have HX1 := hide hx1
      clear hx1
      have i1 : (0 : Int) ≤ (J : Int) := by omega
      have i2 : (J : Int) < 3 := by omega
      have ba4 : Below w4.heap.size w4 (w4.alloc (.cells #[.string ⟨#[48]⟩, .string ⟨#[97]⟩, .string ⟨#[45]⟩] 9)) := (Below.refl _ _).alloc (Nat.le_refl _) _
      have HB4 := hide ba4
      clear ba4
      have QY : Hid ((p ++ ⟨#[46]⟩ ++ x).data.toList = p.data.toList ++ 46 :: x.data.toList ∧ (p ++ ⟨#[46]⟩ ++ x).size ≤ 1000) := ⟨by rw [ba_app, ba_app]; simp, by rw [ByteArray.size_append, ByteArray.size_append]; have : (ByteArray.mk #[46]).size = 1 := rfl; have := HX1.out; omega⟩
      have QV := hide ((HV3.out.far3 (N := w2.heap.size + 1) (o := 3) (.string (p ++ ⟨#[46]⟩ ++ x)) (by omega)).later ((Below.refl _ _).alloc (Nat.le_refl _) (.cells #[.string ⟨#[48]⟩, .string ⟨#[97]⟩, .string ⟨#[45]⟩] 9))).drew
      have QW := hide ((HW3.out.set3 (p ++ ⟨#[46]⟩ ++ x)).later ((Below.refl _ _).alloc (Nat.le_refl _) (.cells #[.string ⟨#[48]⟩, .string ⟨#[97]⟩, .string ⟨#[45]⟩] 9))).drew
      have QS := hB4.setCell (p := ⟨w2.heap.size + 1, 3, none⟩) (show w.heap.size ≤ w2.heap.size + 1 by omega) (.string (p ++ ⟨#[46]⟩ ++ x))
      have QB := hide (QS.alloc QS.size (.cells #[.string ⟨#[48]⟩, .string ⟨#[97]⟩, .string ⟨#[45]⟩] 9)).drew
      clear QS
      obtain ⟨lt, c0, c1, c2, c3, f0, f1, f2, f3⟩ := HV3.out
      obtain ⟨lt', d0, d1, d2, d3, e0, e1, e2, e3⟩ := HW3.out
      have m3 := World.new_ne w4 ⟨w2.heap.size, 3, none⟩ c3
      have m4 := World.new_ne w4 ⟨w2.heap.size + 1, 3, none⟩ d3
      go_region_with (go_at_call 22; refine (CW.out _).mono ?_; rintro e w' ⟨rfl, rfl⟩)
      all_goals (go_wp2_with fail; go_meet)
      all_goals exact ⟨rfl, p ++ ⟨#[46]⟩ ++ x, x, QY.out.1, QY.out.2, QV.out, QW.out, QB.out⟩
    case rest =>
      obtain ⟨rfl, y, x, hy, hyz, VV, WW, hBc⟩ := hcut
      have o1 : cmpV ⟨a, b, c, p⟩ ⟨a, b, c, y⟩ = -1 := cmp_longer a b c p y x HPN.out hy
      have o2 : cmpV ⟨a, b, c, y⟩ ⟨a, b, c, ⟨#[]⟩⟩ = -1 := (cmp_none a b c y (by rw [hy]; simp)).2
      have baC : Below wc.heap.size wc (wc.alloc (.cells #[.int .i64 a, .int .i64 b, .int .i64 c, .string ⟨#[]⟩] 24)) := (Below.refl _ _).alloc (Nat.le_refl _) _
      have hBd := step hBc baC
      have VV2 := hide (VV.later baC)
      have WW2 := hide (WW.later baC)
      have UU2 := hide (VarAt.new wc ⟨a, b, c, ⟨#[]⟩⟩)
      have CR := hide (fun W => rright_any a b c y W (by unfold maxLen; omega))
      clear hy
      obtain ⟨lt, c0, c1, c2, c3, f0, f1, f2, f3⟩ := VV
      obtain ⟨lt', d0, d1, d2, d3, e0, e1, e2, e3⟩ := WW
      have m0 := World.new_ne wc ⟨w2.heap.size + 1, 0, none⟩ d0
      have hne : ¬ w2.heap.size + 1 = wc.heap.size := by omega
      have hne2 : ¬ w2.heap.size = wc.heap.size := by omega
      by_cases ho : (V.mk a b c y).ok = true
      · have hvo : verOk a b c y.data.toList = true := ho
        rw [hvo] at CR
        have C1 := hide (fun W hW => cmp_any ⟨a, b, c, p⟩ ⟨a, b, c, y⟩ W HV.out ho hW)
        have C2 := hide (fun W hW => cmp_any ⟨a, b, c, y⟩ ⟨a, b, c, ⟨#[]⟩⟩ W ho (ok_pre HV.out (by decide)) hW)
        rw [o1] at C1
        rw [o2] at C2
        clear ho hvo o1 o2
        go_wp2_with fail
        refine (CR.out _).mono ?_
        rintro e w6 ⟨rfl, b6⟩
        have hB6 := step hBd b6
        have VV3 := hide (VV2.out.later b6)
        have WW3 := hide (WW2.out.later b6)
        have UU3 := hide (UU2.out.later b6)
        clear c0 c1 c2 c3 f0 f1 f2 f3 d0 d1 d2 d3 e0 e1 e2 e3 lt lt' m0 hne hne2
        obtain ⟨lt, c0, c1, c2, c3, -, -, -, -⟩ := VV3.out
        obtain ⟨lt', d0, d1, d2, d3, -, -, -, -⟩ := WW3.out
        go_wp2_with fail
        refine (C1.out _ (HE.out.later hB6)).mono ?_
        rintro e w7 ⟨rfl, b7⟩
        have hB7 := step hB6 b7
        clear c0 c1 c2 c3 d0 d1 d2 d3 lt lt'
        obtain ⟨lt', d0, d1, d2, d3, -, -, -, -⟩ := WW3.out.later b7
        obtain ⟨lu, g0, g1, g2, g3, -, -, -, -⟩ := UU3.out.later b7
        go_wp2_with fail
        refine (C2.out _ (HE.out.later hB7)).mono ?_
        rintro e w8 ⟨rfl, b8⟩
        go_wp2_with fail
        go_ret
        exact ⟨rfl, step hB7 b8⟩
      · have hvo : verOk a b c y.data.toList = false := by simpa [V.ok] using ho
        rw [hvo] at CR
        go_wp2_with fail
        refine (CR.out _).mono ?_
        rintro e w6 ⟨rfl, b6⟩
        go_wp2_with fail
        go_ret
        exact ⟨rfl, step hBd b6⟩

end Go.Proofs.YtiicikieemfcmaaGreatDoor.verLonger

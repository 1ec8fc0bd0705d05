/-
  Contract of Behind.
-/
import Derived.Test.YtiicikieemfcmaaGreatDoorU13
import Derived.Test.YtiicikieemfcmaaGreatDoorM13
namespace Go.Proofs.YtiicikieemfcmaaGreatDoor
set_option linter.unusedSimpArgs false
set_option linter.unusedVariables false
open Go.RowKit Go.Vr Go.Sort Go.Tx Go.Lib
attribute [local go_sem] setCellDrewN allocDrewN

/-- What Behind answers. -/
def bret (o : Option (Int × Bs)) : Value := match o with
  | none => .tuple #[.int .i64 0, .string ⟨#[]⟩, .bool false]
  | some (n, i) => .tuple #[.int .i64 n, .string (str i), .bool true]

theorem bret_some (n : Int) (y : ByteArray) : Ending.returned (.tuple #[.int .i64 n, .string y, .bool true]) = .returned (bret (some (n, y.data.toList))) := by
  show _ = Ending.returned (.tuple #[.int .i64 n, .string (str y.data.toList), .bool true])
  rw [str_of]

set_option maxHeartbeats 400000 in
theorem madeDig_any (s : ByteArray) (W : World) (hs : s.size ≤ 100000) :
    Calls Tryz.prog 61 #[.string s, .slice (some ⟨W.heap.size, 0, none⟩) 1 1] (W.alloc (.cells #[.string ⟨#[48, 49, 50, 51, 52, 53, 54, 55, 56, 57]⟩] 9)) fun e w' => e = .returned (.bool (s.data.toList.all isDig)) ∧ Below W.heap.size W w' := by
  have := made_any s W.heap.size 0 1 1 [digitsL] _ hs (row_new W [digitsL] 1) (by omega)
  rw [dig_is] at this
  generalize s.data.toList.all isDig = q at this ⊢
  simp [digitsL] at this
  exact this.mono fun e w' h => ⟨h.1, ((Below.refl _ _).alloc (Nat.le_refl _) _).trans (h.2.mono (by omega))⟩

set_option maxHeartbeats 2000000 in
set_option maxRecDepth 100000 in
theorem behindV_any (v : V) (w : World) (hp : v.p.size ≤ 1000) (he : Env w) :
    Calls Tryz.prog 31 #[val v] w fun e w' => e = .returned (bret (behind v.p.data.toList)) ∧ Below w.heap.size w w' := by
  obtain ⟨a, b, c, p⟩ := v
  simp only at hp
  have hB0 : Below w.heap.size w (w.alloc (.cells #[.int .i64 a, .int .i64 b, .int .i64 c, .string p] 24)) := (Below.refl _ _).alloc (Nat.le_refl _) _
  have E0 : Hid (Env (w.alloc (.cells #[.int .i64 a, .int .i64 b, .int .i64 c, .string p] 24))) := he.later hB0
  clear he
  obtain ⟨l1, l2, l3⟩ := last_is p
  have HL : Hid (∀ W, Calls Tryz.prog 60 #[.string p, .int .u8 46] W fun e w' => e = .returned (.int .i64 (lastIndexByte p 46)) ∧ w' = W) := fun W => lastIndexByte_any p 46 (by omega) W
  have HW : Hid ((p.extract (lastIndexByte p 46 + 1).toNat p.size).data.toList = lastW p.data.toList) := by show _ = _; rw [extract_to_end]; exact l3
  clear l3
  generalize lastIndexByte p 46 = L at *
  have wr : IntKind.i64.wrap (L + 1) = L + 1 := by rw [IntKind.wrap_i64]; omega
  have i1 : (0 : Int) ≤ L + 1 := by omega
  have i2 : L + 1 ≤ (p.size : Int) := by omega
  go_enter Tryz.func31, Tryz.ntmps31
  go_wp2_with fail
  go_quiet ((refine (HL.out _).mono ?_; rintro e w' ⟨rfl, rfl⟩; exact ⟨rfl, _, rfl⟩))
  have E1 : Hid (Env ((w.alloc (.cells #[.int .i64 a, .int .i64 b, .int .i64 c, .string p] 24)).drewN nq)) := E0.out.later (belDrewN _ nq)
  have hB1 : Below w.heap.size w ((w.alloc (.cells #[.int .i64 a, .int .i64 b, .int .i64 c, .string p] 24)).drewN nq) := hB0.trans ((belDrewN _ nq).mono (by simp))
  have hx1 : (p.extract (L + 1).toNat p.size).size ≤ 1000 := by rw [ByteArray.size_extract]; omega
  go_wp2_with fail
  generalize p.extract (L + 1).toNat p.size = xl at *
  refine (cut_any xl _ _ (by omega) E1.out).mono ?_
  simp only [show (ByteArray.mk #[45]).data.toList = [45] from rfl]
  rintro e w2 ⟨rfl, b2⟩
  have hB2 := hB1.trans (b2.mono hB1.size)
  have E2 := hide (E1.out.later b2)
  have HB : Hid (behind p.data.toList = if cutOk (str (cut xl.data.toList [45]).1).data.toList (str (cut xl.data.toList [45]).2.1).data.toList = true then some (num (str (cut xl.data.toList [45]).1).data.toList, (str (cut xl.data.toList [45]).2.1).data.toList) else none) := by
    show behind _ = _
    obtain ⟨k1, k2⟩ := stamp_cut (lastW p.data.toList)
    rw [HW.out, str_list, str_list, ← k1]
    unfold behind
    by_cases hs : isStamp (lastW p.data.toList) = true
    · obtain ⟨q1, q2⟩ := k2 hs
      rw [if_pos hs, if_pos hs, q1, q2, num_when _ hs]
    · rw [if_neg hs, if_neg hs]
  have l4 := cut_len xl.data.toList [45]
  rw [len_eq] at l4
  have m1 : (str (cut xl.data.toList [45]).1).size ≤ 1000 := by rw [Tx.str_size]; omega
  have m2 : (str (cut xl.data.toList [45]).2.1).size ≤ 1000 := by rw [Tx.str_size]; omega
  generalize (cut xl.data.toList [45]).2.2 = u1 at *
  generalize str (cut xl.data.toList [45]).1 = xx at *
  generalize str (cut xl.data.toList [45]).2.1 = yy at *
  clear l4 HW HL E0 E1 hB0 hB1 b2 i1 i2 wr l1 l2
  have HC : Hid (cutOk xx.data.toList yy.data.toList = (decide (xx.size = 14) && xx.data.toList.all isDig && (decide (yy.size = 12) && idOk yy.data.toList))) := by show cutOk _ _ = _; unfold cutOk; rw [len_eq, len_eq]
  have HM := hide (fun W => madeDig_any xx W (by omega))
  have none_of : cutOk xx.data.toList yy.data.toList = false → Hid (behind p.data.toList = none) := fun h => by show behind _ = none; rw [HB.out, if_neg (by rw [h]; decide)]
  have some_of : cutOk xx.data.toList yy.data.toList = true → Hid (behind p.data.toList = some (num xx.data.toList, yy.data.toList)) := fun h => by show behind _ = _; rw [HB.out, if_pos h]
  by_cases h1 : xx.size = 14
  · have d1 : ((xx.size : Int) != 14) = false := by simp; omega
    have D1 := hide h1
    clear h1
    cases h2 : xx.data.toList.all isDig with
    | false =>
      have HN := none_of (by rw [HC.out, h2]; simp)
      rw [h2] at HM
      clear h2 none_of some_of
      go_wp2_with fail
      refine (HM.out _).mono ?_
      rintro e w3 ⟨rfl, b3⟩
      go_wp2_with fail
      go_ret3
      exact ⟨by rw [HN.out]; rfl, step hB2 b3⟩
    | true =>
      rw [h2] at HM
      by_cases h3 : yy.size = 12
      · have d3 : ((yy.size : Int) != 12) = false := by simp; omega
        cases h4 : idOk yy.data.toList with
        | false =>
          have HN := none_of (by rw [HC.out, h4]; simp)
          have H4 := hide h4
          clear h2 h3 h4 none_of some_of
          go_wp2_with fail
          refine (HM.out _).mono ?_
          rintro e w3 ⟨rfl, b3⟩
          go_wp2_with fail
          refine (rightId_any yy _ (by unfold maxLen; omega)).mono ?_
          rw [H4.out]
          rintro e w4 ⟨rfl, b4⟩
          go_wp2_with fail
          go_ret3
          exact ⟨by rw [HN.out]; rfl, step (step hB2 b3) b4⟩
        | true =>
          have HN := some_of (by rw [HC.out, h2, h4, D1.out, h3]; rfl)
          have H4 := hide h4
          clear h2 h3 h4 none_of some_of
          go_wp2_with fail
          refine (HM.out _).mono ?_
          rintro e w3 ⟨rfl, b3⟩
          go_wp2_with fail
          refine (rightId_any yy _ (by unfold maxLen; omega)).mono ?_
          rw [H4.out]
          rintro e w4 ⟨rfl, b4⟩
          have E4 := hide (E2.out.later (step b3 b4))
          go_wp2_with fail
          refine (number_any xx _ (by omega) E4.out).mono ?_
          rintro e w5 ⟨rfl, b5⟩
          go_wp2_with fail
          go_ret3
          exact ⟨by rw [HN.out]; exact bret_some _ _, step (step (step hB2 b3) b4) b5⟩
      · have d3 : ((yy.size : Int) != 12) = true := by simp; omega
        have HN := none_of (by rw [HC.out, decide_eq_false h3]; simp)
        clear h2 h3 none_of some_of
        go_wp2_with fail
        refine (HM.out _).mono ?_
        rintro e w3 ⟨rfl, b3⟩
        go_wp2_with fail
        go_ret3
        exact ⟨by rw [HN.out]; rfl, step hB2 b3⟩
  · have d1 : ((xx.size : Int) != 14) = true := by simp; omega
    have HN := none_of (by rw [HC.out, decide_eq_false h1]; rfl)
    clear none_of some_of
    go_wp2_with fail
    go_ret3
    exact ⟨by rw [HN.out]; rfl, hB2⟩

end Go.Proofs.YtiicikieemfcmaaGreatDoor

/-
  Contract of slices.CompareFunc at texts, by cmpWord.
-/
import Derived.Test.YtninheehoabbbaaGreatDoorU7
namespace Go.Proofs.YtninheehoabbbaaGreatDoor
set_option linter.unusedSimpArgs false
set_option linter.unusedVariables false
open Go.RowKit Go.Vr Go.Sort Go.Tx Go.Lib
attribute [local go_sem] setCellDrewN allocDrewN

set_option maxHeartbeats 2000000 in
set_option maxRecDepth 100000 in
theorem compareF_any (g1 k1 g2 k2 : Nat) (ws us : List Bs) (w : World) (h1 : ∀ i, i < ws.length → w.cell? ⟨g1, i, none⟩ = some (.string (str (ws.getD i [])))) (h2 : ∀ i, i < us.length → w.cell? ⟨g2, i, none⟩ = some (.string (str (us.getD i []))))
    (n1 : ws.length ≤ 10000) (n2 : us.length ≤ 10000) (o1 : ∀ x ∈ ws, x.length ≠ 0 ∧ x.length ≤ 10000) (o2 : ∀ x ∈ us, x.length ≠ 0 ∧ x.length ≤ 10000) :
    Calls Tryz.prog 84 #[.slice (some ⟨g1, 0, none⟩) ws.length k1, .slice (some ⟨g2, 0, none⟩) us.length k2, .func (.func 86) #[] #[]] w fun e w' => e = .returned (.int .i64 (lex cmpW ws us)) ∧ Below w.heap.size w w' := by
  have H1 := hide h1
  have H2 := hide h2
  have O1 := hide o1
  have O2 := hide o2
  have EN := cmpWord_enters
  clear h1 h2 o1 o2
  go_enter Tryz.func84, Tryz.ntmps84
  go_wp2_with fail
  go_loopw [7, 8, 9, 10, 13] (fun _ _ _ _ i wr => ∃ k : Nat, k ≤ ws.length ∧ k ≤ us.length ∧ i = .int .i64 k ∧ Hid (lex cmpW ws us = lex cmpW (ws.drop k) (us.drop k)) ∧ Below w.heap.size w wr) (fun _ _ _ _ i _ => ws.length - (RowKit.intOf i).toNat)
  case atStart => exact ⟨0, by omega, by omega, rfl, rfl, Below.refl _ _⟩
  case round =>
    obtain ⟨k, hkw, hku, rfl, HL, hB⟩ := hrel
    by_cases hlw : k < ws.length
    · have z1 : decide ((k : Int) < (ws.length : Int)) = true := by simp; omega
      have y1 := cellLater hB (H1.out k hlw)
      have r1 := O1.out _ (getD_mem ws k hlw)
      have i1 : (0 : Int) ≤ (k : Int) := by omega
      have i2 : (k : Int) < (ws.length : Int) := by omega
      by_cases hlu : k < us.length
      · have z2 : decide ((us.length : Int) ≤ (k : Int)) = false := by simp; omega
        have y2 := cellLater hB (H2.out k hlu)
        have r2 := O2.out _ (getD_mem us k hlu)
        have i3 : (k : Int) < (us.length : Int) := by omega
        have HL2 : Hid (lex cmpW ws us = seq (cmpW (ws.getD k []) (us.getD k [])) (lex cmpW (ws.drop (k + 1)) (us.drop (k + 1)))) := by
          show lex cmpW ws us = _
          rw [HL.out, drop_getD ws k hlw, drop_getD us k hlu]; rfl
        generalize ws.getD k [] = xx at *
        generalize us.getD k [] = yy at *
        have HW := hide (cmpWord_any (str xx) (str yy) wr (by rw [Tx.str_size]; exact r1.2) (by rw [Tx.str_size]; exact r2.2) (by rw [Tx.str_size]; exact r1.1) (by rw [Tx.str_size]; exact r2.1))
        rw [str_list, str_list] at HW
        cases hq : (cmpW xx yy != 0) with
        | true =>
          have HR : Hid (lex cmpW ws us = cmpW xx yy) := by show _ = _; rw [HL2.out]; exact seq_ne (by simpa using hq)
          go_wp2_with fail
          refine HW.out.mono ?_
          rintro e w1 ⟨rfl, b1⟩
          go_wp2_with fail
          go_ret
          exact ⟨ret_int HR.out.symm, step hB b1⟩
        | false =>
          have HR : Hid (lex cmpW ws us = lex cmpW (ws.drop (k + 1)) (us.drop (k + 1))) := by
            show _ = _
            have e : cmpW xx yy = 0 := by simpa using hq
            rw [HL2.out, e, seq_zero]
          go_wp2_with fail
          refine HW.out.mono ?_
          rintro e w1 ⟨rfl, b1⟩
          go_wp2_with fail
          go_roundw
          case rel => exact ⟨k + 1, by omega, by omega, by go_num, HR, step hB b1⟩
          case measure => simp [RowKit.intOf]; omega
      · have z2 : decide ((us.length : Int) ≤ (k : Int)) = true := by simp; omega
        have HR : Hid (lex cmpW ws us = 1) := by
          show _ = _
          rw [HL.out, drop_getD ws k hlw, List.drop_of_length_le (by omega : us.length ≤ k)]; rfl
        generalize ws.getD k [] = xx at *
        go_wp2_with fail
        go_ret
        exact ⟨ret_int HR.out.symm, hB⟩
    · have z1 : decide ((k : Int) < (ws.length : Int)) = false := by simp; omega
      by_cases hlu : k < us.length
      · have z2 : decide ((ws.length : Int) < (us.length : Int)) = true := by simp; omega
        have HR : Hid (lex cmpW ws us = -1) := by
          show _ = _
          rw [HL.out, List.drop_of_length_le (by omega : ws.length ≤ k), drop_getD us k hlu]; rfl
        go_wp2_with fail
        go_ret
        exact ⟨ret_int HR.out.symm, hB⟩
      · have z2 : decide ((ws.length : Int) < (us.length : Int)) = false := by simp; omega
        have HR : Hid (lex cmpW ws us = 0) := by
          show _ = _
          rw [HL.out, List.drop_of_length_le (by omega : ws.length ≤ k), List.drop_of_length_le (by omega : us.length ≤ k)]; rfl
        go_wp2_with fail
        go_ret
        exact ⟨ret_int HR.out.symm, hB⟩

end Go.Proofs.YtninheehoabbbaaGreatDoor

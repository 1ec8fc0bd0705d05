/-
  Sizes of texts of versions; a version that may be, written and read.
-/
import Derived.Test.YtninheehoabbbaaGreatDoorU16
import Derived.Test.YtninheehoabbbaaGreatDoorU17
namespace Go.Proofs.YtninheehoabbbaaGreatDoor
set_option linter.unusedSimpArgs false
set_option linter.unusedVariables false
open Go.RowKit Go.Vr Go.Sort Go.Tx Go.Lib

theorem ok_size {v : V} (h : v.ok = true) : v.p.size ≤ 40 := by
  have := (ok_parts h).2.2.2
  unfold preOk at this
  rw [Bool.and_eq_true] at this
  have h1 := of_decide_eq_true this.1
  rw [len_eq] at h1
  exact h1
theorem txt_size (v : V) (ha : 0 ≤ v.a ∧ v.a < 1000000000) (hb : 0 ≤ v.b ∧ v.b < 1000000000) (hc : 0 ≤ v.c ∧ v.c < 1000000000) : (str (txt v)).size ≤ v.p.size + 31 ∧ 6 ≤ (str (txt v)).size := by
  have h1 := itoa_size v.a ha.1 ha.2
  have h2 := itoa_size v.b hb.1 hb.2
  have h3 := itoa_size v.c hc.1 hc.2
  have e1 := List.length_pos_iff.2 (itoa_ok v.a ha.1 ha.2).2.2.2
  have e2 := List.length_pos_iff.2 (itoa_ok v.b hb.1 hb.2).2.2.2
  have e3 := List.length_pos_iff.2 (itoa_ok v.c hc.1 hc.2).2.2.2
  rw [Tx.str_size] at *
  have h4 : (tail v.p.data.toList).length ≤ v.p.size + 1 := by
    unfold tail
    split
    · simp
    · rw [List.length_cons, len_eq]; omega
  unfold txt
  simp only [List.length_cons, List.length_append]
  omega
theorem ok_bd {v : V} (h : v.ok = true) : (0 ≤ v.a ∧ v.a < 1000000000) ∧ (0 ≤ v.b ∧ v.b < 1000000000) ∧ (0 ≤ v.c ∧ v.c < 1000000000) := by
  obtain ⟨h1, h2, h3, -⟩ := ok_parts h
  omega
theorem ok_txt {v : V} (h : v.ok = true) : (str (txt v)).size ≤ 71 ∧ 6 ≤ (str (txt v)).size := by
  obtain ⟨h1, h2, h3⟩ := ok_bd h
  have := txt_size v h1 h2 h3
  have := ok_size h
  omega
theorem parse_back {v : V} (h : v.ok = true) : parse (str (txt v)).data.toList = some v := by rw [str_list]; exact parse_txt h

end Go.Proofs.YtninheehoabbbaaGreatDoor

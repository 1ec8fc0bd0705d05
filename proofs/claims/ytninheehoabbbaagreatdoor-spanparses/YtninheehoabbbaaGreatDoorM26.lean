/-
  What a word's spans have, by the order of versions alone.
-/
import Derived.Test.YtninheehoabbbaaGreatDoorN6
import Derived.Test.YtninheehoabbbaaGreatDoorM25
import Derived.Test.YtninheehoabbbaaGreatDoorM23
namespace Go.Proofs.YtninheehoabbbaaGreatDoor
set_option linter.unusedVariables false
open Go.RowKit Go.Vr Go.Sort Go.Tx Go.Lib

theorem any_has (l : List Sp.S) (c : Sp.C) : l.any (inSp c) = true ↔ Sp.Has l c := by
  rw [List.any_eq_true]
  constructor
  · rintro ⟨s, hs, h⟩
    unfold inSp at h
    simp only [Bool.and_eq_true, decide_eq_true_eq] at h
    exact ⟨s, hs, h⟩
  · rintro ⟨s, hs, h⟩
    refine ⟨s, hs, ?_⟩
    unfold inSp
    simp only [Bool.and_eq_true, decide_eq_true_eq]
    exact h
theorem any_only (a b c : Sp.C) : (Sp.only Sp.cmpC a b).any (inSp c) = (decide (Sp.cmpC a c ≤ 0) && decide (Sp.cmpC c b < 0)) := by
  rw [Bool.eq_iff_iff, any_has]
  show Sp.In Sp.cmpC _ _ ↔ _
  rw [Sp.in_only Sp.ord_cut]
  simp only [Bool.and_eq_true, decide_eq_true_eq]
theorem any_nots {l : List Sp.S} (h : Sp.Row l) (c : Sp.C) (hc : Sp.InR c) : (Sp.notL l).any (inSp c) = !l.any (inSp c) := by
  rw [Bool.eq_iff_iff, any_has, Sp.has_not h, Bool.not_eq_true', ← Bool.not_eq_true, any_has]
  exact ⟨fun k => k.2, fun k => ⟨hc, k⟩⟩
theorem any_or (a b : List Sp.S) (c : Sp.C) : (Sp.nrm [a, b].flatten).any (inSp c) = (a.any (inSp c) || b.any (inSp c)) := by
  rw [Bool.eq_iff_iff, any_has, Sp.has_or, Bool.or_eq_true, any_has, any_has]
theorem any_or3 (a b d : List Sp.S) (c : Sp.C) : (Sp.nrm [a, b, d].flatten).any (inSp c) = (a.any (inSp c) || b.any (inSp c) || d.any (inSp c)) := by
  rw [Bool.eq_iff_iff, any_has, Sp.has_or3, Bool.or_eq_true, Bool.or_eq_true, any_has, any_has, any_has, or_assoc]
theorem any_and {a b : List Sp.S} (ha : Sp.Row a) (hb : Sp.Row b) (c : Sp.C) : (Sp.allL [a, b]).any (inSp c) = (a.any (inSp c) && b.any (inSp c)) := by
  rw [Bool.eq_iff_iff, any_has, Sp.has_and ha hb, Bool.and_eq_true, any_has, any_has]
theorem inR_v {v : V} (h : v.ok = true) : Sp.InR (some (v, false)) := ⟨Sp.start_le (Sp.ok_v h false), by rw [Sp.cmpC_sn]; decide⟩

section
variable {v u : V}
theorem c_ff : Sp.cmpC (some (v, false)) (some (u, false)) = cmpV v u := by
  rw [Sp.cmpC_ss]; show seq (cmpV v u) 0 = _; unfold seq; split <;> omega
theorem c_le_ff : decide (Sp.cmpC (some (v, false)) (some (u, false)) ≤ 0) = decide (0 ≤ cmpV u v) := by
  rw [c_ff, ord_ver.anti u v]; exact decide_eq_decide.2 (by omega)
theorem c_le_tf : decide (Sp.cmpC (some (v, true)) (some (u, false)) ≤ 0) = decide (0 < cmpV u v) := by
  have hb := ord_ver.bd u v
  rw [Sp.cmpC_ss]
  show decide (seq (cmpV v u) 1 ≤ 0) = _
  rw [ord_ver.anti u v]
  refine decide_eq_decide.2 ?_
  unfold seq; split <;> omega
theorem c_lt_ft : decide (Sp.cmpC (some (u, false)) (some (v, true)) < 0) = decide (cmpV u v ≤ 0) := by
  rw [Sp.cmpC_ss]
  show decide (seq (cmpV u v) (-1) < 0) = _
  refine decide_eq_decide.2 ?_
  unfold seq; split <;> omega
theorem c_lt_ff : decide (Sp.cmpC (some (u, false)) (some (v, false)) < 0) = decide (cmpV u v < 0) := by rw [c_ff]
theorem c_lt_n (p : V × Bool) : decide (Sp.cmpC (some p) none < 0) = true := rfl
theorem c_st (h : u.ok = true) : decide (Sp.cmpC Sp.start (some (u, false)) ≤ 0) = true := decide_eq_true (inR_v h).1

/-- The signs' texts, and what each asks of the order. -/
def opT : List Bs := [[], [61], [33, 61], [62], [62, 61], [60], [60, 61]]
def opW (c : Int) : List Bool := [c == 0, c == 0, c != 0, decide (0 < c), decide (0 ≤ c), decide (c < 0), decide (c ≤ 0)]
theorem eq_means : (Sp.only Sp.cmpC (some (v, false)) (some (v, true))).any (inSp (some (u, false))) = (cmpV u v == 0) := by
  rw [any_only, c_le_ff, c_lt_ft]
  rw [Bool.eq_iff_iff]
  simp only [Bool.and_eq_true, decide_eq_true_eq, beq_iff_eq]
  omega
theorem op_means (hv : v.ok = true) (hu : u.ok = true) (k : Nat) (hk : k < 7) : ∃ l, Sp.signedM (opT.getD k []) v = some l ∧ l.any (inSp (some (u, false))) = (opW (cmpV u v)).getD k false := by
  have ok1 := Sp.row_only (Sp.ok_v hv false) (Sp.ok_v hv true)
  have : k = 0 ∨ k = 1 ∨ k = 2 ∨ k = 3 ∨ k = 4 ∨ k = 5 ∨ k = 6 := by omega
  rcases this with rfl | rfl | rfl | rfl | rfl | rfl | rfl
  · exact ⟨_, rfl, eq_means⟩
  · exact ⟨_, rfl, eq_means⟩
  · refine ⟨_, rfl, ?_⟩
    rw [any_nots ok1 _ (inR_v hu), eq_means]; rfl
  · refine ⟨_, rfl, ?_⟩
    rw [any_only, c_le_tf, c_lt_n, Bool.and_true]; rfl
  · refine ⟨_, rfl, ?_⟩
    rw [any_only, c_le_ff, c_lt_n, Bool.and_true]; rfl
  · refine ⟨_, rfl, ?_⟩
    rw [any_only, c_st hu, c_lt_ff, Bool.true_and]; rfl
  · refine ⟨_, rfl, ?_⟩
    rw [any_only, c_st hu, c_lt_ft, Bool.true_and]; rfl
theorem both_means : (Sp.only Sp.cmpC (some (v, false)) (some (u, true))).any (inSp (some (u, false))) = decide (0 ≤ cmpV u v) := by
  rw [any_only, c_le_ff, c_lt_ft, ord_ver.refl]
  simp
theorem cmp_lt_int {x y : Int} (h : x < y) : compareInt x y = -1 := by unfold compareInt; rw [if_pos h]
theorem cmp_eq_int (x : Int) : compareInt x x = 0 := by unfold compareInt; rw [if_neg (by omega), if_neg (by omega)]
theorem lt_bumpA {x : V} (b : Bool) (h : x.a = v.a) : Sp.cmpC (some (x, b)) (Sp.bumpA v) < 0 := by
  unfold Sp.bumpA
  split
  · rw [Sp.cmpC_sn]; decide
  · refine Sp.cmp_lt _ _ ?_
    unfold cmpV
    simp only
    rw [h, cmp_lt_int (by omega), seq_ne (by decide)]; decide
theorem lt_bumpB {x : V} (b : Bool) (h : x.a = v.a) (h2 : x.b = v.b) : Sp.cmpC (some (x, b)) (Sp.bumpB v) < 0 := by
  unfold Sp.bumpB
  split
  · exact lt_bumpA b h
  · refine Sp.cmp_lt _ _ ?_
    unfold cmpV
    simp only
    rw [h, h2, cmp_eq_int, seq_zero, cmp_lt_int (by omega), seq_ne (by decide)]; decide
theorem lt_bumpC (b : Bool) : Sp.cmpC (some (v, b)) (Sp.bumpC v) < 0 := by
  unfold Sp.bumpC
  split
  · exact lt_bumpB b rfl rfl
  · refine Sp.cmp_lt _ _ ?_
    unfold cmpV
    simp only
    rw [cmp_eq_int, seq_zero, cmp_eq_int, seq_zero, cmp_lt_int (by omega), seq_ne (by decide)]; decide
theorem lt_bumpL (b : Bool) : Sp.cmpC (some (v, b)) (Sp.bumpL v) < 0 := by
  unfold Sp.bumpL
  split
  · exact lt_bumpA b rfl
  · split
    · exact lt_bumpB b rfl rfl
    · exact lt_bumpC b
theorem caret_self : (Sp.only Sp.cmpC (some (v, false)) (Sp.bumpL v)).any (inSp (some (v, false))) = true := by
  rw [any_only, c_le_ff, decide_eq_true (lt_bumpL false), ord_ver.refl]; rfl
theorem tilde_self : (Sp.only Sp.cmpC (some (v, false)) (Sp.bumpB v)).any (inSp (some (v, false))) = true := by
  rw [any_only, c_le_ff, decide_eq_true (lt_bumpB false rfl rfl), ord_ver.refl]; rfl
theorem caret_up {x : V} (h : x.a = v.a) (h0 : 0 < v.a) : (Sp.only Sp.cmpC (some (v, false)) (Sp.bumpL v)).any (inSp (some (x, false))) = decide (0 ≤ cmpV x v) := by
  have e : Sp.bumpL v = Sp.bumpA v := if_pos h0
  rw [e, any_only, c_le_ff, decide_eq_true (lt_bumpA false h), Bool.and_true]
theorem tilde_down {y : V} (h : y.a = v.a) (h2 : y.b = v.b) : (Sp.only Sp.cmpC (some (v, false)) (Sp.bumpB v)).any (inSp (some (y, false))) = decide (0 ≤ cmpV y v) := by
  rw [any_only, c_le_ff, decide_eq_true (lt_bumpB false h h2), Bool.and_true]
end
end Go.Proofs.YtninheehoabbbaaGreatDoor

/-
  Two spans that meet at a version: what any, both of them have.
-/
import Derived.Test.YtninheehoabbbaaGreatDoorM20
import Derived.Test.YtninheehoabbbaaGreatDoorM18
namespace Go.Sp
set_option linter.unusedVariables false
open Go.Vr Go.Tx

theorem cmp_lt {v u : V} (x y : Bool) (h : cmpV v u < 0) : cmpC (some (v, x)) (some (u, y)) < 0 := by
  rw [cmpC_ss]; unfold seq; simp only; split <;> omega
theorem cmp_same (v : V) (x y : Bool) : cmpC (some (v, x)) (some (v, y)) = cmpB x y := by
  rw [cmpC_ss]; simp only; rw [ord_ver.refl]; rfl
theorem nm_one {s : S} (h : cmpC s.1 s.2 < 0) : Normed [s] := ⟨h, by simp, trivial⟩
/-- Two that rise, joined. -/
theorem nrm_two {s t : S} (h : cmpC s.1 t.1 ≤ 0) (hs : cmpC s.1 s.2 < 0) (ht : cmpC t.1 t.2 < 0) : nrm [s, t] = if cmpC s.2 t.1 < 0 then [s, t] else if cmpC s.2 t.2 < 0 then [(s.1, t.2)] else [s] := by
  have hr : Rise cmpC [s, t] := ⟨by simpa using h, by simp, trivial⟩
  rw [← join_nrm (l := [s, t]) hr (fun _ => Iff.rfl), ← fold_join [s, t] (by rintro u hu; rcases List.mem_cons.1 hu with rfl | hu; exact hs; rw [List.mem_singleton.1 hu]; exact ht)]
  show stepR ([] ++ [s]) t = _
  rw [stepR_last]
  rfl

section
variable {v0 v1 v2 : V} (i a : Bool)
def eX (v0 v1 : V) (i : Bool) : S := (some (v0, false), some (v1, i))
def eY (v1 v2 : V) (a : Bool) : S := (some (v1, a), some (v2, false))
theorem ends_or (h01 : cmpV v0 v1 < 0) (h12 : cmpV v1 v2 < 0) : nrm [eX v0 v1 i, eY v1 v2 a] = if i || !a then [(some (v0, false), some (v2, false))] else [eX v0 v1 i, eY v1 v2 a] := by
  have h1 : cmpC (eX v0 v1 i).1 (eY v1 v2 a).1 < 0 := cmp_lt _ _ h01
  rw [nrm_two (by omega) (cmp_lt _ _ h01) (cmp_lt _ _ h12)]
  have e1 : cmpC (eX v0 v1 i).2 (eY v1 v2 a).1 = cmpB i a := cmp_same v1 i a
  have e2 : cmpC (eX v0 v1 i).2 (eY v1 v2 a).2 < 0 := cmp_lt _ _ h12
  rw [e1]
  by_cases h : (i || !a) = true
  · have h2 : ¬ cmpB i a < 0 := by revert h; cases i <;> cases a <;> decide
    rw [if_neg h2, if_pos e2, if_pos h]; rfl
  · have h2 : cmpB i a < 0 := by revert h; cases i <;> cases a <;> decide
    rw [if_pos h2, if_neg h]
theorem ok_X (ok0 : v0.ok = true) (ok1 : v1.ok = true) : okS (eX v0 v1 i) := ⟨⟨_, rfl⟩, ok_v ok0 _, ok_v ok1 _⟩
theorem ok_Y (ok1 : v1.ok = true) (ok2 : v2.ok = true) : okS (eY v1 v2 a) := ⟨⟨_, rfl⟩, ok_v ok1 _, ok_v ok2 _⟩
theorem ok_l1 {s : S} (h : okS s) : okL [s] := fun t ht => by rw [List.mem_singleton.1 ht]; exact h
theorem ok_l2 {s t : S} (h : okS s) (k : okS t) : okL [s, t] := fun u hu => by
  rcases List.mem_cons.1 hu with rfl | hu
  · exact h
  · rw [List.mem_singleton.1 hu]; exact k
theorem ends_and (ok0 : v0.ok = true) (ok1 : v1.ok = true) (ok2 : v2.ok = true) (h01 : cmpV v0 v1 < 0) (h12 : cmpV v1 v2 < 0) : (allL [[eX v0 v1 i], [eY v1 v2 a]]).length = if i && !a then 1 else 0 := by
  have e : allL [[eX v0 v1 i], [eY v1 v2 a]] = only cmpC (some (v1, a)) (some (v1, i)) := by
    refine unique ord_cut _ _ (all_nm _) (nm_only _ _) fun x => ?_
    have nX : Normed [eX v0 v1 i] := nm_one (cmp_lt _ _ h01)
    have nY : Normed [eY v1 v2 a] := nm_one (cmp_lt _ _ h12)
    have oX := ok_l1 (ok_X i ok0 ok1)
    have oY := ok_l1 (ok_Y a ok1 ok2)
    have h := all_has (ls := [[eX v0 v1 i], [eY v1 v2 a]]) (fun l hl => by
      rcases List.mem_cons.1 hl with rfl | hl
      · exact nX
      · rw [List.mem_singleton.1 hl]; exact nY) (fun l hl => by
      rcases List.mem_cons.1 hl with rfl | hl
      · exact oX
      · rw [List.mem_singleton.1 hl]; exact oY) x
    refine h.trans ?_
    rw [in_only ord_cut]
    constructor
    · rintro ⟨_, _, h3⟩
      obtain ⟨s, hs, _, k1⟩ := h3 _ (List.mem_cons_self ..)
      obtain ⟨t, ht, k2, _⟩ := h3 [eY v1 v2 a] (by simp)
      rw [List.mem_singleton.1 hs] at k1
      rw [List.mem_singleton.1 ht] at k2
      exact ⟨k2, k1⟩
    · rintro ⟨k1, k2⟩
      have l0 : cmpC (some (v0, false)) x < 0 := ord_cut.lt_le _ _ _ (cmp_lt _ _ h01) k1
      refine ⟨ord_cut.le _ _ _ (start_le (ok_v ok1 a)) k1, ord_cut.lt_le _ _ _ k2 (le_end _), ?_⟩
      intro l hl
      rcases List.mem_cons.1 hl with rfl | hl
      · exact ⟨eX v0 v1 i, List.mem_singleton.2 rfl, by show cmpC (some (v0, false)) x ≤ 0; omega, k2⟩
      · rw [List.mem_singleton.1 hl]
        exact ⟨eY v1 v2 a, List.mem_singleton.2 rfl, k1, lt_trans ord_cut k2 (cmp_lt _ _ h12)⟩
  rw [e]
  unfold only
  rw [cmp_same]
  cases i <;> cases a <;> rfl
end
end Go.Sp

/-
  Facts on what a part tells.
-/
import Derived.Test.YtninheehoabbbaaGreatDoorN19
namespace Go.Proofs.YtninheehoabbbaaGreatDoor
set_option linter.unusedSimpArgs false
set_option linter.unusedVariables false
open Go.RowKit Go.Vr Go.Sort Go.Tx Go.Lib

theorem all_len (ls : List (List Sp.S)) : (Sp.allL ls).length ≤ ls.flatten.length + ls.length + 2 := by
  have h1 := flatMap_len ls
  have h2 := nrm_len (ls.flatMap Sp.notL)
  have h3 := not_len (Sp.nrm (ls.flatMap Sp.notL))
  unfold Sp.allL
  omega
theorem partG_ok (s : Bs) : ∀ (n p : Nat) (acc : List (List Sp.S)) (l : List Sp.S) (q : Nat), p ≤ s.length → (∀ k ∈ acc, Sp.okL k ∧ k.length ≤ 2) → Sp.partG s n p acc = (some l, q) →
    Sp.okL l ∧ Sp.Normed l ∧ l.length + 3 * p ≤ 3 * acc.length + 3 * q + 2 ∧ p < q ∧ q ≤ s.length ∧ (q = s.length ∨ s[q]? = some 124)
  | 0, p, acc, l, q, _, _, h => by unfold Sp.partG at h; exact nomatch h
  | n + 1, p, acc, l, q, hp, ha, h => by
    have hi := Sp.item_le s p hp
    unfold Sp.partG at h
    cases him : Sp.itemM s p with
    | mk o q1 =>
      rw [him] at h hi
      cases o with
      | none => exact nomatch h
      | some k =>
        have hk := item_ok him
        have hlt := hi.2.2 (by simp)
        simp only at hi hlt h
        have hb := Sp.bl_le s q1 hi.2.1
        have ha2 : ∀ t ∈ acc ++ [k], Sp.okL t ∧ t.length ≤ 2 := by
          intro t ht
          rcases List.mem_append.1 ht with ht | ht
          · exact ha t ht
          · rw [List.mem_singleton.1 ht]; exact ⟨hk.1, hk.2.2⟩
        split at h
        · rename_i hc
          simp only [Prod.mk.injEq, Option.some.injEq] at h
          obtain ⟨rfl, rfl⟩ := h
          have h1 := all_len (acc ++ [k])
          have h2 := flat_two (acc ++ [k]) (fun t ht => (ha2 t ht).2)
          rw [List.length_append] at h1 h2
          simp only [List.length_cons, List.length_nil] at h1 h2
          exact ⟨Sp.ok_all (fun t ht => (ha2 t ht).1), Sp.all_nm _, by omega, by omega, hb.2, hc⟩
        · have ih := partG_ok s n (Sp.blM s q1) (acc ++ [k]) l q hb.2 ha2 h
          obtain ⟨i1, i2, i3, i4, i5, i6⟩ := ih
          rw [List.length_append] at i3
          simp only [List.length_cons, List.length_nil] at i3
          exact ⟨i1, i2, by omega, by omega, i5, i6⟩
theorem part_ok {s : Bs} {p q : Nat} {l : List Sp.S} (hp : p ≤ s.length) (h : Sp.partM s p = (some l, q)) :
    Sp.okL l ∧ Sp.Normed l ∧ l.length + 3 * p ≤ 3 * q + 2 ∧ p < q ∧ q ≤ s.length ∧ (q = s.length ∨ s[q]? = some 124) := by
  have hb := Sp.bl_le s p hp
  obtain ⟨i1, i2, i3, i4, i5, i6⟩ := partG_ok s (s.length + 1) (Sp.blM s p) [] l q hb.2 (fun _ h => nomatch h) h
  simp only [List.length_nil] at i3
  exact ⟨i1, i2, by omega, by omega, i5, i6⟩
end Go.Proofs.YtninheehoabbbaaGreatDoor

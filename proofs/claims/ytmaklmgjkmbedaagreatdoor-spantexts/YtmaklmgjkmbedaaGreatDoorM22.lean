/-
  Rows of spans of unlike spans are written unlike.
-/
import Derived.Test.YtmaklmgjkmbedaaGreatDoorN11
import Derived.Test.YtmaklmgjkmbedaaGreatDoorM21
namespace Go.Proofs.YtmaklmgjkmbedaaGreatDoor
set_option linter.unusedVariables false
open Go.RowKit Go.Vr Go.Sort Go.Tx Go.Lib

theorem lo_some {s : Sp.S} (h : Sp.okS s) : s.1 = some (lo s) := by
  obtain ⟨⟨p, hp⟩, _⟩ := h
  unfold lo; rw [hp]; rfl
theorem one_inj {s t : Sp.S} {r q : Bs} (hs : Sp.okS s) (ht : Sp.okS t) (h : tOne s ++ r = tOne t ++ q) : s = t ∧ r = q := by
  have v1 := Sp.txt_bytes (lo_ok hs)
  have v2 := Sp.txt_bytes (lo_ok ht)
  have h1 : tOne s ++ r = (if (lo s).2 then (40 : UInt8) else 91) :: (txt (lo s).1 ++ 44 :: (tHigh s ++ r)) := by unfold tOne tLow; simp
  have h2 : tOne t ++ q = (if (lo t).2 then (40 : UInt8) else 91) :: (txt (lo t).1 ++ 44 :: (tHigh t ++ q)) := by unfold tOne tLow; simp
  rw [h1, h2] at h
  injection h with e1 e2
  obtain ⟨e3, _, e4⟩ := Sp.cut_eq (p := Sp.isVb) v1 v2 (by decide) (by decide) e2
  have e5 := Sp.txt_inj (lo_ok hs) (lo_ok ht) e3
  have e6 : (lo s).2 = (lo t).2 := by
    revert e1
    cases (lo s).2 <;> cases (lo t).2 <;> simp
  have e7 : s.1 = t.1 := by rw [lo_some hs, lo_some ht]; exact congrArg some (Prod.ext e5 e6)
  obtain ⟨s1, s2⟩ := s
  obtain ⟨t1, t2⟩ := t
  simp only at e7
  subst e7
  unfold tHigh at e4
  simp only at e4
  cases s2 with
  | none =>
    cases t2 with
    | none =>
      injection e4 with _ e8
      exact ⟨rfl, e8⟩
    | some p =>
      simp only at e4
      unfold txt at e4
      injection e4 with e8 _
      exact absurd e8 (by decide)
  | some p =>
    cases t2 with
    | none =>
      simp only at e4
      unfold txt at e4
      injection e4 with e8 _
      exact absurd e8 (by decide)
    | some p' =>
      simp only [List.append_assoc, List.cons_append, List.nil_append] at e4
      have w1 := hs.2.2 p rfl
      have w2 := ht.2.2 p' rfl
      obtain ⟨e8, e9, e10⟩ := Sp.cut_eq (p := Sp.isVb) (Sp.txt_bytes w1) (Sp.txt_bytes w2) (by cases p.2 <;> decide) (by cases p'.2 <;> decide) e4
      have e11 := Sp.txt_inj w1 w2 e8
      have e12 : p.2 = p'.2 := by
        revert e9
        cases p.2 <;> cases p'.2 <;> simp
      exact ⟨by rw [show p = p' from Prod.ext e11 e12], e10⟩
theorem join_cons (x : Bs) (r : List Bs) (sep : Bs) : Lib.join (x :: r) sep = x ++ (if r = [] then [] else sep ++ Lib.join r sep) := by
  cases r with
  | nil => simp [Lib.join]
  | cons y r => simp [Lib.join]
theorem rows_inj : ∀ (l m : List Sp.S), Sp.okL l → Sp.okL m → Lib.join (l.map tOne) [32, 124, 124, 32] = Lib.join (m.map tOne) [32, 124, 124, 32] → l ≠ [] → m ≠ [] → l = m
  | [], _, _, _, _, h, _ => absurd rfl h
  | _ :: _, [], _, _, _, _, h => absurd rfl h
  | s :: l, t :: m, hl, hm, h, _, _ => by
    rw [List.map_cons, List.map_cons, join_cons, join_cons] at h
    obtain ⟨rfl, h2⟩ := one_inj (hl s (by simp)) (hm t (by simp)) h
    have hmp : ∀ k : List Sp.S, k.map tOne = [] ↔ k = [] := fun k => List.map_eq_nil_iff
    by_cases e1 : l = []
    · by_cases e2 : m = []
      · rw [e1, e2]
      · rw [if_pos ((hmp l).2 e1), if_neg (fun h => e2 ((hmp m).1 h))] at h2
        simp at h2
    · by_cases e2 : m = []
      · rw [if_neg (fun h => e1 ((hmp l).1 h)), if_pos ((hmp m).2 e2)] at h2
        simp at h2
      · rw [if_neg (fun h => e1 ((hmp l).1 h)), if_neg (fun h => e2 ((hmp m).1 h))] at h2
        have h3 := List.append_cancel_left h2
        rw [rows_inj l m (fun x hx => hl x (by simp [hx])) (fun x hx => hm x (by simp [hx])) h3 e1 e2]
theorem head_one (s : Sp.S) (l : List Sp.S) : ∃ r, Lib.join ((s :: l).map tOne) [32, 124, 124, 32] = (if (lo s).2 then (40 : UInt8) else 91) :: r := by
  rw [List.map_cons, join_cons]
  unfold tOne tLow
  exact ⟨_, rfl⟩
theorem tAll_inj {l m : List Sp.S} (hl : Sp.okL l) (hm : Sp.okL m) (h : tAll l = tAll m) : l = m := by
  unfold tAll at h
  by_cases e1 : l = []
  · by_cases e2 : m = []
    · rw [e1, e2]
    · rw [if_pos e1, if_neg e2] at h
      obtain ⟨s, m', rfl⟩ := List.exists_cons_of_ne_nil e2
      obtain ⟨r, hr⟩ := head_one s m'
      rw [hr] at h
      injection h with h _
      revert h
      cases (lo s).2 <;> simp
  · by_cases e2 : m = []
    · rw [if_neg e1, if_pos e2] at h
      obtain ⟨s, l', rfl⟩ := List.exists_cons_of_ne_nil e1
      obtain ⟨r, hr⟩ := head_one s l'
      rw [hr] at h
      injection h with h _
      revert h
      cases (lo s).2 <;> simp
    · rw [if_neg e1, if_neg e2] at h
      exact rows_inj l m hl hm h e1 e2
end Go.Proofs.YtmaklmgjkmbedaaGreatDoor

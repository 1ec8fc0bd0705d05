/-
  Contracts of rightPre, Right, number, dotted.
-/
import Derived.Test.YtninheehoabbbaaGreatDoorU3
namespace Go.Proofs.YtninheehoabbbaaGreatDoor
set_option linter.unusedSimpArgs false
set_option linter.unusedVariables false
open Go.RowKit Go.Vr Go.Sort Go.Tx Go.Lib
attribute [local go_sem] setCellDrewN allocDrewN

theorem preOk_eq (p : ByteArray) : preOk p.data.toList = (decide (p.size ≤ 40) && (decide (p.size = 0) || (words p.data.toList).all wordOk)) := by unfold preOk; rw [len_eq, isEmpty_eq]
theorem any_not (ws : List Bs) : (ws.any fun x => !wordOk x) = !(ws.all wordOk) := by
  induction ws with
  | nil => rfl
  | cons x ws ih => simp only [List.any_cons, List.all_cons, ih, Bool.not_and]

set_option maxHeartbeats 1000000 in
set_option maxRecDepth 100000 in
theorem rightPre_any (p : ByteArray) (w : World) (hs : p.size ≤ maxLen) (he : Env w) :
    Calls Tryz.prog 147 #[.string p] w fun e w' => e = .returned (.bool (preOk p.data.toList)) ∧ Below w.heap.size w w' := by
  have HE := hide he
  clear he
  unfold maxLen at hs
  by_cases h0 : p.size = 0
  · have he : p.toList.isEmpty = true := by rw [empty_eq]; simpa using h0
    have HF : Hid (preOk p.data.toList = true) := by show preOk _ = true; rw [preOk_eq, h0]; rfl
    clear h0
    go_enter Tryz.func147, Tryz.ntmps147
    go_wp2
    go_ret
    exact ⟨ret_bool HF.out.symm, Below.refl _ _⟩
  have he : p.toList.isEmpty = false := by rw [empty_eq]; simpa using h0
  by_cases h4 : p.size ≤ 40
  · have d4 : decide ((p.size : Int) ≤ 40) = true := by simp; omega
    have HF : Hid (preOk p.data.toList = (words p.data.toList).all wordOk) := by show preOk _ = _; rw [preOk_eq, decide_eq_true h4, decide_eq_false h0]; rfl
    have hcn := words_count p.data.toList
    have hwl := words_len p.data.toList
    rw [len_eq] at hcn hwl
    have hne := words_ne p.data.toList
    clear h0
    go_enter Tryz.func147, Tryz.ntmps147
    go_wp2_with fail
    refine (vwords_any p _ (by omega) HE.out).mono ?_
    rintro e w1 ⟨v, rfl, hown, hB⟩
    generalize words p.data.toList = ws at *
    obtain ⟨g, cap, rfl, hg, hnc, hcm, hcell⟩ := own_at hown (List.length_pos_iff.2 hne)
    have HC := hide (containsF_any 167 #[] wrongWord_enters (fun x => !wordOk x) g 0 ws.length cap ws w1 (own_row hown) (by omega) (fun W x hx hb => by
      have := wrongWord_any (str x) W (by have := hwl x hx; rw [Tx.str_size]; omega)
      rw [str_list] at this
      simpa using this))
    clear hcell hown
    go_wp2_with fail
    refine HC.out.mono ?_
    rw [any_not]
    rintro e w2 ⟨rfl, hb⟩
    go_wp2_with fail
    go_ret
    exact ⟨ret_bool (by rw [HF.out]), step hB hb⟩
  · have d4 : decide ((p.size : Int) ≤ 40) = false := by simp; omega
    have HF : Hid (preOk p.data.toList = false) := by show preOk _ = _; rw [preOk_eq, decide_eq_false h4]; rfl
    go_enter Tryz.func147, Tryz.ntmps147
    go_wp2_with fail
    go_ret
    exact ⟨ret_bool HF.out.symm, Below.refl _ _⟩

set_option maxHeartbeats 1000000 in
set_option maxRecDepth 100000 in
theorem right_any (v : V) (w : World) (hs : v.p.size ≤ maxLen) (he : Env w) :
    Calls Tryz.prog 125 #[val v] w fun e w' => e = .returned (.bool v.ok) ∧ Below w.heap.size w w' := by
  obtain ⟨a, b, c, p⟩ := v
  simp only at hs
  have hB0 : Below w.heap.size w (w.alloc (.cells #[.int .i64 a, .int .i64 b, .int .i64 c, .string p] 37)) := (Below.refl _ _).alloc (Nat.le_refl _) _
  have HE : Hid (Env (w.alloc (.cells #[.int .i64 a, .int .i64 b, .int .i64 c, .string p] 37))) := he.later hB0
  have HV : Hid (V.ok ⟨a, b, c, p⟩ = (partOk a && partOk b && partOk c && preOk p.data.toList)) := rfl
  clear he
  cases h1 : partOk a with
  | false =>
    have H1 := hide h1
    go_enter Tryz.func125, Tryz.ntmps125
    go_wp2_with fail
    refine (rightPart_any _ _).mono ?_
    rintro e w1 ⟨rfl, rfl⟩
    go_wp2_with fail
    go_ret
    exact ⟨ret_bool (by rw [HV.out, H1.out]; rfl), hB0⟩
  | true =>
    cases h2 : partOk b with
    | false =>
      have H1 := hide h1
      have H2 := hide h2
      go_enter Tryz.func125, Tryz.ntmps125
      go_wp2_with fail
      refine (rightPart_any _ _).mono ?_
      rintro e w1 ⟨rfl, rfl⟩
      go_wp2_with fail
      refine (rightPart_any _ _).mono ?_
      rintro e w1 ⟨rfl, rfl⟩
      go_wp2_with fail
      go_ret
      exact ⟨ret_bool (by rw [HV.out, H1.out, H2.out]; rfl), hB0⟩
    | true =>
      cases h3 : partOk c with
      | false =>
        have H1 := hide h1
        have H2 := hide h2
        have H3 := hide h3
        go_enter Tryz.func125, Tryz.ntmps125
        go_wp2_with fail
        refine (rightPart_any _ _).mono ?_
        rintro e w1 ⟨rfl, rfl⟩
        go_wp2_with fail
        refine (rightPart_any _ _).mono ?_
        rintro e w1 ⟨rfl, rfl⟩
        go_wp2_with fail
        refine (rightPart_any _ _).mono ?_
        rintro e w1 ⟨rfl, rfl⟩
        go_wp2_with fail
        go_ret
        exact ⟨ret_bool (by rw [HV.out, H1.out, H2.out, H3.out]; rfl), hB0⟩
      | true =>
        have H1 := hide h1
        have H2 := hide h2
        have H3 := hide h3
        go_enter Tryz.func125, Tryz.ntmps125
        go_wp2_with fail
        refine (rightPart_any _ _).mono ?_
        rintro e w1 ⟨rfl, rfl⟩
        go_wp2_with fail
        refine (rightPart_any _ _).mono ?_
        rintro e w1 ⟨rfl, rfl⟩
        go_wp2_with fail
        refine (rightPart_any _ _).mono ?_
        rintro e w1 ⟨rfl, rfl⟩
        go_wp2_with fail
        refine (rightPre_any _ _ hs HE.out).mono ?_
        rintro e w1 ⟨rfl, hb⟩
        go_wp2_with fail
        go_ret
        exact ⟨ret_bool (by rw [HV.out, H1.out, H2.out, H3.out]; rfl), hB0.trans (hb.mono (by simp))⟩

set_option maxHeartbeats 400000 in
theorem number_any (s : ByteArray) (w : World) (hs : s.size ≤ 100000) (he : Env w) :
    Calls Tryz.prog 124 #[.string s] w fun e w' => e = .returned (.int .i64 (num s.data.toList)) ∧ Below w.heap.size w w' := by
  have HE := hide he
  clear he
  go_enter Tryz.func124, Tryz.ntmps124
  go_wp2_with fail
  refine (atoi_any s _ hs HE.out).mono ?_
  rintro e w1 ⟨x, rfl, hb⟩
  go_wp2_with fail
  go_ret
  exact ⟨rfl, hb⟩

set_option maxHeartbeats 400000 in
theorem dotted_any (bk o c : Nat) (xs : List ByteArray) (w : World) (hcells : ∀ (j : Nat) x, xs[j]? = some x → w.cell? ⟨bk, o + j, none⟩ = some (.string x)) (hbk : bk < w.heap.size) (hN : xs.length ≤ 100) (hcap : xs.length ≤ c) (hlen : (join (xs.map (·.data.toList)) [46]).length ≤ 100000) :
    Calls Tryz.prog 78 #[.slice (some ⟨bk, o, none⟩) xs.length c] w fun e w' => e = .returned (.string (str (join (xs.map (·.data.toList)) [46]))) ∧ Below w.heap.size w w' := by
  have HJ := hide (join_any bk o c xs w hcells hbk hN hcap hlen)
  clear hcells
  go_enter Tryz.func78, Tryz.ntmps78
  go_wp2_with fail
  refine HJ.out.mono ?_
  rintro e w1 ⟨rfl, hb⟩
  go_wp2_with fail
  go_ret
  exact ⟨rfl, hb⟩

end Go.Proofs.YtninheehoabbbaaGreatDoor

/-
  Contracts of final, cmp.Or, cmpWord.
-/
import Derived.Test.YtninheehoabbbaaGreatDoorU4
namespace Go.Proofs.YtninheehoabbbaaGreatDoor
set_option linter.unusedSimpArgs false
set_option linter.unusedVariables false
open Go.RowKit Go.Vr Go.Sort Go.Tx Go.Lib
attribute [local go_sem] setCellDrewN allocDrewN

set_option maxHeartbeats 400000 in
theorem final_any (a b c : Int) (p : ByteArray) (w : World) :
    Calls Tryz.prog 82 #[ver a b c p] w fun e w' => e = .returned (ver a b c ⟨#[]⟩) ∧ Below w.heap.size w w' := by
  go_enter Tryz.func82, Tryz.ntmps82
  go_wp2_with fail
  exact bodyPost_ret (v := ver a b c ⟨#[]⟩) (by simp [results, Tryz.results82, go_sem]) rfl ⟨rfl, ((Below.refl _ _).alloc (Nat.le_refl _) _).alloc (by simp) _⟩

/-- The first that is not 0. -/
def orL : List Int → Int
  | [] => 0
  | x :: xs => seq x (orL xs)

set_option maxHeartbeats 1000000 in
theorem or_any (g n cap : Nat) (xs : List Int) (w : World) (hn : xs.length = n) (h10 : n ≤ 10) (hc : ∀ i, i < n → w.cell? ⟨g, i, none⟩ = some (.int .i64 (xs.getD i 0))) :
    Calls Tryz.prog 60 #[.slice (some ⟨g, 0, none⟩) n cap] w fun e w' => e = .returned (.int .i64 (orL xs)) ∧ w' = w := by
  have HN := hide hn
  have HC := hide hc
  clear hn hc
  go_enter Tryz.func60, Tryz.ntmps60
  go_wp2_with fail
  go_loop [5, 8] (fun _ i => ∃ k : Nat, k ≤ n ∧ i = .int .i64 k ∧ Hid (orL xs = orL (xs.drop k))) (fun _ i => n - (RowKit.intOf i).toNat)
  case atStart => exact ⟨0, by omega, rfl, rfl⟩
  case round =>
    obtain ⟨k, hk, rfl, HO⟩ := hrel
    by_cases hlt : k < n
    · have hcl := HC.out k hlt
      have hlx : k < xs.length := by rw [HN.out]; exact hlt
      have HO2 : Hid (orL xs = seq (xs.getD k 0) (orL (xs.drop (k + 1)))) := by
        show orL xs = _
        rw [HO.out, List.drop_eq_getElem_cons hlx, List.getD_eq_getElem?_getD, List.getElem?_eq_getElem hlx]; rfl
      generalize xs.getD k 0 = x at *
      have i1 : (0 : Int) ≤ (k : Int) := by omega
      have i2 : (k : Int) < (n : Int) := by omega
      cases hq : (x != 0) with
      | true =>
        have HR : Hid (orL xs = x) := by show orL xs = x; rw [HO2.out]; exact seq_ne (by simpa using hq)
        go_wp2_with fail
        go_ret
        exact ⟨ret_int HR.out.symm, rfl⟩
      | false =>
        have HR : Hid (orL xs = orL (xs.drop (k + 1))) := by
          show orL xs = _
          have e : x = 0 := by simpa using hq
          rw [HO2.out, e, seq_zero]
        go_wp2_with fail
        go_round
        case rel => exact ⟨k + 1, by omega, by go_num, HR⟩
        case measure => simp [RowKit.intOf]; omega
    · have hd : decide ((k : Int) < (n : Int)) = false := by simp; omega
      have HR : Hid (orL xs = 0) := by
        show orL xs = 0
        rw [HO.out, List.drop_of_length_le (by rw [HN.out]; omega)]; rfl
      go_wp2_with fail
      go_ret
      exact ⟨ret_int HR.out.symm, rfl⟩

theorem or2 (x y : Int) (w : World) : Calls Tryz.prog 60 #[.slice (some ⟨w.heap.size, 0, none⟩) 2 2] (w.alloc (.cells #[.int .i64 x, .int .i64 y] 3)) fun e w' => e = .returned (.int .i64 (seq x y)) ∧ Below w.heap.size w w' := by
  have := or_any w.heap.size 2 2 [x, y] (w.alloc (.cells #[.int .i64 x, .int .i64 y] 3)) rfl (by omega) (fun i hi => by
    match i, hi with
    | 0, _ => simp [go_sem]
    | 1, _ => simp [go_sem])
  have e : orL [x, y] = seq x y := by show seq x (seq y 0) = _; rw [seq_right]
  rw [e] at this
  exact this.mono fun e w' h => ⟨h.1, h.2 ▸ (Below.refl _ _).alloc (Nat.le_refl _) _⟩
theorem or3 (x y z : Int) (w : World) : Calls Tryz.prog 60 #[.slice (some ⟨w.heap.size, 0, none⟩) 3 3] (w.alloc (.cells #[.int .i64 x, .int .i64 y, .int .i64 z] 3)) fun e w' => e = .returned (.int .i64 (seq x (seq y z))) ∧ Below w.heap.size w w' := by
  have := or_any w.heap.size 3 3 [x, y, z] (w.alloc (.cells #[.int .i64 x, .int .i64 y, .int .i64 z] 3)) rfl (by omega) (fun i hi => by
    match i, hi with
    | 0, _ => simp [go_sem]
    | 1, _ => simp [go_sem]
    | 2, _ => simp [go_sem])
  have e : orL [x, y, z] = seq x (seq y z) := by show seq x (seq y (seq z 0)) = _; rw [seq_right]
  rw [e] at this
  exact this.mono fun e w' h => ⟨h.1, h.2 ▸ (Below.refl _ _).alloc (Nat.le_refl _) _⟩

/-- made of digits, of a word that is not empty. -/
theorem madeDigits (s : ByteArray) (W : World) (hs : s.size ≤ 100000) (hn : s.size ≠ 0) :
    Calls Tryz.prog 111 #[.string s, .slice (some ⟨W.heap.size, 0, none⟩) 1 1] (W.alloc (.cells #[.string ⟨#[48, 49, 50, 51, 52, 53, 54, 55, 56, 57]⟩] 9)) fun e w' => e = .returned (.bool (digs s.data.toList)) ∧ Below W.heap.size W w' := by
  have := made_any s W.heap.size 0 1 1 [digitsL] _ hs (row_new W [digitsL] 1) (by omega)
  rw [dig_is] at this
  have e : digs s.data.toList = s.data.toList.all isDig := by rw [digs_eq]; simp [hn]
  rw [e]
  generalize s.data.toList.all isDig = q at this ⊢
  simp [digitsL] at this
  exact this.mono fun e w' h => ⟨h.1, ((Below.refl _ _).alloc (Nat.le_refl _) _).trans (h.2.mono (by omega))⟩

set_option maxHeartbeats 2000000 in
set_option maxRecDepth 100000 in
theorem cmpWord_any (x y : ByteArray) (w : World) (hx : x.size ≤ 10000) (hy : y.size ≤ 10000) (nx : x.size ≠ 0) (ny : y.size ≠ 0) :
    Calls Tryz.prog 86 #[.string x, .string y] w fun e w' => e = .returned (.int .i64 (cmpW x.data.toList y.data.toList)) ∧ Below w.heap.size w w' := by
  have MX := hide (fun W => madeDigits x W (by omega) nx)
  have MY := hide (fun W => madeDigits y W (by omega) ny)
  clear nx ny
  cases hp : digs x.data.toList with
  | true =>
    cases hq : digs y.data.toList with
    | true =>
      have HC : Hid (cmpW x.data.toList y.data.toList = seq (compareInt x.size y.size) (compareBytes x.data.toList y.data.toList)) := by show cmpW _ _ = _; rw [cmpW_both hp hq, len_eq, len_eq]
      rw [hp] at MX
      rw [hq] at MY
      clear hp hq
      go_enter Tryz.func86, Tryz.ntmps86
      go_wp2_with fail
      refine (MX.out _).mono ?_
      rintro e w1 ⟨rfl, b1⟩
      go_wp2_with fail
      refine (MY.out _).mono ?_
      rintro e w2 ⟨rfl, b2⟩
      go_wp2_with fail
      refine (cmpInt_any _ _ _).mono ?_
      rintro e w3 ⟨rfl, rfl⟩
      go_wp2_with fail
      refine (compare_any _ _ _).mono ?_
      rintro e w3 ⟨rfl, rfl⟩
      go_wp2_with fail
      refine (or2 _ _ _).mono ?_
      rintro e w3 ⟨rfl, b3⟩
      go_wp2_with fail
      go_ret
      exact ⟨ret_int HC.out.symm, step (step b1 b2) b3⟩
    | false =>
      have HC := hide (cmpW_left hp hq)
      rw [hp] at MX
      rw [hq] at MY
      clear hp hq
      go_enter Tryz.func86, Tryz.ntmps86
      go_wp2_with fail
      refine (MX.out _).mono ?_
      rintro e w1 ⟨rfl, b1⟩
      go_wp2_with fail
      refine (MY.out _).mono ?_
      rintro e w2 ⟨rfl, b2⟩
      go_wp2_with fail
      go_ret
      exact ⟨ret_int HC.out.symm, step b1 b2⟩
  | false =>
    cases hq : digs y.data.toList with
    | true =>
      have HC := hide (cmpW_right hp hq)
      rw [hp] at MX
      rw [hq] at MY
      clear hp hq
      go_enter Tryz.func86, Tryz.ntmps86
      go_wp2_with fail
      refine (MX.out _).mono ?_
      rintro e w1 ⟨rfl, b1⟩
      go_wp2_with fail
      refine (MY.out _).mono ?_
      rintro e w2 ⟨rfl, b2⟩
      go_wp2_with fail
      go_ret
      exact ⟨ret_int HC.out.symm, step b1 b2⟩
    | false =>
      have HC := hide (cmpW_none hp hq)
      rw [hp] at MX
      rw [hq] at MY
      clear hp hq
      go_enter Tryz.func86, Tryz.ntmps86
      go_wp2_with fail
      refine (MX.out _).mono ?_
      rintro e w1 ⟨rfl, b1⟩
      go_wp2_with fail
      refine (MY.out _).mono ?_
      rintro e w2 ⟨rfl, b2⟩
      go_wp2_with fail
      refine (compare_any _ _ _).mono ?_
      rintro e w3 ⟨rfl, rfl⟩
      go_wp2_with fail
      go_ret
      exact ⟨ret_int HC.out.symm, step b1 b2⟩

theorem cmpWord_enters : ∀ args w, (callFunc 86 args).run Tryz.prog w = .ok (.enter 86 args) w := enters_of Tryz.func86 (by kernel_rfl) rfl

end Go.Proofs.YtninheehoabbbaaGreatDoor

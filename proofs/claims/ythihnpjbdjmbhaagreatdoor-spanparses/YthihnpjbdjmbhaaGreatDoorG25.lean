/-
  Contracts of a reader's done, blanks, bars, word.
  Contracts of a reader's word, bars.
-/
import Derived.Test.YthihnpjbdjmbhaaGreatDoorG24
import Derived.BigQuiet

namespace Go.Proofs.YthihnpjbdjmbhaaGreatDoor
set_option linter.unusedSimpArgs false
set_option linter.unusedVariables false
open Go.RowKit Go.Vr Go.Sort Go.Tx Go.Lib
attribute [local go_sem] setCellDrewN allocDrewN

abbrev rd (s : ByteArray) (p : Nat) : Array Value := #[.string s, .int .i64 p]

set_option maxHeartbeats 2000000 in
theorem done_any (R : Nat) (s : ByteArray) (p : Nat) (w : World) (X : Box w R (rd s p)) :
    Calls Tryz.prog 42 #[.pointer (some ⟨R, 0, none⟩)] w fun e w' => e = .returned (.bool (decide (p = s.size))) ∧ ∃ m, w' = w.drewN m := by
  obtain ⟨lt, c, f⟩ := X
  go_enter Tryz.func42, Tryz.ntmps42
  go_wp2_with fail
  go_quiet (fail)
  go_wp2_with fail
  go_ret
  refine ⟨ret_bool ?_, _, rfl⟩
  by_cases h : p = s.size
  · simp [h]
  · rw [decide_eq_false h]
    simpa using (by omega : ¬ (p : Int) = (s.size : Int))

theorem set1 {w : World} {R : Nat} {s : ByteArray} {p : Nat} (X : Box w R (rd s p)) (q : Int) (k : Nat) (h : q = k) : Box (w.setCell ⟨R, 1, none⟩ (.int .i64 q)) R (rd s k) := by
  subst h
  exact X.set 1 (.int .i64 k) (by simp)
theorem bl_stop {s : Bs} {p : Nat} (h : s[p]? ≠ some 32) : Sp.blM s p = p := by
  unfold Sp.blM
  cases e : s.drop p with
  | nil => simp
  | cons c r =>
    have hc : s[p]? = some c := by
      have := congrArg (fun l => l[0]?) e
      simpa [List.getElem?_drop] using this
    have : ¬ c = 32 := fun k => h (by rw [hc, k])
    simp [this]
theorem bl_more {s : Bs} {p : Nat} (h : s[p]? = some 32) : Sp.blM s p = Sp.blM s (p + 1) := by
  unfold Sp.blM
  have hlt := (List.getElem?_eq_some_iff.1 h).1
  have e : s.drop p = 32 :: s.drop (p + 1) := by
    rw [List.drop_eq_getElem_cons hlt, (List.getElem?_eq_some_iff.1 h).2]
  rw [e]
  simp
  omega

set_option maxHeartbeats 8000000 in
set_option maxRecDepth 100000 in
theorem blanks_any (R : Nat) (s : ByteArray) (p : Nat) (w : World) (X : Box w R (rd s p)) (hp : p ≤ s.size) (hs : s.size ≤ 1000000) :
    Calls Tryz.prog 67 #[.pointer (some ⟨R, 0, none⟩)] w fun e w' => e = .returned (.tuple #[]) ∧ Box w' R (rd s (Sp.blM s.data.toList p)) ∧ w.grownBy w' (some R) := by
  go_enter Tryz.func67, Tryz.ntmps67
  go_wp2_with fail
  go_loopg [2] (s.size - p) (fun g _ wr => ∃ q : Nat, q ≤ s.size ∧ g = s.size - q ∧ Box wr R (rd s q) ∧ w.grownBy wr (some R) ∧ Hid (Sp.blM s.data.toList p = Sp.blM s.data.toList q))
  case atStart => exact ⟨p, hp, rfl, X, ⟨rfl, rfl, rfl, Nat.le_refl _, fun _ _ _ => rfl⟩, rfl⟩
  case round =>
    obtain ⟨q, hq, rfl, Y, g1, HB⟩ := hrel
    have CD : Hid (∀ m, Calls Tryz.prog 42 #[.pointer (some ⟨R, 0, none⟩)] (wr.drewN m) fun e w' => e = .returned (.bool (decide (q = s.size))) ∧ ∃ n, w' = (wr.drewN m).drewN n) := fun m => done_any R s q _ (Y.later (belDrewN wr m))
    have cY := Y.c
    have fY := Y.f
    have HY := hide Y
    by_cases he : q = s.size
    · have hd : decide (q = s.size) = true := decide_eq_true he
      rw [hd] at CD
      have HF : Hid (Sp.blM s.data.toList p = q) := by
        show _ = _
        rw [HB.out]
        refine bl_stop ?_
        rw [List.getElem?_eq_none (by rw [len_eq]; omega)]; exact fun h => nomatch h
      clear hd he
      go_wp2_with fail
      go_quiet (first | (go_at_call 42; exact Calls.quiet_of (CD.out _)))
      have b1 := belDrewN wr nq
      have Y1 := HY.out.later b1
      have g2 := grownBy_trans g1 (grownBy_below (some R) b1) (.inl rfl)
      clear cY CD
      go_wp2_with fail
      go_end0
      exact ⟨rfl, by rw [HF.out]; exact Y1, g2⟩
    · have hd : decide (q = s.size) = false := decide_eq_false he
      rw [hd] at CD
      have hlt : q < s.size := by omega
      have i1 : (0 : Int) ≤ (q : Int) := by omega
      have i2 : (q : Int) < (s.size : Int) := by omega
      have hget : s.data.toList[q]? = some s[q] := Lib.data_getElem? s q hlt
      by_cases hc : s[q] = 32
      · have HF : Hid (Sp.blM s.data.toList p = Sp.blM s.data.toList (q + 1)) := by
          show _ = _
          rw [HB.out]; exact bl_more (by rw [hget, hc])
        clear hd he hget
        go_wp2_with fail
        go_quiet (first | (go_at_call 42; exact Calls.quiet_of (CD.out _)))
        go_wp2_with fail
        go_roundg (s.size - (q + 1))
        case measure => omega
        case rel =>
          have hb := belDrewN (wr.setCell ⟨R, 1, none⟩ (.int .i64 ((q : Int) + 1))) nq
          exact ⟨q + 1, by omega, rfl, (set1 HY.out ((q : Int) + 1) (q + 1) (by omega)).later hb, grownBy_trans (grownBy_trans g1 (grownBy_setCell _ _ _ _) (.inl rfl)) (grownBy_below (some R) hb) (.inl rfl), HF⟩
      · have HF : Hid (Sp.blM s.data.toList p = q) := by
          show _ = _
          rw [HB.out]; exact bl_stop (by rw [hget]; exact fun h => hc (Option.some.inj h))
        have hne : ((s[q].toNat : Int) == 32) = false := by
          have : ¬ s[q].toNat = 32 := fun h => hc (UInt8.toNat_inj.1 h)
          simpa using (by omega : ¬ (s[q].toNat : Int) = 32)
        clear hd he hget hc
        go_wp2_with fail
        go_quiet (first | (go_at_call 42; exact Calls.quiet_of (CD.out _)))
        have b1 := belDrewN wr nq
        have Y1 := HY.out.later b1
        have g2 := grownBy_trans g1 (grownBy_below (some R) b1) (.inl rfl)
        clear cY CD
        go_wp2_with fail
        go_end0
        exact ⟨rfl, by rw [HF.out]; exact Y1, g2⟩
end Go.Proofs.YthihnpjbdjmbhaaGreatDoor

namespace Go.Proofs.YthihnpjbdjmbhaaGreatDoor
set_option linter.unusedSimpArgs false
set_option linter.unusedVariables false
open Go.RowKit Go.Vr Go.Sort Go.Tx Go.Lib
attribute [local go_sem] setCellDrewN allocDrewN

/-- strings.IndexAny at what is left of a text. -/
def IA (s : ByteArray) : Prop := ∀ (p : Nat) (W : World), p ≤ s.size → Calls Tryz.prog 118 #[.string (s.extract p s.size), .string ⟨#[32, 124]⟩] W fun e w' => e = .returned (.int .i64 (indexAny (s.data.toList.drop p) [32, 124])) ∧ RowKit.Below W.heap.size W w'
theorem any_word : ∀ l : Bs, (indexAny l [32, 124] = -1 ∧ l.takeWhile Sp.isW = l) ∨ ∃ k : Nat, indexAny l [32, 124] = k ∧ k ≤ l.length ∧ l.takeWhile Sp.isW = l.take k
  | [] => .inl ⟨rfl, rfl⟩
  | c :: l => by
    have ih := any_word l
    have hc : ([32, 124] : List UInt8).contains c = !Sp.isW c := by
      unfold Sp.isW
      by_cases h1 : c = 32
      · subst h1; decide
      · by_cases h2 : c = 124
        · subst h2; decide
        · simp [h1, h2]
    unfold indexAny
    cases hw : Sp.isW c with
    | false =>
      rw [hw] at hc
      refine .inr ⟨0, ?_, by simp, by simp [hw]⟩
      simp only [hc, Bool.not_false, if_true]
      rfl
    | true =>
      rw [hw] at hc
      rcases ih with ⟨h1, h2⟩ | ⟨k, h1, h2, h3⟩
      · refine .inl ⟨?_, by rw [List.takeWhile_cons, hw, if_pos rfl, h2]⟩
        rw [if_neg (by rw [hc]; decide), h1]; rfl
      · refine .inr ⟨k + 1, ?_, by simp; omega, by rw [List.takeWhile_cons, hw, if_pos rfl, h3]; rfl⟩
        rw [if_neg (by rw [hc]; decide), h1, if_neg (by simp)]
        omega

set_option maxHeartbeats 4000000 in
theorem word_any (R : Nat) (s : ByteArray) (p : Nat) (w : World) (X : Box w R (rd s p)) (hp : p ≤ s.size) (hs : s.size ≤ 1000000) (hia : IA s) :
    Calls Tryz.prog 99 #[.pointer (some ⟨R, 0, none⟩)] w fun e w' => e = .returned (.string (str (Sp.wordM s.data.toList p))) ∧ RowKit.Below w.heap.size w w' := by
  have CI : Hid (∀ W, Calls Tryz.prog 118 #[.string (s.extract p s.size), .string ⟨#[32, 124]⟩] W fun e w' => e = .returned (.int .i64 (indexAny (s.data.toList.drop p) [32, 124])) ∧ RowKit.Below W.heap.size W w') := fun W => hia p W hp
  have i1 : (0 : Int) ≤ (p : Int) := by omega
  have i2 : (p : Int) ≤ (s.size : Int) := by omega
  have hy : (s.extract p s.size).data.toList = s.data.toList.drop p := by
    simp only [ByteArray.data_extract, Array.toList_extract, List.extract_eq_take_drop]
    rw [List.take_of_length_le (by rw [List.length_drop, len_eq]; exact Nat.le_refl _)]
  have hyz : (s.extract p s.size).size = s.size - p := by rw [← len_eq, hy, List.length_drop, len_eq]
  have hk := any_word (s.data.toList.drop p)
  have HW : Hid (Sp.wordM s.data.toList p = (s.data.toList.drop p).takeWhile Sp.isW) := rfl
  obtain ⟨lt, cX, fX⟩ := X
  rcases hk with ⟨h1, h2⟩ | ⟨k, h1, h2, h3⟩
  · rw [h1] at CI
    have HR : Hid (str (Sp.wordM s.data.toList p) = s.extract p s.size) := by
      show _ = _
      rw [HW.out, h2]
      exact ba_ext (by rw [str_list, hy])
    clear h1 h2 hia HW hy hyz
    go_enter Tryz.func99, Tryz.ntmps99
    go_wp2_with fail
    go_quiet (fail)
    have b0 := belDrewN w nq
    go_wp2_with fail
    refine (CI.out _).mono ?_
    rintro e w1 ⟨rfl, b1⟩
    have hB := step b0 b1
    clear b0 b1 CI
    go_wp2_with fail
    go_ret
    exact ⟨ret_str HR.out.symm, hB⟩
  · rw [h1] at CI
    rw [List.length_drop, len_eq] at h2
    have HR : Hid (str (Sp.wordM s.data.toList p) = (s.extract p s.size).extract 0 k) := by
      show _ = _
      rw [HW.out, h3]
      refine ba_ext ?_
      rw [str_list, ByteArray.data_extract, Array.toList_extract, List.extract_eq_take_drop, hy]
      simp
    have j1 : (0 : Int) ≤ (k : Int) := by omega
    have j2 : (k : Int) ≤ ((s.extract p s.size).size : Int) := by omega
    clear h1 h3 hia HW hy
    go_enter Tryz.func99, Tryz.ntmps99
    go_wp2_with fail
    go_quiet (fail)
    have b0 := belDrewN w nq
    go_wp2_with fail
    refine (CI.out _).mono ?_
    rintro e w1 ⟨rfl, b1⟩
    have hB := step b0 b1
    clear b0 b1 CI
    go_wp2_with fail
    go_ret
    exact ⟨ret_str HR.out.symm, hB⟩

/-- Two bars, or where the second one is not. -/
def Barred (s : ByteArray) (p R : Nat) (e : Ending) (w' : World) : Prop := if s.data.toList[p + 1]? = some 124 then e = .returned (.bool true) ∧ Box w' R (rd s (p + 2)) else e = .returned (.bool false) ∧ Box w' R (rd s (p + 1))
set_option maxHeartbeats 8000000 in
set_option maxRecDepth 100000 in
theorem bars_any (R : Nat) (s : ByteArray) (p : Nat) (w : World) (X : Box w R (rd s p)) (hp : s.data.toList[p]? = some 124) (hs : s.size ≤ 1000000) :
    Calls Tryz.prog 43 #[.pointer (some ⟨R, 0, none⟩)] w fun e w' => Barred s p R e w' ∧ w.grownBy w' (some R) := by
  have hps : p < s.size := by rw [← len_eq]; exact (List.getElem?_eq_some_iff.1 hp).1
  have HP := hide hp
  clear hp
  go_enter Tryz.func43, Tryz.ntmps43
  go_wp2_with fail
  go_loopw [3] (fun i wr => ∃ j : Nat, j ≤ 2 ∧ i = .int .i64 j ∧ p + j ≤ s.size ∧ Box wr R (rd s (p + j)) ∧ w.grownBy wr (some R) ∧ Hid (j = 2 → s.data.toList[p + 1]? = some 124)) (fun i _ => 2 - (RowKit.intOf i).toNat)
  case atStart => exact ⟨0, by omega, rfl, by omega, X, ⟨rfl, rfl, rfl, Nat.le_refl _, fun _ _ _ => rfl⟩, fun h => by omega⟩
  case round =>
    obtain ⟨j, hj, rfl, hq, Y, g1, HJ⟩ := hrel
    by_cases h2 : j = 2
    · subst h2
      have H124 := hide (HJ.out rfl)
      go_wp2_with fail
      go_ret
      refine ⟨?_, g1⟩
      unfold Barred
      rw [if_pos H124.out]
      exact ⟨rfl, Y⟩
    · have hjl : j < 2 := by omega
      have CD : Hid (∀ m, Calls Tryz.prog 42 #[.pointer (some ⟨R, 0, none⟩)] (wr.drewN m) fun e w' => e = .returned (.bool (decide (p + j = s.size))) ∧ ∃ n, w' = (wr.drewN m).drewN n) := fun m => done_any R s (p + j) _ (Y.later (belDrewN wr m))
      have cY := Y.c
      have fY := Y.f
      have HY := hide Y
      have i0 : (j : Int) < 2 := by omega
      clear Y
      generalize hqq : p + j = q at *
      by_cases he : q = s.size
      · have hd : decide (q = s.size) = true := decide_eq_true he
        rw [hd] at CD
        have hj1 : j = 1 := by omega
        have HN : Hid (¬ s.data.toList[p + 1]? = some 124) := by
          intro h
          have := (List.getElem?_eq_some_iff.1 h).1
          rw [len_eq] at this
          omega
        have HQ : Hid (q = p + 1) := by show _ = _; omega
        clear hd he hj1 hqq HJ
        go_wp2_with fail
        go_quiet (first | (go_at_call 42; exact Calls.quiet_of (CD.out _)))
        have b1 := belDrewN wr nq
        have Y1 := HY.out.later b1
        have g2 := grownBy_trans g1 (grownBy_below (some R) b1) (.inl rfl)
        clear cY CD
        go_wp2_with fail
        go_ret
        refine ⟨?_, g2⟩
        unfold Barred
        rw [if_neg HN.out, ← HQ.out]
        exact ⟨rfl, Y1⟩
      · have hd : decide (q = s.size) = false := decide_eq_false he
        rw [hd] at CD
        have hlt : q < s.size := by omega
        have i1 : (0 : Int) ≤ (q : Int) := by omega
        have i2 : (q : Int) < (s.size : Int) := by omega
        have hget : s.data.toList[q]? = some s[q] := Lib.data_getElem? s q hlt
        by_cases hc : s[q] = 124
        · have HJ2 : Hid (j + 1 = 2 → s.data.toList[p + 1]? = some 124) := by
            intro h
            have : p + 1 = q := by omega
            rw [this, hget, hc]
          have HQ : Hid (p + (j + 1) = q + 1) := by show _ = _; omega
          clear hd he hget hqq HJ
          go_wp2_with fail
          go_quiet (first | (go_at_call 42; exact Calls.quiet_of (CD.out _)))
          go_wp2_with fail
          go_roundw
          case rel =>
            have hb := belDrewN (wr.setCell ⟨R, 1, none⟩ (.int .i64 ((q : Int) + 1))) nq
            exact ⟨j + 1, by omega, by go_num, by have := HQ.out; omega, by rw [HQ.out]; exact (set1 HY.out ((q : Int) + 1) (q + 1) (by omega)).later hb, grownBy_trans (grownBy_trans g1 (grownBy_setCell _ _ _ _) (.inl rfl)) (grownBy_below (some R) hb) (.inl rfl), HJ2⟩
          case measure => simp [RowKit.intOf]; omega
        · have HN : Hid (¬ s.data.toList[q]? = some 124) := by
            show ¬ _
            rw [hget]; exact fun h => hc (Option.some.inj h)
          have hj1 : ¬ j = 0 := by
            intro h
            have : q = p := by omega
            exact HN.out (by rw [this]; exact HP.out)
          have HQ : Hid (q = p + 1) := by show _ = _; omega
          have hne : ((s[q].toNat : Int) != 124) = true := by
            have : ¬ s[q].toNat = 124 := fun h => hc (UInt8.toNat_inj.1 h)
            simpa using (by omega : ¬ (s[q].toNat : Int) = 124)
          clear hd he hget hc hqq HJ hj1
          go_wp2_with fail
          go_quiet (first | (go_at_call 42; exact Calls.quiet_of (CD.out _)))
          have b1 := belDrewN wr nq
          have Y1 := HY.out.later b1
          have g2 := grownBy_trans g1 (grownBy_below (some R) b1) (.inl rfl)
          clear cY CD
          go_wp2_with fail
          go_ret
          refine ⟨?_, g2⟩
          unfold Barred
          rw [if_neg (by rw [← HQ.out]; exact HN.out), ← HQ.out]
          exact ⟨rfl, Y1⟩
end Go.Proofs.YthihnpjbdjmbhaaGreatDoor

/-
  Contracts of a reader's done, blanks, bars, word.
-/
import Derived.Test.YtninheehoabbbaaGreatDoorN15
import Derived.Test.YtninheehoabbbaaGreatDoorM19
import Derived.BigQuiet
namespace Go.Proofs.YtninheehoabbbaaGreatDoor
set_option linter.unusedSimpArgs false
set_option linter.unusedVariables false
open Go.RowKit Go.Vr Go.Sort Go.Tx Go.Lib
attribute [local go_sem] setCellDrewN allocDrewN

abbrev rd (s : ByteArray) (p : Nat) : Array Value := #[.string s, .int .i64 p]

set_option maxHeartbeats 2000000 in
theorem done_any (R : Nat) (s : ByteArray) (p : Nat) (w : World) (X : Box w R (rd s p)) :
    Calls Tryz.prog 42 #[.pointer (some ⟨R, 0, none⟩)] w fun e w' => e = .returned (.bool (decide (p = s.size))) ∧ ∃ m, w' = w.drewN m := by
  obtain ⟨lt, c, f⟩ := X
  go_enter Tryz.func42, Tryz.ntmps42
  go_wp2_with fail
  go_quiet (fail)
  go_wp2_with fail
  go_ret
  refine ⟨ret_bool ?_, _, rfl⟩
  by_cases h : p = s.size
  · simp [h]
  · rw [decide_eq_false h]
    simpa using (by omega : ¬ (p : Int) = (s.size : Int))

theorem set1 {w : World} {R : Nat} {s : ByteArray} {p : Nat} (X : Box w R (rd s p)) (q : Int) (k : Nat) (h : q = k) : Box (w.setCell ⟨R, 1, none⟩ (.int .i64 q)) R (rd s k) := by
  subst h
  exact X.set 1 (.int .i64 k) (by simp)
theorem bl_stop {s : Bs} {p : Nat} (h : s[p]? ≠ some 32) : Sp.blM s p = p := by
  unfold Sp.blM
  cases e : s.drop p with
  | nil => simp
  | cons c r =>
    have hc : s[p]? = some c := by
      have := congrArg (fun l => l[0]?) e
      simpa [List.getElem?_drop] using this
    have : ¬ c = 32 := fun k => h (by rw [hc, k])
    simp [this]
theorem bl_more {s : Bs} {p : Nat} (h : s[p]? = some 32) : Sp.blM s p = Sp.blM s (p + 1) := by
  unfold Sp.blM
  have hlt := (List.getElem?_eq_some_iff.1 h).1
  have e : s.drop p = 32 :: s.drop (p + 1) := by
    rw [List.drop_eq_getElem_cons hlt, (List.getElem?_eq_some_iff.1 h).2]
  rw [e]
  simp
  omega

set_option maxHeartbeats 8000000 in
set_option maxRecDepth 100000 in
theorem blanks_any (R : Nat) (s : ByteArray) (p : Nat) (w : World) (X : Box w R (rd s p)) (hp : p ≤ s.size) (hs : s.size ≤ 1000000) :
    Calls Tryz.prog 67 #[.pointer (some ⟨R, 0, none⟩)] w fun e w' => e = .returned (.tuple #[]) ∧ Box w' R (rd s (Sp.blM s.data.toList p)) ∧ w.grownBy w' (some R) := by
  go_enter Tryz.func67, Tryz.ntmps67
  go_wp2_with fail
  go_loopg [2] (s.size - p) (fun g _ wr => ∃ q : Nat, q ≤ s.size ∧ g = s.size - q ∧ Box wr R (rd s q) ∧ w.grownBy wr (some R) ∧ Hid (Sp.blM s.data.toList p = Sp.blM s.data.toList q))
  case atStart => exact ⟨p, hp, rfl, X, ⟨rfl, rfl, rfl, Nat.le_refl _, fun _ _ _ => rfl⟩, rfl⟩
  case round =>
    obtain ⟨q, hq, rfl, Y, g1, HB⟩ := hrel
    have CD : Hid (∀ m, Calls Tryz.prog 42 #[.pointer (some ⟨R, 0, none⟩)] (wr.drewN m) fun e w' => e = .returned (.bool (decide (q = s.size))) ∧ ∃ n, w' = (wr.drewN m).drewN n) := fun m => done_any R s q _ (Y.later (belDrewN wr m))
    have cY := Y.c
    have fY := Y.f
    have HY := hide Y
    by_cases he : q = s.size
    · have hd : decide (q = s.size) = true := decide_eq_true he
      rw [hd] at CD
      have HF : Hid (Sp.blM s.data.toList p = q) := by
        show _ = _
        rw [HB.out]
        refine bl_stop ?_
        rw [List.getElem?_eq_none (by rw [len_eq]; omega)]; exact fun h => nomatch h
      clear hd he
      go_wp2_with fail
      go_quiet (first | (go_at_call 42; exact Calls.quiet_of (CD.out _)))
      have b1 := belDrewN wr nq
      have Y1 := HY.out.later b1
      have g2 := grownBy_trans g1 (grownBy_below (some R) b1) (.inl rfl)
      clear cY CD
      go_wp2_with fail
      go_end0
      exact ⟨rfl, by rw [HF.out]; exact Y1, g2⟩
    · have hd : decide (q = s.size) = false := decide_eq_false he
      rw [hd] at CD
      have hlt : q < s.size := by omega
      have i1 : (0 : Int) ≤ (q : Int) := by omega
      have i2 : (q : Int) < (s.size : Int) := by omega
      have hget : s.data.toList[q]? = some s[q] := Lib.data_getElem? s q hlt
      by_cases hc : s[q] = 32
      · have HF : Hid (Sp.blM s.data.toList p = Sp.blM s.data.toList (q + 1)) := by
          show _ = _
          rw [HB.out]; exact bl_more (by rw [hget, hc])
        clear hd he hget
        go_wp2_with fail
        go_quiet (first | (go_at_call 42; exact Calls.quiet_of (CD.out _)))
        go_wp2_with fail
        go_roundg (s.size - (q + 1))
        case measure => omega
        case rel =>
          have hb := belDrewN (wr.setCell ⟨R, 1, none⟩ (.int .i64 ((q : Int) + 1))) nq
          exact ⟨q + 1, by omega, rfl, (set1 HY.out ((q : Int) + 1) (q + 1) (by omega)).later hb, grownBy_trans (grownBy_trans g1 (grownBy_setCell _ _ _ _) (.inl rfl)) (grownBy_below (some R) hb) (.inl rfl), HF⟩
      · have HF : Hid (Sp.blM s.data.toList p = q) := by
          show _ = _
          rw [HB.out]; exact bl_stop (by rw [hget]; exact fun h => hc (Option.some.inj h))
        have hne : ((s[q].toNat : Int) == 32) = false := by
          have : ¬ s[q].toNat = 32 := fun h => hc (UInt8.toNat_inj.1 h)
          simpa using (by omega : ¬ (s[q].toNat : Int) = 32)
        clear hd he hget hc
        go_wp2_with fail
        go_quiet (first | (go_at_call 42; exact Calls.quiet_of (CD.out _)))
        have b1 := belDrewN wr nq
        have Y1 := HY.out.later b1
        have g2 := grownBy_trans g1 (grownBy_below (some R) b1) (.inl rfl)
        clear cY CD
        go_wp2_with fail
        go_end0
        exact ⟨rfl, by rw [HF.out]; exact Y1, g2⟩
end Go.Proofs.YtninheehoabbbaaGreatDoor

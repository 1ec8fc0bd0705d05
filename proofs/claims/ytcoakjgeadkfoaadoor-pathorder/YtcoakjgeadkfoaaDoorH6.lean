/-
  Contract of path's Right.
-/
import Derived.Test.YtcoakjgeadkfoaaDoorH4
import Derived.ScopeJumps
import Derived.WalkMore
namespace Go.Proofs.YtcoakjgeadkfoaaDoor
set_option linter.unusedSimpArgs false
set_option linter.unusedVariables false
open Go.RowKit Go.Vr Go.Sort Go.Tx Go.Pa Go.Lib
attribute [local go_sem] setCellDrewN allocDrewN

theorem cut_state (t : Bs) : (sw t).all wOk = (wOk (cut t [47]).1 && (!(cut t [47]).2.2 || (sw (cut t [47]).2.1).all wOk)) ∧ (cut t [47]).1.length ≤ t.length ∧ (cut t [47]).2.1.length ≤ t.length ∧ ((cut t [47]).2.2 = true → (cut t [47]).2.1.length < t.length) := by
  rcases first_slash t with ⟨x, r, hx, rfl⟩ | h
  · rw [cut_at x r 47 hx]
    refine ⟨?_, by simp, by simp; omega, fun _ => by simp; omega⟩
    rw [sw_app, sw_one x hx]
    simp
  · rw [cut_none t 47 h]
    refine ⟨?_, Nat.le_refl _, by simp, fun e => absurd e (by simp)⟩
    rw [sw_one t h]
    simp
/-- What is left to look at. -/
def PS (s x r : ByteArray) (m : Bool) : Prop := right s.data.toList = (wOk x.data.toList && (!m || (sw r.data.toList).all wOk)) ∧ x.size ≤ 40 ∧ r.size ≤ 40
theorem PS.start (s : ByteArray) (h : s.size ≤ 40) : PS s (str (cut s.data.toList [47]).1) (str (cut s.data.toList [47]).2.1) (cut s.data.toList [47]).2.2 := by
  obtain ⟨h1, h2, h3, _⟩ := cut_state s.data.toList
  rw [len_eq] at h2 h3
  refine ⟨?_, by rw [str_size]; omega, by rw [str_size]; omega⟩
  unfold right
  rw [len_eq, decide_eq_true h, Bool.true_and, h1, str_list, str_list]
theorem PS.more {s x r : ByteArray} (h : PS s x r true) (hx : wOk x.data.toList = true) : PS s (str (cut r.data.toList [47]).1) (str (cut r.data.toList [47]).2.1) (cut r.data.toList [47]).2.2 := by
  obtain ⟨h0, hx4, hr4⟩ := h
  obtain ⟨h1, h2, h3, _⟩ := cut_state r.data.toList
  rw [len_eq] at h2 h3
  refine ⟨?_, by rw [str_size]; omega, by rw [str_size]; omega⟩
  rw [h0, hx, str_list, str_list, h1]; rfl
def szOf : Value → Nat | .string s => s.size | _ => 0
def leftOf (r : Value) : Value → Nat | .bool true => szOf r + 1 | _ => 0
theorem left_less (r : ByteArray) : leftOf (.string (str (cut r.data.toList [47]).2.1)) (.bool (cut r.data.toList [47]).2.2) < leftOf (.string r) (.bool true) := by
  obtain ⟨_, _, _, h⟩ := cut_state r.data.toList
  rw [len_eq] at h
  cases e : (cut r.data.toList [47]).2.2 with
  | true =>
    have := h e
    show (str (cut r.data.toList [47]).2.1).size + 1 < r.size + 1
    rw [str_size]
    omega
  | false =>
    show 0 < r.size + 1
    omega

set_option maxHeartbeats 2000000 in
set_option maxRecDepth 100000 in
theorem pright_any (s : ByteArray) (w : World) (hs : s.size ≤ 5000) (he : Env w) :
    Calls Tryd.prog 12 #[.string s] w fun e w' => e = .returned (.bool (right s.data.toList)) ∧ Below w.heap.size w w' := by
  have HE := hide he
  clear he
  by_cases h1 : s.size < 1
  · have HX : Hid (right s.data.toList = false) := by
      show _ = _
      have : s.data.toList = [] := List.eq_nil_of_length_eq_zero (by rw [len_eq]; omega)
      rw [this]; decide
    have d1 : decide ((s.size : Int) < 1) = true := by simp; omega
    clear h1
    go_enter Tryd.func12, Tryd.ntmps12
    go_wp2_with fail
    go_step3
    go_wp2_with fail
    rw [Exit.noGoto_ret]
    go_ret
    exact ⟨ret_bool HX.out.symm, Below.refl _ _⟩
  have d1 : decide ((s.size : Int) < 1) = false := by simp; omega
  by_cases h4 : 40 < s.size
  · have HX : Hid (right s.data.toList = false) := by
      show _ = _
      unfold right
      rw [len_eq, decide_eq_false (by omega)]; rfl
    have d4 : decide ((40 : Int) < (s.size : Int)) = true := by simp; omega
    clear h1 h4
    go_enter Tryd.func12, Tryd.ntmps12
    go_wp2_with fail
    go_step3
    go_wp2_with fail
    rw [Exit.noGoto_ret]
    go_ret
    exact ⟨ret_bool HX.out.symm, Below.refl _ _⟩
  have d4 : decide ((40 : Int) < (s.size : Int)) = false := by simp; omega
  have CC := hide (fun (t : ByteArray) W (ht : t.size ≤ 40) hW => cut_any t ⟨#[47]⟩ W (by omega) hW)
  simp only [show (ByteArray.mk #[47]).data.toList = [47] from rfl] at CC
  have hs4 : s.size ≤ 40 := by omega
  have P0 := hide (PS.start s hs4)
  have C0 := hide (fun W hW => CC.out s W hs4 hW)
  generalize (cut s.data.toList [47]).2.2 = m0 at *
  generalize str (cut s.data.toList [47]).1 = x0 at *
  generalize str (cut s.data.toList [47]).2.1 = r0 at *
  clear h1 h4 hs hs4
  go_enter Tryd.func12, Tryd.ntmps12
  go_wp2_with fail
  refine wp_scope_jumps 0 (fun a' w' => ∃ (x r : ByteArray) (m : Bool) (u6 u7 u8 u9 u10 u11 u12 u13 u14 u15 u16 u17 u18 u19 u20 u21 u22 u23 u24 u25 u26 u27 u28 u29 : Value), a' = { tmps := #[.string s, undef, .bool false, .string x, .string r, .bool m, u6, u7, u8, u9, u10, u11, u12, u13, u14, u15, u16, u17, u18, u19, u20, u21, u22, u23, u24, u25, u26, u27, u28, u29], defers := [] } ∧ Hid (PS s x r m) ∧ Hid (Below w.heap.size w w')) (fun a' _ => leftOf (a'.tmps.getD 4 undef) (a'.tmps.getD 5 undef)) rfl ?_ ?_
  · go_wp2_with fail
    refine (C0.out _ HE.out).mono ?_
    rintro e w1 ⟨rfl, b1⟩
    have HB1 := hide b1
    clear b1
    go_wp2_with fail
    go_step3
    have HP := P0
    have HB := HB1
    have hx4 : x0.size ≤ 5000 := by have := HP.out.2.1; omega
    cases hw : wOk x0.data.toList with
    | false =>
      have HX : Hid (right s.data.toList = false) := by show _ = _; rw [HP.out.1, hw]; rfl
      have CW := hide (fun W => rightWord_any x0 W hx4)
      rw [hw] at CW
      clear hw hx4
      go_wp2_with fail
      refine (CW.out _).mono ?_
      rintro e w2 ⟨rfl, rfl⟩
      go_wp2_with fail
      simp only [Exit.jump]
      go_ret
      exact ⟨ret_bool HX.out.symm, HB.out⟩
    | true =>
      have CW := hide (fun W => rightWord_any x0 W hx4)
      rw [hw] at CW
      cases m0 with
      | false =>
        have HX : Hid (right s.data.toList = true) := by show _ = _; rw [HP.out.1, hw]; rfl
        clear hw hx4
        go_wp2_with fail
        refine (CW.out _).mono ?_
        rintro e w2 ⟨rfl, rfl⟩
        go_wp2_with fail
        simp only [Exit.jump]
        go_ret
        exact ⟨ret_bool HX.out.symm, HB.out⟩
      | true =>
        have hr4 := HP.out.2.2
        have PN := hide (HP.out.more hw)
        have HL := hide (left_less r0)
        have CN := hide (fun W hW => CC.out r0 W hr4 hW)
        generalize (cut r0.data.toList [47]).2.2 = mn at *
        generalize str (cut r0.data.toList [47]).1 = xn at *
        generalize str (cut r0.data.toList [47]).2.1 = rn at *
        clear hw hx4 hr4
        go_wp2_with fail
        refine (CW.out _).mono ?_
        rintro e w2 ⟨rfl, rfl⟩
        go_wp2_with fail
        refine (CN.out _ (HE.out.later HB.out)).mono ?_
        rintro e w3 ⟨rfl, b3⟩
        have HB3 := hide (step HB.out b3)
        clear b3
        go_wp2_with fail
        go_step3
        exact ⟨rfl, xn, rn, mn, _, _, _, _, _, _, _, _, _, _, _, _, _, _, _, _, _, _, _, _, _, _, _, _, rfl, PN, HB3⟩
  · rintro a' w' ⟨x, r, m, u6, u7, u8, u9, u10, u11, u12, u13, u14, u15, u16, u17, u18, u19, u20, u21, u22, u23, u24, u25, u26, u27, u28, u29, rfl, HP, HB⟩
    have hx4 : x.size ≤ 5000 := by have := HP.out.2.1; omega
    cases hw : wOk x.data.toList with
    | false =>
      have HX : Hid (right s.data.toList = false) := by show _ = _; rw [HP.out.1, hw]; rfl
      have CW := hide (fun W => rightWord_any x W hx4)
      rw [hw] at CW
      clear hw hx4
      go_wp2_with fail
      refine (CW.out _).mono ?_
      rintro e w2 ⟨rfl, rfl⟩
      go_wp2_with fail
      simp only [Exit.jump]
      go_ret
      exact ⟨ret_bool HX.out.symm, HB.out⟩
    | true =>
      have CW := hide (fun W => rightWord_any x W hx4)
      rw [hw] at CW
      cases m with
      | false =>
        have HX : Hid (right s.data.toList = true) := by show _ = _; rw [HP.out.1, hw]; rfl
        clear hw hx4
        go_wp2_with fail
        refine (CW.out _).mono ?_
        rintro e w2 ⟨rfl, rfl⟩
        go_wp2_with fail
        simp only [Exit.jump]
        go_ret
        exact ⟨ret_bool HX.out.symm, HB.out⟩
      | true =>
        have hr4 := HP.out.2.2
        have PN := hide (HP.out.more hw)
        have HL := hide (left_less r)
        have CN := hide (fun W hW => CC.out r W hr4 hW)
        generalize (cut r.data.toList [47]).2.2 = mn at *
        generalize str (cut r.data.toList [47]).1 = xn at *
        generalize str (cut r.data.toList [47]).2.1 = rn at *
        clear hw hx4 hr4
        go_wp2_with fail
        refine (CW.out _).mono ?_
        rintro e w2 ⟨rfl, rfl⟩
        go_wp2_with fail
        refine (CN.out _ (HE.out.later HB.out)).mono ?_
        rintro e w3 ⟨rfl, b3⟩
        have HB3 := hide (step HB.out b3)
        clear b3
        go_wp2_with fail
        go_step3
        exact ⟨rfl, ⟨xn, rn, mn, _, _, _, _, _, _, _, _, _, _, _, _, _, _, _, _, _, _, _, _, _, _, _, _, rfl, PN, HB3⟩, HL.out⟩

end Go.Proofs.YtcoakjgeadkfoaaDoor

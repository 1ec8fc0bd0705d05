/-
  Contracts of the reference's Major, Fits.
  Contracts of the reference's Fits; of path's Within, rightWord, Right, number, lineOf, Major, Fits.
  Contract of path's Right.
  Contract of ownFault.
  Contract of fault.
-/
import Derived.Test.YtnmmhihfnphjeaaGreatDoorG27
import Derived.Test.YtnmmhihfnphjeaaGreatDoorG28
import Derived.ScopeJumps
import Derived.WalkMore
import Derived.Test.YtnmmhihfnphjeaaGreatDoorG26
import Derived.Maps.OwnSet

namespace Go.Proofs.YtnmmhihfnphjeaaGreatDoor
set_option linter.unusedSimpArgs false
set_option linter.unusedVariables false
open Go.RowKit Go.Vr Go.Sort Go.Tx Go.Pa
attribute [local go_sem] setCellDrewN allocDrewN

/-- What Major answers. -/
def mval (s : Bs) : Value := .tuple #[.string (str (maj s).1), .int .i64 (maj s).2]
theorem maj_none {s : Bs} (h : lastS s = none) : maj s = (s, 0) := by unfold maj; rw [h]
theorem maj_word {s x w : Bs} (h : lastS s = some (x, w)) (hw : majW w = none) : maj s = (s, 0) := by unfold maj; rw [h]; simp only; rw [hw]
theorem maj_num {s x w : Bs} {n : Int} (h : lastS s = some (x, w)) (hw : majW w = some n) : maj s = (x, n) := by unfold maj; rw [h]; simp only; rw [hw]
theorem majW_c {c : UInt8} {d : Bs} (h : c ≠ 118) : majW (c :: d) = none := if_neg (fun e => h e.1)
theorem majW_v (d : Bs) : majW (118 :: d) = if okNum d = true ∧ 2 ≤ numR d ∧ numR d ≤ 999999 then some (numR d) else none := by
  show (if (118 : UInt8) = 118 ∧ okNum d = true ∧ 2 ≤ numVal d ∧ numVal d ≤ 999999 then some (numVal d) else none) = _
  unfold numR
  by_cases h : okNum d = true
  · simp [h]
  · simp [h]
theorem ret_maj {s : ByteArray} {x : ByteArray} {n : Int} (h : maj s.data.toList = (x.data.toList, n)) : Ending.returned (.tuple #[.string x, .int .i64 n]) = .returned (mval s.data.toList) := by
  unfold mval; rw [h]; simp only [str_of]
theorem str_eq (s : ByteArray) (l : Bs) (h : s.data.toList = l) : s = str l := by rw [← h, str_of]

end Go.Proofs.YtnmmhihfnphjeaaGreatDoor

namespace Go.Proofs.YtnmmhihfnphjeaaGreatDoor
set_option linter.unusedSimpArgs false
set_option linter.unusedVariables false
open Go.RowKit Go.Vr Go.Sort Go.Tx Go.Pa Go.Lib
attribute [local go_sem] setCellDrewN allocDrewN

theorem fits_when (s : Bs) (a : Int) : fits s a = (((maj s).2 == a) || (((maj s).2 == 0) && (a == 1))) := rfl

theorem inside_when (s r : ByteArray) : inside s.data.toList r.data.toList = (hasPrefix s.data.toList r.data.toList && ((str (trimPrefix s.data.toList r.data.toList)).toList.isEmpty || (match trimPrefix s.data.toList r.data.toList with | [] => true | c :: _ => c == 47))) := by
  unfold inside trimPrefix
  cases h : hasPrefix s.data.toList r.data.toList with
  | false => rfl
  | true =>
    simp only [if_true, Bool.true_and]
    rw [toList_data, str_list]
    cases s.data.toList.drop r.data.toList.length with
    | nil => rfl
    | cons c d => rfl

theorem trim_len (s p : Bs) : (trimPrefix s p).length ≤ s.length := by
  unfold trimPrefix
  split
  · simp
  · simp
theorem wOk_when (s : ByteArray) : wOk s.data.toList = (!(s.toList.isEmpty || (s.toList == [46]) || (s.toList == [46, 46])) && s.data.toList.all sgn) := by
  unfold wOk badW
  rw [toList_data]
  cases s.data.toList with
  | nil => rfl
  | cons c d => rfl

set_option maxHeartbeats 2000000 in
set_option maxRecDepth 100000 in
theorem rightWord_any (s : ByteArray) (w : World) (hs : s.size ≤ 5000) :
    Calls Tryz.prog 98 #[.string s] w fun e w' => e = .returned (.bool (wOk s.data.toList)) ∧ w' = w := by
  have HW := hide (wOk_when s)
  cases h0 : s.toList.isEmpty with
  | true =>
    have HX : Hid (wOk s.data.toList = false) := by show _ = _; rw [HW.out, h0]; rfl
    go_enter Tryz.func98, Tryz.ntmps98
    go_wp2_with fail
    go_ret
    exact ⟨ret_bool HX.out.symm, rfl⟩
  | false =>
    cases h1 : (s.toList == [46]) with
    | true =>
      have HX : Hid (wOk s.data.toList = false) := by show _ = _; rw [HW.out, h0, h1]; rfl
      go_enter Tryz.func98, Tryz.ntmps98
      go_wp2_with fail
      go_ret
      exact ⟨ret_bool HX.out.symm, rfl⟩
    | false =>
      cases h2 : (s.toList == [46, 46]) with
      | true =>
        have HX : Hid (wOk s.data.toList = false) := by show _ = _; rw [HW.out, h0, h1, h2]; rfl
        go_enter Tryz.func98, Tryz.ntmps98
        go_wp2_with fail
        go_ret
        exact ⟨ret_bool HX.out.symm, rfl⟩
      | false =>
        have HX : Hid (wOk s.data.toList = s.data.toList.all sgn) := by show _ = _; rw [HW.out, h0, h1, h2]; rfl
        clear HW
        have CI : Hid (∀ (c : Int) (W : World), Calls Tryz.prog 115 #[.string ⟨#[97, 98, 99, 100, 101, 102, 103, 104, 105, 106, 107, 108, 109, 110, 111, 112, 113, 114, 115, 116, 117, 118, 119, 120, 121, 122, 48, 49, 50, 51, 52, 53, 54, 55, 56, 57, 46, 45, 95]⟩, .int .u8 c] W fun e w' => e = .returned (.int .i64 (indexByte sgL c.toNat.toUInt8)) ∧ w' = W) := fun c W => indexByte_any _ c W
        go_enter Tryz.func98, Tryz.ntmps98
        go_wp2_with fail
        go_loop [16] (fun i => ∃ k : Nat, k ≤ s.size ∧ i = .int .i64 k ∧ Hid ((s.data.toList.take k).all sgn = true)) (fun i => s.size - (RowKit.intOf i).toNat)
        case atStart => exact ⟨0, Nat.zero_le _, rfl, rfl⟩
        case round =>
          obtain ⟨k, hk, rfl, hp⟩ := hrel
          by_cases hlt : k < s.size
          · have hb := sgn_is s[k]
            have hbk : ((((s[k]).toNat : Int)).toNat).toUInt8 = s[k] := by simp
            cases hc : sgn s[k] with
            | true =>
              have HT : Hid ((s.data.toList.take (k + 1)).all sgn = true) := by
                show List.all _ _ = true
                rw [all_take_succ _ s k hlt, hp.out, hc]; rfl
              rw [hc] at hb
              have CK := CI.out ((s[k]).toNat : Int)
              rw [hbk] at CK
              have CK2 := hide CK
              generalize indexByte sgL s[k] = q at *
              clear CK CI hbk hc
              go_wp2_with fail
              refine (CK2.out _).mono ?_
              rintro e w1 ⟨rfl, rfl⟩
              go_wp2_with fail
              go_round
              case rel => exact ⟨k + 1, by omega, by go_num, HT⟩
              case measure => simp [RowKit.intOf]; omega
            | false =>
              have HF : Hid (s.data.toList.all sgn = false) := all_not _ s k hlt hc
              rw [hc] at hb
              have CK := CI.out ((s[k]).toNat : Int)
              rw [hbk] at CK
              have CK2 := hide CK
              generalize indexByte sgL s[k] = q at *
              clear CK CI hbk hc
              go_wp2_with fail
              refine (CK2.out _).mono ?_
              rintro e w1 ⟨rfl, rfl⟩
              go_wp2_with fail
              go_ret
              exact ⟨ret_bool (by rw [HX.out, HF.out]), rfl⟩
          · have dk : decide ((k : Int) < (s.size : Int)) = false := by simp; omega
            have HT : Hid (s.data.toList.all sgn = true) := by rw [← Tx.take_all s k (by omega)]; exact hp
            go_wp2_with fail
            go_ret
            exact ⟨ret_bool (by rw [HX.out, HT.out]), rfl⟩

end Go.Proofs.YtnmmhihfnphjeaaGreatDoor

namespace Go.Proofs.YtnmmhihfnphjeaaGreatDoor
set_option linter.unusedSimpArgs false
set_option linter.unusedVariables false
open Go.RowKit Go.Vr Go.Sort Go.Tx Go.Pa Go.Lib
attribute [local go_sem] setCellDrewN allocDrewN

theorem cut_state (t : Bs) : (sw t).all wOk = (wOk (cut t [47]).1 && (!(cut t [47]).2.2 || (sw (cut t [47]).2.1).all wOk)) ∧ (cut t [47]).1.length ≤ t.length ∧ (cut t [47]).2.1.length ≤ t.length ∧ ((cut t [47]).2.2 = true → (cut t [47]).2.1.length < t.length) := by
  rcases first_slash t with ⟨x, r, hx, rfl⟩ | h
  · rw [cut_at x r 47 hx]
    refine ⟨?_, by simp, by simp; omega, fun _ => by simp; omega⟩
    rw [sw_app, sw_one x hx]
    simp
  · rw [cut_none t 47 h]
    refine ⟨?_, Nat.le_refl _, by simp, fun e => absurd e (by simp)⟩
    rw [sw_one t h]
    simp
/-- What is left to look at. -/
def PS (s x r : ByteArray) (m : Bool) : Prop := right s.data.toList = (wOk x.data.toList && (!m || (sw r.data.toList).all wOk)) ∧ x.size ≤ 40 ∧ r.size ≤ 40
theorem PS.start (s : ByteArray) (h : s.size ≤ 40) : PS s (str (cut s.data.toList [47]).1) (str (cut s.data.toList [47]).2.1) (cut s.data.toList [47]).2.2 := by
  obtain ⟨h1, h2, h3, _⟩ := cut_state s.data.toList
  rw [len_eq] at h2 h3
  refine ⟨?_, by rw [str_size]; omega, by rw [str_size]; omega⟩
  unfold right
  rw [len_eq, decide_eq_true h, Bool.true_and, h1, str_list, str_list]
theorem PS.more {s x r : ByteArray} (h : PS s x r true) (hx : wOk x.data.toList = true) : PS s (str (cut r.data.toList [47]).1) (str (cut r.data.toList [47]).2.1) (cut r.data.toList [47]).2.2 := by
  obtain ⟨h0, hx4, hr4⟩ := h
  obtain ⟨h1, h2, h3, _⟩ := cut_state r.data.toList
  rw [len_eq] at h2 h3
  refine ⟨?_, by rw [str_size]; omega, by rw [str_size]; omega⟩
  rw [h0, hx, str_list, str_list, h1]; rfl
def szOf : Value → Nat | .string s => s.size | _ => 0
def leftOf (r : Value) : Value → Nat | .bool true => szOf r + 1 | _ => 0
theorem left_less (r : ByteArray) : leftOf (.string (str (cut r.data.toList [47]).2.1)) (.bool (cut r.data.toList [47]).2.2) < leftOf (.string r) (.bool true) := by
  obtain ⟨_, _, _, h⟩ := cut_state r.data.toList
  rw [len_eq] at h
  cases e : (cut r.data.toList [47]).2.2 with
  | true =>
    have := h e
    show (str (cut r.data.toList [47]).2.1).size + 1 < r.size + 1
    rw [str_size]
    omega
  | false =>
    show 0 < r.size + 1
    omega

set_option maxHeartbeats 2000000 in
set_option maxRecDepth 100000 in
theorem pright_any (s : ByteArray) (w : World) (hs : s.size ≤ 2000000000000) (he : Env w) :
    Calls Tryz.prog 80 #[.string s] w fun e w' => e = .returned (.bool (right s.data.toList)) ∧ Below w.heap.size w w' := by
  have HE := hide he
  clear he
  by_cases h1 : s.size < 1
  · have HX : Hid (right s.data.toList = false) := by
      show _ = _
      have : s.data.toList = [] := List.eq_nil_of_length_eq_zero (by rw [len_eq]; omega)
      rw [this]; decide
    have d1 : decide ((s.size : Int) < 1) = true := by simp; omega
    clear h1
    go_enter Tryz.func80, Tryz.ntmps80
    go_wp2_with fail
    go_step3
    go_wp2_with fail
    rw [Exit.noGoto_ret]
    go_ret
    exact ⟨ret_bool HX.out.symm, Below.refl _ _⟩
  have d1 : decide ((s.size : Int) < 1) = false := by simp; omega
  by_cases h4 : 40 < s.size
  · have HX : Hid (right s.data.toList = false) := by
      show _ = _
      unfold right
      rw [len_eq, decide_eq_false (by omega)]; rfl
    have d4 : decide ((40 : Int) < (s.size : Int)) = true := by simp; omega
    clear h1 h4
    go_enter Tryz.func80, Tryz.ntmps80
    go_wp2_with fail
    go_step3
    go_wp2_with fail
    rw [Exit.noGoto_ret]
    go_ret
    exact ⟨ret_bool HX.out.symm, Below.refl _ _⟩
  have d4 : decide ((40 : Int) < (s.size : Int)) = false := by simp; omega
  have CC := hide (fun (t : ByteArray) W (ht : t.size ≤ 40) hW => cut_any t ⟨#[47]⟩ W (by omega) hW)
  simp only [show (ByteArray.mk #[47]).data.toList = [47] from rfl] at CC
  have hs4 : s.size ≤ 40 := by omega
  have P0 := hide (PS.start s hs4)
  have C0 := hide (fun W hW => CC.out s W hs4 hW)
  generalize (cut s.data.toList [47]).2.2 = m0 at *
  generalize str (cut s.data.toList [47]).1 = x0 at *
  generalize str (cut s.data.toList [47]).2.1 = r0 at *
  clear h1 h4 hs hs4
  go_enter Tryz.func80, Tryz.ntmps80
  go_wp2_with fail
  refine wp_scope_jumps 0 (fun a' w' => ∃ (x r : ByteArray) (m : Bool) (u6 u7 u8 u9 u10 u11 u12 u13 u14 u15 u16 u17 u18 u19 u20 u21 u22 u23 u24 u25 u26 u27 u28 u29 : Value), a' = { tmps := #[.string s, undef, .bool false, .string x, .string r, .bool m, u6, u7, u8, u9, u10, u11, u12, u13, u14, u15, u16, u17, u18, u19, u20, u21, u22, u23, u24, u25, u26, u27, u28, u29], defers := [] } ∧ Hid (PS s x r m) ∧ Hid (Below w.heap.size w w')) (fun a' _ => leftOf (a'.tmps.getD 4 undef) (a'.tmps.getD 5 undef)) rfl ?_ ?_
  · go_wp2_with fail
    refine (C0.out _ HE.out).mono ?_
    rintro e w1 ⟨rfl, b1⟩
    have HB1 := hide b1
    clear b1
    go_wp2_with fail
    go_step3
    have HP := P0
    have HB := HB1
    have hx4 : x0.size ≤ 5000 := by have := HP.out.2.1; omega
    cases hw : wOk x0.data.toList with
    | false =>
      have HX : Hid (right s.data.toList = false) := by show _ = _; rw [HP.out.1, hw]; rfl
      have CW := hide (fun W => rightWord_any x0 W hx4)
      rw [hw] at CW
      clear hw hx4
      go_wp2_with fail
      refine (CW.out _).mono ?_
      rintro e w2 ⟨rfl, rfl⟩
      go_wp2_with fail
      simp only [Exit.jump]
      go_ret
      exact ⟨ret_bool HX.out.symm, HB.out⟩
    | true =>
      have CW := hide (fun W => rightWord_any x0 W hx4)
      rw [hw] at CW
      cases m0 with
      | false =>
        have HX : Hid (right s.data.toList = true) := by show _ = _; rw [HP.out.1, hw]; rfl
        clear hw hx4
        go_wp2_with fail
        refine (CW.out _).mono ?_
        rintro e w2 ⟨rfl, rfl⟩
        go_wp2_with fail
        simp only [Exit.jump]
        go_ret
        exact ⟨ret_bool HX.out.symm, HB.out⟩
      | true =>
        have hr4 := HP.out.2.2
        have PN := hide (HP.out.more hw)
        have HL := hide (left_less r0)
        have CN := hide (fun W hW => CC.out r0 W hr4 hW)
        generalize (cut r0.data.toList [47]).2.2 = mn at *
        generalize str (cut r0.data.toList [47]).1 = xn at *
        generalize str (cut r0.data.toList [47]).2.1 = rn at *
        clear hw hx4 hr4
        go_wp2_with fail
        refine (CW.out _).mono ?_
        rintro e w2 ⟨rfl, rfl⟩
        go_wp2_with fail
        refine (CN.out _ (HE.out.later HB.out)).mono ?_
        rintro e w3 ⟨rfl, b3⟩
        have HB3 := hide (step HB.out b3)
        clear b3
        go_wp2_with fail
        go_step3
        exact ⟨rfl, xn, rn, mn, _, _, _, _, _, _, _, _, _, _, _, _, _, _, _, _, _, _, _, _, _, _, _, _, rfl, PN, HB3⟩
  · rintro a' w' ⟨x, r, m, u6, u7, u8, u9, u10, u11, u12, u13, u14, u15, u16, u17, u18, u19, u20, u21, u22, u23, u24, u25, u26, u27, u28, u29, rfl, HP, HB⟩
    have hx4 : x.size ≤ 5000 := by have := HP.out.2.1; omega
    cases hw : wOk x.data.toList with
    | false =>
      have HX : Hid (right s.data.toList = false) := by show _ = _; rw [HP.out.1, hw]; rfl
      have CW := hide (fun W => rightWord_any x W hx4)
      rw [hw] at CW
      clear hw hx4
      go_wp2_with fail
      refine (CW.out _).mono ?_
      rintro e w2 ⟨rfl, rfl⟩
      go_wp2_with fail
      simp only [Exit.jump]
      go_ret
      exact ⟨ret_bool HX.out.symm, HB.out⟩
    | true =>
      have CW := hide (fun W => rightWord_any x W hx4)
      rw [hw] at CW
      cases m with
      | false =>
        have HX : Hid (right s.data.toList = true) := by show _ = _; rw [HP.out.1, hw]; rfl
        clear hw hx4
        go_wp2_with fail
        refine (CW.out _).mono ?_
        rintro e w2 ⟨rfl, rfl⟩
        go_wp2_with fail
        simp only [Exit.jump]
        go_ret
        exact ⟨ret_bool HX.out.symm, HB.out⟩
      | true =>
        have hr4 := HP.out.2.2
        have PN := hide (HP.out.more hw)
        have HL := hide (left_less r)
        have CN := hide (fun W hW => CC.out r W hr4 hW)
        generalize (cut r.data.toList [47]).2.2 = mn at *
        generalize str (cut r.data.toList [47]).1 = xn at *
        generalize str (cut r.data.toList [47]).2.1 = rn at *
        clear hw hx4 hr4
        go_wp2_with fail
        refine (CW.out _).mono ?_
        rintro e w2 ⟨rfl, rfl⟩
        go_wp2_with fail
        refine (CN.out _ (HE.out.later HB.out)).mono ?_
        rintro e w3 ⟨rfl, b3⟩
        have HB3 := hide (step HB.out b3)
        clear b3
        go_wp2_with fail
        go_step3
        exact ⟨rfl, ⟨xn, rn, mn, _, _, _, _, _, _, _, _, _, _, _, _, _, _, _, _, _, _, _, _, _, _, _, _, rfl, PN, HB3⟩, HL.out⟩

end Go.Proofs.YtnmmhihfnphjeaaGreatDoor

namespace Go.Proofs.YtnmmhihfnphjeaaGreatDoor.B
set_option linter.unusedSimpArgs false
set_option linter.unusedVariables false
open Go.RowKit Go.Vr Go.Sort Go.Tx Go.Lib
open Go.Pa (right)
open Go.Br hiding Bs
attribute [local go_sem] setCellDrewN allocDrewN

theorem isE (s : Bs) (h : s = []) : (str s).toList.isEmpty = true := by rw [toList_data, str_list, h]; rfl
theorem isE' (s : Bs) (h : s ≠ []) : (str s).toList.isEmpty = false := by
  cases s with
  | nil => exact absurd rfl h
  | cons c r => rw [toList_data, str_list]; rfl

set_option maxHeartbeats 4000000 in
set_option maxRecDepth 100000 in
theorem ownFault_any (x : Lk) (w : World) (he : Env w) (h0 : x.root.length ≤ 2000000000000) (h4 : x.source.length ≤ 2000000000000) :
    Calls Tryz.prog 66 #[.agg (lkc x)] w fun e w' => e = .returned (.int .i64 (ownM x)) ∧ Below w.heap.size w w' := by
  obtain ⟨x0, x1, x2, x3, x4⟩ := x
  have hB0 : Below w.heap.size w (w.alloc (.cells (lkc ⟨x0, x1, x2, x3, x4⟩) 49)) := (by repeat (first | with_reducible assumption | with_reducible exact Below.refl _ _ | with_reducible refine Below.setCell ?_ (by first | exact Nat.le_refl _ | (simp; done) | (simp; omega)) _ | with_reducible refine bal ?_ _ | with_reducible refine Below.alloc ?_ (by first | exact Nat.le_refl _ | (simp; done) | (simp; omega)) _ | with_reducible refine Below.drew ?_))
  have HE := hide (he.later hB0)
  have HB0 := hide hB0
  have hX := Box.new w (lkc ⟨x0, x1, x2, x3, x4⟩) 49
  have HX := hide hX
  have C0 := hide (pright_any (str x0) (w.alloc (.cells (lkc ⟨x0, x1, x2, x3, x4⟩) 49)) (by rw [str_size]; exact h0) (he.later hB0))
  have C4 := hide (fun W hW => pright_any (str x4) W (by rw [str_size]; exact h4) hW)
  rw [str_list] at C0
  simp only [str_list] at C4
  have xc := hX.c
  clear hB0 hX h0 h4 he
  cases h0 : right x0 with
  | false =>
    have HQ : Hid (ownM ⟨x0, x1, x2, x3, x4⟩ = 7) := by show _ = _; unfold ownM; simp [h0]
    rw [h0] at C0
    clear h0
    go_enter Tryz.func66, Tryz.ntmps66
    go_wp2_with fail
    refine C0.out.mono ?_
    rintro e w1 ⟨rfl, b1⟩
    have HB1 := hide (HB0.out.trans (b1.mono HB0.out.size))
    have HE1 := hide (HE.out.later b1)
    have xc1 := (HX.out.later b1).c
    clear b1 C0
    have HBZ := HB1
    go_wp2_with fail
    go_ret
    exact ⟨ret_int (show _ = _ by rw [HQ.out]; rfl), HBZ.out⟩
  | true =>
    rw [h0] at C0
    by_cases e4 : x4 = []
    · have E4 := isE x4 e4
      by_cases e2 : x2 = []
      · have E2 := isE x2 e2
        by_cases e1 : x1 = []
        · have E1 := isE x1 e1
          have HQ : Hid (ownM ⟨x0, x1, x2, x3, x4⟩ = 1) := by show _ = _; unfold ownM; simp [h0, e4, e2, e1]
          clear h0 e4 e2 e1 
          go_enter Tryz.func66, Tryz.ntmps66
          go_wp2_with fail
          refine C0.out.mono ?_
          rintro e w1 ⟨rfl, b1⟩
          have HB1 := hide (HB0.out.trans (b1.mono HB0.out.size))
          have HE1 := hide (HE.out.later b1)
          have xc1 := (HX.out.later b1).c
          clear b1 C0
          have HBZ := HB1
          go_wp2_with fail
          go_ret
          exact ⟨ret_int (show _ = _ by rw [HQ.out]; rfl), HBZ.out⟩
        · have E1 := isE' x1 e1
          have HQ : Hid (ownM ⟨x0, x1, x2, x3, x4⟩ = 0) := by show _ = _; unfold ownM; simp [h0, e4, e2, e1]
          clear h0 e4 e2 e1 
          go_enter Tryz.func66, Tryz.ntmps66
          go_wp2_with fail
          refine C0.out.mono ?_
          rintro e w1 ⟨rfl, b1⟩
          have HB1 := hide (HB0.out.trans (b1.mono HB0.out.size))
          have HE1 := hide (HE.out.later b1)
          have xc1 := (HX.out.later b1).c
          clear b1 C0
          have HBZ := HB1
          go_wp2_with fail
          go_ret
          exact ⟨ret_int (show _ = _ by rw [HQ.out]; rfl), HBZ.out⟩
      · have E2 := isE' x2 e2
        have HQ : Hid (ownM ⟨x0, x1, x2, x3, x4⟩ = 0) := by show _ = _; unfold ownM; simp [h0, e4, e2]
        clear h0 e4 e2 
        go_enter Tryz.func66, Tryz.ntmps66
        go_wp2_with fail
        refine C0.out.mono ?_
        rintro e w1 ⟨rfl, b1⟩
        have HB1 := hide (HB0.out.trans (b1.mono HB0.out.size))
        have HE1 := hide (HE.out.later b1)
        have xc1 := (HX.out.later b1).c
        clear b1 C0
        have HBZ := HB1
        go_wp2_with fail
        go_ret
        exact ⟨ret_int (show _ = _ by rw [HQ.out]; rfl), HBZ.out⟩
    · have E4 := isE' x4 e4
      cases h4 : right x4 with
      | false =>
        rw [h4] at C4
        have HQ : Hid (ownM ⟨x0, x1, x2, x3, x4⟩ = 7) := by show _ = _; unfold ownM; simp [h0, e4, h4]
        clear h0 e4 h4
        go_enter Tryz.func66, Tryz.ntmps66
        go_wp2_with fail
        refine C0.out.mono ?_
        rintro e w1 ⟨rfl, b1⟩
        have HB1 := hide (HB0.out.trans (b1.mono HB0.out.size))
        have HE1 := hide (HE.out.later b1)
        have xc1 := (HX.out.later b1).c
        have HXX := hide (HX.out.later b1)
        clear b1 C0
        go_wp2_with fail
        refine (C4.out _ HE1.out).mono ?_
        rintro e w2 ⟨rfl, b2⟩
        have HBZ := hide (HB1.out.trans (b2.mono HB1.out.size))
        have xc2 := (HXX.out.later b2).c
        clear b2
        go_wp2_with fail
        go_ret
        exact ⟨ret_int (show _ = _ by rw [HQ.out]; rfl), HBZ.out⟩
      | true =>
        rw [h4] at C4
        by_cases e2 : x2 = []
        · have E2 := isE x2 e2
          by_cases e1 : x1 = []
          · have E1 := isE x1 e1
            have HQ : Hid (ownM ⟨x0, x1, x2, x3, x4⟩ = 1) := by show _ = _; unfold ownM; simp [h0, e4, e2, e1, h4]
            clear h0 e4 e2 e1 h4
            go_enter Tryz.func66, Tryz.ntmps66
            go_wp2_with fail
            refine C0.out.mono ?_
            rintro e w1 ⟨rfl, b1⟩
            have HB1 := hide (HB0.out.trans (b1.mono HB0.out.size))
            have HE1 := hide (HE.out.later b1)
            have xc1 := (HX.out.later b1).c
            have HXX := hide (HX.out.later b1)
            clear b1 C0
            go_wp2_with fail
            refine (C4.out _ HE1.out).mono ?_
            rintro e w2 ⟨rfl, b2⟩
            have HBZ := hide (HB1.out.trans (b2.mono HB1.out.size))
            have xc2 := (HXX.out.later b2).c
            clear b2
            go_wp2_with fail
            go_ret
            exact ⟨ret_int (show _ = _ by rw [HQ.out]; rfl), HBZ.out⟩
          · have E1 := isE' x1 e1
            have HQ : Hid (ownM ⟨x0, x1, x2, x3, x4⟩ = 0) := by show _ = _; unfold ownM; simp [h0, e4, e2, e1, h4]
            clear h0 e4 e2 e1 h4
            go_enter Tryz.func66, Tryz.ntmps66
            go_wp2_with fail
            refine C0.out.mono ?_
            rintro e w1 ⟨rfl, b1⟩
            have HB1 := hide (HB0.out.trans (b1.mono HB0.out.size))
            have HE1 := hide (HE.out.later b1)
            have xc1 := (HX.out.later b1).c
            have HXX := hide (HX.out.later b1)
            clear b1 C0
            go_wp2_with fail
            refine (C4.out _ HE1.out).mono ?_
            rintro e w2 ⟨rfl, b2⟩
            have HBZ := hide (HB1.out.trans (b2.mono HB1.out.size))
            have xc2 := (HXX.out.later b2).c
            clear b2
            go_wp2_with fail
            go_ret
            exact ⟨ret_int (show _ = _ by rw [HQ.out]; rfl), HBZ.out⟩
        · have E2 := isE' x2 e2
          have HQ : Hid (ownM ⟨x0, x1, x2, x3, x4⟩ = 0) := by show _ = _; unfold ownM; simp [h0, e4, e2, h4]
          clear h0 e4 e2 h4
          go_enter Tryz.func66, Tryz.ntmps66
          go_wp2_with fail
          refine C0.out.mono ?_
          rintro e w1 ⟨rfl, b1⟩
          have HB1 := hide (HB0.out.trans (b1.mono HB0.out.size))
          have HE1 := hide (HE.out.later b1)
          have xc1 := (HX.out.later b1).c
          have HXX := hide (HX.out.later b1)
          clear b1 C0
          go_wp2_with fail
          refine (C4.out _ HE1.out).mono ?_
          rintro e w2 ⟨rfl, b2⟩
          have HBZ := hide (HB1.out.trans (b2.mono HB1.out.size))
          have xc2 := (HXX.out.later b2).c
          clear b2
          go_wp2_with fail
          go_ret
          exact ⟨ret_int (show _ = _ by rw [HQ.out]; rfl), HBZ.out⟩

end Go.Proofs.YtnmmhihfnphjeaaGreatDoor.B

namespace Go.Proofs.YtnmmhihfnphjeaaGreatDoor.B
set_option linter.unusedSimpArgs false
set_option linter.unusedVariables false
open Go.RowKit Go.Vr Go.Sort Go.Tx Go.Lib Go.Maps Go.WideMaps
open Go.Pa (right)
open Go.Br hiding Bs
attribute [local go_sem] setCellDrewN allocDrewN

theorem law : Keyed Tryz.prog 9 := string_keyed Tryz.underlying9
theorem zeroI (w : World) : (zeroValue 3).run Tryz.prog w = .ok (.int .i64 0) w := by kernel_rfl

/-- The roots so far, as the map holds them. -/
def Seen (wr : World) (b k : Nat) (seen : List Bs) : Prop := ∃ D : DataW Unit, wr.ownsMap Tryz.prog 9 (plainElem Tryz.prog 3) b k D ∧ IsMap D ∧ ∀ r : Bs, has D (.string r) = seen.contains r
theorem Seen.kept {w w' : World} {b k : Nat} {seen : List Bs} {row : Option Nat} (h : Seen w b k seen) (hg : w.grownBy w' row) (hne : some b ≠ row) : Seen w' b k seen := by
  obtain ⟨D, h1, h2⟩ := h
  exact ⟨D, h1.kept hg hne, h2⟩
theorem Seen.later {w w' : World} {b k : Nat} {seen : List Bs} (h : Seen w b k seen) (hb : Below w.heap.size w w') : Seen w' b k seen := h.kept (grownBy_below none hb) (by simp)

theorem isKeyS (r : Bs) : WideAt.IsKeyLit (.string r) := by trivial
theorem faultG_next {seen : List Bs} {x : Lk} {l : List Lk} (h0 : ownM x = 0) (h1 : seen.contains x.root = false) : faultG seen (x :: l) = faultG (seen ++ [x.root]) l := by
  rw [faultG, if_neg (by rw [h0]; simp), if_neg (by rw [h1]; simp)]
theorem faultG_own {seen : List Bs} {x : Lk} {l : List Lk} (h0 : ownM x ≠ 0) : faultG seen (x :: l) = ownM x := by
  rw [faultG, if_pos h0]
theorem faultG_twice {seen : List Bs} {x : Lk} {l : List Lk} (h0 : ownM x = 0) (h1 : seen.contains x.root = true) : faultG seen (x :: l) = 4 := by
  rw [faultG, if_neg (by rw [h0]; simp), if_pos h1]
theorem contains_snoc (l : List Bs) (a r : Bs) : (l ++ [a]).contains r = (l.contains r || decide (r = a)) := by simp
theorem Seen.put {w w' : World} {b k : Nat} {seen : List Bs} {D : DataW Unit} {x : Bs} {d : DataW Unit} (h1 : IsMap D) (h2 : ∀ r : Bs, has D (.string r) = seen.contains r) (h3 : w'.ownsMap Tryz.prog 9 (plainElem Tryz.prog 3) b (k + 1) (D.put (.string x) d)) : Seen w' b (k + 1) (seen ++ [x]) := by
  refine ⟨_, h3, h1.put _ _, fun r => ?_⟩
  rw [contains_snoc]
  by_cases e : r = x
  · subst e
    rw [has_put_same h1 (isKeyS r), decide_eq_true rfl, Bool.or_true]
  · rw [has_put_other (fun k => e (by injection k)), h2, decide_eq_false e, Bool.or_false]

set_option maxHeartbeats 8000000 in
set_option maxRecDepth 100000 in
theorem fault_any (a : Option Addr) (n c : Nat) (ls : List Lk) (w : World) (hr : ERow ELk w a n ls) (hn : n ≤ 100000) (he : Env w) (hs : ∀ x ∈ ls, x.root.length ≤ 2000000000000 ∧ x.source.length ≤ 2000000000000) :
    Calls Tryz.prog 50 #[.slice a n c] w fun e w' => e = .returned (.int .i64 (faultM ls)) ∧ Below w.heap.size w w' := by
  have hmm := @run_makeMap Tryz.prog
  have HR := hide hr
  have hln := hide hr.n
  have HE := hide he
  have HS := hide hs
  have Hn := hide hn
  have HB0 := hide (show Below w.heap.size w (w.alloc (.map #[] 0)) from (by repeat (first | with_reducible assumption | with_reducible exact Below.refl _ _ | with_reducible refine Below.setCell ?_ (by first | exact Nat.le_refl _ | (simp; done) | (simp; omega)) _ | with_reducible refine bal ?_ _ | with_reducible refine Below.alloc ?_ (by first | exact Nat.le_refl _ | (simp; done) | (simp; omega)) _ | with_reducible refine Below.drew ?_)))
  have HD0 : Hid (Seen (w.alloc (.map #[] 0)) w.heap.size 0 []) := ⟨_, World.ownsMap_made _ _ _ _, isMap_empty, fun _ => rfl⟩
  clear hr he hs hn
  go_enter Tryz.func50, Tryz.ntmps50
  go_wp2_with fail
  clear hmm
  generalize w.alloc (.map #[] 0) = W0 at *
  go_loopw [12] (fun i wr => ∃ k : Nat, k ≤ n ∧ i = .int .i64 k ∧ Hid (Seen wr w.heap.size k ((ls.take k).map Lk.root)) ∧ Hid (faultM ls = faultG ((ls.take k).map Lk.root) (ls.drop k)) ∧ Hid (Below w.heap.size w wr)) (fun i _ => n - (RowKit.intOf i).toNat)
  case atStart => exact ⟨0, Nat.zero_le _, rfl, HD0, rfl, HB0⟩
  case round =>
    obtain ⟨k, hkn, rfl, HD, HF, HB⟩ := hrel
    clear HD0 HB0
    by_cases hlt : k < n
    · obtain ⟨g, off, rfl⟩ := HR.out.spot (by omega)
      have hkl : k < ls.length := by have := hln.out; omega
      have hx : ls[k]? = some ls[k] := List.getElem?_eq_getElem hkl
      obtain ⟨d0, d1, d2, d3, d4⟩ := ELk_at (HR.out.later HB.out) k ls[k] hx
      have hsx := HS.out _ (List.getElem_mem hkl)
      have hdr : ls.drop k = ls[k] :: ls.drop (k + 1) := List.drop_eq_getElem_cons hkl
      have htk : (ls.take (k + 1)).map Lk.root = (ls.take k).map Lk.root ++ [ls[k].root] := by rw [List.take_succ_eq_append_getElem hkl, List.map_append]; rfl
      have HDR := hide hdr
      have HTK := hide htk
      generalize ls[k] = x at *
      have B1 : Below wr.heap.size wr (wr.alloc (.cells (lkc x) 49)) := (by repeat (first | with_reducible assumption | with_reducible exact Below.refl _ _ | with_reducible refine Below.setCell ?_ (by first | exact Nat.le_refl _ | (simp; done) | (simp; omega)) _ | with_reducible refine bal ?_ _ | with_reducible refine Below.alloc ?_ (by first | exact Nat.le_refl _ | (simp; done) | (simp; omega)) _ | with_reducible refine Below.drew ?_))
      have CO := hide (ownFault_any x _ ((HE.out.later HB.out).later B1) hsx.1 hsx.2)
      have hXb := Box.new wr (lkc x) 49
      have HX := hide hXb
      have HB1 := hide B1
      have hbs := HB.out.size
      have i1 : (0 : Int) ≤ (k : Int) := by omega
      have i2 : (k : Int) < (n : Int) := by omega
      have HKW : Hid (wrap64 ((k : Int) + 1) = ((k + 1 : Nat) : Int)) := by show _ = _; have := Hn.out; unfold wrap64; omega
      have hlt' := hide hlt
      obtain ⟨m, hm⟩ : ∃ m, m = ownM x := ⟨_, rfl⟩
      rw [← hm] at CO
      have HM := hide hm
      have hrl : (str x.root).size ≤ maxLen := by rw [str_size]; unfold maxLen; omega
      have HRL := hide hrl
      obtain ⟨x0, x1, x2, x3, x4⟩ := x
      clear hx hdr htk hsx B1 hXb hlt hkl hkn hm hrl
      go_wp2_with fail
      refine CO.out.mono ?_
      rintro e w2 ⟨rfl, b2⟩
      have x2c := (HX.out.later b2).c
      have HB2 := hide (HB1.out.trans (b2.mono HB1.out.size))
      have HD2 := hide ((HD.out.later HB1.out).later b2)
      clear b2 CO d0 d1 d2 d3 d4
      by_cases hm0 : m = 0
      · subst hm0
        obtain ⟨D, h1, h2, h3⟩ := HD2.out
        obtain ⟨v, ps, hrun, hv⟩ := h1.look_ok law Tryz.underlying114 (zeroI w2) (plainElem_int Tryz.underlying3 (by decide)) (keyOf_string_mk Tryz.underlying9 HRL.out)
        rw [show (Lit.string (str x0).data.toList) = Lit.string x0 by rw [str_list]] at hrun
        rw [h3] at hrun
        have H1 := hide h1
        have H2 := hide h2
        have H3 := hide h3
        clear h1 h2 h3 hv
        cases hcn : ((ls.take k).map Lk.root).contains x0 with
        | true =>
          rw [hcn] at hrun
          have HQ : Hid (faultM ls = 4) := by
            show _ = _
            rw [HF.out, HDR.out, faultG_twice HM.out.symm hcn]
          clear hcn
          go_wp2_with fail
          go_ret
          exact ⟨ret_int (by rw [HQ.out]; rfl), HB.out.trans (HB2.out.mono hbs)⟩
        | false =>
          rw [hcn] at hrun
          have HQ : Hid (faultM ls = faultG ((ls.take (k + 1)).map Lk.root) (ls.drop (k + 1))) := by
            show _ = _
            rw [HF.out, HDR.out, faultG_next HM.out.symm hcn, HTK.out]
          clear hcn
          go_wp2_with (first
            | (at_mapUpdate; refine wpList_mapUpdate_own _ rfl _ _ _ 114 rfl 9 3 law Tryz.underlying114 _ w.heap.size k D rfl H1.out (by have := hlt'.out; have := Hn.out; unfold maxLen; omega) _ _ _ rfl rfl (keyOf_string_mk Tryz.underlying9 HRL.out) _ [] (plainElem_int Tryz.underlying3 (WalkArith.wf_i64 (by have := hlt'.out; have := Hn.out; omega))) ?_; intro w3 hown1 hgrow1)
            | go_in)
          have HD3 : Hid (Seen w3 w.heap.size (k + 1) ((ls.take (k + 1)).map Lk.root)) := by
            show Seen _ _ _ _
            rw [HTK.out]
            exact Seen.put (w := w3) H2.out H3.out hown1
          have HB3 := hide ((HB.out.trans (HB2.out.mono hbs)).grown hgrow1 (by have := (HB.out.trans (HB2.out.mono hbs)).size; omega) (fun j e => by cases e; exact Nat.le_refl _))
          clear hown1 hgrow1 hrun H1 H2 H3 HD2 HD x2c
          go_wp2_with fail
          go_roundw
          case rel => exact ⟨k + 1, by have := hlt'.out; omega, (by first | exact congrArg (Value.int .i64) HKW.out | rfl), HD3, HQ, HB3⟩
          case measure => exact measB (by first | exact HKW.out | rfl) hlt'.out
      · have hmz : ((m : Int) != 0) = true := by simp; omega
        have HQ : Hid (faultM ls = m) := by
          show _ = _
          rw [HF.out, HDR.out, faultG_own (by rw [← HM.out]; exact hm0), HM.out]
        clear hm0
        go_wp2_with fail
        go_ret
        exact ⟨ret_int (by rw [HQ.out]), HB.out.trans (HB2.out.mono hbs)⟩
    · obtain rfl : k = n := by omega
      have hF : faultM ls = if 40 < ls.length then 2 else 0 := by
        rw [HF.out, List.drop_of_length_le (by have := hln.out; omega), List.take_of_length_le (by have := hln.out; omega)]
        unfold faultG
        rw [List.length_map]
      have i2 : ¬ ((k : Int) < (k : Int)) := by omega
      by_cases h40 : 40 < k
      · have HQ : Hid (faultM ls = 2) := by show _ = _; rw [hF, if_pos (by have := hln.out; omega)]
        have d40 : (k : Int) > 40 := by omega
        clear hF h40
        go_wp2_with fail
        go_ret
        exact ⟨ret_int (by rw [HQ.out]; rfl), HB.out⟩
      · have HQ : Hid (faultM ls = 0) := by show _ = _; rw [hF, if_neg (by have := hln.out; omega)]
        have d40 : ¬ (k : Int) > 40 := by omega
        clear hF h40
        go_wp2_with fail
        go_ret
        exact ⟨ret_int (by rw [HQ.out]; rfl), HB.out⟩

end Go.Proofs.YtnmmhihfnphjeaaGreatDoor.B

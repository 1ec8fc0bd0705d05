/-
  Contract of the reference's Parse.
-/
import Derived.Test.YthihnpjbdjmbhaaGreatDoorG06
import Derived.Deep.QuietTactic
import Derived.Deep.DrawnRows

namespace Go.Proofs.YthihnpjbdjmbhaaGreatDoor
set_option linter.unusedSimpArgs false
set_option linter.unusedVariables false
open Go.RowKit Go.Vr Go.Sort Go.Tx Go.Lib
attribute [local go_sem] setCellDrewN allocDrewN

/-- A version as a value; what Parse answers. -/
abbrev val (v : V) : Value := ver v.a v.b v.c v.p
def pret (o : Option V) : Value := .tuple #[val (o.getD V.zero), .bool o.isSome]
theorem bcell {W w1 : World} (hb : Below W.heap.size W w1) : (∀ b o, b < W.heap.size → w1.cell? ⟨b, o, none⟩ = W.cell? ⟨b, o, none⟩) ∧ (∀ b o, b < W.heap.size → w1.frozen? ⟨b, o, none⟩ = W.frozen? ⟨b, o, none⟩) :=
  ⟨fun b o h => hb.cell (p := ⟨b, o, none⟩) h, fun b o h => hb.frozen (p := ⟨b, o, none⟩) h⟩
theorem pret_none {o : Option V} (h : o = none) : Ending.returned (.tuple #[ver 0 0 0 ⟨#[]⟩, .bool false]) = .returned (pret o) := by rw [h]; rfl
theorem pret_some {o : Option V} {a b c : Int} {p : ByteArray} (h : o = some ⟨a, b, c, p⟩) : Ending.returned (.tuple #[ver a b c p, .bool true]) = .returned (pret o) := by rw [h]; rfl

set_option maxHeartbeats 4000000 in
set_option maxRecDepth 100000 in
theorem rparse_any (s : ByteArray) (w : World) (hs : s.size ≤ 4000) :
    Calls Tryz.prog 10 #[.string s] w fun e w' => e = .returned (pret (parse s.data.toList)) ∧ Below w.heap.size w w' := by
  have hB0 : ∀ (x y z : Int) (N : Nat), Below w.heap.size w (((w.alloc (.cells #[.int .i64 0, .int .i64 0, .int .i64 0, .string ⟨#[]⟩] 37)).alloc (.cells #[.int .i64 x, .int .i64 y, .int .i64 z] 57)).drewN N) := fun x y z N =>
    (((Below.refl _ _).alloc (Nat.le_refl _) _).alloc (by simp) _).trans ((belDrewN _ N).mono (by simp; omega))
  have hB1 : ∀ (x y z : Int) (p : ByteArray) (N : Nat), Below w.heap.size w ((((w.alloc (.cells #[.int .i64 0, .int .i64 0, .int .i64 0, .string ⟨#[]⟩] 37)).alloc (.cells #[.int .i64 x, .int .i64 y, .int .i64 z] 57)).alloc (.cells #[.int .i64 x, .int .i64 y, .int .i64 z, .string p] 37)).drewN N) := fun x y z p N =>
    ((((Below.refl _ _).alloc (Nat.le_refl _) _).alloc (by simp) _).alloc (by simp; omega) _).trans ((belDrewN _ N).mono (by simp; omega))
  go_enter Tryz.func10, Tryz.ntmps10
  go_wp2_with fail
  go_loopw [5, 6] (fun at_ i wr => ∃ (j : Int) (t N : Nat) (x y z : Int), (0 ≤ j ∧ j ≤ 3) ∧ t ≤ s.size ∧ i = .int .i64 j ∧ at_ = .int .i64 t ∧ Hid (parse s.data.toList = go3 j.toNat x y z (s.data.toList.drop t)) ∧ (0 ≤ x ∧ x ≤ 999999999) ∧ (0 ≤ y ∧ y ≤ 999999999) ∧ (0 ≤ z ∧ z ≤ 999999999) ∧
      wr = ((w.alloc (.cells #[.int .i64 0, .int .i64 0, .int .i64 0, .string ⟨#[]⟩] 37)).alloc (.cells #[.int .i64 x, .int .i64 y, .int .i64 z] 57)).drewN N) (fun _ i _ => 3 - (RowKit.intOf i).toNat)
  case atStart => exact ⟨0, 0, 0, 0, 0, 0, by omega, by omega, rfl, rfl, parse_go _, by omega, by omega, by omega, rfl⟩
  case round =>
    obtain ⟨j, t, N, x, y, z, hj, ht, rfl, rfl, HP, hx, hy, hz, rfl⟩ := hrel
    by_cases h3 : j < 3
    · rcases (show j = 0 ∨ j = 1 ∨ j = 2 by omega) with rfl | rfl | rfl
      · have HP : Hid (parse s.data.toList = go3 0 x y z (s.data.toList.drop t)) := HP
        have eD : (((⟨#[118, 46, 46]⟩ : ByteArray)[0]'(by decide)).toNat : Int) = 118 := rfl
        by_cases hlt : t < s.size
        · have d1 : decide ((s.size : Int) ≤ (t : Int)) = false := by simp; omega
          have d1n : decide (s.size ≤ t) = false := by simp; omega
          have i1 : (0 : Int) ≤ (t : Int) := by omega
          have i2 : (t : Int) < (s.size : Int) := by omega
          cases hq : (((s[t]).toNat : Int) == 118) with
          | false =>
            have hq2 : (((s[t]).toNat : Int) != 118) = true := by simp [bne, hq]
            have HN : Hid (parse s.data.toList = none) := by show parse s.data.toList = none; rw [HP.out]; unfold go3; simp only [rstep_ne 118 s t hlt (byte_ne _ 118 hq)]
            clear hq
            go_wp2_with fail
            go_quiet (fail)
            go_wp2_with fail
            exact bodyPost_ret (v := .tuple #[ver 0 0 0 ⟨#[]⟩, .bool false]) (by simp [results, Tryz.results10, go_sem]) rfl ⟨pret_none HN.out, hB0 _ _ _ _⟩
          | true =>
            have hq2 : (((s[t]).toNat : Int) != 118) = false := by simp [bne, hq]
            have HQ : Hid (s[t] = 118) := byte_eq _ 118 hq
            clear hq
            go_wp2_with fail
            go_quiet (fail)
            go_wp2_with fail
            go_loop [5] (fun at_ => ∃ k : Nat, at_ = .int .i64 k ∧ t + 1 ≤ k ∧ k ≤ s.size ∧ Hid (DigTo s (t + 1) k)) (fun at_ => s.size - (RowKit.intOf at_).toNat)
            case atStart => exact ⟨t + 1, by go_num, by omega, by omega, DigTo.start s (t + 1) (by omega)⟩
            case round =>
              obtain ⟨k, rfl, hk1, hk2, HD⟩ := hrel
              by_cases hkl : k < s.size
              · have i3 : (0 : Int) ≤ (k : Int) := by omega
                have i4 : (k : Int) < (s.size : Int) := by omega
                cases hd : digB ((s[k]).toNat : Int) with
                | true =>
                  have HD2 : Hid (DigTo s (t + 1) (k + 1)) := HD.out.next hkl hd
                  have HG : Hid _ := hd
                  clear hd
                  go_wp2_with (go_at_call 20; refine (rdigit_any _ _).mono ?_; rw [HG.out]; rintro e w' ⟨rfl, rfl⟩)
                  go_round
                  case rel => exact ⟨k + 1, by go_num, by omega, by omega, HD2⟩
                  case measure => simp [RowKit.intOf]; omega
                | false =>
                  have hnd : isDig s[k] = false := hd
                  have HG : Hid _ := hd
                  have HND : Hid _ := hnd
                  clear hd hnd
                  go_wp2_with (go_at_call 20; refine (rdigit_any _ _).mono ?_; rw [HG.out]; rintro e w' ⟨rfl, rfl⟩)
                  have HS := rstep_eq 118 s t k hlt HQ.out HD.out (.inr ⟨hkl, HND.out⟩)
                  cases hok : okNum (s.extract (t + 1) k).data.toList with
                  | false =>
                    have HN : Hid (parse s.data.toList = none) := by show parse s.data.toList = none; rw [HP.out]; unfold go3; rw [hok, if_neg (by decide)] at HS; simp only [HS]
                    have HK : Hid _ := hok
                    clear HS hok
                    go_wp2_with fail
                    refine (rnumber_any _ _ (by unfold maxLen; rw [ByteArray.size_extract]; omega)).mono ?_
                    rw [HK.out]
                    rintro e w2 ⟨rfl, rfl⟩
                    go_wp2_with fail
                    exact bodyPost_ret (v := .tuple #[ver 0 0 0 ⟨#[]⟩, .bool false]) (by simp [results, Tryz.results10, go_sem]) rfl ⟨pret_none HN.out, hB0 _ _ _ _⟩
                  | true =>
                    have hbd := okNum_bd _ hok
                    have HN : Hid (parse s.data.toList = go3 1 (numVal (s.extract (t + 1) k).data.toList) y z (s.data.toList.drop k)) := by show parse s.data.toList = _; rw [HP.out]; unfold go3; rw [hok, if_pos rfl] at HS; simp only [HS]
                    have HK : Hid _ := hok
                    have HR : Hid _ := hbd.2.2
                    have hb1 := hbd.1
                    have hb2 := hbd.2.1
                    clear HS hok hbd
                    go_wp2_with fail
                    refine (rnumber_any _ _ (by unfold maxLen; rw [ByteArray.size_extract]; omega)).mono ?_
                    rw [HK.out, HR.out]
                    rintro e w2 ⟨rfl, rfl⟩
                    generalize numVal (s.extract (t + 1) k).data.toList = nv at *
                    go_wp2_with fail
                    go_roundw
                    case rel => exact ⟨1, k, _, nv, y, z, by omega, by omega, rfl, rfl, HN, by omega, by omega, by omega, rfl⟩
                    case measure => simp [RowKit.intOf]
              · have d2 : decide ((k : Int) < (s.size : Int)) = false := by simp; omega
                go_wp2_with fail
                have HS := rstep_eq 118 s t k hlt HQ.out HD.out (.inl (by omega))
                cases hok : okNum (s.extract (t + 1) k).data.toList with
                | false =>
                  have HN : Hid (parse s.data.toList = none) := by show parse s.data.toList = none; rw [HP.out]; unfold go3; rw [hok, if_neg (by decide)] at HS; simp only [HS]
                  have HK : Hid _ := hok
                  clear HS hok
                  go_wp2_with fail
                  refine (rnumber_any _ _ (by unfold maxLen; rw [ByteArray.size_extract]; omega)).mono ?_
                  rw [HK.out]
                  rintro e w2 ⟨rfl, rfl⟩
                  go_wp2_with fail
                  exact bodyPost_ret (v := .tuple #[ver 0 0 0 ⟨#[]⟩, .bool false]) (by simp [results, Tryz.results10, go_sem]) rfl ⟨pret_none HN.out, hB0 _ _ _ _⟩
                | true =>
                  have hbd := okNum_bd _ hok
                  have HN : Hid (parse s.data.toList = go3 1 (numVal (s.extract (t + 1) k).data.toList) y z (s.data.toList.drop k)) := by show parse s.data.toList = _; rw [HP.out]; unfold go3; rw [hok, if_pos rfl] at HS; simp only [HS]
                  have HK : Hid _ := hok
                  have HR : Hid _ := hbd.2.2
                  have hb1 := hbd.1
                  have hb2 := hbd.2.1
                  clear HS hok hbd
                  go_wp2_with fail
                  refine (rnumber_any _ _ (by unfold maxLen; rw [ByteArray.size_extract]; omega)).mono ?_
                  rw [HK.out, HR.out]
                  rintro e w2 ⟨rfl, rfl⟩
                  generalize numVal (s.extract (t + 1) k).data.toList = nv at *
                  go_wp2_with fail
                  go_roundw
                  case rel => exact ⟨1, k, _, nv, y, z, by omega, by omega, rfl, rfl, HN, by omega, by omega, by omega, rfl⟩
                  case measure => simp [RowKit.intOf]
        · have d1 : decide ((s.size : Int) ≤ (t : Int)) = true := by simp; omega
          have HN : Hid (parse s.data.toList = none) := by show parse s.data.toList = none; rw [HP.out]; unfold go3; simp only [rstep_end _ s t (by omega)]
          go_wp2_with fail
          go_quiet (fail)
          go_wp2_with fail
          exact bodyPost_ret (v := .tuple #[ver 0 0 0 ⟨#[]⟩, .bool false]) (by simp [results, Tryz.results10, go_sem]) rfl ⟨pret_none HN.out, hB0 _ _ _ _⟩
      · have HP : Hid (parse s.data.toList = go3 1 x y z (s.data.toList.drop t)) := HP
        have eD : (((⟨#[118, 46, 46]⟩ : ByteArray)[1]'(by decide)).toNat : Int) = 46 := rfl
        by_cases hlt : t < s.size
        · have d1 : decide ((s.size : Int) ≤ (t : Int)) = false := by simp; omega
          have d1n : decide (s.size ≤ t) = false := by simp; omega
          have i1 : (0 : Int) ≤ (t : Int) := by omega
          have i2 : (t : Int) < (s.size : Int) := by omega
          cases hq : (((s[t]).toNat : Int) == 46) with
          | false =>
            have hq2 : (((s[t]).toNat : Int) != 46) = true := by simp [bne, hq]
            have HN : Hid (parse s.data.toList = none) := by show parse s.data.toList = none; rw [HP.out]; unfold go3; simp only [rstep_ne 46 s t hlt (byte_ne _ 46 hq)]
            clear hq
            go_wp2_with fail
            go_quiet (fail)
            go_wp2_with fail
            exact bodyPost_ret (v := .tuple #[ver 0 0 0 ⟨#[]⟩, .bool false]) (by simp [results, Tryz.results10, go_sem]) rfl ⟨pret_none HN.out, hB0 _ _ _ _⟩
          | true =>
            have hq2 : (((s[t]).toNat : Int) != 46) = false := by simp [bne, hq]
            have HQ : Hid (s[t] = 46) := byte_eq _ 46 hq
            clear hq
            go_wp2_with fail
            go_quiet (fail)
            go_wp2_with fail
            go_loop [5] (fun at_ => ∃ k : Nat, at_ = .int .i64 k ∧ t + 1 ≤ k ∧ k ≤ s.size ∧ Hid (DigTo s (t + 1) k)) (fun at_ => s.size - (RowKit.intOf at_).toNat)
            case atStart => exact ⟨t + 1, by go_num, by omega, by omega, DigTo.start s (t + 1) (by omega)⟩
            case round =>
              obtain ⟨k, rfl, hk1, hk2, HD⟩ := hrel
              by_cases hkl : k < s.size
              · have i3 : (0 : Int) ≤ (k : Int) := by omega
                have i4 : (k : Int) < (s.size : Int) := by omega
                cases hd : digB ((s[k]).toNat : Int) with
                | true =>
                  have HD2 : Hid (DigTo s (t + 1) (k + 1)) := HD.out.next hkl hd
                  have HG : Hid _ := hd
                  clear hd
                  go_wp2_with (go_at_call 20; refine (rdigit_any _ _).mono ?_; rw [HG.out]; rintro e w' ⟨rfl, rfl⟩)
                  go_round
                  case rel => exact ⟨k + 1, by go_num, by omega, by omega, HD2⟩
                  case measure => simp [RowKit.intOf]; omega
                | false =>
                  have hnd : isDig s[k] = false := hd
                  have HG : Hid _ := hd
                  have HND : Hid _ := hnd
                  clear hd hnd
                  go_wp2_with (go_at_call 20; refine (rdigit_any _ _).mono ?_; rw [HG.out]; rintro e w' ⟨rfl, rfl⟩)
                  have HS := rstep_eq 46 s t k hlt HQ.out HD.out (.inr ⟨hkl, HND.out⟩)
                  cases hok : okNum (s.extract (t + 1) k).data.toList with
                  | false =>
                    have HN : Hid (parse s.data.toList = none) := by show parse s.data.toList = none; rw [HP.out]; unfold go3; rw [hok, if_neg (by decide)] at HS; simp only [HS]
                    have HK : Hid _ := hok
                    clear HS hok
                    go_wp2_with fail
                    refine (rnumber_any _ _ (by unfold maxLen; rw [ByteArray.size_extract]; omega)).mono ?_
                    rw [HK.out]
                    rintro e w2 ⟨rfl, rfl⟩
                    go_wp2_with fail
                    exact bodyPost_ret (v := .tuple #[ver 0 0 0 ⟨#[]⟩, .bool false]) (by simp [results, Tryz.results10, go_sem]) rfl ⟨pret_none HN.out, hB0 _ _ _ _⟩
                  | true =>
                    have hbd := okNum_bd _ hok
                    have HN : Hid (parse s.data.toList = go3 2 x (numVal (s.extract (t + 1) k).data.toList) z (s.data.toList.drop k)) := by show parse s.data.toList = _; rw [HP.out]; unfold go3; rw [hok, if_pos rfl] at HS; simp only [HS]
                    have HK : Hid _ := hok
                    have HR : Hid _ := hbd.2.2
                    have hb1 := hbd.1
                    have hb2 := hbd.2.1
                    clear HS hok hbd
                    go_wp2_with fail
                    refine (rnumber_any _ _ (by unfold maxLen; rw [ByteArray.size_extract]; omega)).mono ?_
                    rw [HK.out, HR.out]
                    rintro e w2 ⟨rfl, rfl⟩
                    generalize numVal (s.extract (t + 1) k).data.toList = nv at *
                    go_wp2_with fail
                    go_roundw
                    case rel => exact ⟨2, k, _, x, nv, z, by omega, by omega, rfl, rfl, HN, by omega, by omega, by omega, rfl⟩
                    case measure => simp [RowKit.intOf]
              · have d2 : decide ((k : Int) < (s.size : Int)) = false := by simp; omega
                go_wp2_with fail
                have HS := rstep_eq 46 s t k hlt HQ.out HD.out (.inl (by omega))
                cases hok : okNum (s.extract (t + 1) k).data.toList with
                | false =>
                  have HN : Hid (parse s.data.toList = none) := by show parse s.data.toList = none; rw [HP.out]; unfold go3; rw [hok, if_neg (by decide)] at HS; simp only [HS]
                  have HK : Hid _ := hok
                  clear HS hok
                  go_wp2_with fail
                  refine (rnumber_any _ _ (by unfold maxLen; rw [ByteArray.size_extract]; omega)).mono ?_
                  rw [HK.out]
                  rintro e w2 ⟨rfl, rfl⟩
                  go_wp2_with fail
                  exact bodyPost_ret (v := .tuple #[ver 0 0 0 ⟨#[]⟩, .bool false]) (by simp [results, Tryz.results10, go_sem]) rfl ⟨pret_none HN.out, hB0 _ _ _ _⟩
                | true =>
                  have hbd := okNum_bd _ hok
                  have HN : Hid (parse s.data.toList = go3 2 x (numVal (s.extract (t + 1) k).data.toList) z (s.data.toList.drop k)) := by show parse s.data.toList = _; rw [HP.out]; unfold go3; rw [hok, if_pos rfl] at HS; simp only [HS]
                  have HK : Hid _ := hok
                  have HR : Hid _ := hbd.2.2
                  have hb1 := hbd.1
                  have hb2 := hbd.2.1
                  clear HS hok hbd
                  go_wp2_with fail
                  refine (rnumber_any _ _ (by unfold maxLen; rw [ByteArray.size_extract]; omega)).mono ?_
                  rw [HK.out, HR.out]
                  rintro e w2 ⟨rfl, rfl⟩
                  generalize numVal (s.extract (t + 1) k).data.toList = nv at *
                  go_wp2_with fail
                  go_roundw
                  case rel => exact ⟨2, k, _, x, nv, z, by omega, by omega, rfl, rfl, HN, by omega, by omega, by omega, rfl⟩
                  case measure => simp [RowKit.intOf]
        · have d1 : decide ((s.size : Int) ≤ (t : Int)) = true := by simp; omega
          have HN : Hid (parse s.data.toList = none) := by show parse s.data.toList = none; rw [HP.out]; unfold go3; simp only [rstep_end _ s t (by omega)]
          go_wp2_with fail
          go_quiet (fail)
          go_wp2_with fail
          exact bodyPost_ret (v := .tuple #[ver 0 0 0 ⟨#[]⟩, .bool false]) (by simp [results, Tryz.results10, go_sem]) rfl ⟨pret_none HN.out, hB0 _ _ _ _⟩
      · have HP : Hid (parse s.data.toList = go3 2 x y z (s.data.toList.drop t)) := HP
        have eD : (((⟨#[118, 46, 46]⟩ : ByteArray)[2]'(by decide)).toNat : Int) = 46 := rfl
        by_cases hlt : t < s.size
        · have d1 : decide ((s.size : Int) ≤ (t : Int)) = false := by simp; omega
          have d1n : decide (s.size ≤ t) = false := by simp; omega
          have i1 : (0 : Int) ≤ (t : Int) := by omega
          have i2 : (t : Int) < (s.size : Int) := by omega
          cases hq : (((s[t]).toNat : Int) == 46) with
          | false =>
            have hq2 : (((s[t]).toNat : Int) != 46) = true := by simp [bne, hq]
            have HN : Hid (parse s.data.toList = none) := by show parse s.data.toList = none; rw [HP.out]; unfold go3; simp only [rstep_ne 46 s t hlt (byte_ne _ 46 hq)]
            clear hq
            go_wp2_with fail
            go_quiet (fail)
            go_wp2_with fail
            exact bodyPost_ret (v := .tuple #[ver 0 0 0 ⟨#[]⟩, .bool false]) (by simp [results, Tryz.results10, go_sem]) rfl ⟨pret_none HN.out, hB0 _ _ _ _⟩
          | true =>
            have hq2 : (((s[t]).toNat : Int) != 46) = false := by simp [bne, hq]
            have HQ : Hid (s[t] = 46) := byte_eq _ 46 hq
            clear hq
            go_wp2_with fail
            go_quiet (fail)
            go_wp2_with fail
            go_loop [5] (fun at_ => ∃ k : Nat, at_ = .int .i64 k ∧ t + 1 ≤ k ∧ k ≤ s.size ∧ Hid (DigTo s (t + 1) k)) (fun at_ => s.size - (RowKit.intOf at_).toNat)
            case atStart => exact ⟨t + 1, by go_num, by omega, by omega, DigTo.start s (t + 1) (by omega)⟩
            case round =>
              obtain ⟨k, rfl, hk1, hk2, HD⟩ := hrel
              by_cases hkl : k < s.size
              · have i3 : (0 : Int) ≤ (k : Int) := by omega
                have i4 : (k : Int) < (s.size : Int) := by omega
                cases hd : digB ((s[k]).toNat : Int) with
                | true =>
                  have HD2 : Hid (DigTo s (t + 1) (k + 1)) := HD.out.next hkl hd
                  have HG : Hid _ := hd
                  clear hd
                  go_wp2_with (go_at_call 20; refine (rdigit_any _ _).mono ?_; rw [HG.out]; rintro e w' ⟨rfl, rfl⟩)
                  go_round
                  case rel => exact ⟨k + 1, by go_num, by omega, by omega, HD2⟩
                  case measure => simp [RowKit.intOf]; omega
                | false =>
                  have hnd : isDig s[k] = false := hd
                  have HG : Hid _ := hd
                  have HND : Hid _ := hnd
                  clear hd hnd
                  go_wp2_with (go_at_call 20; refine (rdigit_any _ _).mono ?_; rw [HG.out]; rintro e w' ⟨rfl, rfl⟩)
                  have HS := rstep_eq 46 s t k hlt HQ.out HD.out (.inr ⟨hkl, HND.out⟩)
                  cases hok : okNum (s.extract (t + 1) k).data.toList with
                  | false =>
                    have HN : Hid (parse s.data.toList = none) := by show parse s.data.toList = none; rw [HP.out]; unfold go3; rw [hok, if_neg (by decide)] at HS; simp only [HS]
                    have HK : Hid _ := hok
                    clear HS hok
                    go_wp2_with fail
                    refine (rnumber_any _ _ (by unfold maxLen; rw [ByteArray.size_extract]; omega)).mono ?_
                    rw [HK.out]
                    rintro e w2 ⟨rfl, rfl⟩
                    go_wp2_with fail
                    exact bodyPost_ret (v := .tuple #[ver 0 0 0 ⟨#[]⟩, .bool false]) (by simp [results, Tryz.results10, go_sem]) rfl ⟨pret_none HN.out, hB0 _ _ _ _⟩
                  | true =>
                    have hbd := okNum_bd _ hok
                    have HN : Hid (parse s.data.toList = go3 3 x y (numVal (s.extract (t + 1) k).data.toList) (s.data.toList.drop k)) := by show parse s.data.toList = _; rw [HP.out]; unfold go3; rw [hok, if_pos rfl] at HS; simp only [HS]
                    have HK : Hid _ := hok
                    have HR : Hid _ := hbd.2.2
                    have hb1 := hbd.1
                    have hb2 := hbd.2.1
                    clear HS hok hbd
                    go_wp2_with fail
                    refine (rnumber_any _ _ (by unfold maxLen; rw [ByteArray.size_extract]; omega)).mono ?_
                    rw [HK.out, HR.out]
                    rintro e w2 ⟨rfl, rfl⟩
                    generalize numVal (s.extract (t + 1) k).data.toList = nv at *
                    go_wp2_with fail
                    go_roundw
                    case rel => exact ⟨3, k, _, x, y, nv, by omega, by omega, rfl, rfl, HN, by omega, by omega, by omega, rfl⟩
                    case measure => simp [RowKit.intOf]
              · have d2 : decide ((k : Int) < (s.size : Int)) = false := by simp; omega
                go_wp2_with fail
                have HS := rstep_eq 46 s t k hlt HQ.out HD.out (.inl (by omega))
                cases hok : okNum (s.extract (t + 1) k).data.toList with
                | false =>
                  have HN : Hid (parse s.data.toList = none) := by show parse s.data.toList = none; rw [HP.out]; unfold go3; rw [hok, if_neg (by decide)] at HS; simp only [HS]
                  have HK : Hid _ := hok
                  clear HS hok
                  go_wp2_with fail
                  refine (rnumber_any _ _ (by unfold maxLen; rw [ByteArray.size_extract]; omega)).mono ?_
                  rw [HK.out]
                  rintro e w2 ⟨rfl, rfl⟩
                  go_wp2_with fail
                  exact bodyPost_ret (v := .tuple #[ver 0 0 0 ⟨#[]⟩, .bool false]) (by simp [results, Tryz.results10, go_sem]) rfl ⟨pret_none HN.out, hB0 _ _ _ _⟩
                | true =>
                  have hbd := okNum_bd _ hok
                  have HN : Hid (parse s.data.toList = go3 3 x y (numVal (s.extract (t + 1) k).data.toList) (s.data.toList.drop k)) := by show parse s.data.toList = _; rw [HP.out]; unfold go3; rw [hok, if_pos rfl] at HS; simp only [HS]
                  have HK : Hid _ := hok
                  have HR : Hid _ := hbd.2.2
                  have hb1 := hbd.1
                  have hb2 := hbd.2.1
                  clear HS hok hbd
                  go_wp2_with fail
                  refine (rnumber_any _ _ (by unfold maxLen; rw [ByteArray.size_extract]; omega)).mono ?_
                  rw [HK.out, HR.out]
                  rintro e w2 ⟨rfl, rfl⟩
                  generalize numVal (s.extract (t + 1) k).data.toList = nv at *
                  go_wp2_with fail
                  go_roundw
                  case rel => exact ⟨3, k, _, x, y, nv, by omega, by omega, rfl, rfl, HN, by omega, by omega, by omega, rfl⟩
                  case measure => simp [RowKit.intOf]
        · have d1 : decide ((s.size : Int) ≤ (t : Int)) = true := by simp; omega
          have HN : Hid (parse s.data.toList = none) := by show parse s.data.toList = none; rw [HP.out]; unfold go3; simp only [rstep_end _ s t (by omega)]
          go_wp2_with fail
          go_quiet (fail)
          go_wp2_with fail
          exact bodyPost_ret (v := .tuple #[ver 0 0 0 ⟨#[]⟩, .bool false]) (by simp [results, Tryz.results10, go_sem]) rfl ⟨pret_none HN.out, hB0 _ _ _ _⟩
    · obtain rfl : j = 3 := by omega
      have HP : Hid (parse s.data.toList = go3 3 x y z (s.data.toList.drop t)) := HP
      by_cases hlt : t < s.size
      · have d1 : decide ((t : Int) < (s.size : Int)) = true := by simp; omega
        have i1 : (0 : Int) ≤ (t : Int) := by omega
        cases hq : (((s[t]).toNat : Int) == 45) with
        | false =>
          have hq2 : (((s[t]).toNat : Int) != 45) = true := by simp [bne, hq]
          have HN : Hid (parse s.data.toList = none) := by show parse s.data.toList = none; rw [HP.out]; show fin _ _ _ _ = _; rw [fin_ne x y z s t hlt (byte_ne _ 45 hq)]
          clear hq
          go_wp2_with fail
          exact bodyPost_ret (v := .tuple #[ver 0 0 0 ⟨#[]⟩, .bool false]) (by simp [results, Tryz.results10, go_sem]) rfl ⟨pret_none HN.out, by first | exact hB0 _ _ _ _ | exact hB1 _ _ _ _ _⟩
        | true =>
          have hq2 : (((s[t]).toNat : Int) != 45) = false := by simp [bne, hq]
          by_cases h1 : t + 1 = s.size
          · have h1b : (((t : Int) + 1) == (s.size : Int)) = true := by simp; omega
            have HN : Hid (parse s.data.toList = none) := by show parse s.data.toList = none; rw [HP.out]; show fin _ _ _ _ = _; rw [fin_one x y z s t h1]
            clear hq h1
            go_wp2_with fail
            exact bodyPost_ret (v := .tuple #[ver 0 0 0 ⟨#[]⟩, .bool false]) (by simp [results, Tryz.results10, go_sem]) rfl ⟨pret_none HN.out, by first | exact hB0 _ _ _ _ | exact hB1 _ _ _ _ _⟩
          · have h1b : (((t : Int) + 1) == (s.size : Int)) = false := by simp; omega
            have HF := fin_more x y z s t (by omega) (byte_eq _ 45 hq)
            clear hq h1
            cases hok : verOk x y z (s.extract (t + 1) s.size).data.toList with
            | false =>
              have HN : Hid (parse s.data.toList = none) := by show parse s.data.toList = none; rw [HP.out]; show fin _ _ _ _ = _; rw [HF, hok]; rfl
              have HK : Hid _ := hok
              clear HF hok
              go_wp2_with fail
              refine (rright_any _ _ _ _ _ (by unfold maxLen; rw [ByteArray.size_extract]; omega)).mono ?_
              rw [HK.out]
              rintro e w2 ⟨rfl, hb2⟩
              have hz : w.heap.size + 1 + 1 < w2.heap.size := by have := hb2.size; simp at this; omega
              obtain ⟨hc2, hf2⟩ := bcell hb2
              have c0 := hc2 w.heap.size 0 (by simp; omega)
              have c1 := hc2 w.heap.size 1 (by simp; omega)
              have c2 := hc2 w.heap.size 2 (by simp; omega)
              have c3 := hc2 w.heap.size 3 (by simp; omega)
              have v0 := hc2 (w.heap.size + 1 + 1) 0 (by simp)
              have v1 := hc2 (w.heap.size + 1 + 1) 1 (by simp)
              have v2 := hc2 (w.heap.size + 1 + 1) 2 (by simp)
              have v3 := hc2 (w.heap.size + 1 + 1) 3 (by simp)
              have f0 := hf2 w.heap.size 0 (by simp; omega)
              have f1 := hf2 w.heap.size 1 (by simp; omega)
              have f2 := hf2 w.heap.size 2 (by simp; omega)
              have f3 := hf2 w.heap.size 3 (by simp; omega)
              simp [go_sem] at c0 c1 c2 c3 v0 v1 v2 v3 f0 f1 f2 f3
              clear hc2 hf2
              go_wp2_with fail
              exact bodyPost_ret (v := .tuple #[ver 0 0 0 ⟨#[]⟩, .bool false]) (by simp [results, Tryz.results10, go_sem, c0, c1, c2, c3]) rfl ⟨pret_none HN.out, ((((((hB1 _ _ _ _ _).trans (hb2.mono (by simp; omega))).setCell (by simp) _).setCell (by simp) _).setCell (by simp) _).setCell (by simp) _)⟩
            | true =>
              have HN : Hid (parse s.data.toList = some ⟨x, y, z, s.extract (t + 1) s.size⟩) := by show parse s.data.toList = _; rw [HP.out]; show fin _ _ _ _ = _; rw [HF, hok]; rfl
              have HK : Hid _ := hok
              clear HF hok
              go_wp2_with fail
              refine (rright_any _ _ _ _ _ (by unfold maxLen; rw [ByteArray.size_extract]; omega)).mono ?_
              rw [HK.out]
              rintro e w2 ⟨rfl, hb2⟩
              have hz : w.heap.size + 1 + 1 < w2.heap.size := by have := hb2.size; simp at this; omega
              obtain ⟨hc2, hf2⟩ := bcell hb2
              have c0 := hc2 w.heap.size 0 (by simp; omega)
              have c1 := hc2 w.heap.size 1 (by simp; omega)
              have c2 := hc2 w.heap.size 2 (by simp; omega)
              have c3 := hc2 w.heap.size 3 (by simp; omega)
              have v0 := hc2 (w.heap.size + 1 + 1) 0 (by simp)
              have v1 := hc2 (w.heap.size + 1 + 1) 1 (by simp)
              have v2 := hc2 (w.heap.size + 1 + 1) 2 (by simp)
              have v3 := hc2 (w.heap.size + 1 + 1) 3 (by simp)
              have f0 := hf2 w.heap.size 0 (by simp; omega)
              have f1 := hf2 w.heap.size 1 (by simp; omega)
              have f2 := hf2 w.heap.size 2 (by simp; omega)
              have f3 := hf2 w.heap.size 3 (by simp; omega)
              simp [go_sem] at c0 c1 c2 c3 v0 v1 v2 v3 f0 f1 f2 f3
              clear hc2 hf2
              go_wp2_with fail
              exact bodyPost_ret (v := .tuple #[ver x y z (s.extract (t + 1) s.size), .bool true]) (by simp [results, Tryz.results10, go_sem, c0, c1, c2, c3]) rfl ⟨pret_some HN.out, ((((((hB1 _ _ _ _ _).trans (hb2.mono (by simp; omega))).setCell (by simp) _).setCell (by simp) _).setCell (by simp) _).setCell (by simp) _)⟩
      · have d1 : decide ((t : Int) < (s.size : Int)) = false := by simp; omega
        have HF := fin_end x y z s t (by omega)
        cases hok : verOk x y z [] with
        | false =>
          have HN : Hid (parse s.data.toList = none) := by show parse s.data.toList = none; rw [HP.out]; show fin _ _ _ _ = _; rw [HF, hok]; rfl
          have HK : Hid _ := hok
          clear HF hok
          go_wp2_with fail
          refine (rright_any _ _ _ _ _ (by unfold maxLen; decide)).mono ?_
          rw [HK.out]
          rintro e w2 ⟨rfl, hb2⟩
          have hz : w.heap.size + 1 + 1 < w2.heap.size := by have := hb2.size; simp at this; omega
          obtain ⟨hc2, hf2⟩ := bcell hb2
          have c0 := hc2 w.heap.size 0 (by simp; omega)
          have c1 := hc2 w.heap.size 1 (by simp; omega)
          have c2 := hc2 w.heap.size 2 (by simp; omega)
          have c3 := hc2 w.heap.size 3 (by simp; omega)
          have v0 := hc2 (w.heap.size + 1 + 1) 0 (by simp)
          have v1 := hc2 (w.heap.size + 1 + 1) 1 (by simp)
          have v2 := hc2 (w.heap.size + 1 + 1) 2 (by simp)
          have v3 := hc2 (w.heap.size + 1 + 1) 3 (by simp)
          have f0 := hf2 w.heap.size 0 (by simp; omega)
          have f1 := hf2 w.heap.size 1 (by simp; omega)
          have f2 := hf2 w.heap.size 2 (by simp; omega)
          have f3 := hf2 w.heap.size 3 (by simp; omega)
          simp [go_sem] at c0 c1 c2 c3 v0 v1 v2 v3 f0 f1 f2 f3
          clear hc2 hf2
          go_wp2_with fail
          exact bodyPost_ret (v := .tuple #[ver 0 0 0 ⟨#[]⟩, .bool false]) (by simp [results, Tryz.results10, go_sem, c0, c1, c2, c3]) rfl ⟨pret_none HN.out, ((((((hB1 _ _ _ _ _).trans (hb2.mono (by simp; omega))).setCell (by simp) _).setCell (by simp) _).setCell (by simp) _).setCell (by simp) _)⟩
        | true =>
          have HN : Hid (parse s.data.toList = some ⟨x, y, z, ⟨#[]⟩⟩) := by show parse s.data.toList = _; rw [HP.out]; show fin _ _ _ _ = _; rw [HF, hok]; rfl
          have HK : Hid _ := hok
          clear HF hok
          go_wp2_with fail
          refine (rright_any _ _ _ _ _ (by unfold maxLen; decide)).mono ?_
          rw [HK.out]
          rintro e w2 ⟨rfl, hb2⟩
          have hz : w.heap.size + 1 + 1 < w2.heap.size := by have := hb2.size; simp at this; omega
          obtain ⟨hc2, hf2⟩ := bcell hb2
          have c0 := hc2 w.heap.size 0 (by simp; omega)
          have c1 := hc2 w.heap.size 1 (by simp; omega)
          have c2 := hc2 w.heap.size 2 (by simp; omega)
          have c3 := hc2 w.heap.size 3 (by simp; omega)
          have v0 := hc2 (w.heap.size + 1 + 1) 0 (by simp)
          have v1 := hc2 (w.heap.size + 1 + 1) 1 (by simp)
          have v2 := hc2 (w.heap.size + 1 + 1) 2 (by simp)
          have v3 := hc2 (w.heap.size + 1 + 1) 3 (by simp)
          have f0 := hf2 w.heap.size 0 (by simp; omega)
          have f1 := hf2 w.heap.size 1 (by simp; omega)
          have f2 := hf2 w.heap.size 2 (by simp; omega)
          have f3 := hf2 w.heap.size 3 (by simp; omega)
          simp [go_sem] at c0 c1 c2 c3 v0 v1 v2 v3 f0 f1 f2 f3
          clear hc2 hf2
          go_wp2_with fail
          exact bodyPost_ret (v := .tuple #[ver x y z (⟨#[]⟩), .bool true]) (by simp [results, Tryz.results10, go_sem, c0, c1, c2, c3]) rfl ⟨pret_some HN.out, ((((((hB1 _ _ _ _ _).trans (hb2.mono (by simp; omega))).setCell (by simp) _).setCell (by simp) _).setCell (by simp) _).setCell (by simp) _)⟩

end Go.Proofs.YthihnpjbdjmbhaaGreatDoor

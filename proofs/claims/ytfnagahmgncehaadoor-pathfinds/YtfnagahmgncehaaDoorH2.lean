/-
  Contracts of the reference's Right, Within.
-/
import Derived.Test.YtfnagahmgncehaaDoorH1
import Derived.Test.YtfnagahmgncehaaDoorV2
import Derived.Test.YtfnagahmgncehaaDoorM33
namespace Go.Proofs.YtfnagahmgncehaaDoor
set_option linter.unusedSimpArgs false
set_option linter.unusedVariables false
open Go.RowKit Go.Vr Go.Sort Go.Tx Go.Pa
attribute [local go_sem] setCellDrewN allocDrewN

theorem sw_count : ∀ (l : Bs), (sw l).length ≤ l.length + 1 := by
  intro l
  induction l with
  | nil => simp [sw]
  | cons c l ih =>
    by_cases h : c = 47
    · subst h
      rw [sw_slash]; simp; omega
    · cases e : sw l with
      | nil => exact absurd e (sw_ne l)
      | cons v vs =>
        rw [sw_cons h e]
        rw [e] at ih
        simp at ih ⊢; omega
theorem sgs_when (n : Nat) (h : n < 256) : sgs (UInt8.ofNat n) = true → ((97 ≤ (n : Int) ∧ (n : Int) ≤ 122) ∨ (48 ≤ (n : Int) ∧ (n : Int) ≤ 57) ∨ (n : Int) = 46 ∨ (n : Int) = 45 ∨ (n : Int) = 95 ∨ (n : Int) = 47) := by
  have key : ∀ m : Fin 256, sgs (UInt8.ofNat m.val) = true → ((97 ≤ m.val ∧ m.val ≤ 122) ∨ (48 ≤ m.val ∧ m.val ≤ 57) ∨ m.val = 46 ∨ m.val = 45 ∨ m.val = 95 ∨ m.val = 47) := by decide +kernel
  intro hs
  have := key ⟨n, h⟩ hs
  simp only at this
  omega
theorem sgs_not (n : Nat) (h : n < 256) : sgs (UInt8.ofNat n) = false → (((n : Int) < 48) ∨ (57 < (n : Int) ∧ (n : Int) < 97) ∨ 122 < (n : Int)) ∧ (n : Int) ≠ 46 ∧ (n : Int) ≠ 45 ∧ (n : Int) ≠ 95 ∧ (n : Int) ≠ 47 := by
  have key : ∀ m : Fin 256, sgs (UInt8.ofNat m.val) = false → ((m.val < 48) ∨ (57 < m.val ∧ m.val < 97) ∨ 122 < m.val) ∧ m.val ≠ 46 ∧ m.val ≠ 45 ∧ m.val ≠ 95 ∧ m.val ≠ 47 := by decide +kernel
  intro hs
  have := key ⟨n, h⟩ hs
  simp only at this
  omega
theorem of_nat (c : UInt8) : UInt8.ofNat c.toNat = c := by simp
/-- As the reference asks, word by word. -/
theorem bad_empty (x : Bs) (h : x = []) : (!badW x) = false := by subst h; rfl
theorem bad_two (x : Bs) (h : x.isEmpty = false) (h1 : (x == [46]) = false) (h2 : (x == [46, 46]) = false) : (!badW x) = true := by
  unfold badW
  have : (x == []) = false := by cases x with | nil => exact absurd h (by decide) | cons a b => rfl
  rw [this, h1, h2]; rfl

set_option maxHeartbeats 4000000 in
set_option maxRecDepth 100000 in
theorem prright_any (s : ByteArray) (w : World) (hs : s.size ≤ 5000) :
    Calls Tryd.prog 16 #[.string s] w fun e w' => e = .returned (.bool (right s.data.toList)) ∧ Below w.heap.size w w' := by
  have HR : Hid (right s.data.toList = (s.data.toList.all sgs && ((sw s.data.toList).all (fun w => !badW w) && decide (s.size ≤ 40)))) := by show _ = _; rw [right_ref, len_eq]
  have CW := hide (fun W => pwords_any s W hs)
  have hwn := sw_count s.data.toList
  rw [len_eq] at hwn
  have hne := hide (sw_ne s.data.toList)
  go_enter Tryd.func16, Tryd.ntmps16
  go_wp2_with fail
  go_loop [3, 4] (fun i _ => ∃ k : Nat, k ≤ s.size ∧ i = .int .i64 k ∧ Hid ((s.data.toList.take k).all sgs = true)) (fun i _ => s.size - (intOf i).toNat)
  case atStart => exact ⟨0, Nat.zero_le _, rfl, rfl⟩
  case round =>
    obtain ⟨k, hk, rfl, hp⟩ := hrel
    by_cases hlt : k < s.size
    · have hb : (s[k]).toNat < 256 := (s[k]).toNat_lt
      cases hc : sgs s[k] with
      | true =>
        have HT : Hid ((s.data.toList.take (k + 1)).all sgs = true) := by
          show List.all _ _ = true
          rw [all_take_succ _ s k hlt, hp.out, hc]; rfl
        have hd := sgs_when (s[k]).toNat hb (by rw [of_nat]; exact hc)
        clear hc hb
        rcases hd with hd | hd | hd | hd | hd | hd
        · have f0 : (decide (((s[k]).toNat : Int) < 97)) = false := by simp; omega
          have f1 : (decide (122 < ((s[k]).toNat : Int))) = false := by simp; omega
          go_wp2_with fail
          go_round
          case rel => exact ⟨k + 1, by omega, by go_num, HT⟩
          case measure => simp [intOf]; omega
        · have f0 : (decide (((s[k]).toNat : Int) < 97)) = true := by simp; omega
          have f1 : (decide (((s[k]).toNat : Int) < 48)) = false := by simp; omega
          have f2 : (decide (57 < ((s[k]).toNat : Int))) = false := by simp; omega
          go_wp2_with fail
          go_round
          case rel => exact ⟨k + 1, by omega, by go_num, HT⟩
          case measure => simp [intOf]; omega
        · have f0 : (decide (((s[k]).toNat : Int) < 97)) = true := by simp; omega
          have f1 : (decide (((s[k]).toNat : Int) < 48)) = true := by simp; omega
          have f2 : (((s[k]).toNat : Int) == 46) = true := by simp; omega
          go_wp2_with fail
          go_round
          case rel => exact ⟨k + 1, by omega, by go_num, HT⟩
          case measure => simp [intOf]; omega
        · have f0 : (decide (((s[k]).toNat : Int) < 97)) = true := by simp; omega
          have f1 : (decide (((s[k]).toNat : Int) < 48)) = true := by simp; omega
          have f2 : (((s[k]).toNat : Int) == 46) = false := by simp; omega
          have f3 : (((s[k]).toNat : Int) == 45) = true := by simp; omega
          go_wp2_with fail
          go_round
          case rel => exact ⟨k + 1, by omega, by go_num, HT⟩
          case measure => simp [intOf]; omega
        · have f0 : (decide (((s[k]).toNat : Int) < 97)) = true := by simp; omega
          have f1 : (decide (((s[k]).toNat : Int) < 48)) = false := by simp; omega
          have f2 : (decide (57 < ((s[k]).toNat : Int))) = true := by simp; omega
          have f3 : (((s[k]).toNat : Int) == 46) = false := by simp; omega
          have f4 : (((s[k]).toNat : Int) == 45) = false := by simp; omega
          have f5 : (((s[k]).toNat : Int) == 95) = true := by simp; omega
          go_wp2_with fail
          go_round
          case rel => exact ⟨k + 1, by omega, by go_num, HT⟩
          case measure => simp [intOf]; omega
        · have f0 : (decide (((s[k]).toNat : Int) < 97)) = true := by simp; omega
          have f1 : (decide (((s[k]).toNat : Int) < 48)) = true := by simp; omega
          have f2 : (((s[k]).toNat : Int) == 46) = false := by simp; omega
          have f3 : (((s[k]).toNat : Int) == 45) = false := by simp; omega
          have f4 : (((s[k]).toNat : Int) == 95) = false := by simp; omega
          have f5 : (((s[k]).toNat : Int) == 47) = true := by simp; omega
          go_wp2_with fail
          go_round
          case rel => exact ⟨k + 1, by omega, by go_num, HT⟩
          case measure => simp [intOf]; omega
      | false =>
        have HF : Hid (s.data.toList.all sgs = false) := all_not _ s k hlt hc
        obtain ⟨hd, d1, d2, d3, d4⟩ := sgs_not (s[k]).toNat hb (by rw [of_nat]; exact hc)
        clear hc hb
        rcases hd with hd | hd | hd
        · have f0 : (decide (((s[k]).toNat : Int) < 97)) = true := by simp; omega
          have f1 : (decide (((s[k]).toNat : Int) < 48)) = true := by simp; omega
          have f2 : (((s[k]).toNat : Int) == 46) = false := by simp; omega
          have f3 : (((s[k]).toNat : Int) == 45) = false := by simp; omega
          have f4 : (((s[k]).toNat : Int) == 95) = false := by simp; omega
          have f5 : (((s[k]).toNat : Int) == 47) = false := by simp; omega
          have g46 : (((s[k]).toNat : Int) != 46) = true := by simp; omega
          have g45 : (((s[k]).toNat : Int) != 45) = true := by simp; omega
          have g95 : (((s[k]).toNat : Int) != 95) = true := by simp; omega
          have g47 : (((s[k]).toNat : Int) != 47) = true := by simp; omega
          clear d1 d2 d3 d4 hd
          go_wp2_with fail
          go_ret
          exact ⟨ret_bool (by rw [HR.out, HF.out]; rfl), Below.refl _ _⟩
        · have f0 : (decide (((s[k]).toNat : Int) < 97)) = true := by simp; omega
          have f1 : (decide (((s[k]).toNat : Int) < 48)) = false := by simp; omega
          have f2 : (decide (57 < ((s[k]).toNat : Int))) = true := by simp; omega
          have f3 : (((s[k]).toNat : Int) == 46) = false := by simp; omega
          have f4 : (((s[k]).toNat : Int) == 45) = false := by simp; omega
          have f5 : (((s[k]).toNat : Int) == 95) = false := by simp; omega
          have f6 : (((s[k]).toNat : Int) == 47) = false := by simp; omega
          have g46 : (((s[k]).toNat : Int) != 46) = true := by simp; omega
          have g45 : (((s[k]).toNat : Int) != 45) = true := by simp; omega
          have g95 : (((s[k]).toNat : Int) != 95) = true := by simp; omega
          have g47 : (((s[k]).toNat : Int) != 47) = true := by simp; omega
          clear d1 d2 d3 d4 hd
          go_wp2_with fail
          go_ret
          exact ⟨ret_bool (by rw [HR.out, HF.out]; rfl), Below.refl _ _⟩
        · have f0 : (decide (((s[k]).toNat : Int) < 97)) = false := by simp; omega
          have f1 : (decide (122 < ((s[k]).toNat : Int))) = true := by simp; omega
          have f2 : (decide (((s[k]).toNat : Int) < 48)) = false := by simp; omega
          have f3 : (decide (57 < ((s[k]).toNat : Int))) = true := by simp; omega
          have f4 : (((s[k]).toNat : Int) == 46) = false := by simp; omega
          have f5 : (((s[k]).toNat : Int) == 45) = false := by simp; omega
          have f6 : (((s[k]).toNat : Int) == 95) = false := by simp; omega
          have f7 : (((s[k]).toNat : Int) == 47) = false := by simp; omega
          have g46 : (((s[k]).toNat : Int) != 46) = true := by simp; omega
          have g45 : (((s[k]).toNat : Int) != 45) = true := by simp; omega
          have g95 : (((s[k]).toNat : Int) != 95) = true := by simp; omega
          have g47 : (((s[k]).toNat : Int) != 47) = true := by simp; omega
          clear d1 d2 d3 d4 hd
          go_wp2_with fail
          go_ret
          exact ⟨ret_bool (by rw [HR.out, HF.out]; rfl), Below.refl _ _⟩
    · have HT : Hid (s.data.toList.all sgs = true) := by rw [← Tx.take_all s k (by omega)]; exact hp
      have dk : decide ((k : Int) < (s.size : Int)) = false := by simp; omega
      clear hp
      go_wp2_with fail
      refine (CW.out _).mono ?_
      rintro e w1 ⟨v, rfl, hown, hB⟩
      have HR2 : Hid (right s.data.toList = ((sw s.data.toList).all (fun w => !badW w) && decide (s.size ≤ 40))) := by show _ = _; rw [HR.out, HT.out]; rfl
      clear HR HT CW
      generalize sw s.data.toList = ws at *
      have hpos : 0 < ws.length := by
        cases ws with
        | nil => exact absurd rfl hne.out
        | cons x y => simp
      obtain ⟨g, cap, rfl, hg, hnc, hcm, hcell⟩ := own_at hown hpos
      clear hown hne hg hcm
      go_wp2_with fail
      go_loop [6] (fun i => ∃ k : Nat, k ≤ ws.length ∧ i = .int .i64 k ∧ Hid ((ws.take k).all (fun w => !badW w) = true)) (fun i => ws.length - (intOf i).toNat)
      case atStart => exact ⟨0, Nat.zero_le _, rfl, rfl⟩
      case round =>
        obtain ⟨j, hj, rfl, hq⟩ := hrel
        by_cases hlt2 : j < ws.length
        · have hc := hcell j hlt2
          have hx : (ws.getD j []) ∈ ws := by
            rw [List.getD_eq_getElem?_getD, List.getElem?_eq_getElem hlt2]; exact List.getElem_mem _
          have HSN : Hid (ws.take (j + 1) = ws.take j ++ [ws.getD j []]) := by
            show ws.take (j + 1) = _
            rw [List.take_add_one]
            simp [List.getD, List.getElem?_eq_getElem hlt2]
          generalize ws.getD j [] = x at *
          have hi1 : (0 : Int) ≤ (j : Int) := by omega
          have hi2 : (j : Int) < (ws.length : Int) := by omega
          clear hcell
          have hxe : (str x).toList.isEmpty = x.isEmpty := by rw [toList_data]; rfl
          have hx1 : ((str x).toList == [46]) = (x == [46]) := by rw [toList_data]; rfl
          have hx2 : ((str x).toList == [46, 46]) = (x == [46, 46]) := by rw [toList_data]; rfl
          have stop : badW x = true → Hid (right s.data.toList = false) := by
            intro hb
            show right s.data.toList = false
            rw [HR2.out]
            have : ws.all (fun w => !badW w) = false := by rw [List.all_eq_false]; exact ⟨x, hx, by simp [hb]⟩
            rw [this]; rfl
          have STOP := hide stop
          clear stop
          cases b0 : x.isEmpty with
          | true =>
            rw [b0] at hxe
            have HF := STOP.out (by unfold badW; cases x with | nil => rfl | cons a b => exact absurd b0 (by simp))
            clear b0 hx1 hx2 STOP
            go_wp2_with fail
            go_ret
            exact ⟨ret_bool HF.out.symm, hB⟩
          | false =>
            rw [b0] at hxe
            cases b1 : (x == [46]) with
            | true =>
              rw [b1] at hx1
              have HF := STOP.out (by unfold badW; rw [b1]; simp)
              clear b0 b1 hx2 STOP
              go_wp2_with fail
              go_ret
              exact ⟨ret_bool HF.out.symm, hB⟩
            | false =>
              rw [b1] at hx1
              cases b2 : (x == [46, 46]) with
              | true =>
                rw [b2] at hx2
                have HF := STOP.out (by unfold badW; rw [b2]; simp)
                clear b0 b1 b2 STOP
                go_wp2_with fail
                go_ret
                exact ⟨ret_bool HF.out.symm, hB⟩
              | false =>
                rw [b2] at hx2
                have HT2 : Hid ((ws.take (j + 1)).all (fun w => !badW w) = true) := by
                  show List.all _ _ = true
                  rw [HSN.out, List.all_append, hq.out, List.all_cons, bad_two x b0 b1 b2]; rfl
                clear b0 b1 b2 STOP HSN hq
                go_wp2_with fail
                go_round
                case rel => exact ⟨j + 1, by omega, by go_num, HT2⟩
                case measure => simp [intOf]; omega
        · have hd : decide ((j : Int) < (ws.length : Int)) = false := by simp; omega
          have HT2 : Hid (right s.data.toList = decide (s.size ≤ 40)) := by
            show _ = _
            have := hq.out
            rw [List.take_of_length_le (by omega)] at this
            rw [HR2.out, this]; rfl
          clear hq HR2
          go_wp2_with fail
          go_ret
          exact ⟨ret_bool (by rw [HT2.out]; rw [decide_eq_decide]; omega), hB⟩

theorem inside_cut {s r : Bs} (h : r.length < s.length) : inside s r = (s.take (r.length + 1) == r ++ [47]) := by
  rw [Bool.eq_iff_iff, inside_iff, beq_iff_eq]
  constructor
  · rintro (rfl | ⟨t, rfl⟩)
    · omega
    · have e : r ++ 47 :: t = (r ++ [47]) ++ t := by simp
      rw [e, List.take_left' (by simp)]
  · intro e
    refine .inr ⟨s.drop (r.length + 1), ?_⟩
    have := List.take_append_drop (r.length + 1) s
    rw [e] at this
    rw [← this]; simp
theorem inside_short {s r : Bs} (h : s ≠ r) (hl : ¬ r.length < s.length) : inside s r = false := by
  cases e : inside s r with
  | false => rfl
  | true =>
    rcases (inside_iff s r).1 e with h2 | ⟨t, h2⟩
    · exact absurd h2 h
    · rw [h2] at hl; simp at hl

set_option maxHeartbeats 2000000 in
set_option maxRecDepth 100000 in
theorem prwithin_any (s r : ByteArray) (w : World) (hs : s.size ≤ 5000) (hr : r.size ≤ 5000) :
    Calls Tryd.prog 24 #[.string s, .string r] w fun e w' => e = .returned (.bool (inside s.data.toList r.data.toList)) ∧ w' = w := by
  by_cases he : s = r
  · subst he
    have hb : (s.toList == s.toList) = true := by simp
    have HI := hide (inside_self s.data.toList)
    go_enter Tryd.func24, Tryd.ntmps24
    go_wp2_with fail
    go_ret
    exact ⟨ret_bool HI.out.symm, rfl⟩
  · have hb : (s.toList == r.toList) = false := by
      rw [toList_data, toList_data]
      simpa using fun h => he (ba_ext h)
    have hd : s.data.toList ≠ r.data.toList := fun h => he (ba_ext h)
    by_cases hlt : r.size < s.size
    · have HI := hide (inside_cut (s := s.data.toList) (r := r.data.toList) (by rw [len_eq, len_eq]; exact hlt))
      have d1 : decide ((r.size : Int) < (s.size : Int)) = true := by simp; omega
      have w1 : IntKind.i64.wrap ((r.size : Int) + 1) = (r.size : Int) + 1 := by rw [IntKind.wrap_i64]; omega
      have n1 : ¬ 9223372036854775807 < r.size + 1 := by omega
      have n2 : (0 : Int) ≤ (r.size : Int) + 1 := by omega
      have n3 : (r.size : Int) + 1 ≤ (s.size : Int) := by omega
      have HC : Hid (((s.extract 0 (r.size + 1)).toList == (r ++ ⟨#[47]⟩).toList) = inside s.data.toList r.data.toList) := by
        show _ = _
        rw [HI.out, toList_data, toList_data, Lib.extract_data, ba_app, len_eq]
        simp
      clear HI he hd
      cases hc : ((s.extract 0 (r.size + 1)).toList == (r ++ ⟨#[47]⟩).toList) with
      | true =>
        have HX : Hid (inside s.data.toList r.data.toList = true) := by show _ = _; rw [← HC.out, hc]
        go_enter Tryd.func24, Tryd.ntmps24
        go_wp2_with fail
        go_ret
        exact ⟨ret_bool HX.out.symm, rfl⟩
      | false =>
        have HX : Hid (inside s.data.toList r.data.toList = false) := by show _ = _; rw [← HC.out, hc]
        go_enter Tryd.func24, Tryd.ntmps24
        go_wp2_with fail
        go_ret
        exact ⟨ret_bool HX.out.symm, rfl⟩
    · have HI := hide (inside_short hd (by rw [len_eq, len_eq]; exact hlt))
      have d1 : decide ((r.size : Int) < (s.size : Int)) = false := by simp; omega
      clear hd he
      go_enter Tryd.func24, Tryd.ntmps24
      go_wp2_with fail
      go_ret
      exact ⟨ret_bool HI.out.symm, rfl⟩

end Go.Proofs.YtfnagahmgncehaaDoor

/-
  Contracts of the reference's small functions: numbers, digits, signs.
-/
import Derived.Test.YtninheehoabbbaaGreatDoorProg
import Derived.Test.YtninheehoabbbaaGreatDoorM11
import Derived.WalkKit
import Derived.WalkSpells
import Derived.WalkLawsBesides
import Derived.Laws.BytesArg
namespace Go.Proofs.YtninheehoabbbaaGreatDoor
set_option linter.unusedVariables false
open Go.RowKit Go.Vr

theorem ret_int {k : IntKind} {a b : Int} (h : a = b) : Ending.returned (.int k a) = .returned (.int k b) := by rw [h]
theorem ret_bool {a b : Bool} (h : a = b) : Ending.returned (.bool a) = .returned (.bool b) := by rw [h]
theorem ret_str {a b : ByteArray} (h : a = b) : Ending.returned (.string a) = .returned (.string b) := by rw [h]
theorem ret_num {a b : Int} {c d : Bool} (h : a = b) (k : c = d) : Ending.returned (.tuple #[.int .i64 a, .bool c]) = .returned (.tuple #[.int .i64 b, .bool d]) := by rw [h, k]

set_option maxHeartbeats 400000 in
theorem rnumber_any (s : ByteArray) (w : World) (hs : s.size ≤ maxLen) :
    Calls Tryz.prog 21 #[.string s] w fun e w' => e = .returned (.tuple #[.int .i64 (Tx.numR s.data.toList), .bool (Tx.okNum s.data.toList)]) ∧ w' = w := by
  unfold maxLen at hs
  by_cases h1 : s.size < 1
  · have HF : Hid (Tx.okNum s.data.toList = false) := Tx.okNum_short s h1
    have hd : decide ((s.size : Int) < 1) = true := by simp; omega
    go_enter Tryz.func21, Tryz.ntmps21
    go_wp2
    go_ret2
    exact ⟨ret_num (by simp [Tx.numR, HF.out]) HF.out.symm, rfl⟩
  have d1 : decide ((s.size : Int) < 1) = false := by simp; omega
  by_cases h9 : 9 < s.size
  · have HF : Hid (Tx.okNum s.data.toList = false) := Tx.okNum_long s h9
    have hd : decide ((9 : Int) < s.size) = true := by simp; omega
    go_enter Tryz.func21, Tryz.ntmps21
    go_wp2
    go_ret2
    exact ⟨ret_num (by simp [Tx.numR, HF.out]) HF.out.symm, rfl⟩
  have d9 : decide ((9 : Int) < s.size) = false := by simp; omega
  by_cases hz : 1 < s.size ∧ ((s[0]).toNat : Int) = 48
  · obtain ⟨hz1, hz2⟩ := hz
    have HF : Hid (Tx.okNum s.data.toList = false) := Tx.okNum_zero s hz1 hz2
    have dz : decide ((1 : Int) < s.size) = true := by simp; omega
    have dy : (((s[0]).toNat : Int) == 48) = true := by simpa using hz2
    clear hz2
    go_enter Tryz.func21, Tryz.ntmps21
    go_wp2
    go_ret2
    exact ⟨ret_num (by simp [Tx.numR, HF.out]) HF.out.symm, rfl⟩
  have HE : Hid (Tx.okNum s.data.toList = s.data.toList.all Tx.isDig) := Tx.okNum_else s (by omega) (by omega) (by
    by_cases h2 : s.size = 1
    · exact .inl h2
    · exact .inr (fun e => hz ⟨by omega, e⟩))
  have H9 : s.size ≤ 9 := by omega
  by_cases hq : 1 < s.size
  case' pos =>
    have dz : decide ((1 : Int) < s.size) = true := by simp; omega
    have dy : (((s[0]).toNat : Int) == 48) = false := by simp; intro e; exact hz ⟨hq, e⟩
    clear hz
  case' neg =>
    have dz : decide ((1 : Int) < s.size) = false := by simp; omega
    clear hz
  all_goals
    go_enter Tryz.func21, Tryz.ntmps21
    go_wp2
    go_loop [4, 5] (fun n i => ∃ k : Nat, k ≤ s.size ∧ i = .int .i64 k ∧ n = .int .i64 (Tx.numVal (s.data.toList.take k)) ∧ Hid ((s.data.toList.take k).all Tx.isDig = true)) (fun _ i => s.size - (intOf i).toNat)
    case atStart => exact ⟨0, Nat.zero_le _, rfl, rfl, rfl⟩
    case round =>
      obtain ⟨k, hk, rfl, rfl, hp⟩ := hrel
      obtain ⟨b1, b2⟩ := Tx.numVal_bd9 s k hk (by omega) hp.out
      by_cases hlt : k < s.size
      · have HV : Hid (Tx.numVal (s.data.toList.take (k + 1)) = Tx.numVal (s.data.toList.take k) * 10 + (((s[k]).toNat : Int) - 48)) := Tx.numVal_take s k hlt
        by_cases hg1 : ((s[k]).toNat : Int) < 48
        · have HF : Hid (s.data.toList.all Tx.isDig = false) := Tx.notDig_false s k hlt (by simp [Tx.isDig]; omega)
          go_wp2
          go_ret2
          exact ⟨ret_num (by simp [Tx.numR, HE.out, HF.out]) (by rw [HE.out, HF.out]), rfl⟩
        have e1 : decide (((s[k]).toNat : Int) < 48) = false := by simp; omega
        by_cases hg2 : 57 < ((s[k]).toNat : Int)
        · have HF : Hid (s.data.toList.all Tx.isDig = false) := Tx.notDig_false s k hlt (by simp [Tx.isDig]; omega)
          go_wp2
          go_ret2
          exact ⟨ret_num (by simp [Tx.numR, HE.out, HF.out]) (by rw [HE.out, HF.out]), rfl⟩
        have e2 : decide (57 < ((s[k]).toNat : Int)) = false := by simp; omega
        have HT : Hid ((s.data.toList.take (k + 1)).all Tx.isDig = true) := by
          show List.all _ _ = true
          rw [Tx.digs_take s k hlt, hp.out]; simp [Tx.isDig]; omega
        go_wp2
        go_round
        case rel => exact ⟨k + 1, by omega, by go_num, by rw [HV.out]; try go_num, HT⟩
        case measure => simp [intOf]; omega
      · have HT : Hid (s.data.toList.all Tx.isDig = true) := by rw [← Tx.take_all s k (by omega)]; exact hp
        have HN : Hid (Tx.numVal (s.data.toList.take k) = Tx.numVal s.data.toList) := by rw [Tx.take_all s k (by omega)]; rfl
        go_wp2
        go_ret2
        exact ⟨ret_num (by simp [Tx.numR, HE.out, HT.out, HN.out]) (by rw [HE.out, HT.out]), rfl⟩

/-- string(b) of a row of bytes just made. -/
theorem conv_new (w : World) (xs : List Int) (cap : Nat) (o : Obj) (hc : ∀ i, i < xs.length → (w.alloc o).cell? ⟨w.heap.size, i, none⟩ = some (.int .u8 (xs.getD i 0))) :
    (convert 25 9 (.slice (some ⟨w.heap.size, 0, none⟩) xs.length cap)).run Tryz.prog (w.alloc o) = .ok (.string (strOfNums xs)) (w.alloc o) :=
  run_convert_bytes_arg (w.alloc o) 25 5 Tryz.underlying25 Tryz.underlying5 w.heap.size 0 xs.length cap xs rfl (fun i hi => by rw [Nat.zero_add]; exact hc i hi) 9 Tryz.underlying9

theorem conv_one (w : World) (n : Int) :
    (convert 25 9 (.slice (some ⟨w.heap.size, 0, none⟩) 1 1)).run Tryz.prog (w.alloc (.cells #[.int .u8 n] 5)) = .ok (.string ⟨#[UInt8.ofNat n.toNat]⟩) (w.alloc (.cells #[.int .u8 n] 5)) :=
  conv_new w [n] 1 _ (fun i hi => by
    have : i = 0 := by simpa using hi
    subst this
    simp [go_sem])

set_option maxHeartbeats 400000 in
set_option maxRecDepth 100000 in
theorem rdigits_one (n : Nat) (w : World) (h : n < 10) :
    Calls Tryz.prog 97 #[.int .i64 n] w fun e w' => e = .returned (.string ⟨#[Tx.dg n]⟩) ∧ Below w.heap.size w w' := by
  have hcv := conv_one w (48 + n)
  have e0 : UInt8.ofNat (48 + (n : Int)).toNat = Tx.dg n := by rw [Tx.dg]; congr 1
  rw [e0] at hcv
  clear e0
  go_enter Tryz.func97, Tryz.ntmps97
  go_wp2_with fail
  go_ret
  exact ⟨rfl, (Below.refl _ _).alloc (Nat.le_refl _) _⟩

set_option maxHeartbeats 400000 in
set_option maxRecDepth 100000 in
theorem rdigits_fuel : ∀ (f n : Nat) (w : World), n < 10 ^ (f + 1) → f ≤ 16 →
    Calls Tryz.prog 97 #[.int .i64 n] w fun e w' => e = .returned (.string (Tx.str (Tx.digF (f + 1) n))) ∧ Below w.heap.size w w'
  | 0, n, w, h, _ => by
    have h10 : n < 10 := by simpa using h
    have := rdigits_one n w h10
    simpa [Tx.digF, h10, Tx.str] using this
  | f + 1, n, w, h, hf => by
    by_cases h10 : n < 10
    · have := rdigits_one n w h10
      simpa [Tx.digF, h10, Tx.str] using this
    · have hq : n / 10 < 10 ^ (f + 1) := by rw [Nat.pow_succ] at h; omega
      have hb : n < 1000000000000000000 := by
        have h2 : (10 : Nat) ^ (f + 1 + 1) ≤ 10 ^ 18 := Nat.pow_le_pow_right (by omega) (by omega)
        have e : (10 : Nat) ^ 18 = 1000000000000000000 := by decide
        exact Nat.lt_of_lt_of_le h (e ▸ h2)
      have e1 : ((n / 10 : Nat) : Int) = (n : Int) / 10 := by omega
      have e2 : ((n % 10 : Nat) : Int) = (n : Int) % 10 := by omega
      have IH : ∀ w, Calls Tryz.prog 97 #[.int .i64 ((n : Int) / 10)] w fun e w' => e = .returned (.string (Tx.str (Tx.digF (f + 1) (n / 10)))) ∧ Below w.heap.size w w' := fun w => e1 ▸ rdigits_fuel f (n / 10) w hq (by omega)
      have IG : ∀ w, Calls Tryz.prog 97 #[.int .i64 ((n : Int) % 10)] w fun e w' => e = .returned (.string ⟨#[Tx.dg (n % 10)]⟩) ∧ Below w.heap.size w w' := fun w => e2 ▸ rdigits_one (n % 10) w (by omega)
      have HIH : Hid _ := IH
      have HIG : Hid _ := IG
      have HE : Hid (Tx.digF (f + 2) n = Tx.digF (f + 1) (n / 10) ++ [Tx.dg (n % 10)]) := by show Tx.digF (f + 2) n = _; rw [Tx.digF, if_neg h10]
      have hl : (Tx.str (Tx.digF (f + 1) (n / 10))).size ≤ 17 := by rw [Tx.str_size]; exact Nat.le_trans (Tx.digF_len _ _) (by omega)
      clear h hq e1 e2 IH IG
      go_enter Tryz.func97, Tryz.ntmps97
      go_wp2_with fail
      refine (HIH.out _).mono ?_
      rintro e w1 ⟨rfl, hb1⟩
      go_wp2_with fail
      refine (HIG.out _).mono ?_
      rintro e w2 ⟨rfl, hb2⟩
      go_wp2_with fail
      go_ret
      exact ⟨ret_str (by rw [HE.out]; exact Tx.str_app _ [_]), hb1.trans (hb2.mono hb1.size)⟩

/-- Of a number its digits. -/
theorem rdigits_any (n : Int) (w : World) (h0 : 0 ≤ n) (h : n < 100000000000000000) :
    Calls Tryz.prog 97 #[.int .i64 n] w fun e w' => e = .returned (.string (Tx.str (Lib.itoa n))) ∧ Below w.heap.size w w' := by
  obtain ⟨k, rfl⟩ := Int.eq_ofNat_of_zero_le h0
  have hk : k < 10 ^ (16 + 1) := by simp; omega
  rw [itoa_nat, ← dec_digF 16 k hk]
  exact rdigits_fuel 16 k w hk (by omega)

/-- Is a byte a digit, a letter or -? -/
def digB (n : Int) : Bool := decide (48 ≤ n) && decide (n ≤ 57)
def letB (n : Int) : Bool := (decide (97 ≤ n) && decide (n ≤ 122)) || (decide (65 ≤ n) && decide (n ≤ 90)) || (n == 45)
theorem isDig_eq (c : UInt8) : Tx.isDig c = digB (c.toNat : Int) := rfl
theorem isLet_eq (c : UInt8) : isLet c = letB (c.toNat : Int) := by
  unfold isLet letB
  congr 1

set_option maxHeartbeats 400000 in
theorem rdigit_any (n : Int) (w : World) :
    Calls Tryz.prog 20 #[.int .u8 n] w fun e w' => e = .returned (.bool (digB n)) ∧ w' = w := by
  by_cases h1 : 48 ≤ n
  · go_enter Tryz.func20, Tryz.ntmps20
    go_wp2
    go_ret
    exact ⟨by simp [digB, h1], rfl⟩
  · have hd : decide (48 ≤ n) = false := by simpa using h1
    go_enter Tryz.func20, Tryz.ntmps20
    go_wp2
    go_ret
    exact ⟨by simp [digB, hd], rfl⟩

set_option maxHeartbeats 400000 in
theorem rletter_any (n : Int) (w : World) :
    Calls Tryz.prog 77 #[.int .u8 n] w fun e w' => e = .returned (.bool (letB n)) ∧ w' = w := by
  have key : ∀ (p q r s : Bool), decide (97 ≤ n) = p → decide (n ≤ 122) = q → decide (65 ≤ n) = r → decide (n ≤ 90) = s → Calls Tryz.prog 77 #[.int .u8 n] w fun e w' => e = .returned (.bool (letB n)) ∧ w' = w := by
    intro p q r s h1 h2 h3 h4
    cases p <;> cases q <;> cases r <;> cases s <;>
    ( go_enter Tryz.func77, Tryz.ntmps77
      go_wp2
      go_ret
      exact ⟨by simp [letB, h1, h2, h3, h4], rfl⟩)
  exact key _ _ _ _ rfl rfl rfl rfl

set_option maxHeartbeats 400000 in
theorem rsign_any (a b : Int) (w : World) :
    Calls Tryz.prog 126 #[.int .i64 a, .int .i64 b] w fun e w' => e = .returned (.int .i64 (Lib.compareInt a b)) ∧ w' = w := by
  go_enter Tryz.func126, Tryz.ntmps126
  go_wp2
  · go_ret
    exact ⟨by simp [Lib.compareInt, *], rfl⟩
  · go_ret
    exact ⟨by simp [Lib.compareInt, *], rfl⟩
  · go_ret
    exact ⟨ret_int (by unfold Lib.compareInt; rw [if_neg (by omega), if_neg (by omega)]), rfl⟩

set_option maxHeartbeats 400000 in
theorem within_any (a n : Int) (w : World) (h1 : 1 ≤ n) (h2 : n ≤ 4611686018427387904) (h3 : -9223372036854775808 ≤ a) (h4 : a ≤ 9223372036854775807) :
    Calls Tryz.prog 98 #[.int .i64 a, .int .i64 n] w fun e w' => e = .returned (.int .i64 (a % n)) ∧ w' = w := by
  obtain ⟨hb1, hb2⟩ := Tx.tmod_bd a n h1
  go_enter Tryz.func98, Tryz.ntmps98
  go_wp2
  · go_ret
    exact ⟨ret_int (Tx.tmod_dn a n h1 (by assumption)), rfl⟩
  · go_ret
    exact ⟨ret_int (Tx.tmod_up a n h1 (by assumption)), rfl⟩

/-- A number from 0 to n - 1. -/
theorem within_nat (a n : Int) (w : World) (h1 : 1 ≤ n) (h2 : n ≤ 4611686018427387904) (h3 : -9223372036854775808 ≤ a) (h4 : a ≤ 9223372036854775807) :
    Calls Tryz.prog 98 #[.int .i64 a, .int .i64 n] w fun e w' => ∃ k : Nat, e = .returned (.int .i64 k) ∧ (k : Int) < n ∧ Hid ((k : Int) = a % n) ∧ w' = w := by
  refine (within_any a n w h1 h2 h3 h4).mono ?_
  rintro e w' ⟨rfl, rfl⟩
  have b1 := Int.emod_nonneg a (b := n) (by omega)
  have b2 := Int.emod_lt_of_pos a (b := n) (by omega)
  exact ⟨(a % n).toNat, by rw [Int.toNat_of_nonneg b1], by omega, Int.toNat_of_nonneg b1, rfl⟩

end Go.Proofs.YtninheehoabbbaaGreatDoor

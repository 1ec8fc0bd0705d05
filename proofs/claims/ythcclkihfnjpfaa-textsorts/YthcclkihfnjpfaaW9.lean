/-
  Contracts of next, escape, unescape and of a quoted text's signs.
-/
import Derived.Test.YthcclkihfnjpfaaW8
import Derived.Test.YthcclkihfnjpfaaW4
import Derived.Test.YthcclkihfnjpfaaM3
import Derived.Deep.AppendLies
namespace Go.Proofs.Ythcclkihfnjpfaa
set_option linter.unusedVariables false
open Go.RowKit Go.Joins Go.Tx
attribute [local go_sem ↓] Go.wp_at_zero Go.wp_at_succ

theorem drop_cons (s : ByteArray) (p : Nat) (h : p < s.size) : s.data.toList.drop p = s[p] :: s.data.toList.drop (p + 1) := by
  rw [List.drop_eq_getElem_cons (by rw [len_eq]; omega)]; rfl

set_option maxHeartbeats 400000 in
theorem next_in (b : Nat) (s : ByteArray) (p : Nat) (w : World) (h : IsCur w b s p) (hs : s.size ≤ 2000000000000) (hp : p < s.size) :
    Calls Try.prog 60 #[.pointer (some ⟨b, 0, none⟩)] w fun x w' => x = .returned (.tuple #[.int .u8 (s[p].toNat : Int), .bool true]) ∧ IsCur w' b s (p + 1) ∧ Oth b w w' := by
  have HP : Hid (Lib.hasPrefix (s.data.toList.drop p) ((s.extract p s.size).extract 0 1).data.toList = true) := by
    show Lib.hasPrefix _ _ = true
    rw [ext_list, rest_list]
    exact List.isPrefixOf_iff_prefix.2 (List.take_prefix _ _)
  have hz : ((s.extract p s.size).extract 0 1).size = 1 := by rw [← len_eq, ext_list, rest_list, List.length_take, List.length_drop, len_eq]; omega
  have hz2 : (1 : Int) ≤ ((s.extract p s.size).size : Int) := by
    have : (s.extract p s.size).size = s.size - p := by rw [← len_eq, rest_list, List.length_drop, len_eq]
    omega
  go_enter Try.func60, Try.ntmps60
  go_wp2_with fail
  refine (peek_in b s p w h hs hp).mono ?_
  rintro x w1 ⟨rfl, n, rfl⟩
  have h1 := h.drewN n
  generalize hr : (s.extract p s.size).extract 0 1 = r1 at *
  go_wp2_with fail
  go_region_with (first | (go_at_call 46; refine (rest_any b s p _ (by exact h1.of_block rfl) hs).mono ?_; rintro x w2 ⟨rfl, m, rfl⟩) | (go_at_call 43; refine (pass_cur b s r1 p _ (by exact h1.of_block rfl) hs HP.out).mono ?_; rintro x w2 ⟨rfl, hc2, ho2⟩))
  all_goals
    go_wp2_with fail
    go_ret2
    exact ⟨rfl, by rw [← hz]; exact hc2, (Oth.drewN b w _).trans ho2⟩

set_option maxHeartbeats 400000 in
theorem next_end (b : Nat) (s : ByteArray) (p : Nat) (w : World) (h : IsCur w b s p) (hs : s.size ≤ 2000000000000) (hp : ¬ p < s.size) :
    Calls Try.prog 60 #[.pointer (some ⟨b, 0, none⟩)] w fun x w' => x = .returned (.tuple #[.int .u8 0, .bool false]) ∧ ∃ n, w' = w.drewN n := by
  go_enter Try.func60, Try.ntmps60
  go_wp2_with fail
  refine (peek_end b s p w h hs hp).mono ?_
  rintro x w1 ⟨rfl, n, rfl⟩
  go_wp2_with fail
  go_ret2
  exact ⟨rfl, n, rfl⟩

theorem u8_of {c : UInt8} {n : Nat} (hn : n < 256) (h : (c.toNat : Int) = n) : c = UInt8.ofNat n := by
  apply UInt8.toNat_inj.1; rw [UInt8.toNat_ofNat']; omega

/-- What unescape answers. -/
def unescV (c : UInt8) : Value := match unesc c with | some d => .tuple #[.int .u8 (d.toNat : Int), .bool true] | none => .tuple #[.int .u8 0, .bool false]

set_option maxHeartbeats 800000 in
theorem unescape_any (c : UInt8) (w : World) :
    Calls Try.prog 61 #[.int .u8 (c.toNat : Int)] w fun x w' => x = .returned (unescV c) ∧ w' = w := by
  by_cases h1 : (c.toNat : Int) = 34
  · obtain rfl : c = 34 := u8_of (n := 34) (by decide) h1
    go_enter Try.func61, Try.ntmps61
    go_wp2_with fail
    go_ret2
    exact ⟨rfl, rfl⟩
  by_cases h2 : (c.toNat : Int) = 92
  · obtain rfl : c = 92 := u8_of (n := 92) (by decide) h2
    go_enter Try.func61, Try.ntmps61
    go_wp2_with fail
    go_ret2
    exact ⟨rfl, rfl⟩
  by_cases h3 : (c.toNat : Int) = 47
  · obtain rfl : c = 47 := u8_of (n := 47) (by decide) h3
    go_enter Try.func61, Try.ntmps61
    go_wp2_with fail
    go_ret2
    exact ⟨rfl, rfl⟩
  by_cases h4 : (c.toNat : Int) = 110
  · obtain rfl : c = 110 := u8_of (n := 110) (by decide) h4
    go_enter Try.func61, Try.ntmps61
    go_wp2_with fail
    go_ret2
    exact ⟨rfl, rfl⟩
  by_cases h5 : (c.toNat : Int) = 116
  · obtain rfl : c = 116 := u8_of (n := 116) (by decide) h5
    go_enter Try.func61, Try.ntmps61
    go_wp2_with fail
    go_ret2
    exact ⟨rfl, rfl⟩
  have HV : Hid (unescV c = .tuple #[.int .u8 0, .bool false]) := by
    have e1 : c ≠ 34 := fun e => h1 (by rw [e]; rfl)
    have e2 : c ≠ 92 := fun e => h2 (by rw [e]; rfl)
    have e3 : c ≠ 47 := fun e => h3 (by rw [e]; rfl)
    have e4 : c ≠ 110 := fun e => h4 (by rw [e]; rfl)
    have e5 : c ≠ 116 := fun e => h5 (by rw [e]; rfl)
    show unescV c = _
    simp [unescV, unesc, e1, e2, e3, e4, e5]
  have d1 : ((c.toNat : Int) == 34) = false := by simpa using h1
  have d2 : ((c.toNat : Int) == 92) = false := by simpa using h2
  have d3 : ((c.toNat : Int) == 47) = false := by simpa using h3
  have d4 : ((c.toNat : Int) == 110) = false := by simpa using h4
  have d5 : ((c.toNat : Int) == 116) = false := by simpa using h5
  clear h1 h2 h3 h4 h5
  go_enter Try.func61, Try.ntmps61
  go_wp2_with fail
  go_ret2
  exact ⟨by rw [HV.out]; rfl, rfl⟩

/-- What escape answers. -/
def escV (c : UInt8) : Value := match esc c with | some d => .tuple #[.int .u8 (d.toNat : Int), .bool true] | none => .tuple #[.int .u8 0, .bool false]

set_option maxHeartbeats 800000 in
theorem escape_any (c : UInt8) (w : World) :
    Calls Try.prog 49 #[.int .u8 (c.toNat : Int)] w fun x w' => x = .returned (escV c) ∧ w' = w := by
  by_cases h1 : (c.toNat : Int) = 34
  · obtain rfl : c = 34 := u8_of (n := 34) (by decide) h1
    go_enter Try.func49, Try.ntmps49
    go_wp2_with fail
    go_ret2
    exact ⟨rfl, rfl⟩
  by_cases h2 : (c.toNat : Int) = 92
  · obtain rfl : c = 92 := u8_of (n := 92) (by decide) h2
    go_enter Try.func49, Try.ntmps49
    go_wp2_with fail
    go_ret2
    exact ⟨rfl, rfl⟩
  by_cases h3 : (c.toNat : Int) = 10
  · obtain rfl : c = 10 := u8_of (n := 10) (by decide) h3
    go_enter Try.func49, Try.ntmps49
    go_wp2_with fail
    go_ret2
    exact ⟨rfl, rfl⟩
  by_cases h4 : (c.toNat : Int) = 9
  · obtain rfl : c = 9 := u8_of (n := 9) (by decide) h4
    go_enter Try.func49, Try.ntmps49
    go_wp2_with fail
    go_ret2
    exact ⟨rfl, rfl⟩
  have HV : Hid (escV c = .tuple #[.int .u8 0, .bool false]) := by
    have e1 : c ≠ 34 := fun e => h1 (by rw [e]; rfl)
    have e2 : c ≠ 92 := fun e => h2 (by rw [e]; rfl)
    have e3 : c ≠ 10 := fun e => h3 (by rw [e]; rfl)
    have e4 : c ≠ 9 := fun e => h4 (by rw [e]; rfl)
    show escV c = _
    simp [escV, esc, e1, e2, e3, e4]
  have d1 : ((c.toNat : Int) == 34) = false := by simpa using h1
  have d2 : ((c.toNat : Int) == 92) = false := by simpa using h2
  have d3 : ((c.toNat : Int) == 10) = false := by simpa using h3
  have d4 : ((c.toNat : Int) == 9) = false := by simpa using h4
  clear h1 h2 h3 h4
  go_enter Try.func49, Try.ntmps49
  go_wp2_with fail
  go_ret2
  exact ⟨by rw [HV.out]; rfl, rfl⟩

end Go.Proofs.Ythcclkihfnjpfaa

/-
  Contract of the reference's Text.
  Plain mathematics of a version's text, read part by part.
-/
import Derived.Test.YthihnpjbdjmbhaaGreatDoorG05
import Derived.Lib.QuietBelow
import Derived.BigQuiet
import Derived.Test.YthihnpjbdjmbhaaGreatDoorG04

namespace Go.Proofs.YthihnpjbdjmbhaaGreatDoor
set_option linter.unusedSimpArgs false
set_option linter.unusedVariables false
open Go.RowKit Go.Vr Go.Sort Go.Tx Go.Lib

theorem mixed : Tryz.prog.follows .mixedOrders = true := by kernel_rfl
theorem itoa_size (n : Int) (h0 : 0 ≤ n) (h : n < 1000000000) : (Tx.str (Lib.itoa n)).size ≤ 9 := by
  rw [Tx.str_size]
  have := (itoa_ok n h0 h).1
  unfold Tx.okNum at this
  simp only [Bool.and_eq_true, decide_eq_true_eq] at this
  omega
theorem ba3 (x y z : ByteArray) : (x ++ y) ++ z = x ++ (y ++ z) := ba_ext (by simp)

set_option maxHeartbeats 800000 in
set_option maxRecDepth 100000 in
theorem rtext_any (a b c : Int) (p : ByteArray) (w : World) (hp : p.size ≤ 1000) (ha : 0 ≤ a ∧ a < 1000000000) (hb : 0 ≤ b ∧ b < 1000000000) (hc : 0 ≤ c ∧ c < 1000000000) :
    Calls Tryz.prog 65 #[ver a b c p] w fun e w' => e = .returned (.string (str (txt ⟨a, b, c, p⟩))) ∧ Below w.heap.size w w' := by
  have k0 := cell_regrown (w := w.alloc (.cells #[.int .i64 a, .int .i64 b, .int .i64 c, .string p] 37)) (a := ⟨w.heap.size, 0, none⟩) (v := .int .i64 a) (by simp [go_sem])
  have k1 := cell_regrown (w := w.alloc (.cells #[.int .i64 a, .int .i64 b, .int .i64 c, .string p] 37)) (a := ⟨w.heap.size, 1, none⟩) (v := .int .i64 b) (by simp [go_sem])
  have k2 := cell_regrown (w := w.alloc (.cells #[.int .i64 a, .int .i64 b, .int .i64 c, .string p] 37)) (a := ⟨w.heap.size, 2, none⟩) (v := .int .i64 c) (by simp [go_sem])
  have k3 := cell_regrown (w := w.alloc (.cells #[.int .i64 a, .int .i64 b, .int .i64 c, .string p] 37)) (a := ⟨w.heap.size, 3, none⟩) (v := .string p) (by simp [go_sem])
  have cD : ∀ n : Int, 0 ≤ n ∧ n < 1000000000 → ∀ W d os, Calls Tryz.prog 97 #[.int .i64 n] (grow (redrawn W d) os) fun e w'' => e = .returned (.string (str (itoa n))) ∧ ∃ p : Regrown, w'' = grow (redrawn W p.d) p.os := fun n h W d os => Calls.regrown_of (rdigits_any n _ h.1 (by omega))
  have HDa : Hid _ := cD a ha
  have HDb : Hid _ := cD b hb
  have HDc : Hid _ := cD c hc
  have s1 := itoa_size a ha.1 ha.2
  have s2 := itoa_size b hb.1 hb.2
  have s3 := itoa_size c hc.1 hc.2
  have HX : Hid (str (txt ⟨a, b, c, p⟩) = (((((⟨#[118]⟩ : ByteArray) ++ str (itoa a)) ++ ⟨#[46]⟩ ++ str (itoa b)) ++ ⟨#[46]⟩) ++ str (itoa c)) ++ str (tail p.data.toList)) := by
    show str (txt ⟨a, b, c, p⟩) = _
    refine ba_ext ?_
    simp [txt, ba_app, str_list]
  clear cD ha hb hc
  generalize str (itoa a) = xa at *
  generalize str (itoa b) = xb at *
  generalize str (itoa c) = xc at *
  have n1 : ¬ 9223372036854775807 < 1 + xa.size := by omega
  have n2 : ¬ 9223372036854775807 < 1 + xa.size + 1 := by omega
  have n3 : ¬ 9223372036854775807 < 1 + xa.size + 1 + xb.size := by omega
  have n4 : ¬ 9223372036854775807 < 1 + xa.size + 1 + xb.size + 1 := by omega
  have n5 : ¬ 9223372036854775807 < 1 + xa.size + 1 + xb.size + 1 + xc.size := by omega
  go_enter Tryz.func65, Tryz.ntmps65
  go_wp2_with fail
  refine wp_region_quiet_below mixed (by kernel_rfl) ?_
  iterate 2 (quiet_step (fail))
  quiet_step (exact HDa.out _ _ _)
  iterate 4 (quiet_step (fail))
  quiet_step (exact HDb.out _ _ _)
  iterate 4 (quiet_step (fail))
  quiet_step (exact HDc.out _ _ _)
  iterate 2 (quiet_step (fail))
  refine wpQuiet_nil ?_
  intro _ hw'
  obtain ⟨⟨dq, osq⟩, hw''⟩ := hw'
  subst hw''
  have hB := ((Below.refl w.heap.size w).alloc (Nat.le_refl _) (.cells #[.int .i64 a, .int .i64 b, .int .i64 c, .string p] 37)).trans ((below_regrown (w.alloc (.cells #[.int .i64 a, .int .i64 b, .int .i64 c, .string p] 37)) dq osq).mono (by simp))
  by_cases h0 : p.size = 0
  · have he : p.toList.isEmpty = true := by rw [empty_eq]; simpa using h0
    have HT : Hid (tail p.data.toList = []) := by
      show tail p.data.toList = []
      unfold tail
      rw [if_pos (List.eq_nil_of_length_eq_zero (by rw [len_eq]; exact h0))]
    clear h0
    go_wp2_with fail
    go_ret
    exact ⟨ret_str (by rw [HX.out, HT.out]; refine ba_ext ?_; simp [ba_app, str_list]), hB⟩
  · have he : p.toList.isEmpty = false := by rw [empty_eq]; simpa using h0
    have HT : Hid (tail p.data.toList = 45 :: p.data.toList) := by
      show tail p.data.toList = _
      unfold tail
      rw [if_neg (fun e => h0 (by have := len_eq p; rw [e] at this; simpa using this.symm))]
    clear h0
    go_wp2_with fail
    go_ret
    exact ⟨ret_str (by rw [HX.out, HT.out]; refine ba_ext ?_; simp [ba_app, str_list]), hB⟩

end Go.Proofs.YthihnpjbdjmbhaaGreatDoor

namespace Go.Vr
set_option linter.unusedVariables false
open Go.Lib Go.Tx

/-- Behind the three numbers. -/
def fin (a b c : Int) (r : Bs) : Option V := match rtail r with
  | none => none
  | some p => if V.ok ⟨a, b, c, str p⟩ = true then some ⟨a, b, c, str p⟩ else none
/-- With so many numbers to come. -/
def go3 (i : Nat) (a b c : Int) (r : Bs) : Option V :=
  match i with
  | 0 => match rstep 118 r with
    | none => none
    | some (a, s1) => match rstep 46 s1 with
      | none => none
      | some (b, s2) => match rstep 46 s2 with
        | none => none
        | some (c, s3) => fin a b c s3
  | 1 => match rstep 46 r with
      | none => none
      | some (b, s2) => match rstep 46 s2 with
        | none => none
        | some (c, s3) => fin a b c s3
  | 2 => match rstep 46 r with
        | none => none
        | some (c, s3) => fin a b c s3
  | _ => fin a b c r
theorem parse_go (s : Bs) : parse s = go3 0 0 0 0 s := rfl

theorem drop_at (s : ByteArray) (t : Nat) (h : t < s.size) : s.data.toList.drop t = s[t] :: s.data.toList.drop (t + 1) := by
  rw [List.drop_eq_getElem_cons (by simpa using h)]; rfl
theorem drop_end (s : ByteArray) (t : Nat) (h : s.size ≤ t) : s.data.toList.drop t = [] := List.drop_of_length_le (by simpa using h)

theorem rstep_end (d : UInt8) (s : ByteArray) (t : Nat) (h : s.size ≤ t) : rstep d (s.data.toList.drop t) = none := by rw [drop_end s t h]; rfl
theorem rstep_ne (d : UInt8) (s : ByteArray) (t : Nat) (h : t < s.size) (hc : s[t] ≠ d) : rstep d (s.data.toList.drop t) = none := by
  rw [drop_at s t h]
  show (if _ then _ else _) = _
  rw [if_neg hc]
/-- Digits from f on, up to k. -/
def DigTo (s : ByteArray) (f k : Nat) : Prop := f ≤ k ∧ k ≤ s.size ∧ (s.extract f k).data.toList.all isDig = true
theorem ext_list (s : ByteArray) (f k : Nat) : (s.extract f k).data.toList = (s.data.toList.drop f).take (k - f) := extract_data s f k
theorem DigTo.start (s : ByteArray) (f : Nat) (h : f ≤ s.size) : DigTo s f f := ⟨Nat.le_refl _, h, by rw [ext_list]; simp⟩
theorem DigTo.next {s : ByteArray} {f k : Nat} (h : DigTo s f k) (hk : k < s.size) (hd : isDig s[k] = true) : DigTo s f (k + 1) := by
  refine ⟨by have := h.1; omega, hk, ?_⟩
  have hh := h.2.2
  have h1 := h.1
  rw [ext_list] at hh ⊢
  rw [show k + 1 - f = (k - f) + 1 by omega, List.take_add_one, List.all_append, hh]
  have e : (s.data.toList.drop f)[k - f]? = some s[k] := by
    rw [List.getElem?_drop, show f + (k - f) = k by omega]
    exact data_getElem? s k hk
  rw [e]; simp [hd]
theorem DigTo.done {s : ByteArray} {f k : Nat} (h : DigTo s f k) (hk : s.size ≤ k ∨ ∃ hk : k < s.size, isDig s[k] = false) : (s.data.toList.drop f).takeWhile isDig = (s.extract f k).data.toList ∧ (s.data.toList.drop f).dropWhile isDig = s.data.toList.drop k := by
  have h1 := h.1
  have e : s.data.toList.drop f = (s.extract f k).data.toList ++ s.data.toList.drop k := by
    rw [ext_list]
    have := List.take_append_drop (k - f) (s.data.toList.drop f)
    rw [List.drop_drop, show f + (k - f) = k by omega] at this
    exact this.symm
  rw [e]
  refine tw_app _ _ h.2.2 fun c t hc => ?_
  rcases hk with hk | ⟨hk, hd⟩
  · rw [drop_end s k hk] at hc; cases hc
  · rw [drop_at s k hk] at hc
    injection hc with hc
    rw [← hc]; exact hd
theorem rstep_eq (d : UInt8) (s : ByteArray) (t k : Nat) (h : t < s.size) (hc : s[t] = d) (hD : DigTo s (t + 1) k) (hk : s.size ≤ k ∨ ∃ hk : k < s.size, isDig s[k] = false) :
    rstep d (s.data.toList.drop t) = if okNum (s.extract (t + 1) k).data.toList = true then some (numVal (s.extract (t + 1) k).data.toList, s.data.toList.drop k) else none := by
  obtain ⟨e1, e2⟩ := hD.done hk
  rw [drop_at s t h]
  show (if _ then _ else _) = _
  rw [if_pos hc, e1, e2]
theorem okNum_bd (l : Bs) (h : okNum l = true) : 0 ≤ numVal l ∧ numVal l ≤ 999999999 ∧ numR l = numVal l := by
  have h0 := h
  unfold okNum at h
  simp only [Bool.and_eq_true, decide_eq_true_eq] at h
  have h1 := numVal_lt l h.2
  have h2 : (10 : Int) ^ l.length ≤ 10 ^ 9 := by
    have : ((10 ^ l.length : Nat) : Int) ≤ ((10 ^ 9 : Nat) : Int) := Int.ofNat_le.2 (Nat.pow_le_pow_right (by omega) h.1.1.2)
    rw [Int.natCast_pow, Int.natCast_pow] at this
    exact this
  have e : (10 : Int) ^ 9 = 1000000000 := by decide
  refine ⟨numVal_nonneg l h.2, by omega, ?_⟩
  rw [numR, if_pos h0]

theorem fin_end (x y z : Int) (s : ByteArray) (t : Nat) (h : s.size ≤ t) : fin x y z (s.data.toList.drop t) = if verOk x y z [] = true then some ⟨x, y, z, ⟨#[]⟩⟩ else none := by rw [drop_end s t h]; rfl
theorem fin_ne (x y z : Int) (s : ByteArray) (t : Nat) (h : t < s.size) (hc : s[t] ≠ 45) : fin x y z (s.data.toList.drop t) = none := by
  have : rtail (s.data.toList.drop t) = none := by
    rw [drop_at s t h]
    show (if _ then _ else _) = _
    rw [if_neg (fun e => hc e.1)]
  unfold fin; rw [this]
theorem fin_one (x y z : Int) (s : ByteArray) (t : Nat) (h : t + 1 = s.size) : fin x y z (s.data.toList.drop t) = none := by
  have : rtail (s.data.toList.drop t) = none := by
    rw [drop_at s t (by omega), drop_end s (t + 1) (by omega)]
    show (if _ then _ else _) = _
    rw [if_neg (fun e => e.2 rfl)]
  unfold fin; rw [this]
theorem fin_more (x y z : Int) (s : ByteArray) (t : Nat) (h : t + 1 < s.size) (hc : s[t] = 45) : fin x y z (s.data.toList.drop t) = if verOk x y z (s.extract (t + 1) s.size).data.toList = true then some ⟨x, y, z, s.extract (t + 1) s.size⟩ else none := by
  have hne : s.data.toList.drop (t + 1) ≠ [] := by rw [drop_at s (t + 1) h]; simp
  have : rtail (s.data.toList.drop t) = some (s.data.toList.drop (t + 1)) := by
    rw [drop_at s t (by omega)]
    show (if _ then _ else _) = _
    rw [if_pos ⟨hc, hne⟩]
  have e : str (s.data.toList.drop (t + 1)) = s.extract (t + 1) s.size := by rw [← extract_to_end, str_of]
  unfold fin
  rw [this]
  simp only [e]
  rfl

end Go.Vr

/-
  Contract of the law's known.
  Contracts of the law's within, of the reference's Rows at the same rows.
  What a law of texts of braces is told of its slices of integers.
  Plain mathematics of the law's own locks: each may be; how they are written, lock by lock.
  Contract of the text of a version, as the reference has it (beside Y0).
  Contracts of path's number, lineOf, Major, fits, Fits, covers.
-/
import Derived.Test.YtnmmhihfnphjeaaGreatDoorG30
import Derived.OpenShut
import Derived.Test.YtnmmhihfnphjeaaGreatDoorG15
import Derived.Test.YtnmmhihfnphjeaaGreatDoorG27
import Derived.Test.YtnmmhihfnphjeaaGreatDoorG28
import Derived.Lib.QuietBelow
import Derived.BigQuiet
import Derived.Test.YtnmmhihfnphjeaaGreatDoorG29
import Derived.Deep.RegionHeld3

namespace Go.Proofs.YtnmmhihfnphjeaaGreatDoor.B
set_option linter.unusedSimpArgs false
set_option linter.unusedVariables false
open Go.RowKit Go.Vr Go.Sort Go.Tx Go.Lib
open Go.Br hiding Bs
open Go.Proofs.YtnmmhihfnphjeaaGreatDoor.W (plc)
attribute [local go_sem] setCellDrewN allocDrewN

def tKnown : Bs := [123, 34, 108, 111, 99, 107, 115, 34, 58, 91, 123, 34, 112, 97, 116, 104, 34, 58, 34, 97, 34, 44, 34, 118, 101, 114, 115, 105, 111, 110, 34, 58, 34, 118, 49, 46, 48, 46, 48, 34, 125, 93, 125]
theorem known1 : parseM [91, 93] = .inl (Sum.inr (Sum.inl [])) := by kernel_rfl
theorem known2 : locksM tKnown = .inl [⟨[97], [118, 49, 46, 48, 46, 48], [], [], []⟩] := by kernel_rfl
theorem known3 : parseM [91, 49, 10, 44, 120, 93] = .inr (1, 4) := by kernel_rfl
theorem known4 : textV 8 (Sum.inr (Sum.inl [])) = [91, 93] := by kernel_rfl
theorem known5 : writeM [] = [123, 34, 108, 111, 99, 107, 115, 34, 58, 91, 93, 125, 10] := by kernel_rfl
theorem known6 : plc ([91, 49, 10, 44, 120, 93].take 4) = .agg #[.int .i64 2, .int .i64 2] := by kernel_rfl

set_option maxHeartbeats 8000000 in
set_option maxRecDepth 100000 in
theorem known5_any (w : World) (he : Env w) :
    Calls Tryz.prog 7 #[] w fun e w' => e = .returned (.bool true) ∧ Below w.heap.size w w' := by
  have HE := hide he
  clear he
  have C1 := hide (parse_any ⟨#[91, 93]⟩ w (by decide))
  rw [show (ByteArray.mk #[91, 93]).data.toList = [91, 93] from rfl, known1] at C1
  have C2 := hide (fun W hW => locks_any (str tKnown) W (by rw [str_size]; decide) hW)
  simp only [str_list, known2] at C2
  have C3 := hide (fun W => parse_any ⟨#[91, 49, 10, 44, 120, 93]⟩ W (by decide))
  simp only [show (ByteArray.mk #[91, 49, 10, 44, 120, 93]).data.toList = [91, 49, 10, 44, 120, 93] from rfl, known3] at C3
  have C5 := hide (fun W hW => write_any none 0 0 [] W (ERow.none W) (by omega) hW (by simp) (by rw [known5]; decide))
  simp only [known5] at C5
  have C5 : Hid (∀ W, Env W → Calls Tryz.prog 15 #[.slice none 0 0] W fun e w' => e = .returned (.string ⟨#[123, 34, 108, 111, 99, 107, 115, 34, 58, 91, 93, 125, 10]⟩) ∧ Below W.heap.size W w') := C5
  have e1 : str tKnown = ⟨#[123, 34, 108, 111, 99, 107, 115, 34, 58, 91, 123, 34, 112, 97, 116, 104, 34, 58, 34, 97, 34, 44, 34, 118, 101, 114, 115, 105, 111, 110, 34, 58, 34, 118, 49, 46, 48, 46, 48, 34, 125, 93, 125]⟩ := rfl
  rw [e1] at C2
  clear e1
  go_enter Tryz.func7, Tryz.ntmps7
  go_wp2_with fail
  refine C1.out.mono ?_
  rintro e w1 ⟨b1, ⟨vk, vn, vs, ka, kn, kc, la, n, lc⟩, rfl, hv⟩
  have HV := hide hv
  obtain ⟨⟨h4, h0, hs, h5, h6, h7⟩, us, hr, ha⟩ := hv
  obtain rfl : us = [] := List.eq_nil_of_length_eq_zero ha.len.symm
  obtain rfl : 0 = n := hr.row.n
  obtain rfl : vk = 4 := h4
  have hx1 := (Box.new w1 #[.int .i64 4, .int .i64 vn, .string vs, .slice ka kn kc, .slice la 0 lc] 28).alloc (.cells #[.int .i64 0, .int .i64 0] 32)
  have HX1 := hide hx1
  have HB2 := hide (b1.trans (show Below w.heap.size w1 ((w1.alloc (.cells #[.int .i64 4, .int .i64 vn, .string vs, .slice ka kn kc, .slice la 0 lc] 28)).alloc (.cells #[.int .i64 0, .int .i64 0] 32)) from ((Below.refl _ _).alloc b1.size _).alloc (by simp; have := b1.size; omega) _))
  have HV2 := hide (HV.out.below (show Below w1.heap.size w1 ((w1.alloc (.cells #[.int .i64 4, .int .i64 vn, .string vs, .slice ka kn kc, .slice la 0 lc] 28)).alloc (.cells #[.int .i64 0, .int .i64 0] 32)) from (by repeat (first | with_reducible assumption | with_reducible exact Below.refl _ _ | with_reducible refine Below.setCell ?_ (by first | exact Nat.le_refl _ | (simp; done) | (simp; omega)) _ | with_reducible refine bal ?_ _ | with_reducible refine Below.alloc ?_ (by first | exact Nat.le_refl _ | (simp; done) | (simp; omega)) _ | with_reducible refine Below.drew ?_))))
  clear h0 hs h5 h6 h7 hr ha hx1 b1 C1 HV
  go_wp2_with fail
  refine (C2.out _ (HE.out.later HB2.out)).mono ?_
  rintro e w3 ⟨b3, v', rfl, ho⟩
  obtain ⟨g, cap, rfl, hrow⟩ : ∃ g cap, v' = .slice (some ⟨g, 0, none⟩) 1 cap ∧ ERow ELk w3 (some ⟨g, 0, none⟩) 1 [⟨[97], [118, 49, 46, 48, 46, 48], [], [], []⟩] := by
    rcases ho.form with ⟨_, h⟩ | ⟨g, cap, e, _, _, _, _, h⟩
    · simp at h
    · exact ⟨g, cap, e, h⟩
  have hb4 : Below w3.heap.size w3 (w3.alloc (.cells #[.int .i64 0, .int .i64 0] 32)) := (by repeat (first | with_reducible assumption | with_reducible exact Below.refl _ _ | with_reducible refine Below.setCell ?_ (by first | exact Nat.le_refl _ | (simp; done) | (simp; omega)) _ | with_reducible refine bal ?_ _ | with_reducible refine Below.alloc ?_ (by first | exact Nat.le_refl _ | (simp; done) | (simp; omega)) _ | with_reducible refine Below.drew ?_))
  have HX4 := hide ((HX1.out.later b3).later hb4)
  have HV4 := hide ((HV2.out.below b3).below hb4)
  have HR4 := hide (hrow.later hb4)
  have HB4 := hide (HB2.out.trans ((b3.mono HB2.out.size).trans (hb4.mono (Nat.le_trans HB2.out.size b3.size))))
  clear b3 hb4 ho hrow C2 HX1 HV2
  go_wp2_with fail
  refine (C3.out _).mono ?_
  rintro e w5 ⟨b5, _, h5⟩
  obtain rfl : e = .returned (.tuple #[SV.zero.val, .agg #[.int .i64 2, .int .i64 2], .int .i64 1]) := by rw [← known6]; exact h5
  clear h5
  have hb6 : Below w5.heap.size w5 ((w5.alloc (.cells SV.zero.cells 28)).alloc (.cells #[.int .i64 2, .int .i64 2] 32)) := (by repeat (first | with_reducible assumption | with_reducible exact Below.refl _ _ | with_reducible refine Below.setCell ?_ (by first | exact Nat.le_refl _ | (simp; done) | (simp; omega)) _ | with_reducible refine bal ?_ _ | with_reducible refine Below.alloc ?_ (by first | exact Nat.le_refl _ | (simp; done) | (simp; omega)) _ | with_reducible refine Below.drew ?_))
  have HX6 := hide ((HX4.out.later b5).later hb6)
  have HV6 := hide ((HV4.out.below b5).below hb6)
  have hr6 := (HR4.out.later b5).later hb6
  have HB6 := hide (HB4.out.trans ((b5.mono HB4.out.size).trans (hb6.mono (Nat.le_trans HB4.out.size b5.size))))
  have x6 := HX6.out.c
  obtain ⟨d0, d1, d2, d3, d4⟩ := ELk_at hr6 0 _ rfl
  simp only [Nat.zero_mul, Nat.zero_add, Nat.add_zero] at d0 d1 d2 d3 d4
  have s1 : (str [97]).toList = [97] := by rw [toList_data]; rfl
  have s2 : (str [118, 49, 46, 48, 46, 48]).toList = [118, 49, 46, 48, 46, 48] := by rw [toList_data]; rfl
  have C4 := hide (text_any 8 (Sum.inr (Sum.inl [])) ⟨4, vn, vs, ka, kn, kc, la, 0, lc⟩ _ _ (HE.out.later HB6.out) HV6.out (fun x hx => absurd hx (by simp)) (by rw [known4]; decide))
  rw [known4] at C4
  have C4 : Hid (Calls Tryz.prog 10 #[.agg #[.int .i64 4, .int .i64 vn, .string vs, .slice ka kn kc, .slice la 0 lc]] ((w5.alloc (.cells SV.zero.cells 28)).alloc (.cells #[.int .i64 2, .int .i64 2] 32)) fun e w' => e = .returned (.string ⟨#[91, 93]⟩) ∧ Below ((w5.alloc (.cells SV.zero.cells 28)).alloc (.cells #[.int .i64 2, .int .i64 2] 32)).heap.size ((w5.alloc (.cells SV.zero.cells 28)).alloc (.cells #[.int .i64 2, .int .i64 2] 32)) w') := C4
  clear b5 hb6 C3 HX4 HV4 HR4 hr6
  have p6 := (Box.new (w5.alloc (.cells SV.zero.cells 28)) #[.int .i64 2, .int .i64 2] 32).c
  rw [show (w5.alloc (.cells SV.zero.cells 28)).heap.size = w5.heap.size + 1 by simp] at p6
  go_wp2_with fail
  refine C4.out.mono ?_
  rintro e w7 ⟨rfl, b7⟩
  have HB7 := hide (HB6.out.trans (b7.mono HB6.out.size))
  clear b7 C4 x6 p6 d0 d1 d2 d3 d4
  go_wp2_with fail
  refine (C5.out _ (HE.out.later HB7.out)).mono ?_
  rintro e w8 ⟨rfl, b8⟩
  have HB8 := hide (HB7.out.trans (b8.mono HB7.out.size))
  clear b8 C5
  go_wp2_with fail
  go_ret
  exact ⟨rfl, HB8.out⟩

end Go.Proofs.YtnmmhihfnphjeaaGreatDoor.B

namespace Go.Proofs.YtnmmhihfnphjeaaGreatDoor.B
set_option linter.unusedSimpArgs false
set_option linter.unusedVariables false
open Go.RowKit Go.Vr Go.Sort Go.Tx Go.Lib
open Go.Br hiding Bs
attribute [local go_sem] setCellDrewN allocDrewN

theorem within5_any (a n : Int) (w : World) (h1 : 1 ≤ n) (h2 : n ≤ 4611686018427387904) (h3 : -9223372036854775808 ≤ a) (h4 : a ≤ 9223372036854775807) :
    Calls Tryz.prog 19 #[.int .i64 a, .int .i64 n] w fun e w' => e = .returned (.int .i64 (a % n)) ∧ w' = w := by
  obtain ⟨hb1, hb2⟩ := Tx.tmod_bd a n h1
  go_enter Tryz.func19, Tryz.ntmps19
  go_wp2
  · go_ret
    exact ⟨ret_int (Tx.tmod_dn a n h1 (by assumption)), rfl⟩
  · go_ret
    exact ⟨ret_int (Tx.tmod_up a n h1 (by assumption)), rfl⟩
theorem within5_nat (a n : Int) (w : World) (h1 : 1 ≤ n) (h2 : n ≤ 4611686018427387904) (h3 : -9223372036854775808 ≤ a) (h4 : a ≤ 9223372036854775807) :
    Calls Tryz.prog 19 #[.int .i64 a, .int .i64 n] w fun e w' => ∃ k : Nat, e = .returned (.int .i64 k) ∧ (k : Int) < n ∧ Hid ((k : Int) = a % n) ∧ w' = w := by
  refine (within5_any a n w h1 h2 h3 h4).mono ?_
  rintro e w' ⟨rfl, rfl⟩
  have b1 := Int.emod_nonneg a (b := n) (by omega)
  have b2 := Int.emod_lt_of_pos a (b := n) (by omega)
  exact ⟨(a % n).toNat, by rw [Int.toNat_of_nonneg b1], by omega, Int.toNat_of_nonneg b1, rfl⟩

set_option maxHeartbeats 4000000 in
set_option maxRecDepth 100000 in
theorem rows_same (a a' : Option Addr) (n c c' : Nat) (ls : List Lk) (w : World) (hr : ERow ELk w a n ls) (hr' : ERow ELk w a' n ls) (hn : n ≤ 1000000) :
    Calls Tryz.prog 18 #[.slice a n c, .slice a' n c'] w fun e w' => e = .returned (.bool true) ∧ Below w.heap.size w w' := by
  have HR := hide hr
  have HR' := hide hr'
  have hln := hide hr.n
  have Hn := hide hn
  clear hr hr' hn
  go_enter Tryz.func18, Tryz.ntmps18
  go_wp2_with fail
  go_loopw [5] (fun i wr => ∃ k : Nat, k ≤ n ∧ i = .int .i64 k ∧ Below w.heap.size w wr) (fun i _ => n - (RowKit.intOf i).toNat)
  case atStart => exact ⟨0, Nat.zero_le _, rfl, Below.refl _ _⟩
  case round =>
    obtain ⟨k, hk, rfl, hB⟩ := hrel
    have HB := hide hB
    clear hB
    by_cases hlt : k < n
    · obtain ⟨g, off, rfl⟩ := HR.out.spot (by omega)
      obtain ⟨g2, off2, rfl⟩ := HR'.out.spot (by omega)
      have hkl : k < ls.length := by have := hln.out; omega
      have hx : ls[k]? = some ls[k] := List.getElem?_eq_getElem hkl
      obtain ⟨d0, d1, d2, d3, d4⟩ := ELk_at (HR.out.later HB.out) k ls[k] hx
      obtain ⟨e0, e1, e2, e3, e4⟩ := ELk_at (HR'.out.later HB.out) k ls[k] hx
      generalize ls[k] = x at *
      have i1 : (0 : Int) ≤ (k : Int) := by omega
      have i2 : (k : Int) < (n : Int) := by omega
      have HKW : Hid (wrap64 ((k : Int) + 1) = ((k + 1 : Nat) : Int)) := by show _ = _; have := Hn.out; unfold wrap64; omega
      have hlt' := hide hlt
      have hsz := HB.out.size
      clear hx hkl hlt hk
      go_wp2_with fail
      go_region_law (fail)
      all_goals
        go_wp2_with fail
        go_roundw
        case rel => exact ⟨k + 1, by have := hlt'.out; omega, (by first | exact congrArg (Value.int .i64) HKW.out | rfl), by first | exact HB.out | exact HB.out.trans (by repeat (first | with_reducible assumption | with_reducible exact Below.refl _ _ | with_reducible refine Below.setCell ?_ (by first | exact Nat.le_refl _ | (simp; done) | (simp; omega)) _ | with_reducible refine bal ?_ _ | with_reducible refine Below.alloc ?_ (by first | exact Nat.le_refl _ | (simp; done) | (simp; omega)) _ | with_reducible refine Below.drew ?_)) | (have := HB.out; exact (by repeat (first | with_reducible assumption | with_reducible exact Below.refl _ _ | with_reducible refine Below.setCell ?_ (by first | exact Nat.le_refl _ | (simp; done) | (simp; omega)) _ | with_reducible refine bal ?_ _ | with_reducible refine Below.alloc ?_ (by first | exact Nat.le_refl _ | (simp; done) | (simp; omega)) _ | with_reducible refine Below.drew ?_)))⟩
        case measure => exact measB (by first | exact HKW.out | rfl) hlt'.out
    · obtain rfl : k = n := by omega
      have i2 : ¬ ((k : Int) < (k : Int)) := by omega
      go_wp2_with fail
      go_ret
      exact ⟨rfl, HB.out⟩

end Go.Proofs.YtnmmhihfnphjeaaGreatDoor.B

namespace Go.Proofs.YtnmmhihfnphjeaaGreatDoor
set_option linter.unusedSimpArgs false
set_option linter.unusedVariables false
open Go.RowKit Go.Tx Go.Vr Go.Sort

/-- A slice of integers that is there: its elements 'xs'. -/
structure Row (k : IntKind) (w : World) (a : Option Addr) (len cap : Nat) (xs : List Int) : Prop where
  n : xs.length = len
  nil : a = none → len = 0 ∧ cap = 0
  le : len ≤ cap
  mx : cap ≤ maxLen
  cell : ∀ x, a = some x → ∀ i, i < len → w.cell? (x.add i) = some (.int k (xs.getD i 0))
  wf : ∀ z ∈ xs, (Lit.int k z).wf = true

/-- A slice of integers that came in: nil, or a row of 'cap' cells. -/
def IsRow (k : IntKind) (w : World) (a : Option Addr) (len cap : Nat) (zs : List Int) : Prop :=
  (a = none ∧ len = 0 ∧ cap = 0 ∧ zs = []) ∨
  ∃ x, a = some x ∧ len ≤ cap ∧ cap ≤ maxLen ∧ zs.length = cap ∧ (∀ i, i < zs.length → w.cell? (x.add i) = some (.int k (zs.getD i 0))) ∧ ∀ n ∈ zs, (Lit.int k n).wf = true

theorem IsRow.row {k : IntKind} {w : World} {a : Option Addr} {len cap : Nat} {zs : List Int} (h : IsRow k w a len cap zs) : Row k w a len cap (zs.take len) := by
  rcases h with ⟨rfl, rfl, rfl, rfl⟩ | ⟨x, rfl, hl, hm, hz, hc, hw⟩
  · exact ⟨rfl, fun _ => ⟨rfl, rfl⟩, Nat.le_refl _, Nat.zero_le _, (fun x e => nomatch e), fun z hz => by simp at hz⟩
  · refine ⟨by simp; omega, (fun e => nomatch e), hl, hm, fun y e i hi => ?_, fun z hz2 => hw z (List.mem_of_mem_take hz2)⟩
    obtain rfl : x = y := by simpa using e
    rw [hc i (by omega)]
    simp [List.getD, hi]

theorem Row.later {k : IntKind} {w w' : World} {a : Option Addr} {len cap : Nat} {xs : List Int} (h : Row k w a len cap xs) (hb : Below w.heap.size w w') : Row k w' a len cap xs :=
  ⟨h.n, h.nil, h.le, h.mx, fun x e i hi => cellLater hb (h.cell x e i hi), h.wf⟩

theorem bd64 {n : Int} (h : (Lit.int .i64 n).wf = true) : -9223372036854775808 ≤ n ∧ n ≤ 9223372036854775807 := bounds_i64 h
theorem bd8 {n : Int} (h : (Lit.int .u8 n).wf = true) : 0 ≤ n ∧ n ≤ 255 := bounds_u8 h

theorem row_at {k : IntKind} {w : World} {a : Option Addr} {len cap : Nat} {xs : List Int} (h : Row k w a len cap xs) (h0 : 0 < len) : ∃ b off, a = some ⟨b, off, none⟩ ∧ ∀ i, i < len → w.cell? ⟨b, off + i, none⟩ = some (.int k (xs.getD i 0)) := by
  cases a with
  | none => have := (h.nil rfl).1; omega
  | some x =>
    obtain ⟨b, off, spot⟩ := x
    have hc := h.cell _ rfl 0 h0
    have hspot : spot = none := by simpa [Addr.add] using World.cell?_spot hc
    subst hspot
    exact ⟨b, off, rfl, fun i hi => by have := h.cell _ rfl i hi; rw [addr_add] at this; exact this⟩

theorem row_bd {w : World} {a : Option Addr} {len cap : Nat} {xs : List Int} (h : Row .i64 w a len cap xs) (i : Nat) (hi : i < len) : -9223372036854775808 ≤ xs.getD i 0 ∧ xs.getD i 0 ≤ 9223372036854775807 := by
  have hl : i < xs.length := by rw [h.n]; exact hi
  have : xs.getD i 0 = xs[i] := by simp [List.getD, List.getElem?_eq_getElem hl]
  rw [this]
  exact bd64 (h.wf _ (List.getElem_mem hl))

end Go.Proofs.YtnmmhihfnphjeaaGreatDoor

namespace Go.Br
set_option linter.unusedVariables false
open Go.Tx Go.Lib
open Go.Pa (right mkP mkN mkLoop pw pwA pw_ok mkP_ok)

theorem plain_app (a b : Bs) : plain (a ++ b) = (plain a && plain b) := by unfold plain; rw [List.all_append]
theorem pw_plain : ∀ i, i < 11 → plain (pwA i) = true := by
  have h : ((List.range 11).all fun i => plain (pwA i)) = true := by decide +kernel
  intro i hi
  exact List.all_eq_true.1 h i (List.mem_range.2 hi)
theorem mkLoop_plain : ∀ (i k : Nat) (s : Bs), plain s = true → plain (mkLoop i k s) = true
  | 0, _, _, h => h
  | i + 1, k, s, h => by
    refine mkLoop_plain i (k / 4) _ ?_
    rw [plain_app, h]
    show (true && plain ([47] ++ pwA (k / 4 % 11))) = true
    rw [plain_app, pw_plain _ (Nat.mod_lt _ (by omega))]
    decide
theorem mkP_plain (n : Int) : plain (mkP n) = true := mkLoop_plain _ _ _ (pw_plain _ (Nat.mod_lt _ (by omega)))

theorem dig_plain : ∀ c : UInt8, Go.Vr.isWd c = true → plB (c.toNat : Int) = true := by
  have h : ∀ n : Fin 256, Go.Vr.isWd (UInt8.ofNat n.val) = true → plB ((UInt8.ofNat n.val).toNat : Int) = true := by decide +kernel
  intro c hc
  have := h ⟨c.toNat, c.toNat_lt⟩
  simp only [show UInt8.ofNat c.toNat = c by simp] at this
  exact this hc
theorem isDig_wd {c : UInt8} (h : isDig c = true) : Go.Vr.isWd c = true := by unfold Go.Vr.isWd; rw [h]; rfl
theorem itoa_plain (n : Int) (h0 : 0 ≤ n) (h1 : n ≤ 999999) : plain (itoa n) = true := by
  obtain ⟨-, -, o3, -⟩ := Go.Vr.itoa_ok n h0 (by omega)
  unfold plain
  rw [List.all_eq_true] at o3 ⊢
  exact fun c hc => dig_plain c (isDig_wd (o3 c hc))
theorem words_plain : ∀ l : Bs, (∀ w ∈ Go.Vr.words l, w.all Go.Vr.isWd = true) → plain l = true
  | [], _ => rfl
  | c :: r, h => by
    show (plB (c.toNat : Int) && plain r) = true
    by_cases hc : c = 46
    · subst hc
      rw [words_plain r (fun w hw => h w (by rw [Go.Vr.words_dot]; exact List.mem_cons_of_mem _ hw))]
      decide
    · cases hw : Go.Vr.words r with
      | nil => exact absurd hw (Go.Vr.words_ne r)
      | cons w ws =>
        rw [Go.Vr.words_cons hc hw] at h
        have h1 := h (c :: w) (List.mem_cons_self ..)
        rw [List.all_cons, Bool.and_eq_true] at h1
        rw [dig_plain c h1.1, words_plain r (fun v hv => by
          rw [hw] at hv
          rcases List.mem_cons.1 hv with rfl | hv
          · exact h1.2
          · exact h v (List.mem_cons_of_mem _ hv))]
        rfl
theorem pre_plain (p : Bs) (h : Go.Vr.preOk p = true) : plain p = true := by
  unfold Go.Vr.preOk at h
  rw [Bool.and_eq_true, Bool.or_eq_true] at h
  rcases h.2 with h | h
  · rw [List.isEmpty_iff.1 h]; rfl
  · refine words_plain p fun w hw => ?_
    have := List.all_eq_true.1 h w hw
    unfold Go.Vr.wordOk at this
    simp only [Bool.and_eq_true] at this
    exact this.2
theorem txt_pl (v : Go.Vr.V) (h : v.ok = true) : plain (Go.Vr.txt v) = true ∧ Go.Vr.txt v ≠ [] := by
  obtain ⟨h1, h2, h3, h4⟩ := Go.Vr.ok_parts h
  refine ⟨?_, by simp [Go.Vr.txt]⟩
  unfold Go.Vr.txt Go.Vr.tail
  have e : (118 :: (itoa v.a ++ 46 :: (itoa v.b ++ 46 :: (itoa v.c ++ if v.p.data.toList = [] then [] else 45 :: v.p.data.toList)))) = [118] ++ (itoa v.a ++ ([46] ++ (itoa v.b ++ ([46] ++ (itoa v.c ++ if v.p.data.toList = [] then [] else [45] ++ v.p.data.toList))))) := by simp
  rw [e]
  simp only [plain_app, itoa_plain _ h1.1 h1.2, itoa_plain _ h2.1 h2.2, itoa_plain _ h3.1 h3.2]
  by_cases hp : v.p.data.toList = []
  · rw [if_pos hp]; decide
  · rw [if_neg hp, plain_app, pre_plain _ h4]; decide

/-- A lock as the law makes it. -/
structure okX (x : Lk) : Prop where
  pl : plainL x
  own : ownM x = 0
  len : x.root.length ≤ 80 ∧ x.ver.length ≤ 80 ∧ x.rev.length ≤ 80 ∧ x.within.length ≤ 80 ∧ x.source.length ≤ 80
theorem okX.mk' {x : Lk} (h0 : right x.root = true) (hp : plainL x) (hs : x.source = [] ∨ right x.source = true) (hv : x.rev ≠ [] ∨ x.ver ≠ []) (hl : x.root.length ≤ 80 ∧ x.ver.length ≤ 80 ∧ x.rev.length ≤ 80 ∧ x.within.length ≤ 80 ∧ x.source.length ≤ 80) : okX x := by
  refine ⟨hp, ?_, hl⟩
  unfold ownM
  rw [if_neg, if_neg]
  · rcases hv with h | h <;> simp [h]
  · rcases hs with h | h <;> simp [h, h0]

end Go.Br

namespace Go.Proofs.YtnmmhihfnphjeaaGreatDoor
set_option linter.unusedSimpArgs false
set_option linter.unusedVariables false
open Go.RowKit Go.Vr Go.Sort Go.Tx Go.Lib

theorem mixed : Tryz.prog.follows .mixedOrders = true := by kernel_rfl
theorem itoa_size (n : Int) (h0 : 0 ≤ n) (h : n < 1000000000) : (Tx.str (Lib.itoa n)).size ≤ 9 := by
  rw [Tx.str_size]
  have := (itoa_ok n h0 h).1
  unfold Tx.okNum at this
  simp only [Bool.and_eq_true, decide_eq_true_eq] at this
  omega
theorem ba3 (x y z : ByteArray) : (x ++ y) ++ z = x ++ (y ++ z) := ba_ext (by simp)

set_option maxHeartbeats 800000 in
set_option maxRecDepth 100000 in
theorem rtext_any (a b c : Int) (p : ByteArray) (w : World) (hp : p.size ≤ 1000) (ha : 0 ≤ a ∧ a < 1000000000) (hb : 0 ≤ b ∧ b < 1000000000) (hc : 0 ≤ c ∧ c < 1000000000) :
    Calls Tryz.prog 46 #[ver a b c p] w fun e w' => e = .returned (.string (str (txt ⟨a, b, c, p⟩))) ∧ Below w.heap.size w w' := by
  have k0 := cell_regrown (w := w.alloc (.cells #[.int .i64 a, .int .i64 b, .int .i64 c, .string p] 92)) (a := ⟨w.heap.size, 0, none⟩) (v := .int .i64 a) (by simp [go_sem])
  have k1 := cell_regrown (w := w.alloc (.cells #[.int .i64 a, .int .i64 b, .int .i64 c, .string p] 92)) (a := ⟨w.heap.size, 1, none⟩) (v := .int .i64 b) (by simp [go_sem])
  have k2 := cell_regrown (w := w.alloc (.cells #[.int .i64 a, .int .i64 b, .int .i64 c, .string p] 92)) (a := ⟨w.heap.size, 2, none⟩) (v := .int .i64 c) (by simp [go_sem])
  have k3 := cell_regrown (w := w.alloc (.cells #[.int .i64 a, .int .i64 b, .int .i64 c, .string p] 92)) (a := ⟨w.heap.size, 3, none⟩) (v := .string p) (by simp [go_sem])
  have cD : ∀ n : Int, 0 ≤ n ∧ n < 1000000000 → ∀ W d os, Calls Tryz.prog 29 #[.int .i64 n] (grow (redrawn W d) os) fun e w'' => e = .returned (.string (str (itoa n))) ∧ ∃ p : Regrown, w'' = grow (redrawn W p.d) p.os := fun n h W d os => Calls.regrown_of (rdigits_any n _ h.1 (by omega))
  have HDa : Hid _ := cD a ha
  have HDb : Hid _ := cD b hb
  have HDc : Hid _ := cD c hc
  have s1 := itoa_size a ha.1 ha.2
  have s2 := itoa_size b hb.1 hb.2
  have s3 := itoa_size c hc.1 hc.2
  have HX : Hid (str (txt ⟨a, b, c, p⟩) = (((((⟨#[118]⟩ : ByteArray) ++ str (itoa a)) ++ ⟨#[46]⟩ ++ str (itoa b)) ++ ⟨#[46]⟩) ++ str (itoa c)) ++ str (tail p.data.toList)) := by
    show str (txt ⟨a, b, c, p⟩) = _
    refine ba_ext ?_
    simp [txt, ba_app, str_list]
  clear cD ha hb hc
  generalize str (itoa a) = xa at *
  generalize str (itoa b) = xb at *
  generalize str (itoa c) = xc at *
  have n1 : ¬ 9223372036854775807 < 1 + xa.size := by omega
  have n2 : ¬ 9223372036854775807 < 1 + xa.size + 1 := by omega
  have n3 : ¬ 9223372036854775807 < 1 + xa.size + 1 + xb.size := by omega
  have n4 : ¬ 9223372036854775807 < 1 + xa.size + 1 + xb.size + 1 := by omega
  have n5 : ¬ 9223372036854775807 < 1 + xa.size + 1 + xb.size + 1 + xc.size := by omega
  go_enter Tryz.func46, Tryz.ntmps46
  go_wp2_with fail
  refine wp_region_quiet_below mixed (by kernel_rfl) ?_
  iterate 2 (quiet_step (fail))
  quiet_step (exact HDa.out _ _ _)
  iterate 4 (quiet_step (fail))
  quiet_step (exact HDb.out _ _ _)
  iterate 4 (quiet_step (fail))
  quiet_step (exact HDc.out _ _ _)
  iterate 2 (quiet_step (fail))
  refine wpQuiet_nil ?_
  intro _ hw'
  obtain ⟨⟨dq, osq⟩, hw''⟩ := hw'
  subst hw''
  have hB := ((Below.refl w.heap.size w).alloc (Nat.le_refl _) (.cells #[.int .i64 a, .int .i64 b, .int .i64 c, .string p] 92)).trans ((below_regrown (w.alloc (.cells #[.int .i64 a, .int .i64 b, .int .i64 c, .string p] 92)) dq osq).mono (by simp))
  by_cases h0 : p.size = 0
  · have he : p.toList.isEmpty = true := by rw [empty_eq]; simpa using h0
    have HT : Hid (tail p.data.toList = []) := by
      show tail p.data.toList = []
      unfold tail
      rw [if_pos (List.eq_nil_of_length_eq_zero (by rw [len_eq]; exact h0))]
    clear h0
    go_wp2_with fail
    go_ret
    exact ⟨ret_str (by rw [HX.out, HT.out]; refine ba_ext ?_; simp [ba_app, str_list]), hB⟩
  · have he : p.toList.isEmpty = false := by rw [empty_eq]; simpa using h0
    have HT : Hid (tail p.data.toList = 45 :: p.data.toList) := by
      show tail p.data.toList = _
      unfold tail
      rw [if_neg (fun e => h0 (by have := len_eq p; rw [e] at this; simpa using this.symm))]
    clear h0
    go_wp2_with fail
    go_ret
    exact ⟨ret_str (by rw [HX.out, HT.out]; refine ba_ext ?_; simp [ba_app, str_list]), hB⟩

end Go.Proofs.YtnmmhihfnphjeaaGreatDoor

namespace Go.Proofs.YtnmmhihfnphjeaaGreatDoor
set_option linter.unusedSimpArgs false
set_option linter.unusedVariables false
open Go.RowKit Go.Vr Go.Sort Go.Tx Go.Pa Go.Lib
attribute [local go_sem] setCellDrewN allocDrewN

/-- What number answers. -/
def nret (o : Option Int) : Value := .tuple #[.int .i64 (o.getD 0), .bool o.isSome]
theorem ret_none {o : Option Int} (h : o = none) : Ending.returned (.tuple #[.int .i64 0, .bool false]) = .returned (nret o) := by rw [h]; rfl
theorem ret_some {o : Option Int} {n : Int} (h : o = some n) : Ending.returned (.tuple #[.int .i64 n, .bool true]) = .returned (nret o) := by rw [h]; rfl

/-- What lineOf answers. -/
abbrev lval (x : ByteArray) (n : Int) : Value := .agg #[.string x, .int .i64 n]
def lof (s : Bs) : Value := lval (str (maj s).1) (maj s).2
theorem ret_lof {s : ByteArray} {x : ByteArray} {n : Int} (h : maj s.data.toList = (x.data.toList, n)) : Ending.returned (lval x n) = .returned (lof s.data.toList) := by
  unfold lof; rw [h]; simp only [str_of]
/-- A line's variable. -/
structure LineAt (w : World) (N : Nat) (x : ByteArray) (n : Int) : Prop where
  lt : N < w.heap.size
  c0 : w.cell? ⟨N, 0, none⟩ = some (.string x)
  c1 : w.cell? ⟨N, 1, none⟩ = some (.int .i64 n)
  f0 : w.frozen? ⟨N, 0, none⟩ = false
  f1 : w.frozen? ⟨N, 1, none⟩ = false
theorem bal {a w : World} (h : Below a.heap.size a w) (o : Obj) : Below a.heap.size a (w.alloc o) := h.alloc h.size o
theorem LineAt.later {w w' : World} {N : Nat} {x : ByteArray} {n : Int} (h : LineAt w N x n) (b : Below w.heap.size w w') : LineAt w' N x n :=
  ⟨Nat.lt_of_lt_of_le h.lt b.size, cellLater b h.c0, cellLater b h.c1, (b.frozen (p := ⟨N, 0, none⟩) h.lt).trans h.f0, (b.frozen (p := ⟨N, 1, none⟩) h.lt).trans h.f1⟩

end Go.Proofs.YtnmmhihfnphjeaaGreatDoor

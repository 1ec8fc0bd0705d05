/-
  Contract of the law's known.
  Contracts of the law's within, of the reference's Rows at the same rows.
  What a law of texts of braces is told of its slices of integers.
  A row of bytes that a law makes and fills; blanks.
-/
import Derived.Test.YtnmmhihfnphjeaaDoorG23
import Derived.OpenShut
import Derived.Laws.IdiomStrings
import Derived.Laws.MakeOwn

namespace Go.Proofs.YtnmmhihfnphjeaaDoor.B
set_option linter.unusedSimpArgs false
set_option linter.unusedVariables false
open Go.RowKit Go.Vr Go.Sort Go.Tx Go.Lib
open Go.Br hiding Bs
open Go.Proofs.YtnmmhihfnphjeaaDoor.W (plc)
attribute [local go_sem] setCellDrewN allocDrewN

def tKnown : Bs := [123, 34, 108, 111, 99, 107, 115, 34, 58, 91, 123, 34, 112, 97, 116, 104, 34, 58, 34, 97, 34, 44, 34, 118, 101, 114, 115, 105, 111, 110, 34, 58, 34, 118, 49, 46, 48, 46, 48, 34, 125, 93, 125]
theorem known1 : parseM [91, 93] = .inl (Sum.inr (Sum.inl [])) := by kernel_rfl
theorem known2 : locksM tKnown = .inl [⟨[97], [118, 49, 46, 48, 46, 48], [], [], []⟩] := by kernel_rfl
theorem known3 : parseM [91, 49, 10, 44, 120, 93] = .inr (1, 4) := by kernel_rfl
theorem known4 : textV 8 (Sum.inr (Sum.inl [])) = [91, 93] := by kernel_rfl
theorem known5 : writeM [] = [123, 34, 108, 111, 99, 107, 115, 34, 58, 91, 93, 125, 10] := by kernel_rfl
theorem known6 : plc ([91, 49, 10, 44, 120, 93].take 4) = .agg #[.int .i64 2, .int .i64 2] := by kernel_rfl

set_option maxHeartbeats 8000000 in
set_option maxRecDepth 100000 in
theorem known_any (w : World) (he : Env w) :
    Calls Tryd.prog 7 #[] w fun e w' => e = .returned (.bool true) ∧ Below w.heap.size w w' := by
  have HE := hide he
  clear he
  have C1 := hide (parse_any ⟨#[91, 93]⟩ w (by decide))
  rw [show (ByteArray.mk #[91, 93]).data.toList = [91, 93] from rfl, known1] at C1
  have C2 := hide (fun W hW => locks_any (str tKnown) W (by rw [str_size]; decide) hW)
  simp only [str_list, known2] at C2
  have C3 := hide (fun W => parse_any ⟨#[91, 49, 10, 44, 120, 93]⟩ W (by decide))
  simp only [show (ByteArray.mk #[91, 49, 10, 44, 120, 93]).data.toList = [91, 49, 10, 44, 120, 93] from rfl, known3] at C3
  have C5 := hide (fun W hW => write_any none 0 0 [] W (ERow.none W) (by omega) hW (by simp) (by rw [known5]; decide))
  simp only [known5] at C5
  have C5 : Hid (∀ W, Env W → Calls Tryd.prog 11 #[.slice none 0 0] W fun e w' => e = .returned (.string ⟨#[123, 34, 108, 111, 99, 107, 115, 34, 58, 91, 93, 125, 10]⟩) ∧ Below W.heap.size W w') := C5
  have e1 : str tKnown = ⟨#[123, 34, 108, 111, 99, 107, 115, 34, 58, 91, 123, 34, 112, 97, 116, 104, 34, 58, 34, 97, 34, 44, 34, 118, 101, 114, 115, 105, 111, 110, 34, 58, 34, 118, 49, 46, 48, 46, 48, 34, 125, 93, 125]⟩ := rfl
  rw [e1] at C2
  clear e1
  go_enter Tryd.func7, Tryd.ntmps7
  go_wp2_with fail
  refine C1.out.mono ?_
  rintro e w1 ⟨b1, ⟨vk, vn, vs, ka, kn, kc, la, n, lc⟩, rfl, hv⟩
  have HV := hide hv
  obtain ⟨⟨h4, h0, hs, h5, h6, h7⟩, us, hr, ha⟩ := hv
  obtain rfl : us = [] := List.eq_nil_of_length_eq_zero ha.len.symm
  obtain rfl : 0 = n := hr.row.n
  obtain rfl : vk = 4 := h4
  have hx1 := (Box.new w1 #[.int .i64 4, .int .i64 vn, .string vs, .slice ka kn kc, .slice la 0 lc] 39).alloc (.cells #[.int .i64 0, .int .i64 0] 29)
  have HX1 := hide hx1
  have HB2 := hide (b1.trans (show Below w.heap.size w1 ((w1.alloc (.cells #[.int .i64 4, .int .i64 vn, .string vs, .slice ka kn kc, .slice la 0 lc] 39)).alloc (.cells #[.int .i64 0, .int .i64 0] 29)) from ((Below.refl _ _).alloc b1.size _).alloc (by simp; have := b1.size; omega) _))
  have HV2 := hide (HV.out.below (show Below w1.heap.size w1 ((w1.alloc (.cells #[.int .i64 4, .int .i64 vn, .string vs, .slice ka kn kc, .slice la 0 lc] 39)).alloc (.cells #[.int .i64 0, .int .i64 0] 29)) from (by repeat (first | with_reducible assumption | with_reducible exact Below.refl _ _ | with_reducible refine Below.setCell ?_ (by first | exact Nat.le_refl _ | (simp; done) | (simp; omega)) _ | with_reducible refine bal ?_ _ | with_reducible refine Below.alloc ?_ (by first | exact Nat.le_refl _ | (simp; done) | (simp; omega)) _ | with_reducible refine Below.drew ?_))))
  clear h0 hs h5 h6 h7 hr ha hx1 b1 C1 HV
  go_wp2_with fail
  refine (C2.out _ (HE.out.later HB2.out)).mono ?_
  rintro e w3 ⟨b3, v', rfl, ho⟩
  obtain ⟨g, cap, rfl, hrow⟩ : ∃ g cap, v' = .slice (some ⟨g, 0, none⟩) 1 cap ∧ ERow ELk w3 (some ⟨g, 0, none⟩) 1 [⟨[97], [118, 49, 46, 48, 46, 48], [], [], []⟩] := by
    rcases ho.form with ⟨_, h⟩ | ⟨g, cap, e, _, _, _, _, h⟩
    · simp at h
    · exact ⟨g, cap, e, h⟩
  have hb4 : Below w3.heap.size w3 (w3.alloc (.cells #[.int .i64 0, .int .i64 0] 29)) := (by repeat (first | with_reducible assumption | with_reducible exact Below.refl _ _ | with_reducible refine Below.setCell ?_ (by first | exact Nat.le_refl _ | (simp; done) | (simp; omega)) _ | with_reducible refine bal ?_ _ | with_reducible refine Below.alloc ?_ (by first | exact Nat.le_refl _ | (simp; done) | (simp; omega)) _ | with_reducible refine Below.drew ?_))
  have HX4 := hide ((HX1.out.later b3).later hb4)
  have HV4 := hide ((HV2.out.below b3).below hb4)
  have HR4 := hide (hrow.later hb4)
  have HB4 := hide (HB2.out.trans ((b3.mono HB2.out.size).trans (hb4.mono (Nat.le_trans HB2.out.size b3.size))))
  clear b3 hb4 ho hrow C2 HX1 HV2
  go_wp2_with fail
  refine (C3.out _).mono ?_
  rintro e w5 ⟨b5, _, h5⟩
  obtain rfl : e = .returned (.tuple #[SV.zero.val, .agg #[.int .i64 2, .int .i64 2], .int .i64 1]) := by rw [← known6]; exact h5
  clear h5
  have hb6 : Below w5.heap.size w5 ((w5.alloc (.cells SV.zero.cells 39)).alloc (.cells #[.int .i64 2, .int .i64 2] 29)) := (by repeat (first | with_reducible assumption | with_reducible exact Below.refl _ _ | with_reducible refine Below.setCell ?_ (by first | exact Nat.le_refl _ | (simp; done) | (simp; omega)) _ | with_reducible refine bal ?_ _ | with_reducible refine Below.alloc ?_ (by first | exact Nat.le_refl _ | (simp; done) | (simp; omega)) _ | with_reducible refine Below.drew ?_))
  have HX6 := hide ((HX4.out.later b5).later hb6)
  have HV6 := hide ((HV4.out.below b5).below hb6)
  have hr6 := (HR4.out.later b5).later hb6
  have HB6 := hide (HB4.out.trans ((b5.mono HB4.out.size).trans (hb6.mono (Nat.le_trans HB4.out.size b5.size))))
  have x6 := HX6.out.c
  obtain ⟨d0, d1, d2, d3, d4⟩ := ELk_at hr6 0 _ rfl
  simp only [Nat.zero_mul, Nat.zero_add, Nat.add_zero] at d0 d1 d2 d3 d4
  have s1 : (str [97]).toList = [97] := by rw [toList_data]; rfl
  have s2 : (str [118, 49, 46, 48, 46, 48]).toList = [118, 49, 46, 48, 46, 48] := by rw [toList_data]; rfl
  have C4 := hide (text_any 8 (Sum.inr (Sum.inl [])) ⟨4, vn, vs, ka, kn, kc, la, 0, lc⟩ _ _ (HE.out.later HB6.out) HV6.out (fun x hx => absurd hx (by simp)) (by rw [known4]; decide))
  rw [known4] at C4
  have C4 : Hid (Calls Tryd.prog 15 #[.agg #[.int .i64 4, .int .i64 vn, .string vs, .slice ka kn kc, .slice la 0 lc]] ((w5.alloc (.cells SV.zero.cells 39)).alloc (.cells #[.int .i64 2, .int .i64 2] 29)) fun e w' => e = .returned (.string ⟨#[91, 93]⟩) ∧ Below ((w5.alloc (.cells SV.zero.cells 39)).alloc (.cells #[.int .i64 2, .int .i64 2] 29)).heap.size ((w5.alloc (.cells SV.zero.cells 39)).alloc (.cells #[.int .i64 2, .int .i64 2] 29)) w') := C4
  clear b5 hb6 C3 HX4 HV4 HR4 hr6
  have p6 := (Box.new (w5.alloc (.cells SV.zero.cells 39)) #[.int .i64 2, .int .i64 2] 29).c
  rw [show (w5.alloc (.cells SV.zero.cells 39)).heap.size = w5.heap.size + 1 by simp] at p6
  go_wp2_with fail
  refine C4.out.mono ?_
  rintro e w7 ⟨rfl, b7⟩
  have HB7 := hide (HB6.out.trans (b7.mono HB6.out.size))
  clear b7 C4 x6 p6 d0 d1 d2 d3 d4
  go_wp2_with fail
  refine (C5.out _ (HE.out.later HB7.out)).mono ?_
  rintro e w8 ⟨rfl, b8⟩
  have HB8 := hide (HB7.out.trans (b8.mono HB7.out.size))
  clear b8 C5
  go_wp2_with fail
  go_ret
  exact ⟨rfl, HB8.out⟩

end Go.Proofs.YtnmmhihfnphjeaaDoor.B

namespace Go.Proofs.YtnmmhihfnphjeaaDoor.B
set_option linter.unusedSimpArgs false
set_option linter.unusedVariables false
open Go.RowKit Go.Vr Go.Sort Go.Tx Go.Lib
open Go.Br hiding Bs
attribute [local go_sem] setCellDrewN allocDrewN

theorem within5_any (a n : Int) (w : World) (h1 : 1 ≤ n) (h2 : n ≤ 4611686018427387904) (h3 : -9223372036854775808 ≤ a) (h4 : a ≤ 9223372036854775807) :
    Calls Tryd.prog 8 #[.int .i64 a, .int .i64 n] w fun e w' => e = .returned (.int .i64 (a % n)) ∧ w' = w := by
  obtain ⟨hb1, hb2⟩ := Tx.tmod_bd a n h1
  go_enter Tryd.func8, Tryd.ntmps8
  go_wp2
  · go_ret
    exact ⟨ret_int (Tx.tmod_dn a n h1 (by assumption)), rfl⟩
  · go_ret
    exact ⟨ret_int (Tx.tmod_up a n h1 (by assumption)), rfl⟩
theorem within5_nat (a n : Int) (w : World) (h1 : 1 ≤ n) (h2 : n ≤ 4611686018427387904) (h3 : -9223372036854775808 ≤ a) (h4 : a ≤ 9223372036854775807) :
    Calls Tryd.prog 8 #[.int .i64 a, .int .i64 n] w fun e w' => ∃ k : Nat, e = .returned (.int .i64 k) ∧ (k : Int) < n ∧ Hid ((k : Int) = a % n) ∧ w' = w := by
  refine (within5_any a n w h1 h2 h3 h4).mono ?_
  rintro e w' ⟨rfl, rfl⟩
  have b1 := Int.emod_nonneg a (b := n) (by omega)
  have b2 := Int.emod_lt_of_pos a (b := n) (by omega)
  exact ⟨(a % n).toNat, by rw [Int.toNat_of_nonneg b1], by omega, Int.toNat_of_nonneg b1, rfl⟩

set_option maxHeartbeats 4000000 in
set_option maxRecDepth 100000 in
theorem rows_same (a a' : Option Addr) (n c c' : Nat) (ls : List Lk) (w : World) (hr : ERow ELk w a n ls) (hr' : ERow ELk w a' n ls) (hn : n ≤ 1000000) :
    Calls Tryd.prog 12 #[.slice a n c, .slice a' n c'] w fun e w' => e = .returned (.bool true) ∧ Below w.heap.size w w' := by
  have HR := hide hr
  have HR' := hide hr'
  have hln := hide hr.n
  have Hn := hide hn
  clear hr hr' hn
  go_enter Tryd.func12, Tryd.ntmps12
  go_wp2_with fail
  go_loopw [5] (fun i wr => ∃ k : Nat, k ≤ n ∧ i = .int .i64 k ∧ Below w.heap.size w wr) (fun i _ => n - (RowKit.intOf i).toNat)
  case atStart => exact ⟨0, Nat.zero_le _, rfl, Below.refl _ _⟩
  case round =>
    obtain ⟨k, hk, rfl, hB⟩ := hrel
    have HB := hide hB
    clear hB
    by_cases hlt : k < n
    · obtain ⟨g, off, rfl⟩ := HR.out.spot (by omega)
      obtain ⟨g2, off2, rfl⟩ := HR'.out.spot (by omega)
      have hkl : k < ls.length := by have := hln.out; omega
      have hx : ls[k]? = some ls[k] := List.getElem?_eq_getElem hkl
      obtain ⟨d0, d1, d2, d3, d4⟩ := ELk_at (HR.out.later HB.out) k ls[k] hx
      obtain ⟨e0, e1, e2, e3, e4⟩ := ELk_at (HR'.out.later HB.out) k ls[k] hx
      generalize ls[k] = x at *
      have i1 : (0 : Int) ≤ (k : Int) := by omega
      have i2 : (k : Int) < (n : Int) := by omega
      have HKW : Hid (wrap64 ((k : Int) + 1) = ((k + 1 : Nat) : Int)) := by show _ = _; have := Hn.out; unfold wrap64; omega
      have hlt' := hide hlt
      have hsz := HB.out.size
      clear hx hkl hlt hk
      go_wp2_with fail
      go_region_law (fail)
      all_goals
        go_wp2_with fail
        go_roundw
        case rel => exact ⟨k + 1, by have := hlt'.out; omega, (by first | exact congrArg (Value.int .i64) HKW.out | rfl), by first | exact HB.out | exact HB.out.trans (by repeat (first | with_reducible assumption | with_reducible exact Below.refl _ _ | with_reducible refine Below.setCell ?_ (by first | exact Nat.le_refl _ | (simp; done) | (simp; omega)) _ | with_reducible refine bal ?_ _ | with_reducible refine Below.alloc ?_ (by first | exact Nat.le_refl _ | (simp; done) | (simp; omega)) _ | with_reducible refine Below.drew ?_)) | (have := HB.out; exact (by repeat (first | with_reducible assumption | with_reducible exact Below.refl _ _ | with_reducible refine Below.setCell ?_ (by first | exact Nat.le_refl _ | (simp; done) | (simp; omega)) _ | with_reducible refine bal ?_ _ | with_reducible refine Below.alloc ?_ (by first | exact Nat.le_refl _ | (simp; done) | (simp; omega)) _ | with_reducible refine Below.drew ?_)))⟩
        case measure => exact measB (by first | exact HKW.out | rfl) hlt'.out
    · obtain rfl : k = n := by omega
      have i2 : ¬ ((k : Int) < (k : Int)) := by omega
      go_wp2_with fail
      go_ret
      exact ⟨rfl, HB.out⟩

end Go.Proofs.YtnmmhihfnphjeaaDoor.B

namespace Go.Proofs.YtnmmhihfnphjeaaDoor
set_option linter.unusedSimpArgs false
set_option linter.unusedVariables false
open Go.RowKit Go.Tx Go.Vr Go.Sort

/-- A slice of integers that is there: its elements 'xs'. -/
structure Row (k : IntKind) (w : World) (a : Option Addr) (len cap : Nat) (xs : List Int) : Prop where
  n : xs.length = len
  nil : a = none → len = 0 ∧ cap = 0
  le : len ≤ cap
  mx : cap ≤ maxLen
  cell : ∀ x, a = some x → ∀ i, i < len → w.cell? (x.add i) = some (.int k (xs.getD i 0))
  wf : ∀ z ∈ xs, (Lit.int k z).wf = true

/-- A slice of integers that came in: nil, or a row of 'cap' cells. -/
def IsRow (k : IntKind) (w : World) (a : Option Addr) (len cap : Nat) (zs : List Int) : Prop :=
  (a = none ∧ len = 0 ∧ cap = 0 ∧ zs = []) ∨
  ∃ x, a = some x ∧ len ≤ cap ∧ cap ≤ maxLen ∧ zs.length = cap ∧ (∀ i, i < zs.length → w.cell? (x.add i) = some (.int k (zs.getD i 0))) ∧ ∀ n ∈ zs, (Lit.int k n).wf = true

theorem IsRow.row {k : IntKind} {w : World} {a : Option Addr} {len cap : Nat} {zs : List Int} (h : IsRow k w a len cap zs) : Row k w a len cap (zs.take len) := by
  rcases h with ⟨rfl, rfl, rfl, rfl⟩ | ⟨x, rfl, hl, hm, hz, hc, hw⟩
  · exact ⟨rfl, fun _ => ⟨rfl, rfl⟩, Nat.le_refl _, Nat.zero_le _, (fun x e => nomatch e), fun z hz => by simp at hz⟩
  · refine ⟨by simp; omega, (fun e => nomatch e), hl, hm, fun y e i hi => ?_, fun z hz2 => hw z (List.mem_of_mem_take hz2)⟩
    obtain rfl : x = y := by simpa using e
    rw [hc i (by omega)]
    simp [List.getD, hi]

theorem Row.later {k : IntKind} {w w' : World} {a : Option Addr} {len cap : Nat} {xs : List Int} (h : Row k w a len cap xs) (hb : Below w.heap.size w w') : Row k w' a len cap xs :=
  ⟨h.n, h.nil, h.le, h.mx, fun x e i hi => cellLater hb (h.cell x e i hi), h.wf⟩

theorem bd64 {n : Int} (h : (Lit.int .i64 n).wf = true) : -9223372036854775808 ≤ n ∧ n ≤ 9223372036854775807 := bounds_i64 h
theorem bd8 {n : Int} (h : (Lit.int .u8 n).wf = true) : 0 ≤ n ∧ n ≤ 255 := bounds_u8 h

theorem row_at {k : IntKind} {w : World} {a : Option Addr} {len cap : Nat} {xs : List Int} (h : Row k w a len cap xs) (h0 : 0 < len) : ∃ b off, a = some ⟨b, off, none⟩ ∧ ∀ i, i < len → w.cell? ⟨b, off + i, none⟩ = some (.int k (xs.getD i 0)) := by
  cases a with
  | none => have := (h.nil rfl).1; omega
  | some x =>
    obtain ⟨b, off, spot⟩ := x
    have hc := h.cell _ rfl 0 h0
    have hspot : spot = none := by simpa [Addr.add] using World.cell?_spot hc
    subst hspot
    exact ⟨b, off, rfl, fun i hi => by have := h.cell _ rfl i hi; rw [addr_add] at this; exact this⟩

theorem row_bd {w : World} {a : Option Addr} {len cap : Nat} {xs : List Int} (h : Row .i64 w a len cap xs) (i : Nat) (hi : i < len) : -9223372036854775808 ≤ xs.getD i 0 ∧ xs.getD i 0 ≤ 9223372036854775807 := by
  have hl : i < xs.length := by rw [h.n]; exact hi
  have : xs.getD i 0 = xs[i] := by simp [List.getD, List.getElem?_eq_getElem hl]
  rw [this]
  exact bd64 (h.wf _ (List.getElem_mem hl))

end Go.Proofs.YtnmmhihfnphjeaaDoor

namespace Go.Proofs.YtnmmhihfnphjeaaDoor
set_option linter.unusedSimpArgs false
set_option linter.unusedVariables false
open Go.RowKit Go.Tx Go.Vr Go.Sort Go.Lib

/-- string(b) of a slice of bytes that came in. -/
theorem Row.conv {w : World} {a : Option Addr} {len cap : Nat} {xs : List Int} (h : Row .u8 w a len cap xs) : (convert 47 9 (.slice a len cap)).run Tryd.prog w = .ok (.string (strOfNums xs)) w := by
  cases a with
  | none =>
    obtain ⟨rfl, rfl⟩ := h.nil rfl
    obtain rfl : xs = [] := List.eq_nil_of_length_eq_zero h.n
    exact run_convert_bytes_nil w 47 5 Tryd.underlying47 Tryd.underlying5 0 0 9 Tryd.underlying9
  | some x =>
    by_cases h0 : len = 0
    · subst h0
      obtain rfl : xs = [] := List.eq_nil_of_length_eq_zero h.n
      rw [run_convert_bytes_string w 47 9 5 (some x) 0 cap Tryd.underlying47 Tryd.underlying5 Tryd.underlying9, run_bytesToString w x 0 cap [] (run_loadCells_list (P := Tryd.prog) w x [] (fun j v hj => by simp at hj))]
      rfl
    · obtain ⟨b, off, spot⟩ := x
      have hc := h.cell _ rfl 0 (by omega)
      have hspot : spot = none := by simpa [Addr.add] using World.cell?_spot hc
      subst hspot
      exact run_convert_bytes_arg w 47 5 Tryd.underlying47 Tryd.underlying5 b off len cap xs h.n (fun i hi => by have := h.cell _ rfl i hi; rw [addr_add] at this; exact this) 9 Tryd.underlying9

theorem Row.put {w : World} {N len cap : Nat} {xs : List Int} (h : Row .u8 w (some ⟨N, 0, none⟩) len cap xs) (j : Nat) (hj : j < len) (n : Int) (hn : (Lit.int .u8 n).wf = true) : Row .u8 (w.setCell ⟨N, j, none⟩ (.int .u8 n)) (some ⟨N, 0, none⟩) len cap (xs.set j n) := by
  refine ⟨by rw [List.length_set]; exact h.n, (fun e => nomatch e), h.le, h.mx, fun x e i hi => ?_, fun z hz => ?_⟩
  · obtain rfl : ⟨N, 0, none⟩ = x := by simpa using e
    have hc := h.cell _ rfl i hi
    have hcj := h.cell _ rfl j hj
    rw [addr_add, Nat.zero_add] at hc hcj ⊢
    have hix : i < xs.length := by rw [h.n]; exact hi
    by_cases e : j = i
    · subst e
      rw [World.cell?_setCell_same w ⟨N, j, none⟩ _ hcj]
      simp [List.getD, hix]
    · have ho := World.cell?_setCell_other (w := w) (a := ⟨N, j, none⟩) (b := ⟨N, i, none⟩) (v := .int .u8 n) (by simp)
      rw [ho, hc]
      simp [List.getD, e]
  · rcases List.mem_or_eq_of_mem_set hz with h1 | h1
    · exact h.wf z h1
    · rw [h1]; exact hn

/-- A row filled up to k. -/
def fillR (n k : Nat) (c : Int) : List Int := List.replicate k c ++ List.replicate (n - k) 0
theorem fillR_next (n k : Nat) (c : Int) (h : k < n) : (fillR n k c).set k c = fillR n (k + 1) c := by
  unfold fillR
  have e : n - k = (n - (k + 1)) + 1 := by omega
  rw [e, List.replicate_succ, List.set_append, if_neg (by simp), List.length_replicate, Nat.sub_self, List.set_cons_zero, List.replicate_succ' (n := k), List.append_assoc]
  rfl
theorem fillR_all (n : Nat) (c : Int) : fillR n n c = List.replicate n c := by unfold fillR; simp
theorem fill_str (n : Nat) (c : UInt8) : strOfNums (List.replicate n (c.toNat : Int)) = str (List.replicate n c) := by
  unfold strOfNums str
  simp

theorem made_cell (n i : Nat) (h : i < n) : (madeCells #[.int .u8 0] n)[i]? = some (.int .u8 0) := by
  unfold madeCells
  simp [h, Nat.mod_one]
theorem row_made (w : World) (n : Nat) (h : n ≤ 100000) : Row .u8 (w.alloc (.cells (madeCells #[.int .u8 0] n) 5)) (some ⟨w.heap.size, 0, none⟩) n n (fillR n 0 0) := by
  refine ⟨by simp [fillR], (fun e => nomatch e), Nat.le_refl _, by unfold maxLen; omega, fun x e i hi => ?_, fun z hz => ?_⟩
  · obtain rfl : ⟨w.heap.size, 0, none⟩ = x := by simpa using e
    rw [addr_add, Nat.zero_add]
    have h1 := (B.Box.new w (madeCells #[.int .u8 0] n) 5).c i
    rw [h1, made_cell n i hi]
    simp [fillR, hi]
  · simp [fillR] at hz
    rw [hz.2]; decide

theorem made (n : Nat) (w : World) (hn : n ≤ 100000) : (Instr.makeSlice 47 (.int .i64 n) (.int .i64 n)).run Tryd.prog w = .ok (.slice (some ⟨w.heap.size, 0, none⟩) n n) (w.alloc (.cells (madeCells #[.int .u8 0] n) 5)) := by
  have hs : (Tryd.t5).size = 1 := by kernel_rfl
  have hb : (Tryd.t5).bytes = 1 := by kernel_rfl
  have h := run_make (P := Tryd.prog) w 47 5 Tryd.t5 (.int .u8 0) Tryd.underlying47 (by kernel_rfl) (by kernel_rfl) .i64 .i64 n n (by omega) (Int.le_refl _) (by rw [hb]; omega) (by omega)
  rw [hs, Nat.mul_one, Int.toNat_natCast] at h
  exact h

set_option maxHeartbeats 4000000 in
set_option maxRecDepth 100000 in
theorem blanks_any (n : Nat) (w : World) (hn : n ≤ 100000) :
    Calls Tryd.prog 16 #[.int .i64 n] w fun e w' => e = .returned (.string (str (List.replicate n 32))) ∧ Below w.heap.size w w' := by
  have hmk := made n w hn
  go_enter Tryd.func16, Tryd.ntmps16
  go_wp2_with fail
  have HB0 := hide (show Below w.heap.size w (w.alloc (.cells (madeCells #[.int .u8 0] n) 5)) from (by repeat (first | with_reducible assumption | with_reducible exact Below.refl _ _ | with_reducible refine Below.setCell ?_ (by first | exact Nat.le_refl _ | (simp; done) | (simp; omega)) _ | with_reducible refine bal ?_ _ | with_reducible refine Below.alloc ?_ (by first | exact Nat.le_refl _ | (simp; done) | (simp; omega)) _ | with_reducible refine Below.drew ?_)))
  have HR0 := hide (row_made w n hn)
  have HF0 := hide (fun j => (B.Box.new w (madeCells #[.int .u8 0] n) 5).f j)
  have Hn := hide hn
  clear hmk hn
  generalize w.alloc (.cells (madeCells #[.int .u8 0] n) 5) = W0 at *
  go_loopw [4] (fun i wr => ∃ k : Nat, k ≤ n ∧ i = .int .i64 k ∧ Hid (Row .u8 wr (some ⟨w.heap.size, 0, none⟩) n n (fillR n k 32)) ∧ Hid (∀ j, wr.frozen? ⟨w.heap.size, j, none⟩ = false) ∧ Hid (Below w.heap.size w wr)) (fun i _ => n - (RowKit.intOf i).toNat)
  case atStart => exact ⟨0, Nat.zero_le _, rfl, HR0, HF0, HB0⟩
  case round =>
    obtain ⟨k, hkn, rfl, HR, HF, HB⟩ := hrel
    clear HR0 HF0 HB0
    by_cases hlt : k < n
    · have hc := HR.out.cell _ rfl k hlt
      rw [addr_add, Nat.zero_add] at hc
      have hf := HF.out k
      have i1 : (k : Int) < (n : Int) := by omega
      have i0 : (0 : Int) ≤ (k : Int) := by omega
      have HKW : Hid (wrap64 ((k : Int) + 1) = ((k + 1 : Nat) : Int)) := by show _ = _; have := Hn.out; unfold wrap64; omega
      have hp := HR.out.put k hlt 32 (by decide)
      rw [fillR_next n k 32 hlt] at hp
      have HP := hide hp
      have HFP : Hid (∀ j, (wr.setCell ⟨w.heap.size, k, none⟩ (.int .u8 32)).frozen? ⟨w.heap.size, j, none⟩ = false) := fun j => by rw [World.frozen?_setCell]; exact HF.out j
      have HBP := hide (HB.out.setCell (show w.heap.size ≤ (⟨w.heap.size, k, none⟩ : Addr).block from Nat.le_refl _) (.int .u8 32))
      have hlt' := hide hlt
      clear hp hlt hkn
      go_wp2_with fail
      go_roundw
      case rel => exact ⟨k + 1, by have := hlt'.out; omega, (by first | exact congrArg (Value.int .i64) HKW.out | rfl), HP, HFP, HBP⟩
      case measure => exact B.measB (by first | exact HKW.out | rfl) hlt'.out
    · obtain rfl : k = n := by omega
      have hcv := HR.out.conv
      rw [fillR_all, show (32 : Int) = ((32 : UInt8).toNat : Int) from rfl, fill_str] at hcv
      have i2 : ¬ ((k : Int) < (k : Int)) := by omega
      go_wp2_with fail
      go_ret
      exact ⟨rfl, HB.out⟩

end Go.Proofs.YtnmmhihfnphjeaaDoor

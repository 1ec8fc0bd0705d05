/-
  What a law of paths is told of its slices of integers; []byte(s), string(b); rows of texts of one's own.
-/
import Derived.Test.YtcoakjgeadkfoaaDoorH10
import Derived.Laws.IdiomStrings
import Derived.OpenShut
namespace Go.Proofs.YtcoakjgeadkfoaaDoor
set_option linter.unusedSimpArgs false
set_option linter.unusedVariables false
open Go.RowKit Go.Tx Go.Vr Go.Sort

/-- A slice of integers that is there: its elements 'xs'. -/
structure Row (k : IntKind) (w : World) (a : Option Addr) (len cap : Nat) (xs : List Int) : Prop where
  n : xs.length = len
  nil : a = none → len = 0 ∧ cap = 0
  le : len ≤ cap
  mx : cap ≤ maxLen
  cell : ∀ x, a = some x → ∀ i, i < len → w.cell? (x.add i) = some (.int k (xs.getD i 0))
  wf : ∀ z ∈ xs, (Lit.int k z).wf = true

/-- A slice of integers that came in: nil, or a row of 'cap' cells. -/
def IsRow (k : IntKind) (w : World) (a : Option Addr) (len cap : Nat) (zs : List Int) : Prop :=
  (a = none ∧ len = 0 ∧ cap = 0 ∧ zs = []) ∨
  ∃ x, a = some x ∧ len ≤ cap ∧ cap ≤ maxLen ∧ zs.length = cap ∧ (∀ i, i < zs.length → w.cell? (x.add i) = some (.int k (zs.getD i 0))) ∧ ∀ n ∈ zs, (Lit.int k n).wf = true

theorem IsRow.row {k : IntKind} {w : World} {a : Option Addr} {len cap : Nat} {zs : List Int} (h : IsRow k w a len cap zs) : Row k w a len cap (zs.take len) := by
  rcases h with ⟨rfl, rfl, rfl, rfl⟩ | ⟨x, rfl, hl, hm, hz, hc, hw⟩
  · exact ⟨rfl, fun _ => ⟨rfl, rfl⟩, Nat.le_refl _, Nat.zero_le _, (fun x e => nomatch e), fun z hz => by simp at hz⟩
  · refine ⟨by simp; omega, (fun e => nomatch e), hl, hm, fun y e i hi => ?_, fun z hz2 => hw z (List.mem_of_mem_take hz2)⟩
    obtain rfl : x = y := by simpa using e
    rw [hc i (by omega)]
    simp [List.getD, hi]

theorem Row.later {k : IntKind} {w w' : World} {a : Option Addr} {len cap : Nat} {xs : List Int} (h : Row k w a len cap xs) (hb : Below w.heap.size w w') : Row k w' a len cap xs :=
  ⟨h.n, h.nil, h.le, h.mx, fun x e i hi => cellLater hb (h.cell x e i hi), h.wf⟩

/-- string(b) of a slice of bytes that came in. -/
theorem Row.conv {w : World} {a : Option Addr} {len cap : Nat} {xs : List Int} (h : Row .u8 w a len cap xs) : (convert 62 9 (.slice a len cap)).run Tryd.prog w = .ok (.string (strOfNums xs)) w := by
  cases a with
  | none =>
    obtain ⟨rfl, rfl⟩ := h.nil rfl
    obtain rfl : xs = [] := List.eq_nil_of_length_eq_zero h.n
    exact run_convert_bytes_nil w 62 5 Tryd.underlying62 Tryd.underlying5 0 0 9 Tryd.underlying9
  | some x =>
    by_cases h0 : len = 0
    · subst h0
      obtain rfl : xs = [] := List.eq_nil_of_length_eq_zero h.n
      rw [run_convert_bytes_string w 62 9 5 (some x) 0 cap Tryd.underlying62 Tryd.underlying5 Tryd.underlying9, run_bytesToString w x 0 cap [] (run_loadCells_list (P := Tryd.prog) w x [] (fun j v hj => by simp at hj))]
      rfl
    · obtain ⟨b, off, spot⟩ := x
      have hc := h.cell _ rfl 0 (by omega)
      have hspot : spot = none := by simpa [Addr.add] using World.cell?_spot hc
      subst hspot
      exact run_convert_bytes_arg w 62 5 Tryd.underlying62 Tryd.underlying5 b off len cap xs h.n (fun i hi => by have := h.cell _ rfl i hi; rw [addr_add] at this; exact this) 9 Tryd.underlying9

theorem bd64 {n : Int} (h : (Lit.int .i64 n).wf = true) : -9223372036854775808 ≤ n ∧ n ≤ 9223372036854775807 := bounds_i64 h
theorem bd8 {n : Int} (h : (Lit.int .u8 n).wf = true) : 0 ≤ n ∧ n ≤ 255 := bounds_u8 h

/-- []byte(s): a row of its own. -/
theorem conv_bytes (s : ByteArray) (w : World) (hs : s.size ≤ 1000) : ∃ (cap : Nat) (w' : World) (xs : List Int), (convert 9 62 (.string s)).run Tryd.prog w = .ok (.slice (some ⟨w.heap.size, 0, none⟩) s.size cap) w' ∧ Row .u8 w' (some ⟨w.heap.size, 0, none⟩) s.size cap xs ∧ (∀ j, j < s.size → w'.frozen? ⟨w.heap.size, j, none⟩ = false) ∧ Below w.heap.size w w' ∧ w.heap.size < w'.heap.size := by
  refine ⟨_, _, s.data.toList.map (fun c => (c.toNat : Int)), run_bytes_of_string w 9 62 5 s Tryd.underlying9 Tryd.underlying62 Tryd.underlying5, ?_, ?_, ?_, ?_⟩
  · refine ⟨by simp, (fun e => nomatch e), grownCap_ge _ _ _ _, grownCap_le_maxLen _ _ _ _ (by unfold maxLen; omega), fun x e i hi => ?_, fun z hz => ?_⟩
    · obtain rfl : ⟨w.heap.size, 0, none⟩ = x := by simpa using e
      rw [addr_add, Nat.zero_add]
      have h1 := World.cell?_alloc_mark w.drew (bytesRow s (grownCap w s.size 0 5)) 5 ((bytesRow s (grownCap w s.size 0 5)).size, (bytesRow s (grownCap w s.size 0 5)).size + 1) i
      have h2 := bytesRow_at s (grownCap w s.size 0 5) i hi
      have hi2 : i < s.data.toList.length := by rw [len_eq]; exact hi
      refine (h1.trans h2).trans ?_
      simp [List.getD, List.getElem?_eq_getElem hi2]
    · simp at hz
      obtain ⟨c, _, rfl⟩ := hz
      have := c.toNat_lt
      exact WalkArith.wf_u8 (by omega)
  · intro j hj
    have h1 := World.frozen?_alloc_mark w.drew (bytesRow s (grownCap w s.size 0 5)) 5 (bytesRow s (grownCap w s.size 0 5)).size ((bytesRow s (grownCap w s.size 0 5)).size + 1) j
    refine Eq.trans h1 ?_
    have : s.size ≤ (bytesRow s (grownCap w s.size 0 5)).size := by simp [bytesRow]
    simp; omega
  · exact ((Below.refl _ _).drew).alloc (by simp) _
  · simp

theorem Row.put {w : World} {N len cap : Nat} {xs : List Int} (h : Row .u8 w (some ⟨N, 0, none⟩) len cap xs) (j : Nat) (hj : j < len) (n : Int) (hn : (Lit.int .u8 n).wf = true) : Row .u8 (w.setCell ⟨N, j, none⟩ (.int .u8 n)) (some ⟨N, 0, none⟩) len cap (xs.set j n) := by
  refine ⟨by rw [List.length_set]; exact h.n, (fun e => nomatch e), h.le, h.mx, fun x e i hi => ?_, fun z hz => ?_⟩
  · obtain rfl : ⟨N, 0, none⟩ = x := by simpa using e
    have hc := h.cell _ rfl i hi
    have hcj := h.cell _ rfl j hj
    rw [addr_add, Nat.zero_add] at hc hcj ⊢
    have hix : i < xs.length := by rw [h.n]; exact hi
    by_cases e : j = i
    · subst e
      rw [World.cell?_setCell_same w ⟨N, j, none⟩ _ hcj]
      simp [List.getD, hix]
    · have ho := World.cell?_setCell_other (w := w) (a := ⟨N, j, none⟩) (b := ⟨N, i, none⟩) (v := .int .u8 n) (by simp)
      rw [ho, hc]
      simp [List.getD, e]
  · rcases List.mem_or_eq_of_mem_set hz with h1 | h1
    · exact h.wf z h1
    · rw [h1]; exact hn

theorem row_at {k : IntKind} {w : World} {a : Option Addr} {len cap : Nat} {xs : List Int} (h : Row k w a len cap xs) (h0 : 0 < len) : ∃ b off, a = some ⟨b, off, none⟩ ∧ ∀ i, i < len → w.cell? ⟨b, off + i, none⟩ = some (.int k (xs.getD i 0)) := by
  cases a with
  | none => have := (h.nil rfl).1; omega
  | some x =>
    obtain ⟨b, off, spot⟩ := x
    have hc := h.cell _ rfl 0 h0
    have hspot : spot = none := by simpa [Addr.add] using World.cell?_spot hc
    subst hspot
    exact ⟨b, off, rfl, fun i hi => by have := h.cell _ rfl i hi; rw [addr_add] at this; exact this⟩

theorem row_bd {w : World} {a : Option Addr} {len cap : Nat} {xs : List Int} (h : Row .i64 w a len cap xs) (i : Nat) (hi : i < len) : -9223372036854775808 ≤ xs.getD i 0 ∧ xs.getD i 0 ≤ 9223372036854775807 := by
  have hl : i < xs.length := by rw [h.n]; exact hi
  have : xs.getD i 0 = xs[i] := by simp [List.getD, List.getElem?_eq_getElem hl]
  rw [this]
  exact bd64 (h.wf _ (List.getElem_mem hl))

theorem own_any {w : World} {B n : Nat} {v : Value} {ts : List (List UInt8)} (h : w.ownsRow B 9 1 v n (ts.map encStr)) : ∃ ad cap, v = .slice ad n cap ∧ n ≤ cap ∧ SRow w ad n cap ts := by
  rcases own_form h with ⟨rfl, rfl⟩ | ⟨g, cap, rfl, _, hnc, _, _⟩
  · have : ts = [] := List.eq_nil_of_length_eq_zero (by have := h.1; simpa using this)
    subst this
    exact ⟨none, 0, rfl, Nat.le_refl _, none_row w⟩
  · exact ⟨_, cap, rfl, hnc, own_row h⟩

theorem own_later {w w' : World} {B n : Nat} {T : TypeId} {v : Value} {xs : List Value} (h : w.ownsRow B T 1 v n xs) (hb : Below w.heap.size w w') : w'.ownsRow B T 1 v n xs := by
  refine ⟨h.1, ?_⟩
  rcases h.2 with h' | ⟨g, cap, cur, e, h1, h2, h3⟩
  · exact .inl h'
  · exact .inr ⟨g, cap, cur, e, h1, by rw [hb.block g (Array.getElem?_eq_some_iff.1 h2).1]; exact h2, h3⟩


end Go.Proofs.YtcoakjgeadkfoaaDoor

/-
  Contracts of Quote and of the reference's Quote.
  Plain mathematics of sorted texts: each once, rising; there is just one such list of given texts.
  The library's sort and Compact, by the shelf's contracts, laid at this program.
  Contract of Sorted.
  Contract of the statements' own 'known': it answers true.
  What a law is told of its arguments.
-/
import Derived.Test.YtnmmhihfnphjeaaGreatDoorG07
import Derived.Lib.SlicesCompact
import Derived.Sort.Walk0
import Derived.Test.YtnmmhihfnphjeaaGreatDoorProg
import Derived.Shelf.Sort.Plain
import Derived.Shelf.Slices.CompactS
import Derived.Shelf.Slices.In.SortNone
import Derived.Sort.OwnSorted
import Derived.Test.YtnmmhihfnphjeaaGreatDoorG06
import Derived.Laws.CopyOwn
import Derived.Test.YtnmmhihfnphjeaaGreatDoorG03

namespace Go.Proofs.YtnmmhihfnphjeaaGreatDoor.W
set_option linter.unusedVariables false
open Go.RowKit Go.Joins Go.Tx

/-- A builder that was written. -/
def Bld (b : Nat) (l : List UInt8) (w : World) : Prop := Lib.BuilderAt 56 5 b b (.pointer (some ⟨b, 0, none⟩)) (Lib.byteCells l) w

theorem bld_new (w : World) : Lib.IsBuilder 56 5 w.heap.size w.heap.size (Lib.byteCells []) (w.alloc (.cells #[.pointer none, .slice none 0 0] 56)) :=
  .inl ⟨Nat.le_refl _, .slice none 0 0, heap_alloc_new w _, World.ownsRow_nil _ _ _ _, by simp [Value.ownBlock]⟩

theorem bwrite_bld (b : Nat) (l : List UInt8) (c : UInt8) (w : World) (h : Bld b l w) (hl : l.length ≤ 4000000000002) (hb : b ≤ w.heap.size) :
    Calls Tryz.prog 54 #[.pointer (some ⟨b, 0, none⟩), .int .u8 (c.toNat : Int)] w fun e w' => e = .returned .nilIface ∧ Bld b (l ++ [c]) w' ∧ Below b w w' := by
  refine (bwrite_any b b (Lib.byteCells l) (c.toNat : Int) w (.inr h) (by rw [Lib.byteCells_length]; omega) hb).mono ?_
  rintro e w' ⟨rfl, h1, h2⟩
  refine ⟨rfl, ?_, h2⟩
  unfold Bld
  have : Lib.byteCells (l ++ [c]) = Lib.byteCells l ++ [.int .u8 (c.toNat : Int)] := by simp [Lib.byteCells]
  rw [this]; exact h1

set_option maxHeartbeats 800000 in
set_option maxRecDepth 100000 in
theorem quote_any (s : ByteArray) (w : World) (hs : s.size ≤ 2000000000000) :
    Calls Tryz.prog 36 #[.string s] w fun x w' => x = .returned (.string (str (quote s.data.toList))) ∧ Below w.heap.size w w' := by
  have hb0 := bld_new w
  go_enter Tryz.func36, Tryz.ntmps36
  go_wp2_with fail
  refine (bwrite_any w.heap.size w.heap.size _ 34 _ hb0 (by simp [Lib.byteCells]) (by simp)).mono ?_
  rintro x w1 ⟨rfl, h1, h2⟩
  have hb1 : Bld w.heap.size [34] w1 := h1
  have hB1 : Below w.heap.size w w1 := ((Below.refl _ _).alloc (Nat.le_refl _) _).trans h2
  clear hb0 h1 h2
  go_wp2_with fail
  go_loopw [10] (fun i wr => ∃ k : Nat, k ≤ s.size ∧ i = .int .i64 k ∧ Bld w.heap.size (34 :: escs (s.data.toList.take k)) wr ∧ Below w.heap.size w wr) (fun i _ => s.size - (RowKit.intOf i).toNat)
  case atStart => exact ⟨0, Nat.zero_le _, rfl, hb1, hB1⟩
  case round =>
    obtain ⟨k, hk, rfl, hb, hB⟩ := hrel
    clear hb1 hB1
    have hlen := escs_len (s.data.toList.take k)
    have hlk : (s.data.toList.take k).length ≤ k := List.length_take_le _ _
    by_cases hlt : k < s.size
    · have HE : Hid (escs (s.data.toList.take (k + 1)) = escs (s.data.toList.take k) ++ esc1 s[k]) := by
        show _ = _
        rw [take_snoc s k hlt, escs_snoc]
      generalize hl : escs (s.data.toList.take k) = l at *
      clear hl
      go_wp2_with fail
      refine (escape_any s[k] _).mono ?_
      unfold escV
      rintro x w2 ⟨rfl, rfl⟩
      cases he : esc s[k] with
      | none =>
        have HE1 : Hid (34 :: escs (s.data.toList.take (k + 1)) = (34 :: l) ++ [s[k]]) := by
          show _ = _
          rw [HE.out, esc1, he]; rfl
        clear HE he
        go_wp2_with fail
        refine (bwrite_bld w.heap.size _ s[k] _ hb (by simp; omega) hB.size).mono ?_
        rintro x w3 ⟨rfl, hb3, h3⟩
        rw [← HE1.out] at hb3
        go_wp2_with fail
        go_roundw
        case rel => exact ⟨k + 1, by omega, by go_num, hb3, hB.trans h3⟩
        case measure => simp [RowKit.intOf]; omega
      | some d =>
        have HE1 : Hid (34 :: escs (s.data.toList.take (k + 1)) = ((34 :: l) ++ [92]) ++ [d]) := by
          show _ = _
          rw [HE.out, esc1, he]; simp
        clear HE he
        go_wp2_with fail
        refine (bwrite_bld w.heap.size _ 92 _ hb (by simp; omega) hB.size).mono ?_
        rintro x w3 ⟨rfl, hb3, h3⟩
        have hB3 := hB.trans h3
        go_wp2_with fail
        refine (bwrite_bld w.heap.size _ d _ hb3 (by simp; omega) hB3.size).mono ?_
        rintro x w4 ⟨rfl, hb4, h4⟩
        rw [← HE1.out] at hb4
        go_wp2_with fail
        go_roundw
        case rel => exact ⟨k + 1, by omega, by go_num, hb4, hB3.trans h4⟩
        case measure => simp [RowKit.intOf]; omega
    · rw [take_all s k (by omega)] at hb hlen
      rw [len_eq] at hlen
      go_wp2_with fail
      refine (bwrite_bld w.heap.size _ 34 _ hb (by simp; omega) hB.size).mono ?_
      rintro x w3 ⟨rfl, hb3, h3⟩
      have hB3 := hB.trans h3
      go_wp2_with fail
      refine (bstring_any w.heap.size w.heap.size _ _ (.inr hb3) hB3.size).mono ?_
      rintro x w4 ⟨rfl, h4⟩
      go_wp2_with fail
      go_ret
      exact ⟨rfl, hB3.trans h4⟩

end Go.Proofs.YtnmmhihfnphjeaaGreatDoor.W

namespace Go.Tx
set_option linter.unusedVariables false
open Go.Sort


theorem bs_le_trans {a b c : (List UInt8)} (h : a ≤ b) (k : b ≤ c) : a ≤ c := List.le_trans h k
theorem bs_lt_of_le_of_ne {a b : (List UInt8)} (h : a ≤ b) (k : a ≠ b) : a < b := by
  by_cases h2 : a < b
  · exact h2
  · exact absurd (List.le_antisymm h (List.not_lt.1 h2)) k
theorem bs_lt_irrefl (a : (List UInt8)) : ¬ a < a := List.lt_irrefl a
theorem bs_lt_of_le_of_lt {a b c : (List UInt8)} (h : a ≤ b) (k : b < c) : a < c := List.lt_of_le_of_lt h k
theorem bs_le_total (a b : (List UInt8)) : a ≤ b ∨ b ≤ a := List.le_total a b
theorem bs_lt_trans {a b c : (List UInt8)} (h : a < b) (k : b < c) : a < c := List.lt_trans h k
theorem bs_le_of_lt {a b : (List UInt8)} (h : a < b) : a ≤ b := List.le_of_lt h

/-- Each once, rising. -/
def srt (ss : List (List UInt8)) : List (List UInt8) := Lib.compact (ss.mergeSort fun x y => decide (x ≤ y))

/-- Of a row that rises what is kept rises strictly, and is what was there. -/
theorem kept_says (d : Array (List UInt8)) (hd : ∀ i j, i ≤ j → j < d.size → d[i]! ≤ d[j]!) : ∀ m, m ≤ d.size →
    (Lib.compactUpTo d m).Pairwise (· < ·) ∧ ∀ x, x ∈ Lib.compactUpTo d m ↔ ∃ j, j < m ∧ d[j]! = x
  | 0, _ => by simp [Lib.compactUpTo]
  | m + 1, h => by
    obtain ⟨h1, h2⟩ := kept_says d hd m (by omega)
    rw [Lib.compactUpTo_succ]
    by_cases hk : m = 0 ∨ d[m]! ≠ d[m - 1]!
    · have hkk : Lib.keeps d m = true := by simp [Lib.keeps, hk]
      rw [hkk]
      simp only [if_true]
      refine ⟨?_, fun x => ?_⟩
      · rw [List.pairwise_append]
        refine ⟨h1, List.pairwise_singleton _ _, fun a ha b hb => ?_⟩
        rw [List.mem_singleton] at hb
        subst hb
        obtain ⟨j, hj, rfl⟩ := (h2 a).1 ha
        rcases hk with hk | hk
        · omega
        · exact bs_lt_of_le_of_lt (hd j (m - 1) (by omega) (by omega)) (bs_lt_of_le_of_ne (hd (m - 1) m (by omega) (by omega)) (fun e => hk e.symm))
      · rw [List.mem_append, List.mem_singleton, h2 x]
        constructor
        · rintro (⟨j, hj, e⟩ | e)
          · exact ⟨j, by omega, e⟩
          · exact ⟨m, by omega, e.symm⟩
        · rintro ⟨j, hj, e⟩
          by_cases hjm : j = m
          · right; rw [← e, hjm]
          · left; exact ⟨j, by omega, e⟩
    · have hk2 : m ≠ 0 ∧ d[m]! = d[m - 1]! := by
        refine ⟨fun e => hk (.inl e), ?_⟩
        by_cases e : d[m]! = d[m - 1]!
        · exact e
        · exact absurd (.inr e) hk
      have hkk : Lib.keeps d m = false := by simp [Lib.keeps, hk2.1, hk2.2]
      rw [hkk]
      simp only [Bool.false_eq_true, if_false, List.append_nil]
      refine ⟨h1, fun x => ?_⟩
      rw [h2 x]
      constructor
      · rintro ⟨j, hj, e⟩; exact ⟨j, by omega, e⟩
      · rintro ⟨j, hj, e⟩
        by_cases hjm : j = m
        · exact ⟨m - 1, by omega, by rw [← e, hjm]; exact hk2.2.symm⟩
        · exact ⟨j, by omega, e⟩

theorem sorted_at (ss : List (List UInt8)) : ∀ i j, i ≤ j → j < (ss.mergeSort fun x y => decide (x ≤ y)).toArray.size → (ss.mergeSort fun x y => decide (x ≤ y)).toArray[i]! ≤ (ss.mergeSort fun x y => decide (x ≤ y)).toArray[j]! := by
  intro i j hij hj
  have hs : (ss.mergeSort fun x y => decide (x ≤ y)).Pairwise (fun a b => decide (a ≤ b) = true) :=
    List.pairwise_mergeSort (fun a b c h k => by simp at h k ⊢; exact bs_le_trans h k) (fun a b => by simp; exact bs_le_total a b) ss
  generalize (ss.mergeSort fun x y => decide (x ≤ y)) = l at *
  simp at hj
  rw [getElem!_pos _ i (by simp; omega), getElem!_pos _ j (by simp; omega)]
  simp only [List.getElem_toArray]
  by_cases e : i = j
  · subst e; exact List.le_refl _
  · have := List.pairwise_iff_getElem.1 hs i j (by omega) (by omega) (by omega)
    simpa using this

theorem srt_rises (ss : List (List UInt8)) : (srt ss).Pairwise (· < ·) := by
  unfold srt Lib.compact
  exact (kept_says _ (sorted_at ss) _ (by simp)).1

theorem srt_mem (ss : List (List UInt8)) (x : (List UInt8)) : x ∈ srt ss ↔ x ∈ ss := by
  unfold srt Lib.compact
  rw [(kept_says _ (sorted_at ss) _ (by simp)).2 x]
  have hm : x ∈ (ss.mergeSort fun x y => decide (x ≤ y)) ↔ x ∈ ss := List.mem_mergeSort
  rw [← hm]
  generalize (ss.mergeSort fun x y => decide (x ≤ y)) = l
  rw [List.mem_iff_getElem]
  constructor
  · rintro ⟨j, hj, e⟩
    refine ⟨j, hj, ?_⟩
    rw [getElem!_pos _ j (by simpa using hj)] at e
    simpa using e
  · rintro ⟨j, hj, e⟩
    refine ⟨j, hj, ?_⟩
    rw [getElem!_pos _ j (by simpa using hj)]
    simpa using e

/-- Two lists that rise strictly, of the same elements, are one. -/
theorem rise_ext : ∀ (a b : List (List UInt8)), a.Pairwise (· < ·) → b.Pairwise (· < ·) → (∀ x, x ∈ a ↔ x ∈ b) → a = b
  | [], [], _, _, _ => rfl
  | [], y :: b, _, _, h => by have := (h y).2 (by simp); simp at this
  | x :: a, [], _, _, h => by have := (h x).1 (by simp); simp at this
  | x :: a, y :: b, ha, hb, h => by
    rw [List.pairwise_cons] at ha hb
    have e : x = y := by
      have h1 := (h x).1 (by simp)
      have h2 := (h y).2 (by simp)
      rw [List.mem_cons] at h1 h2
      rcases h1 with h1 | h1
      · exact h1
      · rcases h2 with h2 | h2
        · exact h2.symm
        · exact absurd (bs_lt_trans (ha.1 y h2) (hb.1 x h1)) (bs_lt_irrefl x)
    subst e
    congr 1
    refine rise_ext a b ha.2 hb.2 fun z => ?_
    have hz := h z
    rw [List.mem_cons, List.mem_cons] at hz
    constructor
    · intro hza
      rcases hz.1 (.inr hza) with e | e
      · subst e; exact absurd (ha.1 z hza) (bs_lt_irrefl z)
      · exact e
    · intro hzb
      rcases hz.2 (.inr hzb) with e | e
      · subst e; exact absurd (hb.1 z hzb) (bs_lt_irrefl z)
      · exact e

theorem srt_unique (ss l : List (List UInt8)) (h1 : l.Pairwise (· < ·)) (h2 : ∀ x, x ∈ l ↔ x ∈ ss) : srt ss = l :=
  rise_ext _ _ (srt_rises ss) h1 fun x => by rw [srt_mem, h2]

theorem srt_congr (a b : List (List UInt8)) (h : ∀ x, x ∈ a ↔ x ∈ b) : srt a = srt b := srt_unique a _ (srt_rises b) fun x => by rw [srt_mem, h]

end Go.Tx

namespace Go.Proofs.YtnmmhihfnphjeaaGreatDoor.W
set_option linter.unusedVariables false
open Go.Shelf Go.RowKit Go.Sort

end Go.Proofs.YtnmmhihfnphjeaaGreatDoor.W

namespace Go.Proofs.YtnmmhihfnphjeaaGreatDoor.W
set_option linter.unusedVariables false
open Go.RowKit Go.Tx Go.Sort

/-- A slice of texts that is there. -/
structure SRow (w : World) (a : Option Addr) (len cap : Nat) (ss : List (List UInt8)) : Prop where
  n : ss.length = len
  nil : a = none → len = 0
  cell : ∀ x, a = some x → ∀ j v, (ss.map encStr)[j]? = some v → w.cell? (x.add j) = some v

theorem infoS : Tryz.prog.info? 9 = some Tryz.t9 := by kernel_rfl
theorem sizeS : (Tryz.prog.info? 9).map (·.size) = some 1 := by kernel_rfl

theorem enc_one (ss : List (List UInt8)) : ∀ u ∈ ss.map encStr, u.oneCell' = true := by
  intro u hu
  simp at hu
  obtain ⟨z, _, rfl⟩ := hu
  rfl

theorem copy_new {w w1 : World} {x : Addr} {cap : Nat} {ss : List (List UInt8)} {ys : List Value} (hr : SRow w (some x) ss.length cap ss) (h1 : w1.ownsRow w.heap.size 9 1 (.slice (some ⟨w.heap.size, 0, none⟩) ss.length ss.length) ss.length ys) (h2 : w.grownBy w1 none) :
    ∃ w2, (Builtin.copy_ #[25, 25] 3 #[.slice (some ⟨w.heap.size, 0, none⟩) ss.length ss.length, .slice (some x) ss.length cap]).run Tryz.prog w1 = .ok (.int .i64 ss.length) w2 ∧
      w2.ownsRow w.heap.size 9 1 (.slice (some ⟨w.heap.size, 0, none⟩) ss.length ss.length) ss.length (ss.map encStr) ∧ Below w.heap.size w w2 := by
  rcases h1.2 with ⟨h', _⟩ | ⟨g, cap', cur, h', hb, hg, hnc, hcm, hcs, htake⟩
  · cases h'
  · simp only [Value.slice.injEq, Option.some.injEq, Addr.mk.injEq, and_true, true_and] at h'
    obtain ⟨rfl, rfl⟩ := h'
    have hB : Below w.heap.size w w1 := (Below.refl _ _).grown h2 (Nat.le_refl _) (by intro k e; cases e)
    have hrun := run_copy_row (P := Tryz.prog) w1 25 25 3 9 w.heap.size 0 ss.length ss.length x ss.length cap cur 9 (ss.map encStr) Tryz.underlying25 sizeS hg (by simp) (fun j v hj => cell_later hB (hr.cell x rfl j v hj)) (by simp; omega) (enc_one ss)
    rw [List.length_map] at hrun
    refine ⟨_, hrun, ?_, below_setRow hB (Nat.le_refl _) _⟩
    refine ⟨by simp, .inr ⟨w.heap.size, ss.length, _, rfl, hb, setRow_heap w1 w.heap.size _ _ 9 _ hg, Nat.le_refl _, hcm, ?_, ?_⟩⟩
    · simp; omega
    · simp

theorem compact_le (ts : List (List UInt8)) : (Lib.compact ts).length ≤ ts.length := by
  unfold Lib.compact Lib.compactUpTo
  rw [List.length_map]
  exact Nat.le_trans (List.length_filter_le _ _) (by simp)

theorem own_compact {w : World} {g : Nat} {ts : List (List UInt8)} {cur : Array Value} (q : Nat) (hg : w.heap[g]? = some (.cells cur 9 (0, 0))) (hcm : ts.length ≤ maxLen) (hcs : cur.size = ts.length * 1) :
    (putRow encStr (Sort.ahead w q) g 0 (Lib.compact ts ++ List.replicate (ts.length - (Lib.compact ts).length) []).toArray).ownsRow g 9 1 (.slice (some ⟨g, 0, none⟩) (Lib.compact ts).length ts.length) (Lib.compact ts).length ((Lib.compact ts).map encStr) := by
  have hle := compact_le ts
  have hh := heap_sorted (n := q) (os := #[]) (Lib.compact ts ++ List.replicate (ts.length - (Lib.compact ts).length) []).toArray hg
  rw [grow_empty] at hh
  refine ⟨by simp, .inr ⟨g, ts.length, _, rfl, Nat.le_refl _, hh, hle, hcm, by simp [putCells, hcs], ?_⟩⟩
  have ht := take_putCells cur (Lib.compact ts ++ List.replicate (ts.length - (Lib.compact ts).length) []) (by simp; omega)
  have := congrArg (List.take (Lib.compact ts).length) ht
  rw [List.take_take] at this
  simp at this
  rw [Nat.mul_one]
  exact this

end Go.Proofs.YtnmmhihfnphjeaaGreatDoor.W

namespace Go.Proofs.YtnmmhihfnphjeaaGreatDoor.W
set_option linter.unusedVariables false
open Go.RowKit Go.Tx Go.Sort Go.Joins

theorem k_peek (b : Nat) (w : World) (h : IsCur w b ⟨#[97, 98, 32, 49]⟩ 0) :
    Calls Tryz.prog 44 #[.pointer (some ⟨b, 0, none⟩)] w fun x w' => x = .returned (.tuple #[.int .u8 97, .bool true]) ∧ IsCur w' b ⟨#[97, 98, 32, 49]⟩ 0 ∧ Oth b w w' := by
  refine (peek_in b _ 0 w h (by decide) (by decide)).mono ?_
  rintro x w' ⟨rfl, n, rfl⟩
  exact ⟨rfl, h.drewN n, Oth.drewN b w n⟩

theorem k_while (b : Nat) (w : World) (h : IsCur w b ⟨#[97, 98, 32, 49]⟩ 0) :
    Calls Tryz.prog 60 #[.pointer (some ⟨b, 0, none⟩), .string ⟨#[97, 98, 99]⟩] w fun x w' => x = .returned (.string ⟨#[97, 98]⟩) ∧ IsCur w' b ⟨#[97, 98, 32, 49]⟩ 2 ∧ Kept b w w' := by
  refine (while_any b _ _ 0 w h (by decide) (by decide)).mono ?_
  rintro x w' ⟨rfl, h1, h2⟩
  exact ⟨rfl, h1, h2⟩

theorem k_number (w : World) :
    Calls Tryz.prog 96 #[.string ⟨#[49, 50]⟩] w fun x w' => x = .returned (.tuple #[.int .i64 12, .bool true]) ∧ w' = w := by
  refine (number_any _ w (by unfold maxLen; decide)).mono ?_
  rintro x w' ⟨rfl, rfl⟩
  exact ⟨rfl, rfl⟩

theorem k_unquote (w : World) :
    Calls Tryz.prog 86 #[.string ⟨#[34, 97, 92, 110, 34, 120]⟩] w fun x w' => x = .returned (.tuple #[.string ⟨#[97, 10]⟩, .int .i64 5, .bool true]) ∧ Below w.heap.size w w' := by
  refine (unquote_any _ w (by decide) (some ([97, 10], 5)) (by show unquote _ = _; decide +kernel)).mono ?_
  rintro x w' ⟨rfl, h⟩
  exact ⟨rfl, h⟩

theorem k_quote (w : World) :
    Calls Tryz.prog 36 #[.string ⟨#[97]⟩] w fun x w' => x = .returned (.string ⟨#[34, 97, 34]⟩) ∧ Below w.heap.size w w' := by
  refine (quote_any _ w (by decide)).mono ?_
  rintro x w' ⟨rfl, h⟩
  exact ⟨ret_str (ba_ext (by decide +kernel)), h⟩

theorem k_take1 (b : Nat) (w : World) (h : IsCur w b ⟨#[97, 98, 32, 49]⟩ 2) :
    Calls Tryz.prog 77 #[.pointer (some ⟨b, 0, none⟩), .string ⟨#[32]⟩] w fun x w' => x = .returned (.bool true) ∧ IsCur w' b ⟨#[97, 98, 32, 49]⟩ 3 ∧ Oth b w w' :=
  take_yes b _ ⟨#[32]⟩ 2 w h (by decide) (by decide +kernel)

theorem k_take2 (b : Nat) (w : World) (h : IsCur w b ⟨#[97, 98, 32, 49]⟩ 3) :
    Calls Tryz.prog 77 #[.pointer (some ⟨b, 0, none⟩), .string ⟨#[50]⟩] w fun x w' => x = .returned (.bool false) ∧ IsCur w' b ⟨#[97, 98, 32, 49]⟩ 3 ∧ Oth b w w' := by
  refine (take_no b _ ⟨#[50]⟩ 3 w h (by decide) (by decide +kernel)).mono ?_
  rintro x w' ⟨rfl, n, rfl⟩
  exact ⟨rfl, h.drewN n, Oth.drewN b w n⟩

theorem k_place (b : Nat) (w : World) (h : IsCur w b ⟨#[97, 98, 32, 49]⟩ 3) :
    Calls Tryz.prog 27 #[.pointer (some ⟨b, 0, none⟩)] w fun x w' => x = .returned (.agg #[.int .i64 1, .int .i64 4]) ∧ Below w.heap.size w w' := by
  refine (cplace_any b _ 3 w h (by decide)).mono ?_
  rintro x w' ⟨rfl, h⟩
  exact ⟨rfl, h⟩

theorem srt_k : srt [[98], [97], [98]] = [[97], [98]] := by
  refine srt_unique _ _ (by decide) fun x => ?_
  simp only [List.mem_cons, List.not_mem_nil, or_false]
  constructor
  · rintro (h | h)
    · exact .inr (.inl h)
    · exact .inl h
  · rintro (h | h | h)
    · exact .inr h
    · exact .inl h
    · exact .inr h

end Go.Proofs.YtnmmhihfnphjeaaGreatDoor.W

namespace Go.Proofs.YtnmmhihfnphjeaaGreatDoor.W
set_option linter.unusedVariables false
open Go.RowKit Go.Tx

/-- A slice of integers that came in: nil, or a row of 'cap' cells. -/
def IsRow (k : IntKind) (w : World) (a : Option Addr) (len cap : Nat) (zs : List Int) : Prop :=
  (a = none ∧ len = 0 ∧ cap = 0 ∧ zs = []) ∨
  ∃ x, a = some x ∧ len ≤ cap ∧ cap ≤ maxLen ∧ zs.length = cap ∧ (∀ i, i < zs.length → w.cell? (x.add i) = some (.int k (zs.getD i 0))) ∧ ∀ n ∈ zs, (Lit.int k n).wf = true

theorem IsRow.row {k : IntKind} {w : World} {a : Option Addr} {len cap : Nat} {zs : List Int} (h : IsRow k w a len cap zs) : Row k w a len cap (zs.take len) := by
  rcases h with ⟨rfl, rfl, rfl, rfl⟩ | ⟨x, rfl, hl, hm, hz, hc, hw⟩
  · exact ⟨rfl, fun _ => ⟨rfl, rfl⟩, Nat.le_refl _, Nat.zero_le _, (fun x e => nomatch e), fun z hz => by simp at hz⟩
  · refine ⟨by simp; omega, (fun e => nomatch e), hl, hm, fun y e i hi => ?_, fun z hz2 => hw z (List.mem_of_mem_take hz2)⟩
    obtain rfl : x = y := by simpa using e
    rw [hc i (by omega)]
    simp [List.getD, hi]

theorem Row.later {k : IntKind} {w w' : World} {a : Option Addr} {len cap : Nat} {xs : List Int} (h : Row k w a len cap xs) (hb : Below w.heap.size w w') : Row k w' a len cap xs :=
  ⟨h.n, h.nil, h.le, h.mx, fun x e i hi => cell_later hb (h.cell x e i hi), h.wf⟩

theorem step {w W v : World} (h : Below w.heap.size w W) (k : Below W.heap.size W v) : Below w.heap.size w v := h.trans (k.mono h.size)

theorem addr_add (b off i : Nat) : (⟨b, off, none⟩ : Addr).add i = ⟨b, off + i, none⟩ := by unfold Addr.add; split <;> simp_all

/-- string(b) of a slice of bytes that came in. -/
theorem Row.conv {w : World} {a : Option Addr} {len cap : Nat} {xs : List Int} (h : Row .u8 w a len cap xs) : (convert 38 9 (.slice a len cap)).run Tryz.prog w = .ok (.string (strOfNums xs)) w := by
  cases a with
  | none =>
    obtain ⟨rfl, rfl⟩ := h.nil rfl
    obtain rfl : xs = [] := List.eq_nil_of_length_eq_zero h.n
    exact run_convert_bytes_nil w 38 5 Tryz.underlying38 Tryz.underlying5 0 0 9 Tryz.underlying9
  | some x =>
    by_cases h0 : len = 0
    · subst h0
      obtain rfl : xs = [] := List.eq_nil_of_length_eq_zero h.n
      rw [run_convert_bytes_string w 38 9 5 (some x) 0 cap Tryz.underlying38 Tryz.underlying5 Tryz.underlying9, run_bytesToString w x 0 cap [] (run_loadCells_list (P := Tryz.prog) w x [] (fun j v hj => by simp at hj))]
      rfl
    · obtain ⟨b, off, spot⟩ := x
      have hc := h.cell _ rfl 0 (by omega)
      have hspot : spot = none := by simpa [Addr.add] using World.cell?_spot hc
      subst hspot
      exact run_convert_bytes_arg w 38 5 Tryz.underlying38 Tryz.underlying5 b off len cap xs h.n (fun i hi => by have := h.cell _ rfl i hi; rw [addr_add] at this; exact this) 9 Tryz.underlying9

theorem bd64 {n : Int} (h : (Lit.int .i64 n).wf = true) : -9223372036854775808 ≤ n ∧ n ≤ 9223372036854775807 := bounds_i64 h
theorem bd8 {n : Int} (h : (Lit.int .u8 n).wf = true) : 0 ≤ n ∧ n ≤ 255 := bounds_u8 h

/-- A number from 0 to n - 1. -/
theorem within_nat (a n : Int) (w : World) (h1 : 1 ≤ n) (h2 : n ≤ 4611686018427387904) (h3 : -9223372036854775808 ≤ a) (h4 : a ≤ 9223372036854775807) :
    Calls Tryz.prog 52 #[.int .i64 a, .int .i64 n] w fun e w' => ∃ k : Nat, e = .returned (.int .i64 k) ∧ (k : Int) < n ∧ Hid ((k : Int) = a % n) ∧ w' = w := by
  refine (within_any a n w h1 h2 h3 h4).mono ?_
  rintro e w' ⟨rfl, rfl⟩
  have b1 := Int.emod_nonneg a (b := n) (by omega)
  have b2 := Int.emod_lt_of_pos a (b := n) (by omega)
  exact ⟨(a % n).toNat, by rw [Int.toNat_of_nonneg b1], by omega, Int.toNat_of_nonneg b1, rfl⟩

/-- The text of one byte. -/
def b1 (n : Int) : ByteArray := ⟨#[UInt8.ofNat n.toNat]⟩
theorem b1_size (n : Int) : (b1 n).size = 1 := rfl
theorem b1_list (n : Int) : (b1 n).data.toList = [UInt8.ofNat n.toNat] := rfl

theorem conv_drew (w : World) (n : Int) :
    (convert 38 9 (.slice (some ⟨w.heap.size, 0, none⟩) 1 1)).run Tryz.prog (w.alloc (.cells #[.int .u8 n] 5)).drew = .ok (.string (b1 n)) (w.alloc (.cells #[.int .u8 n] 5)).drew :=
  run_convert_bytes_arg _ 38 5 Tryz.underlying38 Tryz.underlying5 w.heap.size 0 1 1 [n] rfl (fun i hi => by
    have : i = 0 := by omega
    subst this
    show (w.alloc (.cells #[.int .u8 n] 5)).cell? _ = _
    simp [go_sem]) 9 Tryz.underlying9

theorem sg_plain (l : List Int) : plain (sg l) = true := by
  unfold plain sg
  rw [List.all_map, List.all_eq_true]
  intro z _
  have hz : (z % 38).toNat < 38 := by omega
  have key : ∀ n, n < 38 → plB (((sgs.getD n 0).toNat : Nat) : Int) = true := by decide
  exact key _ hz

theorem sg_size (l : List Int) (m : Nat) : (str (sg (l.take m))).size ≤ m := by
  rw [str_size]; simp [sg]; omega

theorem plain_app (a b : List UInt8) : plain (a ++ b) = (plain a && plain b) := by simp [plain, List.all_append]
theorem plain_take (l : List UInt8) (k : Nat) (h : plain l = true) : plain (l.take k) = true := by
  unfold plain at *
  rw [List.all_eq_true] at *
  exact fun x hx => h x (List.mem_of_mem_take hx)
theorem plain_drop (l : List UInt8) (k : Nat) (h : plain l = true) : plain (l.drop k) = true := by
  unfold plain at *
  rw [List.all_eq_true] at *
  exact fun x hx => h x (List.mem_of_mem_drop hx)

theorem plain_b1 (n : Int) (h0 : 0 ≤ n) (h1 : n ≤ 255) : plain (b1 n).data.toList = plB n := by
  rw [b1_list]
  have : ((UInt8.ofNat n.toNat).toNat : Int) = n := by rw [UInt8.toNat_ofNat']; omega
  show (List.all [UInt8.ofNat n.toNat] fun c => plB (c.toNat : Int)) = _
  rw [List.all_cons, List.all_nil, this, Bool.and_true]

end Go.Proofs.YtnmmhihfnphjeaaGreatDoor.W

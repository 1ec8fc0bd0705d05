/-
  Contracts of Quote and of the reference's Quote.
-/
import Derived.Test.YthcclkihfnjpfaaW9
namespace Go.Proofs.Ythcclkihfnjpfaa
set_option linter.unusedVariables false
open Go.RowKit Go.Joins Go.Tx

/-- A builder that was written. -/
def Bld (b : Nat) (l : List UInt8) (w : World) : Prop := Lib.BuilderAt 71 5 b b (.pointer (some ⟨b, 0, none⟩)) (Lib.byteCells l) w

theorem bld_new (w : World) : Lib.IsBuilder 71 5 w.heap.size w.heap.size (Lib.byteCells []) (w.alloc (.cells #[.pointer none, .slice none 0 0] 71)) :=
  .inl ⟨Nat.le_refl _, .slice none 0 0, heap_alloc_new w _, World.ownsRow_nil _ _ _ _, by simp [Value.ownBlock]⟩

theorem bwrite_bld (b : Nat) (l : List UInt8) (c : UInt8) (w : World) (h : Bld b l w) (hl : l.length ≤ 4000000000002) (hb : b ≤ w.heap.size) :
    Calls Try.prog 48 #[.pointer (some ⟨b, 0, none⟩), .int .u8 (c.toNat : Int)] w fun e w' => e = .returned .nilIface ∧ Bld b (l ++ [c]) w' ∧ Below b w w' := by
  refine (bwrite_any b b (Lib.byteCells l) (c.toNat : Int) w (.inr h) (by rw [Lib.byteCells_length]; omega) hb).mono ?_
  rintro e w' ⟨rfl, h1, h2⟩
  refine ⟨rfl, ?_, h2⟩
  unfold Bld
  have : Lib.byteCells (l ++ [c]) = Lib.byteCells l ++ [.int .u8 (c.toNat : Int)] := by simp [Lib.byteCells]
  rw [this]; exact h1

set_option maxHeartbeats 800000 in
set_option maxRecDepth 100000 in
theorem quote_any (s : ByteArray) (w : World) (hs : s.size ≤ 2000000000000) :
    Calls Try.prog 33 #[.string s] w fun x w' => x = .returned (.string (str (quote s.data.toList))) ∧ Below w.heap.size w w' := by
  have hb0 := bld_new w
  go_enter Try.func33, Try.ntmps33
  go_wp2_with fail
  refine (bwrite_any w.heap.size w.heap.size _ 34 _ hb0 (by simp [Lib.byteCells]) (by simp)).mono ?_
  rintro x w1 ⟨rfl, h1, h2⟩
  have hb1 : Bld w.heap.size [34] w1 := h1
  have hB1 : Below w.heap.size w w1 := ((Below.refl _ _).alloc (Nat.le_refl _) _).trans h2
  clear hb0 h1 h2
  go_wp2_with fail
  go_loopw [10] (fun i wr => ∃ k : Nat, k ≤ s.size ∧ i = .int .i64 k ∧ Bld w.heap.size (34 :: escs (s.data.toList.take k)) wr ∧ Below w.heap.size w wr) (fun i _ => s.size - (intOf i).toNat)
  case atStart => exact ⟨0, Nat.zero_le _, rfl, hb1, hB1⟩
  case round =>
    obtain ⟨k, hk, rfl, hb, hB⟩ := hrel
    clear hb1 hB1
    have hlen := escs_len (s.data.toList.take k)
    have hlk : (s.data.toList.take k).length ≤ k := List.length_take_le _ _
    by_cases hlt : k < s.size
    · have HE : Hid (escs (s.data.toList.take (k + 1)) = escs (s.data.toList.take k) ++ esc1 s[k]) := by
        show _ = _
        rw [take_snoc s k hlt, escs_snoc]
      generalize hl : escs (s.data.toList.take k) = l at *
      clear hl
      go_wp2_with fail
      refine (escape_any s[k] _).mono ?_
      unfold escV
      rintro x w2 ⟨rfl, rfl⟩
      cases he : esc s[k] with
      | none =>
        have HE1 : Hid (34 :: escs (s.data.toList.take (k + 1)) = (34 :: l) ++ [s[k]]) := by
          show _ = _
          rw [HE.out, esc1, he]; rfl
        clear HE he
        go_wp2_with fail
        refine (bwrite_bld w.heap.size _ s[k] _ hb (by simp; omega) hB.size).mono ?_
        rintro x w3 ⟨rfl, hb3, h3⟩
        rw [← HE1.out] at hb3
        go_wp2_with fail
        go_roundw
        case rel => exact ⟨k + 1, by omega, by go_num, hb3, hB.trans h3⟩
        case measure => simp [intOf]; omega
      | some d =>
        have HE1 : Hid (34 :: escs (s.data.toList.take (k + 1)) = ((34 :: l) ++ [92]) ++ [d]) := by
          show _ = _
          rw [HE.out, esc1, he]; simp
        clear HE he
        go_wp2_with fail
        refine (bwrite_bld w.heap.size _ 92 _ hb (by simp; omega) hB.size).mono ?_
        rintro x w3 ⟨rfl, hb3, h3⟩
        have hB3 := hB.trans h3
        go_wp2_with fail
        refine (bwrite_bld w.heap.size _ d _ hb3 (by simp; omega) hB3.size).mono ?_
        rintro x w4 ⟨rfl, hb4, h4⟩
        rw [← HE1.out] at hb4
        go_wp2_with fail
        go_roundw
        case rel => exact ⟨k + 1, by omega, by go_num, hb4, hB3.trans h4⟩
        case measure => simp [intOf]; omega
    · rw [take_all s k (by omega)] at hb hlen
      rw [len_eq] at hlen
      go_wp2_with fail
      refine (bwrite_bld w.heap.size _ 34 _ hb (by simp; omega) hB.size).mono ?_
      rintro x w3 ⟨rfl, hb3, h3⟩
      have hB3 := hB.trans h3
      go_wp2_with fail
      refine (bstring_any w.heap.size w.heap.size _ _ (.inr hb3) hB3.size).mono ?_
      rintro x w4 ⟨rfl, h4⟩
      go_wp2_with fail
      go_ret
      exact ⟨rfl, hB3.trans h4⟩

end Go.Proofs.Ythcclkihfnjpfaa

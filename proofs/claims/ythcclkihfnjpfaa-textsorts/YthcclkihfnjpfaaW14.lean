/-
  Contract of the statements' own 'known': it answers true.
-/
import Derived.Test.YthcclkihfnjpfaaW2
import Derived.Test.YthcclkihfnjpfaaW11
import Derived.Test.YthcclkihfnjpfaaW12
import Derived.Test.YthcclkihfnjpfaaW13
namespace Go.Proofs.Ythcclkihfnjpfaa
set_option linter.unusedVariables false
open Go.RowKit Go.Tx Go.Sort Go.Joins

theorem k_peek (b : Nat) (w : World) (h : IsCur w b ⟨#[97, 98, 32, 49]⟩ 0) :
    Calls Try.prog 20 #[.pointer (some ⟨b, 0, none⟩)] w fun x w' => x = .returned (.tuple #[.int .u8 97, .bool true]) ∧ IsCur w' b ⟨#[97, 98, 32, 49]⟩ 0 ∧ Oth b w w' := by
  refine (peek_in b _ 0 w h (by decide) (by decide)).mono ?_
  rintro x w' ⟨rfl, n, rfl⟩
  exact ⟨rfl, h.drewN n, Oth.drewN b w n⟩

theorem k_while (b : Nat) (w : World) (h : IsCur w b ⟨#[97, 98, 32, 49]⟩ 0) :
    Calls Try.prog 24 #[.pointer (some ⟨b, 0, none⟩), .string ⟨#[97, 98, 99]⟩] w fun x w' => x = .returned (.string ⟨#[97, 98]⟩) ∧ IsCur w' b ⟨#[97, 98, 32, 49]⟩ 2 ∧ Kept b w w' := by
  refine (while_any b _ _ 0 w h (by decide) (by decide)).mono ?_
  rintro x w' ⟨rfl, h1, h2⟩
  exact ⟨rfl, h1, h2⟩

theorem k_number (w : World) :
    Calls Try.prog 30 #[.string ⟨#[49, 50]⟩] w fun x w' => x = .returned (.tuple #[.int .i64 12, .bool true]) ∧ w' = w := by
  refine (number_any _ w (by unfold maxLen; decide)).mono ?_
  rintro x w' ⟨rfl, rfl⟩
  exact ⟨rfl, rfl⟩

theorem k_unquote (w : World) :
    Calls Try.prog 34 #[.string ⟨#[34, 97, 92, 110, 34, 120]⟩] w fun x w' => x = .returned (.tuple #[.string ⟨#[97, 10]⟩, .int .i64 5, .bool true]) ∧ Below w.heap.size w w' := by
  refine (unquote_any _ w (by decide) (some ([97, 10], 5)) (by show unquote _ = _; decide +kernel)).mono ?_
  rintro x w' ⟨rfl, h⟩
  exact ⟨rfl, h⟩

theorem k_quote (w : World) :
    Calls Try.prog 33 #[.string ⟨#[97]⟩] w fun x w' => x = .returned (.string ⟨#[34, 97, 34]⟩) ∧ Below w.heap.size w w' := by
  refine (quote_any _ w (by decide)).mono ?_
  rintro x w' ⟨rfl, h⟩
  exact ⟨ret_str (ba_ext (by decide +kernel)), h⟩

theorem k_take1 (b : Nat) (w : World) (h : IsCur w b ⟨#[97, 98, 32, 49]⟩ 2) :
    Calls Try.prog 22 #[.pointer (some ⟨b, 0, none⟩), .string ⟨#[32]⟩] w fun x w' => x = .returned (.bool true) ∧ IsCur w' b ⟨#[97, 98, 32, 49]⟩ 3 ∧ Oth b w w' :=
  take_yes b _ ⟨#[32]⟩ 2 w h (by decide) (by decide +kernel)

theorem k_take2 (b : Nat) (w : World) (h : IsCur w b ⟨#[97, 98, 32, 49]⟩ 3) :
    Calls Try.prog 22 #[.pointer (some ⟨b, 0, none⟩), .string ⟨#[50]⟩] w fun x w' => x = .returned (.bool false) ∧ IsCur w' b ⟨#[97, 98, 32, 49]⟩ 3 ∧ Oth b w w' := by
  refine (take_no b _ ⟨#[50]⟩ 3 w h (by decide) (by decide +kernel)).mono ?_
  rintro x w' ⟨rfl, n, rfl⟩
  exact ⟨rfl, h.drewN n, Oth.drewN b w n⟩

theorem k_place (b : Nat) (w : World) (h : IsCur w b ⟨#[97, 98, 32, 49]⟩ 3) :
    Calls Try.prog 28 #[.pointer (some ⟨b, 0, none⟩)] w fun x w' => x = .returned (.agg #[.int .i64 1, .int .i64 4]) ∧ Below w.heap.size w w' := by
  refine (cplace_any b _ 3 w h (by decide)).mono ?_
  rintro x w' ⟨rfl, h⟩
  exact ⟨rfl, h⟩

theorem k_plain (w : World) :
    Calls Try.prog 36 #[.string ⟨#[97, 10]⟩] w fun x w' => x = .returned (.bool true) ∧ w' = w := by
  refine (plain_any _ w (by unfold maxLen; decide)).mono ?_
  rintro x w' ⟨rfl, rfl⟩
  exact ⟨rfl, rfl⟩

theorem srt_k : srt [[98], [97], [98]] = [[97], [98]] := by
  refine srt_unique _ _ (by decide) fun x => ?_
  simp only [List.mem_cons, List.not_mem_nil, or_false]
  constructor
  · rintro (h | h)
    · exact .inr (.inl h)
    · exact .inl h
  · rintro (h | h | h)
    · exact .inr h
    · exact .inl h
    · exact .inr h

theorem k_sorted (w : World) (o : Obj) (ho : o = .cells #[.string ⟨#[98]⟩, .string ⟨#[97]⟩, .string ⟨#[98]⟩] 9) :
    Calls Try.prog 39 #[.slice (some ⟨w.heap.size, 0, none⟩) 3 3] (w.alloc o) fun x w' => x = .returned (.slice (some ⟨w.heap.size + 1, 0, none⟩) 2 3) ∧ Below (w.heap.size + 1) (w.alloc o) w' := by
  have hr : SRow (w.alloc o) (some ⟨w.heap.size, 0, none⟩) 3 3 [[98], [97], [98]] := by
    refine ⟨rfl, (fun e => nomatch e), fun x e j v hj => ?_⟩
    obtain rfl : ⟨w.heap.size, 0, none⟩ = x := by simpa using e
    have := World.news_of_block (w := w.alloc o) (B := w.heap.size) (cs := #[.string ⟨#[98]⟩, .string ⟨#[97]⟩, .string ⟨#[98]⟩]) (t := 9) (fr := (0, 0)) (by rw [ho]; exact heap_alloc_new w _)
    exact this j v hj
  refine (sorted_any _ 3 3 _ (w.alloc o) hr (by decide)).mono ?_
  rintro x w' ⟨rfl, h1, h2⟩
  have hz : (w.alloc o).heap.size = w.heap.size + 1 := by simp
  rw [hz] at h1 ⊢
  rw [srt_k]
  exact ⟨rfl, h1⟩

set_option maxHeartbeats 1000000 in
set_option maxRecDepth 100000 in
theorem known_any (w : World) :
    Calls Try.prog 13 #[] w fun x w' => x = .returned (.bool true) ∧ Below w.heap.size w w' := by
  go_enter Try.func13, Try.ntmps13
  go_wp2_with fail
  refine (new_any _ w).mono ?_
  rintro x w1 ⟨rfl, hw1⟩
  have hc1 := new_cur ⟨#[97, 98, 32, 49]⟩ w
  rw [← hw1] at hc1
  have hB1 : Below w.heap.size w w1 := by rw [hw1]; exact (Below.refl _ _).alloc (Nat.le_refl _) _
  clear hw1
  go_wp2_with fail
  refine (k_peek _ _ hc1).mono ?_
  rintro x w2 ⟨rfl, hc2, h2⟩
  have hB2 := hB1.trans (h2.below (Nat.le_refl _))
  clear hc1 hB1 h2
  go_wp2_with fail
  refine (k_while _ _ hc2).mono ?_
  rintro x w3 ⟨rfl, hc3, h3⟩
  have hB3 := hB2.trans (h3.below (Nat.le_refl _) hB2.size)
  clear hc2 hB2 h3
  go_wp2_with fail
  refine (k_number _).mono ?_
  rintro x w4 ⟨rfl, rfl⟩
  go_wp2_with fail
  refine (k_unquote _).mono ?_
  rintro x w5 ⟨rfl, h5⟩
  have hc5 := hc3.below h5
  have hB5 := hB3.trans (h5.mono hB3.size)
  clear hc3 hB3 h5
  go_wp2_with fail
  refine (k_quote _).mono ?_
  rintro x w6 ⟨rfl, h6⟩
  have hc6 := hc5.below h6
  have hB6 := hB5.trans (h6.mono hB5.size)
  clear hc5 hB5 h6
  go_wp2_with fail
  refine (at_any _ _ _ _ hc6).mono ?_
  rintro x w7 ⟨rfl, rfl⟩
  go_wp2_with fail
  refine (k_take1 _ _ hc6).mono ?_
  rintro x w8 ⟨rfl, hc8, h8⟩
  have hB8 := hB6.trans (h8.below (Nat.le_refl _))
  clear hc6 hB6 h8
  go_wp2_with fail
  refine (k_take2 _ _ hc8).mono ?_
  rintro x w9 ⟨rfl, hc9, h9⟩
  have hB9 := hB8.trans (h9.below (Nat.le_refl _))
  clear hc8 hB8 h9
  go_wp2_with fail
  refine (k_place _ _ hc9).mono ?_
  rintro x w10 ⟨rfl, h10⟩
  have hB10 := hB9.trans (h10.mono hB9.size)
  clear hc9 hB9 h10
  go_wp2_with fail
  refine (k_plain _).mono ?_
  rintro x w11 ⟨rfl, rfl⟩
  go_wp2_with fail
  refine (k_sorted _ _ rfl).mono ?_
  rintro x w12 ⟨rfl, h12⟩
  have hz := hB10.size
  have hB12 := (hB10.alloc hz _).trans (h12.mono (by omega))
  go_wp2_with fail
  go_ret
  exact ⟨rfl, hB12⟩

end Go.Proofs.Ythcclkihfnjpfaa

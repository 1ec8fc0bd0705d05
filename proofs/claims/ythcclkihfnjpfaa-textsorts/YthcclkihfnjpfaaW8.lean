/-
  Contracts of While and of next.
-/
import Derived.Test.YthcclkihfnjpfaaW7
namespace Go.Proofs.Ythcclkihfnjpfaa
set_option linter.unusedVariables false
open Go.RowKit Go.Joins Go.Tx
attribute [local go_sem ↓] Go.wp_at_zero Go.wp_at_succ

/-- Is a byte in a set? -/
def inSet (l : List UInt8) (j : Nat) : Bool := l.any fun c => c.toNat == j

theorem inSet_snoc (l : List UInt8) (c : UInt8) (j : Nat) : inSet (l ++ [c]) j = (inSet l j || (c.toNat == j)) := by simp [inSet, List.any_append]

theorem ext_list (r : ByteArray) (k : Nat) : (r.extract 0 k).data.toList = r.data.toList.take k := by simp

theorem wh_stop (r : ByteArray) (f : UInt8 → Bool) (k : Nat) (hk : k ≤ r.size) (h : (r.data.toList.take k).all f = true) (hs : k = r.size ∨ ∃ hl : k < r.size, f r[k] = false) : Hid (r.data.toList.takeWhile f = r.data.toList.take k) := by
  show _ = _
  have hsplit := List.take_append_drop k r.data.toList
  have h1 : (r.data.toList.take k ++ r.data.toList.drop k).takeWhile f = r.data.toList.take k ++ (r.data.toList.drop k).takeWhile f :=
    List.takeWhile_append_of_pos (fun a ha => List.all_eq_true.1 h a ha)
  rw [hsplit] at h1
  rw [h1]
  have : (r.data.toList.drop k).takeWhile f = [] := by
    rcases hs with hs | ⟨hl, hf⟩
    · rw [List.drop_eq_nil_of_le (by rw [len_eq]; omega)]; rfl
    · have e : r.data.toList.drop k = r[k] :: r.data.toList.drop (k + 1) := by
        rw [List.drop_eq_getElem_cons (by rw [len_eq]; omega)]; rfl
      rw [e, List.takeWhile_cons, hf]; rfl
  rw [this, List.append_nil]

/-- All that was there, but for block b, is as it was. -/
structure Kept (b : Nat) (w w' : World) : Prop where
  os : w'.os = w.os
  tape : w'.tape = w.tape
  output : w'.output = w.output
  size : w.heap.size ≤ w'.heap.size
  block : ∀ k, k < w.heap.size → k ≠ b → w'.heap[k]? = w.heap[k]?

theorem Kept.refl (b : Nat) (w : World) : Kept b w w := ⟨rfl, rfl, rfl, Nat.le_refl _, fun _ _ _ => rfl⟩
theorem Kept.trans {b : Nat} {w w' w'' : World} (h : Kept b w w') (k : Kept b w' w'') : Kept b w w'' :=
  ⟨k.os.trans h.os, k.tape.trans h.tape, k.output.trans h.output, Nat.le_trans h.size k.size, fun i hi hb => (k.block i (Nat.lt_of_lt_of_le hi h.size) hb).trans (h.block i hi hb)⟩
theorem Oth.kept {b : Nat} {w w' : World} (h : Oth b w w') : Kept b w w' := ⟨h.os, h.tape, h.output, by rw [h.size]; exact Nat.le_refl _, fun k _ hb => h.block k hb⟩
theorem Kept.ofBelow {w w' : World} (b : Nat) (h : Below w.heap.size w w') : Kept b w w' := ⟨h.os, h.tape, h.output, h.size, fun k hk _ => h.block k hk⟩
theorem Kept.below {b B : Nat} {w w' : World} (h : Kept b w w') (hB : B ≤ b) (hw : B ≤ w.heap.size) : Below B w w' := ⟨h.os, h.tape, h.output, h.size, fun k hk => h.block k (by omega) (by omega)⟩

/-- The table of a set, in block N. -/
structure Tab (w : World) (N : Nat) (l : List UInt8) (cs : Array Value) : Prop where
  hb : w.heap[N]? = some (.cells cs 67 (0, 0))
  sz : cs.size = 256
  at_ : ∀ j, j < 256 → cs[j]? = some (.bool (inSet l j))

theorem zero_tab : Try.zeroCells67 = Array.replicate 256 (.bool false) := by kernel_rfl

theorem Tab.start (w : World) : Tab (w.alloc (.cells Try.zeroCells67 67)) w.heap.size [] Try.zeroCells67 :=
  ⟨heap_alloc_new w _, by rw [zero_tab]; simp, fun j hj => by rw [zero_tab]; simp [inSet, hj]⟩

theorem Tab.set {w : World} {N : Nat} {l : List UInt8} {cs : Array Value} (h : Tab w N l cs) (c : UInt8) : Tab (w.setCell ⟨N, c.toNat, none⟩ (.bool true)) N (l ++ [c]) (cs.setIfInBounds c.toNat (.bool true)) := by
  refine ⟨block_setCell h.hb _, by rw [Array.size_setIfInBounds]; exact h.sz, fun j hj => ?_⟩
  rw [inSet_snoc]
  by_cases e : c.toNat = j
  · rw [← e, set_same _ _ _ (by rw [h.sz]; omega)]; simp
  · rw [set_ne _ _ _ _ e, h.at_ j hj]; simp [e]

theorem Tab.cell {w : World} {N : Nat} {l : List UInt8} {cs : Array Value} (h : Tab w N l cs) (c : UInt8) : w.cell? ⟨N, c.toNat, none⟩ = some (.bool (inSet l c.toNat)) := by
  rw [cell_of_block h.hb]; exact h.at_ _ (by have := c.toNat_lt; omega)

set_option maxHeartbeats 800000 in
set_option maxRecDepth 100000 in
theorem while_any (b : Nat) (s t : ByteArray) (p : Nat) (w : World) (h : IsCur w b s p) (hs : s.size ≤ 2000000000000) (ht : t.size ≤ 2000000000000) :
    Calls Try.prog 24 #[.pointer (some ⟨b, 0, none⟩), .string t] w fun x w' => x = .returned (.string (str ((s.data.toList.drop p).takeWhile (fun c => inSet t.data.toList c.toNat)))) ∧ IsCur w' b s (p + ((s.data.toList.drop p).takeWhile (fun c => inSet t.data.toList c.toNat)).length) ∧ Kept b w w' := by
  have hlt := h.lt
  go_enter Try.func24, Try.ntmps24
  go_wp2_with fail
  go_loopw [11] (fun i wr => ∃ (k : Nat) (cs : Array Value), k ≤ t.size ∧ i = .int .i64 k ∧ Tab wr w.heap.size (t.data.toList.take k) cs ∧ Below w.heap.size w wr) (fun i _ => t.size - (intOf i).toNat)
  case atStart => exact ⟨0, _, Nat.zero_le _, rfl, Tab.start w, (Below.refl _ _).alloc (Nat.le_refl _) _⟩
  case round =>
    obtain ⟨k, cs, hk, rfl, htb, hbl⟩ := hrel
    by_cases hkt : k < t.size
    · have hst := htb.set t[k]
      rw [← take_snoc t k hkt] at hst
      have hc := htb.cell t[k]
      have hf := unfrozen_of_block htb.hb (t[k]).toNat
      have hi1 : (0 : Int) ≤ ((t[k]).toNat : Int) := by omega
      have hi2 : ((t[k]).toNat : Int) < 256 := by have := (t[k]).toNat_lt; omega
      have HST : Hid _ := hst
      clear hst
      go_wp2_with fail
      go_roundw
      case rel => exact ⟨k + 1, _, by omega, by go_num, HST.out, hbl.setCell (Nat.le_refl _) _⟩
      case measure => simp [intOf]; omega
    · have htb1 : Tab wr w.heap.size t.data.toList cs := by rw [← take_all t k (by omega)]; exact htb
      clear htb
      go_wp2_with fail
      refine (rest_any b s p wr (h.below hbl) hs).mono ?_
      rintro x w1 ⟨rfl, n, rfl⟩
      go_wp2_with fail
      have hrl := rest_list s p
      have hrs : (s.extract p s.size).size = s.size - p := by rw [← len_eq, hrl, List.length_drop, len_eq]
      have hcu := (h.below hbl).drewN n
      have hle := h.le
      clear h
      generalize s.extract p s.size = r at *
      have HRL : Hid (r.data.toList = s.data.toList.drop p) := hrl
      have hrz : r.size ≤ s.size := by omega
      clear hrl hrs
      go_loop [8] (fun i => ∃ k2 : Nat, k2 ≤ r.size ∧ i = .int .i64 k2 ∧ Hid ((r.data.toList.take k2).all (fun c => inSet t.data.toList c.toNat) = true)) (fun i => r.size - (intOf i).toNat)
      case atStart => exact ⟨0, Nat.zero_le _, rfl, rfl⟩
      case round =>
        obtain ⟨k2, hk2, rfl, hall⟩ := hrel
        by_cases hk3 : k2 < r.size
        · have hc := htb1.cell r[k2]
          have hi1 : (0 : Int) ≤ ((r[k2]).toNat : Int) := by omega
          have hi2 : ((r[k2]).toNat : Int) < 256 := by have := (r[k2]).toNat_lt; omega
          cases hin : inSet t.data.toList (r[k2]).toNat with
          | true =>
            rw [hin] at hc
            have HA : Hid ((r.data.toList.take (k2 + 1)).all (fun c => inSet t.data.toList c.toNat) = true) := by
              show List.all _ _ = true
              rw [take_snoc r k2 hk3, List.all_append, hall.out]; simp [hin]
            clear hin
            go_wp2_with fail
            go_round
            case rel => exact ⟨k2 + 1, by omega, by go_num, HA⟩
            case measure => simp [intOf]; omega
          | false =>
            rw [hin] at hc
            have HW := wh_stop r (fun c => inSet t.data.toList c.toNat) k2 hk2 hall.out (.inr ⟨hk3, hin⟩)
            clear hin
            have HP : Hid (Lib.hasPrefix (s.data.toList.drop p) (r.extract 0 k2).data.toList = true) := by
              show Lib.hasPrefix _ _ = true
              rw [← HRL.out, ext_list]
              exact List.isPrefixOf_iff_prefix.2 (List.take_prefix _ _)
            have hks : (r.extract 0 k2).size = k2 := by rw [← len_eq, ext_list, List.length_take, len_eq]; omega
            have HWL : Hid ((s.data.toList.drop p).takeWhile (fun c => inSet t.data.toList c.toNat) = (r.extract 0 k2).data.toList) := by
              show _ = _
              rw [← HRL.out, HW.out, ext_list]
            go_wp2_with fail
            go_region_with (go_at_call 43; refine (pass_cur b s (r.extract 0 k2) p _ (by exact hcu.of_block rfl) hs HP.out).mono ?_; rintro x w2 ⟨rfl, hc2, ho2⟩)
            all_goals
              go_wp2_with fail
              go_ret
              exact ⟨ret_str (by rw [HWL.out, str_of]), by rw [HWL.out, len_eq]; exact hc2, ((Kept.ofBelow b hbl).trans (Oth.drewN b _ _).kept).trans (Kept.trans (Oth.kept ⟨rfl, rfl, rfl, rfl, fun _ _ => rfl⟩) ho2.kept)⟩
        · have HW := wh_stop r (fun c => inSet t.data.toList c.toNat) k2 hk2 hall.out (.inl (by omega))
          have HP : Hid (Lib.hasPrefix (s.data.toList.drop p) (r.extract 0 k2).data.toList = true) := by
            show Lib.hasPrefix _ _ = true
            rw [← HRL.out, ext_list]
            exact List.isPrefixOf_iff_prefix.2 (List.take_prefix _ _)
          have hks : (r.extract 0 k2).size = k2 := by rw [← len_eq, ext_list, List.length_take, len_eq]; omega
          have HWL : Hid ((s.data.toList.drop p).takeWhile (fun c => inSet t.data.toList c.toNat) = (r.extract 0 k2).data.toList) := by
            show _ = _
            rw [← HRL.out, HW.out, ext_list]
          go_wp2_with fail
          go_region_with (go_at_call 43; refine (pass_cur b s (r.extract 0 k2) p _ (by exact hcu.of_block rfl) hs HP.out).mono ?_; rintro x w2 ⟨rfl, hc2, ho2⟩)
          all_goals
            go_wp2_with fail
            go_ret
            exact ⟨ret_str (by rw [HWL.out, str_of]), by rw [HWL.out, len_eq]; exact hc2, ((Kept.ofBelow b hbl).trans (Oth.drewN b _ _).kept).trans (Kept.trans (Oth.kept ⟨rfl, rfl, rfl, rfl, fun _ _ => rfl⟩) ho2.kept)⟩

end Go.Proofs.Ythcclkihfnjpfaa

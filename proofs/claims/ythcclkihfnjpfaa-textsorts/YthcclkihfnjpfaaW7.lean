/-
  Contracts of the cursor's methods.
-/
import Derived.Test.YthcclkihfnjpfaaW6
namespace Go.Proofs.Ythcclkihfnjpfaa
set_option linter.unusedVariables false
open Go.RowKit Go.Joins Go.Tx
attribute [local go_sem ↓] Go.wp_at_zero Go.wp_at_succ

/-- Block b is a cursor of s, behind its first p bytes. -/
structure IsCur (w : World) (b : Nat) (s : ByteArray) (p : Nat) : Prop where
  le : p ≤ s.size
  ex : ∃ cs, IsMark w b (s.data.toList.take p) cs 65 ∧ cs.size = 4 ∧ cs[3]? = some (.string s)

theorem tlen (s : ByteArray) (p : Nat) (h : p ≤ s.size) : (s.data.toList.take p).length = p := by rw [List.length_take, len_eq]; omega

theorem IsCur.cells {w : World} {b : Nat} {s : ByteArray} {p : Nat} (h : IsCur w b s p) : w.cell? ⟨b, 0, none⟩ = some (.int .i64 p) ∧ w.cell? ⟨b, 3, none⟩ = some (.string s) := by
  obtain ⟨hl, cs, hm, _, h3⟩ := h
  have h0 := hm.m.c0
  rw [tlen s p hl] at h0
  exact ⟨by rw [cell_of_block hm.hb]; exact h0, by rw [cell_of_block hm.hb]; exact h3⟩

theorem IsCur.of_block {w w' : World} {b : Nat} {s : ByteArray} {p : Nat} (h : IsCur w b s p) (e : w'.heap[b]? = w.heap[b]?) : IsCur w' b s p := by
  obtain ⟨hl, cs, hm, hz, h3⟩ := h
  exact ⟨hl, cs, ⟨by rw [e]; exact hm.hb, hm.m⟩, hz, h3⟩

theorem IsCur.drewN {w : World} {b : Nat} {s : ByteArray} {p : Nat} (h : IsCur w b s p) (n : Nat) : IsCur (w.drewN n) b s p := h.of_block (w' := w.drewN n) rfl

theorem IsCur.lt {w : World} {b : Nat} {s : ByteArray} {p : Nat} (h : IsCur w b s p) : b < w.heap.size := by
  obtain ⟨hl, cs, hm, hz, h3⟩ := h
  rcases Nat.lt_or_ge b w.heap.size with h | h
  · exact h
  · have := hm.hb; rw [Array.getElem?_eq_none h] at this; cases this

theorem IsCur.below {w w' : World} {b : Nat} {s : ByteArray} {p : Nat} (h : IsCur w b s p) (hb : Below w.heap.size w w') : IsCur w' b s p := h.of_block (hb.block b h.lt)

set_option maxHeartbeats 400000 in
theorem new_any (s : ByteArray) (w : World) :
    Calls Try.prog 18 #[.string s] w fun x w' => x = .returned (.pointer (some ⟨w.heap.size, 0, none⟩)) ∧ w' = w.alloc (.cells #[.int .i64 0, .int .i64 0, .int .i64 0, .string s] 65) := by
  go_enter Try.func18, Try.ntmps18
  go_wp2_with fail
  go_ret
  exact ⟨rfl, rfl⟩

theorem new_cur (s : ByteArray) (w : World) : IsCur (w.alloc (.cells #[.int .i64 0, .int .i64 0, .int .i64 0, .string s] 65)) w.heap.size s 0 :=
  ⟨Nat.zero_le _, _, ⟨heap_alloc_new w _, rfl, rfl, rfl⟩, rfl, rfl⟩

set_option maxHeartbeats 400000 in
theorem at_any (b : Nat) (s : ByteArray) (p : Nat) (w : World) (h : IsCur w b s p) :
    Calls Try.prog 26 #[.pointer (some ⟨b, 0, none⟩)] w fun x w' => x = .returned (.int .i64 p) ∧ w' = w := by
  obtain ⟨c0, -⟩ := h.cells
  clear h
  go_enter Try.func26, Try.ntmps26
  go_wp2_with fail
  go_ret
  exact ⟨rfl, rfl⟩

set_option maxHeartbeats 400000 in
theorem rest_any (b : Nat) (s : ByteArray) (p : Nat) (w : World) (h : IsCur w b s p) (hs : s.size ≤ 2000000000000) :
    Calls Try.prog 46 #[.pointer (some ⟨b, 0, none⟩)] w fun x w' => x = .returned (.string (s.extract p s.size)) ∧ ∃ n, w' = w.drewN n := by
  obtain ⟨c0, c3⟩ := h.cells
  have hl := h.le
  have i1 : (0 : Int) ≤ (p : Int) := by omega
  have i2 : (p : Int) ≤ (s.size : Int) := by omega
  clear h
  go_enter Try.func46, Try.ntmps46
  go_wp2_with fail
  go_quiet (fail)
  go_wp2_with fail
  go_ret
  exact ⟨rfl, _, rfl⟩

set_option maxHeartbeats 400000 in
theorem peek_in (b : Nat) (s : ByteArray) (p : Nat) (w : World) (h : IsCur w b s p) (hs : s.size ≤ 2000000000000) (hp : p < s.size) :
    Calls Try.prog 20 #[.pointer (some ⟨b, 0, none⟩)] w fun x w' => x = .returned (.tuple #[.int .u8 (s[p].toNat : Int), .bool true]) ∧ ∃ n, w' = w.drewN n := by
  obtain ⟨c0, c3⟩ := h.cells
  have i1 : (0 : Int) ≤ (p : Int) := by omega
  have i2 : (p : Int) < (s.size : Int) := by omega
  clear h
  go_enter Try.func20, Try.ntmps20
  go_wp2_with fail
  go_quiet (fail)
  go_wp2_with fail
  go_quiet (fail)
  go_wp2_with fail
  go_ret2
  exact ⟨rfl, _, World.drewN_drewN _ _ _⟩

set_option maxHeartbeats 400000 in
theorem peek_end (b : Nat) (s : ByteArray) (p : Nat) (w : World) (h : IsCur w b s p) (hs : s.size ≤ 2000000000000) (hp : ¬ p < s.size) :
    Calls Try.prog 20 #[.pointer (some ⟨b, 0, none⟩)] w fun x w' => x = .returned (.tuple #[.int .u8 0, .bool false]) ∧ ∃ n, w' = w.drewN n := by
  obtain ⟨c0, c3⟩ := h.cells
  have i2 : (s.size : Int) ≤ (p : Int) := by omega
  clear h
  go_enter Try.func20, Try.ntmps20
  go_wp2_with fail
  go_quiet (fail)
  go_wp2_with fail
  go_ret2
  exact ⟨rfl, _, rfl⟩

/-- All but block b is as it was. -/
structure Oth (b : Nat) (w w' : World) : Prop where
  os : w'.os = w.os
  tape : w'.tape = w.tape
  output : w'.output = w.output
  size : w'.heap.size = w.heap.size
  block : ∀ k, k ≠ b → w'.heap[k]? = w.heap[k]?

theorem Oth.refl (b : Nat) (w : World) : Oth b w w := ⟨rfl, rfl, rfl, rfl, fun _ _ => rfl⟩
theorem Oth.drewN (b : Nat) (w : World) (n : Nat) : Oth b w (w.drewN n) := ⟨rfl, rfl, rfl, rfl, fun _ _ => rfl⟩
theorem Oth.trans {b : Nat} {w w' w'' : World} (h : Oth b w w') (k : Oth b w' w'') : Oth b w w'' :=
  ⟨k.os.trans h.os, k.tape.trans h.tape, k.output.trans h.output, k.size.trans h.size, fun i hi => (k.block i hi).trans (h.block i hi)⟩
theorem Upd.oth {b : Nat} {o : Obj} {w w' : World} (h : Upd b o w w') : Oth b w w' := ⟨h.os, h.tape, h.output, h.size, h.block⟩
theorem Oth.below {b B : Nat} {w w' : World} (h : Oth b w w') (hB : B ≤ b) : Below B w w' := ⟨h.os, h.tape, h.output, by rw [h.size]; exact Nat.le_refl _, fun k hk => h.block k (by omega)⟩

theorem rest_list (s : ByteArray) (p : Nat) : (s.extract p s.size).data.toList = s.data.toList.drop p := by
  have e : s.data.toList.length = s.size := len_eq s
  simp
  rw [List.take_of_length_le]
  simp

/-- The mark passed over the next bytes: the cursor is behind them. -/
theorem pass_cur (b : Nat) (s r : ByteArray) (p : Nat) (w : World) (h : IsCur w b s p) (hs : s.size ≤ 2000000000000) (hr : Lib.hasPrefix (s.data.toList.drop p) r.data.toList = true) :
    Calls Try.prog 43 #[.pointer (some ⟨b, 0, none⟩), .string r] w fun x w' => x = .returned (.tuple #[]) ∧ IsCur w' b s (p + r.size) ∧ Oth b w w' := by
  obtain ⟨hl, cs, hm, hz, h3⟩ := h
  have hp : r.data.toList <+: s.data.toList.drop p := List.isPrefixOf_iff_prefix.1 hr
  obtain ⟨z, hz2⟩ := hp
  have hlen := congrArg List.length hz2
  rw [List.length_append, List.length_drop, len_eq, len_eq] at hlen
  have htk : s.data.toList.take p ++ r.data.toList = s.data.toList.take (p + r.size) := by
    rw [List.take_add, ← hz2, ← len_eq r, List.take_left]
  refine (pass_any b cs _ _ r w hm (by omega) (by rw [tlen s p hl]; omega) (by omega)).mono ?_
  rintro x w' ⟨rfl, cs', hm', hz', hj, hu⟩
  rw [htk] at hm'
  exact ⟨rfl, ⟨by omega, cs', hm', by omega, by rw [hj 3 (by omega)]; exact h3⟩, hu.oth⟩

set_option maxHeartbeats 400000 in
theorem take_yes (b : Nat) (s r : ByteArray) (p : Nat) (w : World) (h : IsCur w b s p) (hs : s.size ≤ 2000000000000) (hr : Lib.hasPrefix (s.data.toList.drop p) r.data.toList = true) :
    Calls Try.prog 22 #[.pointer (some ⟨b, 0, none⟩), .string r] w fun x w' => x = .returned (.bool true) ∧ IsCur w' b s (p + r.size) ∧ Oth b w w' := by
  have HR : Hid (Lib.hasPrefix (s.extract p s.size).data.toList r.data.toList = true) := by rw [rest_list]; exact hr
  go_enter Try.func22, Try.ntmps22
  go_wp2_with fail
  refine (rest_any b s p w h hs).mono ?_
  rintro x w1 ⟨rfl, n, rfl⟩
  go_wp2_with fail
  refine (hasPrefix_any _ _ _).mono ?_
  rintro x w2 ⟨rfl, rfl⟩
  rw [HR.out]
  go_wp2_with fail
  refine (pass_cur b s r p _ (h.drewN n) hs hr).mono ?_
  rintro x w3 ⟨rfl, hc, ho⟩
  go_wp2_with fail
  go_ret
  exact ⟨rfl, hc, (Oth.drewN b w n).trans ho⟩

set_option maxHeartbeats 400000 in
theorem take_no (b : Nat) (s r : ByteArray) (p : Nat) (w : World) (h : IsCur w b s p) (hs : s.size ≤ 2000000000000) (hr : Lib.hasPrefix (s.data.toList.drop p) r.data.toList = false) :
    Calls Try.prog 22 #[.pointer (some ⟨b, 0, none⟩), .string r] w fun x w' => x = .returned (.bool false) ∧ ∃ n, w' = w.drewN n := by
  have HR : Hid (Lib.hasPrefix (s.extract p s.size).data.toList r.data.toList = false) := by rw [rest_list]; exact hr
  go_enter Try.func22, Try.ntmps22
  go_wp2_with fail
  refine (rest_any b s p w h hs).mono ?_
  rintro x w1 ⟨rfl, n, rfl⟩
  go_wp2_with fail
  refine (hasPrefix_any _ _ _).mono ?_
  rintro x w2 ⟨rfl, rfl⟩
  rw [HR.out]
  go_wp2_with fail
  go_ret
  exact ⟨rfl, n, rfl⟩

/-- Take: whether the bytes are next; then it is behind them. -/
theorem take_any (b : Nat) (s r : ByteArray) (p : Nat) (w : World) (h : IsCur w b s p) (hs : s.size ≤ 2000000000000) :
    Calls Try.prog 22 #[.pointer (some ⟨b, 0, none⟩), .string r] w fun x w' => x = .returned (.bool (Lib.hasPrefix (s.data.toList.drop p) r.data.toList)) ∧ IsCur w' b s (if Lib.hasPrefix (s.data.toList.drop p) r.data.toList = true then p + r.size else p) ∧ Oth b w w' := by
  cases hr : Lib.hasPrefix (s.data.toList.drop p) r.data.toList with
  | true => exact take_yes b s r p w h hs hr
  | false =>
    refine (take_no b s r p w h hs hr).mono ?_
    rintro x w' ⟨rfl, n, rfl⟩
    exact ⟨rfl, by simpa using h.drewN n, Oth.drewN b w n⟩

set_option maxHeartbeats 800000 in
set_option maxRecDepth 100000 in
theorem cplace_any (b : Nat) (s : ByteArray) (p : Nat) (w : World) (h : IsCur w b s p) (hs : s.size ≤ 2000000000000) :
    Calls Try.prog 28 #[.pointer (some ⟨b, 0, none⟩)] w fun x w' => x = .returned (plc (s.data.toList.take p)) ∧ Below w.heap.size w w' := by
  have hlt := h.lt
  obtain ⟨hl, cs, hm, hz, h3⟩ := h
  have hm1 : IsMark (w.alloc (.cells #[.int .i64 0, .int .i64 0] 28)) b (s.data.toList.take p) cs 65 := ⟨by rw [Below.heap_alloc w _ b hlt]; exact hm.hb, hm.m⟩
  have hle : (s.data.toList.take p).length ≤ 2000000000000 := by rw [tlen s p hl]; omega
  go_enter Try.func28, Try.ntmps28
  go_wp2_with fail
  refine (mplace_any _ _ _ _ _ hm1 hle).mono ?_
  rintro x w2 ⟨rfl, hb2⟩
  have c0 : w2.cell? ⟨w.heap.size, 0, none⟩ = some (.int .i64 0) := by
    rw [hb2.cell (by simp)]; simp [go_sem]
  have c1 : w2.cell? ⟨w.heap.size, 1, none⟩ = some (.int .i64 0) := by
    rw [hb2.cell (by simp)]; simp [go_sem]
  have f0 : w2.frozen? ⟨w.heap.size, 0, none⟩ = false := by
    rw [hb2.frozen (by simp)]; simp [go_sem]
  have f1 : w2.frozen? ⟨w.heap.size, 1, none⟩ = false := by
    rw [hb2.frozen (by simp)]; simp [go_sem]
  have HB : Below w.heap.size w w2 := ((Below.refl _ _).alloc (Nat.le_refl _) _).trans (hb2.mono (by simp))
  generalize hl2 : s.data.toList.take p = l at *
  unfold plc
  go_wp2_with fail
  refine bodyPost_ret (v := plc l) ?_ rfl ⟨by rw [hl2], ?_⟩
  · have d0 : ∀ u, (w2.setCell ⟨w.heap.size, 0, none⟩ u).cell? ⟨w.heap.size, 0, none⟩ = some u := fun u => set_cell c0 u
    have d1 : ∀ u v, ((w2.setCell ⟨w.heap.size, 0, none⟩ u).setCell ⟨w.heap.size, 1, none⟩ v).cell? ⟨w.heap.size, 1, none⟩ = some v := fun u v => set_cell (v := .int .i64 0) (by simp [go_sem, c1]) v
    simp [results, Try.results28, go_sem, plc, d0, d1]
  · exact (HB.setCell (by simp) _).setCell (by simp) _

end Go.Proofs.Ythcclkihfnjpfaa

/-
  Contracts of the cursor's methods.
  Contracts of While and of next.
-/
import Derived.Test.YtnmmhihfnphjeaaGreatDoorG03

namespace Go.Proofs.YtnmmhihfnphjeaaGreatDoor.W
set_option linter.unusedVariables false
open Go.RowKit Go.Joins Go.Tx
attribute [local go_sem ↓] Go.wp_at_zero Go.wp_at_succ

/-- Block b is a cursor of s, behind its first p bytes. -/
structure IsCur (w : World) (b : Nat) (s : ByteArray) (p : Nat) : Prop where
  le : p ≤ s.size
  ex : ∃ cs, IsMark w b (s.data.toList.take p) cs 86 ∧ cs.size = 4 ∧ cs[3]? = some (.string s)

theorem tlen (s : ByteArray) (p : Nat) (h : p ≤ s.size) : (s.data.toList.take p).length = p := by rw [List.length_take, len_eq]; omega

theorem IsCur.cells {w : World} {b : Nat} {s : ByteArray} {p : Nat} (h : IsCur w b s p) : w.cell? ⟨b, 0, none⟩ = some (.int .i64 p) ∧ w.cell? ⟨b, 3, none⟩ = some (.string s) := by
  obtain ⟨hl, cs, hm, _, h3⟩ := h
  have h0 := hm.m.c0
  rw [tlen s p hl] at h0
  exact ⟨by rw [cell_of_block hm.hb]; exact h0, by rw [cell_of_block hm.hb]; exact h3⟩

theorem IsCur.of_block {w w' : World} {b : Nat} {s : ByteArray} {p : Nat} (h : IsCur w b s p) (e : w'.heap[b]? = w.heap[b]?) : IsCur w' b s p := by
  obtain ⟨hl, cs, hm, hz, h3⟩ := h
  exact ⟨hl, cs, ⟨by rw [e]; exact hm.hb, hm.m⟩, hz, h3⟩

theorem IsCur.drewN {w : World} {b : Nat} {s : ByteArray} {p : Nat} (h : IsCur w b s p) (n : Nat) : IsCur (w.drewN n) b s p := h.of_block (w' := w.drewN n) rfl

theorem IsCur.lt {w : World} {b : Nat} {s : ByteArray} {p : Nat} (h : IsCur w b s p) : b < w.heap.size := by
  obtain ⟨hl, cs, hm, hz, h3⟩ := h
  rcases Nat.lt_or_ge b w.heap.size with h | h
  · exact h
  · have := hm.hb; rw [Array.getElem?_eq_none h] at this; cases this

theorem IsCur.below {w w' : World} {b : Nat} {s : ByteArray} {p : Nat} (h : IsCur w b s p) (hb : Below w.heap.size w w') : IsCur w' b s p := h.of_block (hb.block b h.lt)

set_option maxHeartbeats 400000 in
theorem new_any (s : ByteArray) (w : World) :
    Calls Tryz.prog 25 #[.string s] w fun x w' => x = .returned (.pointer (some ⟨w.heap.size, 0, none⟩)) ∧ w' = w.alloc (.cells #[.int .i64 0, .int .i64 0, .int .i64 0, .string s] 86) := by
  go_enter Tryz.func25, Tryz.ntmps25
  go_wp2_with fail
  go_ret
  exact ⟨rfl, rfl⟩

theorem new_cur (s : ByteArray) (w : World) : IsCur (w.alloc (.cells #[.int .i64 0, .int .i64 0, .int .i64 0, .string s] 86)) w.heap.size s 0 :=
  ⟨Nat.zero_le _, _, ⟨heap_alloc_new w _, rfl, rfl, rfl⟩, rfl, rfl⟩

set_option maxHeartbeats 400000 in
theorem at_any (b : Nat) (s : ByteArray) (p : Nat) (w : World) (h : IsCur w b s p) :
    Calls Tryz.prog 109 #[.pointer (some ⟨b, 0, none⟩)] w fun x w' => x = .returned (.int .i64 p) ∧ w' = w := by
  obtain ⟨c0, -⟩ := h.cells
  clear h
  go_enter Tryz.func109, Tryz.ntmps109
  go_wp2_with fail
  go_ret
  exact ⟨rfl, rfl⟩

set_option maxHeartbeats 400000 in
theorem rest_any (b : Nat) (s : ByteArray) (p : Nat) (w : World) (h : IsCur w b s p) (hs : s.size ≤ 2000000000000) :
    Calls Tryz.prog 73 #[.pointer (some ⟨b, 0, none⟩)] w fun x w' => x = .returned (.string (s.extract p s.size)) ∧ ∃ n, w' = w.drewN n := by
  obtain ⟨c0, c3⟩ := h.cells
  have hl := h.le
  have i1 : (0 : Int) ≤ (p : Int) := by omega
  have i2 : (p : Int) ≤ (s.size : Int) := by omega
  clear h
  go_enter Tryz.func73, Tryz.ntmps73
  go_wp2_with fail
  go_quiet (fail)
  go_wp2_with fail
  go_ret
  exact ⟨rfl, _, rfl⟩

set_option maxHeartbeats 400000 in
theorem peek_in (b : Nat) (s : ByteArray) (p : Nat) (w : World) (h : IsCur w b s p) (hs : s.size ≤ 2000000000000) (hp : p < s.size) :
    Calls Tryz.prog 44 #[.pointer (some ⟨b, 0, none⟩)] w fun x w' => x = .returned (.tuple #[.int .u8 (s[p].toNat : Int), .bool true]) ∧ ∃ n, w' = w.drewN n := by
  obtain ⟨c0, c3⟩ := h.cells
  have i1 : (0 : Int) ≤ (p : Int) := by omega
  have i2 : (p : Int) < (s.size : Int) := by omega
  clear h
  go_enter Tryz.func44, Tryz.ntmps44
  go_wp2_with fail
  go_quiet (fail)
  go_wp2_with fail
  go_quiet (fail)
  go_wp2_with fail
  go_ret2
  exact ⟨rfl, _, World.drewN_drewN _ _ _⟩

set_option maxHeartbeats 400000 in
theorem peek_end (b : Nat) (s : ByteArray) (p : Nat) (w : World) (h : IsCur w b s p) (hs : s.size ≤ 2000000000000) (hp : ¬ p < s.size) :
    Calls Tryz.prog 44 #[.pointer (some ⟨b, 0, none⟩)] w fun x w' => x = .returned (.tuple #[.int .u8 0, .bool false]) ∧ ∃ n, w' = w.drewN n := by
  obtain ⟨c0, c3⟩ := h.cells
  have i2 : (s.size : Int) ≤ (p : Int) := by omega
  clear h
  go_enter Tryz.func44, Tryz.ntmps44
  go_wp2_with fail
  go_quiet (fail)
  go_wp2_with fail
  go_ret2
  exact ⟨rfl, _, rfl⟩

/-- All but block b is as it was. -/
structure Oth (b : Nat) (w w' : World) : Prop where
  os : w'.os = w.os
  tape : w'.tape = w.tape
  output : w'.output = w.output
  size : w'.heap.size = w.heap.size
  block : ∀ k, k ≠ b → w'.heap[k]? = w.heap[k]?

theorem Oth.refl (b : Nat) (w : World) : Oth b w w := ⟨rfl, rfl, rfl, rfl, fun _ _ => rfl⟩
theorem Oth.drewN (b : Nat) (w : World) (n : Nat) : Oth b w (w.drewN n) := ⟨rfl, rfl, rfl, rfl, fun _ _ => rfl⟩
theorem Oth.trans {b : Nat} {w w' w'' : World} (h : Oth b w w') (k : Oth b w' w'') : Oth b w w'' :=
  ⟨k.os.trans h.os, k.tape.trans h.tape, k.output.trans h.output, k.size.trans h.size, fun i hi => (k.block i hi).trans (h.block i hi)⟩
theorem Upd.oth {b : Nat} {o : Obj} {w w' : World} (h : Upd b o w w') : Oth b w w' := ⟨h.os, h.tape, h.output, h.size, h.block⟩
theorem Oth.below {b B : Nat} {w w' : World} (h : Oth b w w') (hB : B ≤ b) : Below B w w' := ⟨h.os, h.tape, h.output, by rw [h.size]; exact Nat.le_refl _, fun k hk => h.block k (by omega)⟩

theorem rest_list (s : ByteArray) (p : Nat) : (s.extract p s.size).data.toList = s.data.toList.drop p := by
  have e : s.data.toList.length = s.size := len_eq s
  simp
  rw [List.take_of_length_le]
  simp

/-- The mark passed over the next bytes: the cursor is behind them. -/
theorem pass_cur (b : Nat) (s r : ByteArray) (p : Nat) (w : World) (h : IsCur w b s p) (hs : s.size ≤ 2000000000000) (hr : Lib.hasPrefix (s.data.toList.drop p) r.data.toList = true) :
    Calls Tryz.prog 41 #[.pointer (some ⟨b, 0, none⟩), .string r] w fun x w' => x = .returned (.tuple #[]) ∧ IsCur w' b s (p + r.size) ∧ Oth b w w' := by
  obtain ⟨hl, cs, hm, hz, h3⟩ := h
  have hp : r.data.toList <+: s.data.toList.drop p := List.isPrefixOf_iff_prefix.1 hr
  obtain ⟨z, hz2⟩ := hp
  have hlen := congrArg List.length hz2
  rw [List.length_append, List.length_drop, len_eq, len_eq] at hlen
  have htk : s.data.toList.take p ++ r.data.toList = s.data.toList.take (p + r.size) := by
    rw [List.take_add, ← hz2, ← len_eq r, List.take_left]
  refine (pass_any b cs _ _ r w hm (by omega) (by rw [tlen s p hl]; omega) (by omega)).mono ?_
  rintro x w' ⟨rfl, cs', hm', hz', hj, hu⟩
  rw [htk] at hm'
  exact ⟨rfl, ⟨by omega, cs', hm', by omega, by rw [hj 3 (by omega)]; exact h3⟩, hu.oth⟩

set_option maxHeartbeats 400000 in
theorem take_yes (b : Nat) (s r : ByteArray) (p : Nat) (w : World) (h : IsCur w b s p) (hs : s.size ≤ 2000000000000) (hr : Lib.hasPrefix (s.data.toList.drop p) r.data.toList = true) :
    Calls Tryz.prog 77 #[.pointer (some ⟨b, 0, none⟩), .string r] w fun x w' => x = .returned (.bool true) ∧ IsCur w' b s (p + r.size) ∧ Oth b w w' := by
  have HR : Hid (Lib.hasPrefix (s.extract p s.size).data.toList r.data.toList = true) := by rw [rest_list]; exact hr
  go_enter Tryz.func77, Tryz.ntmps77
  go_wp2_with fail
  refine (rest_any b s p w h hs).mono ?_
  rintro x w1 ⟨rfl, n, rfl⟩
  go_wp2_with fail
  refine (hasPrefix_any _ _ _).mono ?_
  rintro x w2 ⟨rfl, rfl⟩
  rw [HR.out]
  go_wp2_with fail
  refine (pass_cur b s r p _ (h.drewN n) hs hr).mono ?_
  rintro x w3 ⟨rfl, hc, ho⟩
  go_wp2_with fail
  go_ret
  exact ⟨rfl, hc, (Oth.drewN b w n).trans ho⟩

set_option maxHeartbeats 400000 in
theorem take_no (b : Nat) (s r : ByteArray) (p : Nat) (w : World) (h : IsCur w b s p) (hs : s.size ≤ 2000000000000) (hr : Lib.hasPrefix (s.data.toList.drop p) r.data.toList = false) :
    Calls Tryz.prog 77 #[.pointer (some ⟨b, 0, none⟩), .string r] w fun x w' => x = .returned (.bool false) ∧ ∃ n, w' = w.drewN n := by
  have HR : Hid (Lib.hasPrefix (s.extract p s.size).data.toList r.data.toList = false) := by rw [rest_list]; exact hr
  go_enter Tryz.func77, Tryz.ntmps77
  go_wp2_with fail
  refine (rest_any b s p w h hs).mono ?_
  rintro x w1 ⟨rfl, n, rfl⟩
  go_wp2_with fail
  refine (hasPrefix_any _ _ _).mono ?_
  rintro x w2 ⟨rfl, rfl⟩
  rw [HR.out]
  go_wp2_with fail
  go_ret
  exact ⟨rfl, n, rfl⟩

/-- Take: whether the bytes are next; then it is behind them. -/
theorem take_any (b : Nat) (s r : ByteArray) (p : Nat) (w : World) (h : IsCur w b s p) (hs : s.size ≤ 2000000000000) :
    Calls Tryz.prog 77 #[.pointer (some ⟨b, 0, none⟩), .string r] w fun x w' => x = .returned (.bool (Lib.hasPrefix (s.data.toList.drop p) r.data.toList)) ∧ IsCur w' b s (if Lib.hasPrefix (s.data.toList.drop p) r.data.toList = true then p + r.size else p) ∧ Oth b w w' := by
  cases hr : Lib.hasPrefix (s.data.toList.drop p) r.data.toList with
  | true => exact take_yes b s r p w h hs hr
  | false =>
    refine (take_no b s r p w h hs hr).mono ?_
    rintro x w' ⟨rfl, n, rfl⟩
    exact ⟨rfl, by simpa using h.drewN n, Oth.drewN b w n⟩

set_option maxHeartbeats 800000 in
set_option maxRecDepth 100000 in
theorem cplace_any (b : Nat) (s : ByteArray) (p : Nat) (w : World) (h : IsCur w b s p) (hs : s.size ≤ 2000000000000) :
    Calls Tryz.prog 27 #[.pointer (some ⟨b, 0, none⟩)] w fun x w' => x = .returned (plc (s.data.toList.take p)) ∧ Below w.heap.size w w' := by
  have hlt := h.lt
  obtain ⟨hl, cs, hm, hz, h3⟩ := h
  have hm1 : IsMark (w.alloc (.cells #[.int .i64 0, .int .i64 0] 32)) b (s.data.toList.take p) cs 86 := ⟨by rw [Below.heap_alloc w _ b hlt]; exact hm.hb, hm.m⟩
  have hle : (s.data.toList.take p).length ≤ 2000000000000 := by rw [tlen s p hl]; omega
  go_enter Tryz.func27, Tryz.ntmps27
  go_wp2_with fail
  refine (mplace_any _ _ _ _ _ hm1 hle).mono ?_
  rintro x w2 ⟨rfl, hb2⟩
  have c0 : w2.cell? ⟨w.heap.size, 0, none⟩ = some (.int .i64 0) := by
    rw [hb2.cell (by simp)]; simp [go_sem]
  have c1 : w2.cell? ⟨w.heap.size, 1, none⟩ = some (.int .i64 0) := by
    rw [hb2.cell (by simp)]; simp [go_sem]
  have f0 : w2.frozen? ⟨w.heap.size, 0, none⟩ = false := by
    rw [hb2.frozen (by simp)]; simp [go_sem]
  have f1 : w2.frozen? ⟨w.heap.size, 1, none⟩ = false := by
    rw [hb2.frozen (by simp)]; simp [go_sem]
  have HB : Below w.heap.size w w2 := ((Below.refl _ _).alloc (Nat.le_refl _) _).trans (hb2.mono (by simp))
  generalize hl2 : s.data.toList.take p = l at *
  unfold plc
  go_wp2_with fail
  refine bodyPost_ret (v := plc l) ?_ rfl ⟨by rw [hl2], ?_⟩
  · have d0 : ∀ u, (w2.setCell ⟨w.heap.size, 0, none⟩ u).cell? ⟨w.heap.size, 0, none⟩ = some u := fun u => set_cell c0 u
    have d1 : ∀ u v, ((w2.setCell ⟨w.heap.size, 0, none⟩ u).setCell ⟨w.heap.size, 1, none⟩ v).cell? ⟨w.heap.size, 1, none⟩ = some v := fun u v => set_cell (v := .int .i64 0) (by simp [go_sem, c1]) v
    simp [results, Tryz.results27, go_sem, plc, d0, d1]
  · exact (HB.setCell (by simp) _).setCell (by simp) _

end Go.Proofs.YtnmmhihfnphjeaaGreatDoor.W

namespace Go.Proofs.YtnmmhihfnphjeaaGreatDoor.W
set_option linter.unusedVariables false
open Go.RowKit Go.Joins Go.Tx
attribute [local go_sem ↓] Go.wp_at_zero Go.wp_at_succ

/-- Is a byte in a set? -/
def inSet (l : List UInt8) (j : Nat) : Bool := l.any fun c => c.toNat == j

theorem inSet_snoc (l : List UInt8) (c : UInt8) (j : Nat) : inSet (l ++ [c]) j = (inSet l j || (c.toNat == j)) := by simp [inSet, List.any_append]

theorem ext_list (r : ByteArray) (k : Nat) : (r.extract 0 k).data.toList = r.data.toList.take k := by simp

theorem wh_stop (r : ByteArray) (f : UInt8 → Bool) (k : Nat) (hk : k ≤ r.size) (h : (r.data.toList.take k).all f = true) (hs : k = r.size ∨ ∃ hl : k < r.size, f r[k] = false) : Hid (r.data.toList.takeWhile f = r.data.toList.take k) := by
  show _ = _
  have hsplit := List.take_append_drop k r.data.toList
  have h1 : (r.data.toList.take k ++ r.data.toList.drop k).takeWhile f = r.data.toList.take k ++ (r.data.toList.drop k).takeWhile f :=
    List.takeWhile_append_of_pos (fun a ha => List.all_eq_true.1 h a ha)
  rw [hsplit] at h1
  rw [h1]
  have : (r.data.toList.drop k).takeWhile f = [] := by
    rcases hs with hs | ⟨hl, hf⟩
    · rw [List.drop_eq_nil_of_le (by rw [len_eq]; omega)]; rfl
    · have e : r.data.toList.drop k = r[k] :: r.data.toList.drop (k + 1) := by
        rw [List.drop_eq_getElem_cons (by rw [len_eq]; omega)]; rfl
      rw [e, List.takeWhile_cons, hf]; rfl
  rw [this, List.append_nil]

/-- All that was there, but for block b, is as it was. -/
structure Kept (b : Nat) (w w' : World) : Prop where
  os : w'.os = w.os
  tape : w'.tape = w.tape
  output : w'.output = w.output
  size : w.heap.size ≤ w'.heap.size
  block : ∀ k, k < w.heap.size → k ≠ b → w'.heap[k]? = w.heap[k]?

theorem Kept.refl (b : Nat) (w : World) : Kept b w w := ⟨rfl, rfl, rfl, Nat.le_refl _, fun _ _ _ => rfl⟩
theorem Kept.trans {b : Nat} {w w' w'' : World} (h : Kept b w w') (k : Kept b w' w'') : Kept b w w'' :=
  ⟨k.os.trans h.os, k.tape.trans h.tape, k.output.trans h.output, Nat.le_trans h.size k.size, fun i hi hb => (k.block i (Nat.lt_of_lt_of_le hi h.size) hb).trans (h.block i hi hb)⟩
theorem Oth.kept {b : Nat} {w w' : World} (h : Oth b w w') : Kept b w w' := ⟨h.os, h.tape, h.output, by rw [h.size]; exact Nat.le_refl _, fun k _ hb => h.block k hb⟩
theorem Kept.ofBelow {w w' : World} (b : Nat) (h : Below w.heap.size w w') : Kept b w w' := ⟨h.os, h.tape, h.output, h.size, fun k hk _ => h.block k hk⟩
theorem Kept.below {b B : Nat} {w w' : World} (h : Kept b w w') (hB : B ≤ b) (hw : B ≤ w.heap.size) : Below B w w' := ⟨h.os, h.tape, h.output, h.size, fun k hk => h.block k (by omega) (by omega)⟩

/-- The table of a set, in block N. -/
structure Tab (w : World) (N : Nat) (l : List UInt8) (cs : Array Value) : Prop where
  hb : w.heap[N]? = some (.cells cs 121 (0, 0))
  sz : cs.size = 256
  at_ : ∀ j, j < 256 → cs[j]? = some (.bool (inSet l j))

theorem zero_tab : Tryz.zeroCells121 = Array.replicate 256 (.bool false) := by kernel_rfl

theorem Tab.start (w : World) : Tab (w.alloc (.cells Tryz.zeroCells121 121)) w.heap.size [] Tryz.zeroCells121 :=
  ⟨heap_alloc_new w _, by rw [zero_tab]; simp, fun j hj => by rw [zero_tab]; simp [inSet, hj]⟩

theorem Tab.set {w : World} {N : Nat} {l : List UInt8} {cs : Array Value} (h : Tab w N l cs) (c : UInt8) : Tab (w.setCell ⟨N, c.toNat, none⟩ (.bool true)) N (l ++ [c]) (cs.setIfInBounds c.toNat (.bool true)) := by
  refine ⟨block_setCell h.hb _, by rw [Array.size_setIfInBounds]; exact h.sz, fun j hj => ?_⟩
  rw [inSet_snoc]
  by_cases e : c.toNat = j
  · rw [← e, set_same _ _ _ (by rw [h.sz]; omega)]; simp
  · rw [set_ne _ _ _ _ e, h.at_ j hj]; simp [e]

theorem Tab.cell {w : World} {N : Nat} {l : List UInt8} {cs : Array Value} (h : Tab w N l cs) (c : UInt8) : w.cell? ⟨N, c.toNat, none⟩ = some (.bool (inSet l c.toNat)) := by
  rw [cell_of_block h.hb]; exact h.at_ _ (by have := c.toNat_lt; omega)

set_option maxHeartbeats 800000 in
set_option maxRecDepth 100000 in
theorem while_any (b : Nat) (s t : ByteArray) (p : Nat) (w : World) (h : IsCur w b s p) (hs : s.size ≤ 2000000000000) (ht : t.size ≤ 2000000000000) :
    Calls Tryz.prog 60 #[.pointer (some ⟨b, 0, none⟩), .string t] w fun x w' => x = .returned (.string (str ((s.data.toList.drop p).takeWhile (fun c => inSet t.data.toList c.toNat)))) ∧ IsCur w' b s (p + ((s.data.toList.drop p).takeWhile (fun c => inSet t.data.toList c.toNat)).length) ∧ Kept b w w' := by
  have hlt := h.lt
  go_enter Tryz.func60, Tryz.ntmps60
  go_wp2_with fail
  go_loopw [11] (fun i wr => ∃ (k : Nat) (cs : Array Value), k ≤ t.size ∧ i = .int .i64 k ∧ Tab wr w.heap.size (t.data.toList.take k) cs ∧ Below w.heap.size w wr) (fun i _ => t.size - (RowKit.intOf i).toNat)
  case atStart => exact ⟨0, _, Nat.zero_le _, rfl, Tab.start w, (Below.refl _ _).alloc (Nat.le_refl _) _⟩
  case round =>
    obtain ⟨k, cs, hk, rfl, htb, hbl⟩ := hrel
    by_cases hkt : k < t.size
    · have hst := htb.set t[k]
      rw [← take_snoc t k hkt] at hst
      have hc := htb.cell t[k]
      have hf := unfrozen_of_block htb.hb (t[k]).toNat
      have hi1 : (0 : Int) ≤ ((t[k]).toNat : Int) := by omega
      have hi2 : ((t[k]).toNat : Int) < 256 := by have := (t[k]).toNat_lt; omega
      have HST : Hid _ := hst
      clear hst
      go_wp2_with fail
      go_roundw
      case rel => exact ⟨k + 1, _, by omega, by go_num, HST.out, hbl.setCell (Nat.le_refl _) _⟩
      case measure => simp [RowKit.intOf]; omega
    · have htb1 : Tab wr w.heap.size t.data.toList cs := by rw [← take_all t k (by omega)]; exact htb
      clear htb
      go_wp2_with fail
      refine (rest_any b s p wr (h.below hbl) hs).mono ?_
      rintro x w1 ⟨rfl, n, rfl⟩
      go_wp2_with fail
      have hrl := rest_list s p
      have hrs : (s.extract p s.size).size = s.size - p := by rw [← len_eq, hrl, List.length_drop, len_eq]
      have hcu := (h.below hbl).drewN n
      have hle := h.le
      clear h
      generalize s.extract p s.size = r at *
      have HRL : Hid (r.data.toList = s.data.toList.drop p) := hrl
      have hrz : r.size ≤ s.size := by omega
      clear hrl hrs
      go_loop [8] (fun i => ∃ k2 : Nat, k2 ≤ r.size ∧ i = .int .i64 k2 ∧ Hid ((r.data.toList.take k2).all (fun c => inSet t.data.toList c.toNat) = true)) (fun i => r.size - (RowKit.intOf i).toNat)
      case atStart => exact ⟨0, Nat.zero_le _, rfl, rfl⟩
      case round =>
        obtain ⟨k2, hk2, rfl, hall⟩ := hrel
        by_cases hk3 : k2 < r.size
        · have hc := htb1.cell r[k2]
          have hi1 : (0 : Int) ≤ ((r[k2]).toNat : Int) := by omega
          have hi2 : ((r[k2]).toNat : Int) < 256 := by have := (r[k2]).toNat_lt; omega
          cases hin : inSet t.data.toList (r[k2]).toNat with
          | true =>
            rw [hin] at hc
            have HA : Hid ((r.data.toList.take (k2 + 1)).all (fun c => inSet t.data.toList c.toNat) = true) := by
              show List.all _ _ = true
              rw [take_snoc r k2 hk3, List.all_append, hall.out]; simp [hin]
            clear hin
            go_wp2_with fail
            go_round
            case rel => exact ⟨k2 + 1, by omega, by go_num, HA⟩
            case measure => simp [RowKit.intOf]; omega
          | false =>
            rw [hin] at hc
            have HW := wh_stop r (fun c => inSet t.data.toList c.toNat) k2 hk2 hall.out (.inr ⟨hk3, hin⟩)
            clear hin
            have HP : Hid (Lib.hasPrefix (s.data.toList.drop p) (r.extract 0 k2).data.toList = true) := by
              show Lib.hasPrefix _ _ = true
              rw [← HRL.out, ext_list]
              exact List.isPrefixOf_iff_prefix.2 (List.take_prefix _ _)
            have hks : (r.extract 0 k2).size = k2 := by rw [← len_eq, ext_list, List.length_take, len_eq]; omega
            have HWL : Hid ((s.data.toList.drop p).takeWhile (fun c => inSet t.data.toList c.toNat) = (r.extract 0 k2).data.toList) := by
              show _ = _
              rw [← HRL.out, HW.out, ext_list]
            go_wp2_with fail
            go_region_with (go_at_call 41; refine (pass_cur b s (r.extract 0 k2) p _ (by exact hcu.of_block rfl) hs HP.out).mono ?_; rintro x w2 ⟨rfl, hc2, ho2⟩)
            all_goals
              go_wp2_with fail
              go_ret
              exact ⟨ret_str (by rw [HWL.out, str_of]), by rw [HWL.out, len_eq]; exact hc2, ((Kept.ofBelow b hbl).trans (Oth.drewN b _ _).kept).trans (Kept.trans (Oth.kept ⟨rfl, rfl, rfl, rfl, fun _ _ => rfl⟩) ho2.kept)⟩
        · have HW := wh_stop r (fun c => inSet t.data.toList c.toNat) k2 hk2 hall.out (.inl (by omega))
          have HP : Hid (Lib.hasPrefix (s.data.toList.drop p) (r.extract 0 k2).data.toList = true) := by
            show Lib.hasPrefix _ _ = true
            rw [← HRL.out, ext_list]
            exact List.isPrefixOf_iff_prefix.2 (List.take_prefix _ _)
          have hks : (r.extract 0 k2).size = k2 := by rw [← len_eq, ext_list, List.length_take, len_eq]; omega
          have HWL : Hid ((s.data.toList.drop p).takeWhile (fun c => inSet t.data.toList c.toNat) = (r.extract 0 k2).data.toList) := by
            show _ = _
            rw [← HRL.out, HW.out, ext_list]
          go_wp2_with fail
          go_region_with (go_at_call 41; refine (pass_cur b s (r.extract 0 k2) p _ (by exact hcu.of_block rfl) hs HP.out).mono ?_; rintro x w2 ⟨rfl, hc2, ho2⟩)
          all_goals
            go_wp2_with fail
            go_ret
            exact ⟨ret_str (by rw [HWL.out, str_of]), by rw [HWL.out, len_eq]; exact hc2, ((Kept.ofBelow b hbl).trans (Oth.drewN b _ _).kept).trans (Kept.trans (Oth.kept ⟨rfl, rfl, rfl, rfl, fun _ _ => rfl⟩) ho2.kept)⟩

end Go.Proofs.YtnmmhihfnphjeaaGreatDoor.W

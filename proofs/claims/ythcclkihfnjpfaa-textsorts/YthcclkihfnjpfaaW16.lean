/-
  Contracts of the reference's cursor.
-/
import Derived.Test.YthcclkihfnjpfaaW15
namespace Go.Proofs.Ythcclkihfnjpfaa
set_option linter.unusedVariables false
open Go.RowKit Go.Joins Go.Tx
attribute [local go_sem ↓] Go.wp_at_zero Go.wp_at_succ

/-- Block b is a reference cursor of s, at p. -/
structure RCur (w : World) (b : Nat) (s : ByteArray) (p : Nat) : Prop where
  hb : w.heap[b]? = some (.cells #[.string s, .int .i64 p] 39 (0, 0))
  le : p ≤ s.size

theorem RCur.c0 {w : World} {b : Nat} {s : ByteArray} {p : Nat} (h : RCur w b s p) : w.cell? ⟨b, 0, none⟩ = some (.string s) := by rw [cell_of_block h.hb]; rfl
theorem RCur.c1 {w : World} {b : Nat} {s : ByteArray} {p : Nat} (h : RCur w b s p) : w.cell? ⟨b, 1, none⟩ = some (.int .i64 p) := by rw [cell_of_block h.hb]; rfl
theorem RCur.lt {w : World} {b : Nat} {s : ByteArray} {p : Nat} (h : RCur w b s p) : b < w.heap.size := (Array.getElem?_eq_some_iff.1 h.hb).1
theorem RCur.of_block {w w' : World} {b : Nat} {s : ByteArray} {p : Nat} (h : RCur w b s p) (e : w'.heap[b]? = w.heap[b]?) : RCur w' b s p := ⟨by rw [e]; exact h.hb, h.le⟩
theorem RCur.drewN {w : World} {b : Nat} {s : ByteArray} {p : Nat} (h : RCur w b s p) (n : Nat) : RCur (w.drewN n) b s p := h.of_block (w' := w.drewN n) rfl
theorem RCur.below {w w' : World} {b : Nat} {s : ByteArray} {p : Nat} (h : RCur w b s p) (hb : Below w.heap.size w w') : RCur w' b s p := h.of_block (hb.block b h.lt)
theorem RCur.set {w : World} {b : Nat} {s : ByteArray} {p : Nat} (h : RCur w b s p) (q : Nat) (hq : q ≤ s.size) : RCur (w.setCell ⟨b, 1, none⟩ (.int .i64 q)) b s q ∧ Oth b w (w.setCell ⟨b, 1, none⟩ (.int .i64 q)) :=
  ⟨⟨by rw [block_setCell h.hb]; rfl, hq⟩, (Upd.set h.hb 1 _).oth⟩

set_option maxHeartbeats 400000 in
theorem rnew_any (s : ByteArray) (w : World) :
    Calls Try.prog 19 #[.string s] w fun x w' => x = .returned (.pointer (some ⟨w.heap.size, 0, none⟩)) ∧ w' = w.alloc (.cells #[.string s, .int .i64 0] 39) := by
  go_enter Try.func19, Try.ntmps19
  go_wp2_with fail
  go_ret
  exact ⟨rfl, rfl⟩

theorem rnew_cur (s : ByteArray) (w : World) : RCur (w.alloc (.cells #[.string s, .int .i64 0] 39)) w.heap.size s 0 := ⟨heap_alloc_new w _, Nat.zero_le _⟩

set_option maxHeartbeats 400000 in
theorem rat_any (b : Nat) (s : ByteArray) (p : Nat) (w : World) (h : RCur w b s p) :
    Calls Try.prog 27 #[.pointer (some ⟨b, 0, none⟩)] w fun x w' => x = .returned (.int .i64 p) ∧ w' = w := by
  have c1 := h.c1
  clear h
  go_enter Try.func27, Try.ntmps27
  go_wp2_with fail
  go_ret
  exact ⟨rfl, rfl⟩

set_option maxHeartbeats 400000 in
theorem rpeek_in (b : Nat) (s : ByteArray) (p : Nat) (w : World) (h : RCur w b s p) (hs : s.size ≤ 2000000000000) (hp : p < s.size) :
    Calls Try.prog 21 #[.pointer (some ⟨b, 0, none⟩)] w fun x w' => x = .returned (.tuple #[.int .u8 (s[p].toNat : Int), .bool true]) ∧ ∃ n, w' = w.drewN n := by
  have c0 := h.c0
  have c1 := h.c1
  have i1 : (0 : Int) ≤ (p : Int) := by omega
  have i2 : (p : Int) < (s.size : Int) := by omega
  clear h
  go_enter Try.func21, Try.ntmps21
  go_wp2_with fail
  go_quiet (fail)
  go_wp2_with fail
  go_quiet (fail)
  go_wp2_with fail
  go_ret2
  exact ⟨rfl, _, World.drewN_drewN _ _ _⟩

set_option maxHeartbeats 400000 in
theorem rpeek_end (b : Nat) (s : ByteArray) (p : Nat) (w : World) (h : RCur w b s p) (hs : s.size ≤ 2000000000000) (hp : ¬ p < s.size) :
    Calls Try.prog 21 #[.pointer (some ⟨b, 0, none⟩)] w fun x w' => x = .returned (.tuple #[.int .u8 0, .bool false]) ∧ ∃ n, w' = w.drewN n := by
  have c0 := h.c0
  have c1 := h.c1
  have i2 : (s.size : Int) ≤ (p : Int) := by omega
  clear h
  go_enter Try.func21, Try.ntmps21
  go_wp2_with fail
  go_quiet (fail)
  go_wp2_with fail
  go_ret2
  exact ⟨rfl, _, rfl⟩

set_option maxHeartbeats 800000 in
set_option maxRecDepth 100000 in
theorem rplacec_any (b : Nat) (s : ByteArray) (p : Nat) (w : World) (h : RCur w b s p) (hs : s.size ≤ 2000000000000) :
    Calls Try.prog 29 #[.pointer (some ⟨b, 0, none⟩)] w fun x w' => x = .returned (plc (s.data.toList.take p)) ∧ Below w.heap.size w w' := by
  have c0 := h.c0
  have c1 := h.c1
  have hlt := h.lt
  have n0 := World.new_ne w ⟨b, 0, none⟩ c0
  go_enter Try.func29, Try.ntmps29
  go_wp2_with fail
  go_region_with (go_at_call 17; refine (rplace_any s p _ hs).mono ?_; rw [Int.toNat_natCast]; unfold plc; rintro x w2 ⟨rfl, hb2⟩; have e0 : w2.cell? ⟨w.heap.size, 0, none⟩ = some (.int .i64 0) := (by rw [hb2.cell (by simp)]; simp [go_sem]); have e1 : w2.cell? ⟨w.heap.size, 1, none⟩ = some (.int .i64 0) := (by rw [hb2.cell (by simp)]; simp [go_sem]); have f0 : w2.frozen? ⟨w.heap.size, 0, none⟩ = false := (by rw [hb2.frozen (by simp)]; simp [go_sem]); have f1 : w2.frozen? ⟨w.heap.size, 1, none⟩ = false := (by rw [hb2.frozen (by simp)]; simp [go_sem]))
  all_goals
    have HB : Below w.heap.size w w2 := (((Below.refl _ _).alloc (Nat.le_refl _) _).drew).trans (hb2.mono (by simp))
    go_wp2_with fail
    refine bodyPost_ret (v := plc (s.data.toList.take p)) ?_ rfl ⟨rfl, ?_⟩
    · have d0 : ∀ u, (w2.setCell ⟨w.heap.size, 0, none⟩ u).cell? ⟨w.heap.size, 0, none⟩ = some u := fun u => set_cell e0 u
      have d1 : ∀ u v, ((w2.setCell ⟨w.heap.size, 0, none⟩ u).setCell ⟨w.heap.size, 1, none⟩ v).cell? ⟨w.heap.size, 1, none⟩ = some v := fun u v => set_cell (v := .int .i64 0) (by simp [go_sem, e1]) v
      simp [results, Try.results29, go_sem, plc, d0, d1]
    · exact (HB.setCell (by simp) _).setCell (by simp) _

theorem pre_long (l r : List UInt8) (h : l.length < r.length) : Lib.hasPrefix l r = false := by
  unfold Lib.hasPrefix
  cases hp : r.isPrefixOf l with
  | false => rfl
  | true =>
    have := (List.isPrefixOf_iff_prefix.1 hp).length_le
    omega

theorem pre_cut (s r : ByteArray) (p : Nat) (hp : p ≤ s.size) (h : r.size ≤ s.size - p) : Lib.hasPrefix (s.data.toList.drop p) r.data.toList = ((s.extract p (p + r.size)).toList == r.toList) := by
  have e1 : (s.extract p (p + r.size)).data.toList = (s.data.toList.drop p).take r.size := by simp
  rw [ByteArray.toList_eq, ByteArray.toList_eq, e1, ← len_eq r]
  unfold Lib.hasPrefix
  generalize s.data.toList.drop p = l
  generalize r.data.toList = q
  rw [Bool.eq_iff_iff, List.isPrefixOf_iff_prefix, List.prefix_iff_eq_take]
  simp
  exact ⟨fun e => e.symm, fun e => e.symm⟩

set_option maxHeartbeats 800000 in
set_option maxRecDepth 100000 in
theorem rtake_any (b : Nat) (s r : ByteArray) (p : Nat) (w : World) (h : RCur w b s p) (hs : s.size ≤ 2000000000000) (hrs : r.size ≤ 2000000000000) :
    Calls Try.prog 23 #[.pointer (some ⟨b, 0, none⟩), .string r] w fun x w' => x = .returned (.bool (Lib.hasPrefix (s.data.toList.drop p) r.data.toList)) ∧ RCur w' b s (if Lib.hasPrefix (s.data.toList.drop p) r.data.toList = true then p + r.size else p) ∧ Oth b w w' := by
  have c0 := h.c0
  have c1 := h.c1
  have hle := h.le
  have f1 := unfrozen_of_block h.hb 1
  by_cases hl : s.size - p < r.size
  · have HP : Hid (Lib.hasPrefix (s.data.toList.drop p) r.data.toList = false) := pre_long _ _ (by rw [List.length_drop, len_eq, len_eq]; omega)
    have hd : decide ((s.size : Int) - (p : Int) < (r.size : Int)) = true := by simp; omega
    rw [HP.out, if_neg (by simp)]
    go_enter Try.func23, Try.ntmps23
    go_wp2_with fail
    go_quiet (fail)
    go_wp2_with fail
    go_ret
    exact ⟨rfl, h.drewN _, Oth.drewN b w _⟩
  · have hd : decide ((s.size : Int) - (p : Int) < (r.size : Int)) = false := by simp; omega
    have HP : Hid (Lib.hasPrefix (s.data.toList.drop p) r.data.toList = ((s.extract p (p + r.size)).toList == r.toList)) := pre_cut s r p hle (by omega)
    have i1 : (0 : Int) ≤ (p : Int) := by omega
    have i2 : (p : Int) ≤ (p : Int) + (r.size : Int) := by omega
    have i3 : (p : Int) + (r.size : Int) ≤ (s.size : Int) := by omega
    rw [HP.out]
    cases hq : ((s.extract p (p + r.size)).toList == r.toList)
    case' false => rw [if_neg (by simp)]
    case' true => rw [if_pos rfl]
    all_goals
      go_enter Try.func23, Try.ntmps23
      go_wp2_with fail
      go_quiet (fail)
      go_wp2_with fail
    · go_ret
      obtain ⟨h1, h2⟩ := (h.drewN nq).set (p + r.size) (by omega)
      rw [show ((p + r.size : Nat) : Int) = (p : Int) + (r.size : Int) by omega] at h1 h2
      exact ⟨rfl, h1, (Oth.drewN b w _).trans h2⟩
    · go_ret
      exact ⟨rfl, h.drewN _, Oth.drewN b w _⟩

set_option maxHeartbeats 400000 in
theorem rin_any (s : ByteArray) (c : UInt8) (w : World) (hs : s.size ≤ 2000000000000) :
    Calls Try.prog 47 #[.string s, .int .u8 (c.toNat : Int)] w fun e w' => e = .returned (.bool (inSet s.data.toList c.toNat)) ∧ w' = w := by
  go_enter Try.func47, Try.ntmps47
  go_wp2_with fail
  go_loop [5] (fun i => ∃ k : Nat, k ≤ s.size ∧ i = .int .i64 k ∧ Hid (inSet (s.data.toList.take k) c.toNat = false)) (fun i => s.size - (intOf i).toNat)
  case atStart => exact ⟨0, Nat.zero_le _, rfl, rfl⟩
  case round =>
    obtain ⟨k, hk, rfl, hp⟩ := hrel
    by_cases hlt : k < s.size
    · have HS : Hid (inSet (s.data.toList.take (k + 1)) c.toNat = (inSet (s.data.toList.take k) c.toNat || ((s[k]).toNat == c.toNat))) := by
        show _ = _
        rw [take_snoc s k hlt, inSet_snoc]
      by_cases he : (s[k]).toNat = c.toNat
      · have HT : Hid (inSet s.data.toList c.toNat = true) := by
          show List.any _ _ = true
          rw [List.any_eq_true]
          exact ⟨s[k], List.getElem_mem (by rw [len_eq]; exact hlt), by simpa using he⟩
        have hq : (((s[k]).toNat : Int) == (c.toNat : Int)) = true := by simp; omega
        clear he HS
        go_wp2_with fail
        go_ret
        exact ⟨ret_bool HT.out.symm, rfl⟩
      · have hq : (((s[k]).toNat : Int) == (c.toNat : Int)) = false := by simp; omega
        have HT : Hid (inSet (s.data.toList.take (k + 1)) c.toNat = false) := by
          show _ = _
          rw [HS.out, hp.out]; simpa using he
        clear he HS
        go_wp2_with fail
        go_round
        case rel => exact ⟨k + 1, by omega, by go_num, HT⟩
        case measure => simp [intOf]; omega
    · have HT : Hid (inSet s.data.toList c.toNat = false) := by rw [← take_all s k (by omega)]; exact hp
      go_wp2_with fail
      go_ret
      exact ⟨ret_bool HT.out.symm, rfl⟩

/-- The bytes that texts are of, as a text. -/
def sgB : ByteArray := ⟨#[10, 9, 32, 34, 92, 35, 47, 97, 98, 99, 110, 116, 58, 61, 45, 91, 93, 123, 125, 44, 46, 48, 49, 50, 51, 118, 120, 126, 94, 42, 124, 60, 62, 33, 95, 122, 121, 113]⟩
theorem sgB_size : sgB.size = 38 := rfl
theorem signs_is (w : World) : Calls Try.prog 42 #[] w fun e w' => e = .returned (.string sgB) ∧ w' = w := signs_any w

theorem within_is (a n : Int) (m : Nat) (w : World) (h1 : 1 ≤ n) (h2 : n ≤ 4611686018427387904) (h3 : -9223372036854775808 ≤ a) (h4 : a ≤ 9223372036854775807) (hm : Hid ((m : Int) = a % n)) :
    Calls Try.prog 15 #[.int .i64 a, .int .i64 n] w fun e w' => e = .returned (.int .i64 m) ∧ w' = w := by
  rw [hm.out]; exact within_any a n w h1 h2 h3 h4

theorem row_at {k : IntKind} {w : World} {a : Option Addr} {len cap : Nat} {xs : List Int} (h : Row k w a len cap xs) (h0 : 0 < len) : ∃ b off, a = some ⟨b, off, none⟩ ∧ ∀ i, i < len → w.cell? ⟨b, off + i, none⟩ = some (.int k (xs.getD i 0)) := by
  cases a with
  | none => have := (h.nil rfl).1; omega
  | some x =>
    obtain ⟨b, off, spot⟩ := x
    have hc := h.cell _ rfl 0 h0
    have hspot : spot = none := by simpa [Addr.add] using World.cell?_spot hc
    subst hspot
    exact ⟨b, off, rfl, fun i hi => by have := h.cell _ rfl i hi; rw [addr_add] at this; exact this⟩

theorem row_bd {w : World} {a : Option Addr} {len cap : Nat} {xs : List Int} (h : Row .i64 w a len cap xs) (i : Nat) (hi : i < len) : -9223372036854775808 ≤ xs.getD i 0 ∧ xs.getD i 0 ≤ 9223372036854775807 := by
  have hl : i < xs.length := by rw [h.n]; exact hi
  have : xs.getD i 0 = xs[i] := by simp [List.getD, List.getElem?_eq_getElem hl]
  rw [this]
  exact bd64 (h.wf _ (List.getElem_mem hl))

theorem mod_nat (a n : Int) (h : 1 ≤ n) : ∃ m : Nat, Hid ((m : Int) = a % n) ∧ (m : Int) < n := by
  have b1 := Int.emod_nonneg a (b := n) (by omega)
  have b2 := Int.emod_lt_of_pos a (b := n) (by omega)
  exact ⟨(a % n).toNat, Int.toNat_of_nonneg b1, by omega⟩

end Go.Proofs.Ythcclkihfnjpfaa

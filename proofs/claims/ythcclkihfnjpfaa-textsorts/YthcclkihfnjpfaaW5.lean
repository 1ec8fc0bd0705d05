/-
  Contracts of the mark and of the cursor.
-/
import Derived.Test.YthcclkihfnjpfaaW1
import Derived.Test.YthcclkihfnjpfaaM2
import Derived.Test.YthcclkihfnjpfaaShelf
import Derived.Deep.RegionWith
import Derived.Deep.RegionHeld3
import Derived.Deep.DrawnRows
import Derived.Deep.QuietTactic
import Derived.BigQuiet
import Derived.Lib.SmallJoins
namespace Go.Proofs.Ythcclkihfnjpfaa
set_option linter.unusedVariables false
open Go.RowKit Go.Joins Go.Tx
attribute [local go_sem ↓] Go.wp_at_zero Go.wp_at_succ

/-- Block b now holds 'o'; nothing else has turned. -/
structure Upd (b : Nat) (o : Obj) (w w' : World) : Prop where
  os : w'.os = w.os
  tape : w'.tape = w.tape
  output : w'.output = w.output
  size : w'.heap.size = w.heap.size
  block : ∀ k, k ≠ b → w'.heap[k]? = w.heap[k]?
  now : w'.heap[b]? = some o

theorem Upd.set {b : Nat} {cs : Array Value} {t : TypeId} {w : World} (hb : w.heap[b]? = some (.cells cs t (0, 0))) (j : Nat) (v : Value) : Upd b (.cells (cs.setIfInBounds j v) t (0, 0)) w (w.setCell ⟨b, j, none⟩ v) :=
  ⟨rfl, rfl, rfl, by simp, fun k hk => Below.heap_setCell w ⟨b, j, none⟩ v k hk, block_setCell hb v⟩
theorem Upd.drew {b : Nat} {o : Obj} {w w' : World} (h : Upd b o w w') : Upd b o w w'.drew := ⟨h.os, h.tape, h.output, h.size, h.block, h.now⟩
theorem Upd.trans {b : Nat} {o o' : Obj} {w w' w'' : World} (h : Upd b o w w') (k : Upd b o' w' w'') : Upd b o' w w'' :=
  ⟨k.os.trans h.os, k.tape.trans h.tape, k.output.trans h.output, k.size.trans h.size, fun i hi => (k.block i hi).trans (h.block i hi), k.now⟩
theorem Upd.below {b : Nat} {o : Obj} {w w' : World} (h : Upd b o w w') {B : Nat} (hB : B ≤ b) : Below B w w' := ⟨h.os, h.tape, h.output, by rw [h.size]; exact Nat.le_refl _, fun k hk => h.block k (by omega)⟩

/-- The three numbers of a mark, in a block's first three cells. -/
structure Mark (cs : Array Value) (a e f : Int) : Prop where
  c0 : cs[0]? = some (.int .i64 a)
  c1 : cs[1]? = some (.int .i64 e)
  c2 : cs[2]? = some (.int .i64 f)

set_option maxHeartbeats 800000 in
set_option maxRecDepth 100000 in
theorem pass_no (b : Nat) (cs : Array Value) (t : TypeId) (a e f : Int) (r : ByteArray) (w : World) (hb : w.heap[b]? = some (.cells cs t (0, 0))) (hm : Mark cs a e f)
    (ha0 : 0 ≤ a) (ha1 : a ≤ 2000000000000) (hr : r.size ≤ 2000000000000) (hn : Lib.lastIndexByte r 10 < 0) :
    Calls Try.prog 43 #[.pointer (some ⟨b, 0, none⟩), .string r] w fun e w' => e = .returned (.tuple #[]) ∧ Upd b (.cells (cs.setIfInBounds 0 (.int .i64 (a + r.size))) t (0, 0)) w w' := by
  have c0 : w.cell? ⟨b, 0, none⟩ = some (.int .i64 a) := by rw [cell_of_block hb]; exact hm.c0
  have f0 : w.frozen? ⟨b, 0, none⟩ = false := unfrozen_of_block hb 0
  have HB : Hid (w.heap[b]? = some (.cells cs t (0, 0))) := hb
  clear hb
  go_enter Try.func43, Try.ntmps43
  go_wp2_with (go_at_call 56; refine (lastIndexByte_any _ _ (by omega) _).mono ?_; rintro e w' ⟨rfl, rfl⟩)
  go_end0
  exact ⟨rfl, Upd.set HB.out 0 _⟩

set_option maxHeartbeats 800000 in
set_option maxRecDepth 100000 in
theorem pass_yes (b : Nat) (cs : Array Value) (t : TypeId) (a e f : Int) (r : ByteArray) (w : World) (hb : w.heap[b]? = some (.cells cs t (0, 0))) (hm : Mark cs a e f)
    (ha0 : 0 ≤ a) (ha1 : a ≤ 2000000000000) (he0 : 0 ≤ e) (he1 : e ≤ 2000000000000) (hr : r.size ≤ 2000000000000) (hn : 0 ≤ Lib.lastIndexByte r 10) :
    Calls Try.prog 43 #[.pointer (some ⟨b, 0, none⟩), .string r] w fun x w' => x = .returned (.tuple #[]) ∧ Upd b (.cells (((cs.setIfInBounds 1 (.int .i64 (e + Lib.countByte r.data.toList 10))).setIfInBounds 2 (.int .i64 (a + Lib.lastIndexByte r 10 + 1))).setIfInBounds 0 (.int .i64 (a + r.size))) t (0, 0)) w w' := by
  have c0 : w.cell? ⟨b, 0, none⟩ = some (.int .i64 a) := by rw [cell_of_block hb]; exact hm.c0
  have c1 : w.cell? ⟨b, 1, none⟩ = some (.int .i64 e) := by rw [cell_of_block hb]; exact hm.c1
  have c2 : w.cell? ⟨b, 2, none⟩ = some (.int .i64 f) := by rw [cell_of_block hb]; exact hm.c2
  have f0 : w.frozen? ⟨b, 0, none⟩ = false := unfrozen_of_block hb 0
  have f1 : w.frozen? ⟨b, 1, none⟩ = false := unfrozen_of_block hb 1
  have f2 : w.frozen? ⟨b, 2, none⟩ = false := unfrozen_of_block hb 2
  have hl := (Tx.pass_some [] r hn).1
  have hct := Tx.count_le r
  have HB : Hid (w.heap[b]? = some (.cells cs t (0, 0))) := hb
  clear hb
  go_enter Try.func43, Try.ntmps43
  go_wp2_with (go_at_call 56; refine (lastIndexByte_any _ _ (by omega) _).mono ?_; rintro e w' ⟨rfl, rfl⟩)
  go_region_with (go_at_call 57; refine (count_any _ 10 _).mono ?_; rintro e w' ⟨rfl, rfl⟩)
  all_goals
    go_wp2_with fail
    go_end0
    exact ⟨rfl, (((Upd.set HB.out 1 _).trans (Upd.set (Upd.set HB.out 1 _).now 2 _)).trans (Upd.set ((Upd.set HB.out 1 _).trans (Upd.set (Upd.set HB.out 1 _).now 2 _)).now 0 _)).drew⟩

theorem si {k : IntKind} {a b : Int} (h : a = b) : some (Value.int k a) = some (.int k b) := by rw [h]
theorem set_same (cs : Array Value) (j : Nat) (v : Value) (h : j < cs.size) : (cs.setIfInBounds j v)[j]? = some v := by simp [h]
theorem set_ne (cs : Array Value) (i j : Nat) (v : Value) (h : i ≠ j) : (cs.setIfInBounds i v)[j]? = cs[j]? := by simp [h]

/-- A block that holds a cursor's mark behind the row l. -/
structure IsMark (w : World) (b : Nat) (l : List UInt8) (cs : Array Value) (t : TypeId) : Prop where
  hb : w.heap[b]? = some (.cells cs t (0, 0))
  m : Mark cs l.length ((st l).1 - 1) (l.length + 1 - (st l).2)

theorem pass_any (b : Nat) (cs : Array Value) (t : TypeId) (l : List UInt8) (r : ByteArray) (w : World) (h : IsMark w b l cs t) (hsz : 3 ≤ cs.size)
    (ha : l.length ≤ 2000000000000) (hr : r.size ≤ 2000000000000) :
    Calls Try.prog 43 #[.pointer (some ⟨b, 0, none⟩), .string r] w fun x w' => x = .returned (.tuple #[]) ∧ ∃ cs', IsMark w' b (l ++ r.data.toList) cs' t ∧ cs'.size = cs.size ∧ (∀ j, 3 ≤ j → cs'[j]? = cs[j]?) ∧ Upd b (.cells cs' t (0, 0)) w w' := by
  have hbd := st_bd l
  have hle : r.data.toList.length = r.size := len_eq r
  by_cases hn : Lib.lastIndexByte r 10 < 0
  · refine (pass_no b cs t _ _ _ r w h.hb h.m (by omega) (by omega) hr hn).mono ?_
    rintro x w' ⟨rfl, hu⟩
    refine ⟨rfl, _, ⟨hu.now, ?_⟩, by rw [Array.size_setIfInBounds], fun j hj => set_ne _ _ _ _ (by omega), hu⟩
    rw [pass_none l r hn]
    refine ⟨?_, ?_, ?_⟩
    · rw [set_same _ _ _ (by omega), List.length_append, hle]; exact si (by omega)
    · rw [set_ne _ _ _ _ (by omega)]; exact h.m.c1
    · rw [set_ne _ _ _ _ (by omega), h.m.c2, List.length_append, hle]; exact si (by simp; omega)
  · obtain ⟨h1, h2⟩ := pass_some l r (by omega)
    refine (pass_yes b cs t _ _ _ r w h.hb h.m (by omega) (by omega) (by omega) (by omega) hr (by omega)).mono ?_
    rintro x w' ⟨rfl, hu⟩
    refine ⟨rfl, _, ⟨hu.now, ?_⟩, by simp only [Array.size_setIfInBounds], fun j hj => by rw [set_ne _ _ _ _ (by omega), set_ne _ _ _ _ (by omega), set_ne _ _ _ _ (by omega)], hu⟩
    rw [h2]
    refine ⟨?_, ?_, ?_⟩
    · rw [set_same _ _ _ (by simp only [Array.size_setIfInBounds]; omega), List.length_append, hle]; exact si (by omega)
    · rw [set_ne _ _ _ _ (by omega), set_ne _ _ _ _ (by omega), set_same _ _ _ (by omega)]; exact si (by simp; omega)
    · rw [set_ne _ _ _ _ (by omega), set_same _ _ _ (by simp only [Array.size_setIfInBounds]; omega), List.length_append, hle]; exact si (by simp; omega)

end Go.Proofs.Ythcclkihfnjpfaa

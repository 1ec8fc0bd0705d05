/-
  Contracts of the mark and of the cursor.
  Contracts of places: the mark's, the package's, the reference's.
  Contracts of the cursor's methods.
-/
import Derived.Test.YtnmmhihfnphjeaaDoorG04
import Derived.Deep.RegionWith
import Derived.Deep.RegionHeld3
import Derived.Deep.DrawnRows
import Derived.Deep.QuietTactic
import Derived.BigQuiet
import Derived.Lib.SmallJoins

namespace Go.Proofs.YtnmmhihfnphjeaaDoor.W
set_option linter.unusedVariables false
open Go.RowKit Go.Joins Go.Tx
attribute [local go_sem ↓] Go.wp_at_zero Go.wp_at_succ

/-- Block b now holds 'o'; nothing else has turned. -/
structure Upd (b : Nat) (o : Obj) (w w' : World) : Prop where
  os : w'.os = w.os
  tape : w'.tape = w.tape
  output : w'.output = w.output
  size : w'.heap.size = w.heap.size
  block : ∀ k, k ≠ b → w'.heap[k]? = w.heap[k]?
  now : w'.heap[b]? = some o

theorem Upd.set {b : Nat} {cs : Array Value} {t : TypeId} {w : World} (hb : w.heap[b]? = some (.cells cs t (0, 0))) (j : Nat) (v : Value) : Upd b (.cells (cs.setIfInBounds j v) t (0, 0)) w (w.setCell ⟨b, j, none⟩ v) :=
  ⟨rfl, rfl, rfl, by simp, fun k hk => Below.heap_setCell w ⟨b, j, none⟩ v k hk, block_setCell hb v⟩
theorem Upd.drew {b : Nat} {o : Obj} {w w' : World} (h : Upd b o w w') : Upd b o w w'.drew := ⟨h.os, h.tape, h.output, h.size, h.block, h.now⟩
theorem Upd.trans {b : Nat} {o o' : Obj} {w w' w'' : World} (h : Upd b o w w') (k : Upd b o' w' w'') : Upd b o' w w'' :=
  ⟨k.os.trans h.os, k.tape.trans h.tape, k.output.trans h.output, k.size.trans h.size, fun i hi => (k.block i hi).trans (h.block i hi), k.now⟩
theorem Upd.below {b : Nat} {o : Obj} {w w' : World} (h : Upd b o w w') {B : Nat} (hB : B ≤ b) : Below B w w' := ⟨h.os, h.tape, h.output, by rw [h.size]; exact Nat.le_refl _, fun k hk => h.block k (by omega)⟩

/-- The three numbers of a mark, in a block's first three cells. -/
structure Mark (cs : Array Value) (a e f : Int) : Prop where
  c0 : cs[0]? = some (.int .i64 a)
  c1 : cs[1]? = some (.int .i64 e)
  c2 : cs[2]? = some (.int .i64 f)

set_option maxHeartbeats 800000 in
set_option maxRecDepth 100000 in
theorem pass_no (b : Nat) (cs : Array Value) (t : TypeId) (a e f : Int) (r : ByteArray) (w : World) (hb : w.heap[b]? = some (.cells cs t (0, 0))) (hm : Mark cs a e f)
    (ha0 : 0 ≤ a) (ha1 : a ≤ 2000000000000) (hr : r.size ≤ 2000000000000) (hn : Lib.lastIndexByte r 10 < 0) :
    Calls Tryd.prog 27 #[.pointer (some ⟨b, 0, none⟩), .string r] w fun e w' => e = .returned (.tuple #[]) ∧ Upd b (.cells (cs.setIfInBounds 0 (.int .i64 (a + r.size))) t (0, 0)) w w' := by
  have c0 : w.cell? ⟨b, 0, none⟩ = some (.int .i64 a) := by rw [cell_of_block hb]; exact hm.c0
  have f0 : w.frozen? ⟨b, 0, none⟩ = false := unfrozen_of_block hb 0
  have HB : Hid (w.heap[b]? = some (.cells cs t (0, 0))) := hb
  clear hb
  go_enter Tryd.func27, Tryd.ntmps27
  go_wp2_with (go_at_call 41; refine (lastIndexByte_any _ _ (by omega) _).mono ?_; rintro e w' ⟨rfl, rfl⟩)
  go_end0
  exact ⟨rfl, Upd.set HB.out 0 _⟩

set_option maxHeartbeats 800000 in
set_option maxRecDepth 100000 in
theorem pass_yes (b : Nat) (cs : Array Value) (t : TypeId) (a e f : Int) (r : ByteArray) (w : World) (hb : w.heap[b]? = some (.cells cs t (0, 0))) (hm : Mark cs a e f)
    (ha0 : 0 ≤ a) (ha1 : a ≤ 2000000000000) (he0 : 0 ≤ e) (he1 : e ≤ 2000000000000) (hr : r.size ≤ 2000000000000) (hn : 0 ≤ Lib.lastIndexByte r 10) :
    Calls Tryd.prog 27 #[.pointer (some ⟨b, 0, none⟩), .string r] w fun x w' => x = .returned (.tuple #[]) ∧ Upd b (.cells (((cs.setIfInBounds 1 (.int .i64 (e + Lib.countByte r.data.toList 10))).setIfInBounds 2 (.int .i64 (a + Lib.lastIndexByte r 10 + 1))).setIfInBounds 0 (.int .i64 (a + r.size))) t (0, 0)) w w' := by
  have c0 : w.cell? ⟨b, 0, none⟩ = some (.int .i64 a) := by rw [cell_of_block hb]; exact hm.c0
  have c1 : w.cell? ⟨b, 1, none⟩ = some (.int .i64 e) := by rw [cell_of_block hb]; exact hm.c1
  have c2 : w.cell? ⟨b, 2, none⟩ = some (.int .i64 f) := by rw [cell_of_block hb]; exact hm.c2
  have f0 : w.frozen? ⟨b, 0, none⟩ = false := unfrozen_of_block hb 0
  have f1 : w.frozen? ⟨b, 1, none⟩ = false := unfrozen_of_block hb 1
  have f2 : w.frozen? ⟨b, 2, none⟩ = false := unfrozen_of_block hb 2
  have hl := (Tx.pass_some [] r hn).1
  have hct := Tx.count_le r
  have HB : Hid (w.heap[b]? = some (.cells cs t (0, 0))) := hb
  clear hb
  go_enter Tryd.func27, Tryd.ntmps27
  go_wp2_with (go_at_call 41; refine (lastIndexByte_any _ _ (by omega) _).mono ?_; rintro e w' ⟨rfl, rfl⟩)
  go_region_with (go_at_call 42; refine (count_any _ 10 _).mono ?_; rintro e w' ⟨rfl, rfl⟩)
  all_goals
    go_wp2_with fail
    go_end0
    exact ⟨rfl, (((Upd.set HB.out 1 _).trans (Upd.set (Upd.set HB.out 1 _).now 2 _)).trans (Upd.set ((Upd.set HB.out 1 _).trans (Upd.set (Upd.set HB.out 1 _).now 2 _)).now 0 _)).drew⟩

theorem si {k : IntKind} {a b : Int} (h : a = b) : some (Value.int k a) = some (.int k b) := by rw [h]
theorem set_same (cs : Array Value) (j : Nat) (v : Value) (h : j < cs.size) : (cs.setIfInBounds j v)[j]? = some v := by simp [h]
theorem set_ne (cs : Array Value) (i j : Nat) (v : Value) (h : i ≠ j) : (cs.setIfInBounds i v)[j]? = cs[j]? := by simp [h]

/-- A block that holds a cursor's mark behind the row l. -/
structure IsMark (w : World) (b : Nat) (l : List UInt8) (cs : Array Value) (t : TypeId) : Prop where
  hb : w.heap[b]? = some (.cells cs t (0, 0))
  m : Mark cs l.length ((st l).1 - 1) (l.length + 1 - (st l).2)

theorem pass_any (b : Nat) (cs : Array Value) (t : TypeId) (l : List UInt8) (r : ByteArray) (w : World) (h : IsMark w b l cs t) (hsz : 3 ≤ cs.size)
    (ha : l.length ≤ 2000000000000) (hr : r.size ≤ 2000000000000) :
    Calls Tryd.prog 27 #[.pointer (some ⟨b, 0, none⟩), .string r] w fun x w' => x = .returned (.tuple #[]) ∧ ∃ cs', IsMark w' b (l ++ r.data.toList) cs' t ∧ cs'.size = cs.size ∧ (∀ j, 3 ≤ j → cs'[j]? = cs[j]?) ∧ Upd b (.cells cs' t (0, 0)) w w' := by
  have hbd := st_bd l
  have hle : r.data.toList.length = r.size := len_eq r
  by_cases hn : Lib.lastIndexByte r 10 < 0
  · refine (pass_no b cs t _ _ _ r w h.hb h.m (by omega) (by omega) hr hn).mono ?_
    rintro x w' ⟨rfl, hu⟩
    refine ⟨rfl, _, ⟨hu.now, ?_⟩, by rw [Array.size_setIfInBounds], fun j hj => set_ne _ _ _ _ (by omega), hu⟩
    rw [pass_none l r hn]
    refine ⟨?_, ?_, ?_⟩
    · rw [set_same _ _ _ (by omega), List.length_append, hle]; exact si (by omega)
    · rw [set_ne _ _ _ _ (by omega)]; exact h.m.c1
    · rw [set_ne _ _ _ _ (by omega), h.m.c2, List.length_append, hle]; exact si (by simp; omega)
  · obtain ⟨h1, h2⟩ := pass_some l r (by omega)
    refine (pass_yes b cs t _ _ _ r w h.hb h.m (by omega) (by omega) (by omega) (by omega) hr (by omega)).mono ?_
    rintro x w' ⟨rfl, hu⟩
    refine ⟨rfl, _, ⟨hu.now, ?_⟩, by simp only [Array.size_setIfInBounds], fun j hj => by rw [set_ne _ _ _ _ (by omega), set_ne _ _ _ _ (by omega), set_ne _ _ _ _ (by omega)], hu⟩
    rw [h2]
    refine ⟨?_, ?_, ?_⟩
    · rw [set_same _ _ _ (by simp only [Array.size_setIfInBounds]; omega), List.length_append, hle]; exact si (by omega)
    · rw [set_ne _ _ _ _ (by omega), set_ne _ _ _ _ (by omega), set_same _ _ _ (by omega)]; exact si (by simp; omega)
    · rw [set_ne _ _ _ _ (by omega), set_same _ _ _ (by simp only [Array.size_setIfInBounds]; omega), List.length_append, hle]; exact si (by simp; omega)

end Go.Proofs.YtnmmhihfnphjeaaDoor.W

namespace Go.Proofs.YtnmmhihfnphjeaaDoor.W
set_option linter.unusedVariables false
open Go.RowKit Go.Joins Go.Tx
attribute [local go_sem ↓] Go.wp_at_zero Go.wp_at_succ

theorem set_cell {w : World} {b o : Nat} {v : Value} (h : w.cell? ⟨b, o, none⟩ = some v) (u : Value) : (w.setCell ⟨b, o, none⟩ u).cell? ⟨b, o, none⟩ = some u := by
  exact World.cell?_setCell_same w ⟨b, o, none⟩ u h

/-- A place as a value. -/
def plc (l : List UInt8) : Value := .agg #[.int .i64 (st l).1, .int .i64 (st l).2]

set_option maxHeartbeats 800000 in
set_option maxRecDepth 100000 in
theorem mplace_any (b : Nat) (cs : Array Value) (t : TypeId) (l : List UInt8) (w : World) (h : IsMark w b l cs t) (ha : l.length ≤ 2000000000000) :
    Calls Tryd.prog 28 #[.pointer (some ⟨b, 0, none⟩)] w fun x w' => x = .returned (plc l) ∧ Below w.heap.size w w' := by
  have c0 : w.cell? ⟨b, 0, none⟩ = some (.int .i64 l.length) := by rw [cell_of_block h.hb]; exact h.m.c0
  have c1 : w.cell? ⟨b, 1, none⟩ = some (.int .i64 ((st l).1 - 1)) := by rw [cell_of_block h.hb]; exact h.m.c1
  have c2 : w.cell? ⟨b, 2, none⟩ = some (.int .i64 (l.length + 1 - (st l).2)) := by rw [cell_of_block h.hb]; exact h.m.c2
  have n0 := World.new_ne w ⟨b, 0, none⟩ c0
  have n1 := World.new_ne w ⟨b, 1, none⟩ c1
  have n2 := World.new_ne w ⟨b, 2, none⟩ c2
  obtain ⟨h1, h2, h3, h4⟩ := st_bd l
  unfold plc
  generalize (st l).1 = L at *
  generalize (st l).2 = C at *
  clear h
  go_enter Tryd.func28, Tryd.ntmps28
  go_wp2_with fail
  go_region_held3 (fun w' => w'.cell? ⟨b, 0, none⟩ = some (.int .i64 l.length) ∧ w'.cell? ⟨b, 1, none⟩ = some (.int .i64 (L - 1)) ∧ w'.cell? ⟨b, 2, none⟩ = some (.int .i64 (l.length + 1 - C))) (go_keep) (fail)
  go_wp2_with fail
  refine bodyPost_ret (v := .agg #[.int .i64 L, .int .i64 C]) ?_ rfl ⟨rfl, ?_⟩
  · simp [results, Tryd.results28, go_sem]
    rw [IntKind.wrap_i64, IntKind.wrap_i64, IntKind.wrap_i64]
    omega
  · exact ((Below.refl _ _).alloc (Nat.le_refl _) _).drew

set_option maxHeartbeats 800000 in
set_option maxRecDepth 100000 in
theorem place_any (s : ByteArray) (at_ : Int) (w : World) (hs : s.size ≤ 2000000000000) :
    Calls Tryd.prog 18 #[.string s, .int .i64 at_] w fun x w' => x = .returned (plc (s.data.toList.take at_.toNat)) ∧ Below w.heap.size w w' := by
  obtain ⟨n, hn⟩ : ∃ n : Nat, n = (min (max at_ 0) (s.size : Int)).toNat := ⟨_, rfl⟩
  have ht : s.data.toList.take at_.toNat = (s.extract 0 n).data.toList := by
    have : (s.extract 0 n).data.toList = s.data.toList.take n := by simp
    rw [this, List.take_eq_take_iff, len_eq]; omega
  rw [ht]
  have hle : (s.extract 0 n).size ≤ 2000000000000 := by simp; omega
  rw [hn] at hle ⊢
  clear ht hn
  have hx : ∀ x, st (x ++ (s.extract 0 (min (max at_ 0) (s.size : Int)).toNat).data.toList) = st (x ++ (s.extract 0 (min (max at_ 0) (s.size : Int)).toNat).data.toList) := fun _ => rfl
  clear hx
  have hmk : IsMark ((w.alloc (.cells #[.int .i64 0, .int .i64 0] 29)).alloc (.cells #[.int .i64 0, .int .i64 0, .int .i64 0] 67)) (w.heap.size + 1) [] #[.int .i64 0, .int .i64 0, .int .i64 0] 67 :=
    ⟨by have := heap_alloc_new (w.alloc (.cells #[.int .i64 0, .int .i64 0] 29)) (.cells #[.int .i64 0, .int .i64 0, .int .i64 0] 67); simpa using this, rfl, rfl, rfl⟩
  go_enter Tryd.func18, Tryd.ntmps18
  go_wp2_with fail
  generalize hr : s.extract 0 (min (max at_ 0) (s.size : Int)).toNat = r at *
  refine (pass_any _ _ _ [] r _ hmk (by simp) (by simp) hle).mono ?_
  rintro x w1 ⟨rfl, cs', hm1, -, -, hu⟩
  rw [List.nil_append] at hm1
  have hb1 : Below (w.heap.size + 1) ((w.alloc (.cells #[.int .i64 0, .int .i64 0] 29)).alloc (.cells #[.int .i64 0, .int .i64 0, .int .i64 0] 67)) w1 := hu.below (Nat.le_refl _)
  have hz1 : w1.heap.size = w.heap.size + 2 := by rw [hu.size]; simp
  have hB : Below w.heap.size w w1 := (((Below.refl _ _).alloc (Nat.le_refl _) _).alloc (by simp) _).trans (hb1.mono (by omega))
  go_wp2_with fail
  refine (mplace_any _ _ _ _ _ hm1 (by rw [len_eq]; exact hle)).mono ?_
  rintro x w2 ⟨rfl, hb2⟩
  have c0 : w2.cell? ⟨w.heap.size, 0, none⟩ = some (.int .i64 0) := by
    rw [hb2.cell (by simp; omega), hb1.cell (by simp)]; simp [go_sem]
  have c1 : w2.cell? ⟨w.heap.size, 1, none⟩ = some (.int .i64 0) := by
    rw [hb2.cell (by simp; omega), hb1.cell (by simp)]; simp [go_sem]
  have f0 : w2.frozen? ⟨w.heap.size, 0, none⟩ = false := by
    rw [hb2.frozen (by simp; omega), hb1.frozen (by simp)]; simp [go_sem]
  have f1 : w2.frozen? ⟨w.heap.size, 1, none⟩ = false := by
    rw [hb2.frozen (by simp; omega), hb1.frozen (by simp)]; simp [go_sem]
  have HB : Below w.heap.size w w2 := hB.trans (hb2.mono (by omega))
  unfold plc
  go_wp2_with fail
  refine bodyPost_ret (v := plc r.data.toList) ?_ rfl ⟨by rw [hr], ?_⟩
  · have d0 : ∀ u, (w2.setCell ⟨w.heap.size, 0, none⟩ u).cell? ⟨w.heap.size, 0, none⟩ = some u := fun u => set_cell c0 u
    have d1 : ∀ u v, ((w2.setCell ⟨w.heap.size, 0, none⟩ u).setCell ⟨w.heap.size, 1, none⟩ v).cell? ⟨w.heap.size, 1, none⟩ = some v := fun u v => set_cell (v := .int .i64 0) (by simp [go_sem, c1]) v
    simp [results, Tryd.results18, go_sem, plc, d0, d1]
  · exact (HB.setCell (by simp) _).setCell (by simp) _

set_option maxHeartbeats 800000 in
set_option maxRecDepth 100000 in
theorem rplace_any (s : ByteArray) (at_ : Int) (w : World) (hs : s.size ≤ 2000000000000) :
    Calls Tryd.prog 14 #[.string s, .int .i64 at_] w fun x w' => x = .returned (plc (s.data.toList.take at_.toNat)) ∧ Below w.heap.size w w' := by
  go_enter Tryd.func14, Tryd.ntmps14
  go_wp2_with fail
  go_loopw [6] (fun i wr => ∃ k : Nat, k ≤ s.size ∧ (k = 0 ∨ k ≤ at_.toNat) ∧ i = .int .i64 k ∧ wr = (w.alloc (.cells #[.int .i64 0, .int .i64 0] 29)).alloc (.cells #[.int .i64 (st (s.data.toList.take k)).1, .int .i64 (st (s.data.toList.take k)).2] 29)) (fun i _ => s.size - (RowKit.intOf i).toNat)
  case atStart => exact ⟨0, Nat.zero_le _, .inl rfl, rfl, rfl⟩
  case round =>
    obtain ⟨k, hk, hka, rfl, rfl⟩ := hrel
    have hb := st_bd (s.data.toList.take k)
    have hl : (s.data.toList.take k).length = k := by rw [List.length_take, len_eq]; omega
    rw [hl] at hb
    obtain ⟨b1, b2, b3, b4⟩ := hb
    by_cases hlt : k < s.size
    · have HS : Hid (st (s.data.toList.take (k + 1)) = stp (st (s.data.toList.take k)) s[k]) := by
        show st _ = _
        rw [take_snoc s k hlt, st_snoc]
      by_cases hat : (k : Int) < at_
      · by_cases hnl : ((s[k]).toNat : Int) = 10
        · have HS1 : Hid (st (s.data.toList.take (k + 1)) = ((st (s.data.toList.take k)).1 + 1, 1)) := by
            show st _ = _
            rw [HS.out, stp, if_pos (UInt8.toNat_inj.1 (by show _ = 10; omega))]
          generalize st (s.data.toList.take k) = p at *
          clear HS hl
          have hq : (((s[k]).toNat : Int) == 10) = true := by simpa using hnl
          clear hnl
          go_wp2_with fail
          go_roundw
          case rel => exact ⟨k + 1, by omega, .inr (by omega), by go_num, by rw [HS1.out]; rfl⟩
          case measure => simp [RowKit.intOf]; omega
        · have HS1 : Hid (st (s.data.toList.take (k + 1)) = ((st (s.data.toList.take k)).1, (st (s.data.toList.take k)).2 + 1)) := by
            show st _ = _
            rw [HS.out, stp, if_neg (fun e => hnl (by rw [e]; rfl))]
          generalize st (s.data.toList.take k) = p at *
          clear HS hl
          have hq : (((s[k]).toNat : Int) == 10) = false := by simpa using hnl
          clear hnl
          go_wp2_with fail
          go_roundw
          case rel => exact ⟨k + 1, by omega, .inr (by omega), by go_num, by rw [HS1.out]; rfl⟩
          case measure => simp [RowKit.intOf]; omega
      · have HT : Hid (s.data.toList.take at_.toNat = s.data.toList.take k) := by
          show _ = _
          rw [List.take_eq_take_iff, len_eq]; omega
        have hd : decide ((k : Int) < at_) = false := by simpa using hat
        go_wp2_with fail
        refine bodyPost_ret (v := plc (s.data.toList.take k)) ?_ rfl ⟨by rw [HT.out], ?_⟩
        · simp [results, Tryd.results14, go_sem, plc]
        · exact ((Below.refl _ _).alloc (Nat.le_refl _) _).alloc (by simp) _
    · have HT : Hid (s.data.toList.take at_.toNat = s.data.toList.take k) := by
        show _ = _
        rw [List.take_eq_take_iff, len_eq]; omega
      have hd : decide ((k : Int) < (s.size : Int)) = false := by simp; omega
      go_wp2_with fail
      refine bodyPost_ret (v := plc (s.data.toList.take k)) ?_ rfl ⟨by rw [HT.out], ?_⟩
      · simp [results, Tryd.results14, go_sem, plc]
      · exact ((Below.refl _ _).alloc (Nat.le_refl _) _).alloc (by simp) _

end Go.Proofs.YtnmmhihfnphjeaaDoor.W

namespace Go.Proofs.YtnmmhihfnphjeaaDoor.W
set_option linter.unusedVariables false
open Go.RowKit Go.Joins Go.Tx
attribute [local go_sem ↓] Go.wp_at_zero Go.wp_at_succ

/-- Block b is a cursor of s, behind its first p bytes. -/
structure IsCur (w : World) (b : Nat) (s : ByteArray) (p : Nat) : Prop where
  le : p ≤ s.size
  ex : ∃ cs, IsMark w b (s.data.toList.take p) cs 76 ∧ cs.size = 4 ∧ cs[3]? = some (.string s)

theorem tlen (s : ByteArray) (p : Nat) (h : p ≤ s.size) : (s.data.toList.take p).length = p := by rw [List.length_take, len_eq]; omega

theorem IsCur.cells {w : World} {b : Nat} {s : ByteArray} {p : Nat} (h : IsCur w b s p) : w.cell? ⟨b, 0, none⟩ = some (.int .i64 p) ∧ w.cell? ⟨b, 3, none⟩ = some (.string s) := by
  obtain ⟨hl, cs, hm, _, h3⟩ := h
  have h0 := hm.m.c0
  rw [tlen s p hl] at h0
  exact ⟨by rw [cell_of_block hm.hb]; exact h0, by rw [cell_of_block hm.hb]; exact h3⟩

theorem IsCur.of_block {w w' : World} {b : Nat} {s : ByteArray} {p : Nat} (h : IsCur w b s p) (e : w'.heap[b]? = w.heap[b]?) : IsCur w' b s p := by
  obtain ⟨hl, cs, hm, hz, h3⟩ := h
  exact ⟨hl, cs, ⟨by rw [e]; exact hm.hb, hm.m⟩, hz, h3⟩

theorem IsCur.drewN {w : World} {b : Nat} {s : ByteArray} {p : Nat} (h : IsCur w b s p) (n : Nat) : IsCur (w.drewN n) b s p := h.of_block (w' := w.drewN n) rfl

theorem IsCur.lt {w : World} {b : Nat} {s : ByteArray} {p : Nat} (h : IsCur w b s p) : b < w.heap.size := by
  obtain ⟨hl, cs, hm, hz, h3⟩ := h
  rcases Nat.lt_or_ge b w.heap.size with h | h
  · exact h
  · have := hm.hb; rw [Array.getElem?_eq_none h] at this; cases this

theorem IsCur.below {w w' : World} {b : Nat} {s : ByteArray} {p : Nat} (h : IsCur w b s p) (hb : Below w.heap.size w w') : IsCur w' b s p := h.of_block (hb.block b h.lt)

set_option maxHeartbeats 400000 in
theorem new_any (s : ByteArray) (w : World) :
    Calls Tryd.prog 20 #[.string s] w fun x w' => x = .returned (.pointer (some ⟨w.heap.size, 0, none⟩)) ∧ w' = w.alloc (.cells #[.int .i64 0, .int .i64 0, .int .i64 0, .string s] 76) := by
  go_enter Tryd.func20, Tryd.ntmps20
  go_wp2_with fail
  go_ret
  exact ⟨rfl, rfl⟩

theorem new_cur (s : ByteArray) (w : World) : IsCur (w.alloc (.cells #[.int .i64 0, .int .i64 0, .int .i64 0, .string s] 76)) w.heap.size s 0 :=
  ⟨Nat.zero_le _, _, ⟨heap_alloc_new w _, rfl, rfl, rfl⟩, rfl, rfl⟩

set_option maxHeartbeats 400000 in
theorem at_any (b : Nat) (s : ByteArray) (p : Nat) (w : World) (h : IsCur w b s p) :
    Calls Tryd.prog 89 #[.pointer (some ⟨b, 0, none⟩)] w fun x w' => x = .returned (.int .i64 p) ∧ w' = w := by
  obtain ⟨c0, -⟩ := h.cells
  clear h
  go_enter Tryd.func89, Tryd.ntmps89
  go_wp2_with fail
  go_ret
  exact ⟨rfl, rfl⟩

set_option maxHeartbeats 400000 in
theorem rest_any (b : Nat) (s : ByteArray) (p : Nat) (w : World) (h : IsCur w b s p) (hs : s.size ≤ 2000000000000) :
    Calls Tryd.prog 56 #[.pointer (some ⟨b, 0, none⟩)] w fun x w' => x = .returned (.string (s.extract p s.size)) ∧ ∃ n, w' = w.drewN n := by
  obtain ⟨c0, c3⟩ := h.cells
  have hl := h.le
  have i1 : (0 : Int) ≤ (p : Int) := by omega
  have i2 : (p : Int) ≤ (s.size : Int) := by omega
  clear h
  go_enter Tryd.func56, Tryd.ntmps56
  go_wp2_with fail
  go_quiet (fail)
  go_wp2_with fail
  go_ret
  exact ⟨rfl, _, rfl⟩

set_option maxHeartbeats 400000 in
theorem peek_in (b : Nat) (s : ByteArray) (p : Nat) (w : World) (h : IsCur w b s p) (hs : s.size ≤ 2000000000000) (hp : p < s.size) :
    Calls Tryd.prog 31 #[.pointer (some ⟨b, 0, none⟩)] w fun x w' => x = .returned (.tuple #[.int .u8 (s[p].toNat : Int), .bool true]) ∧ ∃ n, w' = w.drewN n := by
  obtain ⟨c0, c3⟩ := h.cells
  have i1 : (0 : Int) ≤ (p : Int) := by omega
  have i2 : (p : Int) < (s.size : Int) := by omega
  clear h
  go_enter Tryd.func31, Tryd.ntmps31
  go_wp2_with fail
  go_quiet (fail)
  go_wp2_with fail
  go_quiet (fail)
  go_wp2_with fail
  go_ret2
  exact ⟨rfl, _, World.drewN_drewN _ _ _⟩

set_option maxHeartbeats 400000 in
theorem peek_end (b : Nat) (s : ByteArray) (p : Nat) (w : World) (h : IsCur w b s p) (hs : s.size ≤ 2000000000000) (hp : ¬ p < s.size) :
    Calls Tryd.prog 31 #[.pointer (some ⟨b, 0, none⟩)] w fun x w' => x = .returned (.tuple #[.int .u8 0, .bool false]) ∧ ∃ n, w' = w.drewN n := by
  obtain ⟨c0, c3⟩ := h.cells
  have i2 : (s.size : Int) ≤ (p : Int) := by omega
  clear h
  go_enter Tryd.func31, Tryd.ntmps31
  go_wp2_with fail
  go_quiet (fail)
  go_wp2_with fail
  go_ret2
  exact ⟨rfl, _, rfl⟩

/-- All but block b is as it was. -/
structure Oth (b : Nat) (w w' : World) : Prop where
  os : w'.os = w.os
  tape : w'.tape = w.tape
  output : w'.output = w.output
  size : w'.heap.size = w.heap.size
  block : ∀ k, k ≠ b → w'.heap[k]? = w.heap[k]?

theorem Oth.refl (b : Nat) (w : World) : Oth b w w := ⟨rfl, rfl, rfl, rfl, fun _ _ => rfl⟩
theorem Oth.drewN (b : Nat) (w : World) (n : Nat) : Oth b w (w.drewN n) := ⟨rfl, rfl, rfl, rfl, fun _ _ => rfl⟩
theorem Oth.trans {b : Nat} {w w' w'' : World} (h : Oth b w w') (k : Oth b w' w'') : Oth b w w'' :=
  ⟨k.os.trans h.os, k.tape.trans h.tape, k.output.trans h.output, k.size.trans h.size, fun i hi => (k.block i hi).trans (h.block i hi)⟩
theorem Upd.oth {b : Nat} {o : Obj} {w w' : World} (h : Upd b o w w') : Oth b w w' := ⟨h.os, h.tape, h.output, h.size, h.block⟩
theorem Oth.below {b B : Nat} {w w' : World} (h : Oth b w w') (hB : B ≤ b) : Below B w w' := ⟨h.os, h.tape, h.output, by rw [h.size]; exact Nat.le_refl _, fun k hk => h.block k (by omega)⟩

theorem rest_list (s : ByteArray) (p : Nat) : (s.extract p s.size).data.toList = s.data.toList.drop p := by
  have e : s.data.toList.length = s.size := len_eq s
  simp
  rw [List.take_of_length_le]
  simp

/-- The mark passed over the next bytes: the cursor is behind them. -/
theorem pass_cur (b : Nat) (s r : ByteArray) (p : Nat) (w : World) (h : IsCur w b s p) (hs : s.size ≤ 2000000000000) (hr : Lib.hasPrefix (s.data.toList.drop p) r.data.toList = true) :
    Calls Tryd.prog 27 #[.pointer (some ⟨b, 0, none⟩), .string r] w fun x w' => x = .returned (.tuple #[]) ∧ IsCur w' b s (p + r.size) ∧ Oth b w w' := by
  obtain ⟨hl, cs, hm, hz, h3⟩ := h
  have hp : r.data.toList <+: s.data.toList.drop p := List.isPrefixOf_iff_prefix.1 hr
  obtain ⟨z, hz2⟩ := hp
  have hlen := congrArg List.length hz2
  rw [List.length_append, List.length_drop, len_eq, len_eq] at hlen
  have htk : s.data.toList.take p ++ r.data.toList = s.data.toList.take (p + r.size) := by
    rw [List.take_add, ← hz2, ← len_eq r, List.take_left]
  refine (pass_any b cs _ _ r w hm (by omega) (by rw [tlen s p hl]; omega) (by omega)).mono ?_
  rintro x w' ⟨rfl, cs', hm', hz', hj, hu⟩
  rw [htk] at hm'
  exact ⟨rfl, ⟨by omega, cs', hm', by omega, by rw [hj 3 (by omega)]; exact h3⟩, hu.oth⟩

set_option maxHeartbeats 400000 in
theorem take_yes (b : Nat) (s r : ByteArray) (p : Nat) (w : World) (h : IsCur w b s p) (hs : s.size ≤ 2000000000000) (hr : Lib.hasPrefix (s.data.toList.drop p) r.data.toList = true) :
    Calls Tryd.prog 60 #[.pointer (some ⟨b, 0, none⟩), .string r] w fun x w' => x = .returned (.bool true) ∧ IsCur w' b s (p + r.size) ∧ Oth b w w' := by
  have HR : Hid (Lib.hasPrefix (s.extract p s.size).data.toList r.data.toList = true) := by rw [rest_list]; exact hr
  go_enter Tryd.func60, Tryd.ntmps60
  go_wp2_with fail
  refine (rest_any b s p w h hs).mono ?_
  rintro x w1 ⟨rfl, n, rfl⟩
  go_wp2_with fail
  refine (hasPrefix_any _ _ _).mono ?_
  rintro x w2 ⟨rfl, rfl⟩
  rw [HR.out]
  go_wp2_with fail
  refine (pass_cur b s r p _ (h.drewN n) hs hr).mono ?_
  rintro x w3 ⟨rfl, hc, ho⟩
  go_wp2_with fail
  go_ret
  exact ⟨rfl, hc, (Oth.drewN b w n).trans ho⟩

set_option maxHeartbeats 400000 in
theorem take_no (b : Nat) (s r : ByteArray) (p : Nat) (w : World) (h : IsCur w b s p) (hs : s.size ≤ 2000000000000) (hr : Lib.hasPrefix (s.data.toList.drop p) r.data.toList = false) :
    Calls Tryd.prog 60 #[.pointer (some ⟨b, 0, none⟩), .string r] w fun x w' => x = .returned (.bool false) ∧ ∃ n, w' = w.drewN n := by
  have HR : Hid (Lib.hasPrefix (s.extract p s.size).data.toList r.data.toList = false) := by rw [rest_list]; exact hr
  go_enter Tryd.func60, Tryd.ntmps60
  go_wp2_with fail
  refine (rest_any b s p w h hs).mono ?_
  rintro x w1 ⟨rfl, n, rfl⟩
  go_wp2_with fail
  refine (hasPrefix_any _ _ _).mono ?_
  rintro x w2 ⟨rfl, rfl⟩
  rw [HR.out]
  go_wp2_with fail
  go_ret
  exact ⟨rfl, n, rfl⟩

/-- Take: whether the bytes are next; then it is behind them. -/
theorem take_any (b : Nat) (s r : ByteArray) (p : Nat) (w : World) (h : IsCur w b s p) (hs : s.size ≤ 2000000000000) :
    Calls Tryd.prog 60 #[.pointer (some ⟨b, 0, none⟩), .string r] w fun x w' => x = .returned (.bool (Lib.hasPrefix (s.data.toList.drop p) r.data.toList)) ∧ IsCur w' b s (if Lib.hasPrefix (s.data.toList.drop p) r.data.toList = true then p + r.size else p) ∧ Oth b w w' := by
  cases hr : Lib.hasPrefix (s.data.toList.drop p) r.data.toList with
  | true => exact take_yes b s r p w h hs hr
  | false =>
    refine (take_no b s r p w h hs hr).mono ?_
    rintro x w' ⟨rfl, n, rfl⟩
    exact ⟨rfl, by simpa using h.drewN n, Oth.drewN b w n⟩

set_option maxHeartbeats 800000 in
set_option maxRecDepth 100000 in
theorem cplace_any (b : Nat) (s : ByteArray) (p : Nat) (w : World) (h : IsCur w b s p) (hs : s.size ≤ 2000000000000) :
    Calls Tryd.prog 22 #[.pointer (some ⟨b, 0, none⟩)] w fun x w' => x = .returned (plc (s.data.toList.take p)) ∧ Below w.heap.size w w' := by
  have hlt := h.lt
  obtain ⟨hl, cs, hm, hz, h3⟩ := h
  have hm1 : IsMark (w.alloc (.cells #[.int .i64 0, .int .i64 0] 29)) b (s.data.toList.take p) cs 76 := ⟨by rw [Below.heap_alloc w _ b hlt]; exact hm.hb, hm.m⟩
  have hle : (s.data.toList.take p).length ≤ 2000000000000 := by rw [tlen s p hl]; omega
  go_enter Tryd.func22, Tryd.ntmps22
  go_wp2_with fail
  refine (mplace_any _ _ _ _ _ hm1 hle).mono ?_
  rintro x w2 ⟨rfl, hb2⟩
  have c0 : w2.cell? ⟨w.heap.size, 0, none⟩ = some (.int .i64 0) := by
    rw [hb2.cell (by simp)]; simp [go_sem]
  have c1 : w2.cell? ⟨w.heap.size, 1, none⟩ = some (.int .i64 0) := by
    rw [hb2.cell (by simp)]; simp [go_sem]
  have f0 : w2.frozen? ⟨w.heap.size, 0, none⟩ = false := by
    rw [hb2.frozen (by simp)]; simp [go_sem]
  have f1 : w2.frozen? ⟨w.heap.size, 1, none⟩ = false := by
    rw [hb2.frozen (by simp)]; simp [go_sem]
  have HB : Below w.heap.size w w2 := ((Below.refl _ _).alloc (Nat.le_refl _) _).trans (hb2.mono (by simp))
  generalize hl2 : s.data.toList.take p = l at *
  unfold plc
  go_wp2_with fail
  refine bodyPost_ret (v := plc l) ?_ rfl ⟨by rw [hl2], ?_⟩
  · have d0 : ∀ u, (w2.setCell ⟨w.heap.size, 0, none⟩ u).cell? ⟨w.heap.size, 0, none⟩ = some u := fun u => set_cell c0 u
    have d1 : ∀ u v, ((w2.setCell ⟨w.heap.size, 0, none⟩ u).setCell ⟨w.heap.size, 1, none⟩ v).cell? ⟨w.heap.size, 1, none⟩ = some v := fun u v => set_cell (v := .int .i64 0) (by simp [go_sem, c1]) v
    simp [results, Tryd.results22, go_sem, plc, d0, d1]
  · exact (HB.setCell (by simp) _).setCell (by simp) _

end Go.Proofs.YtnmmhihfnphjeaaDoor.W

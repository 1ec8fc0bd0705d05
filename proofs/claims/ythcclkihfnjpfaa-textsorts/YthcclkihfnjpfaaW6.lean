/-
  Contracts of places: the mark's, the package's, the reference's.
-/
import Derived.Test.YthcclkihfnjpfaaW5
namespace Go.Proofs.Ythcclkihfnjpfaa
set_option linter.unusedVariables false
open Go.RowKit Go.Joins Go.Tx
attribute [local go_sem ↓] Go.wp_at_zero Go.wp_at_succ

theorem set_cell {w : World} {b o : Nat} {v : Value} (h : w.cell? ⟨b, o, none⟩ = some v) (u : Value) : (w.setCell ⟨b, o, none⟩ u).cell? ⟨b, o, none⟩ = some u := by
  exact World.cell?_setCell_same w ⟨b, o, none⟩ u h

/-- A place as a value. -/
def plc (l : List UInt8) : Value := .agg #[.int .i64 (st l).1, .int .i64 (st l).2]

set_option maxHeartbeats 800000 in
set_option maxRecDepth 100000 in
theorem mplace_any (b : Nat) (cs : Array Value) (t : TypeId) (l : List UInt8) (w : World) (h : IsMark w b l cs t) (ha : l.length ≤ 2000000000000) :
    Calls Try.prog 44 #[.pointer (some ⟨b, 0, none⟩)] w fun x w' => x = .returned (plc l) ∧ Below w.heap.size w w' := by
  have c0 : w.cell? ⟨b, 0, none⟩ = some (.int .i64 l.length) := by rw [cell_of_block h.hb]; exact h.m.c0
  have c1 : w.cell? ⟨b, 1, none⟩ = some (.int .i64 ((st l).1 - 1)) := by rw [cell_of_block h.hb]; exact h.m.c1
  have c2 : w.cell? ⟨b, 2, none⟩ = some (.int .i64 (l.length + 1 - (st l).2)) := by rw [cell_of_block h.hb]; exact h.m.c2
  have n0 := World.new_ne w ⟨b, 0, none⟩ c0
  have n1 := World.new_ne w ⟨b, 1, none⟩ c1
  have n2 := World.new_ne w ⟨b, 2, none⟩ c2
  obtain ⟨h1, h2, h3, h4⟩ := st_bd l
  unfold plc
  generalize (st l).1 = L at *
  generalize (st l).2 = C at *
  clear h
  go_enter Try.func44, Try.ntmps44
  go_wp2_with fail
  go_region_held3 (fun w' => w'.cell? ⟨b, 0, none⟩ = some (.int .i64 l.length) ∧ w'.cell? ⟨b, 1, none⟩ = some (.int .i64 (L - 1)) ∧ w'.cell? ⟨b, 2, none⟩ = some (.int .i64 (l.length + 1 - C))) (go_keep) (fail)
  go_wp2_with fail
  refine bodyPost_ret (v := .agg #[.int .i64 L, .int .i64 C]) ?_ rfl ⟨rfl, ?_⟩
  · simp [results, Try.results44, go_sem]
    rw [IntKind.wrap_i64, IntKind.wrap_i64, IntKind.wrap_i64]
    omega
  · exact ((Below.refl _ _).alloc (Nat.le_refl _) _).drew

set_option maxHeartbeats 800000 in
set_option maxRecDepth 100000 in
theorem place_any (s : ByteArray) (at_ : Int) (w : World) (hs : s.size ≤ 2000000000000) :
    Calls Try.prog 16 #[.string s, .int .i64 at_] w fun x w' => x = .returned (plc (s.data.toList.take at_.toNat)) ∧ Below w.heap.size w w' := by
  obtain ⟨n, hn⟩ : ∃ n : Nat, n = (min (max at_ 0) (s.size : Int)).toNat := ⟨_, rfl⟩
  have ht : s.data.toList.take at_.toNat = (s.extract 0 n).data.toList := by
    have : (s.extract 0 n).data.toList = s.data.toList.take n := by simp
    rw [this, List.take_eq_take_iff, len_eq]; omega
  rw [ht]
  have hle : (s.extract 0 n).size ≤ 2000000000000 := by simp; omega
  rw [hn] at hle ⊢
  clear ht hn
  have hx : ∀ x, st (x ++ (s.extract 0 (min (max at_ 0) (s.size : Int)).toNat).data.toList) = st (x ++ (s.extract 0 (min (max at_ 0) (s.size : Int)).toNat).data.toList) := fun _ => rfl
  clear hx
  have hmk : IsMark ((w.alloc (.cells #[.int .i64 0, .int .i64 0] 28)).alloc (.cells #[.int .i64 0, .int .i64 0, .int .i64 0] 62)) (w.heap.size + 1) [] #[.int .i64 0, .int .i64 0, .int .i64 0] 62 :=
    ⟨by have := heap_alloc_new (w.alloc (.cells #[.int .i64 0, .int .i64 0] 28)) (.cells #[.int .i64 0, .int .i64 0, .int .i64 0] 62); simpa using this, rfl, rfl, rfl⟩
  go_enter Try.func16, Try.ntmps16
  go_wp2_with fail
  generalize hr : s.extract 0 (min (max at_ 0) (s.size : Int)).toNat = r at *
  refine (pass_any _ _ _ [] r _ hmk (by simp) (by simp) hle).mono ?_
  rintro x w1 ⟨rfl, cs', hm1, -, -, hu⟩
  rw [List.nil_append] at hm1
  have hb1 : Below (w.heap.size + 1) ((w.alloc (.cells #[.int .i64 0, .int .i64 0] 28)).alloc (.cells #[.int .i64 0, .int .i64 0, .int .i64 0] 62)) w1 := hu.below (Nat.le_refl _)
  have hz1 : w1.heap.size = w.heap.size + 2 := by rw [hu.size]; simp
  have hB : Below w.heap.size w w1 := (((Below.refl _ _).alloc (Nat.le_refl _) _).alloc (by simp) _).trans (hb1.mono (by omega))
  go_wp2_with fail
  refine (mplace_any _ _ _ _ _ hm1 (by rw [len_eq]; exact hle)).mono ?_
  rintro x w2 ⟨rfl, hb2⟩
  have c0 : w2.cell? ⟨w.heap.size, 0, none⟩ = some (.int .i64 0) := by
    rw [hb2.cell (by simp; omega), hb1.cell (by simp)]; simp [go_sem]
  have c1 : w2.cell? ⟨w.heap.size, 1, none⟩ = some (.int .i64 0) := by
    rw [hb2.cell (by simp; omega), hb1.cell (by simp)]; simp [go_sem]
  have f0 : w2.frozen? ⟨w.heap.size, 0, none⟩ = false := by
    rw [hb2.frozen (by simp; omega), hb1.frozen (by simp)]; simp [go_sem]
  have f1 : w2.frozen? ⟨w.heap.size, 1, none⟩ = false := by
    rw [hb2.frozen (by simp; omega), hb1.frozen (by simp)]; simp [go_sem]
  have HB : Below w.heap.size w w2 := hB.trans (hb2.mono (by omega))
  unfold plc
  go_wp2_with fail
  refine bodyPost_ret (v := plc r.data.toList) ?_ rfl ⟨by rw [hr], ?_⟩
  · have d0 : ∀ u, (w2.setCell ⟨w.heap.size, 0, none⟩ u).cell? ⟨w.heap.size, 0, none⟩ = some u := fun u => set_cell c0 u
    have d1 : ∀ u v, ((w2.setCell ⟨w.heap.size, 0, none⟩ u).setCell ⟨w.heap.size, 1, none⟩ v).cell? ⟨w.heap.size, 1, none⟩ = some v := fun u v => set_cell (v := .int .i64 0) (by simp [go_sem, c1]) v
    simp [results, Try.results16, go_sem, plc, d0, d1]
  · exact (HB.setCell (by simp) _).setCell (by simp) _

set_option maxHeartbeats 800000 in
set_option maxRecDepth 100000 in
theorem rplace_any (s : ByteArray) (at_ : Int) (w : World) (hs : s.size ≤ 2000000000000) :
    Calls Try.prog 17 #[.string s, .int .i64 at_] w fun x w' => x = .returned (plc (s.data.toList.take at_.toNat)) ∧ Below w.heap.size w w' := by
  go_enter Try.func17, Try.ntmps17
  go_wp2_with fail
  go_loopw [6] (fun i wr => ∃ k : Nat, k ≤ s.size ∧ (k = 0 ∨ k ≤ at_.toNat) ∧ i = .int .i64 k ∧ wr = (w.alloc (.cells #[.int .i64 0, .int .i64 0] 28)).alloc (.cells #[.int .i64 (st (s.data.toList.take k)).1, .int .i64 (st (s.data.toList.take k)).2] 28)) (fun i _ => s.size - (intOf i).toNat)
  case atStart => exact ⟨0, Nat.zero_le _, .inl rfl, rfl, rfl⟩
  case round =>
    obtain ⟨k, hk, hka, rfl, rfl⟩ := hrel
    have hb := st_bd (s.data.toList.take k)
    have hl : (s.data.toList.take k).length = k := by rw [List.length_take, len_eq]; omega
    rw [hl] at hb
    obtain ⟨b1, b2, b3, b4⟩ := hb
    by_cases hlt : k < s.size
    · have HS : Hid (st (s.data.toList.take (k + 1)) = stp (st (s.data.toList.take k)) s[k]) := by
        show st _ = _
        rw [take_snoc s k hlt, st_snoc]
      by_cases hat : (k : Int) < at_
      · by_cases hnl : ((s[k]).toNat : Int) = 10
        · have HS1 : Hid (st (s.data.toList.take (k + 1)) = ((st (s.data.toList.take k)).1 + 1, 1)) := by
            show st _ = _
            rw [HS.out, stp, if_pos (UInt8.toNat_inj.1 (by show _ = 10; omega))]
          generalize st (s.data.toList.take k) = p at *
          clear HS hl
          have hq : (((s[k]).toNat : Int) == 10) = true := by simpa using hnl
          clear hnl
          go_wp2_with fail
          go_roundw
          case rel => exact ⟨k + 1, by omega, .inr (by omega), by go_num, by rw [HS1.out]; rfl⟩
          case measure => simp [intOf]; omega
        · have HS1 : Hid (st (s.data.toList.take (k + 1)) = ((st (s.data.toList.take k)).1, (st (s.data.toList.take k)).2 + 1)) := by
            show st _ = _
            rw [HS.out, stp, if_neg (fun e => hnl (by rw [e]; rfl))]
          generalize st (s.data.toList.take k) = p at *
          clear HS hl
          have hq : (((s[k]).toNat : Int) == 10) = false := by simpa using hnl
          clear hnl
          go_wp2_with fail
          go_roundw
          case rel => exact ⟨k + 1, by omega, .inr (by omega), by go_num, by rw [HS1.out]; rfl⟩
          case measure => simp [intOf]; omega
      · have HT : Hid (s.data.toList.take at_.toNat = s.data.toList.take k) := by
          show _ = _
          rw [List.take_eq_take_iff, len_eq]; omega
        have hd : decide ((k : Int) < at_) = false := by simpa using hat
        go_wp2_with fail
        refine bodyPost_ret (v := plc (s.data.toList.take k)) ?_ rfl ⟨by rw [HT.out], ?_⟩
        · simp [results, Try.results17, go_sem, plc]
        · exact ((Below.refl _ _).alloc (Nat.le_refl _) _).alloc (by simp) _
    · have HT : Hid (s.data.toList.take at_.toNat = s.data.toList.take k) := by
        show _ = _
        rw [List.take_eq_take_iff, len_eq]; omega
      have hd : decide ((k : Int) < (s.size : Int)) = false := by simp; omega
      go_wp2_with fail
      refine bodyPost_ret (v := plc (s.data.toList.take k)) ?_ rfl ⟨by rw [HT.out], ?_⟩
      · simp [results, Try.results17, go_sem, plc]
      · exact ((Below.refl _ _).alloc (Nat.le_refl _) _).alloc (by simp) _

end Go.Proofs.Ythcclkihfnjpfaa

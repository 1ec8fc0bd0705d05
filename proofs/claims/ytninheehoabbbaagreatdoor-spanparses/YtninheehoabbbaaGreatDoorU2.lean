/-
  Contracts of made and its closure.
-/
import Derived.Test.YtninheehoabbbaaGreatDoorU1
namespace Go.Proofs.YtninheehoabbbaaGreatDoor
set_option linter.unusedSimpArgs false
set_option linter.unusedVariables false
open Go.RowKit Go.Vr Go.Sort Go.Tx Go.Lib
attribute [local go_sem] setCellDrewN allocDrewN

/-- Is a byte in a set? in one of several? -/
def inS (set : Bs) (c : UInt8) : Bool := decide (0 ≤ indexByte set c)
def inAny (sets : List Bs) (c : UInt8) : Bool := sets.any fun t => inS t c

set_option maxHeartbeats 1000000 in
set_option maxRecDepth 100000 in
theorem made1_any (set s : ByteArray) (bs bi k : Nat) (w : World) (h1 : w.cell? ⟨bs, 0, none⟩ = some (.string s)) (h2 : w.cell? ⟨bi, 0, none⟩ = some (.int .i64 k)) (hk : k < s.size) :
    Calls Tryz.prog 130 #[.string set, .pointer (some ⟨bs, 0, none⟩), .pointer (some ⟨bi, 0, none⟩)] w fun e w' => e = .returned (.bool (inS set.data.toList s[k])) ∧ w' = w := by
  have i1 : (0 : Int) ≤ (k : Int) := by omega
  have i2 : (k : Int) < (s.size : Int) := by omega
  go_enter Tryz.func130, Tryz.ntmps130
  go_wp2_with fail
  refine (indexByte_any _ _ _).mono ?_
  rintro e w1 ⟨rfl, rfl⟩
  go_wp2_with fail
  go_ret
  exact ⟨ret_bool (rfl), rfl⟩

theorem made1_enters : ∀ args w, (callFunc 130 args).run Tryz.prog w = .ok (.enter 130 args) w := enters_of Tryz.func130 (by kernel_rfl) rfl

set_option maxHeartbeats 2000000 in
set_option maxRecDepth 100000 in
theorem made_any (s : ByteArray) (b off n cap : Nat) (sets : List Bs) (w : World) (hs : s.size ≤ 100000) (hr : SRow w (some ⟨b, off, none⟩) n cap sets) (hn : n ≤ 10000) :
    Calls Tryz.prog 111 #[.string s, .slice (some ⟨b, off, none⟩) n cap] w fun e w' => e = .returned (.bool (s.data.toList.all (inAny sets))) ∧ Below w.heap.size w w' := by
  have HR := hide hr
  clear hr
  have hB0 : Below w.heap.size w (w.alloc (.cells #[.string s] 9)) := (Below.refl _ _).alloc (Nat.le_refl _) _
  go_enter Tryz.func111, Tryz.ntmps111
  go_wp2_with fail
  go_loopw [5, 6, 9] (fun _ _ i wr => ∃ k : Nat, k ≤ s.size ∧ i = .int .i64 k ∧ Hid ((s.data.toList.take k).all (inAny sets) = true) ∧ Below w.heap.size w wr ∧ w.heap.size < wr.heap.size ∧ wr.cell? ⟨w.heap.size, 0, none⟩ = some (.string s)) (fun _ _ i _ => s.size - (RowKit.intOf i).toNat)
  case atStart => exact ⟨0, by omega, rfl, rfl, hB0, by simp, by simp [go_sem]⟩
  case round =>
    obtain ⟨k, hk, rfl, HA, hB, hz, hc⟩ := hrel
    by_cases hlt : k < s.size
    · have hd : decide ((k : Int) < (s.size : Int)) = true := by simp; omega
      have hB1 : Below w.heap.size w (wr.alloc (.cells #[.int .i64 k] 3)) := hB.alloc hB.size _
      have c1 : (wr.alloc (.cells #[.int .i64 k] 3)).cell? ⟨w.heap.size, 0, none⟩ = some (.string s) := cellLater ((Below.refl _ wr).alloc (Nat.le_refl _) _) hc
      have c2 : (wr.alloc (.cells #[.int .i64 k] 3)).cell? ⟨wr.heap.size, 0, none⟩ = some (.int .i64 k) := by simp [go_sem]
      have HC := hide (containsF_any 130 #[.pointer (some ⟨w.heap.size, 0, none⟩), .pointer (some ⟨wr.heap.size, 0, none⟩)] made1_enters (fun t => inS t s[k]) b off n cap sets (wr.alloc (.cells #[.int .i64 k] 3)) (HR.out.later hB1) hn
        (fun W x _ hb => (made1_any (str x) s w.heap.size wr.heap.size k W (cellLater hb c1) (cellLater hb c2) hlt).mono (fun e w' h => ⟨h.1, h.2 ▸ Below.refl _ _⟩)))
      have HQ : Hid ((sets.any fun t => inS t s[k]) = inAny sets s[k]) := rfl
      cases hq : inAny sets s[k] with
      | true =>
        have HT : Hid ((s.data.toList.take (k + 1)).all (inAny sets) = true) := by
          show List.all _ _ = true
          rw [all_take_succ _ s k hlt, HA.out, hq]; rfl
        have HQ2 := hide hq
        clear hq c1 c2
        go_wp2_with fail
        refine HC.out.mono ?_
        rw [HQ.out, HQ2.out]
        rintro e w1 ⟨rfl, hb⟩
        have hB2 : Below w.heap.size w w1 := hB1.trans (hb.mono hB1.size)
        have hz2 : w.heap.size < w1.heap.size := by have := hb.size; simp at this; omega
        have c3 : w1.cell? ⟨w.heap.size, 0, none⟩ = some (.string s) := cellLater (((Below.refl _ wr).alloc (Nat.le_refl _) _).trans (hb.mono (by simp))) hc
        go_wp2_with fail
        go_roundw
        case rel => exact ⟨k + 1, by omega, by go_num, HT, hB2, hz2, c3⟩
        case measure => simp [RowKit.intOf]; omega
      | false =>
        have HF : Hid (s.data.toList.all (inAny sets) = false) := all_not _ s k hlt hq
        have HQ2 := hide hq
        clear hq c1 c2
        go_wp2_with fail
        refine HC.out.mono ?_
        rw [HQ.out, HQ2.out]
        rintro e w1 ⟨rfl, hb⟩
        have hB2 : Below w.heap.size w w1 := hB1.trans (hb.mono hB1.size)
        go_wp2_with fail
        go_ret
        exact ⟨ret_bool HF.out.symm, hB2⟩
    · have hd : decide ((k : Int) < (s.size : Int)) = false := by simp; omega
      have HF : Hid (s.data.toList.all (inAny sets) = true) := by rw [← take_all s k (by omega)]; exact HA
      go_wp2_with fail
      go_ret
      exact ⟨ret_bool HF.out.symm, hB⟩

end Go.Proofs.YtninheehoabbbaaGreatDoor

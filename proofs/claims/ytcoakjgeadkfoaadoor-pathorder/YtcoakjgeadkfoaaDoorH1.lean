/-
  Contract of the reference's words of a path.
-/
import Derived.Test.YtcoakjgeadkfoaaDoorS2
import Derived.Test.YtcoakjgeadkfoaaDoorV1
import Derived.Test.YtcoakjgeadkfoaaDoorM32
namespace Go.Proofs.YtcoakjgeadkfoaaDoor
set_option linter.unusedSimpArgs false
set_option linter.unusedVariables false
open Go.RowKit Go.Vr Go.Sort Go.Tx Go.Pa
attribute [local go_sem] setCellDrewN allocDrewN

theorem byte_eq (c : UInt8) (d : UInt8) (h : ((c.toNat : Int) == (d.toNat : Int)) = true) : c = d := UInt8.toNat_inj.1 (by have := beq_iff_eq.1 h; omega)
theorem byte_ne (c : UInt8) (d : UInt8) (h : ((c.toNat : Int) == (d.toNat : Int)) = false) : c ≠ d := by rintro rfl; simp at h

/-- How far the words of a text are told. -/
def SInv (s : ByteArray) (k f : Nat) (os : List Bs) : Prop := (k ≤ s.size ∧ sw (s.data.toList.take k) = os ++ [(s.data.toList.take k).drop f]) ∨ (k = s.size + 1 ∧ sw s.data.toList = os)
theorem SInv.start (s : ByteArray) : SInv s 0 0 [] := .inl ⟨Nat.zero_le _, rfl⟩
theorem piece_list (s : ByteArray) (f k : Nat) : (s.extract f k).data.toList = (s.data.toList.take k).drop f := by
  rw [Lib.extract_data, List.drop_take]
theorem SInv.dot {s : ByteArray} {k f : Nat} {os : List Bs} (h : SInv s k f os) (hlt : k < s.size) (hc : s[k] = 47) : SInv s (k + 1) (k + 1) (os ++ [(s.extract f k).data.toList]) := by
  rcases h with ⟨_, h⟩ | ⟨h, _⟩
  · refine .inl ⟨by omega, ?_⟩
    have e : (s.data.toList.take k ++ [47]).drop (k + 1) = [] := List.drop_of_length_le (by simp; omega)
    rw [take_snoc s k hlt, hc, sw_app _ _, h, piece_list, e]
    rfl
  · omega
theorem SInv.last {s : ByteArray} {f : Nat} {os : List Bs} (h : SInv s s.size f os) : SInv s (s.size + 1) (s.size + 1) (os ++ [(s.extract f s.size).data.toList]) := by
  rcases h with ⟨_, h⟩ | ⟨h, _⟩
  · refine .inr ⟨rfl, ?_⟩
    rw [take_all s s.size (Nat.le_refl _)] at h
    rw [h, piece_list, take_all s s.size (Nat.le_refl _)]
  · omega
theorem SInv.more {s : ByteArray} {k f : Nat} {os : List Bs} (h : SInv s k f os) (hf : f ≤ k) (hlt : k < s.size) (hc : s[k] ≠ 47) : SInv s (k + 1) f os := by
  rcases h with ⟨_, h⟩ | ⟨h, _⟩
  · refine .inl ⟨by omega, ?_⟩
    rw [take_snoc s k hlt, sw_snoc _ hc _ _ _ h]
    rw [List.drop_append_of_le_length (by simp; omega)]
  · omega
theorem SInv.done {s : ByteArray} {k f : Nat} {os : List Bs} (h : SInv s k f os) (hk : s.size < k) : sw s.data.toList = os := by
  rcases h with ⟨h, _⟩ | ⟨_, h⟩
  · omega
  · exact h

set_option maxHeartbeats 800000 in
set_option maxRecDepth 100000 in
theorem pwords_any (s : ByteArray) (w : World) (hs : s.size ≤ 5000) :
    Calls Tryd.prog 20 #[.string s] w fun e w' => ∃ v, e = .returned v ∧ w'.ownsRow w.heap.size 9 1 v (sw s.data.toList).length ((sw s.data.toList).map encStr) ∧ Below w.heap.size w w' := by
  go_enter Tryd.func20, Tryd.ntmps20
  go_wp2_with fail
  go_loopw [3, 4, 5] (fun v fr i wr => ∃ (k f : Nat) (os : List Bs), k ≤ s.size + 1 ∧ f ≤ k ∧ os.length ≤ k ∧ i = .int .i64 k ∧ fr = .int .i64 f ∧ Hid (SInv s k f os) ∧ wr.ownsRow w.heap.size 9 1 v os.length (os.map encStr) ∧ Below w.heap.size w wr) (fun _ _ i _ => s.size + 1 - (intOf i).toNat)
  case atStart => exact ⟨0, 0, [], by omega, by omega, by simp, rfl, rfl, SInv.start s, World.ownsRow_nil _ _ _ _, Below.refl _ _⟩
  case round =>
    obtain ⟨k, f, os, hk, hf, hol, rfl, rfl, hI, hown, hB⟩ := hrel
    by_cases hlt : k ≤ s.size
    · have hBs := hB.size
      by_cases he : k = s.size
      · subst he
        go_wp2_with (refine wpList_app rfl _ _ rfl w.heap.size os.length _ os (some _) 1 1 [(s.extract f s.size).data.toList] rfl rfl (hown.alloc _) (one_row (by rw [show Tx.str (s.extract f s.size).data.toList = s.extract f s.size from Tx.str_of _]; simp [go_sem])) (by omega) (by simp; omega) ?_; intro v' w' o1 g1 t1)
        go_roundw
        case rel => exact ⟨s.size + 1, s.size + 1, os ++ [(s.extract f s.size).data.toList], by omega, by omega, by simp; omega, by go_num, by go_num, hI.out.last, by rw [List.length_append]; exact o1, (bel_app (hB.alloc hBs _) (hown.alloc _) g1 (by simp; omega))⟩
        case measure => simp [intOf]
      · have hlt2 : k < s.size := by omega
        have h1 : ((k : Int) == (s.size : Int)) = false := by simp; omega
        clear he
        cases hc : (((s[k]).toNat : Int) == 47) with
        | true =>
          have HI : Hid (SInv s (k + 1) (k + 1) (os ++ [(s.extract f k).data.toList])) := hI.out.dot hlt2 (byte_eq _ 47 hc)
          go_wp2_with (refine wpList_app rfl _ _ rfl w.heap.size os.length _ os (some _) 1 1 [(s.extract f k).data.toList] rfl rfl (hown.alloc _) (one_row (by rw [show Tx.str (s.extract f k).data.toList = s.extract f k from Tx.str_of _]; simp [go_sem])) (by omega) (by simp; omega) ?_; intro v' w' o1 g1 t1)
          go_roundw
          case rel => exact ⟨k + 1, k + 1, os ++ [(s.extract f k).data.toList], by omega, by omega, by simp; omega, by go_num, by go_num, HI, by rw [List.length_append]; exact o1, (bel_app (hB.alloc hBs _) (hown.alloc _) g1 (by simp; omega))⟩
          case measure => simp [intOf]; omega
        | false =>
          have HI : Hid (SInv s (k + 1) f os) := hI.out.more hf hlt2 (byte_ne _ 47 hc)
          go_wp2_with fail
          go_roundw
          case rel => exact ⟨k + 1, f, os, by omega, by omega, by omega, by go_num, rfl, HI, hown, hB⟩
          case measure => simp [intOf]; omega
    · have h1 : decide ((k : Int) ≤ (s.size : Int)) = false := by simp; omega
      have HD : Hid (sw s.data.toList = os) := hI.out.done (by omega)
      go_wp2_with fail
      go_ret
      exact ⟨_, rfl, by rw [HD.out]; exact hown, hB⟩

end Go.Proofs.YtcoakjgeadkfoaaDoor

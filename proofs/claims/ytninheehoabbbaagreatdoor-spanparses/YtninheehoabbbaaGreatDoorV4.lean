/-
  Contract of the reference's words.
-/
import Derived.Test.YtninheehoabbbaaGreatDoorV3
import Derived.Test.YtninheehoabbbaaGreatDoorR1
namespace Go.Proofs.YtninheehoabbbaaGreatDoor
set_option linter.unusedVariables false
open Go.RowKit Go.Vr Go.Sort Go.Tx

theorem byte_eq (c : UInt8) (d : UInt8) (h : ((c.toNat : Int) == (d.toNat : Int)) = true) : c = d := UInt8.toNat_inj.1 (by have := beq_iff_eq.1 h; omega)
theorem byte_ne (c : UInt8) (d : UInt8) (h : ((c.toNat : Int) == (d.toNat : Int)) = false) : c ≠ d := by rintro rfl; simp at h

/-- How far the words of a text are told. -/
def WInv (s : ByteArray) (k f : Nat) (os : List Bs) : Prop := (k ≤ s.size ∧ words (s.data.toList.take k) = os ++ [(s.data.toList.take k).drop f]) ∨ (k = s.size + 1 ∧ words s.data.toList = os)
theorem WInv.start (s : ByteArray) : WInv s 0 0 [] := .inl ⟨Nat.zero_le _, rfl⟩
theorem piece_list (s : ByteArray) (f k : Nat) : (s.extract f k).data.toList = (s.data.toList.take k).drop f := by
  rw [Lib.extract_data, List.drop_take]
theorem WInv.dot {s : ByteArray} {k f : Nat} {os : List Bs} (h : WInv s k f os) (hlt : k < s.size) (hc : s[k] = 46) : WInv s (k + 1) (k + 1) (os ++ [(s.extract f k).data.toList]) := by
  rcases h with ⟨_, h⟩ | ⟨h, _⟩
  · refine .inl ⟨by omega, ?_⟩
    have e : (s.data.toList.take k ++ [46]).drop (k + 1) = [] := List.drop_of_length_le (by simp; omega)
    rw [take_snoc s k hlt, hc, words_app _ _, h, piece_list, e]
    rfl
  · omega
theorem WInv.last {s : ByteArray} {f : Nat} {os : List Bs} (h : WInv s s.size f os) : WInv s (s.size + 1) (s.size + 1) (os ++ [(s.extract f s.size).data.toList]) := by
  rcases h with ⟨_, h⟩ | ⟨h, _⟩
  · refine .inr ⟨rfl, ?_⟩
    rw [take_all s s.size (Nat.le_refl _)] at h
    rw [h, piece_list, take_all s s.size (Nat.le_refl _)]
  · omega
theorem WInv.more {s : ByteArray} {k f : Nat} {os : List Bs} (h : WInv s k f os) (hf : f ≤ k) (hlt : k < s.size) (hc : s[k] ≠ 46) : WInv s (k + 1) f os := by
  rcases h with ⟨_, h⟩ | ⟨h, _⟩
  · refine .inl ⟨by omega, ?_⟩
    rw [take_snoc s k hlt, words_snoc _ hc _ _ _ h]
    rw [List.drop_append_of_le_length (by simp; omega)]
  · omega
theorem WInv.done {s : ByteArray} {k f : Nat} {os : List Bs} (h : WInv s k f os) (hk : s.size < k) : words s.data.toList = os := by
  rcases h with ⟨h, _⟩ | ⟨_, h⟩
  · omega
  · exact h

set_option maxHeartbeats 800000 in
set_option maxRecDepth 100000 in
theorem rwords_any (s : ByteArray) (w : World) (hs : s.size ≤ 5000) :
    Calls Tryz.prog 50 #[.string s] w fun e w' => ∃ v, e = .returned v ∧ w'.ownsRow w.heap.size 9 1 v (words s.data.toList).length ((words s.data.toList).map encStr) ∧ Below w.heap.size w w' := by
  go_enter Tryz.func50, Tryz.ntmps50
  go_wp2_with fail
  go_loopw [3, 4, 5] (fun v fr i wr => ∃ (k f : Nat) (os : List Bs), k ≤ s.size + 1 ∧ f ≤ k ∧ os.length ≤ k ∧ i = .int .i64 k ∧ fr = .int .i64 f ∧ Hid (WInv s k f os) ∧ wr.ownsRow w.heap.size 9 1 v os.length (os.map encStr) ∧ Below w.heap.size w wr) (fun _ _ i _ => s.size + 1 - (intOf i).toNat)
  case atStart => exact ⟨0, 0, [], by omega, by omega, by simp, rfl, rfl, WInv.start s, World.ownsRow_nil _ _ _ _, Below.refl _ _⟩
  case round =>
    obtain ⟨k, f, os, hk, hf, hol, rfl, rfl, hI, hown, hB⟩ := hrel
    by_cases hlt : k ≤ s.size
    · have hBs := hB.size
      by_cases he : k = s.size
      · subst he
        go_wp2_with (refine wpList_app rfl _ _ rfl w.heap.size os.length _ os (some _) 1 1 [(s.extract f s.size).data.toList] rfl rfl (hown.alloc _) (one_row (by rw [show Tx.str (s.extract f s.size).data.toList = s.extract f s.size from Tx.str_of _]; simp [go_sem])) (by omega) (by simp; omega) ?_; intro v' w' o1 g1 t1)
        go_roundw
        case rel => exact ⟨s.size + 1, s.size + 1, os ++ [(s.extract f s.size).data.toList], by omega, by omega, by simp; omega, by go_num, by go_num, hI.out.last, by rw [List.length_append]; exact o1, (bel_app (hB.alloc hBs _) (hown.alloc _) g1 (by simp; omega))⟩
        case measure => simp [intOf]
      · have hlt2 : k < s.size := by omega
        have h1 : ((k : Int) == (s.size : Int)) = false := by simp; omega
        clear he
        cases hc : (((s[k]).toNat : Int) == 46) with
        | true =>
          have HI : Hid (WInv s (k + 1) (k + 1) (os ++ [(s.extract f k).data.toList])) := hI.out.dot hlt2 (byte_eq _ 46 hc)
          go_wp2_with (refine wpList_app rfl _ _ rfl w.heap.size os.length _ os (some _) 1 1 [(s.extract f k).data.toList] rfl rfl (hown.alloc _) (one_row (by rw [show Tx.str (s.extract f k).data.toList = s.extract f k from Tx.str_of _]; simp [go_sem])) (by omega) (by simp; omega) ?_; intro v' w' o1 g1 t1)
          go_roundw
          case rel => exact ⟨k + 1, k + 1, os ++ [(s.extract f k).data.toList], by omega, by omega, by simp; omega, by go_num, by go_num, HI, by rw [List.length_append]; exact o1, (bel_app (hB.alloc hBs _) (hown.alloc _) g1 (by simp; omega))⟩
          case measure => simp [intOf]; omega
        | false =>
          have HI : Hid (WInv s (k + 1) f os) := hI.out.more hf hlt2 (byte_ne _ 46 hc)
          go_wp2_with fail
          go_roundw
          case rel => exact ⟨k + 1, f, os, by omega, by omega, by omega, by go_num, rfl, HI, hown, hB⟩
          case measure => simp [intOf]; omega
    · have h1 : decide ((k : Int) ≤ (s.size : Int)) = false := by simp; omega
      have HD : Hid (words s.data.toList = os) := hI.out.done (by omega)
      go_wp2_with fail
      go_ret
      exact ⟨_, rfl, by rw [HD.out]; exact hown, hB⟩

end Go.Proofs.YtninheehoabbbaaGreatDoor

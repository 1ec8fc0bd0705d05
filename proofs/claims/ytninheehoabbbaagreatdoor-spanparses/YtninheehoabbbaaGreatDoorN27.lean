/-
  strings.IndexAny at ' |': any text of at most eight bytes; so what is left of any text.
-/
import Derived.Test.YtninheehoabbbaaGreatDoorN26
namespace Go.Proofs.YtninheehoabbbaaGreatDoor
set_option linter.unusedSimpArgs false
set_option linter.unusedVariables false
open Go.RowKit Go.Vr Go.Sort Go.Tx Go.Lib
attribute [local go_sem] setCellDrewN allocDrewN

set_option maxHeartbeats 8000000 in
set_option maxRecDepth 1000000 in
theorem any_short (s : ByteArray) (w : World) (h8 : s.size ≤ 8) :
    Calls Tryz.prog 118 #[.string s, .string ⟨#[32, 124]⟩] w fun e w' => e = .returned (.int .i64 (indexAny s.data.toList [32, 124])) ∧ RowKit.Below w.heap.size w w' := by
  have h8z : decide ((8 : Int) < (s.size : Int)) = false := decide_eq_false (by omega)
  have CU := hide (fun (n : Int) (W : World) => Any.strings_shouldUseASCIISet (P := Tryz.prog) { Tryz.lays153 with } n W)
  have CI := hide (fun (r : Int) (W : World) (h0 : 0 ≤ r) (h1 : r < 128) => Any.strings_IndexRune_ascii (P := Tryz.prog) { Tryz.lays153 with } ⟨#[32, 124]⟩ r W h0 h1)
  have he2 : (ByteArray.mk #[32, 124]).toList.isEmpty = false := by rw [toList_data]; rfl
  go_enter Tryz.func118, Tryz.ntmps118
  go_wp2_with fail
  refine (CU.out _ _).mono ?_
  rw [h8z]
  rintro e w1 ⟨rfl, hw⟩
  rw [hw]
  clear hw w1
  go_wp2_with fail
  go_loopg [9, 10] s.size (fun g _ _ wx => ∃ i : Nat, s.size - i ≤ g ∧ i ≤ s.size ∧ Hid (wx.heap[w.heap.size]? = some (.stringIter s i)) ∧ Hid (NoAny s.data.toList [32, 124] i) ∧ Hid (RowKit.Below w.heap.size w wx))
  case atStart => exact ⟨0, by omega, by omega, hide (World.iter_heap w s 0), hide (NoAny.zero _ _), hide ((RowKit.Below.refl _ _).alloc (Nat.le_refl _) _)⟩
  case round =>
    obtain ⟨i, hig, hi, HI, HN, HB⟩ := hrel
    by_cases hlt : i < s.size
    · cases gk with
      | zero => omega
      | succ g =>
        have hNs : w.heap.size < wr.heap.size := (Array.getElem?_eq_some_iff.1 HI.out).1
        have hxl : s.data.toList[i]? = some s[i] := Lib.data_getElem? s i hlt
        by_cases ha : (s[i]).toNat < 128
        · have hnx0 := fun ty => run_next_at Tryz.prog wr w.heap.size s i ty HI.out hlt
          rw [decode_ascii s i hlt ha] at hnx0
          have HI2 := hide (iterTo_at wr w.heap.size s (i + 1) hNs)
          have HB2 := hide (iterTo_below (s := s) (p := i + 1) HB.out)
          simp only at hnx0
          generalize hx : s[i] = x at *
          generalize hW2 : iterTo wr w.heap.size s (i + 1) = W2 at *
          have HX := hide hxl
          have hcon := Lib.contains_iff_indexByte [32, 124] x
          have hback : ((x.toNat : Int)).toNat.toUInt8 = x := by simp
          have CI2 := hide (fun W => CI.out (x.toNat : Int) W (by omega) (by omega))
          rw [hback] at CI2
          clear CI CU hx hW2 hxl ha hback
          cases hin : ([32, 124] : List UInt8).contains x with
          | false =>
            rw [hin] at hcon
            have hq : decide ((0 : Int) ≤ indexByte [32, 124] x) = false := hcon.symm
            have HN2 := hide (HN.out.succ HX.out hin)
            generalize indexByte [32, 124] x = q at *
            have hq2 : ¬ (0 : Int) ≤ q := of_decide_eq_false hq
            clear hcon hin
            have HG := hide (And.intro hig hlt)
            clear hig hi hlt h8
            go_wp2_with fail
            refine (CI2.out _).mono ?_
            rintro e w3 ⟨rfl, hw⟩
            rw [hw]
            clear hw w3
            go_wp2_with fail
            go_roundg g
            case measure => have := HG.out; omega
            case rel => exact ⟨i + 1, by have := HG.out; omega, by have := HG.out.2; omega, HI2, HN2, HB2⟩
          | true =>
            rw [hin] at hcon
            have hq : decide ((0 : Int) ≤ indexByte [32, 124] x) = true := hcon.symm
            have HR := hide (indexAny_hit HN.out HX.out hin)
            generalize indexByte [32, 124] x = q at *
            have hq2 : (0 : Int) ≤ q := of_decide_eq_true hq
            clear hcon hin hig hi h8
            go_wp2_with fail
            refine (CI2.out _).mono ?_
            rintro e w3 ⟨rfl, hw⟩
            rw [hw]
            clear hw w3
            go_wp2_with fail
            go_ret
            exact ⟨ret_int HR.out.symm, HB2.out⟩
        · have hnx0 := fun ty => run_next_at Tryz.prog wr w.heap.size s i ty HI.out hlt
          have hd := decode_high s i hlt (by omega)
          have hin := decode_in s i hlt (by omega)
          have HN2 := hide (no_high hlt (by omega) HN.out)
          generalize hD : Utf8.decode s i = D at *
          obtain ⟨r, n⟩ := D
          simp only at hnx0 hd hin HN2
          have HI2 := hide (iterTo_at wr w.heap.size s (i + n) hNs)
          have HB2 := hide (iterTo_below (s := s) (p := i + n) HB.out)
          generalize hW2 : iterTo wr w.heap.size s (i + n) = W2 at *
          have CR := hide (fun W => idx_rune (r : Int) W (by omega))
          have HG := hide (And.intro hig (And.intro hlt (And.intro hd hin)))
          clear hD hW2 hig hi hlt h8 hd hin hxl ha CI CU
          go_wp2_with fail
          refine (CR.out _).mono ?_
          rintro e w3 ⟨rfl, b3⟩
          have hlt3 : w.heap.size < W2.heap.size := (Array.getElem?_eq_some_iff.1 HI2.out).1
          have HI3 := hide ((b3.block _ hlt3).trans HI2.out)
          have HB3 := hide (step HB2.out b3)
          clear b3 hlt3 hNs
          go_wp2_with fail
          go_roundg g
          case measure => have := HG.out; omega
          case rel => exact ⟨i + n, by have := HG.out; omega, by have := HG.out; omega, HI3, HN2, HB3⟩
    · obtain rfl : i = s.size := by omega
      have hnx := fun ty => run_next_stop Tryz.prog wr w.heap.size s s.size ty HI.out hlt
      clear hig h8 hi hlt
      go_wp2_with fail
      go_ret
      exact ⟨ret_int (indexAny_none (by rw [len_eq]; exact HN.out)).symm, HB.out⟩

end Go.Proofs.YtninheehoabbbaaGreatDoor

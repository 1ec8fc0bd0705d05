/-
  Contract of meant.
-/
import Derived.Test.YtninheehoabbbaaGreatDoorN14
namespace Go.Proofs.YtninheehoabbbaaGreatDoor
set_option linter.unusedSimpArgs false
set_option linter.unusedVariables false
open Go.RowKit Go.Vr Go.Sort Go.Tx Go.Lib
attribute [local go_sem] setCellDrewN allocDrewN

theorem index_bd : ∀ (l : Bs) (c : UInt8), -1 ≤ indexByte l c ∧ indexByte l c < l.length ∨ (indexByte l c = -1)
  | [], c => .inr rfl
  | b :: l, c => by
    have ih := index_bd l c
    unfold indexByte
    split
    · exact .inl (by simp)
    · split
      · exact .inr rfl
      · rename_i h
        have h2 : ¬ indexByte l c = -1 := by simpa using h
        rcases ih with ih | ih
        · exact .inl (by rw [List.length_cons]; omega)
        · exact absurd ih h2
theorem vAt_le (l : Bs) : Sp.vAt l ≤ l.length ∧ max (indexByte l 118) 0 = (Sp.vAt l : Int) := by
  have h := index_bd l 118
  unfold Sp.vAt
  omega

set_option maxHeartbeats 8000000 in
set_option maxRecDepth 100000 in
theorem meant_any (s : ByteArray) (w : World) (hs : s.size ≤ 3900) (he : Env w) :
    Calls Tryz.prog 100 #[.string s] w fun e w' => Told w w' e (Sp.meantM s.data.toList) ∧ RowKit.Below w.heap.size w w' := by
  have HE := hide he
  clear he
  by_cases hstar : s.data.toList = [42]
  · have e : s = ⟨#[42]⟩ := ba_ext hstar
    subst e
    have HM : Hid (Sp.meantM (ByteArray.mk #[42]).data.toList = some (Sp.notL [])) := rfl
    have CN : Hid (Calls Tryz.prog 11 #[.slice none 0 0] w fun e w' => ∃ v', e = .returned v' ∧ EOwn ES w' w.heap.size v' (Sp.notL []) ∧ RowKit.Below w.heap.size w w') := not_any none 0 0 [] w (ERow.none w) (by omega) (fun _ h => nomatch h) HE.out
    go_enter Tryz.func100, Tryz.ntmps100
    go_wp2_with fail
    refine CN.out.mono ?_
    rintro e w1 ⟨v1, rfl, o1, b1⟩
    clear CN
    go_wp2_with fail
    exact bodyPost_ret (v := .tuple #[v1, .bool true]) (by simp [results, Tryz.results100, go_sem]) rfl ⟨by rw [HM.out]; exact ⟨v1, rfl, o1⟩, b1⟩
  · have hst : (s.toList == [42]) = false := by rw [toList_data]; simpa using hstar
    have CW := hide (wild_any s w hs HE.out)
    cases hw : Sp.wildM s.data.toList with
    | some l =>
      have HM : Hid (Sp.meantM s.data.toList = some l) := by show _ = _; unfold Sp.meantM; rw [if_neg hstar, hw]
      rw [hw] at CW
      clear hstar hw
      go_enter Tryz.func100, Tryz.ntmps100
      go_wp2_with fail
      refine CW.out.mono ?_
      rintro e w1 ⟨⟨v1, rfl, o1⟩, b1⟩
      clear CW
      go_wp2_with fail
      exact bodyPost_ret (v := .tuple #[v1, .bool true]) (by simp [results, Tryz.results100, go_sem]) rfl ⟨by rw [HM.out]; exact ⟨v1, rfl, o1⟩, b1⟩
    | none =>
      obtain ⟨k1, k2⟩ := vAt_le s.data.toList
      have HM : Hid (Sp.meantM s.data.toList = Sp.meant2 (s.data.toList.take (Sp.vAt s.data.toList)) (parse (s.data.toList.drop (Sp.vAt s.data.toList)))) := by show _ = _; unfold Sp.meantM; rw [if_neg hstar, hw]
      rw [hw] at CW
      have CI := hide (fun W => indexByte_any s 118 W)
      rw [len_eq] at k1
      have hx : (s.extract 0 (Sp.vAt s.data.toList)).data.toList = s.data.toList.take (Sp.vAt s.data.toList) := by simp [ByteArray.data_extract]
      have hy : (s.extract (Sp.vAt s.data.toList) s.size).data.toList = s.data.toList.drop (Sp.vAt s.data.toList) := by
        simp only [ByteArray.data_extract, Array.toList_extract, List.extract_eq_take_drop]
        rw [List.take_of_length_le (by rw [List.length_drop, len_eq]; exact Nat.le_refl _)]
      have hz : (s.extract (Sp.vAt s.data.toList) s.size).size ≤ 4000 := by rw [← len_eq, hy, List.length_drop, len_eq]; omega
      have CP : Hid (∀ W, RowKit.Below w.heap.size w W → Calls Tryz.prog 101 #[.string (s.extract (Sp.vAt s.data.toList) s.size)] W fun e w' => e = .returned (pret (parse (s.data.toList.drop (Sp.vAt s.data.toList)))) ∧ RowKit.Below W.heap.size W w') := fun W hW => by
        have := parse_any (s.extract (Sp.vAt s.data.toList) s.size) W hz (HE.out.later hW)
        rw [hy] at this; exact this
      have CS : Hid (∀ W v, RowKit.Below w.heap.size w W → v.ok = true → Calls Tryz.prog 121 #[.string (s.extract 0 (Sp.vAt s.data.toList)), val v] W fun e w' => Told W w' e (Sp.signedM (s.data.toList.take (Sp.vAt s.data.toList)) v) ∧ RowKit.Below W.heap.size W w') := fun W v hW hv => by
        have := signed_any (s.extract 0 (Sp.vAt s.data.toList)) v W hv (HE.out.later hW)
        rw [hx] at this; exact this
      have hq := @parse_ok' (s.data.toList.drop (Sp.vAt s.data.toList))
      generalize parse (s.data.toList.drop (Sp.vAt s.data.toList)) = o at *
      generalize s.data.toList.take (Sp.vAt s.data.toList) = g at *
      clear hstar hw hx hy hz
      go_enter Tryz.func100, Tryz.ntmps100
      go_wp2_with fail
      refine CW.out.mono ?_
      rintro e w1 ⟨e1, b1⟩
      have e1 : e = .returned (.tuple #[.slice none 0 0, .bool false]) := e1
      subst e1
      clear CW
      go_wp2_with fail
      refine (CI.out _).mono ?_
      rintro e w2 ⟨rfl, rfl⟩
      clear CI
      go_wp2_with fail
      refine (CP.out _ b1).mono ?_
      rintro e w3 ⟨rfl, b3⟩
      have hB3 := b1.trans (b3.mono b1.size)
      clear CP b3
      cases o with
      | none =>
        have HM2 : Hid (Sp.meantM s.data.toList = none) := HM
        simp only [pret, Option.getD_none, Option.isSome_none]
        go_wp2_with fail
        exact bodyPost_ret (v := .tuple #[.slice none 0 0, .bool false]) (by simp [results, Tryz.results100, go_sem]) rfl ⟨by rw [HM2.out]; rfl, (by repeat (first | with_reducible assumption | with_reducible exact Below.refl _ _ | with_reducible refine Below.setCell ?_ (by first | exact Nat.le_refl _ | (simp; done) | (simp; omega)) _ | with_reducible refine bal ?_ _ | with_reducible refine Below.alloc ?_ (by first | exact Nat.le_refl _ | (simp; done) | (simp; omega)) _ | with_reducible refine Below.drew ?_))⟩
      | some v =>
        have HM2 : Hid (Sp.meantM s.data.toList = Sp.signedM g v) := HM
        have hv := hq rfl
        have HV := hide hv
        have CS2 := hide (fun W hW => CS.out W v hW hv)
        clear HM hq CS hv
        simp only [pret, Option.getD_some, Option.isSome_some]
        go_wp2_with fail
        refine (CS2.out _ (by exact bal hB3 _)).mono ?_
        rintro e w4 ⟨t4, b4⟩
        have hB4 : RowKit.Below w.heap.size w w4 := step (bal hB3 _) b4
        have s3 := hB3.size
        have HT : Hid (Told w w4 e (Sp.signedM g v)) := by
          cases hsg : Sp.signedM g v with
          | none => rw [hsg] at t4; exact t4
          | some l => rw [hsg] at t4; obtain ⟨v', h1, h2⟩ := t4; exact ⟨v', h1, h2.base (by simp; omega)⟩
        clear t4 b4 CS2
        cases hsg : Sp.signedM g v with
        | none =>
          rw [hsg] at HT HM2
          have he : e = .returned (.tuple #[.slice none 0 0, .bool false]) := HT
          subst he
          clear hsg
          go_wp2_with fail
          exact bodyPost_ret (v := .tuple #[.slice none 0 0, .bool false]) (by simp [results, Tryz.results100, go_sem]) rfl ⟨by rw [HM2.out]; rfl, hB4⟩
        | some l =>
          rw [hsg] at HT HM2
          obtain ⟨v', rfl, o'⟩ := HT.out
          clear hsg HT
          go_wp2_with fail
          exact bodyPost_ret (v := .tuple #[v', .bool true]) (by simp [results, Tryz.results100, go_sem]) rfl ⟨by rw [HM2.out]; exact ⟨v', rfl, o'⟩, hB4⟩
end Go.Proofs.YtninheehoabbbaaGreatDoor

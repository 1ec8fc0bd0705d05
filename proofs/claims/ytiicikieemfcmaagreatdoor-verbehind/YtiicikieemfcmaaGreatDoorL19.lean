/-
  The walk of VerBehind.
-/
import Derived.Test.YtiicikieemfcmaaGreatDoorU19
namespace Go.Proofs.YtiicikieemfcmaaGreatDoor.verBehind
set_option linter.unusedSimpArgs false
set_option linter.unusedVariables false
open Go.RowKit Go.Vr Go.Sort Go.Tx Go.Lib
attribute [local go_sem] setCellDrewN allocDrewN

theorem bret_is (o : Option (Int × Bs)) : ∃ (n : Int) (s : ByteArray) (b : Bool), bret o = .tuple #[.int .i64 n, .string s, .bool b] := by
  cases o with
  | none => exact ⟨_, _, _, rfl⟩
  | some x => exact ⟨_, _, _, rfl⟩
theorem pre_len {p : ByteArray} (h : verOk 0 0 0 p.data.toList = true) : p.size ≤ 40 := ok_size (v := ⟨0, 0, 0, p⟩) h

set_option maxHeartbeats 4000000 in
set_option maxRecDepth 100000 in
theorem walk (a0 a1 : Int) (s : ByteArray) (w : World) (he : Env w) (h0 : -9223372036854775808 ≤ a0 ∧ a0 ≤ 9223372036854775807) (h1 : -9223372036854775808 ≤ a1 ∧ a1 ≤ 9223372036854775807) (hs : s.size ≤ maxLen) :
    Calls Tryz.prog 9 #[.int .i64 a0, .int .i64 a1, .string s] w fun e w' => e = .returned (.bool true) ∧ Below w.heap.size w w' := by
  have HE := hide he
  clear he
  go_enter Tryz.func9, Tryz.ntmps9
  go_wp2_with fail
  refine (known_any w HE.out).mono ?_
  rintro e w1 ⟨rfl, b1⟩
  go_wp2_with fail
  refine (make_any a0 a1 _ h0 h1).mono ?_
  rintro e w2 ⟨v, rfl, hv, b2⟩
  have hz := ok_size hv
  have ba2 : Below w2.heap.size w2 (w2.alloc (.cells #[.int .i64 v.a, .int .i64 v.b, .int .i64 v.c, .string v.p] 24)) := (Below.refl _ _).alloc (Nat.le_refl _) _
  have hB2 := step (step b1 b2) ba2
  have CV := hide (fun W hW => behindV_any v W (by omega) hW)
  have CR := hide (fun W => rbehind_any v W (by omega))
  have V2 := hide (VarAt.new w2 v)
  obtain ⟨n, t, f, hb⟩ := bret_is (behind v.p.data.toList)
  rw [hb] at CV CR
  clear hb hz hv h0 h1 b1 b2 ba2
  obtain ⟨a, b, c, p⟩ := v
  go_wp2_with fail
  refine (CV.out _ (HE.out.later hB2)).mono ?_
  rintro e w3 ⟨rfl, b3⟩
  have hB3 := step hB2 b3
  have V3 := hide (V2.out.later b3)
  clear V2 hB2 b3 CV
  obtain ⟨l3, c0, c1, c2, c3, -, -, -, -⟩ := V3.out
  go_wp2_with fail
  refine (CR.out _).mono ?_
  rintro e w4 ⟨rfl, b4⟩
  have hB4 := step hB3 b4
  have ba4 : Below w4.heap.size w4 (w4.alloc (.cells #[.int .i64 0, .int .i64 0, .int .i64 0, .string s] 24)) := (Below.refl _ _).alloc (Nat.le_refl _) _
  have hB5 := step hB4 ba4
  have W5 := hide (VarAt.new w4 ⟨0, 0, 0, s⟩)
  have CO := hide (fun W => rright_any 0 0 0 s W hs)
  clear c0 c1 c2 c3 l3 V3 hB3 b4 CR ba4
  cases hok : verOk 0 0 0 s.data.toList with
  | true =>
    rw [hok] at CO
    have hz := pre_len hok
    have DV := hide (fun W hW => behindV_any ⟨0, 0, 0, s⟩ W (by show s.size ≤ _; omega) hW)
    have DR := hide (fun W => rbehind_any ⟨0, 0, 0, s⟩ W (by show s.size ≤ _; omega))
    obtain ⟨n2, t2, f2, hb⟩ := bret_is (behind (V.mk 0 0 0 s).p.data.toList)
    rw [hb] at DV DR
    clear hb hz hok
    go_wp2_with fail
    refine (CO.out _).mono ?_
    rintro e w6 ⟨rfl, b6⟩
    have hB6 := step hB5 b6
    have W6 := hide (W5.out.later b6)
    clear hB5 b6 W5
    obtain ⟨l3, c0, c1, c2, c3, -, -, -, -⟩ := W6.out
    go_wp2_with fail
    refine (DV.out _ (HE.out.later hB6)).mono ?_
    rintro e w7 ⟨rfl, b7⟩
    have hB7 := step hB6 b7
    have W7 := hide (W6.out.later b7)
    clear hB6 b7 W6 c0 c1 c2 c3 l3
    obtain ⟨l3, c0, c1, c2, c3, -, -, -, -⟩ := W7.out
    go_wp2_with fail
    refine (DR.out _).mono ?_
    rintro e w8 ⟨rfl, b8⟩
    have hB8 := step hB7 b8
    go_wp2_with fail
    go_ret
    exact ⟨by first | rfl | simp, hB8⟩
  | false =>
    rw [hok] at CO
    clear hok
    have DV := hide (fun W hW => behindV_any ⟨0, 0, 0, ⟨#[120, 46, 50, 48, 50, 48, 48, 49, 48, 49, 48, 48, 48, 48, 48, 48, 45, 97, 98, 99, 100, 101, 102, 48, 49, 50, 51, 52, 103]⟩⟩ W (by decide) hW)
    have DR := hide (fun W => rbehind_any ⟨0, 0, 0, ⟨#[120, 46, 50, 48, 50, 48, 48, 49, 48, 49, 48, 48, 48, 48, 48, 48, 45, 97, 98, 99, 100, 101, 102, 48, 49, 50, 51, 52, 103]⟩⟩ W (by decide))
    obtain ⟨n2, t2, f2, hb⟩ := bret_is (behind (V.mk 0 0 0 ⟨#[120, 46, 50, 48, 50, 48, 48, 49, 48, 49, 48, 48, 48, 48, 48, 48, 45, 97, 98, 99, 100, 101, 102, 48, 49, 50, 51, 52, 103]⟩).p.data.toList)
    rw [hb] at DV DR
    clear hb
    go_wp2_with fail
    refine (CO.out _).mono ?_
    rintro e w6 ⟨rfl, b6⟩
    have hB6 := step hB5 b6
    have W6 := hide (W5.out.later b6)
    have W6' := hide (W6.out.set3 ⟨#[120, 46, 50, 48, 50, 48, 48, 49, 48, 49, 48, 48, 48, 48, 48, 48, 45, 97, 98, 99, 100, 101, 102, 48, 49, 50, 51, 52, 103]⟩)
    have hB6' := hide (hB6.setCell (p := ⟨w4.heap.size, 3, none⟩) (show w.heap.size ≤ w4.heap.size from hB4.size) (.string ⟨#[120, 46, 50, 48, 50, 48, 48, 49, 48, 49, 48, 48, 48, 48, 48, 48, 45, 97, 98, 99, 100, 101, 102, 48, 49, 50, 51, 52, 103]⟩))
    obtain ⟨l3, c0, c1, c2, c3, f0, f1, f2', f3⟩ := W6.out
    go_wp2_with fail
    refine (DV.out _ (HE.out.later hB6'.out)).mono ?_
    rintro e w7 ⟨rfl, b7⟩
    have hB7 := step hB6'.out b7
    have W7 := hide (W6'.out.later b7)
    clear c0 c1 c2 c3 l3 f0 f1 f2' f3
    obtain ⟨l3, c0, c1, c2, c3, -, -, -, -⟩ := W7.out
    go_wp2_with fail
    refine (DR.out _).mono ?_
    rintro e w8 ⟨rfl, b8⟩
    have hB8 := step hB7 b8
    go_wp2_with fail
    go_ret
    exact ⟨by first | rfl | simp, hB8⟩

end Go.Proofs.YtiicikieemfcmaaGreatDoor.verBehind

/-
  Contracts of the reference's reader: blanks, word.
-/
import Derived.Test.YtninheehoabbbaaGreatDoorN16
import Derived.Test.YtninheehoabbbaaGreatDoorM28
import Derived.BigQuiet
namespace Go.Proofs.YtninheehoabbbaaGreatDoor
set_option linter.unusedSimpArgs false
set_option linter.unusedVariables false
open Go.RowKit Go.Vr Go.Sort Go.Tx Go.Lib
attribute [local go_sem] setCellDrewN allocDrewN

set_option maxHeartbeats 8000000 in
set_option maxRecDepth 100000 in
theorem rblanks_any (R : Nat) (s : ByteArray) (p : Nat) (w : World) (X : Box w R (rd s p)) (hp : p ≤ s.size) (hs : s.size ≤ 1000000) :
    Calls Tryz.prog 45 #[.pointer (some ⟨R, 0, none⟩)] w fun e w' => e = .returned (.tuple #[]) ∧ Box w' R (rd s (Sp.blM s.data.toList p)) ∧ w.grownBy w' (some R) := by
  go_enter Tryz.func45, Tryz.ntmps45
  go_wp2_with fail
  go_loopg [2] (s.size - p) (fun g _ wr => ∃ q : Nat, q ≤ s.size ∧ g = s.size - q ∧ Box wr R (rd s q) ∧ w.grownBy wr (some R) ∧ Hid (Sp.blM s.data.toList p = Sp.blM s.data.toList q))
  case atStart => exact ⟨p, hp, rfl, X, ⟨rfl, rfl, rfl, Nat.le_refl _, fun _ _ _ => rfl⟩, rfl⟩
  case round =>
    obtain ⟨q, hq, rfl, Y, g1, HB⟩ := hrel
    have cY := Y.c
    have fY := Y.f
    have HY := hide Y
    clear X Y
    by_cases he : q = s.size
    · have HF : Hid (Sp.blM s.data.toList p = q) := by
        show _ = _
        rw [HB.out]
        refine bl_stop ?_
        rw [List.getElem?_eq_none (by rw [len_eq]; omega)]; exact fun h => nomatch h
      subst he
      go_wp2_with fail
      go_quiet (fail)
      have b1 := belDrewN wr nq
      have Y1 := HY.out.later b1
      have g2 := grownBy_trans g1 (grownBy_below (some R) b1) (.inl rfl)
      clear cY
      go_wp2_with fail
      go_end0
      exact ⟨rfl, by rw [HF.out]; exact Y1, g2⟩
    · have hlt : q < s.size := by omega
      have i1 : (0 : Int) ≤ (q : Int) := by omega
      have i2 : (q : Int) < (s.size : Int) := by omega
      have hget : s.data.toList[q]? = some s[q] := Lib.data_getElem? s q hlt
      by_cases hc : s[q] = 32
      · have HF : Hid (Sp.blM s.data.toList p = Sp.blM s.data.toList (q + 1)) := by
          show _ = _
          rw [HB.out]; exact bl_more (by rw [hget, hc])
        clear he hget
        go_wp2_with fail
        go_quiet (fail)
        go_wp2_with fail
        go_roundg (s.size - (q + 1))
        case measure => omega
        case rel =>
          have hb := belDrewN (wr.setCell ⟨R, 1, none⟩ (.int .i64 ((q : Int) + 1))) nq
          exact ⟨q + 1, by omega, rfl, (set1 HY.out ((q : Int) + 1) (q + 1) (by omega)).later hb, grownBy_trans (grownBy_trans g1 (grownBy_setCell _ _ _ _) (.inl rfl)) (grownBy_below (some R) hb) (.inl rfl), HF⟩
      · have HF : Hid (Sp.blM s.data.toList p = q) := by
          show _ = _
          rw [HB.out]; exact bl_stop (by rw [hget]; exact fun h => hc (Option.some.inj h))
        have hne : ((s[q].toNat : Int) == 32) = false := by
          have : ¬ s[q].toNat = 32 := fun h => hc (UInt8.toNat_inj.1 h)
          simpa using (by omega : ¬ (s[q].toNat : Int) = 32)
        clear he hget hc
        go_wp2_with fail
        go_quiet (fail)
        have b1 := belDrewN wr nq
        have Y1 := HY.out.later b1
        have g2 := grownBy_trans g1 (grownBy_below (some R) b1) (.inl rfl)
        clear cY
        go_wp2_with fail
        go_end0
        exact ⟨rfl, by rw [HF.out]; exact Y1, g2⟩

/-- A word that goes on for so long. -/
def Upto (s : Bs) (p q : Nat) : Prop := p ≤ q ∧ ∀ c ∈ (s.drop p).take (q - p), Sp.isW c = true
theorem Upto.zero (s : Bs) (p : Nat) : Upto s p p := ⟨Nat.le_refl _, by simp⟩
theorem Upto.more {s : Bs} {p q : Nat} (h : Upto s p q) {c : UInt8} (hc : s[q]? = some c) (hw : Sp.isW c = true) : Upto s p (q + 1) := by
  obtain ⟨h1, h2⟩ := h
  refine ⟨by omega, ?_⟩
  have e : q + 1 - p = (q - p) + 1 := by omega
  have hg : (s.drop p)[q - p]? = some c := by rw [List.getElem?_drop, show p + (q - p) = q by omega]; exact hc
  rw [e, List.take_add_one, hg]
  intro d hd
  rcases List.mem_append.1 hd with hd | hd
  · exact h2 d hd
  · simp only [Option.toList_some, List.mem_singleton] at hd; rw [hd]; exact hw
theorem Upto.stop {s : Bs} {p q : Nat} (h : Upto s p q) (hq : q ≤ s.length) (hs : ∀ c, s[q]? = some c → Sp.isW c = false) : Sp.wordM s p = (s.drop p).take (q - p) ∧ p + (Sp.wordM s p).length = q := by
  obtain ⟨h1, h2⟩ := h
  have e : Sp.wordM s p = (s.drop p).take (q - p) := by
    unfold Sp.wordM
    conv => lhs; rw [← List.take_append_drop (q - p) (s.drop p)]
    rw [List.drop_drop, show p + (q - p) = q by omega]
    cases hd : s.drop q with
    | nil => rw [List.append_nil]; exact Sp.tw_all h2
    | cons c r => exact Sp.tw_stop h2 (hs c (Sp.at_drop hd))
  refine ⟨e, ?_⟩
  rw [e, List.length_take, List.length_drop]
  omega
theorem ext_list (s : ByteArray) (p q : Nat) : (s.extract p q).data.toList = (s.data.toList.drop p).take (q - p) := by
  simp only [ByteArray.data_extract, Array.toList_extract, List.extract_eq_take_drop]

set_option maxHeartbeats 8000000 in
set_option maxRecDepth 100000 in
theorem rdword_any (R : Nat) (s : ByteArray) (p : Nat) (w : World) (X : Box w R (rd s p)) (hp : p ≤ s.size) (hs : s.size ≤ 1000000) :
    Calls Tryz.prog 46 #[.pointer (some ⟨R, 0, none⟩)] w fun e w' => ∃ x : ByteArray, e = .returned (.tuple #[.string x, .int .i64 p]) ∧ x.data.toList = Sp.wordM s.data.toList p ∧ Box w' R (rd s (Sp.blM s.data.toList (p + (Sp.wordM s.data.toList p).length))) ∧ w.grownBy w' (some R) := by
  go_enter Tryz.func46, Tryz.ntmps46
  have cX := X.c
  have HX := hide X
  clear X
  go_wp2_with fail
  clear cX
  go_loopg [10] (s.size - p) (fun g _ wr => ∃ q : Nat, q ≤ s.size ∧ g = s.size - q ∧ Hid (Box wr R (rd s q)) ∧ Hid (w.grownBy wr (some R)) ∧ Hid (Upto s.data.toList p q))
  case atStart => exact ⟨p, hp, rfl, HX, ⟨rfl, rfl, rfl, Nat.le_refl _, fun _ _ _ => rfl⟩, hide (Upto.zero _ _)⟩
  case round =>
    obtain ⟨q, hq, rfl, HY, G1, HU⟩ := hrel
    have hpq : p ≤ q := HU.out.1
    have cY := HY.out.c
    have fY := HY.out.f
    have FIN : Hid ((∀ c, s.data.toList[q]? = some c → Sp.isW c = false) → (s.extract p q).data.toList = Sp.wordM s.data.toList p ∧ p + (Sp.wordM s.data.toList p).length = q) := fun h => by
      have k := HU.out.stop (by rw [len_eq]; exact hq) h
      exact ⟨by rw [ext_list, k.1], k.2⟩
    have j1 : (0 : Int) ≤ (p : Int) := by omega
    have j2 : (p : Int) ≤ (q : Int) := by omega
    have j3 : (q : Int) ≤ (s.size : Int) := by omega
    have CB : Hid (∀ W, Box W R (rd s q) → Calls Tryz.prog 45 #[.pointer (some ⟨R, 0, none⟩)] W fun e w' => e = .returned (.tuple #[]) ∧ Box w' R (rd s (Sp.blM s.data.toList q)) ∧ W.grownBy w' (some R)) := fun W h => rblanks_any R s q W h hq hs
    have ENDW : Hid (∀ W, Box W R (rd s q) → w.grownBy W (some R) → p + (Sp.wordM s.data.toList p).length = q → ∀ w', Box w' R (rd s (Sp.blM s.data.toList q)) ∧ W.grownBy w' (some R) → Box w' R (rd s (Sp.blM s.data.toList (p + (Sp.wordM s.data.toList p).length))) ∧ w.grownBy w' (some R)) := fun W _ h2 e w' h => ⟨by rw [e]; exact h.1, grownBy_trans h2 h.2 (.inl rfl)⟩
    by_cases he : q = s.size
    · have F2 := hide (FIN.out (fun c h => by rw [List.getElem?_eq_none (by rw [len_eq]; omega)] at h; exact nomatch h))
      subst he
      clear FIN
      go_wp2_with fail
      go_quiet (fail)
      have b1 := belDrewN wr nq
      have Y1 := hide (HY.out.later b1)
      have G2 := hide (grownBy_trans G1.out (grownBy_below (some R) b1) (.inl rfl))
      clear cY b1
      have cY := Y1.out.c
      generalize wr.drewN nq = w1 at *
      go_wp2_with fail
      go_quiet (fail)
      have b2 := belDrewN w1 nq
      have Y2 := hide (Y1.out.later b2)
      have G3 := hide (grownBy_trans G2.out (grownBy_below (some R) b2) (.inl rfl))
      clear cY b2
      generalize w1.drewN nq = w2 at *
      go_wp2_with fail
      refine (CB.out _ Y2.out).mono ?_
      rintro e w3 ⟨rfl, h3⟩
      have h4 := ENDW.out _ Y2.out G3.out F2.out.2 _ h3
      clear h3
      go_wp2_with fail
      exact bodyPost_ret (v := .tuple #[.string (s.extract p s.size), .int .i64 p]) (by simp [results, Tryz.results46, go_sem]) rfl ⟨_, rfl, F2.out.1, h4⟩
    · have hlt : q < s.size := by omega
      have i1 : (0 : Int) ≤ (q : Int) := by omega
      have i2 : (q : Int) < (s.size : Int) := by omega
      have hget : s.data.toList[q]? = some s[q] := Lib.data_getElem? s q hlt
      have HGET := hide hget
      clear hget
      by_cases hc : s[q] = 32
      · have F2 := hide (FIN.out (fun c h => by rw [HGET.out] at h; rw [← Option.some.inj h, hc]; decide))
        clear FIN he
        go_wp2_with fail
        go_quiet (fail)
        have b1 := belDrewN wr nq
        have Y1 := hide (HY.out.later b1)
        have G2 := hide (grownBy_trans G1.out (grownBy_below (some R) b1) (.inl rfl))
        clear cY b1
        have cY := Y1.out.c
        generalize wr.drewN nq = w1 at *
        go_wp2_with fail
        go_quiet (fail)
        have b2 := belDrewN w1 nq
        have Y2 := hide (Y1.out.later b2)
        have G3 := hide (grownBy_trans G2.out (grownBy_below (some R) b2) (.inl rfl))
        clear cY b2
        generalize w1.drewN nq = w2 at *
        go_wp2_with fail
        refine (CB.out _ Y2.out).mono ?_
        rintro e w3 ⟨rfl, h3⟩
        have h4 := ENDW.out _ Y2.out G3.out F2.out.2 _ h3
        clear h3
        go_wp2_with fail
        exact bodyPost_ret (v := .tuple #[.string (s.extract p q), .int .i64 p]) (by simp [results, Tryz.results46, go_sem]) rfl ⟨_, rfl, F2.out.1, h4⟩
      · have hne : ((s[q].toNat : Int) == 32) = false := by
          have : ¬ s[q].toNat = 32 := fun h => hc (UInt8.toNat_inj.1 h)
          simpa using (by omega : ¬ (s[q].toNat : Int) = 32)
        have HNC := hide hc
        clear hc
        by_cases hd : s[q] = 124
        · have F2 := hide (FIN.out (fun c h => by rw [HGET.out] at h; rw [← Option.some.inj h, hd]; decide))
          clear FIN he
          go_wp2_with fail
          go_quiet (fail)
          have b1 := belDrewN wr nq
          have Y1 := hide (HY.out.later b1)
          have G2 := hide (grownBy_trans G1.out (grownBy_below (some R) b1) (.inl rfl))
          clear cY b1
          have cY := Y1.out.c
          generalize wr.drewN nq = w1 at *
          go_wp2_with fail
          go_quiet (fail)
          have b2 := belDrewN w1 nq
          have Y2 := hide (Y1.out.later b2)
          have G3 := hide (grownBy_trans G2.out (grownBy_below (some R) b2) (.inl rfl))
          clear cY b2
          generalize w1.drewN nq = w2 at *
          go_wp2_with fail
          refine (CB.out _ Y2.out).mono ?_
          rintro e w3 ⟨rfl, h3⟩
          have h4 := ENDW.out _ Y2.out G3.out F2.out.2 _ h3
          clear h3
          go_wp2_with fail
          exact bodyPost_ret (v := .tuple #[.string (s.extract p q), .int .i64 p]) (by simp [results, Tryz.results46, go_sem]) rfl ⟨_, rfl, F2.out.1, h4⟩
        · have hne2 : ((s[q].toNat : Int) == 124) = false := by
            have : ¬ s[q].toNat = 124 := fun h => hd (UInt8.toNat_inj.1 h)
            simpa using (by omega : ¬ (s[q].toNat : Int) = 124)
          have hne3 : ((s[q].toNat : Int) != 32) = true := by rw [bne, hne]; rfl
          have hne4 : ((s[q].toNat : Int) != 124) = true := by rw [bne, hne2]; rfl
          have hne5 : ¬ (s[q].toNat : Int) = 32 := by simpa using hne
          have hne6 : ¬ (s[q].toNat : Int) = 124 := by simpa using hne2
          have HU2 := hide (HU.out.more HGET.out (by unfold Sp.isW; have h1 := HNC.out; simp [h1, hd]))
          clear FIN he hd
          go_wp2_with fail
          go_quiet (fail)
          go_wp2_with fail
          go_roundg (s.size - (q + 1))
          case measure => omega
          case rel =>
            have hb := belDrewN (wr.setCell ⟨R, 1, none⟩ (.int .i64 ((q : Int) + 1))) nq
            exact ⟨q + 1, by omega, rfl, hide ((set1 HY.out ((q : Int) + 1) (q + 1) (by omega)).later hb), hide (grownBy_trans (grownBy_trans G1.out (grownBy_setCell _ _ _ _) (.inl rfl)) (grownBy_below (some R) hb) (.inl rfl)), HU2⟩
end Go.Proofs.YtninheehoabbbaaGreatDoor

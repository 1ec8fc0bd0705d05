/-
  Contracts of the reference's reader: blanks, word.
  The reference's way to read a word that ends in .x is the model's.
-/
import Derived.Test.YtohnlhfgajipgaaGreatDoorG25
import Derived.Test.YtohnlhfgajipgaaGreatDoorG39
import Derived.BigQuiet

namespace Go.Proofs.YtohnlhfgajipgaaGreatDoor
set_option linter.unusedSimpArgs false
set_option linter.unusedVariables false
open Go.RowKit Go.Vr Go.Sort Go.Tx Go.Lib
attribute [local go_sem] setCellDrewN allocDrewN

set_option maxHeartbeats 8000000 in
set_option maxRecDepth 100000 in
theorem rblanks_any (R : Nat) (s : ByteArray) (p : Nat) (w : World) (X : Box w R (rd s p)) (hp : p ≤ s.size) (hs : s.size ≤ 1000000) :
    Calls Tryz.prog 85 #[.pointer (some ⟨R, 0, none⟩)] w fun e w' => e = .returned (.tuple #[]) ∧ Box w' R (rd s (Sp.blM s.data.toList p)) ∧ w.grownBy w' (some R) := by
  go_enter Tryz.func85, Tryz.ntmps85
  go_wp2_with fail
  go_loopg [2] (s.size - p) (fun g _ wr => ∃ q : Nat, q ≤ s.size ∧ g = s.size - q ∧ Box wr R (rd s q) ∧ w.grownBy wr (some R) ∧ Hid (Sp.blM s.data.toList p = Sp.blM s.data.toList q))
  case atStart => exact ⟨p, hp, rfl, X, ⟨rfl, rfl, rfl, Nat.le_refl _, fun _ _ _ => rfl⟩, rfl⟩
  case round =>
    obtain ⟨q, hq, rfl, Y, g1, HB⟩ := hrel
    have cY := Y.c
    have fY := Y.f
    have HY := hide Y
    clear X Y
    by_cases he : q = s.size
    · have HF : Hid (Sp.blM s.data.toList p = q) := by
        show _ = _
        rw [HB.out]
        refine bl_stop ?_
        rw [List.getElem?_eq_none (by rw [len_eq]; omega)]; exact fun h => nomatch h
      subst he
      go_wp2_with fail
      go_quiet (fail)
      have b1 := belDrewN wr nq
      have Y1 := HY.out.later b1
      have g2 := grownBy_trans g1 (grownBy_below (some R) b1) (.inl rfl)
      clear cY
      go_wp2_with fail
      go_end0
      exact ⟨rfl, by rw [HF.out]; exact Y1, g2⟩
    · have hlt : q < s.size := by omega
      have i1 : (0 : Int) ≤ (q : Int) := by omega
      have i2 : (q : Int) < (s.size : Int) := by omega
      have hget : s.data.toList[q]? = some s[q] := Lib.data_getElem? s q hlt
      by_cases hc : s[q] = 32
      · have HF : Hid (Sp.blM s.data.toList p = Sp.blM s.data.toList (q + 1)) := by
          show _ = _
          rw [HB.out]; exact bl_more (by rw [hget, hc])
        clear he hget
        go_wp2_with fail
        go_quiet (fail)
        go_wp2_with fail
        go_roundg (s.size - (q + 1))
        case measure => omega
        case rel =>
          have hb := belDrewN (wr.setCell ⟨R, 1, none⟩ (.int .i64 ((q : Int) + 1))) nq
          exact ⟨q + 1, by omega, rfl, (set1 HY.out ((q : Int) + 1) (q + 1) (by omega)).later hb, grownBy_trans (grownBy_trans g1 (grownBy_setCell _ _ _ _) (.inl rfl)) (grownBy_below (some R) hb) (.inl rfl), HF⟩
      · have HF : Hid (Sp.blM s.data.toList p = q) := by
          show _ = _
          rw [HB.out]; exact bl_stop (by rw [hget]; exact fun h => hc (Option.some.inj h))
        have hne : ((s[q].toNat : Int) == 32) = false := by
          have : ¬ s[q].toNat = 32 := fun h => hc (UInt8.toNat_inj.1 h)
          simpa using (by omega : ¬ (s[q].toNat : Int) = 32)
        clear he hget hc
        go_wp2_with fail
        go_quiet (fail)
        have b1 := belDrewN wr nq
        have Y1 := HY.out.later b1
        have g2 := grownBy_trans g1 (grownBy_below (some R) b1) (.inl rfl)
        clear cY
        go_wp2_with fail
        go_end0
        exact ⟨rfl, by rw [HF.out]; exact Y1, g2⟩

/-- A word that goes on for so long. -/
def Upto (s : Bs) (p q : Nat) : Prop := p ≤ q ∧ ∀ c ∈ (s.drop p).take (q - p), Sp.isW c = true
theorem Upto.zero (s : Bs) (p : Nat) : Upto s p p := ⟨Nat.le_refl _, by simp⟩
theorem Upto.more {s : Bs} {p q : Nat} (h : Upto s p q) {c : UInt8} (hc : s[q]? = some c) (hw : Sp.isW c = true) : Upto s p (q + 1) := by
  obtain ⟨h1, h2⟩ := h
  refine ⟨by omega, ?_⟩
  have e : q + 1 - p = (q - p) + 1 := by omega
  have hg : (s.drop p)[q - p]? = some c := by rw [List.getElem?_drop, show p + (q - p) = q by omega]; exact hc
  rw [e, List.take_add_one, hg]
  intro d hd
  rcases List.mem_append.1 hd with hd | hd
  · exact h2 d hd
  · simp only [Option.toList_some, List.mem_singleton] at hd; rw [hd]; exact hw
theorem Upto.stop {s : Bs} {p q : Nat} (h : Upto s p q) (hq : q ≤ s.length) (hs : ∀ c, s[q]? = some c → Sp.isW c = false) : Sp.wordM s p = (s.drop p).take (q - p) ∧ p + (Sp.wordM s p).length = q := by
  obtain ⟨h1, h2⟩ := h
  have e : Sp.wordM s p = (s.drop p).take (q - p) := by
    unfold Sp.wordM
    conv => lhs; rw [← List.take_append_drop (q - p) (s.drop p)]
    rw [List.drop_drop, show p + (q - p) = q by omega]
    cases hd : s.drop q with
    | nil => rw [List.append_nil]; exact Sp.tw_all h2
    | cons c r => exact Sp.tw_stop h2 (hs c (Sp.at_drop hd))
  refine ⟨e, ?_⟩
  rw [e, List.length_take, List.length_drop]
  omega
theorem ext_list (s : ByteArray) (p q : Nat) : (s.extract p q).data.toList = (s.data.toList.drop p).take (q - p) := by
  simp only [ByteArray.data_extract, Array.toList_extract, List.extract_eq_take_drop]

set_option maxHeartbeats 8000000 in
set_option maxRecDepth 100000 in
theorem rdword_any (R : Nat) (s : ByteArray) (p : Nat) (w : World) (X : Box w R (rd s p)) (hp : p ≤ s.size) (hs : s.size ≤ 1000000) :
    Calls Tryz.prog 86 #[.pointer (some ⟨R, 0, none⟩)] w fun e w' => ∃ x : ByteArray, e = .returned (.tuple #[.string x, .int .i64 p]) ∧ x.data.toList = Sp.wordM s.data.toList p ∧ Box w' R (rd s (Sp.blM s.data.toList (p + (Sp.wordM s.data.toList p).length))) ∧ w.grownBy w' (some R) := by
  go_enter Tryz.func86, Tryz.ntmps86
  have cX := X.c
  have HX := hide X
  clear X
  go_wp2_with fail
  clear cX
  go_loopg [10] (s.size - p) (fun g _ wr => ∃ q : Nat, q ≤ s.size ∧ g = s.size - q ∧ Hid (Box wr R (rd s q)) ∧ Hid (w.grownBy wr (some R)) ∧ Hid (Upto s.data.toList p q))
  case atStart => exact ⟨p, hp, rfl, HX, ⟨rfl, rfl, rfl, Nat.le_refl _, fun _ _ _ => rfl⟩, hide (Upto.zero _ _)⟩
  case round =>
    obtain ⟨q, hq, rfl, HY, G1, HU⟩ := hrel
    have hpq : p ≤ q := HU.out.1
    have cY := HY.out.c
    have fY := HY.out.f
    have FIN : Hid ((∀ c, s.data.toList[q]? = some c → Sp.isW c = false) → (s.extract p q).data.toList = Sp.wordM s.data.toList p ∧ p + (Sp.wordM s.data.toList p).length = q) := fun h => by
      have k := HU.out.stop (by rw [len_eq]; exact hq) h
      exact ⟨by rw [ext_list, k.1], k.2⟩
    have j1 : (0 : Int) ≤ (p : Int) := by omega
    have j2 : (p : Int) ≤ (q : Int) := by omega
    have j3 : (q : Int) ≤ (s.size : Int) := by omega
    have CB : Hid (∀ W, Box W R (rd s q) → Calls Tryz.prog 85 #[.pointer (some ⟨R, 0, none⟩)] W fun e w' => e = .returned (.tuple #[]) ∧ Box w' R (rd s (Sp.blM s.data.toList q)) ∧ W.grownBy w' (some R)) := fun W h => rblanks_any R s q W h hq hs
    have ENDW : Hid (∀ W, Box W R (rd s q) → w.grownBy W (some R) → p + (Sp.wordM s.data.toList p).length = q → ∀ w', Box w' R (rd s (Sp.blM s.data.toList q)) ∧ W.grownBy w' (some R) → Box w' R (rd s (Sp.blM s.data.toList (p + (Sp.wordM s.data.toList p).length))) ∧ w.grownBy w' (some R)) := fun W _ h2 e w' h => ⟨by rw [e]; exact h.1, grownBy_trans h2 h.2 (.inl rfl)⟩
    by_cases he : q = s.size
    · have F2 := hide (FIN.out (fun c h => by rw [List.getElem?_eq_none (by rw [len_eq]; omega)] at h; exact nomatch h))
      subst he
      clear FIN
      go_wp2_with fail
      go_quiet (fail)
      have b1 := belDrewN wr nq
      have Y1 := hide (HY.out.later b1)
      have G2 := hide (grownBy_trans G1.out (grownBy_below (some R) b1) (.inl rfl))
      clear cY b1
      have cY := Y1.out.c
      generalize wr.drewN nq = w1 at *
      go_wp2_with fail
      go_quiet (fail)
      have b2 := belDrewN w1 nq
      have Y2 := hide (Y1.out.later b2)
      have G3 := hide (grownBy_trans G2.out (grownBy_below (some R) b2) (.inl rfl))
      clear cY b2
      generalize w1.drewN nq = w2 at *
      go_wp2_with fail
      refine (CB.out _ Y2.out).mono ?_
      rintro e w3 ⟨rfl, h3⟩
      have h4 := ENDW.out _ Y2.out G3.out F2.out.2 _ h3
      clear h3
      go_wp2_with fail
      exact bodyPost_ret (v := .tuple #[.string (s.extract p s.size), .int .i64 p]) (by simp [results, Tryz.results86, go_sem]) rfl ⟨_, rfl, F2.out.1, h4⟩
    · have hlt : q < s.size := by omega
      have i1 : (0 : Int) ≤ (q : Int) := by omega
      have i2 : (q : Int) < (s.size : Int) := by omega
      have hget : s.data.toList[q]? = some s[q] := Lib.data_getElem? s q hlt
      have HGET := hide hget
      clear hget
      by_cases hc : s[q] = 32
      · have F2 := hide (FIN.out (fun c h => by rw [HGET.out] at h; rw [← Option.some.inj h, hc]; decide))
        clear FIN he
        go_wp2_with fail
        go_quiet (fail)
        have b1 := belDrewN wr nq
        have Y1 := hide (HY.out.later b1)
        have G2 := hide (grownBy_trans G1.out (grownBy_below (some R) b1) (.inl rfl))
        clear cY b1
        have cY := Y1.out.c
        generalize wr.drewN nq = w1 at *
        go_wp2_with fail
        go_quiet (fail)
        have b2 := belDrewN w1 nq
        have Y2 := hide (Y1.out.later b2)
        have G3 := hide (grownBy_trans G2.out (grownBy_below (some R) b2) (.inl rfl))
        clear cY b2
        generalize w1.drewN nq = w2 at *
        go_wp2_with fail
        refine (CB.out _ Y2.out).mono ?_
        rintro e w3 ⟨rfl, h3⟩
        have h4 := ENDW.out _ Y2.out G3.out F2.out.2 _ h3
        clear h3
        go_wp2_with fail
        exact bodyPost_ret (v := .tuple #[.string (s.extract p q), .int .i64 p]) (by simp [results, Tryz.results86, go_sem]) rfl ⟨_, rfl, F2.out.1, h4⟩
      · have hne : ((s[q].toNat : Int) == 32) = false := by
          have : ¬ s[q].toNat = 32 := fun h => hc (UInt8.toNat_inj.1 h)
          simpa using (by omega : ¬ (s[q].toNat : Int) = 32)
        have HNC := hide hc
        clear hc
        by_cases hd : s[q] = 124
        · have F2 := hide (FIN.out (fun c h => by rw [HGET.out] at h; rw [← Option.some.inj h, hd]; decide))
          clear FIN he
          go_wp2_with fail
          go_quiet (fail)
          have b1 := belDrewN wr nq
          have Y1 := hide (HY.out.later b1)
          have G2 := hide (grownBy_trans G1.out (grownBy_below (some R) b1) (.inl rfl))
          clear cY b1
          have cY := Y1.out.c
          generalize wr.drewN nq = w1 at *
          go_wp2_with fail
          go_quiet (fail)
          have b2 := belDrewN w1 nq
          have Y2 := hide (Y1.out.later b2)
          have G3 := hide (grownBy_trans G2.out (grownBy_below (some R) b2) (.inl rfl))
          clear cY b2
          generalize w1.drewN nq = w2 at *
          go_wp2_with fail
          refine (CB.out _ Y2.out).mono ?_
          rintro e w3 ⟨rfl, h3⟩
          have h4 := ENDW.out _ Y2.out G3.out F2.out.2 _ h3
          clear h3
          go_wp2_with fail
          exact bodyPost_ret (v := .tuple #[.string (s.extract p q), .int .i64 p]) (by simp [results, Tryz.results86, go_sem]) rfl ⟨_, rfl, F2.out.1, h4⟩
        · have hne2 : ((s[q].toNat : Int) == 124) = false := by
            have : ¬ s[q].toNat = 124 := fun h => hd (UInt8.toNat_inj.1 h)
            simpa using (by omega : ¬ (s[q].toNat : Int) = 124)
          have hne3 : ((s[q].toNat : Int) != 32) = true := by rw [bne, hne]; rfl
          have hne4 : ((s[q].toNat : Int) != 124) = true := by rw [bne, hne2]; rfl
          have hne5 : ¬ (s[q].toNat : Int) = 32 := by simpa using hne
          have hne6 : ¬ (s[q].toNat : Int) = 124 := by simpa using hne2
          have HU2 := hide (HU.out.more HGET.out (by unfold Sp.isW; have h1 := HNC.out; simp [h1, hd]))
          clear FIN he hd
          go_wp2_with fail
          go_quiet (fail)
          go_wp2_with fail
          go_roundg (s.size - (q + 1))
          case measure => omega
          case rel =>
            have hb := belDrewN (wr.setCell ⟨R, 1, none⟩ (.int .i64 ((q : Int) + 1))) nq
            exact ⟨q + 1, by omega, rfl, hide ((set1 HY.out ((q : Int) + 1) (q + 1) (by omega)).later hb), hide (grownBy_trans (grownBy_trans G1.out (grownBy_setCell _ _ _ _) (.inl rfl)) (grownBy_below (some R) hb) (.inl rfl)), HU2⟩
end Go.Proofs.YtohnlhfgajipgaaGreatDoor

namespace Go.Sp
set_option linter.unusedVariables false
open Go.Vr Go.Tx Go.Lib

theorem cut_last {x y u w : Bs} (hu : ∀ c ∈ u, c ≠ (46 : UInt8)) (hw : ∀ c ∈ w, c ≠ (46 : UInt8)) (h : x ++ 46 :: u = y ++ 46 :: w) : x = y ∧ u = w := by
  have e := congrArg List.reverse h
  simp only [List.reverse_append, List.reverse_cons, List.append_assoc, List.singleton_append] at e
  have k := cut_eq (p := fun c => c != 46) (fun b hb => by simpa using hu b (List.mem_reverse.1 hb)) (fun b hb => by simpa using hw b (List.mem_reverse.1 hb)) (by decide) (by decide) e
  exact ⟨List.reverse_inj.1 k.2.2, List.reverse_inj.1 k.1⟩
theorem itoa_nodot {n : Int} (h0 : 0 ≤ n) (h : n ≤ 999999) : ∀ c ∈ itoa n, c ≠ (46 : UInt8) := dig_ne (itoa_ok n h0 (by omega)).2.2.1 46 (by decide)
theorem txt_plain {v : V} (h : v.p.data.toList = []) : txt v = (118 :: (itoa v.a ++ 46 :: itoa v.b)) ++ 46 :: itoa v.c := by
  unfold txt
  rw [h]
  show 118 :: (itoa v.a ++ 46 :: (itoa v.b ++ 46 :: (itoa v.c ++ []))) = _
  simp
theorem itoa_0 : itoa 0 = [48] := by decide +kernel
theorem w1 {t : Bs} {v : V} (h : parse (t ++ [46, 48]) = some v) (hp : v.p.data.toList = []) : t = 118 :: (itoa v.a ++ 46 :: itoa v.b) ∧ v.ok = true := by
  obtain ⟨ok, ht⟩ := parse_some h
  obtain ⟨h1, h2, h3, _⟩ := ok_parts ok
  rw [txt_plain hp] at ht
  exact ⟨(cut_last (itoa_nodot h3.1 h3.2) (by decide) ht).1.symm, ok⟩
theorem w2 {t : Bs} {v : V} (h : parse (t ++ [46, 48, 46, 48]) = some v) (hp : v.p.data.toList = []) : t = 118 :: itoa v.a ∧ v.ok = true := by
  obtain ⟨ok, ht⟩ := parse_some h
  obtain ⟨h1, h2, h3, _⟩ := ok_parts ok
  rw [txt_plain hp] at ht
  have e : t ++ [46, 48, 46, 48] = (t ++ [46, 48]) ++ 46 :: [48] := by simp
  rw [e] at ht
  have k := (cut_last (itoa_nodot h3.1 h3.2) (by decide) ht).1
  have e2 : 118 :: (itoa v.a ++ 46 :: itoa v.b) = (118 :: itoa v.a) ++ 46 :: itoa v.b := rfl
  rw [e2] at k
  exact ⟨(cut_last (itoa_nodot h2.1 h2.2) (by decide) k).1.symm, ok⟩
theorem plain_ok {a b : Int} (ha : 0 ≤ a ∧ a ≤ 999999) (hb : 0 ≤ b ∧ b ≤ 999999) : (V.mk a b 0 ⟨#[]⟩).ok = true := by
  unfold V.ok verOk partOk
  simp [ha.1, ha.2, hb.1, hb.2]
  decide
theorem w1' {a b : Int} (ha : 0 ≤ a ∧ a ≤ 999999) (hb : 0 ≤ b ∧ b ≤ 999999) : parse ((118 :: (itoa a ++ 46 :: itoa b)) ++ [46, 48]) = some ⟨a, b, 0, ⟨#[]⟩⟩ := by
  have h := parse_txt (plain_ok ha hb)
  rw [txt_plain rfl] at h
  rw [← itoa_0]
  exact h
theorem w2' {a : Int} (ha : 0 ≤ a ∧ a ≤ 999999) : parse ((118 :: itoa a) ++ [46, 48, 46, 48]) = some ⟨a, 0, 0, ⟨#[]⟩⟩ := by
  have h := parse_txt (plain_ok ha (b := 0) (by omega))
  rw [txt_plain rfl] at h
  have e : (118 :: itoa a) ++ [46, 48, 46, 48] = (118 :: (itoa a ++ 46 :: itoa 0)) ++ 46 :: itoa 0 := by rw [itoa_0]; simp
  rw [e]
  exact h
/-- What stands between the v and the .x. -/
def wx (s : Bs) : Bs := (s.drop 1).take (s.length - 3)
theorem wx_of (b : Bs) : wx (118 :: (b ++ [46, 120])) = b := by
  unfold wx
  have e : (118 :: (b ++ [46, 120])).length - 3 = b.length := by simp
  rw [e, List.drop_one, List.tail_cons, List.take_left]
def refW (s : Bs) : Option (List S) :=
  if 4 ≤ s.length ∧ s.head? = some 118 ∧ s.drop (s.length - 2) = [46, 120] then
    if ((wx s).takeWhile (· != 46)).length = (wx s).length then
      if okNum ((wx s).takeWhile (· != 46)) = true ∧ numVal ((wx s).takeWhile (· != 46)) ≤ 999999 then some (only cmpC (firstC (numVal ((wx s).takeWhile (· != 46))) 0 0) (bumpA ⟨numVal ((wx s).takeWhile (· != 46)), 0, 0, ⟨#[48]⟩⟩)) else none
    else if (okNum ((wx s).takeWhile (· != 46)) = true ∧ okNum ((wx s).drop (((wx s).takeWhile (· != 46)).length + 1)) = true) ∧ numVal ((wx s).takeWhile (· != 46)) ≤ 999999 ∧ numVal ((wx s).drop (((wx s).takeWhile (· != 46)).length + 1)) ≤ 999999 then
      some (only cmpC (firstC (numVal ((wx s).takeWhile (· != 46))) (numVal ((wx s).drop (((wx s).takeWhile (· != 46)).length + 1))) 0) (bumpB ⟨numVal ((wx s).takeWhile (· != 46)), numVal ((wx s).drop (((wx s).takeWhile (· != 46)).length + 1)), 0, ⟨#[48]⟩⟩))
    else none
  else none
theorem nd_tw {x : Bs} (h : ∀ c ∈ x, c ≠ (46 : UInt8)) : x.takeWhile (· != 46) = x := tw_all fun c hc => by simpa using h c hc
theorem nd_tw2 {x r : Bs} (h : ∀ c ∈ x, c ≠ (46 : UInt8)) : (x ++ 46 :: r).takeWhile (· != 46) = x := tw_stop (fun c hc => by simpa using h c hc) (by decide)
theorem end2 {s : Bs} (h : s.drop (s.length - 2) = [46, 120]) : s = s.take (s.length - 2) ++ [46, 120] := by
  conv => lhs; rw [← List.take_append_drop (s.length - 2) s, h]
theorem refW_two {a b : Int} (ha : 0 ≤ a ∧ a ≤ 999999) (hb : 0 ≤ b ∧ b ≤ 999999) : refW (118 :: ((itoa a ++ 46 :: itoa b) ++ [46, 120])) = some (only cmpC (firstC a b 0) (bumpB ⟨a, b, 0, ⟨#[48]⟩⟩)) := by
  obtain ⟨a1, a2, a3, a4⟩ := itoa_ok a ha.1 (by omega)
  obtain ⟨b1, b2, b3, b4⟩ := itoa_ok b hb.1 (by omega)
  have hd := nd_tw2 (r := itoa b) (itoa_nodot ha.1 ha.2)
  have hl : (118 :: ((itoa a ++ 46 :: itoa b) ++ [46, 120])).length = (itoa a).length + (itoa b).length + 4 := by simp; omega
  have hdr : (118 :: ((itoa a ++ 46 :: itoa b) ++ [46, 120])).drop ((118 :: ((itoa a ++ 46 :: itoa b) ++ [46, 120])).length - 2) = [46, 120] := by
    have e : (118 :: ((itoa a ++ 46 :: itoa b) ++ [46, 120])) = (118 :: (itoa a ++ 46 :: itoa b)) ++ [46, 120] := rfl
    rw [hl, e]
    have e2 : (itoa a).length + (itoa b).length + 4 - 2 = (118 :: (itoa a ++ 46 :: itoa b)).length := by simp; omega
    rw [e2, List.drop_left]
  unfold refW
  rw [if_pos ⟨by rw [hl]; omega, rfl, hdr⟩, wx_of, hd]
  have hne : ¬ (itoa a).length = (itoa a ++ 46 :: itoa b).length := by simp
  have hy : (itoa a ++ 46 :: itoa b).drop ((itoa a).length + 1) = itoa b := by rw [← List.drop_drop, List.drop_left]; rfl
  rw [if_neg hne, hy, a2, b2, if_pos ⟨⟨a1, b1⟩, ha.2, hb.2⟩]
theorem refW_one {a : Int} (ha : 0 ≤ a ∧ a ≤ 999999) : refW (118 :: (itoa a ++ [46, 120])) = some (only cmpC (firstC a 0 0) (bumpA ⟨a, 0, 0, ⟨#[48]⟩⟩)) := by
  obtain ⟨a1, a2, a3, a4⟩ := itoa_ok a ha.1 (by omega)
  have hd := nd_tw (itoa_nodot ha.1 ha.2)
  have hpos : 1 ≤ (itoa a).length := by
    cases h : itoa a with
    | nil => exact absurd h a4
    | cons c t => simp
  have hl : (118 :: (itoa a ++ [46, 120])).length = (itoa a).length + 3 := by simp
  have hdr : (118 :: (itoa a ++ [46, 120])).drop ((118 :: (itoa a ++ [46, 120])).length - 2) = [46, 120] := by
    have e : (118 :: (itoa a ++ [46, 120])) = (118 :: itoa a) ++ [46, 120] := rfl
    rw [hl, e]
    have e2 : (itoa a).length + 3 - 2 = (118 :: itoa a).length := by simp
    rw [e2, List.drop_left]
  unfold refW
  rw [if_pos ⟨by rw [hl]; omega, rfl, hdr⟩, wx_of, hd, if_pos rfl, a2, if_pos ⟨a1, ha.2⟩]
theorem wild_ref (s : Bs) : wildM s = refW s := by
  by_cases he : s.drop (s.length - 2) = [46, 120]
  case neg =>
    unfold wildM refW
    rw [if_neg he, if_neg (fun h => he h.2.2)]
  have hs := end2 he
  generalize htt : s.take (s.length - 2) = t at hs
  have hW : wildM s = wild2 (parse (t ++ [46, 48])) (parse (t ++ [46, 48, 46, 48])) := by unfold wildM; rw [if_pos he, htt]
  by_cases c1 : ∃ a b : Int, (0 ≤ a ∧ a ≤ 999999) ∧ (0 ≤ b ∧ b ≤ 999999) ∧ t = 118 :: (itoa a ++ 46 :: itoa b)
  · obtain ⟨a, b, ha, hb, rfl⟩ := c1
    rw [hW, w1' ha hb, hs]
    exact (refW_two ha hb).symm
  have n1 : wild2 (parse (t ++ [46, 48])) (parse (t ++ [46, 48, 46, 48])) = wild1 (parse (t ++ [46, 48, 46, 48])) := by
    cases e : parse (t ++ [46, 48]) with
    | none => rfl
    | some v =>
      show (if v.p.data.toList = [] then _ else _) = _
      rw [if_neg]
      intro hp
      obtain ⟨h1, h2⟩ := w1 e hp
      obtain ⟨q1, q2, q3, _⟩ := ok_parts h2
      exact c1 ⟨v.a, v.b, q1, q2, h1⟩
  rw [hW, n1]
  by_cases c2 : ∃ a : Int, (0 ≤ a ∧ a ≤ 999999) ∧ t = 118 :: itoa a
  · obtain ⟨a, ha, rfl⟩ := c2
    rw [w2' ha, hs]
    exact (refW_one ha).symm
  have n2 : wild1 (parse (t ++ [46, 48, 46, 48])) = none := by
    cases e : parse (t ++ [46, 48, 46, 48]) with
    | none => rfl
    | some v =>
      show (if v.p.data.toList = [] then _ else _) = _
      rw [if_neg]
      intro hp
      obtain ⟨h1, h2⟩ := w2 e hp
      obtain ⟨q1, q2, q3, _⟩ := ok_parts h2
      exact c2 ⟨v.a, q1, h1⟩
  rw [n2]
  unfold refW
  split
  case isFalse => rfl
  case isTrue hc =>
    obtain ⟨h4, hh, _⟩ := hc
    cases t with
    | nil => rw [hs] at h4; simp at h4
    | cons c b =>
      have hc8 : c = 118 := by rw [hs] at hh; simpa using hh
      subst hc8
      have hwx : wx s = b := by rw [hs]; exact wx_of b
      rw [hwx]
      split
      case isTrue hl =>
        rw [if_neg]
        rintro ⟨k1, k2⟩
        have hb : b.takeWhile (· != 46) = b := (List.takeWhile_prefix _).eq_of_length hl
        rw [hb] at k1 k2
        obtain ⟨g1, g2⟩ := okNum_dec b k1
        exact c2 ⟨numVal b, ⟨g2, k2⟩, by rw [g1]⟩
      case isFalse hl =>
        rw [if_neg]
        rintro ⟨⟨k1, k2⟩, k3, k4⟩
        have hb : b = b.takeWhile (· != 46) ++ b.dropWhile (· != 46) := List.takeWhile_append_dropWhile.symm
        cases hdw : b.dropWhile (· != 46) with
        | nil => rw [hdw, List.append_nil] at hb; exact hl (by rw [← hb])
        | cons d r =>
          have hd46 : d = 46 := by
            have := List.head_dropWhile_not (· != (46 : UInt8)) (l := b) (by rw [hdw]; simp)
            simp only [hdw, List.head_cons] at this
            simpa using this
          subst hd46
          rw [hdw] at hb
          have hy : b.drop ((b.takeWhile (· != 46)).length + 1) = r := by
            conv => lhs; arg 2; rw [hb]
            rw [← List.drop_drop, List.drop_left]; rfl
          rw [hy] at k2 k4
          obtain ⟨g1, g2⟩ := okNum_dec _ k1
          obtain ⟨g3, g4⟩ := okNum_dec _ k2
          exact c1 ⟨_, _, ⟨g2, k3⟩, ⟨g4, k4⟩, by rw [g1, g3, ← hb]⟩
end Go.Sp

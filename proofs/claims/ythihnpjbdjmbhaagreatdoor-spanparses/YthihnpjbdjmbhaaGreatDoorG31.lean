/-
  Contracts of the reference's reader: blanks, word.
  Spans as they come (an open one may have an end written): rows of such; cells written in a row of one's own.
  Contracts of the reference's empty, first, apart, longer, Least.
  Two spans that meet at a version: what any, both of them have.
-/
import Derived.Test.YthihnpjbdjmbhaaGreatDoorG25
import Derived.Test.YthihnpjbdjmbhaaGreatDoorG30
import Derived.BigQuiet
import Derived.Test.YthihnpjbdjmbhaaGreatDoorG14
import Derived.Test.YthihnpjbdjmbhaaGreatDoorG28
import Derived.Test.YthihnpjbdjmbhaaGreatDoorG22
import Derived.Test.YthihnpjbdjmbhaaGreatDoorG10

namespace Go.Proofs.YthihnpjbdjmbhaaGreatDoor
set_option linter.unusedSimpArgs false
set_option linter.unusedVariables false
open Go.RowKit Go.Vr Go.Sort Go.Tx Go.Lib
attribute [local go_sem] setCellDrewN allocDrewN

set_option maxHeartbeats 8000000 in
set_option maxRecDepth 100000 in
theorem rblanks_any (R : Nat) (s : ByteArray) (p : Nat) (w : World) (X : Box w R (rd s p)) (hp : p ≤ s.size) (hs : s.size ≤ 1000000) :
    Calls Tryz.prog 45 #[.pointer (some ⟨R, 0, none⟩)] w fun e w' => e = .returned (.tuple #[]) ∧ Box w' R (rd s (Sp.blM s.data.toList p)) ∧ w.grownBy w' (some R) := by
  go_enter Tryz.func45, Tryz.ntmps45
  go_wp2_with fail
  go_loopg [2] (s.size - p) (fun g _ wr => ∃ q : Nat, q ≤ s.size ∧ g = s.size - q ∧ Box wr R (rd s q) ∧ w.grownBy wr (some R) ∧ Hid (Sp.blM s.data.toList p = Sp.blM s.data.toList q))
  case atStart => exact ⟨p, hp, rfl, X, ⟨rfl, rfl, rfl, Nat.le_refl _, fun _ _ _ => rfl⟩, rfl⟩
  case round =>
    obtain ⟨q, hq, rfl, Y, g1, HB⟩ := hrel
    have cY := Y.c
    have fY := Y.f
    have HY := hide Y
    clear X Y
    by_cases he : q = s.size
    · have HF : Hid (Sp.blM s.data.toList p = q) := by
        show _ = _
        rw [HB.out]
        refine bl_stop ?_
        rw [List.getElem?_eq_none (by rw [len_eq]; omega)]; exact fun h => nomatch h
      subst he
      go_wp2_with fail
      go_quiet (fail)
      have b1 := belDrewN wr nq
      have Y1 := HY.out.later b1
      have g2 := grownBy_trans g1 (grownBy_below (some R) b1) (.inl rfl)
      clear cY
      go_wp2_with fail
      go_end0
      exact ⟨rfl, by rw [HF.out]; exact Y1, g2⟩
    · have hlt : q < s.size := by omega
      have i1 : (0 : Int) ≤ (q : Int) := by omega
      have i2 : (q : Int) < (s.size : Int) := by omega
      have hget : s.data.toList[q]? = some s[q] := Lib.data_getElem? s q hlt
      by_cases hc : s[q] = 32
      · have HF : Hid (Sp.blM s.data.toList p = Sp.blM s.data.toList (q + 1)) := by
          show _ = _
          rw [HB.out]; exact bl_more (by rw [hget, hc])
        clear he hget
        go_wp2_with fail
        go_quiet (fail)
        go_wp2_with fail
        go_roundg (s.size - (q + 1))
        case measure => omega
        case rel =>
          have hb := belDrewN (wr.setCell ⟨R, 1, none⟩ (.int .i64 ((q : Int) + 1))) nq
          exact ⟨q + 1, by omega, rfl, (set1 HY.out ((q : Int) + 1) (q + 1) (by omega)).later hb, grownBy_trans (grownBy_trans g1 (grownBy_setCell _ _ _ _) (.inl rfl)) (grownBy_below (some R) hb) (.inl rfl), HF⟩
      · have HF : Hid (Sp.blM s.data.toList p = q) := by
          show _ = _
          rw [HB.out]; exact bl_stop (by rw [hget]; exact fun h => hc (Option.some.inj h))
        have hne : ((s[q].toNat : Int) == 32) = false := by
          have : ¬ s[q].toNat = 32 := fun h => hc (UInt8.toNat_inj.1 h)
          simpa using (by omega : ¬ (s[q].toNat : Int) = 32)
        clear he hget hc
        go_wp2_with fail
        go_quiet (fail)
        have b1 := belDrewN wr nq
        have Y1 := HY.out.later b1
        have g2 := grownBy_trans g1 (grownBy_below (some R) b1) (.inl rfl)
        clear cY
        go_wp2_with fail
        go_end0
        exact ⟨rfl, by rw [HF.out]; exact Y1, g2⟩

/-- A word that goes on for so long. -/
def Upto (s : Bs) (p q : Nat) : Prop := p ≤ q ∧ ∀ c ∈ (s.drop p).take (q - p), Sp.isW c = true
theorem Upto.zero (s : Bs) (p : Nat) : Upto s p p := ⟨Nat.le_refl _, by simp⟩
theorem Upto.more {s : Bs} {p q : Nat} (h : Upto s p q) {c : UInt8} (hc : s[q]? = some c) (hw : Sp.isW c = true) : Upto s p (q + 1) := by
  obtain ⟨h1, h2⟩ := h
  refine ⟨by omega, ?_⟩
  have e : q + 1 - p = (q - p) + 1 := by omega
  have hg : (s.drop p)[q - p]? = some c := by rw [List.getElem?_drop, show p + (q - p) = q by omega]; exact hc
  rw [e, List.take_add_one, hg]
  intro d hd
  rcases List.mem_append.1 hd with hd | hd
  · exact h2 d hd
  · simp only [Option.toList_some, List.mem_singleton] at hd; rw [hd]; exact hw
theorem Upto.stop {s : Bs} {p q : Nat} (h : Upto s p q) (hq : q ≤ s.length) (hs : ∀ c, s[q]? = some c → Sp.isW c = false) : Sp.wordM s p = (s.drop p).take (q - p) ∧ p + (Sp.wordM s p).length = q := by
  obtain ⟨h1, h2⟩ := h
  have e : Sp.wordM s p = (s.drop p).take (q - p) := by
    unfold Sp.wordM
    conv => lhs; rw [← List.take_append_drop (q - p) (s.drop p)]
    rw [List.drop_drop, show p + (q - p) = q by omega]
    cases hd : s.drop q with
    | nil => rw [List.append_nil]; exact Sp.tw_all h2
    | cons c r => exact Sp.tw_stop h2 (hs c (Sp.at_drop hd))
  refine ⟨e, ?_⟩
  rw [e, List.length_take, List.length_drop]
  omega
theorem ext_list (s : ByteArray) (p q : Nat) : (s.extract p q).data.toList = (s.data.toList.drop p).take (q - p) := by
  simp only [ByteArray.data_extract, Array.toList_extract, List.extract_eq_take_drop]

set_option maxHeartbeats 8000000 in
set_option maxRecDepth 100000 in
theorem rdword_any (R : Nat) (s : ByteArray) (p : Nat) (w : World) (X : Box w R (rd s p)) (hp : p ≤ s.size) (hs : s.size ≤ 1000000) :
    Calls Tryz.prog 46 #[.pointer (some ⟨R, 0, none⟩)] w fun e w' => ∃ x : ByteArray, e = .returned (.tuple #[.string x, .int .i64 p]) ∧ x.data.toList = Sp.wordM s.data.toList p ∧ Box w' R (rd s (Sp.blM s.data.toList (p + (Sp.wordM s.data.toList p).length))) ∧ w.grownBy w' (some R) := by
  go_enter Tryz.func46, Tryz.ntmps46
  have cX := X.c
  have HX := hide X
  clear X
  go_wp2_with fail
  clear cX
  go_loopg [10] (s.size - p) (fun g _ wr => ∃ q : Nat, q ≤ s.size ∧ g = s.size - q ∧ Hid (Box wr R (rd s q)) ∧ Hid (w.grownBy wr (some R)) ∧ Hid (Upto s.data.toList p q))
  case atStart => exact ⟨p, hp, rfl, HX, ⟨rfl, rfl, rfl, Nat.le_refl _, fun _ _ _ => rfl⟩, hide (Upto.zero _ _)⟩
  case round =>
    obtain ⟨q, hq, rfl, HY, G1, HU⟩ := hrel
    have hpq : p ≤ q := HU.out.1
    have cY := HY.out.c
    have fY := HY.out.f
    have FIN : Hid ((∀ c, s.data.toList[q]? = some c → Sp.isW c = false) → (s.extract p q).data.toList = Sp.wordM s.data.toList p ∧ p + (Sp.wordM s.data.toList p).length = q) := fun h => by
      have k := HU.out.stop (by rw [len_eq]; exact hq) h
      exact ⟨by rw [ext_list, k.1], k.2⟩
    have j1 : (0 : Int) ≤ (p : Int) := by omega
    have j2 : (p : Int) ≤ (q : Int) := by omega
    have j3 : (q : Int) ≤ (s.size : Int) := by omega
    have CB : Hid (∀ W, Box W R (rd s q) → Calls Tryz.prog 45 #[.pointer (some ⟨R, 0, none⟩)] W fun e w' => e = .returned (.tuple #[]) ∧ Box w' R (rd s (Sp.blM s.data.toList q)) ∧ W.grownBy w' (some R)) := fun W h => rblanks_any R s q W h hq hs
    have ENDW : Hid (∀ W, Box W R (rd s q) → w.grownBy W (some R) → p + (Sp.wordM s.data.toList p).length = q → ∀ w', Box w' R (rd s (Sp.blM s.data.toList q)) ∧ W.grownBy w' (some R) → Box w' R (rd s (Sp.blM s.data.toList (p + (Sp.wordM s.data.toList p).length))) ∧ w.grownBy w' (some R)) := fun W _ h2 e w' h => ⟨by rw [e]; exact h.1, grownBy_trans h2 h.2 (.inl rfl)⟩
    by_cases he : q = s.size
    · have F2 := hide (FIN.out (fun c h => by rw [List.getElem?_eq_none (by rw [len_eq]; omega)] at h; exact nomatch h))
      subst he
      clear FIN
      go_wp2_with fail
      go_quiet (fail)
      have b1 := belDrewN wr nq
      have Y1 := hide (HY.out.later b1)
      have G2 := hide (grownBy_trans G1.out (grownBy_below (some R) b1) (.inl rfl))
      clear cY b1
      have cY := Y1.out.c
      generalize wr.drewN nq = w1 at *
      go_wp2_with fail
      go_quiet (fail)
      have b2 := belDrewN w1 nq
      have Y2 := hide (Y1.out.later b2)
      have G3 := hide (grownBy_trans G2.out (grownBy_below (some R) b2) (.inl rfl))
      clear cY b2
      generalize w1.drewN nq = w2 at *
      go_wp2_with fail
      refine (CB.out _ Y2.out).mono ?_
      rintro e w3 ⟨rfl, h3⟩
      have h4 := ENDW.out _ Y2.out G3.out F2.out.2 _ h3
      clear h3
      go_wp2_with fail
      exact bodyPost_ret (v := .tuple #[.string (s.extract p s.size), .int .i64 p]) (by simp [results, Tryz.results46, go_sem]) rfl ⟨_, rfl, F2.out.1, h4⟩
    · have hlt : q < s.size := by omega
      have i1 : (0 : Int) ≤ (q : Int) := by omega
      have i2 : (q : Int) < (s.size : Int) := by omega
      have hget : s.data.toList[q]? = some s[q] := Lib.data_getElem? s q hlt
      have HGET := hide hget
      clear hget
      by_cases hc : s[q] = 32
      · have F2 := hide (FIN.out (fun c h => by rw [HGET.out] at h; rw [← Option.some.inj h, hc]; decide))
        clear FIN he
        go_wp2_with fail
        go_quiet (fail)
        have b1 := belDrewN wr nq
        have Y1 := hide (HY.out.later b1)
        have G2 := hide (grownBy_trans G1.out (grownBy_below (some R) b1) (.inl rfl))
        clear cY b1
        have cY := Y1.out.c
        generalize wr.drewN nq = w1 at *
        go_wp2_with fail
        go_quiet (fail)
        have b2 := belDrewN w1 nq
        have Y2 := hide (Y1.out.later b2)
        have G3 := hide (grownBy_trans G2.out (grownBy_below (some R) b2) (.inl rfl))
        clear cY b2
        generalize w1.drewN nq = w2 at *
        go_wp2_with fail
        refine (CB.out _ Y2.out).mono ?_
        rintro e w3 ⟨rfl, h3⟩
        have h4 := ENDW.out _ Y2.out G3.out F2.out.2 _ h3
        clear h3
        go_wp2_with fail
        exact bodyPost_ret (v := .tuple #[.string (s.extract p q), .int .i64 p]) (by simp [results, Tryz.results46, go_sem]) rfl ⟨_, rfl, F2.out.1, h4⟩
      · have hne : ((s[q].toNat : Int) == 32) = false := by
          have : ¬ s[q].toNat = 32 := fun h => hc (UInt8.toNat_inj.1 h)
          simpa using (by omega : ¬ (s[q].toNat : Int) = 32)
        have HNC := hide hc
        clear hc
        by_cases hd : s[q] = 124
        · have F2 := hide (FIN.out (fun c h => by rw [HGET.out] at h; rw [← Option.some.inj h, hd]; decide))
          clear FIN he
          go_wp2_with fail
          go_quiet (fail)
          have b1 := belDrewN wr nq
          have Y1 := hide (HY.out.later b1)
          have G2 := hide (grownBy_trans G1.out (grownBy_below (some R) b1) (.inl rfl))
          clear cY b1
          have cY := Y1.out.c
          generalize wr.drewN nq = w1 at *
          go_wp2_with fail
          go_quiet (fail)
          have b2 := belDrewN w1 nq
          have Y2 := hide (Y1.out.later b2)
          have G3 := hide (grownBy_trans G2.out (grownBy_below (some R) b2) (.inl rfl))
          clear cY b2
          generalize w1.drewN nq = w2 at *
          go_wp2_with fail
          refine (CB.out _ Y2.out).mono ?_
          rintro e w3 ⟨rfl, h3⟩
          have h4 := ENDW.out _ Y2.out G3.out F2.out.2 _ h3
          clear h3
          go_wp2_with fail
          exact bodyPost_ret (v := .tuple #[.string (s.extract p q), .int .i64 p]) (by simp [results, Tryz.results46, go_sem]) rfl ⟨_, rfl, F2.out.1, h4⟩
        · have hne2 : ((s[q].toNat : Int) == 124) = false := by
            have : ¬ s[q].toNat = 124 := fun h => hd (UInt8.toNat_inj.1 h)
            simpa using (by omega : ¬ (s[q].toNat : Int) = 124)
          have hne3 : ((s[q].toNat : Int) != 32) = true := by rw [bne, hne]; rfl
          have hne4 : ((s[q].toNat : Int) != 124) = true := by rw [bne, hne2]; rfl
          have hne5 : ¬ (s[q].toNat : Int) = 32 := by simpa using hne
          have hne6 : ¬ (s[q].toNat : Int) = 124 := by simpa using hne2
          have HU2 := hide (HU.out.more HGET.out (by unfold Sp.isW; have h1 := HNC.out; simp [h1, hd]))
          clear FIN he hd
          go_wp2_with fail
          go_quiet (fail)
          go_wp2_with fail
          go_roundg (s.size - (q + 1))
          case measure => omega
          case rel =>
            have hb := belDrewN (wr.setCell ⟨R, 1, none⟩ (.int .i64 ((q : Int) + 1))) nq
            exact ⟨q + 1, by omega, rfl, hide ((set1 HY.out ((q : Int) + 1) (q + 1) (by omega)).later hb), hide (grownBy_trans (grownBy_trans G1.out (grownBy_setCell _ _ _ _) (.inl rfl)) (grownBy_below (some R) hb) (.inl rfl)), HU2⟩
end Go.Proofs.YthihnpjbdjmbhaaGreatDoor

namespace Go.Proofs.YthihnpjbdjmbhaaGreatDoor
set_option linter.unusedSimpArgs false
set_option linter.unusedVariables false
open Go.RowKit Go.Vr Go.Sort Go.Tx Go.Lib

/-- Its two versions; what it says. -/
def Pt.lv (q : Pt) : V := ⟨q.a, q.b, q.c, q.p⟩
def Pt.hv (q : Pt) : V := ⟨q.a', q.b', q.c', q.p'⟩
def pS (q : Pt) : Sp.S := (some (q.lv, q.x), if q.z then none else some (q.hv, q.y))
def okPt (q : Pt) : Prop := q.lv.ok = true ∧ q.hv.ok = true
theorem pS_ok {q : Pt} (h : okPt q) : Sp.okS (pS q) := by
  refine ⟨⟨_, rfl⟩, Sp.ok_v h.1 _, ?_⟩
  unfold pS
  simp only
  split
  · exact Sp.ok_end
  · exact Sp.ok_v h.2 _
theorem pS_pt {s : Sp.S} (h : Sp.okS s) : pS (pt s) = s := by
  obtain ⟨s1, s2⟩ := s
  obtain ⟨⟨p, hp⟩, _, _⟩ := h
  simp only at hp
  subst hp
  cases s2 with
  | none => rfl
  | some q => rfl
theorem okPt_pt {s : Sp.S} (h : Sp.okS s) : okPt (pt s) := by
  obtain ⟨⟨p, hp⟩, ok1, ok2⟩ := h
  refine ⟨?_, ?_⟩
  · show (lo s).1.ok = true
    unfold lo; rw [hp]; exact ok1 p hp
  · show (hi s).1.ok = true
    unfold hi
    cases e : s.2 with
    | none => decide +kernel
    | some q => exact ok2 q e
abbrev Pt.row (q : Pt) : List Value := [.int .i64 q.a, .int .i64 q.b, .int .i64 q.c, .string q.p, .int .i64 q.a', .int .i64 q.b', .int .i64 q.c', .string q.p', .bool q.x, .bool q.y, .bool q.z]
def EP : El Pt where
  enc := fun q => q.row
  k := 11
  T := 44
  TS := 28
  z := spv 0 0 0 ⟨#[]⟩ 0 0 0 ⟨#[]⟩ false false false
  bytes := 88
  hk := fun _ => rfl
  one := by
    intro x u hu
    simp only [List.mem_cons, List.not_mem_nil, or_false] at hu
    rcases hu with rfl | rfl | rfl | rfl | rfl | rfl | rfl | rfl | rfl | rfl | rfl <;> rfl
  ht := Tryz.underlying28
  hi := ⟨Tryz.t44, by kernel_rfl, by kernel_rfl, by kernel_rfl, by kernel_rfl⟩
  hzs := by kernel_rfl
  hk0 := by decide
  hby := by decide
theorem encs_pt : ∀ l : List Sp.S, EP.encs (l.map pt) = ES.encs l
  | [] => rfl
  | s :: l => by
    show EP.enc (pt s) ++ EP.encs (l.map pt) = ES.enc s ++ ES.encs l
    rw [encs_pt l]; rfl
theorem ERow.pts {w : World} {a : Option Addr} {n : Nat} {l : List Sp.S} (h : ERow ES w a n l) : ERow EP w a n (l.map pt) :=
  ⟨by rw [List.length_map]; exact h.n, h.nil, fun x e j v hj => h.cell x e j v (by rw [← encs_pt]; exact hj)⟩
theorem EP_at {w : World} {b off len : Nat} {l : List Pt} (h : ERow EP w (some ⟨b, off, none⟩) len l) (j : Nat) (s : Pt) (hj : l[j]? = some s) :
    w.cell? ⟨b, off + j * 11, none⟩ = some (.int .i64 s.a) ∧ w.cell? ⟨b, off + j * 11 + 1, none⟩ = some (.int .i64 s.b) ∧ w.cell? ⟨b, off + j * 11 + 2, none⟩ = some (.int .i64 s.c) ∧ w.cell? ⟨b, off + j * 11 + 3, none⟩ = some (.string s.p) ∧ w.cell? ⟨b, off + j * 11 + 4, none⟩ = some (.int .i64 s.a') ∧ w.cell? ⟨b, off + j * 11 + 5, none⟩ = some (.int .i64 s.b') ∧ w.cell? ⟨b, off + j * 11 + 6, none⟩ = some (.int .i64 s.c') ∧ w.cell? ⟨b, off + j * 11 + 7, none⟩ = some (.string s.p') ∧ w.cell? ⟨b, off + j * 11 + 8, none⟩ = some (.bool s.x) ∧ w.cell? ⟨b, off + j * 11 + 9, none⟩ = some (.bool s.y) ∧ w.cell? ⟨b, off + j * 11 + 10, none⟩ = some (.bool s.z) :=
  ⟨h.at_ j s hj 0 _ rfl, h.at_ j s hj 1 _ rfl, h.at_ j s hj 2 _ rfl, h.at_ j s hj 3 _ rfl, h.at_ j s hj 4 _ rfl, h.at_ j s hj 5 _ rfl, h.at_ j s hj 6 _ rfl, h.at_ j s hj 7 _ rfl, h.at_ j s hj 8 _ rfl, h.at_ j s hj 9 _ rfl, h.at_ j s hj 10 _ rfl⟩

/-- A cell written in a row of one's own. -/
theorem own_set {w : World} {B : Nat} {T : TypeId} {k g n cap : Nat} {xs : List Value} (h : w.ownsRow B T k (.slice (some ⟨g, 0, .none⟩) n cap) n xs) (i : Nat) (u : Value) :
    (w.setCell ⟨g, i, .none⟩ u).ownsRow B T k (.slice (some ⟨g, 0, .none⟩) n cap) n (xs.set i u) := by
  refine ⟨by rw [List.length_set]; exact h.1, ?_⟩
  rcases h.2 with ⟨e, _⟩ | ⟨g', cap', cur, e, hb, hg, hnc, hcm, hsz, htk⟩
  · exact nomatch e
  · injection e with e1 _ e3
    injection e1 with e1
    injection e1 with e1
    subst e1
    subst e3
    refine .inr ⟨g, cap, cur.setIfInBounds i u, rfl, hb, ?_, hnc, hcm, by simpa using hsz, ?_⟩
    · show (w.heap.modify g _)[g]? = _
      rw [Array.getElem?_modify]
      simp [hg]
    · rw [Array.toList_setIfInBounds, List.take_set, htk]
theorem set_at {a b : List Value} (m i : Nat) (u : Value) (h : a.length = m) : (a ++ b).set (m + i) u = a ++ b.set i u := by
  subst h
  rw [List.set_append_right _ _ (by omega), Nat.add_sub_cancel_left]
/-- The last one's end written anew. -/
theorem EOwn.high {w : World} {B g n cap m : Nat} {pre : List Sp.S} {t x : Sp.S} (h : EOwn ES w B (.slice (some ⟨g, 0, .none⟩) n cap) (pre ++ [t])) (hm : pre.length = m) :
    EOwn ES ((((((w.setCell ⟨g, m * 11 + 4, .none⟩ (.int .i64 (pt x).a')).setCell ⟨g, m * 11 + 5, .none⟩ (.int .i64 (pt x).b')).setCell ⟨g, m * 11 + 6, .none⟩ (.int .i64 (pt x).c')).setCell ⟨g, m * 11 + 7, .none⟩ (.string (pt x).p')).setCell ⟨g, m * 11 + 9, .none⟩ (.bool (pt x).y)).setCell ⟨g, m * 11 + 10, .none⟩ (.bool (pt x).z)) B (.slice (some ⟨g, 0, .none⟩) n cap) (pre ++ [(t.1, x.2)]) := by
  have hn : (pre ++ [t]).length = n := by
    rcases h.2 with ⟨e, _⟩ | ⟨_, _, _, e, _⟩
    · exact nomatch e
    · injection e with _ e2 _; exact e2.symm
  subst hn
  have hl : (ES.encs pre).length = m * 11 := by rw [ES.encs_len, hm]; rfl
  have h6 := own_set (own_set (own_set (own_set (own_set (own_set h (m * 11 + 4) (.int .i64 (pt x).a')) (m * 11 + 5) (.int .i64 (pt x).b')) (m * 11 + 6) (.int .i64 (pt x).c')) (m * 11 + 7) (.string (pt x).p')) (m * 11 + 9) (.bool (pt x).y)) (m * 11 + 10) (.bool (pt x).z)
  have e0 : ES.encs (pre ++ [t]) = ES.encs pre ++ encS t := by
    rw [ES.encs_app]
    show ES.encs pre ++ (ES.enc t ++ []) = _
    rw [List.append_nil]; rfl
  have e1 : ES.encs (pre ++ [(t.1, x.2)]) = ES.encs pre ++ encS (t.1, x.2) := by
    rw [ES.encs_app]
    show ES.encs pre ++ (ES.enc (t.1, x.2) ++ []) = _
    rw [List.append_nil]; rfl
  unfold EOwn
  rw [e1]
  have hlen : (pre ++ [(t.1, x.2)]).length = (pre ++ [t]).length := by simp
  rw [hlen]
  rw [e0, set_at _ 4 _ hl, set_at _ 5 _ hl, set_at _ 6 _ hl, set_at _ 7 _ hl, set_at _ 9 _ hl, set_at _ 10 _ hl] at h6
  exact h6
theorem grown_high {w : World} {g m : Nat} {y0 y1 y2 y3 y4 y5 : Value} : w.grownBy ((((((w.setCell ⟨g, m * 11 + 4, .none⟩ y0).setCell ⟨g, m * 11 + 5, .none⟩ y1).setCell ⟨g, m * 11 + 6, .none⟩ y2).setCell ⟨g, m * 11 + 7, .none⟩ y3).setCell ⟨g, m * 11 + 9, .none⟩ y4).setCell ⟨g, m * 11 + 10, .none⟩ y5) (some g) :=
  grownBy_trans (grownBy_trans (grownBy_trans (grownBy_trans (grownBy_trans (grownBy_setCell _ _ _ _) (grownBy_setCell _ _ _ _) (.inl rfl)) (grownBy_setCell _ _ _ _) (.inl rfl)) (grownBy_setCell _ _ _ _) (.inl rfl)) (grownBy_setCell _ _ _ _) (.inl rfl)) (grownBy_setCell _ _ _ _) (.inl rfl)

/-- What the reference's questions ask. -/
theorem empty_is (q : Pt) : (!decide (Sp.cmpC (pS q).1 (pS q).2 < 0)) = (!q.z && (decide (cmpV q.hv q.lv < 0) || (cmpV q.hv q.lv == 0 && (q.x || !q.y)))) := by
  have ha := ord_ver.anti q.hv q.lv
  have hb := ord_ver.bd q.hv q.lv
  unfold pS
  cases q.z with
  | true => rfl
  | false =>
    show (!decide (Vr.seq (cmpV q.lv q.hv) (Sp.cmpB q.x q.y) < 0)) = _
    rw [ha]
    generalize cmpV q.hv q.lv = k at *
    have : k = -1 ∨ k = 0 ∨ k = 1 := by omega
    rcases this with rfl | rfl | rfl <;> cases q.x <;> cases q.y <;> decide
theorem first_is (q r : Pt) : decide (Sp.cmpC (pS q).1 (pS r).1 < 0) = (decide (cmpV q.lv r.lv < 0) || (cmpV q.lv r.lv == 0 && (!q.x && r.x))) := by
  have hb := ord_ver.bd q.lv r.lv
  show decide (Vr.seq (cmpV q.lv r.lv) (Sp.cmpB q.x r.x) < 0) = _
  generalize cmpV q.lv r.lv = k at *
  have : k = -1 ∨ k = 0 ∨ k = 1 := by omega
  rcases this with rfl | rfl | rfl <;> cases q.x <;> cases r.x <;> decide
theorem apart_is (q r : Pt) : decide (Sp.cmpC (pS q).2 (pS r).1 < 0) = (!q.z && (decide (cmpV q.hv r.lv < 0) || (cmpV q.hv r.lv == 0 && (!q.y && r.x)))) := by
  have hb := ord_ver.bd q.hv r.lv
  unfold pS
  cases q.z with
  | true => rfl
  | false =>
    show decide (Vr.seq (cmpV q.hv r.lv) (Sp.cmpB q.y r.x) < 0) = _
    generalize cmpV q.hv r.lv = k at *
    have : k = -1 ∨ k = 0 ∨ k = 1 := by omega
    rcases this with rfl | rfl | rfl <;> cases q.y <;> cases r.x <;> decide
theorem longer_is (q r : Pt) : decide (Sp.cmpC (pS r).2 (pS q).2 < 0) = (if q.z || r.z then q.z && !r.z else decide (0 < cmpV q.hv r.hv) || (cmpV q.hv r.hv == 0 && (q.y && !r.y))) := by
  have ha := ord_ver.anti q.hv r.hv
  have hb := ord_ver.bd q.hv r.hv
  unfold pS
  cases q.z with
  | true => cases r.z <;> rfl
  | false =>
    cases r.z with
    | true => rfl
    | false =>
      show decide (Vr.seq (cmpV r.hv q.hv) (Sp.cmpB r.y q.y) < 0) = _
      rw [ha]
      generalize cmpV q.hv r.hv = k at *
      have : k = -1 ∨ k = 0 ∨ k = 1 := by omega
      rcases this with rfl | rfl | rfl <;> cases q.y <;> cases r.y <;> decide
end Go.Proofs.YthihnpjbdjmbhaaGreatDoor

namespace Go.Proofs.YthihnpjbdjmbhaaGreatDoor
set_option linter.unusedSimpArgs false
set_option linter.unusedVariables false
open Go.RowKit Go.Vr Go.Sort Go.Tx Go.Lib
attribute [local go_sem] setCellDrewN allocDrewN

theorem ok_1000 {v : V} (h : v.ok = true) : v.p.size ≤ 1000 := Nat.le_trans (ok_size h) (by omega)
theorem ret_b {a b : Bool} (h : a = b) : Ending.returned (.bool a) = .returned (.bool b) := by rw [h]

set_option maxHeartbeats 4000000 in
theorem rempty_any (q : Pt) (h : okPt q) (w : World) :
    Calls Tryz.prog 72 #[q.val] w fun e w' => e = .returned (.bool (!decide (Sp.cmpC (pS q).1 (pS q).2 < 0))) ∧ RowKit.Below w.heap.size w w' := by
  have CC : Hid (∀ W, Calls Tryz.prog 105 #[ver q.a' q.b' q.c' q.p', ver q.a q.b q.c q.p] W fun e w' => e = .returned (.int .i64 (cmpV q.hv q.lv)) ∧ RowKit.Below W.heap.size W w') := fun W => rcmp_any q.hv q.lv W (ok_1000 h.2) (ok_1000 h.1)
  have HX := hide (empty_is q)
  have hb := ord_ver.bd q.hv q.lv
  generalize cmpV q.hv q.lv = k at *
  generalize (!decide (Sp.cmpC (pS q).1 (pS q).2 < 0)) = res at *
  clear h
  obtain ⟨a, b, c, p, a', b', c', p', x, y, z⟩ := q
  have h3 : k = -1 ∨ k = 0 ∨ k = 1 := by omega
  clear hb
  rcases h3 with rfl | rfl | rfl <;> cases x <;> cases y <;> cases z
  all_goals
    go_enter Tryz.func72, Tryz.ntmps72
    go_wp2_with fail
    refine (CC.out _).mono ?_
    rintro e w1 ⟨rfl, b1⟩
    obtain ⟨c1, f1, l1, hB⟩ := keep w.heap.size rfl b1
    clear b1 CC
    go_wp2_with fail
    go_ret
    exact ⟨ret_b (by rw [HX.out]; rfl), (by repeat (first | with_reducible assumption | with_reducible exact Below.refl _ _ | with_reducible refine Below.setCell ?_ (by first | exact Nat.le_refl _ | (simp; done) | (simp; omega)) _ | with_reducible refine bal ?_ _ | with_reducible refine Below.alloc ?_ (by first | exact Nat.le_refl _ | (simp; done) | (simp; omega)) _ | with_reducible refine Below.drew ?_))⟩
set_option maxHeartbeats 4000000 in
theorem rfirst_any (q r : Pt) (h : okPt q) (k : okPt r) (w : World) :
    Calls Tryz.prog 73 #[q.val, r.val] w fun e w' => e = .returned (.bool (decide (Sp.cmpC (pS q).1 (pS r).1 < 0))) ∧ RowKit.Below w.heap.size w w' := by
  have CC : Hid (∀ W, Calls Tryz.prog 105 #[ver q.a q.b q.c q.p, ver r.a r.b r.c r.p] W fun e w' => e = .returned (.int .i64 (cmpV q.lv r.lv)) ∧ RowKit.Below W.heap.size W w') := fun W => rcmp_any q.lv r.lv W (ok_1000 h.1) (ok_1000 k.1)
  have HX := hide (first_is q r)
  have hb := ord_ver.bd q.lv r.lv
  generalize cmpV q.lv r.lv = kc at *
  generalize decide (Sp.cmpC (pS q).1 (pS r).1 < 0) = res at *
  clear h k
  obtain ⟨a, b, c, p, a', b', c', p', x, y, z⟩ := q
  obtain ⟨a2, b2, c2, p2, a2', b2', c2', p2', x2, y2, z2⟩ := r
  have h3 : kc = -1 ∨ kc = 0 ∨ kc = 1 := by omega
  clear hb
  rcases h3 with rfl | rfl | rfl <;> cases x <;> cases x2
  all_goals
    go_enter Tryz.func73, Tryz.ntmps73
    go_wp2_with fail
    refine (CC.out _).mono ?_
    rintro e w1 ⟨rfl, b1⟩
    obtain ⟨c1, c2, f1, f2, lt, hB⟩ := keep2 b1
    clear b1 CC
    go_wp2_with fail
    go_ret
    exact ⟨ret_b (by rw [HX.out]; rfl), (by repeat (first | with_reducible assumption | with_reducible exact Below.refl _ _ | with_reducible refine Below.setCell ?_ (by first | exact Nat.le_refl _ | (simp; done) | (simp; omega)) _ | with_reducible refine bal ?_ _ | with_reducible refine Below.alloc ?_ (by first | exact Nat.le_refl _ | (simp; done) | (simp; omega)) _ | with_reducible refine Below.drew ?_))⟩
set_option maxHeartbeats 4000000 in
theorem rapart_any (q r : Pt) (h : okPt q) (k : okPt r) (w : World) :
    Calls Tryz.prog 74 #[q.val, r.val] w fun e w' => e = .returned (.bool (decide (Sp.cmpC (pS q).2 (pS r).1 < 0))) ∧ RowKit.Below w.heap.size w w' := by
  have CC : Hid (∀ W, Calls Tryz.prog 105 #[ver q.a' q.b' q.c' q.p', ver r.a r.b r.c r.p] W fun e w' => e = .returned (.int .i64 (cmpV q.hv r.lv)) ∧ RowKit.Below W.heap.size W w') := fun W => rcmp_any q.hv r.lv W (ok_1000 h.2) (ok_1000 k.1)
  have HX := hide (apart_is q r)
  have hb := ord_ver.bd q.hv r.lv
  generalize cmpV q.hv r.lv = kc at *
  generalize decide (Sp.cmpC (pS q).2 (pS r).1 < 0) = res at *
  clear h k
  obtain ⟨a, b, c, p, a', b', c', p', x, y, z⟩ := q
  obtain ⟨a2, b2, c2, p2, a2', b2', c2', p2', x2, y2, z2⟩ := r
  cases z with
  | true =>
    go_enter Tryz.func74, Tryz.ntmps74
    go_wp2_with fail
    go_ret
    exact ⟨ret_b (by rw [HX.out]; rfl), (by repeat (first | with_reducible assumption | with_reducible exact Below.refl _ _ | with_reducible refine Below.setCell ?_ (by first | exact Nat.le_refl _ | (simp; done) | (simp; omega)) _ | with_reducible refine bal ?_ _ | with_reducible refine Below.alloc ?_ (by first | exact Nat.le_refl _ | (simp; done) | (simp; omega)) _ | with_reducible refine Below.drew ?_))⟩
  | false =>
    have h3 : kc = -1 ∨ kc = 0 ∨ kc = 1 := by omega
    clear hb
    rcases h3 with rfl | rfl | rfl <;> cases y <;> cases x2
    all_goals
      go_enter Tryz.func74, Tryz.ntmps74
      go_wp2_with fail
      refine (CC.out _).mono ?_
      rintro e w1 ⟨rfl, b1⟩
      obtain ⟨c1, c2, f1, f2, lt, hB⟩ := keep2 b1
      clear b1 CC
      go_wp2_with fail
      go_ret
      exact ⟨ret_b (by rw [HX.out]; rfl), (by repeat (first | with_reducible assumption | with_reducible exact Below.refl _ _ | with_reducible refine Below.setCell ?_ (by first | exact Nat.le_refl _ | (simp; done) | (simp; omega)) _ | with_reducible refine bal ?_ _ | with_reducible refine Below.alloc ?_ (by first | exact Nat.le_refl _ | (simp; done) | (simp; omega)) _ | with_reducible refine Below.drew ?_))⟩
set_option maxHeartbeats 4000000 in
theorem rlonger_any (q r : Pt) (h : okPt q) (k : okPt r) (w : World) :
    Calls Tryz.prog 75 #[q.val, r.val] w fun e w' => e = .returned (.bool (decide (Sp.cmpC (pS r).2 (pS q).2 < 0))) ∧ RowKit.Below w.heap.size w w' := by
  have CC : Hid (∀ W, Calls Tryz.prog 105 #[ver q.a' q.b' q.c' q.p', ver r.a' r.b' r.c' r.p'] W fun e w' => e = .returned (.int .i64 (cmpV q.hv r.hv)) ∧ RowKit.Below W.heap.size W w') := fun W => rcmp_any q.hv r.hv W (ok_1000 h.2) (ok_1000 k.2)
  have HX := hide (longer_is q r)
  have hb := ord_ver.bd q.hv r.hv
  generalize cmpV q.hv r.hv = kc at *
  generalize decide (Sp.cmpC (pS r).2 (pS q).2 < 0) = res at *
  clear h k
  obtain ⟨a, b, c, p, a', b', c', p', x, y, z⟩ := q
  obtain ⟨a2, b2, c2, p2, a2', b2', c2', p2', x2, y2, z2⟩ := r
  by_cases hz : (z || z2) = true
  · have hq : (z = true ∧ z2 = false) ∨ (z = false ∧ z2 = true) ∨ (z = true ∧ z2 = true) := by revert hz; cases z <;> cases z2 <;> simp
    clear hz
    rcases hq with ⟨rfl, rfl⟩ | ⟨rfl, rfl⟩ | ⟨rfl, rfl⟩
    all_goals
      go_enter Tryz.func75, Tryz.ntmps75
      go_wp2_with fail
      go_ret
      exact ⟨ret_b (by rw [HX.out]; rfl), (by repeat (first | with_reducible assumption | with_reducible exact Below.refl _ _ | with_reducible refine Below.setCell ?_ (by first | exact Nat.le_refl _ | (simp; done) | (simp; omega)) _ | with_reducible refine bal ?_ _ | with_reducible refine Below.alloc ?_ (by first | exact Nat.le_refl _ | (simp; done) | (simp; omega)) _ | with_reducible refine Below.drew ?_))⟩
  · obtain ⟨rfl, rfl⟩ : z = false ∧ z2 = false := by revert hz; cases z <;> cases z2 <;> simp
    clear hz
    have h3 : kc = -1 ∨ kc = 0 ∨ kc = 1 := by omega
    clear hb
    rcases h3 with rfl | rfl | rfl <;> cases y <;> cases y2
    all_goals
      go_enter Tryz.func75, Tryz.ntmps75
      go_wp2_with fail
      refine (CC.out _).mono ?_
      rintro e w1 ⟨rfl, b1⟩
      obtain ⟨c1, c2, f1, f2, lt, hB⟩ := keep2 b1
      clear b1 CC
      go_wp2_with fail
      go_ret
      exact ⟨ret_b (by rw [HX.out]; rfl), (by repeat (first | with_reducible assumption | with_reducible exact Below.refl _ _ | with_reducible refine Below.setCell ?_ (by first | exact Nat.le_refl _ | (simp; done) | (simp; omega)) _ | with_reducible refine bal ?_ _ | with_reducible refine Below.alloc ?_ (by first | exact Nat.le_refl _ | (simp; done) | (simp; omega)) _ | with_reducible refine Below.drew ?_))⟩
set_option maxHeartbeats 400000 in
theorem rleast_any (w : World) :
    Calls Tryz.prog 69 #[] w fun e w' => e = .returned (ver 0 0 0 ⟨#[48]⟩) ∧ RowKit.Below w.heap.size w w' := by
  go_enter Tryz.func69, Tryz.ntmps69
  go_wp2_with fail
  exact bodyPost_ret (by simp [results, Tryz.results69, go_sem]) rfl ⟨rfl, (by repeat (first | with_reducible assumption | with_reducible exact Below.refl _ _ | with_reducible refine Below.setCell ?_ (by first | exact Nat.le_refl _ | (simp; done) | (simp; omega)) _ | with_reducible refine bal ?_ _ | with_reducible refine Below.alloc ?_ (by first | exact Nat.le_refl _ | (simp; done) | (simp; omega)) _ | with_reducible refine Below.drew ?_))⟩
end Go.Proofs.YthihnpjbdjmbhaaGreatDoor

namespace Go.Sp
set_option linter.unusedVariables false
open Go.Vr Go.Tx

theorem cmp_lt {v u : V} (x y : Bool) (h : cmpV v u < 0) : cmpC (some (v, x)) (some (u, y)) < 0 := by
  rw [cmpC_ss]; unfold seq; simp only; split <;> omega
theorem cmp_same (v : V) (x y : Bool) : cmpC (some (v, x)) (some (v, y)) = cmpB x y := by
  rw [cmpC_ss]; simp only; rw [ord_ver.refl]; rfl
theorem nm_one {s : S} (h : cmpC s.1 s.2 < 0) : Normed [s] := ⟨h, by simp, trivial⟩
/-- Two that rise, joined. -/
theorem nrm_two {s t : S} (h : cmpC s.1 t.1 ≤ 0) (hs : cmpC s.1 s.2 < 0) (ht : cmpC t.1 t.2 < 0) : nrm [s, t] = if cmpC s.2 t.1 < 0 then [s, t] else if cmpC s.2 t.2 < 0 then [(s.1, t.2)] else [s] := by
  have hr : Rise cmpC [s, t] := ⟨by simpa using h, by simp, trivial⟩
  rw [← join_nrm (l := [s, t]) hr (fun _ => Iff.rfl), ← fold_join [s, t] (by rintro u hu; rcases List.mem_cons.1 hu with rfl | hu; exact hs; rw [List.mem_singleton.1 hu]; exact ht)]
  show stepR ([] ++ [s]) t = _
  rw [stepR_last]
  rfl

section
variable {v0 v1 v2 : V} (i a : Bool)
def eX (v0 v1 : V) (i : Bool) : S := (some (v0, false), some (v1, i))
def eY (v1 v2 : V) (a : Bool) : S := (some (v1, a), some (v2, false))
theorem ends_or (h01 : cmpV v0 v1 < 0) (h12 : cmpV v1 v2 < 0) : nrm [eX v0 v1 i, eY v1 v2 a] = if i || !a then [(some (v0, false), some (v2, false))] else [eX v0 v1 i, eY v1 v2 a] := by
  have h1 : cmpC (eX v0 v1 i).1 (eY v1 v2 a).1 < 0 := cmp_lt _ _ h01
  rw [nrm_two (by omega) (cmp_lt _ _ h01) (cmp_lt _ _ h12)]
  have e1 : cmpC (eX v0 v1 i).2 (eY v1 v2 a).1 = cmpB i a := cmp_same v1 i a
  have e2 : cmpC (eX v0 v1 i).2 (eY v1 v2 a).2 < 0 := cmp_lt _ _ h12
  rw [e1]
  by_cases h : (i || !a) = true
  · have h2 : ¬ cmpB i a < 0 := by revert h; cases i <;> cases a <;> decide
    rw [if_neg h2, if_pos e2, if_pos h]; rfl
  · have h2 : cmpB i a < 0 := by revert h; cases i <;> cases a <;> decide
    rw [if_pos h2, if_neg h]
theorem ok_X (ok0 : v0.ok = true) (ok1 : v1.ok = true) : okS (eX v0 v1 i) := ⟨⟨_, rfl⟩, ok_v ok0 _, ok_v ok1 _⟩
theorem ok_Y (ok1 : v1.ok = true) (ok2 : v2.ok = true) : okS (eY v1 v2 a) := ⟨⟨_, rfl⟩, ok_v ok1 _, ok_v ok2 _⟩
theorem ok_l1 {s : S} (h : okS s) : okL [s] := fun t ht => by rw [List.mem_singleton.1 ht]; exact h
theorem ok_l2 {s t : S} (h : okS s) (k : okS t) : okL [s, t] := fun u hu => by
  rcases List.mem_cons.1 hu with rfl | hu
  · exact h
  · rw [List.mem_singleton.1 hu]; exact k
theorem ends_and (ok0 : v0.ok = true) (ok1 : v1.ok = true) (ok2 : v2.ok = true) (h01 : cmpV v0 v1 < 0) (h12 : cmpV v1 v2 < 0) : (allL [[eX v0 v1 i], [eY v1 v2 a]]).length = if i && !a then 1 else 0 := by
  have e : allL [[eX v0 v1 i], [eY v1 v2 a]] = only cmpC (some (v1, a)) (some (v1, i)) := by
    refine unique ord_cut _ _ (all_nm _) (nm_only _ _) fun x => ?_
    have nX : Normed [eX v0 v1 i] := nm_one (cmp_lt _ _ h01)
    have nY : Normed [eY v1 v2 a] := nm_one (cmp_lt _ _ h12)
    have oX := ok_l1 (ok_X i ok0 ok1)
    have oY := ok_l1 (ok_Y a ok1 ok2)
    have h := all_has (ls := [[eX v0 v1 i], [eY v1 v2 a]]) (fun l hl => by
      rcases List.mem_cons.1 hl with rfl | hl
      · exact nX
      · rw [List.mem_singleton.1 hl]; exact nY) (fun l hl => by
      rcases List.mem_cons.1 hl with rfl | hl
      · exact oX
      · rw [List.mem_singleton.1 hl]; exact oY) x
    refine h.trans ?_
    rw [in_only ord_cut]
    constructor
    · rintro ⟨_, _, h3⟩
      obtain ⟨s, hs, _, k1⟩ := h3 _ (List.mem_cons_self ..)
      obtain ⟨t, ht, k2, _⟩ := h3 [eY v1 v2 a] (by simp)
      rw [List.mem_singleton.1 hs] at k1
      rw [List.mem_singleton.1 ht] at k2
      exact ⟨k2, k1⟩
    · rintro ⟨k1, k2⟩
      have l0 : cmpC (some (v0, false)) x < 0 := ord_cut.lt_le _ _ _ (cmp_lt _ _ h01) k1
      refine ⟨ord_cut.le _ _ _ (start_le (ok_v ok1 a)) k1, ord_cut.lt_le _ _ _ k2 (le_end _), ?_⟩
      intro l hl
      rcases List.mem_cons.1 hl with rfl | hl
      · exact ⟨eX v0 v1 i, List.mem_singleton.2 rfl, by show cmpC (some (v0, false)) x ≤ 0; omega, k2⟩
      · rw [List.mem_singleton.1 hl]
        exact ⟨eY v1 v2 a, List.mem_singleton.2 rfl, k1, lt_trans ord_cut k2 (cmp_lt _ _ h12)⟩
  rw [e]
  unfold only
  rw [cmp_same]
  cases i <;> cases a <;> rfl
end
end Go.Sp

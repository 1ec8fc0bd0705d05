/-
  Contract of a reader's part.
-/
import Derived.Test.YtninheehoabbbaaGreatDoorN18
namespace Go.Proofs.YtninheehoabbbaaGreatDoor
set_option linter.unusedSimpArgs false
set_option linter.unusedVariables false
open Go.RowKit Go.Vr Go.Sort Go.Tx Go.Lib
attribute [local go_sem] setCellDrewN allocDrewN

theorem signed_len {g : Bs} {v : V} {l : List Sp.S} (h : Sp.signedM g v = some l) : l.length ≤ 2 := by
  have k : ∀ a b, (Sp.only Sp.cmpC a b).length ≤ 2 := fun a b => Nat.le_trans (only_len a b) (by decide)
  have k2 : (Sp.notL (Sp.only Sp.cmpC (some (v, false)) (some (v, true)))).length ≤ 2 := by
    have h1 := not_len (Sp.only Sp.cmpC (some (v, false)) (some (v, true)))
    have h2 := only_len (some (v, false)) (some (v, true))
    omega
  unfold Sp.signedM at h
  repeat' split at h
  all_goals first
    | (cases h; exact k _ _)
    | (cases h; exact k2)
    | (cases h; done)
theorem wild_len {s : Bs} {l : List Sp.S} (h : Sp.wildM s = some l) : l.length ≤ 2 := by
  have k : ∀ a b, (Sp.only Sp.cmpC a b).length ≤ 2 := fun a b => Nat.le_trans (only_len a b) (by decide)
  have k1 : ∀ o l, Sp.wild1 o = some l → l.length ≤ 2 := by
    intro o l h
    unfold Sp.wild1 at h
    repeat' split at h
    all_goals first
      | (cases h; exact k _ _)
      | (cases h; done)
  unfold Sp.wildM Sp.wild2 at h
  repeat' split at h
  all_goals first
    | (cases h; exact k _ _)
    | exact k1 _ _ h
    | (cases h; done)
theorem meant_len {s : Bs} {l : List Sp.S} (h : Sp.meantM s = some l) : l.length ≤ 2 := by
  unfold Sp.meantM at h
  split at h
  · cases h
    have := not_len []
    simpa using Nat.le_trans this (by decide)
  · split at h
    · rename_i hw; cases h; exact wild_len hw
    · cases hv : parse (s.drop (Sp.vAt s)) with
      | none => rw [hv] at h; exact nomatch h
      | some v => rw [hv] at h; exact signed_len h
/-- What an item tells is normed, may be, and is short. -/
theorem item_ok {s : Bs} {p q : Nat} {l : List Sp.S} (h : Sp.itemM s p = (some l, q)) : Sp.okL l ∧ Sp.Normed l ∧ l.length ≤ 2 := by
  unfold Sp.itemM at h
  cases hm : Sp.meantM (Sp.wordM s p) with
  | none => rw [hm] at h; exact nomatch h
  | some k =>
    have h0 : Sp.okL k ∧ Sp.Normed k ∧ k.length ≤ 2 := ⟨(meantM_ok hm).1, (meantM_ok hm).2, meant_len hm⟩
    rw [hm] at h
    simp only at h
    unfold Sp.item1 at h
    cases hv : parse (Sp.wordM s p) with
    | none => rw [hv] at h; simp only [Prod.mk.injEq, Option.some.injEq] at h; rw [← h.1]; exact h0
    | some v =>
      rw [hv] at h
      simp only at h
      split at h
      · unfold Sp.item2 at h
        split at h
        · exact nomatch h
        · rename_i u hu
          simp only [Prod.mk.injEq, Option.some.injEq] at h
          rw [← h.1]
          exact ⟨Sp.ok_only (Sp.ok_v (parse_ok' hv) false) (Sp.ok_v (parse_ok' hu) true), Sp.nm_only _ _, Nat.le_trans (only_len _ _) (by decide)⟩
      · simp only [Prod.mk.injEq, Option.some.injEq] at h; rw [← h.1]; exact h0
theorem EachO.far {w w' : World} {B R : Nat} (hR : R < B) (hg : w.grownBy w' (some R)) : ∀ {ts : List Sl} {ls : List (List Sp.S)}, EachO w B ts ls → EachO w' B ts ls
  | [], [], _ => trivial
  | _ :: _, _ :: _, h => ⟨own_far h.1 hR hg, EachO.far hR hg h.2⟩
  | [], _ :: _, h => h.elim
  | _ :: _, [], h => h.elim
theorem flat_two : ∀ ls : List (List Sp.S), (∀ l ∈ ls, l.length ≤ 2) → ls.flatten.length ≤ 2 * ls.length
  | [], _ => by simp
  | l :: ls, h => by
    have h1 := h l (by simp)
    have h2 := flat_two ls (fun k hk => h k (by simp [hk]))
    rw [List.flatten_cons, List.length_append, List.length_cons]; omega

theorem common_own (B B' : Nat) (o : Value) (us : List Sl) (ls : List (List Sp.S)) (w0 W : World) (h : EOwn ER W B o us) (e : EachO W B' us ls) (hl : ls.length ≤ 2001) (h2 : ∀ l ∈ ls, Sp.okL l ∧ l.length ≤ 2) (hb : RowKit.Below w0.heap.size w0 W) (he : Env w0) :
    Calls Tryz.prog 35 #[o] W fun e w' => ∃ v', e = .returned v' ∧ EOwn ES w' W.heap.size v' (Sp.allL ls) ∧ RowKit.Below W.heap.size W w' := by
  obtain ⟨ad, cap, rfl, _, _, hr⟩ := h.any
  have h1 := flat_two ls (fun k hk => (h2 k hk).2)
  have h3 := e.len
  exact common_any _ _ _ ls W ⟨us, hr, e.each⟩ (by omega) (fun t ht => by obtain ⟨k, hk, ht⟩ := List.mem_flatten.1 ht; exact (h2 k hk).1 t ht) (he.later hb)

set_option maxHeartbeats 16000000 in
set_option maxRecDepth 100000 in
theorem part_any (R : Nat) (s : ByteArray) (p : Nat) (w0 w : World) (X : Box w R (rd s p)) (hp : p ≤ s.size) (hs : s.size ≤ 2000) (hia : IA s) (hb : RowKit.Below w0.heap.size w0 w) (hR : w0.heap.size ≤ R) (he : Env w0) :
    Calls Tryz.prog 41 #[.pointer (some ⟨R, 0, none⟩)] w fun e w' => Read (R + 1) R s (Sp.partM s.data.toList p) e w' ∧ w.grownBy w' (some R) := by
  have HE := hide he
  have HI := hide hia
  have HB := hide hb
  have hRw := X.lt
  have q0 := Sp.bl_le s.data.toList p (by rw [len_eq]; omega)
  rw [len_eq] at q0
  have CB := hide (blanks_any R s p w X hp (by omega))
  clear he hia hb X
  have HP0 : Hid (Sp.partM s.data.toList p = Sp.partG s.data.toList (s.size + 1) (Sp.blM s.data.toList p) []) := by show _ = _; unfold Sp.partM; rw [len_eq]
  generalize Sp.partM s.data.toList p = pm at *
  generalize Sp.blM s.data.toList p = q0' at *
  go_enter Tryz.func41, Tryz.ntmps41
  go_wp2_with fail
  refine CB.out.mono ?_
  rintro e w1 ⟨rfl, X1, g1⟩
  clear CB
  go_wp2_with fail
  go_loopg [4] (s.size - q0') (fun g o wr => ∃ (q n : Nat) (us : List Sl) (ls : List (List Sp.S)), q ≤ s.size ∧ g = s.size - q ∧ s.size - q < n ∧ Box wr R (rd s q) ∧ EOwn ER wr w.heap.size o us ∧ EachO wr (R + 1) us ls ∧ w.grownBy wr (some R) ∧ ls.length ≤ q ∧ Hid (∀ l ∈ ls, Sp.okL l ∧ l.length ≤ 2) ∧ Hid (pm = Sp.partG s.data.toList n q ls))
  case atStart => exact ⟨q0', s.size + 1, [], [], by omega, rfl, by omega, X1, EOwn.nil _ _, trivial, g1, by simp, (fun _ h => nomatch h), HP0⟩
  case round =>
    obtain ⟨q, n, us, ls, hq, rfl, hn, Y, o1, e1, g2, hlq, HLS, HP⟩ := hrel
    obtain ⟨n', rfl⟩ : ∃ n', n = n' + 1 := ⟨n - 1, by omega⟩
    have hil := Sp.item_le s.data.toList q (by rw [len_eq]; exact hq)
    rw [len_eq] at hil
    have CI := hide (item_any R s q w0 wr Y hq (by omega) HI.out (below_of HB.out hR g2) hR HE.out)
    have HP2 : Hid (pm = match Sp.itemM s.data.toList q with | (none, q) => (none, q) | (some l, q) => if Sp.blM s.data.toList q = s.data.toList.length ∨ s.data.toList[Sp.blM s.data.toList q]? = some 124 then (some (Sp.allL (ls ++ [l])), Sp.blM s.data.toList q) else Sp.partG s.data.toList n' (Sp.blM s.data.toList q) (ls ++ [l])) := HP
    have hik := @item_ok s.data.toList q
    clear X1 g1 HP HP0 Y
    generalize Sp.itemM s.data.toList q = im at *
    obtain ⟨im1, q1⟩ := im
    cases im1 with
    | none =>
      have HP3 : Hid (pm = (none, q1)) := HP2
      have HO1 := hide o1
      have HE1 := hide e1
      have HG2 := hide g2
      clear o1 e1 g2 HP2 hik hil hlq hn hq
      go_wp2_with fail
      refine CI.out.mono ?_
      rintro e w2 ⟨t2, g3⟩
      obtain ⟨h2, X2⟩ : e = .returned (.tuple #[.slice none 0 0, .bool false]) ∧ Box w2 R (rd s q1) := t2
      subst h2
      clear CI
      go_wp2_with fail
      refine bodyPost_ret (v := .tuple #[.slice none 0 0, .bool false]) (by simp [results, Tryz.results41, go_sem]) rfl ⟨?_, grownBy_trans HG2.out g3 (.inl rfl)⟩
      rw [HP3.out]
      exact ⟨rfl, X2⟩
    | some l =>
      obtain ⟨okl, nml, lnl⟩ := hik rfl
      have hil3 := hil.2.2 (by simp)
      have hil2 := hil.2.1
      simp only at hil2 hil3
      have q5 := Sp.bl_le s.data.toList q1 (by rw [len_eq]; exact hil2)
      rw [len_eq] at q5
      have HLS2 : Hid (∀ k ∈ ls ++ [l], Sp.okL k ∧ k.length ≤ 2) := by
        intro k hk
        rcases List.mem_append.1 hk with hk | hk
        · exact HLS.out k hk
        · rw [List.mem_singleton.1 hk]; exact ⟨okl, lnl⟩
      have HP3 : Hid (pm = if Sp.blM s.data.toList q1 = s.data.toList.length ∨ s.data.toList[Sp.blM s.data.toList q1]? = some 124 then (some (Sp.allL (ls ++ [l])), Sp.blM s.data.toList q1) else Sp.partG s.data.toList n' (Sp.blM s.data.toList q1) (ls ++ [l])) := HP2
      have hul := e1.len
      have HUL : Hid (us.length ≤ 2000) := by show _ ≤ _; omega
      have HO1 := hide o1
      have HE1 := hide e1
      have HG2 := hide g2
      have HQ := hide (And.intro hlq (And.intro hn (And.intro hq (And.intro hil2 (And.intro hil3 q5)))))
      have HRw := hide hRw
      clear o1 e1 g2 HP2 hik hil hlq hn hq hul okl nml HLS hil2 hil3 q5
      go_wp2_with fail
      refine CI.out.mono ?_
      rintro e w2 ⟨t2, g3⟩
      obtain ⟨v2, h2, o2, X2⟩ : ∃ v', e = .returned (.tuple #[v', .bool true]) ∧ EOwn ES w2 (R + 1) v' l ∧ Box w2 R (rd s q1) := t2
      subst h2
      obtain ⟨ad2, cap2, rfl, _, _, _⟩ := o2.any
      have HO2 := hide (HO1.out.kept g3 (.inr fun e => by have := (HO1.out.low R e).1; omega))
      have HE2 := hide (HE1.out.far (show R < R + 1 by omega) g3)
      have HG3 := hide (grownBy_trans HG2.out g3 (.inl rfl))
      have HL2 := hide o2
      have HX2 := hide X2
      clear CI o2 X2 g3 HO1 HE1 HG2
      generalize l.length = m2 at *
      go_wp2_with (refine wpList_eapp ER rfl _ _ rfl w.heap.size _ us (some _) 1 1 [⟨ad2, m2, cap2⟩] rfl rfl (HO2.out.later (by repeat (first | with_reducible assumption | with_reducible exact Below.refl _ _ | with_reducible refine Below.setCell ?_ (by first | exact Nat.le_refl _ | (simp; done) | (simp; omega)) _ | with_reducible refine bal ?_ _ | with_reducible refine Below.alloc ?_ (by first | exact Nat.le_refl _ | (simp; done) | (simp; omega)) _ | with_reducible refine Below.drew ?_))) (ERow.new ER w2 ⟨ad2, m2, cap2⟩ _) (by have := HUL.out; simp; omega) (by have := HG3.out.size; simp; omega) ?_; intro v4 w4 o4 g4 t4)
      have hba : RowKit.Below w2.heap.size w2 (w2.alloc (.cells #[.slice ad2 m2 cap2] 28)) := (by repeat (first | with_reducible assumption | with_reducible exact Below.refl _ _ | with_reducible refine Below.setCell ?_ (by first | exact Nat.le_refl _ | (simp; done) | (simp; omega)) _ | with_reducible refine bal ?_ _ | with_reducible refine Below.alloc ?_ (by first | exact Nat.le_refl _ | (simp; done) | (simp; omega)) _ | with_reducible refine Below.drew ?_))
      have oe := HO2.out.later hba
      have E4 := ((HE2.out.later hba).app (t := ⟨ad2, m2, cap2⟩) (HL2.out.later hba)).kept oe g4
      have X4 := (HX2.out.later hba).kept g4 (fun e => by have := (oe.low R e).1; have := HRw.out; omega)
      have G4 := grownBy_trans (grown_below HG3.out hba) g4 (.inr fun k e => (oe.low k e).1)
      clear HO2 HE2 HG3 HL2 HX2 hba oe g4 t4
      refine (blanks_any R s q1 w4 X4 HQ.out.2.2.2.1 (by omega)).mono ?_
      rintro e w5 ⟨rfl, X5, g5⟩
      have HO5 := hide (o4.kept g5 (.inr fun e => by have := (o4.low R e).1; have := HRw.out; omega))
      have HE5 := hide (E4.far (show R < R + 1 by omega) g5)
      have HG5 := hide (grownBy_trans G4 g5 (.inl rfl))
      have HX5 := hide X5
      clear o4 E4 G4 X4 g5
      generalize Sp.blM s.data.toList q1 = qb at *
      have CD : Hid (∀ m, Calls Tryz.prog 42 #[.pointer (some ⟨R, 0, none⟩)] (w5.drewN m) fun e w' => e = .returned (.bool (decide (qb = s.size))) ∧ ∃ n, w' = (w5.drewN m).drewN n) := fun m => done_any R s qb _ (X5.later (belDrewN w5 m))
      have cX5 := X5.c
      have fX5 := X5.f
      clear X5
      obtain ⟨hlq, hn, hq, hil2, hil3, q5a, q5b⟩ := HQ.out
      by_cases he : qb = s.size
      · have hd : decide (qb = s.size) = true := decide_eq_true he
        rw [hd] at CD
        have HPf : Hid (pm = (some (Sp.allL (ls ++ [l])), qb)) := HP3.out.trans (if_pos (.inl (by rw [len_eq]; exact he)))
        have HLQ : Hid (ls.length ≤ 2000) := by show _ ≤ _; omega
        clear hd he hlq hn hq hil2 hil3 q5a q5b HQ HP3
        go_wp2_with fail
        go_quiet (first | (go_at_call 42; exact Calls.quiet_of (CD.out _)))
        have b8 := belDrewN w5 nq
        have X8 := hide (HX5.out.later b8)
        have G8 := hide (grown_below HG5.out b8)
        have CC := hide (common_own _ _ _ _ _ w0 _ (HO5.out.later b8) (HE5.out.later b8) (by have := HLQ.out; rw [List.length_append]; simp; omega) HLS2.out (below_of HB.out hR (grown_below HG5.out b8)) HE.out)
        have hs8 : Hid (R + 1 ≤ (w5.drewN nq).heap.size) := Nat.lt_of_lt_of_le HRw.out (Nat.le_trans HG5.out.size b8.size)
        clear cX5 CD fX5 b8 HO5 HE5 HX5 HG5 HLS2
        generalize w5.drewN nq = w8 at *
        go_wp2_with fail
        refine CC.out.mono ?_
        rintro e w9 ⟨v9, rfl, o9, b9⟩
        clear CC
        go_wp2_with fail
        refine bodyPost_ret (v := .tuple #[v9, .bool true]) (by simp [results, Tryz.results41, go_sem]) rfl ⟨?_, grown_below G8.out b9⟩
        rw [HPf.out]
        exact ⟨v9, rfl, o9.base hs8.out, X8.out.later b9⟩
      · have hd : decide (qb = s.size) = false := decide_eq_false he
        rw [hd] at CD
        have hlt : qb < s.size := by omega
        have i1 : (0 : Int) ≤ (qb : Int) := by omega
        have i2 : (qb : Int) < (s.size : Int) := by omega
        have hget : s.data.toList[qb]? = some s[qb] := Lib.data_getElem? s qb hlt
        by_cases hc : s[qb] = 124
        · have HPf : Hid (pm = (some (Sp.allL (ls ++ [l])), qb)) := HP3.out.trans (if_pos (.inr (by rw [hget, hc])))
          have HLQ : Hid (ls.length ≤ 2000) := by show _ ≤ _; omega
          clear hd he hlq hn hq hil2 hil3 q5a q5b HQ HP3 hget
          go_wp2_with fail
          go_quiet (first | (go_at_call 42; exact Calls.quiet_of (CD.out _)))
          have b8 := belDrewN w5 nq
          have X8 := hide (HX5.out.later b8)
          have G8 := hide (grown_below HG5.out b8)
          have CC := hide (common_own _ _ _ _ _ w0 _ (HO5.out.later b8) (HE5.out.later b8) (by have := HLQ.out; rw [List.length_append]; simp; omega) HLS2.out (below_of HB.out hR (grown_below HG5.out b8)) HE.out)
          have hs8 : Hid (R + 1 ≤ (w5.drewN nq).heap.size) := Nat.lt_of_lt_of_le HRw.out (Nat.le_trans HG5.out.size b8.size)
          clear cX5 CD fX5 b8 HO5 HE5 HX5 HG5 HLS2
          generalize w5.drewN nq = w8 at *
          go_wp2_with fail
          refine CC.out.mono ?_
          rintro e w9 ⟨v9, rfl, o9, b9⟩
          clear CC
          go_wp2_with fail
          refine bodyPost_ret (v := .tuple #[v9, .bool true]) (by simp [results, Tryz.results41, go_sem]) rfl ⟨?_, grown_below G8.out b9⟩
          rw [HPf.out]
          exact ⟨v9, rfl, o9.base hs8.out, X8.out.later b9⟩
        · have HPn : Hid (pm = Sp.partG s.data.toList n' qb (ls ++ [l])) := HP3.out.trans (if_neg (by
            rintro (h | h)
            · rw [len_eq] at h; exact he h
            · rw [hget] at h; exact hc (Option.some.inj h)))
          have hne : ((s[qb].toNat : Int) == 124) = false := by
            have : ¬ s[qb].toNat = 124 := fun h => hc (UInt8.toNat_inj.1 h)
            simpa using (by omega : ¬ (s[qb].toNat : Int) = 124)
          have HQ2 : Hid (qb ≤ s.size ∧ s.size - qb < n' ∧ (ls ++ [l]).length ≤ qb ∧ s.size - qb < s.size - q) := by
            refine ⟨by omega, by omega, ?_, by omega⟩
            rw [List.length_append]; simp; omega
          clear hd he hlq hn hq hil2 hil3 q5a q5b HQ HP3 hget hc
          go_wp2_with fail
          go_quiet (first | (go_at_call 42; exact Calls.quiet_of (CD.out _)))
          go_wp2_with fail
          go_roundg (s.size - qb)
          case measure => exact HQ2.out.2.2.2
          case rel =>
            have b8 := belDrewN w5 nq
            exact ⟨qb, n', us ++ [⟨ad2, m2, cap2⟩], ls ++ [l], HQ2.out.1, rfl, HQ2.out.2.1, HX5.out.later b8, HO5.out.later b8, HE5.out.later b8, grown_below HG5.out b8, HQ2.out.2.2.1, HLS2, HPn⟩
end Go.Proofs.YtninheehoabbbaaGreatDoor

/-
  Contract of a reader's part.
  Facts on what a part tells.
  Contract of a reader's parts.
  Contract of Parse.
  strings.IndexAny at texts of ASCII bytes.
-/
import Derived.Test.YthihnpjbdjmbhaaGreatDoorG26

namespace Go.Proofs.YthihnpjbdjmbhaaGreatDoor
set_option linter.unusedSimpArgs false
set_option linter.unusedVariables false
open Go.RowKit Go.Vr Go.Sort Go.Tx Go.Lib
attribute [local go_sem] setCellDrewN allocDrewN

theorem signed_len {g : Bs} {v : V} {l : List Sp.S} (h : Sp.signedM g v = some l) : l.length ≤ 2 := by
  have k : ∀ a b, (Sp.only Sp.cmpC a b).length ≤ 2 := fun a b => Nat.le_trans (only_len a b) (by decide)
  have k2 : (Sp.notL (Sp.only Sp.cmpC (some (v, false)) (some (v, true)))).length ≤ 2 := by
    have h1 := not_len (Sp.only Sp.cmpC (some (v, false)) (some (v, true)))
    have h2 := only_len (some (v, false)) (some (v, true))
    omega
  unfold Sp.signedM at h
  repeat' split at h
  all_goals first
    | (cases h; exact k _ _)
    | (cases h; exact k2)
    | (cases h; done)
theorem wild_len {s : Bs} {l : List Sp.S} (h : Sp.wildM s = some l) : l.length ≤ 2 := by
  have k : ∀ a b, (Sp.only Sp.cmpC a b).length ≤ 2 := fun a b => Nat.le_trans (only_len a b) (by decide)
  have k1 : ∀ o l, Sp.wild1 o = some l → l.length ≤ 2 := by
    intro o l h
    unfold Sp.wild1 at h
    repeat' split at h
    all_goals first
      | (cases h; exact k _ _)
      | (cases h; done)
  unfold Sp.wildM Sp.wild2 at h
  repeat' split at h
  all_goals first
    | (cases h; exact k _ _)
    | exact k1 _ _ h
    | (cases h; done)
theorem meant_len {s : Bs} {l : List Sp.S} (h : Sp.meantM s = some l) : l.length ≤ 2 := by
  unfold Sp.meantM at h
  split at h
  · cases h
    have := not_len []
    simpa using Nat.le_trans this (by decide)
  · split at h
    · rename_i hw; cases h; exact wild_len hw
    · cases hv : parse (s.drop (Sp.vAt s)) with
      | none => rw [hv] at h; exact nomatch h
      | some v => rw [hv] at h; exact signed_len h
/-- What an item tells is normed, may be, and is short. -/
theorem item_ok {s : Bs} {p q : Nat} {l : List Sp.S} (h : Sp.itemM s p = (some l, q)) : Sp.okL l ∧ Sp.Normed l ∧ l.length ≤ 2 := by
  unfold Sp.itemM at h
  cases hm : Sp.meantM (Sp.wordM s p) with
  | none => rw [hm] at h; exact nomatch h
  | some k =>
    have h0 : Sp.okL k ∧ Sp.Normed k ∧ k.length ≤ 2 := ⟨(meantM_ok hm).1, (meantM_ok hm).2, meant_len hm⟩
    rw [hm] at h
    simp only at h
    unfold Sp.item1 at h
    cases hv : parse (Sp.wordM s p) with
    | none => rw [hv] at h; simp only [Prod.mk.injEq, Option.some.injEq] at h; rw [← h.1]; exact h0
    | some v =>
      rw [hv] at h
      simp only at h
      split at h
      · unfold Sp.item2 at h
        split at h
        · exact nomatch h
        · rename_i u hu
          simp only [Prod.mk.injEq, Option.some.injEq] at h
          rw [← h.1]
          exact ⟨Sp.ok_only (Sp.ok_v (parse_ok' hv) false) (Sp.ok_v (parse_ok' hu) true), Sp.nm_only _ _, Nat.le_trans (only_len _ _) (by decide)⟩
      · simp only [Prod.mk.injEq, Option.some.injEq] at h; rw [← h.1]; exact h0
theorem EachO.far {w w' : World} {B R : Nat} (hR : R < B) (hg : w.grownBy w' (some R)) : ∀ {ts : List Sl} {ls : List (List Sp.S)}, EachO w B ts ls → EachO w' B ts ls
  | [], [], _ => trivial
  | _ :: _, _ :: _, h => ⟨own_far h.1 hR hg, EachO.far hR hg h.2⟩
  | [], _ :: _, h => h.elim
  | _ :: _, [], h => h.elim
theorem flat_two : ∀ ls : List (List Sp.S), (∀ l ∈ ls, l.length ≤ 2) → ls.flatten.length ≤ 2 * ls.length
  | [], _ => by simp
  | l :: ls, h => by
    have h1 := h l (by simp)
    have h2 := flat_two ls (fun k hk => h k (by simp [hk]))
    rw [List.flatten_cons, List.length_append, List.length_cons]; omega

theorem common_own (B B' : Nat) (o : Value) (us : List Sl) (ls : List (List Sp.S)) (w0 W : World) (h : EOwn ER W B o us) (e : EachO W B' us ls) (hl : ls.length ≤ 2001) (h2 : ∀ l ∈ ls, Sp.okL l ∧ l.length ≤ 2) (hb : RowKit.Below w0.heap.size w0 W) (he : Env w0) :
    Calls Tryz.prog 35 #[o] W fun e w' => ∃ v', e = .returned v' ∧ EOwn ES w' W.heap.size v' (Sp.allL ls) ∧ RowKit.Below W.heap.size W w' := by
  obtain ⟨ad, cap, rfl, _, _, hr⟩ := h.any
  have h1 := flat_two ls (fun k hk => (h2 k hk).2)
  have h3 := e.len
  exact common_any _ _ _ ls W ⟨us, hr, e.each⟩ (by omega) (fun t ht => by obtain ⟨k, hk, ht⟩ := List.mem_flatten.1 ht; exact (h2 k hk).1 t ht) (he.later hb)

set_option maxHeartbeats 16000000 in
set_option maxRecDepth 100000 in
theorem part_any (R : Nat) (s : ByteArray) (p : Nat) (w0 w : World) (X : Box w R (rd s p)) (hp : p ≤ s.size) (hs : s.size ≤ 2000) (hia : IA s) (hb : RowKit.Below w0.heap.size w0 w) (hR : w0.heap.size ≤ R) (he : Env w0) :
    Calls Tryz.prog 41 #[.pointer (some ⟨R, 0, none⟩)] w fun e w' => Read (R + 1) R s (Sp.partM s.data.toList p) e w' ∧ w.grownBy w' (some R) := by
  have HE := hide he
  have HI := hide hia
  have HB := hide hb
  have hRw := X.lt
  have q0 := Sp.bl_le s.data.toList p (by rw [len_eq]; omega)
  rw [len_eq] at q0
  have CB := hide (blanks_any R s p w X hp (by omega))
  clear he hia hb X
  have HP0 : Hid (Sp.partM s.data.toList p = Sp.partG s.data.toList (s.size + 1) (Sp.blM s.data.toList p) []) := by show _ = _; unfold Sp.partM; rw [len_eq]
  generalize Sp.partM s.data.toList p = pm at *
  generalize Sp.blM s.data.toList p = q0' at *
  go_enter Tryz.func41, Tryz.ntmps41
  go_wp2_with fail
  refine CB.out.mono ?_
  rintro e w1 ⟨rfl, X1, g1⟩
  clear CB
  go_wp2_with fail
  go_loopg [4] (s.size - q0') (fun g o wr => ∃ (q n : Nat) (us : List Sl) (ls : List (List Sp.S)), q ≤ s.size ∧ g = s.size - q ∧ s.size - q < n ∧ Box wr R (rd s q) ∧ EOwn ER wr w.heap.size o us ∧ EachO wr (R + 1) us ls ∧ w.grownBy wr (some R) ∧ ls.length ≤ q ∧ Hid (∀ l ∈ ls, Sp.okL l ∧ l.length ≤ 2) ∧ Hid (pm = Sp.partG s.data.toList n q ls))
  case atStart => exact ⟨q0', s.size + 1, [], [], by omega, rfl, by omega, X1, EOwn.nil _ _, trivial, g1, by simp, (fun _ h => nomatch h), HP0⟩
  case round =>
    obtain ⟨q, n, us, ls, hq, rfl, hn, Y, o1, e1, g2, hlq, HLS, HP⟩ := hrel
    obtain ⟨n', rfl⟩ : ∃ n', n = n' + 1 := ⟨n - 1, by omega⟩
    have hil := Sp.item_le s.data.toList q (by rw [len_eq]; exact hq)
    rw [len_eq] at hil
    have CI := hide (item_any R s q w0 wr Y hq (by omega) HI.out (below_of HB.out hR g2) hR HE.out)
    have HP2 : Hid (pm = match Sp.itemM s.data.toList q with | (none, q) => (none, q) | (some l, q) => if Sp.blM s.data.toList q = s.data.toList.length ∨ s.data.toList[Sp.blM s.data.toList q]? = some 124 then (some (Sp.allL (ls ++ [l])), Sp.blM s.data.toList q) else Sp.partG s.data.toList n' (Sp.blM s.data.toList q) (ls ++ [l])) := HP
    have hik := @item_ok s.data.toList q
    clear X1 g1 HP HP0 Y
    generalize Sp.itemM s.data.toList q = im at *
    obtain ⟨im1, q1⟩ := im
    cases im1 with
    | none =>
      have HP3 : Hid (pm = (none, q1)) := HP2
      have HO1 := hide o1
      have HE1 := hide e1
      have HG2 := hide g2
      clear o1 e1 g2 HP2 hik hil hlq hn hq
      go_wp2_with fail
      refine CI.out.mono ?_
      rintro e w2 ⟨t2, g3⟩
      obtain ⟨h2, X2⟩ : e = .returned (.tuple #[.slice none 0 0, .bool false]) ∧ Box w2 R (rd s q1) := t2
      subst h2
      clear CI
      go_wp2_with fail
      refine bodyPost_ret (v := .tuple #[.slice none 0 0, .bool false]) (by simp [results, Tryz.results41, go_sem]) rfl ⟨?_, grownBy_trans HG2.out g3 (.inl rfl)⟩
      rw [HP3.out]
      exact ⟨rfl, X2⟩
    | some l =>
      obtain ⟨okl, nml, lnl⟩ := hik rfl
      have hil3 := hil.2.2 (by simp)
      have hil2 := hil.2.1
      simp only at hil2 hil3
      have q5 := Sp.bl_le s.data.toList q1 (by rw [len_eq]; exact hil2)
      rw [len_eq] at q5
      have HLS2 : Hid (∀ k ∈ ls ++ [l], Sp.okL k ∧ k.length ≤ 2) := by
        intro k hk
        rcases List.mem_append.1 hk with hk | hk
        · exact HLS.out k hk
        · rw [List.mem_singleton.1 hk]; exact ⟨okl, lnl⟩
      have HP3 : Hid (pm = if Sp.blM s.data.toList q1 = s.data.toList.length ∨ s.data.toList[Sp.blM s.data.toList q1]? = some 124 then (some (Sp.allL (ls ++ [l])), Sp.blM s.data.toList q1) else Sp.partG s.data.toList n' (Sp.blM s.data.toList q1) (ls ++ [l])) := HP2
      have hul := e1.len
      have HUL : Hid (us.length ≤ 2000) := by show _ ≤ _; omega
      have HO1 := hide o1
      have HE1 := hide e1
      have HG2 := hide g2
      have HQ := hide (And.intro hlq (And.intro hn (And.intro hq (And.intro hil2 (And.intro hil3 q5)))))
      have HRw := hide hRw
      clear o1 e1 g2 HP2 hik hil hlq hn hq hul okl nml HLS hil2 hil3 q5
      go_wp2_with fail
      refine CI.out.mono ?_
      rintro e w2 ⟨t2, g3⟩
      obtain ⟨v2, h2, o2, X2⟩ : ∃ v', e = .returned (.tuple #[v', .bool true]) ∧ EOwn ES w2 (R + 1) v' l ∧ Box w2 R (rd s q1) := t2
      subst h2
      obtain ⟨ad2, cap2, rfl, _, _, _⟩ := o2.any
      have HO2 := hide (HO1.out.kept g3 (.inr fun e => by have := (HO1.out.low R e).1; omega))
      have HE2 := hide (HE1.out.far (show R < R + 1 by omega) g3)
      have HG3 := hide (grownBy_trans HG2.out g3 (.inl rfl))
      have HL2 := hide o2
      have HX2 := hide X2
      clear CI o2 X2 g3 HO1 HE1 HG2
      generalize l.length = m2 at *
      go_wp2_with (refine wpList_eapp ER rfl _ _ rfl w.heap.size _ us (some _) 1 1 [⟨ad2, m2, cap2⟩] rfl rfl (HO2.out.later (by repeat (first | with_reducible assumption | with_reducible exact Below.refl _ _ | with_reducible refine Below.setCell ?_ (by first | exact Nat.le_refl _ | (simp; done) | (simp; omega)) _ | with_reducible refine bal ?_ _ | with_reducible refine Below.alloc ?_ (by first | exact Nat.le_refl _ | (simp; done) | (simp; omega)) _ | with_reducible refine Below.drew ?_))) (ERow.new ER w2 ⟨ad2, m2, cap2⟩ _) (by have := HUL.out; simp; omega) (by have := HG3.out.size; simp; omega) ?_; intro v4 w4 o4 g4 t4)
      have hba : RowKit.Below w2.heap.size w2 (w2.alloc (.cells #[.slice ad2 m2 cap2] 28)) := (by repeat (first | with_reducible assumption | with_reducible exact Below.refl _ _ | with_reducible refine Below.setCell ?_ (by first | exact Nat.le_refl _ | (simp; done) | (simp; omega)) _ | with_reducible refine bal ?_ _ | with_reducible refine Below.alloc ?_ (by first | exact Nat.le_refl _ | (simp; done) | (simp; omega)) _ | with_reducible refine Below.drew ?_))
      have oe := HO2.out.later hba
      have E4 := ((HE2.out.later hba).app (t := ⟨ad2, m2, cap2⟩) (HL2.out.later hba)).kept oe g4
      have X4 := (HX2.out.later hba).kept g4 (fun e => by have := (oe.low R e).1; have := HRw.out; omega)
      have G4 := grownBy_trans (grown_below HG3.out hba) g4 (.inr fun k e => (oe.low k e).1)
      clear HO2 HE2 HG3 HL2 HX2 hba oe g4 t4
      refine (blanks_any R s q1 w4 X4 HQ.out.2.2.2.1 (by omega)).mono ?_
      rintro e w5 ⟨rfl, X5, g5⟩
      have HO5 := hide (o4.kept g5 (.inr fun e => by have := (o4.low R e).1; have := HRw.out; omega))
      have HE5 := hide (E4.far (show R < R + 1 by omega) g5)
      have HG5 := hide (grownBy_trans G4 g5 (.inl rfl))
      have HX5 := hide X5
      clear o4 E4 G4 X4 g5
      generalize Sp.blM s.data.toList q1 = qb at *
      have CD : Hid (∀ m, Calls Tryz.prog 42 #[.pointer (some ⟨R, 0, none⟩)] (w5.drewN m) fun e w' => e = .returned (.bool (decide (qb = s.size))) ∧ ∃ n, w' = (w5.drewN m).drewN n) := fun m => done_any R s qb _ (X5.later (belDrewN w5 m))
      have cX5 := X5.c
      have fX5 := X5.f
      clear X5
      obtain ⟨hlq, hn, hq, hil2, hil3, q5a, q5b⟩ := HQ.out
      by_cases he : qb = s.size
      · have hd : decide (qb = s.size) = true := decide_eq_true he
        rw [hd] at CD
        have HPf : Hid (pm = (some (Sp.allL (ls ++ [l])), qb)) := HP3.out.trans (if_pos (.inl (by rw [len_eq]; exact he)))
        have HLQ : Hid (ls.length ≤ 2000) := by show _ ≤ _; omega
        clear hd he hlq hn hq hil2 hil3 q5a q5b HQ HP3
        go_wp2_with fail
        go_quiet (first | (go_at_call 42; exact Calls.quiet_of (CD.out _)))
        have b8 := belDrewN w5 nq
        have X8 := hide (HX5.out.later b8)
        have G8 := hide (grown_below HG5.out b8)
        have CC := hide (common_own _ _ _ _ _ w0 _ (HO5.out.later b8) (HE5.out.later b8) (by have := HLQ.out; rw [List.length_append]; simp; omega) HLS2.out (below_of HB.out hR (grown_below HG5.out b8)) HE.out)
        have hs8 : Hid (R + 1 ≤ (w5.drewN nq).heap.size) := Nat.lt_of_lt_of_le HRw.out (Nat.le_trans HG5.out.size b8.size)
        clear cX5 CD fX5 b8 HO5 HE5 HX5 HG5 HLS2
        generalize w5.drewN nq = w8 at *
        go_wp2_with fail
        refine CC.out.mono ?_
        rintro e w9 ⟨v9, rfl, o9, b9⟩
        clear CC
        go_wp2_with fail
        refine bodyPost_ret (v := .tuple #[v9, .bool true]) (by simp [results, Tryz.results41, go_sem]) rfl ⟨?_, grown_below G8.out b9⟩
        rw [HPf.out]
        exact ⟨v9, rfl, o9.base hs8.out, X8.out.later b9⟩
      · have hd : decide (qb = s.size) = false := decide_eq_false he
        rw [hd] at CD
        have hlt : qb < s.size := by omega
        have i1 : (0 : Int) ≤ (qb : Int) := by omega
        have i2 : (qb : Int) < (s.size : Int) := by omega
        have hget : s.data.toList[qb]? = some s[qb] := Lib.data_getElem? s qb hlt
        by_cases hc : s[qb] = 124
        · have HPf : Hid (pm = (some (Sp.allL (ls ++ [l])), qb)) := HP3.out.trans (if_pos (.inr (by rw [hget, hc])))
          have HLQ : Hid (ls.length ≤ 2000) := by show _ ≤ _; omega
          clear hd he hlq hn hq hil2 hil3 q5a q5b HQ HP3 hget
          go_wp2_with fail
          go_quiet (first | (go_at_call 42; exact Calls.quiet_of (CD.out _)))
          have b8 := belDrewN w5 nq
          have X8 := hide (HX5.out.later b8)
          have G8 := hide (grown_below HG5.out b8)
          have CC := hide (common_own _ _ _ _ _ w0 _ (HO5.out.later b8) (HE5.out.later b8) (by have := HLQ.out; rw [List.length_append]; simp; omega) HLS2.out (below_of HB.out hR (grown_below HG5.out b8)) HE.out)
          have hs8 : Hid (R + 1 ≤ (w5.drewN nq).heap.size) := Nat.lt_of_lt_of_le HRw.out (Nat.le_trans HG5.out.size b8.size)
          clear cX5 CD fX5 b8 HO5 HE5 HX5 HG5 HLS2
          generalize w5.drewN nq = w8 at *
          go_wp2_with fail
          refine CC.out.mono ?_
          rintro e w9 ⟨v9, rfl, o9, b9⟩
          clear CC
          go_wp2_with fail
          refine bodyPost_ret (v := .tuple #[v9, .bool true]) (by simp [results, Tryz.results41, go_sem]) rfl ⟨?_, grown_below G8.out b9⟩
          rw [HPf.out]
          exact ⟨v9, rfl, o9.base hs8.out, X8.out.later b9⟩
        · have HPn : Hid (pm = Sp.partG s.data.toList n' qb (ls ++ [l])) := HP3.out.trans (if_neg (by
            rintro (h | h)
            · rw [len_eq] at h; exact he h
            · rw [hget] at h; exact hc (Option.some.inj h)))
          have hne : ((s[qb].toNat : Int) == 124) = false := by
            have : ¬ s[qb].toNat = 124 := fun h => hc (UInt8.toNat_inj.1 h)
            simpa using (by omega : ¬ (s[qb].toNat : Int) = 124)
          have HQ2 : Hid (qb ≤ s.size ∧ s.size - qb < n' ∧ (ls ++ [l]).length ≤ qb ∧ s.size - qb < s.size - q) := by
            refine ⟨by omega, by omega, ?_, by omega⟩
            rw [List.length_append]; simp; omega
          clear hd he hlq hn hq hil2 hil3 q5a q5b HQ HP3 hget hc
          go_wp2_with fail
          go_quiet (first | (go_at_call 42; exact Calls.quiet_of (CD.out _)))
          go_wp2_with fail
          go_roundg (s.size - qb)
          case measure => exact HQ2.out.2.2.2
          case rel =>
            have b8 := belDrewN w5 nq
            exact ⟨qb, n', us ++ [⟨ad2, m2, cap2⟩], ls ++ [l], HQ2.out.1, rfl, HQ2.out.2.1, HX5.out.later b8, HO5.out.later b8, HE5.out.later b8, grown_below HG5.out b8, HQ2.out.2.2.1, HLS2, HPn⟩
end Go.Proofs.YthihnpjbdjmbhaaGreatDoor

namespace Go.Proofs.YthihnpjbdjmbhaaGreatDoor
set_option linter.unusedSimpArgs false
set_option linter.unusedVariables false
open Go.RowKit Go.Vr Go.Sort Go.Tx Go.Lib

theorem all_len (ls : List (List Sp.S)) : (Sp.allL ls).length ≤ ls.flatten.length + ls.length + 2 := by
  have h1 := flatMap_len ls
  have h2 := nrm_len (ls.flatMap Sp.notL)
  have h3 := not_len (Sp.nrm (ls.flatMap Sp.notL))
  unfold Sp.allL
  omega
theorem partG_ok (s : Bs) : ∀ (n p : Nat) (acc : List (List Sp.S)) (l : List Sp.S) (q : Nat), p ≤ s.length → (∀ k ∈ acc, Sp.okL k ∧ k.length ≤ 2) → Sp.partG s n p acc = (some l, q) →
    Sp.okL l ∧ Sp.Normed l ∧ l.length + 3 * p ≤ 3 * acc.length + 3 * q + 2 ∧ p < q ∧ q ≤ s.length ∧ (q = s.length ∨ s[q]? = some 124)
  | 0, p, acc, l, q, _, _, h => by unfold Sp.partG at h; exact nomatch h
  | n + 1, p, acc, l, q, hp, ha, h => by
    have hi := Sp.item_le s p hp
    unfold Sp.partG at h
    cases him : Sp.itemM s p with
    | mk o q1 =>
      rw [him] at h hi
      cases o with
      | none => exact nomatch h
      | some k =>
        have hk := item_ok him
        have hlt := hi.2.2 (by simp)
        simp only at hi hlt h
        have hb := Sp.bl_le s q1 hi.2.1
        have ha2 : ∀ t ∈ acc ++ [k], Sp.okL t ∧ t.length ≤ 2 := by
          intro t ht
          rcases List.mem_append.1 ht with ht | ht
          · exact ha t ht
          · rw [List.mem_singleton.1 ht]; exact ⟨hk.1, hk.2.2⟩
        split at h
        · rename_i hc
          simp only [Prod.mk.injEq, Option.some.injEq] at h
          obtain ⟨rfl, rfl⟩ := h
          have h1 := all_len (acc ++ [k])
          have h2 := flat_two (acc ++ [k]) (fun t ht => (ha2 t ht).2)
          rw [List.length_append] at h1 h2
          simp only [List.length_cons, List.length_nil] at h1 h2
          exact ⟨Sp.ok_all (fun t ht => (ha2 t ht).1), Sp.all_nm _, by omega, by omega, hb.2, hc⟩
        · have ih := partG_ok s n (Sp.blM s q1) (acc ++ [k]) l q hb.2 ha2 h
          obtain ⟨i1, i2, i3, i4, i5, i6⟩ := ih
          rw [List.length_append] at i3
          simp only [List.length_cons, List.length_nil] at i3
          exact ⟨i1, i2, by omega, by omega, i5, i6⟩
theorem part_ok {s : Bs} {p q : Nat} {l : List Sp.S} (hp : p ≤ s.length) (h : Sp.partM s p = (some l, q)) :
    Sp.okL l ∧ Sp.Normed l ∧ l.length + 3 * p ≤ 3 * q + 2 ∧ p < q ∧ q ≤ s.length ∧ (q = s.length ∨ s[q]? = some 124) := by
  have hb := Sp.bl_le s p hp
  obtain ⟨i1, i2, i3, i4, i5, i6⟩ := partG_ok s (s.length + 1) (Sp.blM s p) [] l q hb.2 (fun _ h => nomatch h) h
  simp only [List.length_nil] at i3
  exact ⟨i1, i2, by omega, by omega, i5, i6⟩
end Go.Proofs.YthihnpjbdjmbhaaGreatDoor

namespace Go.Proofs.YthihnpjbdjmbhaaGreatDoor
set_option linter.unusedSimpArgs false
set_option linter.unusedVariables false
open Go.RowKit Go.Vr Go.Sort Go.Tx Go.Lib
attribute [local go_sem] setCellDrewN allocDrewN

theorem or_own (B B' : Nat) (o : Value) (us : List Sl) (ls : List (List Sp.S)) (w0 W : World) (h : EOwn ER W B o us) (e : EachO W B' us ls) (hl : ls.length ≤ 2001) (hf : ls.flatten.length ≤ 9000) (h2 : ∀ l ∈ ls, Sp.okL l) (hb : RowKit.Below w0.heap.size w0 W) (he : Env w0) :
    Calls Tryz.prog 15 #[o] W fun e w' => ∃ v', e = .returned v' ∧ EOwn ES w' W.heap.size v' (Sp.nrm ls.flatten) ∧ RowKit.Below W.heap.size W w' := by
  obtain ⟨ad, cap, rfl, _, _, hr⟩ := h.any
  have h3 := e.len
  exact sor_any _ _ _ ls W ⟨us, hr, e.each⟩ (by omega) hf (fun t ht => by obtain ⟨k, hk, ht⟩ := List.mem_flatten.1 ht; exact h2 k hk t ht) (he.later hb)

set_option maxHeartbeats 16000000 in
set_option maxRecDepth 100000 in
theorem parts_any (R : Nat) (s : ByteArray) (w0 w : World) (X : Box w R (rd s 0)) (hs : s.size ≤ 2000) (hia : IA s) (hb : RowKit.Below w0.heap.size w0 w) (hR : w0.heap.size ≤ R) (he : Env w0) :
    Calls Tryz.prog 17 #[.pointer (some ⟨R, 0, none⟩)] w fun e w' => Read (R + 1) R s (Sp.parseS s.data.toList) e w' ∧ w.grownBy w' (some R) := by
  have HE := hide he
  have HI := hide hia
  have HB := hide hb
  have HRw := hide X.lt
  have HP0 : Hid (Sp.parseS s.data.toList = Sp.partsG s.data.toList (s.size + 1) 0 []) := by show _ = _; unfold Sp.parseS; rw [len_eq]
  clear he hia hb
  generalize Sp.parseS s.data.toList = pm at *
  go_enter Tryz.func17, Tryz.ntmps17
  go_wp2_with fail
  go_loopg [4] s.size (fun g o wr => ∃ (q n : Nat) (us : List Sl) (ls : List (List Sp.S)), q ≤ s.size ∧ g = s.size - q ∧ s.size - q < n ∧ Box wr R (rd s q) ∧ EOwn ER wr w.heap.size o us ∧ EachO wr (R + 1) us ls ∧ w.grownBy wr (some R) ∧ ls.length ≤ q ∧ ls.flatten.length ≤ 3 * q ∧ Hid (∀ l ∈ ls, Sp.okL l) ∧ Hid (pm = Sp.partsG s.data.toList n q ls))
  case atStart => exact ⟨0, s.size + 1, [], [], by omega, by omega, by omega, X, EOwn.nil _ _, trivial, ⟨rfl, rfl, rfl, Nat.le_refl _, fun _ _ _ => rfl⟩, by simp, by simp, (fun _ h => nomatch h), HP0⟩
  case round =>
    obtain ⟨q, n, us, ls, hq, rfl, hn, Y, o1, e1, g2, hlq, hfq, HLS, HP⟩ := hrel
    obtain ⟨n', rfl⟩ : ∃ n', n = n' + 1 := ⟨n - 1, by omega⟩
    have CI := hide (part_any R s q w0 wr Y hq hs HI.out (below_of HB.out hR g2) hR HE.out)
    have HP2 : Hid (pm = match Sp.partM s.data.toList q with | (none, q) => (none, q) | (some l, q) => if q = s.data.toList.length then (some (Sp.nrm (ls ++ [l]).flatten), q) else if s.data.toList[q + 1]? = some 124 then Sp.partsG s.data.toList n' (q + 2) (ls ++ [l]) else (none, q + 1)) := HP
    have hpk := fun l q' => @part_ok s.data.toList q q' l (by rw [len_eq]; exact hq)
    clear X HP HP0 Y
    generalize Sp.partM s.data.toList q = im at *
    obtain ⟨im1, q1⟩ := im
    cases im1 with
    | none =>
      have HP3 : Hid (pm = (none, q1)) := HP2
      have HO1 := hide o1
      have HE1 := hide e1
      have HG2 := hide g2
      clear o1 e1 g2 HP2 hpk hlq hfq hn hq
      go_wp2_with fail
      refine CI.out.mono ?_
      rintro e w2 ⟨t2, g3⟩
      obtain ⟨h2, X2⟩ : e = .returned (.tuple #[.slice none 0 0, .bool false]) ∧ Box w2 R (rd s q1) := t2
      subst h2
      clear CI
      go_wp2_with fail
      refine bodyPost_ret (v := .tuple #[.slice none 0 0, .bool false]) (by simp [results, Tryz.results17, go_sem]) rfl ⟨?_, grownBy_trans HG2.out g3 (.inl rfl)⟩
      rw [HP3.out]
      exact ⟨rfl, X2⟩
    | some l =>
      obtain ⟨okl, nml, lnl, hlt1, hle1, hend⟩ := hpk l q1 rfl
      rw [len_eq] at hle1 hend
      have HLS2 : Hid (∀ k ∈ ls ++ [l], Sp.okL k) := by
        intro k hk
        rcases List.mem_append.1 hk with hk | hk
        · exact HLS.out k hk
        · rw [List.mem_singleton.1 hk]; exact okl
      have HP3 : Hid (pm = if q1 = s.data.toList.length then (some (Sp.nrm (ls ++ [l]).flatten), q1) else if s.data.toList[q1 + 1]? = some 124 then Sp.partsG s.data.toList n' (q1 + 2) (ls ++ [l]) else (none, q1 + 1)) := HP2
      have hul := e1.len
      have HUL : Hid (us.length ≤ 2000) := by show _ ≤ _; omega
      have HF : Hid ((ls ++ [l]).flatten.length ≤ 3 * q1 + 2 ∧ (ls ++ [l]).length ≤ q1 ∧ q1 ≤ s.size ∧ q < q1 ∧ s.size - q < n' + 1) := by
        refine ⟨?_, ?_, hle1, hlt1, hn⟩
        · have hfl : (ls ++ [l]).flatten.length = ls.flatten.length + l.length := by rw [List.flatten_append, List.length_append]; simp
          rw [hfl]; omega
        · rw [List.length_append]; simp; omega
      have HEnd := hide hend
      have HO1 := hide o1
      have HE1 := hide e1
      have HG2 := hide g2
      clear o1 e1 g2 HP2 hpk hlq hfq hn hq hul okl nml lnl hlt1 hle1 hend HLS
      go_wp2_with fail
      refine CI.out.mono ?_
      rintro e w2 ⟨t2, g3⟩
      obtain ⟨v2, h2, o2, X2⟩ : ∃ v', e = .returned (.tuple #[v', .bool true]) ∧ EOwn ES w2 (R + 1) v' l ∧ Box w2 R (rd s q1) := t2
      subst h2
      obtain ⟨ad2, cap2, rfl, _, _, _⟩ := o2.any
      have HO2 := hide (HO1.out.kept g3 (.inr fun e => by have := (HO1.out.low R e).1; have := HRw.out; omega))
      have HE2 := hide (HE1.out.far (show R < R + 1 by omega) g3)
      have HG3 := hide (grownBy_trans HG2.out g3 (.inl rfl))
      have HL2 := hide o2
      have HX2 := hide X2
      clear CI o2 X2 g3 HO1 HE1 HG2
      generalize l.length = m2 at *
      have hbw : Hid (w.heap.size ≤ w2.heap.size) := HG3.out.size
      go_wp2_with (refine wpList_eapp ER rfl _ _ rfl w.heap.size _ us (some _) 1 1 [⟨ad2, m2, cap2⟩] rfl rfl (HO2.out.later (by repeat (first | with_reducible assumption | with_reducible exact Below.refl _ _ | with_reducible refine Below.setCell ?_ (by first | exact Nat.le_refl _ | (simp; done) | (simp; omega)) _ | with_reducible refine bal ?_ _ | with_reducible refine Below.alloc ?_ (by first | exact Nat.le_refl _ | (simp; done) | (simp; omega)) _ | with_reducible refine Below.drew ?_))) (ERow.new ER w2 ⟨ad2, m2, cap2⟩ _) (by have := HUL.out; simp; omega) (by have := hbw.out; simp; omega) ?_; intro v4 w4 o4 g4 t4)
      have hba : RowKit.Below w2.heap.size w2 (w2.alloc (.cells #[.slice ad2 m2 cap2] 28)) := (by repeat (first | with_reducible assumption | with_reducible exact Below.refl _ _ | with_reducible refine Below.setCell ?_ (by first | exact Nat.le_refl _ | (simp; done) | (simp; omega)) _ | with_reducible refine bal ?_ _ | with_reducible refine Below.alloc ?_ (by first | exact Nat.le_refl _ | (simp; done) | (simp; omega)) _ | with_reducible refine Below.drew ?_))
      have oe := HO2.out.later hba
      have E4 := hide (((HE2.out.later hba).app (t := ⟨ad2, m2, cap2⟩) (HL2.out.later hba)).kept oe g4)
      have X4 := hide ((HX2.out.later hba).kept g4 (fun e => by have := (oe.low R e).1; have := HRw.out; omega))
      have G4 := hide (grownBy_trans (grown_below HG3.out hba) g4 (.inr fun k e => (oe.low k e).1))
      have O4 := hide o4
      clear HO2 HE2 HG3 HL2 HX2 hba oe g4 t4 o4 hbw
      refine (done_any R s q1 w4 X4.out).mono ?_
      rintro e w5 ⟨rfl, m5, rfl⟩
      have b5 := hide (belDrewN w4 m5)
      have E5 := hide (E4.out.later b5.out)
      have X5 := hide (X4.out.later b5.out)
      have G5 := hide (grown_below G4.out b5.out)
      have O5 := hide (O4.out.later b5.out)
      clear E4 X4 G4 O4 b5
      generalize w4.drewN m5 = w5 at *
      by_cases he : q1 = s.size
      · have HP4 : Hid (pm = (some (Sp.nrm (ls ++ [l]).flatten), q1)) := HP3.out.trans (if_pos (by rw [len_eq]; exact he))
        have hd : decide (q1 = s.size) = true := decide_eq_true he
        have CC := hide (or_own _ _ _ _ _ w0 _ O5.out E5.out (by have := HF.out; omega) (by have := HF.out; omega) HLS2.out (below_of HB.out hR G5.out) HE.out)
        have hs8 : Hid (R + 1 ≤ w5.heap.size) := Nat.lt_of_lt_of_le HRw.out G5.out.size
        rw [hd]
        clear hd he HP3 HEnd HF HLS2 O5 E5
        go_wp2_with fail
        refine CC.out.mono ?_
        rintro e w9 ⟨v9, rfl, o9, b9⟩
        clear CC
        go_wp2_with fail
        refine bodyPost_ret (v := .tuple #[v9, .bool true]) (by simp [results, Tryz.results17, go_sem]) rfl ⟨?_, grown_below G5.out b9⟩
        rw [HP4.out]
        exact ⟨v9, rfl, o9.base hs8.out, X5.out.later b9⟩
      · have hd : decide (q1 = s.size) = false := decide_eq_false he
        have h124 := HEnd.out.resolve_left he
        have CBr := hide (bars_any R s q1 w5 X5.out h124 (by omega))
        have HP4 : Hid (pm = if s.data.toList[q1 + 1]? = some 124 then Sp.partsG s.data.toList n' (q1 + 2) (ls ++ [l]) else (none, q1 + 1)) := HP3.out.trans (if_neg (by rw [len_eq]; exact he))
        rw [hd]
        clear hd he HP3 HEnd h124
        by_cases h2 : s.data.toList[q1 + 1]? = some 124
        · have HP5 : Hid (pm = Sp.partsG s.data.toList n' (q1 + 2) (ls ++ [l])) := HP4.out.trans (if_pos h2)
          have hq2 : q1 + 1 < s.size := by rw [← len_eq]; exact (List.getElem?_eq_some_iff.1 h2).1
          have HQ2 : Hid (q1 + 2 ≤ s.size ∧ s.size - (q1 + 2) < n' ∧ (ls ++ [l]).length ≤ q1 + 2 ∧ (ls ++ [l]).flatten.length ≤ 3 * (q1 + 2) ∧ s.size - (q1 + 2) < s.size - q) := by
            obtain ⟨f1, f2, f3, f4, f5⟩ := HF.out
            exact ⟨by omega, by omega, by omega, by omega, by omega⟩
          have H2 := hide h2
          clear h2 hq2 HP4 HF
          go_wp2_with fail
          refine CBr.out.mono ?_
          rintro e w6 ⟨t6, g6⟩
          unfold Barred at t6
          rw [if_pos H2.out] at t6
          obtain ⟨rfl, X6⟩ := t6
          have O6 := O5.out.kept g6 (.inr fun e => by have := (O5.out.low R e).1; have := HRw.out; omega)
          have E6 := E5.out.far (show R < R + 1 by omega) g6
          have G6 := grownBy_trans G5.out g6 (.inl rfl)
          have HX6 := hide X6
          have HO6 := hide O6
          have HE6 := hide E6
          have HG6 := hide G6
          clear CBr X6 O6 E6 G6 g6 O5 E5 X5 G5
          go_wp2_with fail
          go_roundg (s.size - (q1 + 2))
          case measure => exact HQ2.out.2.2.2.2
          case rel => exact ⟨q1 + 2, n', us ++ [⟨ad2, m2, cap2⟩], ls ++ [l], HQ2.out.1, rfl, HQ2.out.2.1, HX6.out, HO6.out, HE6.out, HG6.out, HQ2.out.2.2.1, HQ2.out.2.2.2.1, HLS2, HP5⟩
        · have HP5 : Hid (pm = (none, q1 + 1)) := HP4.out.trans (if_neg h2)
          have H2 := hide h2
          clear h2 HP4 HF
          go_wp2_with fail
          refine CBr.out.mono ?_
          rintro e w6 ⟨t6, g6⟩
          unfold Barred at t6
          rw [if_neg H2.out] at t6
          obtain ⟨rfl, X6⟩ := t6
          have HX6 := hide X6
          have HG6 := hide (grownBy_trans G5.out g6 (.inl rfl))
          clear CBr X6 g6 O5 E5 X5 G5
          go_wp2_with fail
          refine bodyPost_ret (v := .tuple #[.slice none 0 0, .bool false]) (by simp [results, Tryz.results17, go_sem]) rfl ⟨?_, HG6.out⟩
          rw [HP5.out]
          exact ⟨rfl, HX6.out⟩
end Go.Proofs.YthihnpjbdjmbhaaGreatDoor

namespace Go.Proofs.YthihnpjbdjmbhaaGreatDoor
set_option linter.unusedSimpArgs false
set_option linter.unusedVariables false
open Go.RowKit Go.Vr Go.Sort Go.Tx Go.Lib
attribute [local go_sem] setCellDrewN allocDrewN

/-- What Parse tells: spans of the call's own, or where the text is none. -/
def Parsed (B : Nat) (o : Option (List Sp.S) × Nat) (e : Ending) (w' : World) : Prop := match o.1 with
  | none => e = .returned (.tuple #[.slice none 0 0, .int .i64 o.2, .int .i64 6])
  | some l => ∃ v', e = .returned (.tuple #[v', .int .i64 0, .int .i64 0]) ∧ EOwn ES w' B v' l

set_option maxHeartbeats 8000000 in
set_option maxRecDepth 100000 in
theorem sparse_any (s : ByteArray) (w : World) (hs : s.size ≤ 2000) (hia : IA s) (he : Env w) :
    Calls Tryz.prog 7 #[.string s] w fun e w' => Parsed w.heap.size (Sp.parseS s.data.toList) e w' ∧ RowKit.Below w.heap.size w w' := by
  have hb : RowKit.Below w.heap.size w (w.alloc (.cells (rd s 0) 49)) := (by repeat (first | with_reducible assumption | with_reducible exact Below.refl _ _ | with_reducible refine Below.setCell ?_ (by first | exact Nat.le_refl _ | (simp; done) | (simp; omega)) _ | with_reducible refine bal ?_ _ | with_reducible refine Below.alloc ?_ (by first | exact Nat.le_refl _ | (simp; done) | (simp; omega)) _ | with_reducible refine Below.drew ?_))
  have CP := hide (parts_any w.heap.size s w (w.alloc (.cells (rd s 0) 49)) (Box.new w (rd s 0) _) hs hia hb (Nat.le_refl _) he)
  have HB := hide hb
  clear hia he hb
  generalize Sp.parseS s.data.toList = pm at *
  obtain ⟨o, q⟩ := pm
  cases o with
  | none =>
    go_enter Tryz.func7, Tryz.ntmps7
    go_wp2_with fail
    refine CP.out.mono ?_
    rintro e w2 ⟨t2, g2⟩
    obtain ⟨h2, X2⟩ : e = .returned (.tuple #[.slice none 0 0, .bool false]) ∧ Box w2 w.heap.size (rd s q) := t2
    subst h2
    have hB2 := below_of HB.out (Nat.le_refl _) g2
    obtain ⟨l2, c2, f2⟩ := X2
    clear CP g2
    go_wp2_with fail
    go_quiet (fail)
    go_wp2_with fail
    exact bodyPost_ret (v := .tuple #[.slice none 0 0, .int .i64 q, .int .i64 6]) (by simp [results, Tryz.results7, go_sem]) rfl ⟨rfl, step hB2 (belDrewN _ _)⟩
  | some l =>
    go_enter Tryz.func7, Tryz.ntmps7
    go_wp2_with fail
    refine CP.out.mono ?_
    rintro e w2 ⟨t2, g2⟩
    obtain ⟨v2, h2, o2, X2⟩ : ∃ v', e = .returned (.tuple #[v', .bool true]) ∧ EOwn ES w2 (w.heap.size + 1) v' l ∧ Box w2 w.heap.size (rd s q) := t2
    subst h2
    have hB2 := below_of HB.out (Nat.le_refl _) g2
    have o3 := o2.base (Nat.le_succ w.heap.size)
    clear CP g2 X2 o2
    go_wp2_with fail
    exact bodyPost_ret (v := .tuple #[v2, .int .i64 0, .int .i64 0]) (by simp [results, Tryz.results7, go_sem]) rfl ⟨⟨v2, rfl, o3⟩, hB2⟩
end Go.Proofs.YthihnpjbdjmbhaaGreatDoor

namespace Go.Proofs.YthihnpjbdjmbhaaGreatDoor
set_option linter.unusedSimpArgs false
set_option linter.unusedVariables false
open Go.RowKit Go.Vr Go.Sort Go.Tx Go.Lib

theorem ia_ascii (s : ByteArray) (hs : s.size ≤ 1000000) (ha : ∀ b ∈ s.data.toList, b.toNat < 128) : IA s := by
  intro p W hp
  have hy : (s.extract p s.size).data.toList = s.data.toList.drop p := by
    simp only [ByteArray.data_extract, Array.toList_extract, List.extract_eq_take_drop]
    rw [List.take_of_length_le (by rw [List.length_drop, len_eq]; exact Nat.le_refl _)]
  have hz : (s.extract p s.size).size ≤ 1000000 := by rw [← len_eq, hy, List.length_drop, len_eq]; omega
  have h := Any.strings_IndexAny_laid Tryz.lays153 (by kernel_rfl) (s.extract p s.size) ⟨#[32, 124]⟩ W (by omega) (by decide)
    (fun j b hj => by rw [hy] at hj; exact ha b (List.mem_of_mem_drop (List.mem_of_getElem? hj)))
    (fun j b hj => by
      have hm := List.mem_of_getElem? hj
      have : b = 32 ∨ b = 124 := by simpa using hm
      rcases this with rfl | rfl <;> decide)
  rw [hy] at h
  exact h
end Go.Proofs.YthihnpjbdjmbhaaGreatDoor

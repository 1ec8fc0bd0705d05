/-
  What the reader's closures do: an item of a map.
-/
import Derived.Test.YtnmmhihfnphjeaaGreatDoorG18

namespace Go.Proofs.YtnmmhihfnphjeaaGreatDoor.B
set_option linter.unusedSimpArgs false
set_option linter.unusedVariables false
open Go.RowKit Go.Vr Go.Sort Go.Tx Go.Lib
open Go.Br hiding Bs
open Go.Proofs.YtnmmhihfnphjeaaGreatDoor.W (IsCur Oth Kept)
attribute [local go_sem] setCellDrewN allocDrewN

/-- A map in the making: its variable in block N2, the pairs so far. -/
structure MSt (b c : Nat) (w : World) (N1 N2 d : Nat) (acc : List (Bs × Val d)) : Prop where
  b1 : Box w N1 #[.pointer (some ⟨b, 0, none⟩)]
  lo : b < N1 ∧ c < N1 ∧ N1 < N2
  ex : ∃ K L us, Box w N2 #[.int .i64 5, .int .i64 0, .string ⟨#[]⟩, K, L] ∧ EOwn ET w (N2 + 1) K (acc.map Prod.fst) ∧ EOwn EV w (N2 + 1) L us ∧ (∀ k, K.ownBlock = some k → L.ownBlock ≠ some k) ∧ All2 (VH w (fun k => N2 < k ∧ some k ≠ L.ownBlock ∧ some k ≠ K.ownBlock) d) (acc.map Prod.snd) us

theorem Gx.below {N : Nat} {ob : Option Nat} {w w' : World} (h : Below w.heap.size w w') : Gx N ob w w' := ⟨h.os, h.tape, h.output, h.size, fun k hk _ _ => h.block k hk⟩

theorem map_end {b c p p1 dp N1 N2 d n g cap4 : Nat} {s : ByteArray} {acc : List (Bs × Val d)} {k : Bs} {us : List SV} {v0 z : SV} {w w1 w2 W5 w6 : World} {K K' L : Value} {r : R (Bs × Val d)}
    (hlo : b < N1 ∧ c < N1 ∧ N1 < N2) (hp : p ≤ p1) (hn2 : N2 < w1.heap.size) (hf : Fr N2 b c w w1) (hr : r = match valM d (rst s p1) with | .inr e => .inr e | .inl (a, q) => .inl ((k, a), q))
    (hv : VPost b c s p1 dp d w1 (valM d (rst s p1)) (.returned (.tuple #[v0.val, .int .i64 n])) w2) (hbl : b < w1.heap.size ∧ c < w1.heap.size)
    (G25 : Gx N2 K.ownBlock w2 W5) (hKo : ∀ j, K.ownBlock = some j → N2 + 1 ≤ j ∧ j < w1.heap.size) (hK' : K'.ownBlock = K.ownBlock ∨ ∀ j, K'.ownBlock = some j → w2.heap.size ≤ j)
    (hb1 : Box W5 N1 #[.pointer (some ⟨b, 0, none⟩)]) (hB : Box W5 N2 #[.int .i64 5, .int .i64 0, .string ⟨#[]⟩, K', L]) (hKw : EOwn ET W5 (N2 + 1) K' (acc.map Prod.fst ++ [k]))
    (hd : ∀ j, K'.ownBlock = some j → L.ownBlock ≠ some j) (hl : ∀ j, L.ownBlock = some j → N2 + 1 ≤ j ∧ j < w1.heap.size)
    (hA : All2 (VH W5 (fun k => N2 < k ∧ some k ≠ L.ownBlock ∧ some k ≠ K'.ownBlock) d) (acc.map Prod.snd) us)
    (o4 : EOwn EV w6 (N2 + 1) (.slice (some ⟨g, 0, none⟩) (us.length + 1) cap4) (us ++ [z])) (g5 : W5.grownBy w6 L.ownBlock) (t4 : some g = L.ownBlock ∨ W5.heap.size ≤ g) (hg : N2 + 1 ≤ g)
    (W7 : World) (h5 : W7 = (put5 w6 g (us.length * 5) v0).setCell ⟨N2, 4, none⟩ (.slice (some ⟨g, 0, none⟩) (us.length + 1) cap4) ∨ W7 = put5 (w6.setCell ⟨N2, 4, none⟩ (.slice (some ⟨g, 0, none⟩) (us.length + 1) cap4)) g (us.length * 5) v0)
    (hKs : ∃ ka kn kc, K' = .slice ka kn kc) :
    CPost b c s p dp N2 w r (fun w' x => MSt b c w' N1 N2 d (acc ++ [x])) (fun w' => ∃ v : SV, Box w' N2 v.cells) (.returned (.int .i64 n)) W7 := by
  have hl2 : ∀ k, L.ownBlock = some k → N2 + 1 ≤ k := fun k e => (hl k e).1
  have hn5 : N2 < W5.heap.size := hB.lt
  obtain ⟨f2, hm⟩ := hv
  have s2 := f2.size
  have F5 : Fr N2 b c w W5 := (hf.trans (f2.mono (by omega))).trans (G25.fr (by omega) (by omega) (fun j e => by have := (hKo j e).1; omega))
  have kb : ∀ k, k < w1.heap.size → k ≠ N2 → k < N2 → W5.heap[k]? = w2.heap[k]? := fun k hk h1 h2 => G25.block k (by omega) h1 (fun e => by have := (hKo k e.symm).1; omega)
  cases hvr : valM d (rst s p1) with
  | inl y =>
    obtain ⟨x, q⟩ := y
    rw [hvr] at hm hr
    subst hr
    obtain ⟨⟨p', h1, h2, h3⟩, v, hv, hvh⟩ := hm
    obtain ⟨rfl, rfl⟩ := ret_v (m := 0) hv
    have hV5 : VH W5 (fun k => N2 < k ∧ some k ≠ L.ownBlock ∧ some k ≠ K'.ownBlock) d x v0 := hvh.keep (fun k hk hlt => G25.block k hlt (by omega) (fun e => by have := (hKo k e.symm).2; omega)) (fun k hk hlt => ⟨by omega, fun e => by have := (hl k e.symm).2; omega, fun e => by
      rcases hK' with h | h
      · rw [h] at e; have := (hKo k e.symm).2; omega
      · have := h k e.symm; omega⟩)
    obtain ⟨G, B7, O7, A7⟩ := add_item (x := x) hB (fun k h => ⟨h.1, h.2.1⟩) hA hV5 o4 g5 t4 hl2 hg W7 h5
    have hr3 : Rd W5 b c s p' dp := h3.of_blocks (kb b hbl.1 (by omega) (by omega)) (kb c hbl.2 (by omega) (by omega))
    have s5 := G25.size
    have gb : ∀ k, k < N2 → W7.heap[k]? = W5.heap[k]? := fun k hk => G.block k (by omega) (by omega) (fun e => by have := hl2 k e.symm; omega)
    have hgK : ∀ j, K'.ownBlock = some j → g ≠ j := fun j e e2 => by
      rcases t4 with h | h
      · exact hd j e (by rw [← e2]; exact h.symm)
      · have := (hKw.low j e).2; omega
    refine ⟨F5.trans (G.fr (by omega) (by omega) (fun k e => by have := hl2 k e; omega)), ⟨p', by omega, h2, hr3.of_blocks (gb b (by omega)) (gb c (by omega))⟩, rfl, hb1.of_block (gb N1 (by omega)), hlo, K', _, us ++ [v0], B7, ?_, O7, fun j e e2 => hgK j e (Option.some.inj e2), ?_⟩
    · rw [List.map_append]
      refine ⟨hKw.1, ?_⟩
      rcases hKw.2 with h' | ⟨g', cap, cur, e, h1, h2, h3⟩
      · exact .inl h'
      · refine .inr ⟨g', cap, cur, e, h1, ?_, h3⟩
        rw [G.block g' (Array.getElem?_eq_some_iff.1 h2).1 (by omega) (fun e2 => hd g' (by rw [e]; rfl) e2.symm)]
        exact h2
    · rw [List.map_append]
      exact A7.mono fun x v h => h.mono fun k hk => ⟨hk.1.1, fun e => hk.2 (Option.some.inj e), hk.1.2.2⟩
  | inr y =>
    obtain ⟨m, q⟩ := y
    rw [hvr] at hm hr
    subst hr
    obtain ⟨hm1, ⟨p', dq, h2, h3⟩, v, hv⟩ := hm
    obtain ⟨rfl, rfl⟩ := ret_v hv
    obtain ⟨G, B7, -⟩ := row_item (v0 := v0) hB o4 g5 t4 hl2 hg W7 h5
    have hr3 : Rd W5 b c s p' dq := h3.of_blocks (kb b hbl.1 (by omega) (by omega)) (kb c hbl.2 (by omega) (by omega))
    have s5 := G25.size
    have gb : ∀ k, k < N2 → W7.heap[k]? = W5.heap[k]? := fun k hk => G.block k (by omega) (by omega) (fun e => by have := hl2 k e.symm; omega)
    obtain ⟨ka, kn, kc, rfl⟩ := hKs
    exact ⟨F5.trans (G.fr (by omega) (by omega) (fun k e => by have := hl2 k e; omega)), hm1, ⟨p', dq, h2, hr3.of_blocks (gb b (by omega)) (gb c (by omega))⟩, rfl, ⟨5, 0, ⟨#[]⟩, ka, kn, kc, some ⟨g, 0, none⟩, us.length + 1, cap4⟩, B7⟩

theorem Gx.trans {N : Nat} {ob : Option Nat} {w w1 w2 : World} (h : Gx N ob w w1) (k : Gx N ob w1 w2) : Gx N ob w w2 :=
  ⟨k.os.trans h.os, k.tape.trans h.tape, k.output.trans h.output, Nat.le_trans h.size k.size, fun i hi h1 h2 => (k.block i (Nat.lt_of_lt_of_le hi h.size) h1 h2).trans (h.block i hi h1 h2)⟩
theorem EOwn.gx {α : Type} {E : El α} {w w' : World} {B N : Nat} {ob : Option Nat} {v : Value} {l : List α} (h : EOwn E w B v l) (hg : Gx N ob w w') (hN : ∀ k, v.ownBlock = some k → k ≠ N ∧ some k ≠ ob) : EOwn E w' B v l := by
  refine ⟨h.1, ?_⟩
  rcases h.2 with h' | ⟨g, cap, cur, e, h1, h2, h3⟩
  · exact .inl h'
  · obtain ⟨n1, n2⟩ := hN g (by rw [e]; rfl)
    exact .inr ⟨g, cap, cur, e, h1, by rw [hg.block g (Array.getElem?_eq_some_iff.1 h2).1 n1 n2]; exact h2, h3⟩
theorem EOwn.sl {α : Type} {E : El α} {w : World} {B : Nat} {v : Value} {l : List α} (h : EOwn E w B v l) : ∃ a n c, v = .slice a n c := by
  obtain ⟨a, c, e, _⟩ := h.any
  exact ⟨a, _, c, e⟩
/-- A key laid behind the others: the variable, the keys, and all that was there. -/
theorem key_in {N2 : Nat} {ks : List Bs} {k : Bs} {W3 w4 : World} {K K' L k0 n0 s0 : Value} (hB : Box W3 N2 #[k0, n0, s0, K, L]) (hKo : ∀ j, K.ownBlock = some j → N2 + 1 ≤ j) (o4 : EOwn ET w4 (N2 + 1) K' (ks ++ [k])) (gK : W3.grownBy w4 K.ownBlock) :
    Gx N2 K.ownBlock W3 (w4.setCell ⟨N2, 3, none⟩ K') ∧ Box (w4.setCell ⟨N2, 3, none⟩ K') N2 #[k0, n0, s0, K', L] ∧ EOwn ET (w4.setCell ⟨N2, 3, none⟩ K') (N2 + 1) K' (ks ++ [k]) := by
  have hB4 := hB.kept gK (fun e => by have := hKo N2 e; omega)
  have G4 : Gx N2 K.ownBlock W3 w4 := ⟨gK.os, gK.tape, gK.output, gK.size, fun k hk _ h2 => gK.block k hk h2⟩
  exact ⟨G4.grown (grownBy_setCell _ _ _ _) (fun j e => .inl (Option.some.inj e).symm), hB4.set 3 _ (by simp), o4.setOther (fun j e => by have := (o4.low j e).1; omega)⟩

set_option maxHeartbeats 8000000 in
set_option maxRecDepth 100000 in
theorem pairs1_rd (d : Nat) (HV : ValueAt d) (b c : Nat) (s : ByteArray) (p dp N1 N2 : Nat) (acc : List (Bs × Val d)) (w : World) (h : Rd w b c s p dp) (hs : s.size ≤ 80000) (hd : dp + d = 8) (hl : MSt b c w N1 N2 d acc) (hal : acc.length < 90000) :
    Calls Tryz.prog 91 #[.pointer (some ⟨N1, 0, none⟩), .pointer (some ⟨N2, 0, none⟩)] w (CPost b c s p dp N2 w (pairM (valM d) acc (rst s p)) (fun w' x => MSt b c w' N1 N2 d (acc ++ [x])) (fun w' => ∃ v : SV, Box w' N2 v.cells)) := by
  obtain ⟨hb1, ⟨l1, l2, l3⟩, K, L, us, hb2, hk, ho, hkl, ha⟩ := hl
  have hc1 := hb1.c
  have HR := hide h
  have HB1 := hide hb1
  have HB2 := hide hb2
  have HO := hide ho
  have HK := hide hk
  have HA := hide ha
  have HKL := hide hkl
  have hN1 := hb1.lt
  have hN2 := hb2.lt
  have hbc := h.lt
  obtain ⟨ka, kc, hKe, hkc, hkm, hkr⟩ := hk.any
  obtain ⟨m, hmm⟩ : ∃ m, Hid (m = (acc.map Prod.fst).length) := ⟨_, rfl⟩
  have hkn := hide (show m ≤ 90000 by rw [hmm.out]; simp; omega)
  rw [← hmm.out] at hKe hkc hkr
  have hKk : ∀ k, K.ownBlock = some k → N2 + 1 ≤ k ∧ k < w.heap.size := fun k e => HK.out.low k e
  have HKk := hide hKk
  have hLk : ∀ k, L.ownBlock = some k → N2 + 1 ≤ k ∧ k < w.heap.size := fun k e => HO.out.low k e
  have HLk := hide hLk
  have hqr : QRow ET w (fun k => N2 < k) ka m kc (acc.map Prod.fst) := ⟨hkr, hkc, hkm, fun x e _ => by have := hKk x.block (by rw [hKe, e]; rfl); omega⟩
  have CK := hide (key_rd (α := Val d) b c s p dp ka m kc acc (fun k => N2 < k) w h (by omega) hqr (fun k hk => ⟨by omega, by omega⟩) (by have := hkn.out; omega))
  have n2 := hb2.c
  rw [hKe] at n2
  have HKe := hide hKe
  clear hb1 hb2 ho ha hk hkl h hKk hLk hqr hkr hkc hkm hKe
  go_enter Tryz.func91, Tryz.ntmps91
  go_wp2_with fail
  refine CK.out.mono ?_
  rintro e w1 ⟨F1, hm⟩
  have HB11 := hide (HB1.out.of_block (F1.block N1 hN1 (by omega) (by omega)))
  have HB21 := hide (HB2.out.of_block (F1.block N2 hN2 (by omega) (by omega)))
  have HK1 := hide (HK.out.fr F1 (Nat.le_refl _) (by omega) (by omega))
  have HO1 := hide (HO.out.fr F1 (Nat.le_refl _) (by omega) (by omega))
  have HA1 := hide (HA.out.mono (fun x v hx => hx.fr (b := b) (c := c) (fun k hk => ⟨by omega, by omega⟩) F1))
  have hL := hide (show us.length = acc.length by have := HA1.out.len; simpa using this.symm)
  have hs1 := F1.size
  have HF1 := hide F1
  cases hkm : keyM acc (rst s p) with
  | inr y =>
    obtain ⟨n, q⟩ := y
    rw [hkm] at hm
    obtain ⟨hn, hbad, rfl⟩ := hm
    have HQ : Hid (pairM (valM d) acc (rst s p) = .inr (n, q)) := by show _ = _; unfold pairM; rw [hkm]
    have HBAD := hide hbad
    have dn : ((n : Int) == 0) = false := by simp; omega
    obtain ⟨la, lc, hLe, -, -, -⟩ := HO1.out.any
    have HLe := hide hLe
    have HN := hide hn
    clear hkm hn hbad F1 n2 hc1 hLe
    go_wp2_with fail
    go_ret
    refine ⟨HF1.out.mono (by omega), ?_⟩
    rw [HQ.out]
    exact ⟨by have := HN.out; omega, HBAD.out, rfl, ⟨5, 0, ⟨#[]⟩, ka, m, kc, la, us.length, lc⟩, by show Box w1 N2 #[.int .i64 5, .int .i64 0, .string ⟨#[]⟩, .slice ka m kc, .slice la us.length lc]; rw [← HKe.out, ← HLe.out]; exact HB21.out⟩
  | inl y =>
    obtain ⟨k, q⟩ := y
    rw [hkm] at hm
    obtain ⟨⟨p1, hp1, hrq, hr1⟩, rfl⟩ := hm
    have HQ : Hid (pairM (valM d) acc (rst s p) = match valM d (rst s p1) with | .inr e => .inr e | .inl (a, q) => .inl ((k, a), q)) := by
      show _ = _
      unfold pairM
      rw [hkm, hrq]
      simp only
      cases valM d q <;> rfl
    have CV := hide (HV b c s p1 dp w1 hr1 hs hd)
    have hbc1 := hr1.lt
    have hc1 := HB11.out.c
    clear hkm F1 n2 hr1 hrq CK
    go_wp2_with fail
    refine CV.out.mono ?_
    rintro e w2 hm
    obtain ⟨v0, n, rfl⟩ := hm.form
    have HM := hide hm
    have F2 := hm.1
    have hs2 := F2.size
    have HB12 := hide (HB11.out.of_block (F2.block N1 (by omega) (by omega) (by omega)))
    have HB22 := hide (HB21.out.of_block (F2.block N2 (by omega) (by omega) (by omega)))
    have HK2 := hide (HK1.out.fr F2 (Nat.le_refl _) (by omega) (by omega))
    have HO2 := hide (HO1.out.fr F2 (Nat.le_refl _) (by omega) (by omega))
    have HA2 := hide (HA1.out.mono (fun x v hx => hx.fr (b := b) (c := c) (fun k hk => ⟨by omega, by omega⟩) F2))
    have hB3 : Below w2.heap.size w2 (w2.alloc (.cells v0.cells 28)) := (by repeat (first | with_reducible assumption | with_reducible exact Below.refl _ _ | with_reducible refine Below.setCell ?_ (by first | exact Nat.le_refl _ | (simp; done) | (simp; omega)) _ | with_reducible refine bal ?_ _ | with_reducible refine Below.alloc ?_ (by first | exact Nat.le_refl _ | (simp; done) | (simp; omega)) _ | with_reducible refine Below.drew ?_))
    have X3 := hide (Box.new w2 v0.cells 28)
    have B13 := hide (HB12.out.later hB3)
    have B23 := hide (HB22.out.later hB3)
    have K3 := hide (HK2.out.later hB3)
    have O3 := hide (HO2.out.later hB3)
    have A3 := hide (HA2.out.mono (fun x v hx => VH.below hx hB3))
    have hsz : N2 + 1 ≤ (w2.alloc (.cells v0.cells 28)).heap.size := B23.out.lt
    have H23 := hide hB3
    have n2 := B23.out.c
    have n2f := B23.out.f
    have n2a := fun o => (B23.out.alloc o).c
    obtain ⟨la, lc, hLe, hlc, hlm, hrow⟩ := O3.out.any
    rw [HKe.out, hLe] at n2 n2a
    clear hm hc1 hB3 CV hlc hlm hrow HB12 HB22 HK2 HO2 HA2 HB11 HB21 HK1 HO1 HA1 HB1 HB2 HO HK HA hbc
    have HKW : Hid (EOwn ET (w2.alloc (.cells v0.cells 28)) (N2 + 1) (Value.slice ka m kc) (acc.map Prod.fst)) := by show _; rw [← HKe.out]; exact K3.out
    go_wp2_with (refine wpList_eapp ET rfl _ _ rfl (N2 + 1) _ (acc.map Prod.fst) (some _) 1 1 [k] rfl rfl (HKW.out.later (by repeat (first | with_reducible assumption | with_reducible exact Below.refl _ _ | with_reducible refine Below.setCell ?_ (by first | exact Nat.le_refl _ | (simp; done) | (simp; omega)) _ | with_reducible refine bal ?_ _ | with_reducible refine Below.alloc ?_ (by first | exact Nat.le_refl _ | (simp; done) | (simp; omega)) _ | with_reducible refine Below.drew ?_))) (ERow.newAt ET k (at_new _ _ _ (by simp))) (by have := hkn.out; have := hmm.out; omega) (by have h9 := hsz; simp at h9 ⊢; omega) ?_; intro K' w4 o4 g4 t4; obtain ⟨ka2, kn2, kc2, hK2⟩ := o4.sl; subst hK2; have gK : (w2.alloc (.cells v0.cells 28)).grownBy w4 (Value.slice ka m kc).ownBlock := (grownBy_trans (grownBy_below _ (by repeat (first | with_reducible assumption | with_reducible exact Below.refl _ _ | with_reducible refine Below.setCell ?_ (by first | exact Nat.le_refl _ | (simp; done) | (simp; omega)) _ | with_reducible refine bal ?_ _ | with_reducible refine Below.alloc ?_ (by first | exact Nat.le_refl _ | (simp; done) | (simp; omega)) _ | with_reducible refine Below.drew ?_))) g4 (.inl rfl)); have KN4 := B23.out.kept gK (fun e => by have := HKk.out N2 (by rw [HKe.out]; exact e); omega); have n4 := KN4.c; have n4f := KN4.f)
    generalize w2.alloc (.cells v0.cells 28) = W3 at *
    obtain ⟨G35, B5, K5⟩ := key_in (ks := acc.map Prod.fst) (by have h := B23.out; rw [HKe.out] at h; exact h) (fun j e => (HKk.out j (by rw [HKe.out]; exact e)).1) o4 gK
    have hKK : (Value.slice ka2 kn2 kc2).ownBlock = (Value.slice ka m kc).ownBlock ∨ ∀ j, (Value.slice ka2 kn2 kc2).ownBlock = some j → W3.heap.size ≤ j := by
      rcases t4 with h | h
      · exact .inl h
      · refine .inr fun j e => ?_
        rw [h] at e
        have e2 := Option.some.inj e
        simp at e2
        omega
    have hKL2 : ∀ j, (Value.slice ka2 kn2 kc2).ownBlock = some j → L.ownBlock ≠ some j := fun j e e2 => by
      rcases hKK with h | h
      · exact HKL.out j (by rw [HKe.out, ← h]; exact e) e2
      · have := h j e; have := (HLk.out j e2).2; have := H23.out.size; omega
    have HO5 := hide (O3.out.gx G35 (fun j e => ⟨by have := (HLk.out j e).1; omega, fun e2 => HKL.out j (by rw [HKe.out]; exact e2.symm) e⟩))
    have A5 : Hid (All2 (VH (w4.setCell ⟨N2, 3, none⟩ (Value.slice ka2 kn2 kc2)) (fun k => N2 < k ∧ some k ≠ L.ownBlock ∧ some k ≠ (Value.slice ka2 kn2 kc2).ownBlock) d) (acc.map Prod.snd) us) := by
      refine A3.out.mono fun x v h => VH.keep (fun j hj hlt => G35.block j hlt (by omega) (by rw [← HKe.out]; exact hj.2.2)) (fun j hj hlt => ⟨hj.1, hj.2.1, fun e => ?_⟩) h
      rcases hKK with h2 | h2
      · exact hj.2.2 (by rw [HKe.out, ← h2]; exact e)
      · have := h2 j e.symm; omega
    have B15 := hide (B13.out.of_block (G35.block N1 (by omega) (by omega) (fun e => by have := (HKk.out N1 (by rw [HKe.out]; exact e.symm)).1; omega)))
    have HB25 := hide B5
    have HK5 := hide K5
    have X5 := X3.out.of_block (G35.block w2.heap.size X3.out.lt (by omega) (fun e => by have := (HKk.out w2.heap.size (by rw [HKe.out]; exact e.symm)).2; omega))
    have HX5 := hide X5
    have HKK := hide hKK
    have HKL2 := hide hKL2
    have HG35 := hide G35
    have hsz5 : N2 + 1 ≤ (w4.setCell ⟨N2, 3, none⟩ (Value.slice ka2 kn2 kc2)).heap.size := B5.lt
    have HKS : Hid (∃ ka kn kc, (Value.slice ka2 kn2 kc2) = .slice ka kn kc) := ⟨_, _, _, rfl⟩
    clear B5 K5 X5 hKK hKL2 G35 hsz n2 n2f n2a n4 n4f KN4 gK o4 g4 t4
    generalize w4.setCell ⟨N2, 3, none⟩ (Value.slice ka2 kn2 kc2) = W5 at *
    have hsz := hsz5
    have n2 := HB25.out.c
    have n2f := HB25.out.f
    have n2a := fun o => (HB25.out.alloc o).c
    have x3 := HX5.out.c
    have x3a := fun o => (HX5.out.alloc o).c
    rw [hLe] at n2 n2a
    subst hLe
    go_region_law
    (first
      | (refine step_eapp EV rfl _ _ rfl (N2 + 1) _ us (some _) 1 1 [SV.zero] rfl rfl (HO5.out.later (by repeat (first | with_reducible assumption | with_reducible exact Below.refl _ _ | with_reducible refine Below.setCell ?_ (by first | exact Nat.le_refl _ | (simp; done) | (simp; omega)) _ | with_reducible refine bal ?_ _ | with_reducible refine Below.alloc ?_ (by first | exact Nat.le_refl _ | (simp; done) | (simp; omega)) _ | with_reducible refine Below.drew ?_))) (ERow.newAt EV SV.zero (by first | exact heap_alloc_new _ _ | simp)) (by have := hL.out; simp; omega) (by first | exact hsz | (simp; omega) | simp) ?_; intro v4 w4 o4 g4 t4; obtain ⟨g, cap4, hv4, hBg, hglt, z0, z1, z2, z3, z4, zf⟩ := own_last o4; subst hv4; have g5 : W5.grownBy w4 (Value.slice la us.length lc).ownBlock := (grownBy_trans (grownBy_below _ (by repeat (first | with_reducible assumption | with_reducible exact Below.refl _ _ | with_reducible refine Below.setCell ?_ (by first | exact Nat.le_refl _ | (simp; done) | (simp; omega)) _ | with_reducible refine bal ?_ _ | with_reducible refine Below.alloc ?_ (by first | exact Nat.le_refl _ | (simp; done) | (simp; omega)) _ | with_reducible refine Below.drew ?_))) g4 (.inl rfl)); have KN4 := HB25.out.kept g5 (fun e => by have := HLk.out N2 e; omega); have n4 := KN4.c; have n4f := KN4.f; have hgN : ¬ g = N2 := (by omega); have hNg : ¬ N2 = g := (by omega); have i1 : (0 : Int) ≤ (us.length : Int) := (by omega); have i2 : (us.length : Int) < ((us.length + 1 : Nat) : Int) := (by omega); have i3 : (us.length : Int) < (us.length : Int) + 1 := (by omega); have T4 : Hid (some g = (Value.slice la us.length lc).ownBlock ∨ W5.heap.size ≤ g) := (by rcases t4 with h | h; exact .inl h; exact .inr (by have e : g = _ := Option.some.inj h; rw [e]; simp)); have HO4 := hide o4; have HG5 := hide g5; clear o4 g5 t4 g4 KN4))
    all_goals
      go_wp2_with fail
      go_ret
      exact map_end (K := .slice ka m kc) (K' := (Value.slice ka2 kn2 kc2)) (w1 := w1) (w2 := w2) ⟨l1, l2, l3⟩ hp1 (by omega) (HF1.out.mono (by omega)) HQ.out HM.out hbc1 ((Gx.below H23.out).trans HG35.out) (fun j e => by have := HKk.out j (by rw [HKe.out]; exact e); omega) (HKK.out.imp id (fun h j e => by have := h j e; have := H23.out.size; omega)) B15.out HB25.out HK5.out HKL2.out (fun j e => by have := HLk.out j e; omega) A5.out HO4.out HG5.out T4.out hBg _ (by first | exact .inl (by with_reducible rfl) | exact .inr (by with_reducible rfl)) HKS.out

end Go.Proofs.YtnmmhihfnphjeaaGreatDoor.B

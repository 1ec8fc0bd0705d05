/-
  Contracts of whole, Parse.
  Contract of Parse.
  strings.Builder, by the shelf's contracts in the form that keeps what lies above the builder.
-/
import Derived.Test.YtnmmhihfnphjeaaGreatDoorG21
import Derived.Test.YtnmmhihfnphjeaaGreatDoorProg
import Derived.Shelf.Strings.BuilderK

namespace Go.Proofs.YtnmmhihfnphjeaaGreatDoor.B
set_option linter.unusedSimpArgs false
set_option linter.unusedVariables false
open Go.RowKit Go.Vr Go.Sort Go.Tx Go.Lib
open Go.Br hiding Bs
open Go.Proofs.YtnmmhihfnphjeaaGreatDoor.W (IsCur Oth Kept plc new_any new_cur cplace_any place_any)
attribute [local go_sem] setCellDrewN allocDrewN

def wholeM (d : Nat) (r : Bs) : R (Val d) := match valM d r with
  | .inr e => .inr e
  | .inl (v, []) => .inl (v, [])
  | .inl (_, c :: q) => .inr (1, c :: q)
def parseD (d : Nat) (s : Bs) : Val d ⊕ (Nat × Nat) := if 8000 < s.length then .inr (2, 0) else match wholeM d s with | .inr (e, q) => .inr (e, s.length - q.length) | .inl (v, _) => .inl v
theorem parse_whole (s : Bs) : parseM s = parseD 8 s := by
  unfold parseM parseD wholeM
  by_cases h : 8000 < s.length
  · rw [if_pos h, if_pos h]
  · rw [if_neg h, if_neg h]
    cases valM 8 s with
    | inr y => obtain ⟨e, q⟩ := y; rfl
    | inl y =>
      obtain ⟨v, q⟩ := y
      cases q with
      | nil => rfl
      | cons c t => rfl

set_option maxHeartbeats 4000000 in
set_option maxRecDepth 100000 in
theorem whole_rd (d b c : Nat) (s : ByteArray) (p dp : Nat) (w : World) (h : Rd w b c s p dp) (hs : s.size ≤ 80000) (hd : dp + d = 8) :
    Calls Tryz.prog 26 #[.pointer (some ⟨b, 0, none⟩)] w (VPost b c s p dp d w (wholeM d (rst s p))) := by
  obtain ⟨hbl, hcl⟩ := h.lt
  have H0 := hide (show Below w.heap.size w (w.alloc (.cells #[.int .i64 0, .int .i64 0, .string ⟨#[]⟩, .slice none 0 0, .slice none 0 0] 28)) from (by repeat (first | with_reducible assumption | with_reducible exact Below.refl _ _ | with_reducible refine Below.setCell ?_ (by first | exact Nat.le_refl _ | (simp; done) | (simp; omega)) _ | with_reducible refine bal ?_ _ | with_reducible refine Below.alloc ?_ (by first | exact Nat.le_refl _ | (simp; done) | (simp; omega)) _ | with_reducible refine Below.drew ?_)))
  have hX0 := hide (Box.new w #[.int .i64 0, .int .i64 0, .string ⟨#[]⟩, .slice none 0 0, .slice none 0 0] 28)
  have CV := hide (value_all d b c s p dp _ (h.below H0.out) hs hd)
  have hsz : w.heap.size < (w.alloc (.cells #[.int .i64 0, .int .i64 0, .string ⟨#[]⟩, .slice none 0 0, .slice none 0 0] 28)).heap.size := hX0.out.lt
  clear h
  go_enter Tryz.func26, Tryz.ntmps26
  go_wp2_with fail
  generalize w.alloc (.cells #[.int .i64 0, .int .i64 0, .string ⟨#[]⟩, .slice none 0 0, .slice none 0 0] 28) = W0 at *
  refine CV.out.mono ?_
  rintro e w2 hm
  obtain ⟨v, m, rfl⟩ := hm.form
  have X2 := hide (hX0.out.of_block (hm.1.block w.heap.size (by omega) (by omega) (by omega)))
  have hs2 := hm.1.size
  have hX3 := Box.new w2 v.cells 28
  have hB3 : Below w2.heap.size w2 (w2.alloc (.cells v.cells 28)) := (by repeat (first | with_reducible assumption | with_reducible exact Below.refl _ _ | with_reducible refine Below.setCell ?_ (by first | exact Nat.le_refl _ | (simp; done) | (simp; omega)) _ | with_reducible refine bal ?_ _ | with_reducible refine Below.alloc ?_ (by first | exact Nat.le_refl _ | (simp; done) | (simp; omega)) _ | with_reducible refine Below.drew ?_))
  have HX3 := hide hX3
  have X23 := hide (X2.out.later hB3)
  have HB3 := hide hB3
  have xc := X23.out.c
  have xf := X23.out.f
  have x3 := hX3.c
  cases hbr : valM d (rst s p) with
  | inr y =>
    obtain ⟨m', q⟩ := y
    rw [hbr] at hm
    obtain ⟨hm1, ⟨p', dq, h2, h3⟩, u, hu⟩ := hm.2
    obtain ⟨rfl, rfl⟩ := ret_v hu
    have dm : ((m : Int) == 0) = false := by simp; omega
    have HM3 : Hid (VPost b c s p dp d W0 (wholeM d (rst s p)) (.returned (.tuple #[v.val, .int .i64 m])) (w2.alloc (.cells v.cells 28))) := by
      show VPost _ _ _ _ _ _ _ _ _ _
      unfold VPost wholeM
      rw [hbr]
      exact ⟨hm.1.trans (Fr.ofBelow (hB3.mono (by omega))), hm1, ⟨p', dq, h2, h3.below hB3⟩, v, rfl⟩
    clear hm hm1 h2 h3 hu hX3 hB3 hbr CV
    go_wp2_with fail
    obtain ⟨xs, xb⟩ := box_set5 X23.out (.int .i64 v.k) (.int .i64 v.n) (.string v.s) (.slice v.ka v.kn v.kc) (.slice v.la v.ln v.lc)
    have xd := xs.c
    exact bodyPost_ret (v := .tuple #[.agg #[.int .i64 v.k, .int .i64 v.n, .string v.s, .slice v.ka v.kn v.kc, .slice v.la v.ln v.lc], .int .i64 m]) (by simp [results, Tryz.results26, go_sem, *]) rfl (vp_out H0.out hsz ⟨hbl, hcl⟩ HM3.out)
  | inl y =>
    obtain ⟨x, q⟩ := y
    rw [hbr] at hm
    obtain ⟨⟨p', h1, h2, h3⟩, u, hu, hv⟩ := hm.2
    obtain ⟨rfl, rfl⟩ := ret_v (m := 0) hu
    have R3 := h3.below hB3
    have hc := R3.box.c
    have CP := hide (peek_rd b c s p' dp _ R3 (by omega))
    have HV3 := hide (hv.below hB3)
    have HF3 : Hid (Fr W0.heap.size b c W0 (w2.alloc (.cells v.cells 28))) := hm.1.trans (Fr.ofBelow (hB3.mono (by omega)))
    have HR3 := hide R3
    have HP := hide (And.intro h1 h2)
    have hbr2 := hide hbr
    clear hm h1 h2 h3 hu hv hX3 hB3 R3 CV hbr
    go_wp2_with fail
    refine CP.out.mono ?_
    rintro e w4 ⟨⟨t, rfl, ht⟩, n, rfl⟩
    have HX4 := hide (HX3.out.drewN n)
    have X24 := hide (X23.out.drewN n)
    have HF4 := hide (HF3.out.trans (Fr.ofBelow ((belDrewN _ n).mono (by have := HF3.out.size; omega))))
    have HR4 := hide (HR3.out.drewN n)
    have HV4 := hide (HV3.out.below (belDrewN _ n))
    have HT := hide ht
    clear ht CP hc x3 xc xf
    generalize (w2.alloc (.cells v.cells 28)).drewN n = W4 at *
    have xc := X24.out.c
    have xf := X24.out.f
    have x4 := HX4.out.c
    cases t with
    | true =>
      have HM4 : Hid (VPost b c s p dp d W0 (wholeM d (rst s p)) (.returned (.tuple #[v.val, .int .i64 ((1 : Nat) : Int)])) W4) := by
        show VPost _ _ _ _ _ _ _ _ _ _
        have hq : wholeM d (rst s p) = .inr (1, q) := by
          unfold wholeM
          rw [hbr2.out]
          have := HT.out.1 rfl
          rw [HP.out.2] at this
          cases q with
          | nil => exact absurd rfl this
          | cons a b => rfl
        unfold VPost
        rw [hq]
        exact ⟨HF4.out, Nat.le_refl _, ⟨p', dp, HP.out.2, HR4.out⟩, v, rfl⟩
      go_wp2_with fail
      obtain ⟨xs, xb⟩ := box_set5 X24.out (.int .i64 v.k) (.int .i64 v.n) (.string v.s) (.slice v.ka v.kn v.kc) (.slice v.la v.ln v.lc)
      have xd := xs.c
      exact bodyPost_ret (v := .tuple #[.agg #[.int .i64 v.k, .int .i64 v.n, .string v.s, .slice v.ka v.kn v.kc, .slice v.la v.ln v.lc], .int .i64 1]) (by simp [results, Tryz.results26, go_sem, *]) rfl (vp_out (n := 1) H0.out hsz ⟨hbl, hcl⟩ HM4.out)
    | false =>
      have HM4 : Hid (VPost b c s p dp d W0 (wholeM d (rst s p)) (.returned (.tuple #[v.val, .int .i64 ((0 : Nat) : Int)])) W4) := by
        show VPost _ _ _ _ _ _ _ _ _ _
        have hq0 : q = [] := by
          rw [← HP.out.2]
          by_cases h : rst s p' = []
          · exact h
          · have := HT.out.2 h; cases this
        have hq : wholeM d (rst s p) = .inl (x, q) := by
          unfold wholeM
          rw [hbr2.out, hq0]
        unfold VPost
        rw [hq]
        exact ⟨HF4.out, ⟨p', HP.out.1, HP.out.2, HR4.out⟩, v, rfl, HV4.out⟩
      go_wp2_with fail
      obtain ⟨xs, xb⟩ := box_set5 X24.out (.int .i64 v.k) (.int .i64 v.n) (.string v.s) (.slice v.ka v.kn v.kc) (.slice v.la v.ln v.lc)
      have xd := xs.c
      exact bodyPost_ret (v := .tuple #[.agg #[.int .i64 v.k, .int .i64 v.n, .string v.s, .slice v.ka v.kn v.kc, .slice v.la v.ln v.lc], .int .i64 0]) (by simp [results, Tryz.results26, go_sem, *]) rfl (vp_out (n := 0) H0.out hsz ⟨hbl, hcl⟩ HM4.out)

end Go.Proofs.YtnmmhihfnphjeaaGreatDoor.B

namespace Go.Proofs.YtnmmhihfnphjeaaGreatDoor.B
set_option linter.unusedSimpArgs false
set_option linter.unusedVariables false
open Go.RowKit Go.Vr Go.Sort Go.Tx Go.Lib
open Go.Br hiding Bs
open Go.Proofs.YtnmmhihfnphjeaaGreatDoor.W (IsCur Oth Kept plc new_any new_cur cplace_any place_any)
attribute [local go_sem] setCellDrewN allocDrewN

theorem box_res {w : World} {N M : Nat} {y0 y1 y2 y3 y4 z0 z1 : Value} (h : Box w N #[y0, y1, y2, y3, y4]) (k : Box w M #[z0, z1]) (hne : N < M) (x0 x1 x2 x3 x4 u0 u1 : Value) :
    Box (((((((w.setCell ⟨N, 0, none⟩ x0).setCell ⟨N, 1, none⟩ x1).setCell ⟨N, 2, none⟩ x2).setCell ⟨N, 3, none⟩ x3).setCell ⟨N, 4, none⟩ x4).setCell ⟨M, 0, none⟩ u0).setCell ⟨M, 1, none⟩ u1) N #[x0, x1, x2, x3, x4] ∧
    Box (((((((w.setCell ⟨N, 0, none⟩ x0).setCell ⟨N, 1, none⟩ x1).setCell ⟨N, 2, none⟩ x2).setCell ⟨N, 3, none⟩ x3).setCell ⟨N, 4, none⟩ x4).setCell ⟨M, 0, none⟩ u0).setCell ⟨M, 1, none⟩ u1) M #[u0, u1] ∧
    ∀ B, B ≤ N → Below B w (((((((w.setCell ⟨N, 0, none⟩ x0).setCell ⟨N, 1, none⟩ x1).setCell ⟨N, 2, none⟩ x2).setCell ⟨N, 3, none⟩ x3).setCell ⟨N, 4, none⟩ x4).setCell ⟨M, 0, none⟩ u0).setCell ⟨M, 1, none⟩ u1) := by
  obtain ⟨h1, h2⟩ := box_set5 h x0 x1 x2 x3 x4
  have k1 : Box (((((w.setCell ⟨N, 0, none⟩ x0).setCell ⟨N, 1, none⟩ x1).setCell ⟨N, 2, none⟩ x2).setCell ⟨N, 3, none⟩ x3).setCell ⟨N, 4, none⟩ x4) M #[z0, z1] := k.of_block (box_set5_block _ _ _ _ _ _ _ (by omega))
  generalize ((((w.setCell ⟨N, 0, none⟩ x0).setCell ⟨N, 1, none⟩ x1).setCell ⟨N, 2, none⟩ x2).setCell ⟨N, 3, none⟩ x3).setCell ⟨N, 4, none⟩ x4 = w1 at *
  refine ⟨(h1.of_block (Below.heap_setCell _ _ _ _ (by show N ≠ M; omega))).of_block (Below.heap_setCell _ _ _ _ (by show N ≠ M; omega)), (k1.set 0 u0 (by simp)).set 1 u1 (by simp), fun B hB => ?_⟩
  exact ((h2 B hB).setCell (Nat.le_trans hB (Nat.le_of_lt hne)) _).setCell (Nat.le_trans hB (Nat.le_of_lt hne)) _

/-- How Parse ends. -/
def PPost (s : ByteArray) (d : Nat) (w : World) (r : Val d ⊕ (Nat × Nat)) (e : Ending) (w' : World) : Prop := Below w.heap.size w w' ∧ match r with
  | .inl x => ∃ v : SV, e = .returned (.tuple #[v.val, .agg #[.int .i64 0, .int .i64 0], .int .i64 0]) ∧ VH w' (fun k => w.heap.size ≤ k) d x v
  | .inr (n, k) => 1 ≤ n ∧ e = .returned (.tuple #[SV.zero.val, plc (s.data.toList.take k), .int .i64 n])

set_option maxHeartbeats 4000000 in
set_option maxRecDepth 100000 in
theorem parse_long (d : Nat) (s : ByteArray) (w : World) (hs : s.size ≤ 2000000000000) (hl : 8000 < s.size) :
    Calls Tryz.prog 11 #[.string s] w (PPost s d w (parseD d s.data.toList)) := by
  have hg : (decide ((s.size : Int) > 8000)) = true := by simp; omega
  have HQ : Hid (parseD d s.data.toList = .inr (2, 0)) := by
    show _ = _
    unfold parseD
    rw [if_pos (by rw [len_eq]; exact hl)]
  have H0 := hide (show Below w.heap.size w ((w.alloc (.cells #[.int .i64 0, .int .i64 0, .string ⟨#[]⟩, .slice none 0 0, .slice none 0 0] 28)).alloc (.cells #[.int .i64 0, .int .i64 0] 32)) from (by repeat (first | with_reducible assumption | with_reducible exact Below.refl _ _ | with_reducible refine Below.setCell ?_ (by first | exact Nat.le_refl _ | (simp; done) | (simp; omega)) _ | with_reducible refine bal ?_ _ | with_reducible refine Below.alloc ?_ (by first | exact Nat.le_refl _ | (simp; done) | (simp; omega)) _ | with_reducible refine Below.drew ?_)))
  have hX0 := hide ((Box.new w #[.int .i64 0, .int .i64 0, .string ⟨#[]⟩, .slice none 0 0, .slice none 0 0] 28).alloc (.cells #[.int .i64 0, .int .i64 0] 32))
  have hP0 := hide (Box.new (w.alloc (.cells #[.int .i64 0, .int .i64 0, .string ⟨#[]⟩, .slice none 0 0, .slice none 0 0] 28)) #[.int .i64 0, .int .i64 0] 32)
  have CP := hide (place_any s 0 ((w.alloc (.cells #[.int .i64 0, .int .i64 0, .string ⟨#[]⟩, .slice none 0 0, .slice none 0 0] 28)).alloc (.cells #[.int .i64 0, .int .i64 0] 32)) (by omega))
  have hN : (w.alloc (.cells #[.int .i64 0, .int .i64 0, .string ⟨#[]⟩, .slice none 0 0, .slice none 0 0] 28)).heap.size = w.heap.size + 1 := by simp
  rw [hN] at hP0
  clear hN hl
  go_enter Tryz.func11, Tryz.ntmps11
  go_wp2_with fail
  refine CP.out.mono ?_
  rintro e w2 ⟨rfl, hb⟩
  have X2 := hX0.out.later hb
  have P2 := hP0.out.later hb
  have HB := hide (H0.out.trans (hb.mono H0.out.size))
  obtain ⟨i, j, hij⟩ : ∃ i j : Int, plc (s.data.toList.take (0 : Int).toNat) = .agg #[.int .i64 i, .int .i64 j] := ⟨_, _, rfl⟩
  rw [hij]
  have HI := hide hij
  have xc := X2.c
  have xf := X2.f
  have pc := P2.c
  have pf := P2.f
  have HX := hide X2
  have HP := hide P2
  clear hb X2 P2 hij CP
  generalize hw0 : (w.alloc (.cells #[.int .i64 0, .int .i64 0, .string ⟨#[]⟩, .slice none 0 0, .slice none 0 0] 28)).alloc (.cells #[.int .i64 0, .int .i64 0] 32) = W0 at *
  clear hw0
  go_wp2_with fail
  obtain ⟨xs, ps, bs⟩ := box_res HX.out HP.out (Nat.lt_succ_self _) (.int .i64 0) (.int .i64 0) (.string ⟨#[]⟩) (.slice none 0 0) (.slice none 0 0) (.int .i64 i) (.int .i64 j)
  have xd := xs.c
  have pd := ps.c
  have V : PPost s d w (parseD d s.data.toList) (.returned (.tuple #[SV.zero.val, .agg #[.int .i64 i, .int .i64 j], .int .i64 2])) _ := ⟨HB.out.trans (bs _ (Nat.le_refl _)), by rw [HQ.out]; exact ⟨by decide, by rw [← HI.out]; rfl⟩⟩
  have HV := hide V
  clear V bs xs ps
  exact bodyPost_ret (v := .tuple #[.agg #[.int .i64 0, .int .i64 0, .string ⟨#[]⟩, .slice none 0 0, .slice none 0 0], .agg #[.int .i64 i, .int .i64 j], .int .i64 2]) (by simp [results, Tryz.results11, go_sem, *]) rfl HV.out

set_option maxHeartbeats 8000000 in
set_option maxRecDepth 100000 in
theorem parse_short (d : Nat) (hd : d = 8) (s : ByteArray) (w : World) (hl : ¬ 8000 < s.size) :
    Calls Tryz.prog 11 #[.string s] w (PPost s d w (parseD d s.data.toList)) := by
  have hg : (decide ((s.size : Int) > 8000)) = false := by simp; omega
  have HQ : Hid (parseD d s.data.toList = match wholeM d s.data.toList with | .inr (e, q) => .inr (e, s.data.toList.length - q.length) | .inl (v, _) => .inl v) := by
    show _ = _
    unfold parseD
    rw [if_neg (by rw [len_eq]; exact hl)]
    try rfl
  have H0 := hide (show Below w.heap.size w ((w.alloc (.cells #[.int .i64 0, .int .i64 0, .string ⟨#[]⟩, .slice none 0 0, .slice none 0 0] 28)).alloc (.cells #[.int .i64 0, .int .i64 0] 32)) from (by repeat (first | with_reducible assumption | with_reducible exact Below.refl _ _ | with_reducible refine Below.setCell ?_ (by first | exact Nat.le_refl _ | (simp; done) | (simp; omega)) _ | with_reducible refine bal ?_ _ | with_reducible refine Below.alloc ?_ (by first | exact Nat.le_refl _ | (simp; done) | (simp; omega)) _ | with_reducible refine Below.drew ?_)))
  have hX0 := hide ((Box.new w #[.int .i64 0, .int .i64 0, .string ⟨#[]⟩, .slice none 0 0, .slice none 0 0] 28).alloc (.cells #[.int .i64 0, .int .i64 0] 32))
  have hP0 := hide (Box.new (w.alloc (.cells #[.int .i64 0, .int .i64 0, .string ⟨#[]⟩, .slice none 0 0, .slice none 0 0] 28)) #[.int .i64 0, .int .i64 0] 32)
  have hN : (w.alloc (.cells #[.int .i64 0, .int .i64 0, .string ⟨#[]⟩, .slice none 0 0, .slice none 0 0] 28)).heap.size = w.heap.size + 1 := by simp
  have HS0 : Hid (((w.alloc (.cells #[.int .i64 0, .int .i64 0, .string ⟨#[]⟩, .slice none 0 0, .slice none 0 0] 28)).alloc (.cells #[.int .i64 0, .int .i64 0] 32)).heap.size = w.heap.size + 2) := by show _ = _; simp
  rw [hN] at hP0
  have HL := hide hl
  clear hN hl
  go_enter Tryz.func11, Tryz.ntmps11
  go_wp2_with fail
  refine (new_any s _).mono ?_
  rintro e w1 ⟨rfl, rfl⟩
  generalize hw0 : (w.alloc (.cells #[.int .i64 0, .int .i64 0, .string ⟨#[]⟩, .slice none 0 0, .slice none 0 0] 28)).alloc (.cells #[.int .i64 0, .int .i64 0] 32) = W0 at *
  clear hw0
  have B1 := hide (show Below W0.heap.size W0 ((W0.alloc (.cells #[.int .i64 0, .int .i64 0, .int .i64 0, .string s] 86)).alloc (.cells #[.pointer (some ⟨W0.heap.size, 0, none⟩), .string s, .int .i64 0] 63)) from (by repeat (first | with_reducible assumption | with_reducible exact Below.refl _ _ | with_reducible refine Below.setCell ?_ (by first | exact Nat.le_refl _ | (simp; done) | (simp; omega)) _ | with_reducible refine bal ?_ _ | with_reducible refine Below.alloc ?_ (by first | exact Nat.le_refl _ | (simp; done) | (simp; omega)) _ | with_reducible refine Below.drew ?_)))
  have R1 : Rd ((W0.alloc (.cells #[.int .i64 0, .int .i64 0, .int .i64 0, .string s] 86)).alloc (.cells #[.pointer (some ⟨W0.heap.size, 0, none⟩), .string s, .int .i64 0] 63)) (W0.heap.size + 1) W0.heap.size s 0 0 := by
    refine ⟨(new_cur s W0).below (by repeat (first | with_reducible assumption | with_reducible exact Below.refl _ _ | with_reducible refine Below.setCell ?_ (by first | exact Nat.le_refl _ | (simp; done) | (simp; omega)) _ | with_reducible refine bal ?_ _ | with_reducible refine Below.alloc ?_ (by first | exact Nat.le_refl _ | (simp; done) | (simp; omega)) _ | with_reducible refine Below.drew ?_)), ?_, by omega⟩
    have := Box.new (W0.alloc (.cells #[.int .i64 0, .int .i64 0, .int .i64 0, .string s] 86)) #[.pointer (some ⟨W0.heap.size, 0, none⟩), .string s, .int .i64 0] 63
    rw [show (W0.alloc (.cells #[.int .i64 0, .int .i64 0, .int .i64 0, .string s] 86)).heap.size = W0.heap.size + 1 from by simp] at this
    exact this
  have CW := hide (whole_rd d _ _ s 0 0 _ R1 (by have := HL.out; omega) (by omega))
  clear R1
  go_wp2_with fail
  refine CW.out.mono ?_
  rintro e w2 hm
  obtain ⟨v, m, rfl⟩ := hm.form
  have h1s : W0.heap.size ≤ ((W0.alloc (.cells #[.int .i64 0, .int .i64 0, .int .i64 0, .string s] 86)).alloc (.cells #[.pointer (some ⟨W0.heap.size, 0, none⟩), .string s, .int .i64 0] 63)).heap.size := by simp; omega
  have hb2 : Below W0.heap.size W0 w2 := B1.out.trans ((hm.1.mono h1s).below (by omega) (Nat.le_refl _))
  have hX3 := Box.new w2 v.cells 28
  have hB3 : Below w2.heap.size w2 (w2.alloc (.cells v.cells 28)) := (by repeat (first | with_reducible assumption | with_reducible exact Below.refl _ _ | with_reducible refine Below.setCell ?_ (by first | exact Nat.le_refl _ | (simp; done) | (simp; omega)) _ | with_reducible refine bal ?_ _ | with_reducible refine Below.alloc ?_ (by first | exact Nat.le_refl _ | (simp; done) | (simp; omega)) _ | with_reducible refine Below.drew ?_))
  have HX3 := hide hX3
  have X3 := (hX0.out.later hb2).later hB3
  have P3 := (hP0.out.later hb2).later hB3
  have HB := hide (H0.out.trans ((hb2.mono H0.out.size).trans (hB3.mono (by have := hb2.size; have := H0.out.size; omega))))
  have hr0 : rst s 0 = s.data.toList := rfl
  rw [hr0] at hm
  have xc := X3.c
  have xf := X3.f
  have pc := P3.c
  have pf := P3.f
  have x3 := hX3.c
  have HX := hide X3
  have HP := hide P3
  have HS1 := hide h1s
  clear hX0 hP0 H0 X3 P3 CW hX3 hr0 h1s
  cases hbr : wholeM d s.data.toList with
  | inr y =>
    obtain ⟨m', q⟩ := y
    rw [hbr] at hm
    obtain ⟨hm1, ⟨p', dq, h2, h3⟩, u, hu⟩ := hm.2
    obtain ⟨rfl, rfl⟩ := ret_v hu
    have dm : ((m : Int) == 0) = false := by simp; omega
    have R3 := h3.below hB3
    have hc := R3.box.c
    have CP := hide (cplace_any _ s p' _ R3.cur (by have := HL.out; omega))
    have HQ2 : Hid (parseD d s.data.toList = .inr (m, p')) := by
      show _ = _
      rw [HQ.out, hbr]
      have := h3.le
      rw [← h2]
      show Sum.inr (m, s.data.toList.length - (rst s p').length) = _
      rw [rst_len, len_eq, show s.size - (s.size - p') = p' from by omega]
    have HM1 := hide hm1
    clear hm hm1 h2 h3 hu R3 hbr hB3 HQ hb2
    go_wp2_with fail
    refine CP.out.mono ?_
    rintro e w4 ⟨rfl, hb⟩
    have X4 := HX.out.later hb
    have P4 := HP.out.later hb
    have HB4 := hide (HB.out.trans (hb.mono HB.out.size))
    obtain ⟨i, j, hij⟩ : ∃ i j : Int, plc (s.data.toList.take p') = .agg #[.int .i64 i, .int .i64 j] := ⟨_, _, rfl⟩
    rw [hij]
    have HI := hide hij
    have xc := X4.c
    have xf := X4.f
    have pc := P4.c
    have pf := P4.f
    have HX4 := hide X4
    have HP4 := hide P4
    clear hb X4 P4 hij CP hc x3
    go_wp2_with fail
    obtain ⟨xs, ps, bs⟩ := box_res HX4.out HP4.out (Nat.lt_succ_self _) (.int .i64 0) (.int .i64 0) (.string ⟨#[]⟩) (.slice none 0 0) (.slice none 0 0) (.int .i64 i) (.int .i64 j)
    have xd := xs.c
    have pd := ps.c
    have HV := hide (show PPost s d w (parseD d s.data.toList) (.returned (.tuple #[SV.zero.val, .agg #[.int .i64 i, .int .i64 j], .int .i64 m])) _ from ⟨HB4.out.trans (bs _ (Nat.le_refl _)), by rw [HQ2.out]; exact ⟨HM1.out, by rw [← HI.out]⟩⟩)
    clear bs xs ps
    exact bodyPost_ret (v := .tuple #[.agg #[.int .i64 0, .int .i64 0, .string ⟨#[]⟩, .slice none 0 0, .slice none 0 0], .agg #[.int .i64 i, .int .i64 j], .int .i64 m]) (by simp [results, Tryz.results11, go_sem, *]) rfl HV.out
  | inl y =>
    obtain ⟨x, q⟩ := y
    rw [hbr] at hm
    obtain ⟨⟨p', h1, h2, h3⟩, u, hu, hv⟩ := hm.2
    obtain ⟨rfl, rfl⟩ := ret_v (m := 0) hu
    have HV3 := hide (hv.below hB3)
    have HQ2 : Hid (parseD d s.data.toList = .inl x) := by
      show _ = _
      rw [HQ.out, hbr]
    clear hm h1 h2 h3 hu hv hB3 hbr HQ hb2
    go_wp2_with fail
    obtain ⟨xs, ps, bs⟩ := box_res HX.out HP.out (Nat.lt_succ_self _) (.int .i64 v.k) (.int .i64 v.n) (.string v.s) (.slice v.ka v.kn v.kc) (.slice v.la v.ln v.lc) (.int .i64 0) (.int .i64 0)
    have xd := xs.c
    have pd := ps.c
    have HV := hide (show PPost s d w (parseD d s.data.toList) (.returned (.tuple #[v.val, .agg #[.int .i64 0, .int .i64 0], .int .i64 0])) _ from ⟨HB.out.trans (bs _ (Nat.le_refl _)), by
      rw [HQ2.out]
      have hs0 := HS0.out
      have hs1 := HS1.out
      exact ⟨v, rfl, HV3.out.keep (fun k hk _ => (Below.heap_setCell _ _ _ _ (by show k ≠ w.heap.size + 1; omega)).trans ((Below.heap_setCell _ _ _ _ (by show k ≠ w.heap.size + 1; omega)).trans (box_set5_block _ _ _ _ _ _ _ (by omega)))) (fun k hk _ => by omega)⟩⟩)
    clear bs xs ps
    exact bodyPost_ret (v := .tuple #[.agg #[.int .i64 v.k, .int .i64 v.n, .string v.s, .slice v.ka v.kn v.kc, .slice v.la v.ln v.lc], .agg #[.int .i64 0, .int .i64 0], .int .i64 0]) (by simp [results, Tryz.results11, go_sem, *]) rfl HV.out

theorem parse_any (s : ByteArray) (w : World) (hs : s.size ≤ 2000000000000) :
    Calls Tryz.prog 11 #[.string s] w (PPost s 8 w (parseM s.data.toList)) := by
  rw [parse_whole]
  by_cases hl : 8000 < s.size
  · exact parse_long 8 s w hs hl
  · exact parse_short 8 rfl s w hl

end Go.Proofs.YtnmmhihfnphjeaaGreatDoor.B

namespace Go.Proofs.YtnmmhihfnphjeaaGreatDoor.B
set_option linter.unusedVariables false
open Go.Shelf Go.RowKit

def Tryz.lays166_ren : Go.Shelf.Ren := ⟨fun | 166 => 35 | 240 => 53 | 276 => 67 | n => n, fun | 0 => 0 | 3 => 3 | 4 => 4 | 5 => 5 | 9 => 9 | 20 => 20 | 37 => 38 | 70 => 54 | 72 => 56 | 75 => 76 | 80 => 58 | 164 => 117 | n => n, fun | 1 => 0 | 17 => 1 | 18 => 2 | 19 => 3 | n => n⟩
theorem Tryz.lays166 : Go.Proofs.Lays.n166 Tryz.prog Tryz.lays166_ren := {
  mixed := by kernel_rfl
  f166 := Tryz.func35.trans (congrArg some (by kernel_rfl))
  f240 := Tryz.func53.trans (congrArg some (by kernel_rfl))
  f276 := Tryz.func67.trans (congrArg some (by kernel_rfl))
  t0 := Tryz.underlying0
  a0 := Tryz.isAgg0
  z0 := Tryz.sizeOf0
  v0 := Tryz.zeroValue0
  t3 := Tryz.underlying3
  a3 := Tryz.isAgg3
  z3 := Tryz.sizeOf3
  v3 := Tryz.zeroValue3
  t4 := Tryz.underlying4
  a4 := Tryz.isAgg4
  z4 := Tryz.sizeOf4
  v4 := Tryz.zeroValue4
  t9 := Tryz.underlying9
  a9 := Tryz.isAgg9
  z9 := Tryz.sizeOf9
  v9 := Tryz.zeroValue9
  t20 := Tryz.underlying20
  a20 := Tryz.isAgg20
  z20 := Tryz.sizeOf20
  v20 := Tryz.zeroValue20
  t37 := Tryz.underlying38
  a37 := Tryz.isAgg38
  z37 := Tryz.sizeOf38
  v37 := Tryz.zeroValue38
  t70 := Tryz.underlying54
  a70 := Tryz.isAgg54
  z70 := Tryz.sizeOf54
  v70 := Tryz.zeroValue54
  t72 := Tryz.underlying56
  a72 := Tryz.isAgg56
  z72 := Tryz.sizeOf56
  v72 := Tryz.zeroValue56
  t75 := Tryz.underlying76
  a75 := Tryz.isAgg76
  z75 := Tryz.sizeOf76
  v75 := Tryz.zeroValue76
  t164 := Tryz.underlying117
  a164 := Tryz.isAgg117
  z164 := Tryz.sizeOf117
  v164 := Tryz.zeroValue117 }
def Tryz.lays167_ren : Go.Shelf.Ren := ⟨fun | 167 => 54 | 240 => 53 | 276 => 67 | n => n, fun | 0 => 0 | 4 => 4 | 5 => 5 | 9 => 9 | 20 => 20 | 37 => 38 | 70 => 54 | 72 => 56 | 75 => 76 | 80 => 58 | 164 => 117 | n => n, fun | 1 => 0 | 17 => 1 | 18 => 2 | 19 => 3 | n => n⟩
theorem Tryz.lays167 : Go.Proofs.Lays.n167 Tryz.prog Tryz.lays167_ren := {
  mixed := by kernel_rfl
  f167 := Tryz.func54.trans (congrArg some (by kernel_rfl))
  f240 := Tryz.func53.trans (congrArg some (by kernel_rfl))
  f276 := Tryz.func67.trans (congrArg some (by kernel_rfl))
  t0 := Tryz.underlying0
  a0 := Tryz.isAgg0
  z0 := Tryz.sizeOf0
  v0 := Tryz.zeroValue0
  t4 := Tryz.underlying4
  a4 := Tryz.isAgg4
  z4 := Tryz.sizeOf4
  v4 := Tryz.zeroValue4
  t5 := Tryz.underlying5
  a5 := Tryz.isAgg5
  z5 := Tryz.sizeOf5
  v5 := Tryz.zeroValue5
  t9 := Tryz.underlying9
  a9 := Tryz.isAgg9
  z9 := Tryz.sizeOf9
  v9 := Tryz.zeroValue9
  t20 := Tryz.underlying20
  a20 := Tryz.isAgg20
  z20 := Tryz.sizeOf20
  v20 := Tryz.zeroValue20
  t37 := Tryz.underlying38
  a37 := Tryz.isAgg38
  z37 := Tryz.sizeOf38
  v37 := Tryz.zeroValue38
  t70 := Tryz.underlying54
  a70 := Tryz.isAgg54
  z70 := Tryz.sizeOf54
  v70 := Tryz.zeroValue54
  t72 := Tryz.underlying56
  a72 := Tryz.isAgg56
  z72 := Tryz.sizeOf56
  v72 := Tryz.zeroValue56
  t75 := Tryz.underlying76
  a75 := Tryz.isAgg76
  z75 := Tryz.sizeOf76
  v75 := Tryz.zeroValue76
  t164 := Tryz.underlying117
  a164 := Tryz.isAgg117
  z164 := Tryz.sizeOf117
  v164 := Tryz.zeroValue117 }
def Tryz.lays169_ren : Go.Shelf.Ren := ⟨fun | 169 => 23 | n => n, fun | 0 => 0 | 3 => 3 | 5 => 5 | 9 => 9 | 37 => 38 | 70 => 54 | 72 => 56 | 127 => 81 | n => n, fun | 1 => 0 | 17 => 1 | 18 => 2 | 19 => 3 | n => n⟩
theorem Tryz.lays169 : Go.Proofs.Lays.n169 Tryz.prog Tryz.lays169_ren := {
  mixed := by kernel_rfl
  f169 := Tryz.func23.trans (congrArg some (by kernel_rfl))
  t0 := Tryz.underlying0
  a0 := Tryz.isAgg0
  z0 := Tryz.sizeOf0
  v0 := Tryz.zeroValue0
  t3 := Tryz.underlying3
  a3 := Tryz.isAgg3
  z3 := Tryz.sizeOf3
  v3 := Tryz.zeroValue3
  t9 := Tryz.underlying9
  a9 := Tryz.isAgg9
  z9 := Tryz.sizeOf9
  v9 := Tryz.zeroValue9
  t37 := Tryz.underlying38
  a37 := Tryz.isAgg38
  z37 := Tryz.sizeOf38
  v37 := Tryz.zeroValue38
  t70 := Tryz.underlying54
  a70 := Tryz.isAgg54
  z70 := Tryz.sizeOf54
  v70 := Tryz.zeroValue54
  t72 := Tryz.underlying56
  a72 := Tryz.isAgg56
  z72 := Tryz.sizeOf56
  v72 := Tryz.zeroValue56
  t127 := Tryz.underlying81
  a127 := Tryz.isAgg81
  z127 := Tryz.sizeOf81
  v127 := Tryz.zeroValue81 }
theorem Tryz.extra166 : Builder.Extra Tryz.prog Tryz.lays166_ren := {
  sizeBuilder := by kernel_rfl
  liesBuilder := by kernel_rfl
  t5 := Tryz.underlying5
  a5 := Tryz.isAgg5
  z5 := Tryz.sizeOf5
  v5 := Tryz.zeroValue5
  infoByte := by kernel_rfl
  cellsByte := by kernel_rfl
  sizeByte := by kernel_rfl
  neB5 := by decide }
theorem Tryz.extra167 : Builder.Extra Tryz.prog Tryz.lays167_ren := {
  sizeBuilder := by kernel_rfl
  liesBuilder := by kernel_rfl
  t5 := Tryz.underlying5
  a5 := Tryz.isAgg5
  z5 := Tryz.sizeOf5
  v5 := Tryz.zeroValue5
  infoByte := by kernel_rfl
  cellsByte := by kernel_rfl
  sizeByte := by kernel_rfl
  neB5 := by decide }
theorem Tryz.extra169 : Builder.Extra Tryz.prog Tryz.lays169_ren := {
  sizeBuilder := by kernel_rfl
  liesBuilder := by kernel_rfl
  t5 := Tryz.underlying5
  a5 := Tryz.isAgg5
  z5 := Tryz.sizeOf5
  v5 := Tryz.zeroValue5
  infoByte := by kernel_rfl
  cellsByte := by kernel_rfl
  sizeByte := by kernel_rfl
  neB5 := by decide }

/-- A builder in block b that holds these bytes. -/
def Bk (b : Nat) (l : List UInt8) (w : World) : Prop := Lib.IsBuilderF 56 5 b b (Lib.byteCells l) w
/-- What writing to the builder in block b may turn. -/
structure WF (b : Nat) (w w' : World) : Prop where
  lo : Below b w w'
  ot : Lib.OthersKept 5 (some b) w w'
theorem WF.refl (b : Nat) (w : World) : WF b w w := ⟨Below.refl _ _, Lib.OthersKept.refl _ _ _⟩
theorem WF.trans {b : Nat} {w w' w'' : World} (h : WF b w w') (k : WF b w' w'') : WF b w w'' := ⟨h.lo.trans k.lo, h.ot.trans k.ot⟩
theorem WF.ofBelow {b : Nat} {w w' : World} (h : Below w.heap.size w w') (hb : b ≤ w.heap.size) : WF b w w' := ⟨h.mono hb, fun k o hk _ _ => by rw [h.block k (Array.getElem?_eq_some_iff.1 hk).1]; exact hk⟩
theorem WF.size {b : Nat} {w w' : World} (h : WF b w w') : w.heap.size ≤ w'.heap.size := h.lo.size
theorem Bk.lt {b : Nat} {l : List UInt8} {w : World} (h : Bk b l w) : b < w.heap.size := by
  rcases h with ⟨_, v, hb, _⟩ | ⟨_, v, hb, _⟩ <;> exact (Array.getElem?_eq_some_iff.1 hb).1
theorem batF_below {b : Nat} {p : Value} {bs : List Value} {T e : TypeId} {w w' : World} (h : Lib.BuilderAtF T e b b p bs w) (hb : Below w.heap.size w w') : Lib.BuilderAtF T e b b p bs w' := by
  obtain ⟨h1, v, h2, ⟨h3, h4⟩, h5⟩ := h
  refine ⟨h1, v, by rw [hb.block b (Array.getElem?_eq_some_iff.1 h2).1]; exact h2, ⟨h3, ?_⟩, h5⟩
  rcases h4 with h | ⟨g, cap, cur, fz, k1, k2, k3, k4⟩
  · exact .inl h
  · exact .inr ⟨g, cap, cur, fz, k1, k2, by rw [hb.block g (Array.getElem?_eq_some_iff.1 k3).1]; exact k3, k4⟩
theorem Bk.below {b : Nat} {l : List UInt8} {w w' : World} (h : Bk b l w) (hb : Below w.heap.size w w') : Bk b l w' :=
  h.elim (fun x => .inl (batF_below x hb)) (fun x => .inr (batF_below x hb))

/-- (*strings.Builder).WriteByte. -/
theorem wbyte (b : Nat) (l : List UInt8) (c : UInt8) (w : World) (h : Bk b l w) (hl : l.length + 1 ≤ 140737488355328) :
    Calls Tryz.prog 54 #[.pointer (some ⟨b, 0, none⟩), .int .u8 (c.toNat : Int)] w fun e w' => e = .returned .nilIface ∧ Bk b (l ++ [c]) w' ∧ WF b w w' := by
  refine (Any.Builder_WriteByte_k Tryz.lays167 Tryz.extra167 b b (Lib.byteCells l) (c.toNat : Int) w h (by rw [Lib.byteCells_length]; exact hl) (Nat.le_of_lt h.lt)).mono ?_
  rintro e w' ⟨rfl, h1, h2, h3⟩
  refine ⟨rfl, .inr ?_, h2, h3⟩
  have : Lib.byteCells (l ++ [c]) = Lib.byteCells l ++ [.int .u8 (c.toNat : Int)] := by simp [Lib.byteCells]
  rw [this]; exact h1
/-- (*strings.Builder).WriteString. -/
theorem wstr (b : Nat) (l t : List UInt8) (w : World) (h : Bk b l w) (hl : l.length + t.length ≤ 140737488355328) :
    Calls Tryz.prog 35 #[.pointer (some ⟨b, 0, none⟩), .string ⟨t.toArray⟩] w fun e w' => (∃ n : Int, e = .returned (.tuple #[.int .i64 n, .nilIface])) ∧ Bk b (l ++ t) w' ∧ WF b w w' := by
  refine (Any.Builder_WriteString_k Tryz.lays166 Tryz.extra166 b b (Lib.byteCells l) ⟨t.toArray⟩ w h (by rw [Lib.byteCells_length]; exact hl) (Nat.le_of_lt h.lt)).mono ?_
  rintro e w' ⟨rfl, h1, h2, h3⟩
  refine ⟨⟨_, rfl⟩, .inr ?_, h2, h3⟩
  have : Lib.byteCells (l ++ t) = Lib.byteCells l ++ Lib.strCells ⟨t.toArray⟩ := by simp [Lib.byteCells, Lib.strCells]
  rw [this]; exact h1
/-- (*strings.Builder).String. -/
theorem bstr (b : Nat) (l : List UInt8) (w : World) (h : Bk b l w) :
    Calls Tryz.prog 23 #[.pointer (some ⟨b, 0, none⟩)] w fun e w' => e = .returned (.string ⟨l.toArray⟩) ∧ WF b w w' := by
  refine (Any.Builder_String_any_k Tryz.lays169 Tryz.extra169 b b l w h (Nat.le_of_lt h.lt)).mono ?_
  rintro e w' ⟨rfl, h1, h2, h3⟩
  exact ⟨rfl, h2, h3⟩

end Go.Proofs.YtnmmhihfnphjeaaGreatDoor.B

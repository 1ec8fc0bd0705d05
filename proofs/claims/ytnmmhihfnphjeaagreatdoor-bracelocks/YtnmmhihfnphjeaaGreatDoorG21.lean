/-
  Contracts of bare, value: a value is read as the document says, at each depth.
-/
import Derived.Test.YtnmmhihfnphjeaaGreatDoorG20

namespace Go.Proofs.YtnmmhihfnphjeaaGreatDoor.B
set_option linter.unusedSimpArgs false
set_option linter.unusedVariables false
open Go.RowKit Go.Vr Go.Sort Go.Tx Go.Lib
open Go.Br hiding Bs
open Go.Proofs.YtnmmhihfnphjeaaGreatDoor.W (IsCur Oth Kept peek_in peek_end drop_cons)
attribute [local go_sem] setCellDrewN allocDrewN

def pk (r : Bs) : Int := match r with
  | [] => 0
  | x :: _ => x.toNat
theorem peek_rd (b c : Nat) (s : ByteArray) (p dp : Nat) (w : World) (h : Rd w b c s p dp) (hs : s.size ≤ 100000) :
    Calls Tryz.prog 44 #[.pointer (some ⟨c, 0, none⟩)] w fun e w' => (∃ t, e = .returned (.tuple #[.int .u8 (pk (rst s p)), .bool t]) ∧ (t = true ↔ rst s p ≠ [])) ∧ ∃ n, w' = w.drewN n := by
  by_cases hp : p < s.size
  · have hd := drop_cons s p hp
    refine (peek_in c s p w h.cur (by omega) hp).mono ?_
    rintro e w' ⟨rfl, n, rfl⟩
    exact ⟨⟨true, by rw [show rst s p = _ from hd]; rfl, by rw [show rst s p = _ from hd]; simp⟩, n, rfl⟩
  · have hd : rst s p = [] := List.drop_eq_nil_of_le (by rw [len_eq]; omega)
    refine (peek_end c s p w h.cur (by omega) hp).mono ?_
    rintro e w' ⟨rfl, n, rfl⟩
    exact ⟨⟨false, by rw [hd]; rfl, by rw [hd]; simp⟩, n, rfl⟩
theorem pk_eq (r : Bs) (z : UInt8) (hz : 0 < z.toNat) : (pk r == (z.toNat : Int)) = (r.head? == some z) := by
  cases r with
  | nil =>
    show ((0 : Int) == (z.toNat : Int)) = false
    simp; omega
  | cons x t =>
    show ((x.toNat : Int) == (z.toNat : Int)) = _
    rw [Bool.eq_iff_iff]
    simp
    exact ⟨fun h => UInt8.toNat_inj.1 (by omega), fun h => by rw [h]⟩

def leafV : (d : Nat) → Leaf → Val d
  | 0, x => x
  | _ + 1, x => Sum.inl x
theorem VH.leafV {w : World} {Q : Nat → Prop} (x : Leaf) : ∀ d, VH w Q d (leafV d x) (leafSV x)
  | 0 => rfl
  | _ + 1 => rfl
theorem bareM_leafV (d : Nat) (r : Bs) (h1 : ¬ r.head? = some 91) (h2 : ¬ r.head? = some 123) : bareM d r = match leafM r with | .inl (x, q) => .inl (leafV d x, q) | .inr e => .inr e := by
  cases d with
  | zero =>
    unfold bareM
    rw [if_neg (by rintro (h | h); exact h1 h; exact h2 h)]
    cases leafM r with
    | inl y => rfl
    | inr e => rfl
  | succ d =>
    unfold bareM
    rw [if_neg h1, if_neg h2]
    cases leafM r with
    | inl y => rfl
    | inr e => rfl

theorem set5_below (w : World) (B N : Nat) (x0 x1 x2 x3 x4 : Value) (hB : B ≤ N) : Below B w (((((w.setCell ⟨N, 0, none⟩ x0).setCell ⟨N, 1, none⟩ x1).setCell ⟨N, 2, none⟩ x2).setCell ⟨N, 3, none⟩ x3).setCell ⟨N, 4, none⟩ x4) :=
  (((((Below.refl B w).setCell hB _).setCell hB _).setCell hB _).setCell hB _).setCell hB _

/-- A value handed on through a cell of the call's own. -/
theorem vp_out {b c p dp d n : Nat} {s : ByteArray} {w w1 w2 : World} {r : R (Val d)} {v : SV} (hb : Below w.heap.size w w1) (hN : w.heap.size < w1.heap.size) (hbc : b < w.heap.size ∧ c < w.heap.size)
    (h : VPost b c s p dp d w1 r (.returned (.tuple #[v.val, .int .i64 n])) w2) :
    VPost b c s p dp d w r (.returned (.tuple #[v.val, .int .i64 n])) (((((w2.setCell ⟨w.heap.size, 0, none⟩ (.int .i64 v.k)).setCell ⟨w.heap.size, 1, none⟩ (.int .i64 v.n)).setCell ⟨w.heap.size, 2, none⟩ (.string v.s)).setCell ⟨w.heap.size, 3, none⟩ (.slice v.ka v.kn v.kc)).setCell ⟨w.heap.size, 4, none⟩ (.slice v.la v.ln v.lc)) := by
  obtain ⟨hf, hr⟩ := h
  have hbl : ∀ {k}, k ≠ w.heap.size → (((((w2.setCell ⟨w.heap.size, 0, none⟩ (.int .i64 v.k)).setCell ⟨w.heap.size, 1, none⟩ (.int .i64 v.n)).setCell ⟨w.heap.size, 2, none⟩ (.string v.s)).setCell ⟨w.heap.size, 3, none⟩ (.slice v.ka v.kn v.kc)).setCell ⟨w.heap.size, 4, none⟩ (.slice v.la v.ln v.lc)).heap[k]? = w2.heap[k]? := fun hk => box_set5_block _ _ _ _ _ _ _ hk
  have hB : Below w.heap.size w2 (((((w2.setCell ⟨w.heap.size, 0, none⟩ (.int .i64 v.k)).setCell ⟨w.heap.size, 1, none⟩ (.int .i64 v.n)).setCell ⟨w.heap.size, 2, none⟩ (.string v.s)).setCell ⟨w.heap.size, 3, none⟩ (.slice v.ka v.kn v.kc)).setCell ⟨w.heap.size, 4, none⟩ (.slice v.la v.ln v.lc)) := set5_below _ _ _ _ _ _ _ _ (Nat.le_refl _)
  generalize (((((w2.setCell ⟨w.heap.size, 0, none⟩ (.int .i64 v.k)).setCell ⟨w.heap.size, 1, none⟩ (.int .i64 v.n)).setCell ⟨w.heap.size, 2, none⟩ (.string v.s)).setCell ⟨w.heap.size, 3, none⟩ (.slice v.ka v.kn v.kc)).setCell ⟨w.heap.size, 4, none⟩ (.slice v.la v.ln v.lc)) = w3 at *
  refine ⟨((Fr.ofBelow hb).trans (hf.mono (by omega))).trans (Fr.ofBelow hB), ?_⟩
  cases r with
  | inl y =>
    obtain ⟨x, q⟩ := y
    obtain ⟨⟨p', h1, h2, h3⟩, u, hu, hv⟩ := hr
    exact ⟨⟨p', h1, h2, h3.of_blocks (hbl (by omega)) (hbl (by omega))⟩, u, hu, hv.keep (fun k hk _ => hbl (by omega)) (fun k hk _ => by omega)⟩
  | inr y =>
    obtain ⟨m, q⟩ := y
    obtain ⟨hm, ⟨p', dq, h2, h3⟩, u, hu⟩ := hr
    exact ⟨hm, ⟨p', dq, h2, h3.of_blocks (hbl (by omega)) (hbl (by omega))⟩, u, hu⟩

/-! Where nine are within one another -/

set_option maxHeartbeats 400000 in
theorem inside_deep (b c : Nat) (s : ByteArray) (p : Nat) (x y z : Value) (w : World) (h : Rd w b c s p 8) :
    Calls Tryz.prog 89 #[.pointer (some ⟨b, 0, none⟩), x, y, z] w fun e w' => e = .returned (.int .i64 3) ∧ w' = w := by
  have hc := h.box.c
  have h8 : ((8 : Nat) : Int) = 8 := rfl
  rw [h8] at hc
  clear h
  go_enter Tryz.func89, Tryz.ntmps89
  go_wp2_with fail
  go_ret
  exact ⟨rfl, rfl⟩

set_option maxHeartbeats 1000000 in
theorem list_deep (b c : Nat) (s : ByteArray) (p : Nat) (u : Bs) (w : World) (h : Rd w b c s p 8) (hu : rst s p = 91 :: u) :
    Calls Tryz.prog 75 #[.pointer (some ⟨b, 0, none⟩)] w (VPost b c s p 8 0 w (bareM 0 (rst s p))) := by
  obtain ⟨hbl, hcl⟩ := h.lt
  have HQ : Hid (bareM 0 (rst s p) = .inr (3, rst s p)) := by show _ = _; unfold bareM; rw [if_pos (by rw [hu]; first | exact .inl rfl | exact .inr rfl)]
  have w3b : Below w.heap.size w (((w.alloc (.cells #[.pointer (some ⟨b, 0, none⟩)] 87)).alloc (.cells #[.int .i64 0, .int .i64 0, .string ⟨#[]⟩, .slice none 0 0, .slice none 0 0] 28)).alloc (.cells #[.int .i64 4, .int .i64 0, .string ⟨#[]⟩, .slice none 0 0, .slice none 0 0] 28)) := (by repeat (first | with_reducible assumption | with_reducible exact Below.refl _ _ | with_reducible refine Below.setCell ?_ (by first | exact Nat.le_refl _ | (simp; done) | (simp; omega)) _ | with_reducible refine bal ?_ _ | with_reducible refine Below.alloc ?_ (by first | exact Nat.le_refl _ | (simp; done) | (simp; omega)) _ | with_reducible refine Below.drew ?_))
  have HR := hide h
  have HB3 := hide w3b
  have CI := hide (fun x y z => inside_deep b c s p x y z _ (h.below w3b))
  clear w3b h hu
  go_enter Tryz.func75, Tryz.ntmps75
  go_wp2_with fail
  refine (CI.out _ _ _).mono ?_
  rintro e w4 ⟨rfl, hw⟩
  rw [hw]
  clear hw w4 CI
  go_wp2_with fail
  exact bodyPost_ret (v := .tuple #[.agg #[.int .i64 4, .int .i64 0, .string ⟨#[]⟩, .slice none 0 0, .slice none 0 0], .int .i64 3]) (by simp [results, Tryz.results75, go_sem, *]) rfl (by unfold VPost; rw [HQ.out]; exact ⟨Fr.ofBelow (by repeat (first | with_reducible assumption | with_reducible exact Below.refl _ _ | with_reducible refine Below.setCell ?_ (by first | exact Nat.le_refl _ | (simp; done) | (simp; omega)) _ | with_reducible refine bal ?_ _ | with_reducible refine Below.alloc ?_ (by first | exact Nat.le_refl _ | (simp; done) | (simp; omega)) _ | with_reducible refine Below.drew ?_)), by omega, ⟨p, 8, rfl, HR.out.below (by repeat (first | with_reducible assumption | with_reducible exact Below.refl _ _ | with_reducible refine Below.setCell ?_ (by first | exact Nat.le_refl _ | (simp; done) | (simp; omega)) _ | with_reducible refine bal ?_ _ | with_reducible refine Below.alloc ?_ (by first | exact Nat.le_refl _ | (simp; done) | (simp; omega)) _ | with_reducible refine Below.drew ?_))⟩, ⟨4, 0, ⟨#[]⟩, none, 0, 0, none, 0, 0⟩, rfl⟩)

set_option maxHeartbeats 1000000 in
theorem pairs_deep (b c : Nat) (s : ByteArray) (p : Nat) (u : Bs) (w : World) (h : Rd w b c s p 8) (hu : rst s p = 123 :: u) :
    Calls Tryz.prog 76 #[.pointer (some ⟨b, 0, none⟩)] w (VPost b c s p 8 0 w (bareM 0 (rst s p))) := by
  obtain ⟨hbl, hcl⟩ := h.lt
  have HQ : Hid (bareM 0 (rst s p) = .inr (3, rst s p)) := by show _ = _; unfold bareM; rw [if_pos (by rw [hu]; first | exact .inl rfl | exact .inr rfl)]
  have w3b : Below w.heap.size w (((w.alloc (.cells #[.pointer (some ⟨b, 0, none⟩)] 87)).alloc (.cells #[.int .i64 0, .int .i64 0, .string ⟨#[]⟩, .slice none 0 0, .slice none 0 0] 28)).alloc (.cells #[.int .i64 5, .int .i64 0, .string ⟨#[]⟩, .slice none 0 0, .slice none 0 0] 28)) := (by repeat (first | with_reducible assumption | with_reducible exact Below.refl _ _ | with_reducible refine Below.setCell ?_ (by first | exact Nat.le_refl _ | (simp; done) | (simp; omega)) _ | with_reducible refine bal ?_ _ | with_reducible refine Below.alloc ?_ (by first | exact Nat.le_refl _ | (simp; done) | (simp; omega)) _ | with_reducible refine Below.drew ?_))
  have HR := hide h
  have HB3 := hide w3b
  have CI := hide (fun x y z => inside_deep b c s p x y z _ (h.below w3b))
  clear w3b h hu
  go_enter Tryz.func76, Tryz.ntmps76
  go_wp2_with fail
  refine (CI.out _ _ _).mono ?_
  rintro e w4 ⟨rfl, hw⟩
  rw [hw]
  clear hw w4 CI
  go_wp2_with fail
  exact bodyPost_ret (v := .tuple #[.agg #[.int .i64 5, .int .i64 0, .string ⟨#[]⟩, .slice none 0 0, .slice none 0 0], .int .i64 3]) (by simp [results, Tryz.results76, go_sem, *]) rfl (by unfold VPost; rw [HQ.out]; exact ⟨Fr.ofBelow (by repeat (first | with_reducible assumption | with_reducible exact Below.refl _ _ | with_reducible refine Below.setCell ?_ (by first | exact Nat.le_refl _ | (simp; done) | (simp; omega)) _ | with_reducible refine bal ?_ _ | with_reducible refine Below.alloc ?_ (by first | exact Nat.le_refl _ | (simp; done) | (simp; omega)) _ | with_reducible refine Below.drew ?_)), by omega, ⟨p, 8, rfl, HR.out.below (by repeat (first | with_reducible assumption | with_reducible exact Below.refl _ _ | with_reducible refine Below.setCell ?_ (by first | exact Nat.le_refl _ | (simp; done) | (simp; omega)) _ | with_reducible refine bal ?_ _ | with_reducible refine Below.alloc ?_ (by first | exact Nat.le_refl _ | (simp; done) | (simp; omega)) _ | with_reducible refine Below.drew ?_))⟩, ⟨5, 0, ⟨#[]⟩, none, 0, 0, none, 0, 0⟩, rfl⟩)

/-- Where what follows an opening sign is read. -/
def OpenAt (d : Nat) : Prop := ∀ (b c : Nat) (s : ByteArray) (p dp : Nat) (u : Bs) (w : World), Rd w b c s p dp → s.size ≤ 80000 → dp + d = 8 →
  (rst s p = 91 :: u → Calls Tryz.prog 75 #[.pointer (some ⟨b, 0, none⟩)] w (VPost b c s p dp d w (bareM d (rst s p)))) ∧
  (rst s p = 123 :: u → Calls Tryz.prog 76 #[.pointer (some ⟨b, 0, none⟩)] w (VPost b c s p dp d w (bareM d (rst s p))))
theorem open_zero : OpenAt 0 := fun b c s p dp u w h hs hd => by
  obtain rfl : dp = 8 := by omega
  exact ⟨fun hu => list_deep b c s p u w h hu, fun hu => pairs_deep b c s p u w h hu⟩

theorem head_some {r : Bs} {z : UInt8} (h : (r.head? == some z) = true) : ∃ u, r = z :: u := by
  cases r with
  | nil => simp at h
  | cons x t => exact ⟨t, by simp at h; rw [h]⟩

theorem q_vp {b c p dp d : Nat} {s : ByteArray} {w w' : World} {e : Ending} (h34 : ((rst s p).head? == some 34) = true) (h : QPost b c s p dp w (quotedM (rst s p)) e w') : VPost b c s p dp d w (bareM d (rst s p)) e w' := by
  have h3 : (rst s p).head? = some 34 := by simpa using h34
  have hb : bareM d (rst s p) = match quotedM (rst s p) with | .inl (t, q) => .inl (leafV d (.inl t), q) | .inr e => .inr e := by
    rw [bareM_leafV d _ (by rw [h3]; simp) (by rw [h3]; simp)]
    unfold leafM
    rw [if_pos h3]
    cases quotedM (rst s p) with
    | inl y => rfl
    | inr e => rfl
  obtain ⟨hf, hr⟩ := h
  refine ⟨hf, ?_⟩
  rw [hb]
  cases hq : quotedM (rst s p) with
  | inl y =>
    obtain ⟨t, q⟩ := y
    rw [hq] at hr
    obtain ⟨hg, rfl⟩ := hr
    exact ⟨hg, _, rfl, VH.leafV (.inl t) d⟩
  | inr y =>
    obtain ⟨n, q⟩ := y
    rw [hq] at hr
    obtain ⟨rfl, hg, rfl⟩ := hr
    exact ⟨Nat.le_refl _, hg, SV.zero, rfl⟩
theorem n_vp {b c p dp d : Nat} {s : ByteArray} {w w1 w' : World} {e : Ending} (hb : bareM d (rst s p) = match numM (rst s p) with | .inl (n, q) => .inl (leafV d (.inr (.inl n)), q) | .inr e => .inr e) (h1 : Fr w.heap.size b c w w1) (h : NPost b c s p dp w1 (numM (rst s p)) e w') : VPost b c s p dp d w (bareM d (rst s p)) e w' := by
  obtain ⟨hf, hr⟩ := h
  refine ⟨h1.trans (hf.mono h1.size), ?_⟩
  rw [hb]
  cases hq : numM (rst s p) with
  | inl y =>
    obtain ⟨t, q⟩ := y
    rw [hq] at hr
    obtain ⟨hg, rfl⟩ := hr
    exact ⟨hg, _, rfl, VH.leafV (.inr (.inl t)) d⟩
  | inr y =>
    obtain ⟨n, q⟩ := y
    rw [hq] at hr
    obtain ⟨rfl, hg, rfl⟩ := hr
    exact ⟨Nat.le_refl _, hg, SV.zero, rfl⟩

set_option maxHeartbeats 8000000 in
set_option maxRecDepth 100000 in
theorem bare_rd (d : Nat) (HO : OpenAt d) (b c : Nat) (s : ByteArray) (p dp : Nat) (w : World) (h : Rd w b c s p dp) (hs : s.size ≤ 80000) (hd : dp + d = 8) :
    Calls Tryz.prog 61 #[.pointer (some ⟨b, 0, none⟩)] w (VPost b c s p dp d w (bareM d (rst s p))) := by
  obtain ⟨hbl, hcl⟩ := h.lt
  have H0 := hide (show Below w.heap.size w (w.alloc (.cells #[.int .i64 0, .int .i64 0, .string ⟨#[]⟩, .slice none 0 0, .slice none 0 0] 28)) from (by repeat (first | with_reducible assumption | with_reducible exact Below.refl _ _ | with_reducible refine Below.setCell ?_ (by first | exact Nat.le_refl _ | (simp; done) | (simp; omega)) _ | with_reducible refine bal ?_ _ | with_reducible refine Below.alloc ?_ (by first | exact Nat.le_refl _ | (simp; done) | (simp; omega)) _ | with_reducible refine Below.drew ?_)))
  have hX0 := hide (Box.new w #[.int .i64 0, .int .i64 0, .string ⟨#[]⟩, .slice none 0 0, .slice none 0 0] 28)
  have R0 := h.below H0.out
  have hc := R0.box.c
  have CP := hide (peek_rd b c s p dp _ R0 (by omega))
  have HR0 := hide R0
  have k34 := pk_eq (rst s p) 34 (by decide)
  have k91 := pk_eq (rst s p) 91 (by decide)
  have k123 := pk_eq (rst s p) 123 (by decide)
  have n34 : ((34 : UInt8).toNat : Int) = 34 := rfl
  have n91 : ((91 : UInt8).toNat : Int) = 91 := rfl
  have n123 : ((123 : UInt8).toNat : Int) = 123 := rfl
  rw [n34] at k34
  rw [n91] at k91
  rw [n123] at k123
  clear h R0 n34 n91 n123
  go_enter Tryz.func61, Tryz.ntmps61
  go_wp2_with fail
  refine CP.out.mono ?_
  rintro e w1 ⟨⟨t, rfl, -⟩, n, rfl⟩
  have HB1 : Hid (Below w.heap.size w ((w.alloc (.cells #[.int .i64 0, .int .i64 0, .string ⟨#[]⟩, .slice none 0 0, .slice none 0 0] 28)).drewN n)) := H0.out.trans ((belDrewN _ n).mono H0.out.size)
  have HR1 := hide (HR0.out.drewN n)
  have HX1 := hide (hX0.out.drewN n)
  have hsz : w.heap.size < ((w.alloc (.cells #[.int .i64 0, .int .i64 0, .string ⟨#[]⟩, .slice none 0 0, .slice none 0 0] 28)).drewN n).heap.size := HX1.out.lt
  generalize (w.alloc (.cells #[.int .i64 0, .int .i64 0, .string ⟨#[]⟩, .slice none 0 0, .slice none 0 0] 28)).drewN n = W1 at *
  clear hc CP HR0 hX0 H0
  generalize hpk : pk (rst s p) = y at *
  clear hpk
  cases h34 : ((rst s p).head? == some 34) with
  | true =>
    rw [h34] at k34
    have CQ := hide (quoted_rd b c s p dp W1 HR1.out (by omega))
    have CL : Hid (Calls Tryz.prog 74 #[.pointer (some ⟨b, 0, none⟩)] W1 (VPost b c s p dp d W1 (bareM d (rst s p)))) := CQ.out.mono fun e w' h => q_vp h34 h
    clear h34 CQ k91 k123
    go_wp2_with fail
    refine CL.out.mono ?_
    rintro e w2 hm
    obtain ⟨v, m, rfl⟩ := hm.form
    have X2 := HX1.out.of_block (hm.1.block w.heap.size hsz (by omega) (by omega))
    have xc := X2.c
    have xf := X2.f
    have HX2 := hide X2
    have HM := hide hm
    clear hm X2 CL
    go_wp2_with fail
    obtain ⟨xs, xb⟩ := box_set5 HX2.out (.int .i64 v.k) (.int .i64 v.n) (.string v.s) (.slice v.ka v.kn v.kc) (.slice v.la v.ln v.lc)
    have xd := xs.c
    exact bodyPost_ret (v := .tuple #[.agg #[.int .i64 v.k, .int .i64 v.n, .string v.s, .slice v.ka v.kn v.kc, .slice v.la v.ln v.lc], .int .i64 m]) (by simp [results, Tryz.results61, go_sem, *]) rfl (vp_out HB1.out hsz ⟨hbl, hcl⟩ HM.out)
  | false =>
    rw [h34] at k34
    cases h91 : ((rst s p).head? == some 91) with
    | true =>
      rw [h91] at k91
      obtain ⟨u, hu⟩ := head_some h91
      have CL := hide ((HO b c s p dp u W1 HR1.out hs hd).1 hu)
      clear h34 h91 hu k123
      go_wp2_with fail
      refine CL.out.mono ?_
      rintro e w2 hm
      obtain ⟨v, m, rfl⟩ := hm.form
      have X2 := HX1.out.of_block (hm.1.block w.heap.size hsz (by omega) (by omega))
      have xc := X2.c
      have xf := X2.f
      have HX2 := hide X2
      have HM := hide hm
      clear hm X2 CL
      go_wp2_with fail
      obtain ⟨xs, xb⟩ := box_set5 HX2.out (.int .i64 v.k) (.int .i64 v.n) (.string v.s) (.slice v.ka v.kn v.kc) (.slice v.la v.ln v.lc)
      have xd := xs.c
      exact bodyPost_ret (v := .tuple #[.agg #[.int .i64 v.k, .int .i64 v.n, .string v.s, .slice v.ka v.kn v.kc, .slice v.la v.ln v.lc], .int .i64 m]) (by simp [results, Tryz.results61, go_sem, *]) rfl (vp_out HB1.out hsz ⟨hbl, hcl⟩ HM.out)
    | false =>
      rw [h91] at k91
      cases h123 : ((rst s p).head? == some 123) with
      | true =>
        rw [h123] at k123
        obtain ⟨u, hu⟩ := head_some h123
        have CL := hide ((HO b c s p dp u W1 HR1.out hs hd).2 hu)
        clear h34 h91 h123 hu
        go_wp2_with fail
        refine CL.out.mono ?_
        rintro e w2 hm
        obtain ⟨v, m, rfl⟩ := hm.form
        have X2 := HX1.out.of_block (hm.1.block w.heap.size hsz (by omega) (by omega))
        have xc := X2.c
        have xf := X2.f
        have HX2 := hide X2
        have HM := hide hm
        clear hm X2 CL
        go_wp2_with fail
        obtain ⟨xs, xb⟩ := box_set5 HX2.out (.int .i64 v.k) (.int .i64 v.n) (.string v.s) (.slice v.ka v.kn v.kc) (.slice v.la v.ln v.lc)
        have xd := xs.c
        exact bodyPost_ret (v := .tuple #[.agg #[.int .i64 v.k, .int .i64 v.n, .string v.s, .slice v.ka v.kn v.kc, .slice v.la v.ln v.lc], .int .i64 m]) (by simp [results, Tryz.results61, go_sem, *]) rfl (vp_out HB1.out hsz ⟨hbl, hcl⟩ HM.out)
      | false =>
        rw [h123] at k123
        have hl : ∀ r, leafM (rst s p) = r → bareM d (rst s p) = match r with | .inl (x, q) => .inl (leafV d x, q) | .inr e => .inr e := fun r hr => by
          rw [← hr]
          exact bareM_leafV d _ (by intro h; rw [h] at h91; simp at h91) (by intro h; rw [h] at h123; simp at h123)
        have HL := hide hl
        have H34 := hide h34
        have hc1 := HR1.out.box.c
        have CT := hide (take_rd b c s p dp ⟨#[116, 114, 117, 101]⟩ W1 HR1.out (by omega))
        have et : (ByteArray.mk #[116, 114, 117, 101]).data.toList = [116, 114, 117, 101] := rfl
        have zt : (ByteArray.mk #[116, 114, 117, 101]).size = 4 := rfl
        rw [et, zt] at CT
        clear h91 h123 hl h34 et zt
        cases htr : hasPrefix (rst s p) [116, 114, 117, 101] with
        | true =>
          have HQ : Hid (bareM d (rst s p) = .inl (leafV d (.inr (.inr true)), rst s (p + 4))) := by
            show _ = _
            rw [HL.out (.inl (.inr (.inr true), rst s (p + 4))) (by unfold leafM begins; rw [if_neg (by intro h; have := H34.out; rw [h] at this; simp at this), htr, if_pos rfl, rst_drop])]
          rw [htr] at CT
          clear htr HL
          go_wp2_with fail
          refine CT.out.mono ?_
          rintro e w2 ⟨rfl, R2, O2⟩
          have X2 := HX1.out.of_block (O2.block w.heap.size (by omega))
          have xc := X2.c
          have xf := X2.f
          have HX2 := hide X2
          have HM : Hid (VPost b c s p dp d W1 (bareM d (rst s p)) (.returned (.tuple #[(⟨3, 1, ⟨#[]⟩, none, 0, 0, none, 0, 0⟩ : SV).val, .int .i64 ((0 : Nat) : Int)])) w2) := by
            show VPost _ _ _ _ _ _ _ _ _ _
            unfold VPost
            rw [HQ.out]
            exact ⟨Fr.ofOth O2, ⟨p + 4, by omega, rfl, R2⟩, _, rfl, VH.leafV (.inr (.inr true)) d⟩
          clear R2 O2 X2 CT
          go_wp2_with fail
          obtain ⟨xs, xb⟩ := box_set5 HX2.out (.int .i64 3) (.int .i64 1) (.string ⟨#[]⟩) (.slice none 0 0) (.slice none 0 0)
          have xd := xs.c
          exact bodyPost_ret (v := .tuple #[.agg #[.int .i64 3, .int .i64 1, .string ⟨#[]⟩, .slice none 0 0, .slice none 0 0], .int .i64 0]) (by simp [results, Tryz.results61, go_sem, *]) rfl (vp_out (n := 0) (v := ⟨3, 1, ⟨#[]⟩, none, 0, 0, none, 0, 0⟩) HB1.out hsz ⟨hbl, hcl⟩ HM.out)
        | false =>
          rw [htr] at CT
          have HTR := hide htr
          clear htr
          go_wp2_with fail
          refine CT.out.mono ?_
          rintro e w2 ⟨rfl, R2, O2⟩
          have X2 := HX1.out.of_block (O2.block w.heap.size (by omega))
          have HX2 := hide X2
          have HR2 := hide R2
          have HO2 := hide O2
          have hc2 := R2.box.c
          have CT2 := hide (take_rd b c s p dp ⟨#[102, 97, 108, 115, 101]⟩ w2 R2 (by omega))
          have et : (ByteArray.mk #[102, 97, 108, 115, 101]).data.toList = [102, 97, 108, 115, 101] := rfl
          have zt : (ByteArray.mk #[102, 97, 108, 115, 101]).size = 5 := rfl
          rw [et, zt] at CT2
          clear R2 O2 X2 CT hc1 et zt
          cases hfa : hasPrefix (rst s p) [102, 97, 108, 115, 101] with
          | true =>
            have HQ : Hid (bareM d (rst s p) = .inl (leafV d (.inr (.inr false)), rst s (p + 5))) := by
              show _ = _
              rw [HL.out (.inl (.inr (.inr false), rst s (p + 5))) (by unfold leafM begins; rw [if_neg (by intro h; have := H34.out; rw [h] at this; simp at this), HTR.out, if_neg (by simp), hfa, if_pos rfl, rst_drop])]
            rw [hfa] at CT2
            clear hfa HL
            go_wp2_with fail
            refine CT2.out.mono ?_
            rintro e w3 ⟨rfl, R3, O3⟩
            have X3 := HX2.out.of_block (O3.block w.heap.size (by omega))
            have xc := X3.c
            have xf := X3.f
            have HX3 := hide X3
            have HM : Hid (VPost b c s p dp d W1 (bareM d (rst s p)) (.returned (.tuple #[(⟨3, 0, ⟨#[]⟩, none, 0, 0, none, 0, 0⟩ : SV).val, .int .i64 ((0 : Nat) : Int)])) w3) := by
              show VPost _ _ _ _ _ _ _ _ _ _
              unfold VPost
              rw [HQ.out]
              exact ⟨(Fr.ofOth HO2.out).trans (Fr.ofOth O3), ⟨p + 5, by omega, rfl, R3⟩, _, rfl, VH.leafV (.inr (.inr false)) d⟩
            clear R3 O3 X3 CT2
            go_wp2_with fail
            obtain ⟨xs, xb⟩ := box_set5 HX3.out (.int .i64 3) (.int .i64 0) (.string ⟨#[]⟩) (.slice none 0 0) (.slice none 0 0)
            have xd := xs.c
            exact bodyPost_ret (v := .tuple #[.agg #[.int .i64 3, .int .i64 0, .string ⟨#[]⟩, .slice none 0 0, .slice none 0 0], .int .i64 0]) (by simp [results, Tryz.results61, go_sem, *]) rfl (vp_out (n := 0) (v := ⟨3, 0, ⟨#[]⟩, none, 0, 0, none, 0, 0⟩) HB1.out hsz ⟨hbl, hcl⟩ HM.out)
          | false =>
            rw [hfa] at CT2
            have HNQ : Hid (bareM d (rst s p) = match numM (rst s p) with | .inl (n, q) => .inl (leafV d (.inr (.inl n)), q) | .inr e => .inr e) := by
              show _ = _
              rw [HL.out _ rfl]
              unfold leafM begins
              rw [if_neg (by intro h; have := H34.out; rw [h] at this; simp at this), HTR.out, if_neg (by simp), hfa, if_neg (by simp)]
              cases numM (rst s p) with
              | inl y => rfl
              | inr e => rfl
            clear hfa HL
            go_wp2_with fail
            refine CT2.out.mono ?_
            rintro e w3 ⟨rfl, R3, O3⟩
            have X3 := HX2.out.of_block (O3.block w.heap.size (by omega))
            have F3 : Hid (Fr W1.heap.size b c W1 w3) := (Fr.ofOth HO2.out).trans (Fr.ofOth O3)
            have CQ := hide (number_rd b c s p dp w3 R3 (by omega))
            have hs3 : Hid (W1.heap.size ≤ w3.heap.size) := F3.out.size
            have CL : Hid (Calls Tryz.prog 78 #[.pointer (some ⟨b, 0, none⟩)] w3 (VPost b c s p dp d W1 (bareM d (rst s p)))) := CQ.out.mono fun e w' h => n_vp HNQ.out F3.out h
            have HX3 := hide X3
            have HW3 : Hid (w.heap.size < w3.heap.size) := X3.lt
            clear R3 O3 X3 CT2 CQ hc2
            go_wp2_with fail
            refine CL.out.mono ?_
            rintro e w4 hm
            obtain ⟨v, m, rfl⟩ := hm.form
            have X4 := HX1.out.of_block (hm.1.block w.heap.size hsz (by omega) (by omega))
            have xc := X4.c
            have xf := X4.f
            have HX4 := hide X4
            have HM := hide hm
            clear hm X4 CL
            go_wp2_with fail
            obtain ⟨xs, xb⟩ := box_set5 HX4.out (.int .i64 v.k) (.int .i64 v.n) (.string v.s) (.slice v.ka v.kn v.kc) (.slice v.la v.ln v.lc)
            have xd := xs.c
            exact bodyPost_ret (v := .tuple #[.agg #[.int .i64 v.k, .int .i64 v.n, .string v.s, .slice v.ka v.kn v.kc, .slice v.la v.ln v.lc], .int .i64 m]) (by simp [results, Tryz.results61, go_sem, *]) rfl (vp_out HB1.out hsz ⟨hbl, hcl⟩ HM.out)

set_option maxHeartbeats 8000000 in
set_option maxRecDepth 100000 in
theorem value_rd (d : Nat) (HO : OpenAt d) : ValueAt d := by
  intro b c s p dp w h hs hd
  obtain ⟨hbl, hcl⟩ := h.lt
  have H0 := hide (show Below w.heap.size w (w.alloc (.cells #[.int .i64 0, .int .i64 0, .string ⟨#[]⟩, .slice none 0 0, .slice none 0 0] 28)) from (by repeat (first | with_reducible assumption | with_reducible exact Below.refl _ _ | with_reducible refine Below.setCell ?_ (by first | exact Nat.le_refl _ | (simp; done) | (simp; omega)) _ | with_reducible refine bal ?_ _ | with_reducible refine Below.alloc ?_ (by first | exact Nat.le_refl _ | (simp; done) | (simp; omega)) _ | with_reducible refine Below.drew ?_)))
  have hX0 := hide (Box.new w #[.int .i64 0, .int .i64 0, .string ⟨#[]⟩, .slice none 0 0, .slice none 0 0] 28)
  have R0 := h.below H0.out
  have hc := R0.box.c
  have CB := hide (blanks_rd b c s p dp _ R0 (by omega))
  have hsz : w.heap.size < (w.alloc (.cells #[.int .i64 0, .int .i64 0, .string ⟨#[]⟩, .slice none 0 0, .slice none 0 0] 28)).heap.size := hX0.out.lt
  clear h R0
  go_enter Tryz.func43, Tryz.ntmps43
  go_wp2_with fail
  generalize w.alloc (.cells #[.int .i64 0, .int .i64 0, .string ⟨#[]⟩, .slice none 0 0, .slice none 0 0] 28) = W0 at *
  refine CB.out.mono ?_
  rintro e w1 ⟨t1, p1, rfl, hp1, hsk, R1, K1⟩
  have HSK := hide hsk
  have X1 := hX0.out.of_block (K1.block w.heap.size hsz (by omega))
  have HX1 := hide X1
  have F1 : Hid (Fr W0.heap.size b c W0 w1) := Fr.ofKept K1 (Nat.le_refl _)
  have hs1 := K1.size
  have CV := hide (bare_rd d HO b c s p1 dp w1 R1 hs hd)
  clear hsk R1 K1 X1 CB hc
  go_wp2_with fail
  refine CV.out.mono ?_
  rintro e w2 hm
  obtain ⟨v, m, rfl⟩ := hm.form
  have X2 := hide (HX1.out.of_block (hm.1.block w.heap.size (by omega) (by omega) (by omega)))
  have hs2 := hm.1.size
  have HM := hide hm
  have hX3 := Box.new w2 v.cells 28
  have hB3 : Below w2.heap.size w2 (w2.alloc (.cells v.cells 28)) := (by repeat (first | with_reducible assumption | with_reducible exact Below.refl _ _ | with_reducible refine Below.setCell ?_ (by first | exact Nat.le_refl _ | (simp; done) | (simp; omega)) _ | with_reducible refine bal ?_ _ | with_reducible refine Below.alloc ?_ (by first | exact Nat.le_refl _ | (simp; done) | (simp; omega)) _ | with_reducible refine Below.drew ?_))
  have HX3 := hide hX3
  have X23 := hide (X2.out.later hB3)
  have HB3 := hide hB3
  have hn3 : Hid (w2.heap.size < (w2.alloc (.cells v.cells 28)).heap.size) := hX3.lt
  have hV : valM d (rst s p) = match bareM d (rst s p1) with | .inr e => .inr e | .inl (a, q) => .inl (a, skip q) := by
    rw [← HSK.out]
    unfold valM around
    cases bareM d (skip (rst s p)) <;> rfl
  have HV := hide hV
  cases hbr : bareM d (rst s p1) with
  | inr y =>
    obtain ⟨m', q⟩ := y
    rw [hbr] at hm
    obtain ⟨hm1, ⟨p', dq, h2, h3⟩, u, hu⟩ := hm.2
    obtain ⟨rfl, rfl⟩ := ret_v hu
    have dm : ((m : Int) == 0) = false := by simp; omega
    have HM3 : Hid (VPost b c s p dp d W0 (valM d (rst s p)) (.returned (.tuple #[v.val, .int .i64 m])) (w2.alloc (.cells v.cells 28))) := by
      show VPost _ _ _ _ _ _ _ _ _ _
      unfold VPost
      rw [HV.out, hbr]
      exact ⟨(F1.out.trans (hm.1.mono hs1)).trans (Fr.ofBelow (hB3.mono (by omega))), hm1, ⟨p', dq, h2, h3.below hB3⟩, v, rfl⟩
    have x3 := hX3.c
    have xc := X23.out.c
    have xf := X23.out.f
    clear hm hm1 h2 h3 hu hX3 hB3 hV hbr CV
    go_wp2_with fail
    obtain ⟨xs, xb⟩ := box_set5 X23.out (.int .i64 v.k) (.int .i64 v.n) (.string v.s) (.slice v.ka v.kn v.kc) (.slice v.la v.ln v.lc)
    have xd := xs.c
    exact bodyPost_ret (v := .tuple #[.agg #[.int .i64 v.k, .int .i64 v.n, .string v.s, .slice v.ka v.kn v.kc, .slice v.la v.ln v.lc], .int .i64 m]) (by simp [results, Tryz.results43, go_sem, *]) rfl (vp_out H0.out hsz ⟨hbl, hcl⟩ HM3.out)
  | inl y =>
    obtain ⟨x, q⟩ := y
    rw [hbr] at hm
    obtain ⟨⟨p', h1, h2, h3⟩, u, hu, hv⟩ := hm.2
    obtain ⟨rfl, rfl⟩ := ret_v (m := 0) hu
    have R3 := h3.below hB3
    have hc := R3.box.c
    have CB := hide (blanks_rd b c s p' dp _ R3 (by omega))
    have HV3 := hide (hv.below hB3)
    have HF3 : Hid (Fr W0.heap.size b c W0 (w2.alloc (.cells v.cells 28))) := (F1.out.trans (hm.1.mono hs1)).trans (Fr.ofBelow (hB3.mono (by omega)))
    have HP := hide (And.intro h1 h2)
    clear hm h1 h2 h3 hu hv hX3 hB3 hV R3 CV
    have hbr2 := hide hbr
    clear hbr
    go_wp2_with fail
    refine CB.out.mono ?_
    rintro e w4 ⟨t2, p2, rfl, hp2, hsk2, R4, K4⟩
    have HX4 := hide (HX3.out.of_block (K4.block w2.heap.size hn3.out (by omega)))
    have X24 := hide (X23.out.of_block (K4.block w.heap.size (by have := hn3.out; omega) (by omega)))
    have HM4 : Hid (VPost b c s p dp d W0 (valM d (rst s p)) (.returned (.tuple #[v.val, .int .i64 ((0 : Nat) : Int)])) w4) := by
      show VPost _ _ _ _ _ _ _ _ _ _
      unfold VPost
      rw [HV.out, hbr2.out]
      exact ⟨HF3.out.trans (Fr.ofKept K4 (by have := HF3.out.size; omega)), ⟨p2, by have := HP.out; omega, by rw [← hsk2, HP.out.2], R4⟩, v, rfl, HV3.out.keep (fun k hk hlt => K4.block k hlt (by omega)) (fun k hk _ => by omega)⟩
    have x4 := HX4.out.c
    have xc := X24.out.c
    have xf := X24.out.f
    clear R4 K4 CB hc hsk2
    go_wp2_with fail
    obtain ⟨xs, xb⟩ := box_set5 X24.out (.int .i64 v.k) (.int .i64 v.n) (.string v.s) (.slice v.ka v.kn v.kc) (.slice v.la v.ln v.lc)
    have xd := xs.c
    exact bodyPost_ret (v := .tuple #[.agg #[.int .i64 v.k, .int .i64 v.n, .string v.s, .slice v.ka v.kn v.kc, .slice v.la v.ln v.lc], .int .i64 0]) (by simp [results, Tryz.results43, go_sem, *]) rfl (vp_out (n := 0) H0.out hsz ⟨hbl, hcl⟩ HM4.out)

/-- At each depth. -/
theorem value_all : ∀ d, ValueAt d
  | 0 => value_rd 0 open_zero
  | d + 1 => value_rd (d + 1) fun b c s p dp u w h hs hd => ⟨fun hu => list_rd d (value_all d) b c s p dp u w h hs hd hu, fun hu => pairs_rd d (value_all d) b c s p dp u w h hs hd hu⟩

end Go.Proofs.YtnmmhihfnphjeaaGreatDoor.B

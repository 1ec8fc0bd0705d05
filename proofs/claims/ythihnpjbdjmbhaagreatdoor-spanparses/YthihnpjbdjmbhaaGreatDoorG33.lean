/-
  What a law is told of its slices of integers.
  Contracts of the third law's within and known.
  Contracts of the third law's Raw, Make.
  Contract of the reference's Same.
  Contract of the third law's known.
  The contracts of span's and the reference's operations as the laws use them: slices in, slices out.
-/
import Derived.Test.YthihnpjbdjmbhaaGreatDoorG14
import Derived.OpenShut
import Derived.Test.YthihnpjbdjmbhaaGreatDoorG27
import Derived.Test.YthihnpjbdjmbhaaGreatDoorG28
import Derived.Test.YthihnpjbdjmbhaaGreatDoorG22
import Derived.Test.YthihnpjbdjmbhaaGreatDoorG10
import Derived.Test.YthihnpjbdjmbhaaGreatDoorG32
import Derived.Test.YthihnpjbdjmbhaaGreatDoorG29
import Derived.Test.YthihnpjbdjmbhaaGreatDoorG18
import Derived.BigQuiet

namespace Go.Proofs.YthihnpjbdjmbhaaGreatDoor
set_option linter.unusedSimpArgs false
set_option linter.unusedVariables false
open Go.RowKit Go.Tx Go.Joins Go.Vr

/-- A slice of integers that is there: its elements 'xs'. -/
structure Row (k : IntKind) (w : World) (a : Option Addr) (len cap : Nat) (xs : List Int) : Prop where
  n : xs.length = len
  nil : a = none → len = 0 ∧ cap = 0
  le : len ≤ cap
  mx : cap ≤ maxLen
  cell : ∀ x, a = some x → ∀ i, i < len → w.cell? (x.add i) = some (.int k (xs.getD i 0))
  wf : ∀ z ∈ xs, (Lit.int k z).wf = true

/-- A slice of integers that came in: nil, or a row of 'cap' cells. -/
def IsRow (k : IntKind) (w : World) (a : Option Addr) (len cap : Nat) (zs : List Int) : Prop :=
  (a = none ∧ len = 0 ∧ cap = 0 ∧ zs = []) ∨
  ∃ x, a = some x ∧ len ≤ cap ∧ cap ≤ maxLen ∧ zs.length = cap ∧ (∀ i, i < zs.length → w.cell? (x.add i) = some (.int k (zs.getD i 0))) ∧ ∀ n ∈ zs, (Lit.int k n).wf = true

theorem IsRow.row {k : IntKind} {w : World} {a : Option Addr} {len cap : Nat} {zs : List Int} (h : IsRow k w a len cap zs) : Row k w a len cap (zs.take len) := by
  rcases h with ⟨rfl, rfl, rfl, rfl⟩ | ⟨x, rfl, hl, hm, hz, hc, hw⟩
  · exact ⟨rfl, fun _ => ⟨rfl, rfl⟩, Nat.le_refl _, Nat.zero_le _, (fun x e => nomatch e), fun z hz => by simp at hz⟩
  · refine ⟨by simp; omega, (fun e => nomatch e), hl, hm, fun y e i hi => ?_, fun z hz2 => hw z (List.mem_of_mem_take hz2)⟩
    obtain rfl : x = y := by simpa using e
    rw [hc i (by omega)]
    simp [List.getD, hi]

theorem Row.later {k : IntKind} {w w' : World} {a : Option Addr} {len cap : Nat} {xs : List Int} (h : Row k w a len cap xs) (hb : Below w.heap.size w w') : Row k w' a len cap xs :=
  ⟨h.n, h.nil, h.le, h.mx, fun x e i hi => cellLater hb (h.cell x e i hi), h.wf⟩

theorem bd64 {n : Int} (h : (Lit.int .i64 n).wf = true) : -9223372036854775808 ≤ n ∧ n ≤ 9223372036854775807 := bounds_i64 h
end Go.Proofs.YthihnpjbdjmbhaaGreatDoor

namespace Go.Proofs.YthihnpjbdjmbhaaGreatDoor
set_option linter.unusedSimpArgs false
set_option linter.unusedVariables false
open Go.RowKit Go.Vr Go.Sort Go.Tx Go.Lib
attribute [local go_sem] setCellDrewN allocDrewN

set_option maxHeartbeats 400000 in
theorem within3_any (a n : Int) (w : World) (h1 : 1 ≤ n) (h2 : n ≤ 4611686018427387904) (h3 : -9223372036854775808 ≤ a) (h4 : a ≤ 9223372036854775807) :
    Calls Tryz.prog 6 #[.int .i64 a, .int .i64 n] w fun e w' => e = .returned (.int .i64 (a % n)) ∧ w' = w := by
  obtain ⟨hb1, hb2⟩ := Tx.tmod_bd a n h1
  go_enter Tryz.func6, Tryz.ntmps6
  go_wp2
  · go_ret
    exact ⟨ret_int (Tx.tmod_dn a n h1 (by assumption)), rfl⟩
  · go_ret
    exact ⟨ret_int (Tx.tmod_up a n h1 (by assumption)), rfl⟩
theorem within3 (a n : Int) (w : World) (h1 : 1 ≤ n) (h2 : n ≤ 4611686018427387904) (h3 : -9223372036854775808 ≤ a) (h4 : a ≤ 9223372036854775807) :
    Calls Tryz.prog 6 #[.int .i64 a, .int .i64 n] w fun e w' => ∃ k : Nat, e = .returned (.int .i64 k) ∧ (k : Int) < n ∧ Hid ((k : Int) = a % n) ∧ w' = w := by
  refine (within3_any a n w h1 h2 h3 h4).mono ?_
  rintro e w' ⟨rfl, rfl⟩
  have b1 := Int.emod_nonneg a (b := n) (by omega)
  have b2 := Int.emod_lt_of_pos a (b := n) (by omega)
  exact ⟨(a % n).toNat, by rw [Int.toNat_of_nonneg b1], by omega, Int.toNat_of_nonneg b1, rfl⟩

/-- The chapter's example: ^v1.2.3; v1.9.0. -/
def kS : Sp.S := (some (⟨1, 2, 3, ⟨#[]⟩⟩, false), some (⟨2, 0, 0, ⟨#[48]⟩⟩, false))
def kV : V := ⟨1, 9, 0, ⟨#[]⟩⟩
def kN : List Sp.S := [(Sp.start, some (⟨1, 2, 3, ⟨#[]⟩⟩, false)), (some (⟨2, 0, 0, ⟨#[48]⟩⟩, false), none)]
theorem k3_parse : Sp.parseS (ByteArray.mk #[94, 118, 49, 46, 50, 46, 51]).data.toList = (some [kS], 7) := Prod.ext (by decide +kernel) (by decide +kernel)
theorem k3_ver : parse (ByteArray.mk #[118, 49, 46, 57, 46, 48]).data.toList = some kV := by decide +kernel
theorem k3_vok : kV.ok = true := by decide +kernel
theorem k3_text : str (tAll [kS]) = ⟨#[91, 118, 49, 46, 50, 46, 51, 44, 118, 50, 46, 48, 46, 48, 45, 48, 41]⟩ := by decide +kernel
theorem k3_none : str (tAll []) = ⟨#[45]⟩ := by decide +kernel
theorem k3_has : [kS].any (inSp (some (kV, false))) = true := by decide +kernel
theorem k3_hasn : kN.any (inSp (some (kV, false))) = false := by decide +kernel
theorem k3_not : Sp.notL [kS] = kN := by decide +kernel
theorem k3_notn : Sp.notL [] = [(Sp.start, none)] := by decide +kernel
theorem k3_and : Sp.allL [[kS], []] = [] := by decide +kernel
theorem k3_or : Sp.nrm [[kS], [kS], [kS]].flatten = [kS] := by decide +kernel
theorem k3_ok : Sp.okL [kS] := by
  intro s hs
  obtain rfl := List.mem_singleton.1 hs
  exact ⟨⟨_, rfl⟩, Sp.ok_v (by decide +kernel) false, Sp.ok_v (by decide +kernel) false⟩
theorem k3_okn : Sp.okL kN := by rw [← k3_not]; exact Sp.ok_not k3_ok
theorem k3_oknil : Sp.okL [] := fun _ h => nomatch h
theorem k3_ia : IA ⟨#[94, 118, 49, 46, 50, 46, 51]⟩ := ia_ascii _ (by decide) (by decide)

end Go.Proofs.YthihnpjbdjmbhaaGreatDoor

namespace Go.Proofs.YthihnpjbdjmbhaaGreatDoor
set_option linter.unusedSimpArgs false
set_option linter.unusedVariables false
open Go.RowKit Go.Vr Go.Sort Go.Tx Go.Lib
attribute [local go_sem] setCellDrewN allocDrewN

theorem ERow.newP (w : World) (x : Pt) (T : TypeId) (n : Nat) (h : n = w.heap.size) : ERow EP (w.alloc (.cells x.row.toArray T)) (some ⟨n, 0, .none⟩) 1 [x] := by subst h; exact ERow.new EP w x T
theorem okp_app {ps : List Pt} {v u : V} {x y z : Bool} (h : ∀ q ∈ ps, okPt q) (hv : v.ok = true) (hu : u.ok = true) : ∀ q ∈ ps ++ [⟨v.a, v.b, v.c, v.p, u.a, u.b, u.c, u.p, x, y, z⟩], okPt q := by
  intro q hq
  rcases List.mem_append.1 hq with hq | hq
  · exact h q hq
  · rw [List.mem_singleton.1 hq]; exact ⟨hv, hu⟩

end Go.Proofs.YthihnpjbdjmbhaaGreatDoor

namespace Go.Proofs.YthihnpjbdjmbhaaGreatDoor
set_option linter.unusedSimpArgs false
set_option linter.unusedVariables false
open Go.RowKit Go.Vr Go.Sort Go.Tx Go.Lib
attribute [local go_sem] setCellDrewN allocDrewN

theorem pt_inj {s t : Sp.S} (hs : Sp.okS s) (ht : Sp.okS t) (h : pt s = pt t) : s = t := by rw [← pS_pt hs, ← pS_pt ht, h]

theorem bytes_inj {s t : ByteArray} (h : s.toList = t.toList) : s = t := by rw [toList_data, toList_data] at h; exact ba_ext h
theorem ne_cases {q r : Pt} (h : ¬ q = r) : (¬ q.a = r.a) ∨ (q.a = r.a ∧ ¬ q.b = r.b) ∨ (q.a = r.a ∧ q.b = r.b ∧ ¬ q.c = r.c) ∨ (q.a = r.a ∧ q.b = r.b ∧ q.c = r.c ∧ ¬ q.p.toList = r.p.toList) ∨ (q.a = r.a ∧ q.b = r.b ∧ q.c = r.c ∧ q.p.toList = r.p.toList ∧ ¬ q.a' = r.a') ∨ (q.a = r.a ∧ q.b = r.b ∧ q.c = r.c ∧ q.p.toList = r.p.toList ∧ q.a' = r.a' ∧ ¬ q.b' = r.b') ∨ (q.a = r.a ∧ q.b = r.b ∧ q.c = r.c ∧ q.p.toList = r.p.toList ∧ q.a' = r.a' ∧ q.b' = r.b' ∧ ¬ q.c' = r.c') ∨ (q.a = r.a ∧ q.b = r.b ∧ q.c = r.c ∧ q.p.toList = r.p.toList ∧ q.a' = r.a' ∧ q.b' = r.b' ∧ q.c' = r.c' ∧ ¬ q.p'.toList = r.p'.toList) ∨ (q.a = r.a ∧ q.b = r.b ∧ q.c = r.c ∧ q.p.toList = r.p.toList ∧ q.a' = r.a' ∧ q.b' = r.b' ∧ q.c' = r.c' ∧ q.p'.toList = r.p'.toList ∧ ¬ q.x = r.x) ∨ (q.a = r.a ∧ q.b = r.b ∧ q.c = r.c ∧ q.p.toList = r.p.toList ∧ q.a' = r.a' ∧ q.b' = r.b' ∧ q.c' = r.c' ∧ q.p'.toList = r.p'.toList ∧ q.x = r.x ∧ ¬ q.y = r.y) ∨ (q.a = r.a ∧ q.b = r.b ∧ q.c = r.c ∧ q.p.toList = r.p.toList ∧ q.a' = r.a' ∧ q.b' = r.b' ∧ q.c' = r.c' ∧ q.p'.toList = r.p'.toList ∧ q.x = r.x ∧ q.y = r.y ∧ ¬ q.z = r.z) := by
  refine Classical.byContradiction fun n => h ?_
  simp only [not_or, not_and, Classical.not_not] at n
  obtain ⟨n0, n1, n2, n3, n4, n5, n6, n7, n8, n9, n10⟩ := n
  have e1 := n1 n0
  have e2 := n2 n0 e1
  have e3 := n3 n0 e1 e2
  have e4 := n4 n0 e1 e2 e3
  have e5 := n5 n0 e1 e2 e3 e4
  have e6 := n6 n0 e1 e2 e3 e4 e5
  have e7 := n7 n0 e1 e2 e3 e4 e5 e6
  have e8 := n8 n0 e1 e2 e3 e4 e5 e6 e7
  have e9 := n9 n0 e1 e2 e3 e4 e5 e6 e7 e8
  have e10 := n10 n0 e1 e2 e3 e4 e5 e6 e7 e8 e9
  have p3 := bytes_inj e3
  have p7 := bytes_inj e7
  cases q
  cases r
  simp only [Pt.mk.injEq]
  exact ⟨n0, e1, e2, p3, e4, e5, e6, p7, e8, e9, e10⟩

set_option maxHeartbeats 8000000 in
set_option maxRecDepth 100000 in
theorem rsame_any (a b : Option Addr) (n m cn cm : Nat) (l k : List Sp.S) (w : World) (hl : ERow ES w a n l) (hk : ERow ES w b m k) (hn : n ≤ 10000) (ho : Sp.okL l) (ho2 : Sp.okL k) :
    Calls Tryz.prog 9 #[.slice a n cn, .slice b m cm] w fun e w' => e = .returned (.bool (decide (l = k))) ∧ RowKit.Below w.heap.size w w' := by
  have HL := hide hl
  have HK := hide hk
  have hln := hl.n
  have hkn := hk.n
  clear hl hk
  by_cases hnm : n = m
  · subst hnm
    go_enter Tryz.func9, Tryz.ntmps9
    go_wp2_with fail
    go_loopw [5] (fun i wr => ∃ j : Nat, j ≤ n ∧ i = .int .i64 j ∧ Hid (l.take j = k.take j) ∧ RowKit.Below w.heap.size w wr) (fun i _ => n - (RowKit.intOf i).toNat)
    case atStart => exact ⟨0, by omega, rfl, rfl, RowKit.Below.refl _ _⟩
    case round =>
      obtain ⟨j, hj, rfl, HT, hB⟩ := hrel
      by_cases hlt : j < n
      · obtain ⟨g, off, rfl⟩ := HL.out.spot (by omega)
        obtain ⟨g2, off2, rfl⟩ := HK.out.spot (by omega)
        have h1 : j < l.length := by omega
        have h2 : j < k.length := by omega
        obtain ⟨d0, d1, d2, d3, d4, d5, d6, d7, d8, d9, d10⟩ := ES_at (HL.out.later hB) j l[j] (List.getElem?_eq_getElem h1)
        obtain ⟨f0, f1, f2, f3, f4, f5, f6, f7, f8, f9, f10⟩ := ES_at (HK.out.later hB) j k[j] (List.getElem?_eq_getElem h2)
        have hp := @pt_inj l[j] k[j] (ho _ (List.getElem_mem h1)) (ho2 _ (List.getElem_mem h2))
        have HT1 : Hid (l.take (j + 1) = l.take j ++ [l[j]]) := List.take_succ_eq_append_getElem h1
        have HT2 : Hid (k.take (j + 1) = k.take j ++ [k[j]]) := List.take_succ_eq_append_getElem h2
        have HG1 : Hid (l[j]? = some l[j]) := List.getElem?_eq_getElem h1
        have HG2 : Hid (k[j]? = some k[j]) := List.getElem?_eq_getElem h2
        generalize l[j] = x at *
        generalize k[j] = y at *
        have i1 : (0 : Int) ≤ (j : Int) := by omega
        have i2 : (j : Int) < (n : Int) := by omega
        by_cases hxy : pt x = pt y
        · have HXY : Hid (x = y) := hp hxy
          rw [← hxy] at f0 f1 f2 f3 f4 f5 f6 f7 f8 f9 f10
          clear hp hxy
          generalize pt x = q at *
          generalize pt y = q2 at *
          go_wp2_with fail
          go_quiet (fail)
          go_wp2_with fail
          go_roundw
          case rel => exact ⟨j + 1, by omega, by go_num, (show l.take (j + 1) = k.take (j + 1) by rw [HT1.out, HT2.out, HT.out, HXY.out]), step hB (belDrewN _ _)⟩
          case measure => simp [RowKit.intOf]; omega
        · have HNE : Hid (l ≠ k) := fun e => by
            have h3 := HG1.out
            rw [e, HG2.out] at h3
            exact hxy (by rw [Option.some.inj h3])
          clear hp
          have hcs := ne_cases hxy
          clear hxy
          generalize pt x = q at *
          generalize pt y = q2 at *
          rcases hcs with c0 | ⟨c0, c1⟩ | ⟨c0, c1, c2⟩ | ⟨c0, c1, c2, c3⟩ | ⟨c0, c1, c2, c3, c4⟩ | ⟨c0, c1, c2, c3, c4, c5⟩ | ⟨c0, c1, c2, c3, c4, c5, c6⟩ | ⟨c0, c1, c2, c3, c4, c5, c6, c7⟩ | ⟨c0, c1, c2, c3, c4, c5, c6, c7, c8⟩ | ⟨c0, c1, c2, c3, c4, c5, c6, c7, c8, c9⟩ | ⟨c0, c1, c2, c3, c4, c5, c6, c7, c8, c9, c10⟩
          all_goals
            go_wp2_with fail
            go_quiet (fail)
            go_wp2_with fail
            go_ret
            exact ⟨ret_b (by rw [decide_eq_false HNE.out]), step hB (belDrewN _ _)⟩
      · have hd : decide ((j : Int) < (n : Int)) = false := by simp; omega
        have HE : Hid (l = k) := by
          have := HT.out
          rw [List.take_of_length_le (by omega), List.take_of_length_le (by omega)] at this
          exact this
        go_wp2_with fail
        go_ret
        exact ⟨ret_b (by rw [decide_eq_true HE.out]), hB⟩
  · have hne : l ≠ k := fun e => hnm (by rw [← hln, ← hkn, e])
    have HNE := hide hne
    have hd : ((n : Int) != (m : Int)) = true := by simp; omega
    have hd2 : ¬ (n : Int) = (m : Int) := by omega
    clear hne
    go_enter Tryz.func9, Tryz.ntmps9
    go_wp2_with fail
    go_ret
    exact ⟨ret_b (by rw [decide_eq_false HNE.out]), RowKit.Below.refl _ _⟩
end Go.Proofs.YthihnpjbdjmbhaaGreatDoor

namespace Go.Proofs.YthihnpjbdjmbhaaGreatDoor
set_option linter.unusedSimpArgs false
set_option linter.unusedVariables false
open Go.RowKit Go.Vr Go.Sort Go.Tx Go.Lib
attribute [local go_sem] setCellDrewN allocDrewN

theorem k3_cparse (W : World) (he : Env W) : Calls Tryz.prog 7 #[.string ⟨#[94, 118, 49, 46, 50, 46, 51]⟩] W fun e w' => ∃ ad cp, e = .returned (.tuple #[.slice ad 1 cp, .int .i64 0, .int .i64 0]) ∧ ERow ES w' ad 1 [kS] ∧ RowKit.Below W.heap.size W w' := by
  refine (sparse_any _ W (by decide) k3_ia he).mono ?_
  rintro e w' ⟨h, hb⟩
  rw [k3_parse] at h
  obtain ⟨v', rfl, ho⟩ : ∃ v', e = .returned (.tuple #[v', .int .i64 0, .int .i64 0]) ∧ EOwn ES w' W.heap.size v' [kS] := h
  obtain ⟨ad, cp, rfl, _, _, hr⟩ := ho.any
  exact ⟨ad, cp, rfl, hr, hb⟩
theorem k3_cver (W : World) : Calls Tryz.prog 10 #[.string ⟨#[118, 49, 46, 57, 46, 48]⟩] W fun e w' => e = .returned (.tuple #[ver 1 9 0 ⟨#[]⟩, .bool true]) ∧ RowKit.Below W.heap.size W w' := by
  have h := rparse_any ⟨#[118, 49, 46, 57, 46, 48]⟩ W (by decide)
  rw [k3_ver] at h
  exact h
theorem k3_cnil (W : World) (he : Env W) : Calls Tryz.prog 11 #[.slice none 0 0] W fun e w' => ∃ g cp, e = .returned (.slice (some ⟨g, 0, none⟩) 1 cp) ∧ w'.cell? ⟨g, 10, none⟩ = some (.bool true) ∧ RowKit.Below W.heap.size W w' := by
  refine (not_any none 0 0 [] W (ERow.none W) (by omega) k3_oknil he).mono ?_
  rintro e w' ⟨v', rfl, ho, hb⟩
  rw [k3_notn] at ho
  rcases ho.form with ⟨_, h⟩ | ⟨g, cap, rfl, _, _, _, _, hr⟩
  · exact nomatch h
  · exact ⟨g, cap, rfl, hr.at_ 0 (Sp.start, none) rfl 10 _ rfl, hb⟩
theorem k3_ctext (W : World) (ad : Option Addr) (cp : Nat) (he : Env W) (h : ERow ES W ad 1 [kS]) : Calls Tryz.prog 12 #[.slice ad 1 cp] W fun e w' => e = .returned (.string ⟨#[91, 118, 49, 46, 50, 46, 51, 44, 118, 50, 46, 48, 46, 48, 45, 48, 41]⟩) ∧ RowKit.Below W.heap.size W w' := by
  have := stext_any ad 1 cp [kS] W h (by omega) k3_ok he
  rw [k3_text] at this
  exact this
theorem k3_ctextn (W : World) (he : Env W) : Calls Tryz.prog 12 #[.slice none 0 0] W fun e w' => e = .returned (.string ⟨#[45]⟩) ∧ RowKit.Below W.heap.size W w' := by
  have := stext_any none 0 0 [] W (ERow.none W) (by omega) k3_oknil he
  rw [k3_none] at this
  exact this
theorem k3_chas (W : World) (ad : Option Addr) (cp : Nat) (he : Env W) (h : ERow ES W ad 1 [kS]) : Calls Tryz.prog 13 #[.slice ad 1 cp, ver 1 9 0 ⟨#[]⟩] W fun e w' => e = .returned (.bool true) ∧ RowKit.Below W.heap.size W w' := by
  have := has_any ad 1 cp [kS] kV W h (by omega) k3_ok k3_vok he
  rw [k3_has] at this
  exact this
theorem k3_chasn (W : World) (ad : Option Addr) (cp : Nat) (he : Env W) (h : ERow ES W ad 2 kN) : Calls Tryz.prog 13 #[.slice ad 2 cp, ver 1 9 0 ⟨#[]⟩] W fun e w' => e = .returned (.bool false) ∧ RowKit.Below W.heap.size W w' := by
  have := has_any ad 2 cp kN kV W h (by omega) k3_okn k3_vok he
  rw [k3_hasn] at this
  exact this
theorem k3_cnot (W : World) (ad : Option Addr) (cp : Nat) (he : Env W) (h : ERow ES W ad 1 [kS]) : Calls Tryz.prog 11 #[.slice ad 1 cp] W fun e w' => ∃ a2 c2, e = .returned (.slice a2 2 c2) ∧ ERow ES w' a2 2 kN ∧ RowKit.Below W.heap.size W w' := by
  refine (not_any ad 1 cp [kS] W h (by omega) k3_ok he).mono ?_
  rintro e w' ⟨v', rfl, ho, hb⟩
  rw [k3_not] at ho
  obtain ⟨a2, c2, rfl, _, _, hr⟩ := ho.any
  exact ⟨a2, c2, rfl, hr, hb⟩
theorem k3_cand (W : World) (ad : Option Addr) (cp : Nat) (he : Env W) (h : ERow ES W ad 1 [kS]) : Calls Tryz.prog 14 #[.slice ad 1 cp, .slice none 0 0] W fun e w' => ∃ a2 c2, e = .returned (.slice a2 0 c2) ∧ RowKit.Below W.heap.size W w' := by
  refine (and_any ad none 1 0 cp 0 [kS] [] W h (ERow.none W) (by omega) k3_ok k3_oknil he).mono ?_
  rintro e w' ⟨v', rfl, ho, hb⟩
  rw [k3_and] at ho
  obtain ⟨a2, c2, rfl, _, _, hr⟩ := ho.any
  exact ⟨a2, c2, rfl, hb⟩
/-- Two, three slices laid for a call. -/
theorem rrow3 {W : World} {a b c : Sl} {l m k : List Sp.S} (T : TypeId) (h1 : ERow ES W a.a a.n l) (h2 : ERow ES W b.a b.n m) (h3 : ERow ES W c.a c.n k) :
    RRow (W.alloc (.cells #[a.val, b.val, c.val] T)) (some ⟨W.heap.size, 0, none⟩) 3 [l, m, k] := by
  have hb : RowKit.Below W.heap.size W (W.alloc (.cells #[a.val, b.val, c.val] T)) := (by repeat (first | with_reducible assumption | with_reducible exact Below.refl _ _ | with_reducible refine Below.setCell ?_ (by first | exact Nat.le_refl _ | (simp; done) | (simp; omega)) _ | with_reducible refine bal ?_ _ | with_reducible refine Below.alloc ?_ (by first | exact Nat.le_refl _ | (simp; done) | (simp; omega)) _ | with_reducible refine Below.drew ?_))
  refine ⟨[a, b, c], ⟨rfl, (fun e => nomatch e), fun x e j v hj => ?_⟩, h1.later hb, h2.later hb, h3.later hb, trivial⟩
  obtain rfl : ⟨W.heap.size, 0, .none⟩ = x := by simpa using e
  rw [addr_add, Nat.zero_add, (Box.new W _ T).c]
  simpa [El.encs, ER] using hj
theorem rrow2 {W : World} {a b : Sl} {l m : List Sp.S} (T : TypeId) (h1 : ERow ES W a.a a.n l) (h2 : ERow ES W b.a b.n m) :
    RRow (W.alloc (.cells #[a.val, b.val] T)) (some ⟨W.heap.size, 0, none⟩) 2 [l, m] := by
  have hb : RowKit.Below W.heap.size W (W.alloc (.cells #[a.val, b.val] T)) := (by repeat (first | with_reducible assumption | with_reducible exact Below.refl _ _ | with_reducible refine Below.setCell ?_ (by first | exact Nat.le_refl _ | (simp; done) | (simp; omega)) _ | with_reducible refine bal ?_ _ | with_reducible refine Below.alloc ?_ (by first | exact Nat.le_refl _ | (simp; done) | (simp; omega)) _ | with_reducible refine Below.drew ?_))
  refine ⟨[a, b], ⟨rfl, (fun e => nomatch e), fun x e j v hj => ?_⟩, h1.later hb, h2.later hb, trivial⟩
  obtain rfl : ⟨W.heap.size, 0, .none⟩ = x := by simpa using e
  rw [addr_add, Nat.zero_add, (Box.new W _ T).c]
  simpa [El.encs, ER] using hj
theorem k3_cor (W : World) (ad : Option Addr) (cp : Nat) (he : Env W) (h : ERow ES W ad 1 [kS]) : Calls Tryz.prog 15 #[.slice (some ⟨W.heap.size, 0, none⟩) 3 3] (W.alloc (.cells #[.slice ad 1 cp, .slice ad 1 cp, .slice ad 1 cp] 28)) fun e w' => ∃ a2 c2, e = .returned (.slice a2 1 c2) ∧ RowKit.Below W.heap.size W w' := by
  have hb : RowKit.Below W.heap.size W (W.alloc (.cells #[.slice ad 1 cp, .slice ad 1 cp, .slice ad 1 cp] 28)) := (by repeat (first | with_reducible assumption | with_reducible exact Below.refl _ _ | with_reducible refine Below.setCell ?_ (by first | exact Nat.le_refl _ | (simp; done) | (simp; omega)) _ | with_reducible refine bal ?_ _ | with_reducible refine Below.alloc ?_ (by first | exact Nat.le_refl _ | (simp; done) | (simp; omega)) _ | with_reducible refine Below.drew ?_))
  have hr := rrow3 (a := ⟨ad, 1, cp⟩) (b := ⟨ad, 1, cp⟩) (c := ⟨ad, 1, cp⟩) 28 h h h
  refine (sor_any (some ⟨W.heap.size, 0, none⟩) 3 3 [[kS], [kS], [kS]] _ hr (by omega) (by decide) ?_ (he.later hb)).mono ?_
  · intro s hs
    have : s = kS := by simpa using hs
    subst this
    exact k3_ok _ (by simp)
  rintro e w' ⟨v', rfl, ho, b2⟩
  rw [k3_or] at ho
  obtain ⟨a2, c2, rfl, _, _, _⟩ := ho.any
  exact ⟨a2, c2, rfl, step hb b2⟩

set_option maxHeartbeats 8000000 in
set_option maxRecDepth 100000 in
theorem known3_any (w : World) (he : Env w) :
    Calls Tryz.prog 4 #[] w fun e w' => e = .returned (.bool true) ∧ RowKit.Below w.heap.size w w' := by
  have HE := hide he
  have CP := hide (k3_cparse w he)
  have CV : Hid (∀ W : World, Calls Tryz.prog 10 #[.string ⟨#[118, 49, 46, 57, 46, 48]⟩] W fun e w' => e = .returned (.tuple #[ver 1 9 0 ⟨#[]⟩, .bool true]) ∧ RowKit.Below W.heap.size W w') := k3_cver
  clear he
  go_enter Tryz.func4, Tryz.ntmps4
  go_wp2_with fail
  refine CP.out.mono ?_
  rintro e w1 ⟨ad, cp, rfl, r1, b1⟩
  have HR1 := hide r1
  have HB1 := hide b1
  clear CP r1 b1
  go_wp2_with fail
  refine (CV.out _).mono ?_
  rintro e w2 ⟨rfl, b2⟩
  have HR2 := hide (HR1.out.later b2)
  have HB2 := hide (step HB1.out b2)
  have X2 := hide (Box.new w2 #[.int .i64 1, .int .i64 9, .int .i64 0, .string ⟨#[]⟩] 37)
  have ba : RowKit.Below w2.heap.size w2 (w2.alloc (.cells #[.int .i64 1, .int .i64 9, .int .i64 0, .string ⟨#[]⟩] 37)) := (by repeat (first | with_reducible assumption | with_reducible exact Below.refl _ _ | with_reducible refine Below.setCell ?_ (by first | exact Nat.le_refl _ | (simp; done) | (simp; omega)) _ | with_reducible refine bal ?_ _ | with_reducible refine Below.alloc ?_ (by first | exact Nat.le_refl _ | (simp; done) | (simp; omega)) _ | with_reducible refine Below.drew ?_))
  have HB3 := hide (step HB2.out ba)
  have HR3 := hide (HR2.out.later ba)
  have CN := hide (k3_cnil _ (HE.out.later HB3.out))
  clear CV b2 HR1 HB1 HR2 HB2 ba
  go_wp2_with fail
  refine CN.out.mono ?_
  rintro e w3 ⟨g, cpn, rfl, cg, b3⟩
  have HB4 := hide (step HB3.out b3)
  have HR4 := hide (HR3.out.later b3)
  have X4 := X2.out.later b3
  have E4 := hide (HE.out.later HB4.out)
  generalize w2.heap.size = N at *
  have KX : ∀ w', RowKit.Below w3.heap.size w3 w' → ∀ i, w'.cell? ⟨N, i, none⟩ = (#[.int .i64 1, .int .i64 9, .int .i64 0, .string ⟨#[]⟩] : Array Value)[i]? := fun w' h => (X4.later h).c
  have KG : ∀ w', RowKit.Below w3.heap.size w3 w' → w'.cell? ⟨g, 10, none⟩ = some (.bool true) := fun w' h => cellLater h cg
  have hB0 := RowKit.Below.refl w3.heap.size w3
  clear X2 X4 CN b3 HB3 HR3 cg
  go_wp2_with fail
  go_region_held3 (fun w' => RowKit.Below w3.heap.size w3 w') (first | assumption | exact (by repeat (first | with_reducible assumption | with_reducible exact Below.refl _ _ | with_reducible refine Below.setCell ?_ (by first | exact Nat.le_refl _ | (simp; done) | (simp; omega)) _ | with_reducible refine bal ?_ _ | with_reducible refine Below.alloc ?_ (by first | exact Nat.le_refl _ | (simp; done) | (simp; omega)) _ | with_reducible refine Below.drew ?_))) (first
    | (go_at_call_of 12 (Value.slice none 0 0); refine (k3_ctextn _ (E4.out.later (by assumption))).mono ?_; rintro e w5 ⟨rfl, b5⟩; have b5 : RowKit.Below w3.heap.size w3 w5 := (by refine Below.trans ?_ (Below.mono b5 ?_); rotate_left; exact Below.size (by with_reducible assumption); with_reducible assumption))
    | (go_at_call 12; refine (k3_ctext _ _ _ (E4.out.later (by first | assumption | exact (by repeat (first | with_reducible assumption | with_reducible exact Below.refl _ _ | with_reducible refine Below.setCell ?_ (by first | exact Nat.le_refl _ | (simp; done) | (simp; omega)) _ | with_reducible refine bal ?_ _ | with_reducible refine Below.alloc ?_ (by first | exact Nat.le_refl _ | (simp; done) | (simp; omega)) _ | with_reducible refine Below.drew ?_)))) (HR4.out.later (by first | assumption | exact (by repeat (first | with_reducible assumption | with_reducible exact Below.refl _ _ | with_reducible refine Below.setCell ?_ (by first | exact Nat.le_refl _ | (simp; done) | (simp; omega)) _ | with_reducible refine bal ?_ _ | with_reducible refine Below.alloc ?_ (by first | exact Nat.le_refl _ | (simp; done) | (simp; omega)) _ | with_reducible refine Below.drew ?_))))).mono ?_; rintro e w5 ⟨rfl, b5⟩; have b5 : RowKit.Below w3.heap.size w3 w5 := (by refine Below.trans ?_ (Below.mono b5 ?_); rotate_left; exact Below.size (by with_reducible assumption); with_reducible assumption))
    | (go_at_call 11; refine (k3_cnot _ _ _ (E4.out.later (by assumption)) (HR4.out.later (by assumption))).mono ?_; rintro e w5 ⟨a2, c2, rfl, r5, b5⟩; have HR5 := hide r5; clear r5; have b5 : RowKit.Below w3.heap.size w3 w5 := (by refine Below.trans ?_ (Below.mono b5 ?_); rotate_left; exact Below.size (by with_reducible assumption); with_reducible assumption))
    | (go_at_call 14; refine (k3_cand _ _ _ (E4.out.later (by assumption)) (HR4.out.later (by assumption))).mono ?_; rintro e w5 ⟨a3, c3, rfl, b5⟩; have b5 : RowKit.Below w3.heap.size w3 w5 := (by refine Below.trans ?_ (Below.mono b5 ?_); rotate_left; exact Below.size (by with_reducible assumption); with_reducible assumption))
    | (go_at_call 15; refine (k3_cor _ _ _ (E4.out.later (by assumption)) (HR4.out.later (by assumption))).mono ?_; rintro e w5 ⟨a4, c4, rfl, b5⟩; have b5 : RowKit.Below w3.heap.size w3 w5 := (by refine Below.trans ?_ (Below.mono b5 ?_); rotate_left; exact Below.size (by with_reducible assumption); with_reducible assumption))
    | (go_at_call 13; refine (k3_chasn _ _ _ (E4.out.later (by assumption)) HR5.out).mono ?_; rintro e w5 ⟨rfl, b5⟩; have b5 : RowKit.Below w3.heap.size w3 w5 := (by refine Below.trans ?_ (Below.mono b5 ?_); rotate_left; exact Below.size (by with_reducible assumption); with_reducible assumption))
    | (go_at_call 13; refine (k3_chas _ _ _ (E4.out.later (by assumption)) (HR4.out.later (by assumption))).mono ?_; rintro e w5 ⟨rfl, b5⟩; have b5 : RowKit.Below w3.heap.size w3 w5 := (by refine Below.trans ?_ (Below.mono b5 ?_); rotate_left; exact Below.size (by with_reducible assumption); with_reducible assumption)))
  rename_i hHeld
  go_wp2_with fail
  go_ret
  exact ⟨rfl, HB4.out.trans (hHeld.mono HB4.out.size)⟩
end Go.Proofs.YthihnpjbdjmbhaaGreatDoor

namespace Go.Proofs.YthihnpjbdjmbhaaGreatDoor
set_option linter.unusedSimpArgs false
set_option linter.unusedVariables false
open Go.RowKit Go.Vr Go.Sort Go.Tx Go.Lib

/-- A slice of spans that is there, normed, not long. -/
structure SR (W : World) (ad : Option Addr) (n : Nat) (l : List Sp.S) (B : Nat) : Prop where
  r : ERow ES W ad n l
  row : Sp.Row l
  le : n ≤ B
theorem SR.later {W W' : World} {ad : Option Addr} {n B : Nat} {l : List Sp.S} (h : SR W ad n l B) (hb : RowKit.Below W.heap.size W W') : SR W' ad n l B := ⟨h.r.later hb, h.row, h.le⟩
theorem SR.of {W : World} {C : Nat} {v : Value} {l : List Sp.S} {B : Nat} (h : EOwn ES W C v l) (hr : Sp.Row l) (hb : l.length ≤ B) : ∃ ad n cp, v = .slice ad n cp ∧ SR W ad n l B := by
  obtain ⟨ad, cp, e, _, _, r⟩ := h.any
  exact ⟨ad, l.length, cp, e, r, hr, hb⟩
theorem SR.nil (W : World) (B : Nat) : SR W none 0 [] B := ⟨ERow.none W, Sp.Row.nil, by omega⟩
theorem SR.zero {W : World} {ad : Option Addr} {n B : Nat} (h : SR W ad n [] B) : n = 0 := h.r.n.symm

theorem not_sl (W : World) (he : Env W) (ad : Option Addr) (n cp : Nat) (l : List Sp.S) (B : Nat) (h : SR W ad n l B) (hB : B ≤ 1000) :
    Calls Tryz.prog 11 #[.slice ad n cp] W fun e w' => ∃ a2 n2 c2, e = .returned (.slice a2 n2 c2) ∧ SR w' a2 n2 (Sp.notL l) (B + 1) ∧ RowKit.Below W.heap.size W w' := by
  have hle := h.le
  have hn := h.r.n
  refine (not_any ad n cp l W h.r (by omega) h.row.ok he).mono ?_
  rintro e w' ⟨v', rfl, o, hb⟩
  obtain ⟨a2, n2, c2, rfl, h2⟩ := SR.of (B := B + 1) o h.row.not (by have := not_len l; omega)
  exact ⟨a2, n2, c2, rfl, h2, hb⟩
theorem and_sl (W : World) (he : Env W) (ad ad' : Option Addr) (n n' cp cp' : Nat) (l k : List Sp.S) (B B' : Nat) (h : SR W ad n l B) (h' : SR W ad' n' k B') (hB : B ≤ 1000) (hB' : B' ≤ 1000) :
    Calls Tryz.prog 14 #[.slice ad n cp, .slice ad' n' cp'] W fun e w' => ∃ a2 n2 c2, e = .returned (.slice a2 n2 c2) ∧ SR w' a2 n2 (Sp.allL [l, k]) (B + B' + 4) ∧ RowKit.Below W.heap.size W w' := by
  have hle := h.le
  have hle' := h'.le
  have hn := h.r.n
  have hn' := h'.r.n
  refine (and_any ad ad' n n' cp cp' l k W h.r h'.r (by omega) h.row.ok h'.row.ok he).mono ?_
  rintro e w' ⟨v', rfl, o, hb⟩
  have hlen : (Sp.allL [l, k]).length ≤ B + B' + 4 := by
    unfold Sp.allL
    have h1 := not_len (Sp.nrm ([l, k].flatMap Sp.notL))
    have h2 := nrm_len ([l, k].flatMap Sp.notL)
    have h3 : ([l, k].flatMap Sp.notL).length ≤ l.length + 1 + (k.length + 1) := by
      have e1 := not_len l
      have e2 := not_len k
      simp only [List.flatMap_cons, List.flatMap_nil, List.append_nil, List.length_append]
      omega
    omega
  obtain ⟨a2, n2, c2, rfl, h2⟩ := SR.of (B := B + B' + 4) o (h.row.and h'.row) hlen
  exact ⟨a2, n2, c2, rfl, h2, hb⟩
theorem or2_sl (W : World) (he : Env W) (ad ad' : Option Addr) (n n' cp cp' : Nat) (l k : List Sp.S) (B B' : Nat) (h : SR W ad n l B) (h' : SR W ad' n' k B') (hB : B ≤ 1000) (hB' : B' ≤ 1000) :
    Calls Tryz.prog 15 #[.slice (some ⟨W.heap.size, 0, none⟩) 2 2] (W.alloc (.cells #[.slice ad n cp, .slice ad' n' cp'] 28)) fun e w' => ∃ a2 n2 c2, e = .returned (.slice a2 n2 c2) ∧ SR w' a2 n2 (Sp.nrm [l, k].flatten) (B + B' + 1) ∧ RowKit.Below W.heap.size W w' := by
  have hle := h.le
  have hle' := h'.le
  have hn := h.r.n
  have hn' := h'.r.n
  have hb0 : RowKit.Below W.heap.size W (W.alloc (.cells #[.slice ad n cp, .slice ad' n' cp'] 28)) := (by repeat (first | with_reducible assumption | with_reducible exact Below.refl _ _ | with_reducible refine Below.setCell ?_ (by first | exact Nat.le_refl _ | (simp; done) | (simp; omega)) _ | with_reducible refine bal ?_ _ | with_reducible refine Below.alloc ?_ (by first | exact Nat.le_refl _ | (simp; done) | (simp; omega)) _ | with_reducible refine Below.drew ?_))
  have hrr := rrow2 (a := ⟨ad, n, cp⟩) (b := ⟨ad', n', cp'⟩) 28 h.r h'.r
  have hfl : [l, k].flatten.length = l.length + k.length := by simp
  refine (sor_any (some ⟨W.heap.size, 0, none⟩) 2 2 [l, k] _ hrr (by omega) (by omega) (Sp.ok_two h.row.ok h'.row.ok) (he.later hb0)).mono ?_
  rintro e w' ⟨v', rfl, o, hb⟩
  obtain ⟨a2, n2, c2, rfl, h2⟩ := SR.of (B := B + B' + 1) o (h.row.or h'.row) (by have := nrm_len [l, k].flatten; omega)
  exact ⟨a2, n2, c2, rfl, h2, step hb0 hb⟩
theorem rrow1 {W : World} {a : Sl} {l : List Sp.S} (T : TypeId) (h1 : ERow ES W a.a a.n l) :
    RRow (W.alloc (.cells #[a.val] T)) (some ⟨W.heap.size, 0, none⟩) 1 [l] := by
  have hb : RowKit.Below W.heap.size W (W.alloc (.cells #[a.val] T)) := (by repeat (first | with_reducible assumption | with_reducible exact Below.refl _ _ | with_reducible refine Below.setCell ?_ (by first | exact Nat.le_refl _ | (simp; done) | (simp; omega)) _ | with_reducible refine bal ?_ _ | with_reducible refine Below.alloc ?_ (by first | exact Nat.le_refl _ | (simp; done) | (simp; omega)) _ | with_reducible refine Below.drew ?_))
  refine ⟨[a], ⟨rfl, (fun e => nomatch e), fun x e j v hj => ?_⟩, h1.later hb, trivial⟩
  obtain rfl : ⟨W.heap.size, 0, .none⟩ = x := by simpa using e
  rw [addr_add, Nat.zero_add, (Box.new W _ T).c]
  simpa [El.encs, ER] using hj
theorem or1_sl (W : World) (he : Env W) (ad : Option Addr) (n cp : Nat) (l : List Sp.S) (B : Nat) (h : SR W ad n l B) (hB : B ≤ 1000) :
    Calls Tryz.prog 15 #[.slice (some ⟨W.heap.size, 0, none⟩) 1 1] (W.alloc (.cells #[.slice ad n cp] 28)) fun e w' => ∃ a2 n2 c2, e = .returned (.slice a2 n2 c2) ∧ SR w' a2 n2 l (B + 1) ∧ RowKit.Below W.heap.size W w' := by
  have hle := h.le
  have hn := h.r.n
  have hb0 : RowKit.Below W.heap.size W (W.alloc (.cells #[.slice ad n cp] 28)) := (by repeat (first | with_reducible assumption | with_reducible exact Below.refl _ _ | with_reducible refine Below.setCell ?_ (by first | exact Nat.le_refl _ | (simp; done) | (simp; omega)) _ | with_reducible refine bal ?_ _ | with_reducible refine Below.alloc ?_ (by first | exact Nat.le_refl _ | (simp; done) | (simp; omega)) _ | with_reducible refine Below.drew ?_))
  have hrr := rrow1 (a := ⟨ad, n, cp⟩) 28 h.r
  have hfl : [l].flatten = l := by simp
  refine (sor_any (some ⟨W.heap.size, 0, none⟩) 1 1 [l] _ hrr (by omega) (by rw [hfl]; omega) (by rw [hfl]; exact h.row.ok) (he.later hb0)).mono ?_
  rintro e w' ⟨v', rfl, o, hb⟩
  rw [Sp.or_one_row h.row] at o
  obtain ⟨a2, n2, c2, rfl, h2⟩ := SR.of (B := B + 1) o h.row (by omega)
  exact ⟨a2, n2, c2, rfl, h2, step hb0 hb⟩
theorem or0_sl (W : World) (he : Env W) :
    Calls Tryz.prog 15 #[.slice none 0 0] W fun e w' => ∃ a2 c2, e = .returned (.slice a2 0 c2) ∧ RowKit.Below W.heap.size W w' := by
  refine (sor_any none 0 0 [] W ⟨[], ERow.none W, trivial⟩ (by omega) (by simp) (fun _ h => nomatch h) he).mono ?_
  rintro e w' ⟨v', rfl, o, hb⟩
  obtain ⟨a2, c2, rfl, _, _, _⟩ := EOwn.any (l := []) (E := ES) (show EOwn ES w' W.heap.size v' [] from o)
  exact ⟨a2, c2, rfl, hb⟩
theorem same_sl (W : World) (ad ad' : Option Addr) (n n' cp cp' : Nat) (l k : List Sp.S) (B B' : Nat) (h : SR W ad n l B) (h' : SR W ad' n' k B') (hB : B ≤ 5000) (e : l = k) :
    Calls Tryz.prog 9 #[.slice ad n cp, .slice ad' n' cp'] W fun e w' => e = .returned (.bool true) ∧ RowKit.Below W.heap.size W w' := by
  have hle := h.le
  have := rsame_any ad ad' n n' cp cp' l k W h.r h'.r (by omega) h.row.ok h'.row.ok
  rw [decide_eq_true e] at this
  exact this
end Go.Proofs.YthihnpjbdjmbhaaGreatDoor

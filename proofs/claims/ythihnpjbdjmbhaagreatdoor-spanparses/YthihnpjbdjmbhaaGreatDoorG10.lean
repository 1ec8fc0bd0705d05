/-
  Contract of the reference's Cmp.
-/
import Derived.Test.YthihnpjbdjmbhaaGreatDoorG09
import Derived.Deep.RegionWith
import Derived.Deep.RegionHeld3

namespace Go.Proofs.YthihnpjbdjmbhaaGreatDoor
set_option linter.unusedSimpArgs false
set_option linter.unusedVariables false
open Go.RowKit Go.Vr Go.Sort Go.Tx Go.Lib
attribute [local go_sem] setCellDrewN allocDrewN

theorem getD_mem (ws : List Bs) (k : Nat) (h : k < ws.length) : ws.getD k [] ∈ ws := by
  rw [List.getD_eq_getElem?_getD, List.getElem?_eq_getElem h]; exact List.getElem_mem _
theorem drop_getD (ws : List Bs) (k : Nat) (h : k < ws.length) : ws.drop k = ws.getD k [] :: ws.drop (k + 1) := by
  rw [List.drop_eq_getElem_cons h, List.getD_eq_getElem?_getD, List.getElem?_eq_getElem h]; rfl
theorem words_len : ∀ (l : Bs), ∀ x ∈ words l, x.length ≤ l.length := by
  intro l
  induction l with
  | nil => simp [words]
  | cons c l ih =>
    by_cases h : c = 46
    · subst h
      rw [words_dot]
      intro x hx
      rcases List.mem_cons.1 hx with rfl | hx
      · simp
      · have := ih x hx; simp; omega
    · cases e : words l with
      | nil => exact absurd e (words_ne l)
      | cons v vs =>
        rw [words_cons h e]
        rw [e] at ih
        intro x hx
        rcases List.mem_cons.1 hx with rfl | hx
        · have := ih v (by simp); simp; omega
        · have := ih x (by simp [hx]); simp; omega
theorem wrap64_0 : wrap64 0 = 0 := by decide +kernel
theorem wrap64_1 : wrap64 1 = 1 := by decide +kernel
theorem wrap64_m1 : wrap64 (-1) = -1 := by decide +kernel

set_option maxHeartbeats 4000000 in
set_option maxRecDepth 100000 in
theorem rcmp_any (v u : V) (w : World) (hv : v.p.size ≤ 1000) (hu : u.p.size ≤ 1000) :
    Calls Tryz.prog 105 #[val v, val u] w fun e w' => e = .returned (.int .i64 (cmpV v u)) ∧ Below w.heap.size w w' := by
  obtain ⟨a, b, c, p⟩ := v
  obtain ⟨a', b', c', p'⟩ := u
  simp only at hv hu
  have hB0 : ∀ (x y z : Int), Below w.heap.size w ((((w.alloc (.cells #[.int .i64 a, .int .i64 b, .int .i64 c, .string p] 37)).alloc (.cells #[.int .i64 a', .int .i64 b', .int .i64 c', .string p'] 37)).alloc (.cells #[.int .i64 x, .int .i64 y, .int .i64 z] 3)).drew) := fun x y z =>
    ((((Below.refl _ _).alloc (Nat.le_refl _) _).alloc (by simp) _).alloc (by simp; omega) _).drew
  have hB1 : ∀ (x y z : Int) (N : Nat), Below w.heap.size w ((((w.alloc (.cells #[.int .i64 a, .int .i64 b, .int .i64 c, .string p] 37)).alloc (.cells #[.int .i64 a', .int .i64 b', .int .i64 c', .string p'] 37)).alloc (.cells #[.int .i64 x, .int .i64 y, .int .i64 z] 3)).drewN N) := fun x y z N =>
    ((((Below.refl _ _).alloc (Nat.le_refl _) _).alloc (by simp) _).alloc (by simp; omega) _).trans ((belDrewN _ N).mono (by simp; omega))
  go_enter Tryz.func105, Tryz.ntmps105
  go_wp2_with fail
  go_region_held3 (fun w' => w'.cell? ⟨w.heap.size, 0, none⟩ = some (.int .i64 a) ∧ w'.cell? ⟨w.heap.size, 1, none⟩ = some (.int .i64 b) ∧ w'.cell? ⟨w.heap.size, 2, none⟩ = some (.int .i64 c) ∧ w'.cell? ⟨w.heap.size + 1, 0, none⟩ = some (.int .i64 a') ∧ w'.cell? ⟨w.heap.size + 1, 1, none⟩ = some (.int .i64 b') ∧ w'.cell? ⟨w.heap.size + 1, 2, none⟩ = some (.int .i64 c')) (first | go_keep | assumption) (first | (go_at_call 126; refine (rsign_any _ _ _).mono ?_; rintro e w' ⟨rfl, rfl⟩))
  rename_i hHeld
  clear hHeld
  go_wp2_with fail
  go_loop [6] (fun i => ∃ j : Int, (0 ≤ j ∧ j ≤ 3) ∧ i = .int .i64 j ∧ Hid ((1 ≤ j → compareInt a a' = 0) ∧ (2 ≤ j → compareInt b b' = 0) ∧ (3 ≤ j → compareInt c c' = 0))) (fun i => 3 - (RowKit.intOf i).toNat)
  case atStart => exact ⟨0, by omega, rfl, ⟨fun h => by omega, fun h => by omega, fun h => by omega⟩⟩
  case round =>
    obtain ⟨j, hj, rfl, HZ⟩ := hrel
    by_cases h3 : j < 3
    · rcases (show j = 0 ∨ j = 1 ∨ j = 2 by omega) with rfl | rfl | rfl
      · cases hq : (compareInt a a' != 0) with
        | true =>
          have HR : Hid (cmpV ⟨a, b, c, p⟩ ⟨a', b', c', p'⟩ = compareInt a a') := seq_ne (by simpa using hq)
          go_wp2_with fail
          go_ret
          exact ⟨ret_int HR.out.symm, hB0 _ _ _⟩
        | false =>
          have HZ2 : Hid (compareInt a a' = 0) := by show _ = _; simpa using hq
          go_wp2_with fail
          go_round
          case rel => exact ⟨1, by omega, rfl, ⟨fun _ => HZ2.out, fun h => by omega, fun h => by omega⟩⟩
          case measure => simp [RowKit.intOf]
      · cases hq : (compareInt b b' != 0) with
        | true =>
          have HR : Hid (cmpV ⟨a, b, c, p⟩ ⟨a', b', c', p'⟩ = compareInt b b') := by
            show seq (compareInt a a') (seq (compareInt b b') _) = _
            rw [HZ.out.1 (by omega), seq_zero]; exact seq_ne (by simpa using hq)
          go_wp2_with fail
          go_ret
          exact ⟨ret_int HR.out.symm, hB0 _ _ _⟩
        | false =>
          have HZ2 : Hid (compareInt b b' = 0) := by show _ = _; simpa using hq
          go_wp2_with fail
          go_round
          case rel => exact ⟨2, by omega, rfl, ⟨fun _ => HZ.out.1 (by omega), fun _ => HZ2.out, fun h => by omega⟩⟩
          case measure => simp [RowKit.intOf]
      · cases hq : (compareInt c c' != 0) with
        | true =>
          have HR : Hid (cmpV ⟨a, b, c, p⟩ ⟨a', b', c', p'⟩ = compareInt c c') := by
            show seq (compareInt a a') (seq (compareInt b b') (seq (compareInt c c') _)) = _
            rw [HZ.out.1 (by omega), seq_zero, HZ.out.2.1 (by omega), seq_zero]; exact seq_ne (by simpa using hq)
          go_wp2_with fail
          go_ret
          exact ⟨ret_int HR.out.symm, hB0 _ _ _⟩
        | false =>
          have HZ2 : Hid (compareInt c c' = 0) := by show _ = _; simpa using hq
          go_wp2_with fail
          go_round
          case rel => exact ⟨3, by omega, rfl, ⟨fun _ => HZ.out.1 (by omega), fun _ => HZ.out.2.1 (by omega), fun _ => HZ2.out⟩⟩
          case measure => simp [RowKit.intOf]
    · obtain rfl : j = 3 := by omega
      have HP : Hid (cmpV ⟨a, b, c, p⟩ ⟨a', b', c', p'⟩ = cmpP p.data.toList p'.data.toList) := by
        show seq (compareInt a a') (seq (compareInt b b') (seq (compareInt c c') _)) = _
        rw [HZ.out.1 (by omega), seq_zero, HZ.out.2.1 (by omega), seq_zero, HZ.out.2.2 (by omega), seq_zero]
      clear HZ
      by_cases e1 : p.size = 0
      · have he1 : p.toList.isEmpty = true := by rw [empty_eq]; simpa using e1
        have n1 : p.data.toList = [] := List.eq_nil_of_length_eq_zero (by rw [len_eq]; exact e1)
        have l1 : p.size ≤ 0 := by omega
        by_cases e2 : p'.size = 0
        · have he2 : p'.toList.isEmpty = true := by rw [empty_eq]; simpa using e2
          have n2 : p'.data.toList = [] := List.eq_nil_of_length_eq_zero (by rw [len_eq]; exact e2)
          have l2 : p'.size ≤ 0 := by omega
          have HS : Hid (compareInt p'.size p.size = 0) := by show compareInt _ _ = 0; rw [e1, e2]; rfl
          have HC : Hid (cmpP p.data.toList p'.data.toList = 0) := by show cmpP _ _ = 0; rw [n1, n2]; rfl
          clear e1 e2 n1 n2
          have m1 : (p.size : Int) + (p'.size : Int) < 1 := by omega
          have m2 : p.size + p'.size < 1 := by omega
          go_wp2_with fail
          go_quiet ((refine (rsign_any _ _ _).mono ?_; rintro e w' ⟨rfl, rfl⟩; exact ⟨rfl, _, rfl⟩))
          go_wp2_with fail
          go_ret
          exact ⟨ret_int (by rw [HP.out, HC.out, HS.out]; (first | (simp [wrap64_0, wrap64_1, wrap64_m1]; done) | (simp [wrap64_0, wrap64_1, wrap64_m1]; rw [show min (1 : Int) ((p.size : Int) + (p'.size : Int)) = 1 by omega]; simp [wrap64_0, wrap64_1, wrap64_m1]))), (hB0 _ _ _).trans ((belDrewN _ _).mono (by simp; omega))⟩
        · have he2 : p'.toList.isEmpty = false := by rw [empty_eq]; simpa using e2
          have n2 : p'.data.toList ≠ [] := fun e => e2 (by rw [← len_eq, e]; rfl)
          have l2 : 1 ≤ p'.size := by omega
          have HS : Hid (compareInt p'.size p.size = 1) := by show compareInt _ _ = 1; unfold compareInt; rw [if_neg (by omega), if_pos (by omega)]
          have HC : Hid (cmpP p.data.toList p'.data.toList = 1) := by
            show cmpP _ _ = 1
            unfold cmpP none1
            rw [if_pos n1, if_neg n2]; rfl
          clear e1 e2 n1 n2
          have m1 : ¬ ((p.size : Int) + (p'.size : Int) < 1) := by omega
          have m2 : ¬ (p.size + p'.size < 1) := by omega
          have m3 : ¬ (p.size = 0 ∧ p'.size = 0) := by omega
          go_wp2_with fail
          go_quiet ((refine (rsign_any _ _ _).mono ?_; rintro e w' ⟨rfl, rfl⟩; exact ⟨rfl, _, rfl⟩))
          go_wp2_with fail
          go_ret
          exact ⟨ret_int (by rw [HP.out, HC.out, HS.out]; (first | (simp [wrap64_0, wrap64_1, wrap64_m1]; done) | (simp [wrap64_0, wrap64_1, wrap64_m1]; rw [show min (1 : Int) ((p.size : Int) + (p'.size : Int)) = 1 by omega]; simp [wrap64_0, wrap64_1, wrap64_m1]))), (hB0 _ _ _).trans ((belDrewN _ _).mono (by simp; omega))⟩
      · have he1 : p.toList.isEmpty = false := by rw [empty_eq]; simpa using e1
        have n1 : p.data.toList ≠ [] := fun e => e1 (by rw [← len_eq, e]; rfl)
        have l1 : 1 ≤ p.size := by omega
        by_cases e2 : p'.size = 0
        · have he2 : p'.toList.isEmpty = true := by rw [empty_eq]; simpa using e2
          have n2 : p'.data.toList = [] := List.eq_nil_of_length_eq_zero (by rw [len_eq]; exact e2)
          have l2 : p'.size ≤ 0 := by omega
          have HS : Hid (compareInt p'.size p.size = -1) := by show compareInt _ _ = -1; unfold compareInt; rw [if_pos (by omega)]
          have HC : Hid (cmpP p.data.toList p'.data.toList = -1) := by
            show cmpP _ _ = -1
            unfold cmpP none1
            rw [if_neg n1, if_pos n2]; rfl
          clear e1 e2 n1 n2
          have m1 : ¬ ((p.size : Int) + (p'.size : Int) < 1) := by omega
          have m2 : ¬ (p.size + p'.size < 1) := by omega
          have m3 : ¬ (p.size = 0 ∧ p'.size = 0) := by omega
          go_wp2_with fail
          go_quiet ((refine (rsign_any _ _ _).mono ?_; rintro e w' ⟨rfl, rfl⟩; exact ⟨rfl, _, rfl⟩))
          go_wp2_with fail
          go_ret
          exact ⟨ret_int (by rw [HP.out, HC.out, HS.out]; (first | (simp [wrap64_0, wrap64_1, wrap64_m1]; done) | (simp [wrap64_0, wrap64_1, wrap64_m1]; rw [show min (1 : Int) ((p.size : Int) + (p'.size : Int)) = 1 by omega]; simp [wrap64_0, wrap64_1, wrap64_m1]))), (hB0 _ _ _).trans ((belDrewN _ _).mono (by simp; omega))⟩
        · have he2 : p'.toList.isEmpty = false := by rw [empty_eq]; simpa using e2
          have n2 : p'.data.toList ≠ [] := fun e => e2 (by rw [← len_eq, e]; rfl)
          have HC : Hid (cmpP p.data.toList p'.data.toList = lex cmpW (words p.data.toList) (words p'.data.toList)) := by
            show cmpP _ _ = _
            unfold cmpP none1
            rw [if_neg n1, if_neg n2]; rfl
          clear e1 e2 n1 n2
          go_wp2_with fail
          go_region_held3 (fun w' => w'.cell? ⟨w.heap.size, 3, none⟩ = some (.string p) ∧ w'.cell? ⟨w.heap.size + 1, 3, none⟩ = some (.string p')) (first | go_keep | assumption) (first | (go_at_call_of 50 (Value.string p); refine (rwords_any p _ (by omega)).mono ?_; rintro e w1 ⟨x1, rfl, o1, b1⟩; have c1 := cellLater (a := ⟨w.heap.size, 3, none⟩) (v := .string p) b1 (by first | assumption | (simp [go_sem]; done)); have c2 := cellLater (a := ⟨w.heap.size + 1, 3, none⟩) (v := .string p') b1 (by first | assumption | (simp [go_sem]; done))) | (go_at_call_of 50 (Value.string p'); refine (rwords_any p' _ (by omega)).mono ?_; rintro e w2 ⟨x2, rfl, o2, b2⟩; have c3 := cellLater (a := ⟨w.heap.size, 3, none⟩) (v := .string p) b2 (by first | assumption | (simp [go_sem]; done)); have c4 := cellLater (a := ⟨w.heap.size + 1, 3, none⟩) (v := .string p') b2 (by first | assumption | (simp [go_sem]; done))))
          rename_i hHeld
          have hB2 : Below w.heap.size w w2 := ((hB0 _ _ _).drew.trans (b1.mono (by simp; omega))).trans (b2.mono (by have := b1.size; simp at this; omega))
          have q1 := words_short p.data.toList
          have hne1 := words_ne p.data.toList
          have hne2 := words_ne p'.data.toList
          have hcn1 := words_count p.data.toList
          have hcn2 := words_count p'.data.toList
          have hwl1 := words_len p.data.toList
          have hwl2 := words_len p'.data.toList
          rw [len_eq] at hcn1 hcn2 hwl1 hwl2
          generalize words p.data.toList = ws at *
          generalize words p'.data.toList = us at *
          have hp1 : 0 < ws.length := List.length_pos_iff.2 hne1
          have hp2 : 0 < us.length := List.length_pos_iff.2 hne2
          obtain ⟨g1, k1, rfl, -, hk1, -, hc1⟩ := own_at o1 hp1
          obtain ⟨g2, k2, rfl, -, hk2, -, hc2⟩ := own_at o2 hp2
          have hd1 : ∀ i, i < ws.length → w2.cell? ⟨g1, i, none⟩ = some (.string (str (ws.getD i []))) := fun i hi => cellLater b2 (hc1 i hi)
          clear hHeld o1 o2 b1 b2 hc1 c1 c2 c3 c4 q1 hne1 hne2 hB1 hB0
          go_wp2_with fail
          go_loopw [9, 10] (fun i _ wr => ∃ k N : Nat, k ≤ ws.length ∧ k ≤ us.length ∧ i = .int .i64 k ∧ Hid (lex cmpW ws us = lex cmpW (ws.drop k) (us.drop k)) ∧ wr = w2.drewN N) (fun i _ _ => ws.length - (RowKit.intOf i).toNat)
          case atStart => exact ⟨0, 0, by omega, by omega, rfl, rfl, rfl⟩
          case round =>
            obtain ⟨k, N, hkw, hku, rfl, HL, rfl⟩ := hrel
            by_cases hlw : k < ws.length
            · have z1 : decide ((k : Int) < (ws.length : Int)) = true := by simp; omega
              have z1n : decide (k < ws.length) = true := by simp; omega
              by_cases hlu : k < us.length
              · have z2 : decide ((k : Int) < (us.length : Int)) = true := by simp; omega
                have z2n : decide (k < us.length) = true := by simp; omega
                have y1 := hd1 k hlw
                have y2 := hc2 k hlu
                have r1 := hwl1 _ (getD_mem ws k hlw)
                have r2 := hwl2 _ (getD_mem us k hlu)
                have HL2 : Hid (lex cmpW ws us = seq (cmpW (ws.getD k []) (us.getD k [])) (lex cmpW (ws.drop (k + 1)) (us.drop (k + 1)))) := by
                  show lex cmpW ws us = _
                  rw [HL.out, drop_getD ws k hlw, drop_getD us k hlu]; rfl
                generalize ws.getD k [] = xx at *
                generalize us.getD k [] = yy at *
                clear hd1 hc2 hwl1 hwl2
                have i1 : (0 : Int) ≤ (k : Int) := by omega
                have i2 : (k : Int) < (ws.length : Int) := by omega
                have i3 : (k : Int) < (us.length : Int) := by omega
                cases hq : (cmpW xx yy != 0) with
                | true =>
                  have HR : Hid (lex cmpW ws us = cmpW xx yy) := by show _ = _; rw [HL2.out]; exact seq_ne (by simpa using hq)
                  have hq' : (cmpW (str xx).data.toList (str yy).data.toList != 0) = true := hq
                  go_wp2_with fail
                  go_quiet ((refine (rorder_any _ _ _ (by rw [Tx.str_size]; omega) (by rw [Tx.str_size]; omega)).mono ?_; rintro e w' ⟨rfl, rfl⟩; exact ⟨rfl, _, rfl⟩))
                  go_wp2_with fail
                  go_ret
                  exact ⟨ret_int (by rw [HP.out, HC.out, HR.out]; rfl), hB2.trans ((belDrewN _ _).mono hB2.size)⟩
                | false =>
                  have HR : Hid (lex cmpW ws us = lex cmpW (ws.drop (k + 1)) (us.drop (k + 1))) := by
                    show _ = _
                    have e : cmpW xx yy = 0 := by simpa using hq
                    rw [HL2.out, e, seq_zero]
                  have hq' : (cmpW (str xx).data.toList (str yy).data.toList != 0) = false := hq
                  go_wp2_with fail
                  go_quiet ((refine (rorder_any _ _ _ (by rw [Tx.str_size]; omega) (by rw [Tx.str_size]; omega)).mono ?_; rintro e w' ⟨rfl, rfl⟩; exact ⟨rfl, _, rfl⟩))
                  go_wp2_with fail
                  go_roundw
                  case rel => exact ⟨k + 1, _, by omega, by omega, by go_num, HR, rfl⟩
                  case measure => simp [RowKit.intOf]; omega
              · have z2 : decide ((k : Int) < (us.length : Int)) = false := by simp; omega
                have HR : Hid (lex cmpW ws us = compareInt ws.length us.length) := by
                  show _ = _
                  rw [HL.out, drop_getD ws k hlw, List.drop_of_length_le (by omega : us.length ≤ k)]
                  unfold compareInt
                  rw [if_neg (by omega), if_pos (by omega)]; rfl
                go_wp2_with fail
                refine (rsign_any _ _ _).mono ?_
                rintro e w' ⟨rfl, rfl⟩
                go_wp2_with fail
                go_ret
                exact ⟨ret_int (by rw [HP.out, HC.out, HR.out]), hB2.trans ((belDrewN _ _).mono hB2.size)⟩
            · have z1 : decide ((k : Int) < (ws.length : Int)) = false := by simp; omega
              have HR : Hid (lex cmpW ws us = compareInt ws.length us.length) := by
                show _ = _
                rw [HL.out, List.drop_of_length_le (by omega : ws.length ≤ k)]
                by_cases hlu : k < us.length
                · rw [drop_getD us k hlu]
                  unfold compareInt
                  rw [if_pos (by omega)]; rfl
                · rw [List.drop_of_length_le (by omega : us.length ≤ k)]
                  unfold compareInt
                  rw [if_neg (by omega), if_neg (by omega)]; rfl
              go_wp2_with fail
              refine (rsign_any _ _ _).mono ?_
              rintro e w' ⟨rfl, rfl⟩
              go_wp2_with fail
              go_ret
              exact ⟨ret_int (by rw [HP.out, HC.out, HR.out]), hB2.trans ((belDrewN _ _).mono hB2.size)⟩

end Go.Proofs.YthihnpjbdjmbhaaGreatDoor

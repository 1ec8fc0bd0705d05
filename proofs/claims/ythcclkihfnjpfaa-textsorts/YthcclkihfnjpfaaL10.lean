/-
  The walk of TextSorts.
-/
import Derived.Test.YthcclkihfnjpfaaW16
import Derived.Test.YthcclkihfnjpfaaW22
set_option linter.unusedSimpArgs false
namespace Go.Proofs.Ythcclkihfnjpfaa.textSorts
set_option linter.unusedVariables false
open Go.RowKit Go.Tx Go.Sort Go.Joins
attribute [local go_sem ↓] Go.wp_at_zero Go.wp_at_succ

theorem own_any {w : World} {B n : Nat} {v : Value} {ts : List (List UInt8)} (h : w.ownsRow B 9 1 v n (ts.map encStr)) : ∃ ad cap, v = .slice ad n cap ∧ n ≤ cap ∧ SRow w ad n cap ts := by
  rcases own_form h with ⟨rfl, rfl⟩ | ⟨g, cap, rfl, _, hnc, _, _⟩
  · have : ts = [] := List.eq_nil_of_length_eq_zero (by have := h.1; simpa using this)
    subst this
    exact ⟨none, 0, rfl, Nat.le_refl _, none_row w⟩
  · exact ⟨_, cap, rfl, hnc, own_row h⟩

theorem own_later {w w' : World} {B n : Nat} {T : TypeId} {v : Value} {xs : List Value} (h : w.ownsRow B T 1 v n xs) (hb : Below w.heap.size w w') : w'.ownsRow B T 1 v n xs := by
  refine ⟨h.1, ?_⟩
  rcases h.2 with h' | ⟨g, cap, cur, e, h1, h2, h3⟩
  · exact .inl h'
  · exact .inr ⟨g, cap, cur, e, h1, by rw [hb.block g (Array.getElem?_eq_some_iff.1 h2).1]; exact h2, h3⟩

theorem srt_le (l : List (List UInt8)) : (srt l).length ≤ l.length := Nat.le_trans (compact_le _) (by simp)

theorem str_back (r : ByteArray) : str r.data.toList = r := ba_ext (str_list _)

theorem quo7 (y : Int) (h1 : -9223372036854775808 ≤ y) (h2 : y ≤ 9223372036854775807) : ∃ d : Int, Int.tdiv y 7 = d ∧ -9223372036854775808 ≤ d ∧ d ≤ 9223372036854775807 := by
  refine ⟨_, rfl, ?_, ?_⟩
  · rcases Int.le_total 0 y with h | h
    · rw [Int.tdiv_eq_ediv_of_nonneg h]; omega
    · have : Int.tdiv y 7 = -(Int.tdiv (-y) 7) := by rw [Int.neg_tdiv]; omega
      rw [this, Int.tdiv_eq_ediv_of_nonneg (by omega)]; omega
  · rcases Int.le_total 0 y with h | h
    · rw [Int.tdiv_eq_ediv_of_nonneg h]; omega
    · have : Int.tdiv y 7 = -(Int.tdiv (-y) 7) := by rw [Int.neg_tdiv]; omega
      rw [this, Int.tdiv_eq_ediv_of_nonneg (by omega)]; omega

set_option maxHeartbeats 8000000 in
set_option maxRecDepth 100000 in
theorem walk (a0 : Option Addr) (len0 cap0 : Nat) (z0 : List Int) (a1 : Option Addr) (len1 cap1 : Nat) (z1 : List Int) (a2 : Int) (w : World) (w0 : IsRow .u8 w a0 len0 cap0 z0) (w1 : IsRow .i64 w a1 len1 cap1 z1) (w2 : (Lit.int .i64 a2).wf = true) :
    Calls Try.prog 8 #[.slice a0 len0 cap0, .slice a1 len1 cap1, .int .i64 a2] w fun e w' => e = .returned (.bool true) ∧ Below w.heap.size w w' := by
  obtain ⟨x1, x2⟩ := bd64 w2
  have hr0 := w0.row
  have hr1 := w1.row
  have hle := hr0.le
  have hmx := hr0.mx
  have hle1 := hr1.le
  have hmx1 := hr1.mx
  unfold maxLen at hmx hmx1
  clear w0 w1 w2
  by_cases hl0 : 100 < len0
  · have d0 : decide ((100 : Int) < (len0 : Int)) = true := by simp; omega
    go_enter Try.func8, Try.ntmps8
    go_wp2_with (go_at_call 13; refine (known_any w).mono ?_; rintro e v1 ⟨rfl, hv1⟩)
    go_ret
    exact ⟨rfl, hv1⟩
  have d0 : decide ((100 : Int) < (len0 : Int)) = false := by simp; omega
  have hz := sg_size (z0.take len0) 100
  go_enter Try.func8, Try.ntmps8
  go_wp2_with fail
  refine (known_any w).mono ?_
  rintro e v1 ⟨rfl, hv1⟩
  go_wp2_with fail
  refine (lplain_any a0 len0 cap0 _ 100 v1 (hr0.later hv1) (by omega)).mono ?_
  rintro e v2 ⟨rfl, hv2⟩
  have hB2 := step hv1 hv2
  generalize str (sg ((z0.take len0).take 100)) = s at *
  have hr3 := hr1.later hB2
  clear hv1 hv2 hr0 hr1
  go_wp2_with fail
  go_loopw [8, 9] (fun v i wr => ∃ (k : Nat) (ls : List (List UInt8)), k ≤ 20 ∧ i = .int .i64 k ∧ wr.ownsRow v2.heap.size 9 1 v k (ls.map encStr) ∧ Below v2.heap.size v2 wr) (fun _ i _ => 20 - (intOf i).toNat)
  case atStart => exact ⟨0, [], by omega, rfl, World.ownsRow_nil _ _ _ _, Below.refl _ _⟩
  case round =>
    obtain ⟨k, ls, hk, rfl, hown, hB⟩ := hrel
    by_cases hi : k < len1 ∧ k < 20
    · obtain ⟨hi, hi2⟩ := hi
      obtain ⟨b, off, rfl, hcell⟩ := row_at hr3 (by omega)
      have hce := cell_later hB (hcell k hi)
      obtain ⟨y1, y2⟩ := row_bd hr3 k hi
      generalize (List.take len1 z1).getD k 0 = y at *
      clear hcell
      have j1 : (0 : Int) ≤ (k : Int) := by omega
      have j2 : (k : Int) < (len1 : Int) := by omega
      obtain ⟨d, HD, d1, d2⟩ := quo7 y y1 y2
      have hwd : IntKind.i64.wrap d = d := by rw [IntKind.wrap_i64]; omega
      have hws : IntKind.i64.wrap ((s.size : Int) + 1) = (s.size : Int) + 1 := by rw [IntKind.wrap_i64]; omega
      go_wp2_with fail
      refine (within_nat _ _ _ (by omega) (by omega) (by omega) (by omega)).mono ?_
      rintro e v3 ⟨p, rfl, hp, -, rfl⟩
      go_wp2_with fail
      refine (within_nat _ _ _ (by omega) (by omega) (by omega) (by omega)).mono ?_
      rintro e v4 ⟨m, rfl, hm, -, rfl⟩
      obtain ⟨q, Q1, hq1, hq2⟩ : ∃ q : Nat, min (s.size : Int) ((p : Int) + (m : Int)) = (q : Int) ∧ p ≤ q ∧ q ≤ s.size := ⟨min s.size (p + m), by omega, by omega, by omega⟩
      have i1 : (0 : Int) ≤ (p : Int) := by omega
      have i2 : (p : Int) ≤ (q : Int) := by omega
      have i3 : (q : Int) ≤ (s.size : Int) := by omega
      go_wp2_with (refine wpList_app rfl _ _ rfl v2.heap.size k _ ls (some _) 1 1 [(s.extract p q).data.toList] rfl rfl (hown.alloc _) (one_row (by rw [cell_of_block (at_new _ _ _ rfl), str_back]; rfl)) (by omega) (by simp; have := hB.size; omega) ?_; intro v' w' o' g' t')
      have hB' : Below v2.heap.size v2 w' := bel_app (hB.alloc hB.size _) (hown.alloc _) g' (by simp; have := hB.size; omega)
      go_wp2_with fail
      go_roundw
      case rel => exact ⟨k + 1, ls ++ [(s.extract p q).data.toList], by omega, by go_num, o', hB'⟩
      case measure => simp [intOf]; omega
    · have hlk : ls.length = k := by have := hown.1; simpa using this
      have hBw : Below w.heap.size w wr := hB2.trans (hB.mono hB2.size)
      clear hr3
      by_cases hi1 : k < len1
      · have hi2 : ¬ k < 20 := fun h => hi ⟨hi1, h⟩
        have hd1 : decide ((k : Int) < (len1 : Int)) = true := by simp; omega
        have hd2 : decide ((k : Int) < 20) = false := by simp; omega
        clear hi
        rcases own_form hown with ⟨rfl, hn0⟩ | ⟨g, cap', rfl, hg, hkc, hcm, ho⟩
        · omega
        · have hL := own_row hown
          obtain ⟨xs, HXS⟩ : ∃ xs, Hid (srt ls = xs) := ⟨_, rfl⟩
          have hrise : Hid (xs.Pairwise (· < ·)) := by rw [← HXS.out]; exact srt_rises ls
          have hxl : xs.length ≤ 20 := by rw [← HXS.out]; exact Nat.le_trans (srt_le ls) (by first | omega | simp)
          have HZ : Hid (srt ([] ++ ls ++ ls) = xs) := by rw [← HXS.out]; exact srt_congr _ _ (fun x => by simp)
          go_wp2_with fail
          refine (sorted_any (some ⟨g, 0, none⟩) k cap' ls _ hL (by first | omega | simp)).mono ?_
          rw [HXS.out, hlk]
          rintro e u1 ⟨rfl, hb1, ho1⟩
          have hL1 := hL.later hb1
          have HL1 := own_later hown hb1
          have hB1 : Below w.heap.size w u1 := step hBw hb1
          have hX1 := own_row ho1
          clear ho1
          obtain ⟨N1, hN⟩ : ∃ N1, N1 = wr.heap.size := ⟨_, rfl⟩
          rw [← hN] at hX1 ⊢
          clear hN hb1 hL hown
          go_wp2_with fail
          refine (within_nat _ _ _ (by omega) (by omega) (by omega) (by omega)).mono ?_
          rintro e u2 ⟨t, rfl, ht, -, rfl⟩
          have htk : t ≤ k := by omega
          have htc : t ≤ cap' := by omega
          have hH := own_pre HL1 t cap' htk
          have hT := own_tail HL1 t (cap' - t) htk hkc
          have HY : Hid (srt ([] ++ ls.drop t ++ (ls.take t)) = xs) := by rw [← HXS.out]; exact srt_congr _ _ (fun x => by rw [List.nil_append, List.mem_append, or_comm, ← List.mem_append, List.take_append_drop])
          have hl2 : Hid (([] ++ ls.drop t ++ ls.take t).length = k) := by show _ = _; simp; omega
          have hl3 : Hid (([] ++ ls ++ ls).length = k + k) := by show _ = _; simp [hlk]
          clear HL1
          go_wp2_with fail
          go_region_law (first
            | (refine step_app rfl _ _ rfl u2.heap.size 0 _ [] (if cap' = t then some ⟨g, 0, none⟩ else some ⟨g, t, none⟩) (k - t) (cap' - t) (ls.drop t) rfl rfl (fresh_own (by first | exact at_new _ _ _ (by simp) | exact heap_alloc_new _ _) (by simp)) (hT.later (by first | exact ((Below.refl _ _).alloc (Nat.le_refl _) _).drew | exact Below.alloc (by first | exact (Below.refl _ _).drew | exact bel_drewN _ _) (by simp) _)) (by omega) (by simp) ?_; intro v1 w1 o1 g1 t1; have B1 : Below u2.heap.size u2 w1 := Below.grown (by first | exact ((Below.refl _ _).alloc (Nat.le_refl _) _).drew | exact Below.alloc (by first | exact (Below.refl _ _).drew | exact bel_drewN _ _) (by simp) _) g1 (by simp) (by intro k e; have e2 : some u2.heap.size = some k := e; simp at e2; omega))
            | (refine step_app rfl _ _ rfl u2.heap.size (0 + (k - t)) v1 ([] ++ ls.drop t) (some ⟨g, 0, none⟩) t cap' (ls.take t) rfl rfl o1 (hH.later B1) (by omega) B1.size ?_; intro v2 w2 o2 g2 t2; have B2 : Below u2.heap.size u2 w2 := bel_app B1 o1 g2 B1.size; obtain ⟨ad2, cap2, rfl, hn2, S2⟩ := own_any o2; replace S2 : SRow w2 ad2 k cap2 ([] ++ ls.drop t ++ (ls.take t)) := (by have h := S2; first | exact h | (rw [show 0 + (k - t) + t = k by omega] at h; exact h)))
            | (go_simp; go_at_call 39; refine (sorted_any _ _ _ ([] ++ ls.drop t ++ (ls.take t)) _ S2 (by first | (simp; done) | (simp; omega))).mono ?_; rw [HY.out, hl2.out]; rintro e u3 ⟨rfl, hb3, ho3⟩))
          generalize (if cap' = t then (some ⟨g, 0, none⟩ : Option Addr) else some ⟨g, t, none⟩) = adx at *
          have B3 : Below u2.heap.size u2 u3 := step B2 hb3
          have hX3 := hX1.later B3
          have hL3 := hL1.later B3
          have hY3 := own_row ho3
          have hB3 : Below w.heap.size w u3 := step hB1 B3
          generalize w2.heap.size = N2 at *
          clear ho3 hb3 B2 g2 o2 t2 S2 B1 g1 o1 t1 B3 hX1 hL1 hB1 hH hT
          go_wp2_with fail
          go_loopw [14] (fun i wq => ∃ j n : Nat, 1 ≤ j ∧ j ≤ xs.length + 1 ∧ i = .int .i64 j ∧ wq = u3.drewN n) (fun i _ => xs.length + 1 - (intOf i).toNat)
          case atStart => exact ⟨1, 0, by omega, by omega, rfl, rfl⟩
          case round =>
            obtain ⟨j, n, hj1, hj2, rfl, rfl⟩ := hrel
            by_cases hjx : j < xs.length
            · obtain ⟨b1, o1, e1, c1⟩ := hX3.at_ (by omega)
              obtain ⟨rfl, rfl⟩ : N1 = b1 ∧ 0 = o1 := by simpa using e1
              have cA := c1 (j - 1) (by omega)
              have cB := c1 j hjx
              rw [Nat.zero_add] at cA cB
              have L1 : Op.bytesLess (str (xs.getD (j - 1) [])).toList (str (xs.getD j [])).toList = true := by
                rw [bytesLess_eq, ByteArray.toList_eq, ByteArray.toList_eq, str_list, str_list]
                simpa using rise_at xs hrise.out (j - 1) j (by omega) hjx
              generalize str (xs.getD (j - 1) []) = A at *
              generalize str (xs.getD j []) = C at *
              clear c1 e1
              have j1 : (0 : Int) ≤ (j : Int) - 1 := by omega
              have j2 : (j : Int) - 1 < (xs.length : Int) := by omega
              have j3 : ((j : Int) - 1).toNat = j - 1 := by omega
              have j4 : (0 : Int) ≤ (j : Int) := by omega
              have j5 : (j : Int) < (xs.length : Int) := by omega
              go_wp2_with fail
              go_quiet (fail)
              go_wp2_with fail
              go_roundw
              case rel => exact ⟨j + 1, _, by omega, by omega, by go_num, rfl⟩
              case measure => simp [intOf]; omega
            · have hd : decide ((j : Int) < (xs.length : Int)) = false := by simp; omega
              have hq := bel_drewN u3 n
              have hX4 := hX3.later hq
              have hL4 := hL3.later hq
              have hY4 := hY3.later hq
              have hB4 : Below w.heap.size w (u3.drewN n) := step hB3 hq
              clear hX3 hL3 hY3 hB3 hq
              generalize u3.drewN n = u4 at *
              go_wp2_with fail
              refine (rsorted_any (some ⟨g, 0, none⟩) k cap' ls _ hL4 (by omega)).mono ?_
              rw [HXS.out]
              rintro e u5 ⟨v5, rfl, ho5, hb5⟩
              obtain ⟨ad5, cap5, rfl, hn5, S5⟩ := own_any ho5
              have hX5 := hX4.later hb5
              have hL5 := hL4.later hb5
              have hY5 := hY4.later hb5
              have hB5 := step hB4 hb5
              clear hX4 hL4 hY4 hB4 hb5 ho5
              go_wp2_with fail
              refine (rtexts_same _ _ _ _ _ xs _ hX5 S5 (by omega)).mono ?_
              rintro e u6 ⟨rfl, n6, hu6⟩
              have hq : Below u5.heap.size u5 u6 := by rw [hu6]; exact bel_drewN u5 n6
              have hX6 := hX5.later hq
              have hL6 := hL5.later hq
              have hY6 := hY5.later hq
              have hB6 := step hB5 hq
              clear hX5 hL5 hY5 hB5 hq hu6 S5
              go_wp2_with fail
              refine (rtexts_same _ _ _ _ _ xs _ hX6 hY6 (by omega)).mono ?_
              rintro e u7 ⟨rfl, n7, hu7⟩
              have hq : Below u6.heap.size u6 u7 := by rw [hu7]; exact bel_drewN u6 n7
              have hX7 := hX6.later hq
              have hL7 := hL6.later hq
              have hB7 := step hB6 hq
              clear hX6 hL6 hY6 hB6 hq hu7
              go_wp2_with (first
                | (refine wpList_app rfl _ _ rfl u7.heap.size 0 _ [] (some ⟨g, 0, none⟩) k cap' ls rfl rfl (fresh_own (at_new _ _ _ (by simp)) (by simp)) (hL7.later ((Below.refl _ _).alloc (Nat.le_refl _) _)) (by omega) (by simp) ?_; intro v8 w8 o8 g8 t8; have B8 : Below u7.heap.size u7 w8 := Below.grown ((Below.refl _ _).alloc (Nat.le_refl _) _) g8 (by simp) (by intro k e; have e2 : some u7.heap.size = some k := e; simp at e2; omega))
                | (refine wpList_app rfl _ _ rfl u7.heap.size (0 + k) v8 ([] ++ ls) (some ⟨g, 0, none⟩) k cap' ls rfl rfl o8 (hL7.later B8) (by omega) B8.size ?_; intro v9 w9 o9 g9 t9; have B9 : Below u7.heap.size u7 w9 := bel_app B8 o8 g9 B8.size; obtain ⟨ad9, cap9, rfl, hn9, S9⟩ := own_any o9; replace S9 : SRow w9 ad9 (k + k) cap9 ([] ++ ls ++ ls) := (by have h := S9; first | exact h | (rw [show 0 + k + k = k + k by omega] at h; exact h))))
              refine (sorted_any _ _ _ ([] ++ ls ++ ls) _ S9 (by first | (simp; done) | (simp; omega))).mono ?_
              rw [HZ.out, hl3.out]
              rintro e u10 ⟨rfl, hb10, ho10⟩
              have hX10 := (hX7.later B9).later hb10
              have hB10 := step (step hB7 B9) hb10
              go_wp2_with fail
              refine (rtexts_same _ _ _ _ _ xs _ (own_row ho10) hX10 (by omega)).mono ?_
              rintro e u11 ⟨rfl, n11, hu11⟩
              have hq : Below u10.heap.size u10 u11 := by rw [hu11]; exact bel_drewN u10 n11
              clear hu11
              go_wp2_with fail
              go_ret
              exact ⟨rfl, step hB10 hq⟩
      · have hd1 : decide ((k : Int) < (len1 : Int)) = false := by simp; omega
        clear hi
        rcases own_form hown with ⟨rfl, hn0⟩ | ⟨g, cap', rfl, hg, hkc, hcm, ho⟩
        · subst hn0
          have hln : ls = [] := List.eq_nil_of_length_eq_zero hlk
          subst hln
          have hL := none_row wr
          obtain ⟨xs, HXS⟩ : ∃ xs, Hid (srt [] = xs) := ⟨_, rfl⟩
          have hrise : Hid (xs.Pairwise (· < ·)) := by rw [← HXS.out]; exact srt_rises []
          have hxl : xs.length ≤ 20 := by rw [← HXS.out]; exact Nat.le_trans (srt_le []) (by first | omega | simp)
          have HZ : Hid (srt ([] ++ [] ++ []) = xs) := by rw [← HXS.out]; exact srt_congr _ _ (fun x => by simp)
          go_wp2_with fail
          refine (sorted_any none 0 0 [] _ hL (by first | omega | simp)).mono ?_
          rw [HXS.out]
          rintro e u1 ⟨rfl, hb1, ho1⟩
          have hL1 := hL.later hb1
          have HL1 := own_later hown hb1
          have hB1 : Below w.heap.size w u1 := step hBw hb1
          have hX1 := own_row ho1
          clear ho1
          obtain ⟨N1, hN⟩ : ∃ N1, N1 = wr.heap.size := ⟨_, rfl⟩
          rw [← hN] at hX1 ⊢
          clear hN hb1 hL hown
          go_wp2_with fail
          refine (within_nat _ _ _ (by omega) (by omega) (by omega) (by omega)).mono ?_
          rintro e u2 ⟨t, rfl, ht, -, rfl⟩
          have htk : t ≤ 0 := by omega
          obtain rfl : t = 0 := by omega
          have hH := none_row u2
          have hT := none_row u2
          have HY : Hid (srt ([] ++ [] ++ []) = xs) := by rw [← HXS.out]; exact rfl
          clear HL1
          go_wp2_with fail
          go_region_law (first
            | (refine step_app rfl _ _ rfl u2.heap.size 0 _ [] none 0 0 [] rfl rfl (fresh_own (by first | exact at_new _ _ _ (by simp) | exact heap_alloc_new _ _) (by simp)) (hT.later (by first | exact ((Below.refl _ _).alloc (Nat.le_refl _) _).drew | exact Below.alloc (by first | exact (Below.refl _ _).drew | exact bel_drewN _ _) (by simp) _)) (by omega) (by simp) ?_; intro v1 w1 o1 g1 t1; have B1 : Below u2.heap.size u2 w1 := Below.grown (by first | exact ((Below.refl _ _).alloc (Nat.le_refl _) _).drew | exact Below.alloc (by first | exact (Below.refl _ _).drew | exact bel_drewN _ _) (by simp) _) g1 (by simp) (by intro k e; have e2 : some u2.heap.size = some k := e; simp at e2; omega))
            | (refine step_app rfl _ _ rfl u2.heap.size (0 + 0) v1 ([] ++ []) none 0 0 [] rfl rfl o1 (hH.later B1) (by omega) B1.size ?_; intro v2 w2 o2 g2 t2; have B2 : Below u2.heap.size u2 w2 := bel_app B1 o1 g2 B1.size; obtain ⟨ad2, cap2, rfl, hn2, S2⟩ := own_any o2; replace S2 : SRow w2 ad2 0 cap2 ([] ++ [] ++ []) := (by have h := S2; first | exact h | (rw [show 0 + (k - t) + t = k by omega] at h; exact h)))
            | (go_simp; go_at_call 39; refine (sorted_any _ _ _ ([] ++ [] ++ []) _ S2 (by first | (simp; done) | (simp; omega))).mono ?_; rw [HY.out]; rintro e u3 ⟨rfl, hb3, ho3⟩))
          have B3 : Below u2.heap.size u2 u3 := step B2 hb3
          have hX3 := hX1.later B3
          have hL3 := hL1.later B3
          have hY3 := own_row ho3
          have hB3 : Below w.heap.size w u3 := step hB1 B3
          generalize w2.heap.size = N2 at *
          clear ho3 hb3 B2 g2 o2 t2 S2 B1 g1 o1 t1 B3 hX1 hL1 hB1 hH hT
          go_wp2_with fail
          go_loopw [14] (fun i wq => ∃ j n : Nat, 1 ≤ j ∧ j ≤ xs.length + 1 ∧ i = .int .i64 j ∧ wq = u3.drewN n) (fun i _ => xs.length + 1 - (intOf i).toNat)
          case atStart => exact ⟨1, 0, by omega, by omega, rfl, rfl⟩
          case round =>
            obtain ⟨j, n, hj1, hj2, rfl, rfl⟩ := hrel
            by_cases hjx : j < xs.length
            · obtain ⟨b1, o1, e1, c1⟩ := hX3.at_ (by omega)
              obtain ⟨rfl, rfl⟩ : N1 = b1 ∧ 0 = o1 := by simpa using e1
              have cA := c1 (j - 1) (by omega)
              have cB := c1 j hjx
              rw [Nat.zero_add] at cA cB
              have L1 : Op.bytesLess (str (xs.getD (j - 1) [])).toList (str (xs.getD j [])).toList = true := by
                rw [bytesLess_eq, ByteArray.toList_eq, ByteArray.toList_eq, str_list, str_list]
                simpa using rise_at xs hrise.out (j - 1) j (by omega) hjx
              generalize str (xs.getD (j - 1) []) = A at *
              generalize str (xs.getD j []) = C at *
              clear c1 e1
              have j1 : (0 : Int) ≤ (j : Int) - 1 := by omega
              have j2 : (j : Int) - 1 < (xs.length : Int) := by omega
              have j3 : ((j : Int) - 1).toNat = j - 1 := by omega
              have j4 : (0 : Int) ≤ (j : Int) := by omega
              have j5 : (j : Int) < (xs.length : Int) := by omega
              go_wp2_with fail
              go_quiet (fail)
              go_wp2_with fail
              go_roundw
              case rel => exact ⟨j + 1, _, by omega, by omega, by go_num, rfl⟩
              case measure => simp [intOf]; omega
            · have hd : decide ((j : Int) < (xs.length : Int)) = false := by simp; omega
              have hq := bel_drewN u3 n
              have hX4 := hX3.later hq
              have hL4 := hL3.later hq
              have hY4 := hY3.later hq
              have hB4 : Below w.heap.size w (u3.drewN n) := step hB3 hq
              clear hX3 hL3 hY3 hB3 hq
              generalize u3.drewN n = u4 at *
              go_wp2_with fail
              refine (rsorted_any none 0 0 [] _ hL4 (by omega)).mono ?_
              rw [HXS.out]
              rintro e u5 ⟨v5, rfl, ho5, hb5⟩
              obtain ⟨ad5, cap5, rfl, hn5, S5⟩ := own_any ho5
              have hX5 := hX4.later hb5
              have hL5 := hL4.later hb5
              have hY5 := hY4.later hb5
              have hB5 := step hB4 hb5
              clear hX4 hL4 hY4 hB4 hb5 ho5
              go_wp2_with fail
              refine (rtexts_same _ _ _ _ _ xs _ hX5 S5 (by omega)).mono ?_
              rintro e u6 ⟨rfl, n6, hu6⟩
              have hq : Below u5.heap.size u5 u6 := by rw [hu6]; exact bel_drewN u5 n6
              have hX6 := hX5.later hq
              have hL6 := hL5.later hq
              have hY6 := hY5.later hq
              have hB6 := step hB5 hq
              clear hX5 hL5 hY5 hB5 hq hu6 S5
              go_wp2_with fail
              refine (rtexts_same _ _ _ _ _ xs _ hX6 hY6 (by omega)).mono ?_
              rintro e u7 ⟨rfl, n7, hu7⟩
              have hq : Below u6.heap.size u6 u7 := by rw [hu7]; exact bel_drewN u6 n7
              have hX7 := hX6.later hq
              have hL7 := hL6.later hq
              have hB7 := step hB6 hq
              clear hX6 hL6 hY6 hB6 hq hu7
              go_wp2_with (first
                | (refine wpList_app rfl _ _ rfl u7.heap.size 0 _ [] none 0 0 [] rfl rfl (fresh_own (at_new _ _ _ (by simp)) (by simp)) (hL7.later ((Below.refl _ _).alloc (Nat.le_refl _) _)) (by omega) (by simp) ?_; intro v8 w8 o8 g8 t8; have B8 : Below u7.heap.size u7 w8 := Below.grown ((Below.refl _ _).alloc (Nat.le_refl _) _) g8 (by simp) (by intro k e; have e2 : some u7.heap.size = some k := e; simp at e2; omega))
                | (refine wpList_app rfl _ _ rfl u7.heap.size (0 + 0) v8 ([] ++ []) none 0 0 [] rfl rfl o8 (hL7.later B8) (by omega) B8.size ?_; intro v9 w9 o9 g9 t9; have B9 : Below u7.heap.size u7 w9 := bel_app B8 o8 g9 B8.size; obtain ⟨ad9, cap9, rfl, hn9, S9⟩ := own_any o9; replace S9 : SRow w9 ad9 0 cap9 ([] ++ [] ++ []) := (by have h := S9; first | exact h | (rw [show 0 + k + k = k + k by omega] at h; exact h))))
              refine (sorted_any _ _ _ ([] ++ [] ++ []) _ S9 (by first | (simp; done) | (simp; omega))).mono ?_
              rw [HZ.out]
              rintro e u10 ⟨rfl, hb10, ho10⟩
              have hX10 := (hX7.later B9).later hb10
              have hB10 := step (step hB7 B9) hb10
              go_wp2_with fail
              refine (rtexts_same _ _ _ _ _ xs _ (own_row ho10) hX10 (by omega)).mono ?_
              rintro e u11 ⟨rfl, n11, hu11⟩
              have hq : Below u10.heap.size u10 u11 := by rw [hu11]; exact bel_drewN u10 n11
              clear hu11
              go_wp2_with fail
              go_ret
              exact ⟨rfl, step hB10 hq⟩
        · have hL := own_row hown
          obtain ⟨xs, HXS⟩ : ∃ xs, Hid (srt ls = xs) := ⟨_, rfl⟩
          have hrise : Hid (xs.Pairwise (· < ·)) := by rw [← HXS.out]; exact srt_rises ls
          have hxl : xs.length ≤ 20 := by rw [← HXS.out]; exact Nat.le_trans (srt_le ls) (by first | omega | simp)
          have HZ : Hid (srt ([] ++ ls ++ ls) = xs) := by rw [← HXS.out]; exact srt_congr _ _ (fun x => by simp)
          go_wp2_with fail
          refine (sorted_any (some ⟨g, 0, none⟩) k cap' ls _ hL (by first | omega | simp)).mono ?_
          rw [HXS.out, hlk]
          rintro e u1 ⟨rfl, hb1, ho1⟩
          have hL1 := hL.later hb1
          have HL1 := own_later hown hb1
          have hB1 : Below w.heap.size w u1 := step hBw hb1
          have hX1 := own_row ho1
          clear ho1
          obtain ⟨N1, hN⟩ : ∃ N1, N1 = wr.heap.size := ⟨_, rfl⟩
          rw [← hN] at hX1 ⊢
          clear hN hb1 hL hown
          go_wp2_with fail
          refine (within_nat _ _ _ (by omega) (by omega) (by omega) (by omega)).mono ?_
          rintro e u2 ⟨t, rfl, ht, -, rfl⟩
          have htk : t ≤ k := by omega
          have htc : t ≤ cap' := by omega
          have hH := own_pre HL1 t cap' htk
          have hT := own_tail HL1 t (cap' - t) htk hkc
          have HY : Hid (srt ([] ++ ls.drop t ++ (ls.take t)) = xs) := by rw [← HXS.out]; exact srt_congr _ _ (fun x => by rw [List.nil_append, List.mem_append, or_comm, ← List.mem_append, List.take_append_drop])
          have hl2 : Hid (([] ++ ls.drop t ++ ls.take t).length = k) := by show _ = _; simp; omega
          have hl3 : Hid (([] ++ ls ++ ls).length = k + k) := by show _ = _; simp [hlk]
          clear HL1
          go_wp2_with fail
          go_region_law (first
            | (refine step_app rfl _ _ rfl u2.heap.size 0 _ [] (if cap' = t then some ⟨g, 0, none⟩ else some ⟨g, t, none⟩) (k - t) (cap' - t) (ls.drop t) rfl rfl (fresh_own (by first | exact at_new _ _ _ (by simp) | exact heap_alloc_new _ _) (by simp)) (hT.later (by first | exact ((Below.refl _ _).alloc (Nat.le_refl _) _).drew | exact Below.alloc (by first | exact (Below.refl _ _).drew | exact bel_drewN _ _) (by simp) _)) (by omega) (by simp) ?_; intro v1 w1 o1 g1 t1; have B1 : Below u2.heap.size u2 w1 := Below.grown (by first | exact ((Below.refl _ _).alloc (Nat.le_refl _) _).drew | exact Below.alloc (by first | exact (Below.refl _ _).drew | exact bel_drewN _ _) (by simp) _) g1 (by simp) (by intro k e; have e2 : some u2.heap.size = some k := e; simp at e2; omega))
            | (refine step_app rfl _ _ rfl u2.heap.size (0 + (k - t)) v1 ([] ++ ls.drop t) (some ⟨g, 0, none⟩) t cap' (ls.take t) rfl rfl o1 (hH.later B1) (by omega) B1.size ?_; intro v2 w2 o2 g2 t2; have B2 : Below u2.heap.size u2 w2 := bel_app B1 o1 g2 B1.size; obtain ⟨ad2, cap2, rfl, hn2, S2⟩ := own_any o2; replace S2 : SRow w2 ad2 k cap2 ([] ++ ls.drop t ++ (ls.take t)) := (by have h := S2; first | exact h | (rw [show 0 + (k - t) + t = k by omega] at h; exact h)))
            | (go_simp; go_at_call 39; refine (sorted_any _ _ _ ([] ++ ls.drop t ++ (ls.take t)) _ S2 (by first | (simp; done) | (simp; omega))).mono ?_; rw [HY.out, hl2.out]; rintro e u3 ⟨rfl, hb3, ho3⟩))
          generalize (if cap' = t then (some ⟨g, 0, none⟩ : Option Addr) else some ⟨g, t, none⟩) = adx at *
          have B3 : Below u2.heap.size u2 u3 := step B2 hb3
          have hX3 := hX1.later B3
          have hL3 := hL1.later B3
          have hY3 := own_row ho3
          have hB3 : Below w.heap.size w u3 := step hB1 B3
          generalize w2.heap.size = N2 at *
          clear ho3 hb3 B2 g2 o2 t2 S2 B1 g1 o1 t1 B3 hX1 hL1 hB1 hH hT
          go_wp2_with fail
          go_loopw [14] (fun i wq => ∃ j n : Nat, 1 ≤ j ∧ j ≤ xs.length + 1 ∧ i = .int .i64 j ∧ wq = u3.drewN n) (fun i _ => xs.length + 1 - (intOf i).toNat)
          case atStart => exact ⟨1, 0, by omega, by omega, rfl, rfl⟩
          case round =>
            obtain ⟨j, n, hj1, hj2, rfl, rfl⟩ := hrel
            by_cases hjx : j < xs.length
            · obtain ⟨b1, o1, e1, c1⟩ := hX3.at_ (by omega)
              obtain ⟨rfl, rfl⟩ : N1 = b1 ∧ 0 = o1 := by simpa using e1
              have cA := c1 (j - 1) (by omega)
              have cB := c1 j hjx
              rw [Nat.zero_add] at cA cB
              have L1 : Op.bytesLess (str (xs.getD (j - 1) [])).toList (str (xs.getD j [])).toList = true := by
                rw [bytesLess_eq, ByteArray.toList_eq, ByteArray.toList_eq, str_list, str_list]
                simpa using rise_at xs hrise.out (j - 1) j (by omega) hjx
              generalize str (xs.getD (j - 1) []) = A at *
              generalize str (xs.getD j []) = C at *
              clear c1 e1
              have j1 : (0 : Int) ≤ (j : Int) - 1 := by omega
              have j2 : (j : Int) - 1 < (xs.length : Int) := by omega
              have j3 : ((j : Int) - 1).toNat = j - 1 := by omega
              have j4 : (0 : Int) ≤ (j : Int) := by omega
              have j5 : (j : Int) < (xs.length : Int) := by omega
              go_wp2_with fail
              go_quiet (fail)
              go_wp2_with fail
              go_roundw
              case rel => exact ⟨j + 1, _, by omega, by omega, by go_num, rfl⟩
              case measure => simp [intOf]; omega
            · have hd : decide ((j : Int) < (xs.length : Int)) = false := by simp; omega
              have hq := bel_drewN u3 n
              have hX4 := hX3.later hq
              have hL4 := hL3.later hq
              have hY4 := hY3.later hq
              have hB4 : Below w.heap.size w (u3.drewN n) := step hB3 hq
              clear hX3 hL3 hY3 hB3 hq
              generalize u3.drewN n = u4 at *
              go_wp2_with fail
              refine (rsorted_any (some ⟨g, 0, none⟩) k cap' ls _ hL4 (by omega)).mono ?_
              rw [HXS.out]
              rintro e u5 ⟨v5, rfl, ho5, hb5⟩
              obtain ⟨ad5, cap5, rfl, hn5, S5⟩ := own_any ho5
              have hX5 := hX4.later hb5
              have hL5 := hL4.later hb5
              have hY5 := hY4.later hb5
              have hB5 := step hB4 hb5
              clear hX4 hL4 hY4 hB4 hb5 ho5
              go_wp2_with fail
              refine (rtexts_same _ _ _ _ _ xs _ hX5 S5 (by omega)).mono ?_
              rintro e u6 ⟨rfl, n6, hu6⟩
              have hq : Below u5.heap.size u5 u6 := by rw [hu6]; exact bel_drewN u5 n6
              have hX6 := hX5.later hq
              have hL6 := hL5.later hq
              have hY6 := hY5.later hq
              have hB6 := step hB5 hq
              clear hX5 hL5 hY5 hB5 hq hu6 S5
              go_wp2_with fail
              refine (rtexts_same _ _ _ _ _ xs _ hX6 hY6 (by omega)).mono ?_
              rintro e u7 ⟨rfl, n7, hu7⟩
              have hq : Below u6.heap.size u6 u7 := by rw [hu7]; exact bel_drewN u6 n7
              have hX7 := hX6.later hq
              have hL7 := hL6.later hq
              have hB7 := step hB6 hq
              clear hX6 hL6 hY6 hB6 hq hu7
              go_wp2_with (first
                | (refine wpList_app rfl _ _ rfl u7.heap.size 0 _ [] (some ⟨g, 0, none⟩) k cap' ls rfl rfl (fresh_own (at_new _ _ _ (by simp)) (by simp)) (hL7.later ((Below.refl _ _).alloc (Nat.le_refl _) _)) (by omega) (by simp) ?_; intro v8 w8 o8 g8 t8; have B8 : Below u7.heap.size u7 w8 := Below.grown ((Below.refl _ _).alloc (Nat.le_refl _) _) g8 (by simp) (by intro k e; have e2 : some u7.heap.size = some k := e; simp at e2; omega))
                | (refine wpList_app rfl _ _ rfl u7.heap.size (0 + k) v8 ([] ++ ls) (some ⟨g, 0, none⟩) k cap' ls rfl rfl o8 (hL7.later B8) (by omega) B8.size ?_; intro v9 w9 o9 g9 t9; have B9 : Below u7.heap.size u7 w9 := bel_app B8 o8 g9 B8.size; obtain ⟨ad9, cap9, rfl, hn9, S9⟩ := own_any o9; replace S9 : SRow w9 ad9 (k + k) cap9 ([] ++ ls ++ ls) := (by have h := S9; first | exact h | (rw [show 0 + k + k = k + k by omega] at h; exact h))))
              refine (sorted_any _ _ _ ([] ++ ls ++ ls) _ S9 (by first | (simp; done) | (simp; omega))).mono ?_
              rw [HZ.out, hl3.out]
              rintro e u10 ⟨rfl, hb10, ho10⟩
              have hX10 := (hX7.later B9).later hb10
              have hB10 := step (step hB7 B9) hb10
              go_wp2_with fail
              refine (rtexts_same _ _ _ _ _ xs _ (own_row ho10) hX10 (by omega)).mono ?_
              rintro e u11 ⟨rfl, n11, hu11⟩
              have hq : Below u10.heap.size u10 u11 := by rw [hu11]; exact bel_drewN u10 n11
              clear hu11
              go_wp2_with fail
              go_ret
              exact ⟨rfl, step hB10 hq⟩

end Go.Proofs.Ythcclkihfnjpfaa.textSorts

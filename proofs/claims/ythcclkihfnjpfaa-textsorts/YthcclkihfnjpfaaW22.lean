/-
  Contract of the reference's Sorted.
-/
import Derived.Test.YthcclkihfnjpfaaW21
import Derived.Test.YthcclkihfnjpfaaM7
import Derived.Deep.RegionLaw
set_option linter.unusedSimpArgs false
namespace Go.Proofs.Ythcclkihfnjpfaa
set_option linter.unusedVariables false
open Go.RowKit Go.Tx Go.Sort Go.Joins
attribute [local go_sem ↓] Go.wp_at_zero Go.wp_at_succ

theorem own_at {w : World} {B n : Nat} {v : Value} {ts : List (List UInt8)} (h : w.ownsRow B 9 1 v n (ts.map encStr)) (h0 : 0 < n) : ∃ g cap, v = .slice (some ⟨g, 0, none⟩) n cap ∧ B ≤ g ∧ n ≤ cap ∧ cap ≤ maxLen ∧ ∀ i, i < n → w.cell? ⟨g, i, none⟩ = some (.string (str (ts.getD i []))) := by
  rcases h.2 with ⟨_, hn⟩ | ⟨g, cap, cur, rfl, hb, hg, hnc, hcm, _⟩
  · omega
  · obtain ⟨b, off, e, hc⟩ := (own_row h).at_ h0
    simp only [Option.some.injEq, Addr.mk.injEq, and_true] at e
    obtain ⟨rfl, rfl⟩ := e
    exact ⟨g, cap, rfl, hb, hnc, hcm, fun i hi => by have := hc i hi; rwa [Nat.zero_add] at this⟩

theorem fresh_own {w : World} {B g : Nat} (hg : w.heap[g]? = some (.cells #[] 9 (0, 0))) (hb : B ≤ g) : w.ownsRow B 9 1 (.slice (some ⟨g, 0, none⟩) 0 0) 0 (([] : List (List UInt8)).map encStr) :=
  ⟨rfl, .inr ⟨g, 0, #[], rfl, hb, hg, Nat.le_refl _, Nat.zero_le _, rfl, rfl⟩⟩

theorem one_row {w : World} {h c : Nat} {x : List UInt8} (hc : w.cell? ⟨h, 0, none⟩ = some (.string (str x))) : SRow w (some ⟨h, 0, none⟩) 1 c [x] := by
  refine ⟨rfl, (fun e => nomatch e), fun y e j v hj => ?_⟩
  obtain rfl : ⟨h, 0, none⟩ = y := by simpa using e
  cases j with
  | zero =>
    simp at hj
    subst hj
    rw [addr_add]
    exact hc
  | succ j => simp at hj

theorem own_pre {w : World} {B g n cap : Nat} {ts : List (List UInt8)} (h : w.ownsRow B 9 1 (.slice (some ⟨g, 0, none⟩) n cap) n (ts.map encStr)) (j c : Nat) (hj : j ≤ n) : SRow w (some ⟨g, 0, none⟩) j c (ts.take j) := by
  have hr := own_row h
  have hn := hr.n
  refine ⟨by rw [List.length_take, hn]; omega, (fun e => nomatch e), fun x e i v hi => hr.cell x e i v ?_⟩
  rw [List.map_take, List.getElem?_take] at hi
  split at hi
  · exact hi
  · cases hi

theorem own_suf {w : World} {B g n cap : Nat} {ts : List (List UInt8)} (h : w.ownsRow B 9 1 (.slice (some ⟨g, 0, none⟩) n cap) n (ts.map encStr)) (j c : Nat) (hj : j ≤ n) : SRow w (some ⟨g, j, none⟩) (n - j) c (ts.drop j) := by
  have hr := own_row h
  have hn := hr.n
  refine ⟨by rw [List.length_drop, hn], (fun e => nomatch e), fun x e i v hi => ?_⟩
  obtain rfl : ⟨g, j, none⟩ = x := by simpa using e
  rw [List.map_drop, List.getElem?_drop] at hi
  have := hr.cell _ rfl (j + i) v hi
  rw [addr_add] at this ⊢
  simpa using this

theorem bel_drewN (w : World) (N : Nat) : Below w.heap.size w (w.drewN N) := (Oth.drewN w.heap.size w N).below (Nat.le_refl _)

theorem bel_app {B : Nat} {a w w' : World} {T : TypeId} {v : Value} {n : Nat} {xs : List Value} (h : Below B a w) (ho : w.ownsRow B T 1 v n xs) (hg : w.grownBy w' v.ownBlock) (hB : B ≤ w.heap.size) : Below B a w' := h.grown hg hB (fun k e => (ho.lt k e).1)

theorem at_new (w : World) (o : Obj) (n : Nat) (h : n = w.heap.size) : (w.alloc o).heap[n]? = some o := by subst h; exact heap_alloc_new w o
theorem at_old (w : World) (o : Obj) (n : Nat) (h : n < w.heap.size) {r : Option Obj} (hr : w.heap[n]? = r) : (w.alloc o).heap[n]? = r := (Below.heap_alloc w o n h).trans hr

theorem own_form {w : World} {B n : Nat} {v : Value} {ts : List (List UInt8)} (h : w.ownsRow B 9 1 v n (ts.map encStr)) : (v = .slice none 0 0 ∧ n = 0) ∨ ∃ g cap, v = .slice (some ⟨g, 0, none⟩) n cap ∧ B ≤ g ∧ n ≤ cap ∧ cap ≤ maxLen ∧ ∀ i, i < n → w.cell? ⟨g, i, none⟩ = some (.string (str (ts.getD i []))) := by
  rcases h.2 with h' | ⟨g, cap, cur, rfl, hb, hg, hnc, hcm, _⟩
  · exact .inl h'
  · refine .inr ⟨g, cap, rfl, hb, hnc, hcm, fun i hi => ?_⟩
    obtain ⟨b, off, e, hc⟩ := (own_row h).at_ (by omega)
    simp only [Option.some.injEq, Addr.mk.injEq, and_true] at e
    obtain ⟨rfl, rfl⟩ := e
    have := hc i hi
    rwa [Nat.zero_add] at this

theorem own_tail {w : World} {B g n cap : Nat} {ts : List (List UInt8)} (h : w.ownsRow B 9 1 (.slice (some ⟨g, 0, none⟩) n cap) n (ts.map encStr)) (j c : Nat) (hj : j ≤ n) (hc : n ≤ cap) : SRow w (if cap = j then some ⟨g, 0, none⟩ else some ⟨g, j, none⟩) (n - j) c (ts.drop j) := by
  by_cases e : cap = j
  · rw [if_pos e]
    have hn := (own_row h).n
    have hd : ts.drop j = [] := List.drop_eq_nil_of_le (by omega)
    rw [hd]
    exact ⟨by simp; omega, (fun e => nomatch e), fun x _ i v hi => by simp at hi⟩
  · rw [if_neg e]
    exact own_suf h j c hj

theorem own_mono {w : World} {B B' n : Nat} {T : TypeId} {v : Value} {xs : List Value} (h : w.ownsRow B T 1 v n xs) (hb : B' ≤ B) : w.ownsRow B' T 1 v n xs := by
  refine ⟨h.1, ?_⟩
  rcases h.2 with h' | ⟨g, cap, cur, e, h1, h2⟩
  · exact .inl h'
  · exact .inr ⟨g, cap, cur, e, Nat.le_trans hb h1, h2⟩

theorem none_row (w : World) : SRow w none 0 0 [] := ⟨rfl, fun _ => rfl, fun _ e => nomatch e⟩

set_option maxHeartbeats 4000000 in
set_option maxRecDepth 100000 in
theorem rsorted_any (a : Option Addr) (len cap : Nat) (ss : List (List UInt8)) (w : World) (hr : SRow w a len cap ss) (hl : len ≤ 1000) :
    Calls Try.prog 41 #[.slice a len cap] w fun e w' => ∃ v, e = .returned v ∧ w'.ownsRow w.heap.size 9 1 v (srt ss).length ((srt ss).map encStr) ∧ Below w.heap.size w w' := by
  go_enter Try.func41, Try.ntmps41
  go_wp2_with fail
  go_loopw [3, 4] (fun v i wr => ∃ (k : Nat) (ts : List (List UInt8)), k ≤ len ∧ ts.length ≤ k ∧ i = .int .i64 k ∧ Hid (srt (ss.take k) = ts) ∧ wr.ownsRow w.heap.size 9 1 v ts.length (ts.map encStr) ∧ Below w.heap.size w wr) (fun _ i _ => len - (intOf i).toNat)
  case atStart => exact ⟨0, [], by omega, by simp, rfl, srt_nil, World.ownsRow_nil _ _ _ _, Below.refl _ _⟩
  case round =>
    obtain ⟨k, ts, hk, htl, rfl, hts, hown, hB⟩ := hrel
    by_cases hlt : k < len
    · obtain ⟨b, off, rfl, hc⟩ := hr.at_ (by omega)
      have hcl := hc k hlt
      have hxl := cell_later hB hcl
      have hsn : ss.take (k + 1) = ss.take k ++ [ss.getD k []] := by
        rw [List.take_add_one]
        simp [List.getD, List.getElem?_eq_getElem (show k < ss.length by rw [hr.n]; exact hlt)]
      generalize ss.getD k [] = x at *
      have HSN : Hid _ := hsn
      clear hsn hc hcl
      have nx := World.new_ne wr ⟨b, off + k, none⟩ hxl
      have cE : ∀ N, ((wr.drewN N).alloc (.cells #[] 9)).cell? ⟨b, off + k, none⟩ = some (.string (str x)) := fun N => cell_later ((bel_drewN wr N).alloc (Nat.le_refl _) _) hxl
      have i1 : (0 : Int) ≤ (k : Int) := by omega
      have i2 : (k : Int) < (len : Int) := by omega
      rcases own_form hown with ⟨rfl, hn0⟩ | ⟨g, cap', rfl, hg, hnc, hcm, ho⟩
      · have htn : ts = [] := List.eq_nil_of_length_eq_zero hn0
        subst htn
        have hA := none_row wr
        have hC := none_row wr
        have HLEN : Hid ((([] : List (List UInt8)) ++ [x] ++ []).length = 0 + 0 + 1 + 0) := rfl
        have HI : Hid (srt (ss.take (k + 1)) = [] ++ [x] ++ []) := by show _ = _; rw [HSN.out]; exact ins_new _ [] x 0 hts.out (by simp) (fun i _ h => by simp at h) (fun i h => by omega)
        clear hn0
        go_wp2_with fail
        go_loopw [5] (fun c wq => c = .int .i64 0 ∧ ∃ n : Nat, wq = wr.drewN n) (fun c _ => (intOf c).toNat)
        case atStart => exact ⟨by first | rfl | simp, 0, rfl⟩
        case round =>
          obtain ⟨rfl, n, rfl⟩ := hrel
          go_wp2_with fail
          go_quiet (fail)
          go_wp2_with fail
          go_quiet (fail)
          go_wp2_with fail
          go_region_law (first
            | (refine step_app rfl _ _ rfl wr.heap.size 0 _ [] none 0 0 [] rfl rfl (fresh_own (by first | exact at_new _ _ _ (by simp) | exact at_old _ _ _ (by simp) (at_new _ _ _ (by simp))) (by simp)) (hA.later (by first | exact (bel_drewN _ _).alloc (Nat.le_refl _) _ | exact ((bel_drewN _ _).alloc (Nat.le_refl _) _).alloc (by simp) _)) (by omega) (by first | (simp; done) | (simp; omega)) ?_; intro v1 w1 o1 g1 t1; have B1 : Below wr.heap.size wr w1 := Below.grown (by first | exact (bel_drewN _ _).alloc (Nat.le_refl _) _ | exact ((bel_drewN _ _).alloc (Nat.le_refl _) _).alloc (by simp) _) g1 (by first | (simp; done) | (simp; omega)) (by intro k e; first | (have e2 : some wr.heap.size = some k := e; simp at e2; omega) | (have e2 : some (wr.heap.size + 1) = some k := e; simp at e2; omega)); have c1 := cell_later B1 hxl; (first | (have cX : w1.cell? ⟨wr.heap.size + 1, 0, none⟩ = some (.string (str x)) := g1.cell (by rw [cell_of_block (at_new _ _ _ (by simp))]; rfl) (by intro e; first | (have e2 : some (wr.heap.size + 1) = some wr.heap.size := e; simp at e2) | (have e2 : some wr.heap.size = some (wr.heap.size + 1) := e; simp at e2))) | (have cX : w1.cell? ⟨wr.heap.size, 0, none⟩ = some (.string (str x)) := g1.cell (by rw [cell_of_block (at_old _ _ _ (by simp) (at_new _ _ _ (by simp)))]; rfl) (by intro e; first | (have e2 : some (wr.heap.size + 1) = some wr.heap.size := e; simp at e2) | (have e2 : some wr.heap.size = some (wr.heap.size + 1) := e; simp at e2))) | skip))
            | (refine step_app rfl _ _ rfl wr.heap.size (0 + 0) v1 ([] ++ []) (some _) 1 1 [x] rfl rfl (by first | exact o1 | exact o1.alloc _) (one_row (by first | exact cX | (rw [cell_of_block (at_new _ _ _ rfl)]; rfl))) (by omega) (by first | exact B1.size | (simp; have := B1.size; omega)) ?_; intro v2 w2 o2 g2 t2; have B2 : Below wr.heap.size wr w2 := bel_app (by first | exact B1 | exact B1.alloc B1.size _) (by first | exact o1 | exact o1.alloc _) g2 (by first | exact B1.size | (simp; have := B1.size; omega)); have c2 := cell_later B2 hxl)
            | (refine step_app rfl _ _ rfl wr.heap.size (0 + 0 + 1) v2 ([] ++ [] ++ [x]) none 0 0 [] rfl rfl o2 (hC.later B2) (by omega) B2.size ?_; intro v3 w3 o3 g3 t3; have B3 : Below wr.heap.size wr w3 := bel_app B2 o2 g3 B2.size))
          all_goals
            go_wp2_with fail
            go_roundw
            case rel => exact ⟨k + 1, [] ++ [x] ++ [], by omega, by rw [HLEN.out]; omega, by go_num, HI, by rw [HLEN.out]; exact own_mono o3 hB.size, hB.trans (B3.mono hB.size)⟩
            case measure => simp [intOf]; omega
      · go_wp2_with fail
        go_loopw [5] (fun c wq => ∃ j n : Nat, j ≤ ts.length ∧ c = .int .i64 j ∧ wq = wr.drewN n ∧ Hid (∀ i, j ≤ i → i < ts.length → x < ts.getD i [])) (fun c _ => (intOf c).toNat)
        case atStart => exact ⟨ts.length, 0, by omega, rfl, rfl, fun i h1 h2 => by omega⟩
        case round =>
          obtain ⟨j, n, hj, rfl, rfl, hhi⟩ := hrel
          by_cases hj0 : 0 < j
          · have hco := ho (j - 1) (by omega)
            have j1 : (0 : Int) ≤ (j : Int) - 1 := by omega
            have j2 : (j : Int) - 1 < (ts.length : Int) := by omega
            have j3 : ((j : Int) - 1).toNat = j - 1 := by omega
            have j4 : ((j : Int) == 0) = false := by simp; omega
            obtain ⟨y, HY⟩ : ∃ y, Hid (ts.getD (j - 1) [] = y) := ⟨_, rfl⟩
            rw [HY.out] at hco
            by_cases hxy : x < y
            · have L1 : Op.bytesLess (str x).toList (str y).toList = true := by rw [bytesLess_eq, ByteArray.toList_eq, ByteArray.toList_eq, str_list, str_list]; simpa using hxy
              have HH : Hid (∀ i, j - 1 ≤ i → i < ts.length → x < ts.getD i []) := fun i h1 h2 => by
                rcases Nat.lt_or_ge i j with h | h
                · obtain rfl : i = j - 1 := by omega
                  rw [HY.out]; exact hxy
                · exact hhi.out i h h2
              go_wp2_with fail
              go_quiet (fail)
              go_wp2_with fail
              go_roundw
              case rel => exact ⟨j - 1, _, by omega, by go_num, rfl, HH⟩
              case measure => simp [intOf]; omega
            · have L1 : Op.bytesLess (str x).toList (str y).toList = false := by rw [bytesLess_eq, ByteArray.toList_eq, ByteArray.toList_eq, str_list, str_list]; simpa using hxy
              by_cases hxe : y = x
              · have L2 : ((str y).toList == (str x).toList) = true := by rw [hxe]; simp
                have HS : Hid (srt (ss.take (k + 1)) = ts) := by
                  show _ = _
                  rw [HSN.out]
                  refine ins_same _ _ _ hts.out ?_
                  rw [← hxe, ← HY.out]
                  simp [List.getD, List.getElem?_eq_getElem (show j - 1 < ts.length by omega)]
                clear hxe
                go_wp2_with fail
                go_quiet (fail)
                go_wp2_with fail
                go_quiet (fail)
                go_wp2_with fail
                go_roundw
                case rel => exact ⟨k + 1, ts, by omega, by omega, by go_num, HS, hown, hB.trans ((bel_drewN _ _).mono hB.size)⟩
                case measure => simp [intOf]; omega
              · have L2 : ((str y).toList == (str x).toList) = false := by rw [ByteArray.toList_eq, ByteArray.toList_eq, str_list, str_list]; simpa using hxe
                have LO : ∀ i, i < j → ts.getD i [] < x := by
                  intro i hi
                  have hyx : y < x := bs_lt_of_le_of_ne (List.not_lt.1 hxy) hxe
                  rcases Nat.lt_or_ge i (j - 1) with h | h
                  · have := rise_at ts (hts.out ▸ srt_rises _) i (j - 1) h (by omega)
                    rw [HY.out] at this
                    exact bs_lt_trans this hyx
                  · obtain rfl : i = j - 1 := by omega
                    rw [HY.out]; exact hyx
                have HX : Hid _ := hxe
                clear hxe
                have hjc : j ≤ cap' := by omega
                have hA := own_pre hown j cap' hj
                have hC := own_tail hown j (cap' - j) hj hnc
                have HLEN : Hid ((ts.take j ++ [x] ++ ts.drop j).length = 0 + j + 1 + (ts.length - j)) := by show _ = _; simp; omega
                have HI : Hid (srt (ss.take (k + 1)) = ts.take j ++ [x] ++ ts.drop j) := by show _ = _; rw [HSN.out]; exact ins_new _ ts x j hts.out hj hhi.out LO
                go_wp2_with fail
                go_quiet (fail)
                go_wp2_with fail
                go_quiet (fail)
                go_wp2_with fail
                go_region_law (first
                  | (refine step_app rfl _ _ rfl wr.heap.size 0 _ [] (some ⟨g, 0, none⟩) j cap' (ts.take j) rfl rfl (fresh_own (by first | exact at_new _ _ _ (by simp) | exact at_old _ _ _ (by simp) (at_new _ _ _ (by simp))) (by simp)) (hA.later (by first | exact (bel_drewN _ _).alloc (Nat.le_refl _) _ | exact ((bel_drewN _ _).alloc (Nat.le_refl _) _).alloc (by simp) _)) (by omega) (by first | (simp; done) | (simp; omega)) ?_; intro v1 w1 o1 g1 t1; have B1 : Below wr.heap.size wr w1 := Below.grown (by first | exact (bel_drewN _ _).alloc (Nat.le_refl _) _ | exact ((bel_drewN _ _).alloc (Nat.le_refl _) _).alloc (by simp) _) g1 (by first | (simp; done) | (simp; omega)) (by intro k e; first | (have e2 : some wr.heap.size = some k := e; simp at e2; omega) | (have e2 : some (wr.heap.size + 1) = some k := e; simp at e2; omega)); have c1 := cell_later B1 hxl; (first | (have cX : w1.cell? ⟨wr.heap.size + 1, 0, none⟩ = some (.string (str x)) := g1.cell (by rw [cell_of_block (at_new _ _ _ (by simp))]; rfl) (by intro e; first | (have e2 : some (wr.heap.size + 1) = some wr.heap.size := e; simp at e2) | (have e2 : some wr.heap.size = some (wr.heap.size + 1) := e; simp at e2))) | (have cX : w1.cell? ⟨wr.heap.size, 0, none⟩ = some (.string (str x)) := g1.cell (by rw [cell_of_block (at_old _ _ _ (by simp) (at_new _ _ _ (by simp)))]; rfl) (by intro e; first | (have e2 : some (wr.heap.size + 1) = some wr.heap.size := e; simp at e2) | (have e2 : some wr.heap.size = some (wr.heap.size + 1) := e; simp at e2))) | skip))
                  | (refine step_app rfl _ _ rfl wr.heap.size (0 + j) v1 ([] ++ ts.take j) (some _) 1 1 [x] rfl rfl (by first | exact o1 | exact o1.alloc _) (one_row (by first | exact cX | (rw [cell_of_block (at_new _ _ _ rfl)]; rfl))) (by omega) (by first | exact B1.size | (simp; have := B1.size; omega)) ?_; intro v2 w2 o2 g2 t2; have B2 : Below wr.heap.size wr w2 := bel_app (by first | exact B1 | exact B1.alloc B1.size _) (by first | exact o1 | exact o1.alloc _) g2 (by first | exact B1.size | (simp; have := B1.size; omega)); have c2 := cell_later B2 hxl)
                  | (refine step_app rfl _ _ rfl wr.heap.size (0 + j + 1) v2 ([] ++ ts.take j ++ [x]) (if cap' = j then some ⟨g, 0, none⟩ else some ⟨g, j, none⟩) (ts.length - j) (cap' - j) (ts.drop j) rfl rfl o2 (hC.later B2) (by omega) B2.size ?_; intro v3 w3 o3 g3 t3; have B3 : Below wr.heap.size wr w3 := bel_app B2 o2 g3 B2.size))
                all_goals
                  go_wp2_with fail
                  go_roundw
                  case rel => exact ⟨k + 1, ts.take j ++ [x] ++ ts.drop j, by omega, by rw [HLEN.out]; omega, by go_num, HI, by rw [HLEN.out]; exact own_mono o3 hB.size, hB.trans (B3.mono hB.size)⟩
                  case measure => simp [intOf]; omega
          · have j4 : ((j : Int) == 0) = true := by simp; omega
            have j5 : decide ((0 : Int) < (j : Int)) = false := by simp; omega
            have LO : ∀ i, i < j → ts.getD i [] < x := fun i hi => by omega
            have hjc : j ≤ cap' := by omega
            have hA := own_pre hown j cap' hj
            have hC := own_tail hown j (cap' - j) hj hnc
            have HLEN : Hid ((ts.take j ++ [x] ++ ts.drop j).length = 0 + j + 1 + (ts.length - j)) := by show _ = _; simp; omega
            have HI : Hid (srt (ss.take (k + 1)) = ts.take j ++ [x] ++ ts.drop j) := by show _ = _; rw [HSN.out]; exact ins_new _ ts x j hts.out hj hhi.out LO
            go_wp2_with fail
            go_quiet (fail)
            go_wp2_with fail
            go_quiet (fail)
            go_wp2_with fail
            go_region_law (first
              | (refine step_app rfl _ _ rfl wr.heap.size 0 _ [] (some ⟨g, 0, none⟩) j cap' (ts.take j) rfl rfl (fresh_own (by first | exact at_new _ _ _ (by simp) | exact at_old _ _ _ (by simp) (at_new _ _ _ (by simp))) (by simp)) (hA.later (by first | exact (bel_drewN _ _).alloc (Nat.le_refl _) _ | exact ((bel_drewN _ _).alloc (Nat.le_refl _) _).alloc (by simp) _)) (by omega) (by first | (simp; done) | (simp; omega)) ?_; intro v1 w1 o1 g1 t1; have B1 : Below wr.heap.size wr w1 := Below.grown (by first | exact (bel_drewN _ _).alloc (Nat.le_refl _) _ | exact ((bel_drewN _ _).alloc (Nat.le_refl _) _).alloc (by simp) _) g1 (by first | (simp; done) | (simp; omega)) (by intro k e; first | (have e2 : some wr.heap.size = some k := e; simp at e2; omega) | (have e2 : some (wr.heap.size + 1) = some k := e; simp at e2; omega)); have c1 := cell_later B1 hxl; (first | (have cX : w1.cell? ⟨wr.heap.size + 1, 0, none⟩ = some (.string (str x)) := g1.cell (by rw [cell_of_block (at_new _ _ _ (by simp))]; rfl) (by intro e; first | (have e2 : some (wr.heap.size + 1) = some wr.heap.size := e; simp at e2) | (have e2 : some wr.heap.size = some (wr.heap.size + 1) := e; simp at e2))) | (have cX : w1.cell? ⟨wr.heap.size, 0, none⟩ = some (.string (str x)) := g1.cell (by rw [cell_of_block (at_old _ _ _ (by simp) (at_new _ _ _ (by simp)))]; rfl) (by intro e; first | (have e2 : some (wr.heap.size + 1) = some wr.heap.size := e; simp at e2) | (have e2 : some wr.heap.size = some (wr.heap.size + 1) := e; simp at e2))) | skip))
              | (refine step_app rfl _ _ rfl wr.heap.size (0 + j) v1 ([] ++ ts.take j) (some _) 1 1 [x] rfl rfl (by first | exact o1 | exact o1.alloc _) (one_row (by first | exact cX | (rw [cell_of_block (at_new _ _ _ rfl)]; rfl))) (by omega) (by first | exact B1.size | (simp; have := B1.size; omega)) ?_; intro v2 w2 o2 g2 t2; have B2 : Below wr.heap.size wr w2 := bel_app (by first | exact B1 | exact B1.alloc B1.size _) (by first | exact o1 | exact o1.alloc _) g2 (by first | exact B1.size | (simp; have := B1.size; omega)); have c2 := cell_later B2 hxl)
              | (refine step_app rfl _ _ rfl wr.heap.size (0 + j + 1) v2 ([] ++ ts.take j ++ [x]) (if cap' = j then some ⟨g, 0, none⟩ else some ⟨g, j, none⟩) (ts.length - j) (cap' - j) (ts.drop j) rfl rfl o2 (hC.later B2) (by omega) B2.size ?_; intro v3 w3 o3 g3 t3; have B3 : Below wr.heap.size wr w3 := bel_app B2 o2 g3 B2.size))
            all_goals
              go_wp2_with fail
              go_roundw
              case rel => exact ⟨k + 1, ts.take j ++ [x] ++ ts.drop j, by omega, by rw [HLEN.out]; omega, by go_num, HI, by rw [HLEN.out]; exact own_mono o3 hB.size, hB.trans (B3.mono hB.size)⟩
              case measure => simp [intOf]; omega
    · have HE : Hid (srt ss = ts) := by rw [← hts.out, List.take_of_length_le (by rw [hr.n]; omega)]; rfl
      go_wp2_with fail
      go_ret
      exact ⟨_, rfl, by rw [HE.out]; exact hown, hB⟩

end Go.Proofs.Ythcclkihfnjpfaa

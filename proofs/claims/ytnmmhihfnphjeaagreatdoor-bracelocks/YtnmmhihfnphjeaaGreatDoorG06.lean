/-
  Contract of the law's own Plain: any bytes, made plain.
-/
import Derived.Test.YtnmmhihfnphjeaaGreatDoorG02
import Derived.Test.YtnmmhihfnphjeaaGreatDoorG05
import Derived.Deep.RegionWith
import Derived.Deep.DeepCutAuto
import Derived.Deep.RegionHeld3
import Derived.Deep.DrawnRows
import Derived.OpenShut
import Derived.Deep.AppendLies
import Derived.Laws.AppendOwnNone

namespace Go.Proofs.YtnmmhihfnphjeaaGreatDoor.W
set_option linter.unusedVariables false
open Go.RowKit
attribute [local go_sem ↓] Go.wp_at_zero Go.wp_at_succ

/-- A slice of integers that is there: its elements 'xs'. -/
structure Row (k : IntKind) (w : World) (a : Option Addr) (len cap : Nat) (xs : List Int) : Prop where
  n : xs.length = len
  nil : a = none → len = 0 ∧ cap = 0
  le : len ≤ cap
  mx : cap ≤ maxLen
  cell : ∀ x, a = some x → ∀ i, i < len → w.cell? (x.add i) = some (.int k (xs.getD i 0))
  wf : ∀ z ∈ xs, (Lit.int k z).wf = true

theorem info8 : Tryz.prog.info? 5 = some Tryz.t5 := by kernel_rfl

/-- The cells of a row of numbers. -/
def cells8 (xs : List Int) : List Value := xs.map (Value.int .u8)
theorem cells8_one (xs : List Int) : ∀ u ∈ cells8 xs, u.oneCell' = true := by
  intro u hu
  simp [cells8] at hu
  obtain ⟨z, _, rfl⟩ := hu
  rfl
theorem cells8_len (xs : List Int) : (cells8 xs).length = xs.length := by simp [cells8]

set_option maxHeartbeats 400000 in
set_option maxRecDepth 100000 in
theorem lplain_nil (most : Nat) (w : World) (hm : most ≤ 300) :
    Calls Tryz.prog 34 #[.slice none 0 0, .int .i64 most] w fun e w' => e = .returned (.string (Tx.str (Tx.sg []))) ∧ Below w.heap.size w w' := by
  have hcv : (convert 38 9 (.slice (some ⟨w.heap.size, 0, none⟩) 0 0)).run Tryz.prog (w.alloc (.cells #[] 5)) = .ok (.string (Tx.str [])) (w.alloc (.cells #[] 5)) := conv_new w [] 0 (.cells #[] 5) (fun i hi => by simp at hi)
  have hown : (w.alloc (.cells #[] 5)).ownsRow w.heap.size 5 1 (.slice (some ⟨w.heap.size, 0, none⟩) 0 0) 0 [] := World.ownsRow_made w #[] 0 (Nat.le_refl _) (by decide) rfl
  go_enter Tryz.func34, Tryz.ntmps34
  go_wp2_with (at_builtin; refine wpList_append_own_none rfl _ _ _ rfl w.heap.size 5 Tryz.t5 1 Tryz.underlying38 info8 _ 0 [] rfl hown rfl ?_)
  go_loop [6] (fun i => i = .int .i64 0) (fun _ => 0)
  case atStart => rfl
  case round =>
    subst hrel
    go_wp2_with fail
    go_ret
    exact ⟨rfl, (Below.refl _ _).alloc (Nat.le_refl _) _⟩

/-- The row behind k rounds: the first k made plain. -/
def upTo (ys : List Int) (k : Nat) : List Int := (ys.take k).map (fun z => ((Tx.sg1 z).toNat : Int)) ++ ys.drop k
theorem upTo_len (ys : List Int) (k : Nat) : (upTo ys k).length = ys.length := by simp [upTo]; omega
theorem upTo_at (ys : List Int) (k : Nat) (h : k < ys.length) : (cells8 (upTo ys k))[k]? = some (.int .u8 (ys.getD k 0)) := by
  simp [cells8, upTo, List.getElem?_append, Nat.min_eq_left (Nat.le_of_lt h), List.getElem?_eq_getElem h]
theorem upTo_set (ys : List Int) (k : Nat) (h : k < ys.length) : (cells8 (upTo ys k)).set k (.int .u8 ((Tx.sg1 (ys.getD k 0)).toNat : Int)) = cells8 (upTo ys (k + 1)) := by
  apply List.ext_getElem?
  intro j
  rw [List.getElem?_set]
  rcases Nat.lt_trichotomy j k with hj | hj | hj
  · rw [if_neg (by omega)]
    simp [cells8, upTo, List.getElem?_append, Nat.min_eq_left (Nat.le_of_lt h), Nat.min_eq_left (show k + 1 ≤ ys.length by omega), hj, Nat.lt_succ_of_lt hj]
  · subst hj
    rw [if_pos rfl]
    simp [cells8, upTo, List.getElem?_append, Nat.min_eq_left (Nat.le_of_lt h), Nat.min_eq_left (show j + 1 ≤ ys.length by omega), List.getElem?_eq_getElem h]
    omega
  · rw [if_neg (by omega)]
    simp [cells8, upTo, List.getElem?_append, Nat.min_eq_left (Nat.le_of_lt h), Nat.min_eq_left (show k + 1 ≤ ys.length by omega), show ¬ j < k by omega, show ¬ j < k + 1 by omega]
    congr 2; omega

theorem upTo_str (ys : List Int) (m : Nat) (h : ys.length = m) : strOfNums (upTo ys m) = Tx.str (Tx.sg ys) := by
  subst h
  refine Tx.ba_ext ?_
  rw [strOfNums_data, Tx.str_list, upTo, List.drop_length, List.append_nil, List.take_length, List.map_map, Tx.sg]
  apply List.map_congr_left
  intro z _
  simp

theorem row_form {w : World} {base e m : Nat} {v : Value} {xs : List Value} (h : w.ownsRow base e 1 v m xs) (hv : ¬ v = .slice none 0 0) : ∃ g cv, v = .slice (some ⟨g, 0, none⟩) m cv ∧ base ≤ g := by
  rcases h.2 with ⟨h1, _⟩ | ⟨g, cv, cur, h1, h2, _⟩
  · exact absurd h1 hv
  · exact ⟨g, cv, h1, h2⟩

theorem sg1_at (z : Int) (h0 : 0 ≤ z % 38) (h : z % 38 < 38) : ∀ hh : (z % 38).toNat < 38, (ByteArray.mk #[10, 9, 32, 34, 92, 35, 47, 97, 98, 99, 110, 116, 58, 61, 45, 91, 93, 123, 125, 44, 46, 48, 49, 50, 51, 118, 120, 126, 94, 42, 124, 60, 62, 33, 95, 122, 121, 113])[(z % 38).toNat]'hh = Tx.sg1 z := by
  intro hh
  unfold Tx.sg1 Tx.sgs
  rw [List.getD_eq_getElem?_getD, List.getElem?_eq_getElem (by exact hh)]
  rfl

set_option maxHeartbeats 800000 in
set_option maxRecDepth 100000 in
theorem lplain_some (x : Addr) (len cap : Nat) (xs : List Int) (most : Nat) (w : World) (hr : Row .u8 w (some x) len cap xs) (hm : most ≤ 300) :
    Calls Tryz.prog 34 #[.slice (some x) len cap, .int .i64 most] w fun e w' => e = .returned (.string (Tx.str (Tx.sg (xs.take most)))) ∧ Below w.heap.size w w' := by
  have hl := hr.le
  have hc := hr.mx
  unfold maxLen at hc
  have hown : (w.alloc (.cells #[] 5)).ownsRow w.heap.size 5 1 (.slice (some ⟨w.heap.size, 0, none⟩) 0 0) 0 [] := World.ownsRow_made w #[] 0 (Nat.le_refl _) (by decide) rfl
  obtain ⟨m, hmm⟩ : ∃ m, m = min len most := ⟨_, rfl⟩
  have hnews : ∀ j u, (cells8 (xs.take m))[j]? = some u → (w.alloc (.cells #[] 5)).cell? (x.add j) = some u := by
    intro j u hu
    have hj : j < m := by
      rcases Nat.lt_or_ge j m with h | h
      · exact h
      · rw [List.getElem?_eq_none (by rw [cells8_len]; simp; omega)] at hu; cases hu
    have hc2 := hr.cell x rfl j (by omega)
    have : u = .int .u8 (xs.getD j 0) := by
      have hjx : j < xs.length := by rw [hr.n]; omega
      simp [cells8, hj, List.getElem?_eq_getElem hjx] at hu
      simp [List.getD, List.getElem?_eq_getElem hjx, ← hu]
    rw [this]
    exact cell_later ((Below.refl _ _).alloc (Nat.le_refl _) _) hc2
  have hlen : (cells8 (xs.take m)).length = m * 1 := by rw [cells8_len]; simp [hr.n]; omega
  have hm3 : m ≤ 300 := by omega
  have hlx : (xs.take m).length = m := by simp [hr.n]; omega
  have hbd : ∀ z ∈ xs.take m, 0 ≤ z ∧ z ≤ 255 := fun z hz => bounds_u8 (hr.wf z (List.mem_of_mem_take hz))
  rw [show xs.take most = xs.take m by rw [hmm, List.take_eq_take_iff, hr.n]; omega]
  generalize xs.take m = ys at hnews hlen hlx hbd ⊢
  have hyb : ∀ k, k < m → 0 ≤ ys.getD k 0 ∧ ys.getD k 0 ≤ 255 := by
    intro k hk
    have : ys.getD k 0 = ys[k]'(by omega) := by simp [List.getD, List.getElem?_eq_getElem (show k < ys.length by omega)]
    rw [this]
    exact hbd _ (List.getElem_mem _)
  clear hbd
  by_cases hlm : len ≤ most
  case' pos =>
    obtain rfl : m = len := by omega
    clear hmm hr
  case' neg =>
    obtain rfl : m = most := by omega
    clear hmm hr
  all_goals
    go_enter Tryz.func34, Tryz.ntmps34
    go_wp2_with (at_builtin; refine wpList_append_own _ rfl _ _ _ rfl w.heap.size 5 Tryz.t5 (.int .u8 0) 1 1 Tryz.underlying38 info8 rfl rfl rfl rfl (by omega) (.slice (some ⟨w.heap.size, 0, none⟩) 0 0) 0 [] rfl hown x m _ (cells8 ys) rfl hlen hnews (cells8_one _) (by unfold maxLen; omega) (by omega) (by simp) ?_; intro v w1 h1 h2 h3)
    obtain ⟨g, cv, hv, hg⟩ := row_form h1 (by simp [h3])
    have hb1 : Below w.heap.size w w1 := ((Below.refl _ _).alloc (Nat.le_refl _) _).grown h2 (by simp) (by intro k e; simp [Value.ownBlock] at e; omega)
    rw [hv] at h1 ⊢
    rw [Nat.zero_add, List.nil_append] at h1
    rw [Nat.zero_add]
    clear h2 h3 hown hnews hv
    go_loopw [6] (fun i wr => ∃ k : Nat, k ≤ m ∧ i = .int .i64 k ∧ wr.ownsRow w.heap.size 5 1 (.slice (some ⟨g, 0, none⟩) m cv) m (cells8 (upTo ys k)) ∧ Below w.heap.size w wr) (fun i _ => m - (RowKit.intOf i).toNat)
    case atStart => exact ⟨0, Nat.zero_le _, rfl, by simpa [upTo] using h1, hb1⟩
    case round =>
      obtain ⟨k, hk, rfl, ho, hbr⟩ := hrel
      clear h1 hb1
      by_cases hlt : k < m
      · have hce : wr.cell? ⟨g, k, none⟩ = some (.int .u8 (ys.getD k 0)) := by rw [ho.cellAt k (by omega)]; exact upTo_at ys k (by omega)
        have hfz := ho.frozenAt k
        have hk1 : (0 : Int) ≤ (k : Int) := by omega
        have hk2 : (k : Int) < (m : Int) := by omega
        obtain ⟨z0, z1⟩ := hyb k hlt
        have hst := ho.stored k (.int .u8 ((Tx.sg1 (ys.getD k 0)).toNat : Int))
        rw [upTo_set ys k (by omega)] at hst
        have HST : Hid _ := hst
        clear hst
        generalize ys.getD k 0 = z at hce z0 z1 HST
        go_wp2_with fail
        have hwz : IntKind.i64.wrap z = z := by rw [IntKind.wrap_i64]; omega
        go_region_with (first | (go_at_call 51; refine (signs_any _).mono ?_; rintro e w' ⟨rfl, rfl⟩) | (go_at_call 52; refine (within_any _ _ _ (by omega) (by omega) (by omega) (by omega)).mono ?_; rintro e w' ⟨rfl, rfl⟩))
        all_goals
          go_wp2_with fail
          go_roundw
          case rel =>
            refine ⟨k + 1, by omega, by go_num, ?_, ?_⟩
            · have hq := HST.out.1
              rw [← sg1_at z (by omega) (by omega) (by omega)] at hq
              exact hq
            · exact (hbr.setCell hg _).drew
          case measure => simp [RowKit.intOf]; omega
      · have hcv : (convert 38 9 (.slice (some ⟨g, 0, none⟩) m cv)).run Tryz.prog wr = .ok (.string (Tx.str (Tx.sg ys))) wr := by
          obtain rfl : k = m := by omega
          have hq := run_convert_bytes_arg (P := Tryz.prog) wr 38 5 Tryz.underlying38 Tryz.underlying5 g 0 k cv (upTo ys k) (by rw [upTo_len, hlx]) (fun i hi => by
            rw [Nat.zero_add, ho.cellAt i (by omega)]
            have : i < (upTo ys k).length := by rw [upTo_len]; omega
            simp [cells8, List.getD, List.getElem?_eq_getElem this]) 9 Tryz.underlying9
          rw [hq, upTo_str ys k hlx]
        go_wp2_with fail
        go_ret
        exact ⟨rfl, hbr⟩

theorem lplain_any (a : Option Addr) (len cap : Nat) (xs : List Int) (most : Nat) (w : World) (hr : Row .u8 w a len cap xs) (hm : most ≤ 300) :
    Calls Tryz.prog 34 #[.slice a len cap, .int .i64 most] w fun e w' => e = .returned (.string (Tx.str (Tx.sg (xs.take most)))) ∧ Below w.heap.size w w' := by
  cases a with
  | some x => exact lplain_some x len cap xs most w hr hm
  | none =>
    obtain ⟨rfl, rfl⟩ := hr.nil rfl
    obtain rfl : xs = [] := List.eq_nil_of_length_eq_zero hr.n
    have := lplain_nil most w hm
    simpa using this

end Go.Proofs.YtnmmhihfnphjeaaGreatDoor.W

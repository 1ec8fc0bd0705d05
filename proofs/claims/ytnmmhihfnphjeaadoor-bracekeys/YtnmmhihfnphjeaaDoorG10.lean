/-
  Contracts of a quoted text's signs, of Unquote.
  Contract of Unquote.
  Contracts of the reader's rest, pass, quoted.
  Plain mathematics of the row of digits that a text begins with.
-/
import Derived.Test.YtnmmhihfnphjeaaDoorG09
import Derived.Deep.LoopGhost
import Derived.Deep.RegionWith
import Derived.Deep.QuietTactic
import Derived.Test.YtnmmhihfnphjeaaDoorG08

namespace Go.Proofs.YtnmmhihfnphjeaaDoor.W
set_option linter.unusedVariables false
open Go.RowKit Go.Joins Go.Tx
attribute [local go_sem ↓] Go.wp_at_zero Go.wp_at_succ

/-- A quoted text that is being read: block N is its cursor, block N + 1 itself; what it has said lies behind them. -/
structure QS (w : World) (N : Nat) (s : ByteArray) (p : Nat) (sd : List UInt8) : Prop where
  cur : IsCur w N s p
  ex : ∃ v, w.heap[N + 1]? = some (.cells #[.pointer (some ⟨N, 0, none⟩), v] 131 (0, 0)) ∧ w.ownsRow (N + 2) 5 1 v sd.length (Lib.byteCells sd)
  sz : N + 2 ≤ w.heap.size

theorem own_of_blocks {w w' : World} {base e size n : Nat} {v : Value} {xs : List Value} (h : w.ownsRow base e size v n xs) (hb : ∀ k, base ≤ k → w'.heap[k]? = w.heap[k]?) : w'.ownsRow base e size v n xs := by
  refine ⟨h.1, ?_⟩
  rcases h.2 with h2 | ⟨g, cap, cur, hv, hg, hh, r⟩
  · exact .inl h2
  · exact .inr ⟨g, cap, cur, hv, hg, by rw [hb g hg]; exact hh, r⟩

theorem QS.oth {w w' : World} {N p p' : Nat} {s : ByteArray} {sd : List UInt8} (h : QS w N s p sd) (ho : Oth N w w') (hc : IsCur w' N s p') : QS w' N s p' sd := by
  obtain ⟨v, hv, hr⟩ := h.ex
  exact ⟨hc, ⟨v, by rw [ho.block _ (by omega)]; exact hv, own_of_blocks hr (fun k hk => ho.block k (by omega))⟩, by rw [ho.size]; exact h.sz⟩

theorem pre_one (s : ByteArray) (p : Nat) (c : UInt8) (h : p < s.size) : Lib.hasPrefix (s.data.toList.drop p) [c] = (c == s[p]) := by
  rw [drop_cons s p h]; simp [Lib.hasPrefix, List.isPrefixOf]
theorem pre_end (s : ByteArray) (p : Nat) (c : UInt8) (h : ¬ p < s.size) : Lib.hasPrefix (s.data.toList.drop p) [c] = false := by
  rw [List.drop_eq_nil_of_le (by rw [len_eq]; omega)]; rfl

/-- The pointer to the cursor, read off the quoted text. -/
theorem QS.c0 {w : World} {N p : Nat} {s : ByteArray} {sd : List UInt8} (h : QS w N s p sd) : w.cell? ⟨N + 1, 0, none⟩ = some (.pointer (some ⟨N, 0, none⟩)) := by
  obtain ⟨v, hv, _⟩ := h.ex
  rw [cell_of_block hv]; rfl

set_option maxHeartbeats 400000 in
theorem sign_end (N : Nat) (s : ByteArray) (p : Nat) (sd : List UInt8) (w : World) (h : QS w N s p sd) (hs : s.size ≤ 2000000000000) (hp : ¬ p < s.size) :
    Calls Tryd.prog 88 #[.pointer (some ⟨N + 1, 0, none⟩)] w fun x w' => x = .returned (.bool false) ∧ Below N w w' := by
  have c0 := h.c0
  have hcur := h.cur
  go_enter Tryd.func88, Tryd.ntmps88
  go_wp2_with fail
  refine (take_no N s _ p w hcur hs (pre_end s p 92 hp)).mono ?_
  rintro x w1 ⟨rfl, n, rfl⟩
  go_wp2_with fail
  refine (next_end N s p _ (hcur.drewN n) hs hp).mono ?_
  rintro x w2 ⟨rfl, m, rfl⟩
  go_wp2_with fail
  go_ret
  exact ⟨rfl, (Oth.drewN N w _).below (Nat.le_refl _)⟩

theorem grown_at {w w1 : World} {o : Obj} {v : Value} {k : Nat} {X : Obj} (hv : w.heap[k]? = some X) (hlt : k < w.heap.size) (hg : (w.alloc o).grownBy w1 v.ownBlock) (hne : v.ownBlock ≠ some k) : w1.heap[k]? = some X := by
  rw [hg.block k (by simp; omega) (fun e => hne e.symm), Below.heap_alloc w o k hlt]; exact hv

theorem row_block {w : World} {base e n : Nat} {v : Value} {xs : List Value} (h : w.ownsRow base e 1 v n xs) : ∀ k, v.ownBlock = some k → base ≤ k := fun k hk => (h.lt k hk).1

theorem byteCells_snoc (sd : List UInt8) (c : UInt8) : Lib.byteCells (sd ++ [c]) = Lib.byteCells sd ++ [.int .u8 (c.toNat : Int)] := by simp [Lib.byteCells]

theorem put_below {w w1 : World} {N p : Nat} {s : ByteArray} {sd : List UInt8} {v : Value} {o : Obj} (h : QS w N s p sd) (hr : w.ownsRow (N + 2) 5 1 v sd.length (Lib.byteCells sd))
    (hg : (w.alloc o).grownBy w1 v.ownBlock) (u : Value) : Below N w (w1.setCell ⟨N + 1, 1, none⟩ u) := by
  have hsz := h.sz
  exact Below.setCell (((Below.refl N w).alloc (by omega) o).grown hg (by simp; omega) (fun k e => by have := row_block hr k e; omega)) (by show N ≤ N + 1; omega) u

theorem put_qs {w w1 : World} {N p g cap : Nat} {s : ByteArray} {sd : List UInt8} {v : Value} {c : UInt8} {o : Obj} (h : QS w N s p sd) (hv : w.heap[N + 1]? = some (.cells #[.pointer (some ⟨N, 0, none⟩), v] 131 (0, 0)))
    (hr : w.ownsRow (N + 2) 5 1 v sd.length (Lib.byteCells sd))
    (hown : w1.ownsRow (N + 2) 5 1 (.slice (some ⟨g, 0, none⟩) (sd.length + 1) cap) (sd.length + 1) (Lib.byteCells sd ++ [.int .u8 (c.toNat : Int)])) (hg : (w.alloc o).grownBy w1 v.ownBlock)
    (hv4 : w1.heap[N + 1]? = some (.cells #[.pointer (some ⟨N, 0, none⟩), v] 131 (0, 0))) : QS (w1.setCell ⟨N + 1, 1, none⟩ (.slice (some ⟨g, 0, none⟩) (sd.length + 1) cap)) N s p (sd ++ [c]) := by
  have hsz := h.sz
  have hnb : v.ownBlock ≠ some N := fun e => by have := row_block hr _ e; omega
  refine ⟨h.cur.of_block ?_, ⟨.slice (some ⟨g, 0, none⟩) (sd.length + 1) cap, ?_, ?_⟩, ?_⟩
  · rw [Below.heap_setCell _ _ _ _ (by show N ≠ N + 1; omega), hg.block N (by simp; omega) (fun e => hnb e.symm), Below.heap_alloc w o N (by omega)]
  · rw [block_setCell hv4]; rfl
  · rw [byteCells_snoc, List.length_append]
    exact ownsRow_setCell_below hown (by show N + 1 < N + 2; omega) _
  · have := hg.size
    simp at this ⊢
    omega

set_option maxHeartbeats 800000 in
set_option maxRecDepth 100000 in
theorem sign_plain (N : Nat) (s : ByteArray) (p : Nat) (sd : List UInt8) (w : World) (h : QS w N s p sd) (hs : s.size ≤ 2000000000000) (hp : p < s.size) (hsd : sd.length ≤ s.size) (c : UInt8) (HC : Hid (s[p] = c)) (hc : ¬ c = 92) :
    Calls Tryd.prog 88 #[.pointer (some ⟨N + 1, 0, none⟩)] w fun x w' => x = .returned (.bool (prB (c.toNat : Int))) ∧ Below N w w' ∧ (prB (c.toNat : Int) = true → QS w' N s (p + 1) (sd ++ [c])) := by
  have c0 := h.c0
  have hcur := h.cur
  have HPR : Hid (Lib.hasPrefix (s.data.toList.drop p) (ByteArray.mk #[92]).data.toList = false) := by
    show Lib.hasPrefix _ [92] = false
    rw [pre_one s p 92 hp, HC.out]; simpa using fun e => hc e.symm
  cases hpr : prB (c.toNat : Int)
  all_goals
    go_enter Tryd.func88, Tryd.ntmps88
    go_wp2_with fail
    refine (take_no N s _ p w hcur hs HPR.out).mono ?_
    rintro x w1 ⟨rfl, n, rfl⟩
    go_wp2_with fail
    refine (next_in N s p _ (hcur.drewN n) hs hp).mono ?_
    rw [HC.out]
    rintro x w2 ⟨rfl, hc2, ho2⟩
    have hq2 : QS w2 N s (p + 1) sd := h.oth ((Oth.drewN N w n).trans ho2) hc2
    have hB2 : Below N w w2 := ((Oth.drewN N w n).trans ho2).below (Nat.le_refl _)
    clear h hcur c0 hc2 ho2 HPR HC
    go_wp2_with fail
    refine (printable_any _ _).mono ?_
    rw [hpr]
    rintro x w3 ⟨rfl, rfl⟩
  · go_wp2_with fail
    go_ret
    exact ⟨rfl, hB2, fun e => by cases e⟩
  · obtain ⟨v, hv, hown⟩ := hq2.ex
    have hsz := hq2.sz
    have c1 : w3.cell? ⟨N + 1, 1, none⟩ = some v := by rw [cell_of_block hv]; rfl
    have hown1 := hown.alloc (.cells #[.int .u8 (c.toNat : Int)] 5)
    have hnb : v.ownBlock ≠ some (N + 1) := fun e => by have := row_block hown _ e; omega
    go_wp2_with (at_builtin; refine wpList_append_lies _ rfl _ _ _ rfl (N + 2) 5 Tryd.t5 (.int .u8 0) 1 1 Tryd.underlying47 info8 rfl rfl rfl rfl (by omega) v sd.length (Lib.byteCells sd) rfl hown1 ⟨w3.heap.size, 0, none⟩ 1 1 [.int .u8 (c.toNat : Int)] rfl rfl (cell_one_new _ _ _) (by simp [Value.oneCell']) (by omega) (by unfold maxLen; omega) (by omega) (by simp; omega) (w3.heap.size + 1) (by simp) ?_; intro g cap w4 ho4 hg4 hat hlt; have hv4 := grown_at hv (by omega) hg4 hnb; have c4 : w4.cell? ⟨N + 1, 1, none⟩ = some v := (by rw [cell_of_block hv4]; rfl); have f4 := unfrozen_of_block hv4 1; clear hat)
    go_ret
    exact ⟨rfl, hB2.trans (put_below hq2 hown hg4 _), fun _ => put_qs hq2 hv hown ho4 hg4 hv4⟩

set_option maxHeartbeats 400000 in
set_option maxRecDepth 100000 in
theorem sign_cut (N : Nat) (s : ByteArray) (p : Nat) (sd : List UInt8) (w : World) (h : QS w N s p sd) (hs : s.size ≤ 2000000000000) (hp : p < s.size) (HC : Hid (s[p] = 92)) (hp1 : ¬ p + 1 < s.size) :
    Calls Tryd.prog 88 #[.pointer (some ⟨N + 1, 0, none⟩)] w fun x w' => x = .returned (.bool false) ∧ Below N w w' := by
  have c0 := h.c0
  have hcur := h.cur
  have HPR : Hid (Lib.hasPrefix (s.data.toList.drop p) (ByteArray.mk #[92]).data.toList = true) := by
    show Lib.hasPrefix _ [92] = true
    rw [pre_one s p 92 hp, HC.out]; rfl
  go_enter Tryd.func88, Tryd.ntmps88
  go_wp2_with fail
  refine (take_yes N s _ p w hcur hs HPR.out).mono ?_
  rintro x w1 ⟨rfl, hc1, ho1⟩
  have hq1 := h.oth ho1 hc1
  have c1 := hq1.c0
  go_wp2_with fail
  refine (next_end N s _ _ hc1 hs hp1).mono ?_
  rintro x w2 ⟨rfl, m, rfl⟩
  go_wp2_with fail
  go_ret
  exact ⟨rfl, (ho1.trans (Oth.drewN N _ m)).below (Nat.le_refl _)⟩

set_option maxHeartbeats 800000 in
set_option maxRecDepth 100000 in
theorem sign_esc (N : Nat) (s : ByteArray) (p : Nat) (sd : List UInt8) (w : World) (h : QS w N s p sd) (hs : s.size ≤ 2000000000000) (hp : p < s.size) (hsd : sd.length ≤ s.size) (HC : Hid (s[p] = 92)) (hp1 : p + 1 < s.size) (d : UInt8) (HD : Hid (s[p + 1] = d)) (u : Option UInt8) (HU : Hid (unesc d = u)) :
    Calls Tryd.prog 88 #[.pointer (some ⟨N + 1, 0, none⟩)] w fun x w' => x = .returned (.bool u.isSome) ∧ Below N w w' ∧ (∀ c, u = some c → QS w' N s (p + 2) (sd ++ [c])) := by
  have c0 := h.c0
  have hcur := h.cur
  have HPR : Hid (Lib.hasPrefix (s.data.toList.drop p) (ByteArray.mk #[92]).data.toList = true) := by
    show Lib.hasPrefix _ [92] = true
    rw [pre_one s p 92 hp, HC.out]; rfl
  rcases u with _ | c
  all_goals
    go_enter Tryd.func88, Tryd.ntmps88
    go_wp2_with fail
    refine (take_yes N s _ p w hcur hs HPR.out).mono ?_
    rintro x w1 ⟨rfl, hc1, ho1⟩
    have hc1 : IsCur w1 N s (p + 1) := hc1
    have hq1 := h.oth ho1 hc1
    have c1 := hq1.c0
    go_wp2_with fail
    refine (next_in N s (p + 1) _ hc1 hs hp1).mono ?_
    rw [HD.out]
    rintro x w2 ⟨rfl, hc2, ho2⟩
    have hq2 : QS w2 N s (p + 2) sd := hq1.oth ho2 hc2
    have hB2 : Below N w w2 := (ho1.trans ho2).below (Nat.le_refl _)
    clear h hcur c0 hc2 ho2 HPR HC hq1 c1 ho1 hc1 HD
    go_wp2_with fail
    refine (unescape_any d _).mono ?_
    unfold unescV
    rw [HU.out]
    rintro x w3 ⟨rfl, rfl⟩
  · go_wp2_with fail
    go_ret
    exact ⟨rfl, hB2, fun c e => by cases e⟩
  · obtain ⟨v, hv, hown⟩ := hq2.ex
    have hsz := hq2.sz
    have c1 : w3.cell? ⟨N + 1, 1, none⟩ = some v := by rw [cell_of_block hv]; rfl
    have hown1 := hown.alloc (.cells #[.int .u8 (c.toNat : Int)] 5)
    have hnb : v.ownBlock ≠ some (N + 1) := fun e => by have := row_block hown _ e; omega
    go_wp2_with (at_builtin; refine wpList_append_lies _ rfl _ _ _ rfl (N + 2) 5 Tryd.t5 (.int .u8 0) 1 1 Tryd.underlying47 info8 rfl rfl rfl rfl (by omega) v sd.length (Lib.byteCells sd) rfl hown1 ⟨w3.heap.size, 0, none⟩ 1 1 [.int .u8 (c.toNat : Int)] rfl rfl (cell_one_new _ _ _) (by simp [Value.oneCell']) (by omega) (by unfold maxLen; omega) (by omega) (by simp; omega) (w3.heap.size + 1) (by simp) ?_; intro g cap w4 ho4 hg4 hat hlt; have hv4 := grown_at hv (by omega) hg4 hnb; have c4 : w4.cell? ⟨N + 1, 1, none⟩ = some v := (by rw [cell_of_block hv4]; rfl); have f4 := unfrozen_of_block hv4 1; clear hat)
    go_ret
    exact ⟨rfl, hB2.trans (put_below hq2 hown hg4 _), fun c' e => by cases e; exact put_qs hq2 hv hown ho4 hg4 hv4⟩


theorem sign_any (N : Nat) (s : ByteArray) (p : Nat) (sd : List UInt8) (w : World) (h : QS w N s p sd) (hs : s.size ≤ 2000000000000) (hsd : sd.length ≤ s.size) :
    Calls Tryd.prog 88 #[.pointer (some ⟨N + 1, 0, none⟩)] w fun x w' => x = .returned (.bool (sgn (s.data.toList.drop p)).isSome) ∧ Below N w w' ∧ (∀ c n, sgn (s.data.toList.drop p) = some (c, n) → QS w' N s (p + n) (sd ++ [c])) := by
  by_cases hp : p < s.size
  · rw [drop_cons s p hp, sgn_cons]
    by_cases hc : s[p] = 92
    · rw [if_pos hc]
      by_cases hp1 : p + 1 < s.size
      · rw [drop_cons s (p + 1) hp1]
        refine (sign_esc N s p sd w h hs hp hsd hc hp1 s[p + 1] rfl (unesc s[p + 1]) rfl).mono ?_
        rintro x w' ⟨rfl, hb, hq⟩
        refine ⟨by simp, hb, fun c n e => ?_⟩
        simp only [Option.map_eq_some_iff, Prod.mk.injEq] at e
        obtain ⟨a, ha, rfl, rfl⟩ := e
        exact hq a ha
      · rw [List.drop_eq_nil_of_le (by rw [len_eq]; omega)]
        refine (sign_cut N s p sd w h hs hp hc hp1).mono ?_
        rintro x w' ⟨rfl, hb⟩
        exact ⟨rfl, hb, fun c n e => by cases e⟩
    · rw [if_neg hc]
      refine (sign_plain N s p sd w h hs hp hsd s[p] rfl hc).mono ?_
      rintro x w' ⟨rfl, hb, hq⟩
      cases hpr : prB (s[p].toNat : Int) with
      | true =>
        refine ⟨rfl, hb, fun c n e => ?_⟩
        simp at e
        obtain ⟨rfl, rfl⟩ := e
        exact hq hpr
      | false => exact ⟨rfl, hb, fun c n e => by simp at e⟩
  · rw [List.drop_eq_nil_of_le (by rw [len_eq]; omega)]
    refine (sign_end N s p sd w h hs hp).mono ?_
    rintro x w' ⟨rfl, hb⟩
    exact ⟨rfl, hb, fun c n e => by cases e⟩

end Go.Proofs.YtnmmhihfnphjeaaDoor.W

namespace Go.Proofs.YtnmmhihfnphjeaaDoor.W
set_option linter.unusedVariables false
open Go.RowKit Go.Joins Go.Tx
attribute [local go_sem ↓] Go.wp_at_zero Go.wp_at_succ

/-- What Unquote answers. -/
def unqV (o : Option (List UInt8 × Nat)) : Value := match o with | some y => .tuple #[.string (str y.1), .int .i64 y.2, .bool true] | none => .tuple #[.string ⟨#[]⟩, .int .i64 0, .bool false]

theorem QS.start (s : ByteArray) (w : World) : QS ((w.alloc (.cells #[.int .i64 0, .int .i64 0, .int .i64 0, .string s] 76)).alloc (.cells #[.pointer (some ⟨w.heap.size, 0, none⟩), .slice none 0 0] 131)) w.heap.size s 0 [] := by
  refine ⟨(new_cur s w).below ((Below.refl _ _).alloc (Nat.le_refl _) _), ⟨.slice none 0 0, ?_, World.ownsRow_nil _ _ _ _⟩, by simp⟩
  have := heap_alloc_new (w.alloc (.cells #[.int .i64 0, .int .i64 0, .int .i64 0, .string s] 76)) (.cells #[.pointer (some ⟨w.heap.size, 0, none⟩), .slice none 0 0] 131)
  simpa using this

theorem QS.said {w : World} {N p : Nat} {s : ByteArray} {sd : List UInt8} (h : QS w N s p sd) : ∃ v, w.cell? ⟨N + 1, 1, none⟩ = some v ∧ ∀ W : World, W.heap = w.heap → (convert 47 9 v).run Tryd.prog W = .ok (.string (str sd)) W := by
  obtain ⟨v, hv, hr⟩ := h.ex
  refine ⟨v, by rw [cell_of_block hv]; rfl, fun W hW => ?_⟩
  rcases hr.2 with ⟨rfl, h0⟩ | ⟨g, cap, cur, rfl, hg, hh, hrest⟩
  · have : sd = [] := List.eq_nil_of_length_eq_zero h0
    subst this
    rw [run_convert_bytes_nil W 47 5 Tryd.underlying47 Tryd.underlying5 0 0 9 Tryd.underlying9]
    rfl
  · have hr' : W.ownsRow (N + 2) 5 1 (.slice (some ⟨g, 0, none⟩) sd.length cap) sd.length (Lib.byteCells sd) := own_of_blocks hr (fun k _ => by rw [hW])
    rw [run_convert_bytes_arg W 47 5 Tryd.underlying47 Tryd.underlying5 g 0 sd.length cap (sd.map fun c => (c.toNat : Int)) (by simp) (fun i hi => by
      rw [Nat.zero_add, hr'.cellAt i (by omega)]
      simp [Lib.byteCells, List.getD, List.getElem?_eq_getElem hi]) 9 Tryd.underlying9]
    congr 2
    refine ba_ext ?_
    rw [strOfNums_data, str_list, List.map_map]
    conv => rhs; rw [← List.map_id sd]
    apply List.map_congr_left
    intro c _
    simp

theorem sgn_len (l : List UInt8) : ∀ c n, sgn l = some (c, n) → 1 ≤ n ∧ n ≤ l.length := by
  intro c n e
  cases l with
  | nil => cases e
  | cons d l =>
    rw [sgn_cons] at e
    by_cases h2 : d = 92
    · rw [if_pos h2] at e
      cases l with
      | nil => cases e
      | cons d' l' =>
        simp only [Option.map_eq_some_iff, Prod.mk.injEq] at e
        obtain ⟨_, _, _, rfl⟩ := e
        simp
    · rw [if_neg h2] at e
      by_cases h3 : prB (d.toNat : Int) = true
      · rw [if_pos h3] at e; simp at e; simp; omega
      · rw [if_neg h3] at e; cases e

set_option maxHeartbeats 800000 in
set_option maxRecDepth 100000 in
theorem unquote_any (s : ByteArray) (w : World) (hs : s.size ≤ 2000000000000) (uq : Option (List UInt8 × Nat)) (HU : Hid (unquote s.data.toList = uq)) :
    Calls Tryd.prog 67 #[.string s] w fun x w' => x = .returned (unqV uq) ∧ Below w.heap.size w w' := by
  have hq0 := QS.start s w
  go_enter Tryd.func67, Tryd.ntmps67
  go_wp2_with (go_at_call 20; refine (new_any s w).mono ?_; rintro x w1 ⟨rfl, rfl⟩)
  by_cases h34 : s.data.toList.head? = some 34
  · obtain ⟨l, hl⟩ : ∃ l, s.data.toList = 34 :: l := by
      cases hh : s.data.toList with
      | nil => rw [hh] at h34; cases h34
      | cons c l => rw [hh] at h34; simp at h34; exact ⟨l, by rw [h34]⟩
    have hsz : 0 < s.size := by rw [← len_eq, hl]; simp
    have HQ : Hid ((unq (s.data.toList.drop 1)).map (fun y => (([] : List UInt8) ++ y.1, y.2 + 1)) = uq) := by
      show _ = _
      rw [← HU.out, hl]; rfl
    have HPR : Hid (Lib.hasPrefix (s.data.toList.drop 0) (ByteArray.mk #[34]).data.toList = true) := by
      show Lib.hasPrefix _ [34] = true
      rw [hl]; rfl
    clear hl h34 HU
    refine (take_yes w.heap.size s _ 0 _ hq0.cur hs HPR.out).mono ?_
    rintro x w1 ⟨rfl, hc1, ho1⟩
    have hq1 : QS w1 w.heap.size s 1 [] := hq0.oth ho1 hc1
    have hB1 : Below w.heap.size w w1 := (((Below.refl _ _).alloc (Nat.le_refl _) _).alloc (by simp) _).trans (ho1.below (Nat.le_refl _))
    clear hc1 ho1 hq0 HPR
    go_wp2_with fail
    go_loopg [13] (s.size - 1) (fun g _ wr => ∃ (p : Nat) (sd : List UInt8), p ≤ s.size ∧ g = s.size - p ∧ sd.length ≤ p ∧ QS wr w.heap.size s p sd ∧ Below w.heap.size w wr ∧ Hid ((unq (s.data.toList.drop p)).map (fun y => (sd ++ y.1, y.2 + p)) = uq))
    case atStart => exact ⟨1, [], by omega, rfl, by simp, hq1, hB1, HQ⟩
    case round =>
      obtain ⟨p, sd, hp, rfl, hsd, hq, hB, HQ1⟩ := hrel
      clear hq1 hB1 HQ
      have c0 := hq.c0
      by_cases h34 : (s.data.toList.drop p).head? = some 34
      · obtain ⟨l, hl⟩ : ∃ l, s.data.toList.drop p = 34 :: l := by
          cases hh : s.data.toList.drop p with
          | nil => rw [hh] at h34; cases h34
          | cons c l => rw [hh] at h34; simp at h34; exact ⟨l, by rw [h34]⟩
        have HPR : Hid (Lib.hasPrefix (s.data.toList.drop p) (ByteArray.mk #[34]).data.toList = true) := by
          show Lib.hasPrefix _ [34] = true
          rw [hl]; rfl
        have HR : Hid (uq = some (sd, p + 1)) := by
          show _ = _
          rw [← HQ1.out, hl, unq_cons]; simp; omega
        clear HQ1 hl h34
        go_wp2_with fail
        refine (take_yes w.heap.size s _ p _ hq.cur hs HPR.out).mono ?_
        rintro x w2 ⟨rfl, hc2, ho2⟩
        have hc2 : IsCur w2 w.heap.size s (p + 1) := hc2
        have hq2 := hq.oth ho2 hc2
        have hB2 : Below w.heap.size w w2 := hB.trans (ho2.below (Nat.le_refl _))
        obtain ⟨v, c1, hcv⟩ := hq2.said
        have hcv1 := hcv w2.drew rfl
        have c2 := hq2.c0
        clear hq hB c0 ho2 HPR hcv
        go_wp2_with fail
        go_region_with (go_at_call 89; refine (at_any w.heap.size s (p + 1) _ (by exact hc2.of_block rfl)).mono ?_; rintro x w3 ⟨rfl, rfl⟩)
        all_goals
          go_wp2_with fail
          go_ret3
          exact ⟨by rw [HR.out]; rfl, hB2.drew⟩
      · have HPR : Hid (Lib.hasPrefix (s.data.toList.drop p) (ByteArray.mk #[34]).data.toList = false) := by
          show Lib.hasPrefix _ [34] = false
          cases hh : s.data.toList.drop p with
          | nil => rfl
          | cons c l => rw [hh] at h34; simp at h34; simp [Lib.hasPrefix, List.isPrefixOf]; exact fun e => h34 e.symm
        have HST : Hid (unq (s.data.toList.drop p) = match sgn (s.data.toList.drop p) with | none => none | some (c, n) => (unq ((s.data.toList.drop p).drop n)).map fun y => (c :: y.1, y.2 + n)) := unq_step _ h34
        have HSL := sgn_len (s.data.toList.drop p)
        rw [List.length_drop, len_eq] at HSL
        clear h34
        go_wp2_with fail
        refine (take_no w.heap.size s _ p _ hq.cur hs HPR.out).mono ?_
        rintro x w2 ⟨rfl, n, rfl⟩
        have hq2 : QS (wr.drewN n) w.heap.size s p sd := hq.oth (Oth.drewN _ _ n) (hq.cur.drewN n)
        have hB2 : Below w.heap.size w (wr.drewN n) := hB.trans ((Oth.drewN w.heap.size _ n).below (Nat.le_refl _))
        clear hq hB c0 HPR
        go_wp2_with fail
        refine (sign_any w.heap.size s p sd _ hq2 hs (by omega)).mono ?_
        rintro x w3 ⟨rfl, hb3, hq3⟩
        have hB3 := hB2.trans hb3
        cases hsg : sgn (s.data.toList.drop p) with
        | none =>
          have HN : Hid (uq = none) := by
            show _ = _
            rw [← HQ1.out, HST.out, hsg]; rfl
          clear hsg HQ1 HST HSL hq3
          go_wp2_with fail
          go_ret3
          exact ⟨by rw [HN.out]; rfl, hB3⟩
        | some y =>
          obtain ⟨c, m⟩ := y
          have hq4 := hq3 c m hsg
          obtain ⟨hm1, hm2⟩ := HSL c m hsg
          have HQ2 : Hid ((unq (s.data.toList.drop (p + m))).map (fun y => ((sd ++ [c]) ++ y.1, y.2 + (p + m))) = uq) := by
            show _ = _
            rw [← HQ1.out, HST.out, hsg]
            simp only [List.drop_drop]
            cases unq (s.data.toList.drop (p + m)) with
            | none => rfl
            | some z => simp; omega
          clear hsg HQ1 HST HSL hq3
          go_wp2_with fail
          go_roundg (s.size - (p + m))
          case measure => omega
          case rel => exact ⟨p + m, sd ++ [c], by omega, rfl, by simp; omega, hq4, hB3, HQ2⟩
  · have HN : Hid (uq = none) := by
      show _ = _
      rw [← HU.out]
      cases hh : s.data.toList with
      | nil => rfl
      | cons c l => rw [hh] at h34; simp at h34; simp [unquote, h34]
    have HPR : Hid (Lib.hasPrefix (s.data.toList.drop 0) (ByteArray.mk #[34]).data.toList = false) := by
      show Lib.hasPrefix _ [34] = false
      rw [List.drop_zero]
      cases hh : s.data.toList with
      | nil => rfl
      | cons c l => rw [hh] at h34; simp at h34; simp [Lib.hasPrefix, List.isPrefixOf]; exact fun e => h34 e.symm
    refine (take_no w.heap.size s _ 0 _ hq0.cur hs HPR.out).mono ?_
    rintro x w1 ⟨rfl, n, rfl⟩
    go_wp2_with fail
    go_ret3
    exact ⟨by rw [HN.out]; rfl, (((Below.refl _ _).alloc (Nat.le_refl _) _).alloc (by simp) _).trans ((Oth.drewN w.heap.size _ n).below (Nat.le_refl _))⟩

end Go.Proofs.YtnmmhihfnphjeaaDoor.W

namespace Go.Proofs.YtnmmhihfnphjeaaDoor.B
set_option linter.unusedSimpArgs false
set_option linter.unusedVariables false
open Go.RowKit Go.Vr Go.Sort Go.Tx Go.Lib
open Go.Br hiding Bs
open Go.Proofs.YtnmmhihfnphjeaaDoor.W (IsCur Oth Kept at_any take_yes take_any while_any unquote_any unqV inSet)
attribute [local go_sem] setCellDrewN allocDrewN

set_option maxHeartbeats 400000 in
theorem rest_rd (b c : Nat) (s : ByteArray) (p dp : Nat) (w : World) (h : Rd w b c s p dp) (hs : s.size ≤ 100000) :
    Calls Tryd.prog 68 #[.pointer (some ⟨b, 0, none⟩)] w fun x w' => x = .returned (.string (s.extract p s.size)) ∧ ∃ n, w' = w.drewN n := by
  have hc := h.box.c
  have hl := h.le
  have i1 : (0 : Int) ≤ (p : Int) := by omega
  have i2 : (p : Int) ≤ (s.size : Int) := by omega
  have HC := hide h.cur
  clear h
  go_enter Tryd.func68, Tryd.ntmps68
  go_wp2_with fail
  go_quiet ((go_at_call 89; exact Calls.quiet_of_same (at_any c s p _ (HC.out.drewN _))))
  go_wp2_with fail
  go_ret
  exact ⟨rfl, _, rfl⟩

theorem cut_pre (s : ByteArray) (p n : Nat) (hn : n ≤ s.size - p) : Lib.hasPrefix (s.data.toList.drop p) ((s.extract p s.size).extract 0 n).data.toList = true ∧ ((s.extract p s.size).extract 0 n).size = n := by
  have e : ((s.extract p s.size).extract 0 n).data.toList = (s.data.toList.drop p).take n := by rw [W.ext_list, W.rest_list]
  refine ⟨?_, ?_⟩
  · rw [e]
    exact List.isPrefixOf_iff_prefix.2 (List.take_prefix _ _)
  · rw [← len_eq, e, List.length_take, List.length_drop, len_eq]; omega

set_option maxHeartbeats 400000 in
theorem pass_rd (b c : Nat) (s : ByteArray) (p dp n : Nat) (w : World) (h : Rd w b c s p dp) (hs : s.size ≤ 100000) (hn : n ≤ s.size - p) :
    Calls Tryd.prog 69 #[.pointer (some ⟨b, 0, none⟩), .int .i64 n] w fun x w' => x = .returned (.tuple #[]) ∧ Rd w' b c s (p + n) dp ∧ Oth c w w' := by
  have hc := h.box.c
  have hl := h.le
  obtain ⟨hp, hz⟩ := cut_pre s p n hn
  have hz0 : (s.extract p s.size).size = s.size - p := by rw [← len_eq, W.rest_list, List.length_drop, len_eq]
  have HP := hide hp
  have HZ := hide hz
  have i1 : (0 : Int) ≤ (n : Int) := by omega
  have i2 : (n : Int) ≤ ((s.extract p s.size).size : Int) := by rw [hz0]; omega
  have HR := hide h
  clear h hp hz hz0
  go_enter Tryd.func69, Tryd.ntmps69
  generalize hr : (s.extract p s.size).extract 0 n = r at *
  go_wp2_with fail
  go_region_with (first | (go_at_call 68; refine (rest_rd b c s p dp _ (by first | exact HR.out | exact HR.out.drewN _ | exact HR.out.of_blocks rfl rfl) hs).mono ?_; rintro x w2 ⟨rfl, m, rfl⟩) | (go_at_call 60; refine (take_yes c s r p _ (by first | exact HR.out.cur | exact HR.out.cur.drewN _ | exact HR.out.cur.of_block rfl) (by omega) HP.out).mono ?_; rintro x w2 ⟨rfl, hc2, ho2⟩))
  all_goals
    go_wp2_with fail
    first | go_end0 | skip
    have HO : Oth c w w2 := ⟨ho2.os, ho2.tape, ho2.output, ho2.size, fun k hk => ho2.block k hk⟩
    exact ⟨rfl, HR.out.oth (by rw [← HZ.out]; exact hc2) HO, HO⟩

/-- Where reading has come to: behind p' bytes. -/
def Good (b c : Nat) (s : ByteArray) (p dp : Nat) (w' : World) (q : Bs) : Prop := ∃ p', p ≤ p' ∧ rst s p' = q ∧ Rd w' b c s p' dp
def Bad (b c : Nat) (s : ByteArray) (w' : World) (q : Bs) : Prop := ∃ p' dq, rst s p' = q ∧ Rd w' b c s p' dq
theorem Good.below {b c p dp : Nat} {s : ByteArray} {w w' : World} {q : Bs} (h : Good b c s p dp w q) (hb : Below w.heap.size w w') : Good b c s p dp w' q := by
  obtain ⟨p', h1, h2, h3⟩ := h; exact ⟨p', h1, h2, h3.below hb⟩
theorem Bad.below {b c : Nat} {s : ByteArray} {w w' : World} {q : Bs} (h : Bad b c s w q) (hb : Below w.heap.size w w') : Bad b c s w' q := by
  obtain ⟨p', dq, h2, h3⟩ := h; exact ⟨p', dq, h2, h3.below hb⟩

theorem rst_drop (s : ByteArray) (p n : Nat) : (rst s p).drop n = rst s (p + n) := by rw [List.drop_drop]
theorem unquote_le (l o : Bs) (n : Nat) (h : unquote l = some (o, n)) : n ≤ l.length := by
  cases l with
  | nil => cases h
  | cons c t =>
    rw [unquote.eq_def] at h
    simp only at h
    by_cases hc : c = 34
    · rw [if_pos hc] at h
      simp only [Option.map_eq_some_iff, Prod.mk.injEq] at h
      obtain ⟨⟨o', m'⟩, he, _, rfl⟩ := h
      have := (unq_len t.length t o' m' (Nat.le_refl _) he).2
      simp; omega
    · rw [if_neg hc] at h; cases h
theorem box_set5 {w : World} {N : Nat} {y0 y1 y2 y3 y4 : Value} (h : Box w N #[y0, y1, y2, y3, y4]) (x0 x1 x2 x3 x4 : Value) :
    Box (((((w.setCell ⟨N, 0, none⟩ x0).setCell ⟨N, 1, none⟩ x1).setCell ⟨N, 2, none⟩ x2).setCell ⟨N, 3, none⟩ x3).setCell ⟨N, 4, none⟩ x4) N #[x0, x1, x2, x3, x4] ∧
    ∀ B, B ≤ N → Below B w (((((w.setCell ⟨N, 0, none⟩ x0).setCell ⟨N, 1, none⟩ x1).setCell ⟨N, 2, none⟩ x2).setCell ⟨N, 3, none⟩ x3).setCell ⟨N, 4, none⟩ x4) := by
  refine ⟨((((h.set 0 x0 (by simp)).set 1 x1 (by simp)).set 2 x2 (by simp)).set 3 x3 (by simp)).set 4 x4 (by simp), fun B hB => ?_⟩
  exact (((((Below.refl B w).setCell hB _).setCell hB _).setCell hB _).setCell hB _).setCell hB _

/-- How quoted ends. -/
def QPost (b c : Nat) (s : ByteArray) (p dp : Nat) (w : World) (r : R Bs) (e : Ending) (w' : World) : Prop := Fr w.heap.size b c w w' ∧ match r with
  | .inl (t, q) => Good b c s p dp w' q ∧ e = .returned (.tuple #[(leafSV (.inl t)).val, .int .i64 0])
  | .inr (n, q) => n = 1 ∧ Bad b c s w' q ∧ e = .returned (.tuple #[SV.zero.val, .int .i64 1])

set_option maxHeartbeats 1000000 in
theorem quoted_rd (b c : Nat) (s : ByteArray) (p dp : Nat) (w : World) (h : Rd w b c s p dp) (hs : s.size ≤ 100000) :
    Calls Tryd.prog 57 #[.pointer (some ⟨b, 0, none⟩)] w (QPost b c s p dp w (quotedM (rst s p))) := by
  obtain ⟨hbl, hcl⟩ := h.lt
  have HR := hide h
  clear h
  have h0 : Below w.heap.size w (w.alloc (.cells #[.int .i64 0, .int .i64 0, .string ⟨#[]⟩, .slice none 0 0, .slice none 0 0] 39)) := (Below.refl _ _).alloc (Nat.le_refl _) _
  have X0 := Box.new w #[.int .i64 0, .int .i64 0, .string ⟨#[]⟩, .slice none 0 0, .slice none 0 0] 39
  have H0 := hide h0
  have hX0 := hide X0
  clear h0 X0
  go_enter Tryd.func57, Tryd.ntmps57
  go_wp2_with fail
  refine (rest_rd b c s p dp _ (HR.out.below H0.out) hs).mono ?_
  rintro e w1 ⟨rfl, n, rfl⟩
  obtain ⟨uq, HU⟩ : ∃ uq, Hid (unquote (s.extract p s.size).data.toList = uq) := ⟨_, rfl⟩
  have HU2 : Hid (unquote (rst s p) = uq) := by have := HU.out; rw [W.rest_list] at this; exact this
  go_wp2_with fail
  refine (unquote_any (s.extract p s.size) _ (by rw [← len_eq, W.rest_list, List.length_drop, len_eq]; omega) uq HU).mono ?_
  rintro e w2 ⟨rfl, b2⟩
  have B2 := H0.out.trans (((belDrewN _ n).trans (b2.mono (Nat.le_refl _))).mono H0.out.size)
  have R2 := hide (HR.out.below B2)
  have X2 := hide ((hX0.out.drewN n).later b2)
  have HB2 := hide B2
  clear b2 B2 hX0 H0
  cases uq with
  | none =>
    have hq : quotedM (rst s p) = .inr (1, rst s p) := by unfold quotedM; rw [HU2.out]
    have HQ := hide hq
    have xc := X2.out.c
    have xf := X2.out.f
    clear hq
    unfold unqV
    go_wp2_with fail
    obtain ⟨xs, xb⟩ := box_set5 X2.out (.int .i64 0) (.int .i64 0) (.string ⟨#[]⟩) (.slice none 0 0) (.slice none 0 0)
    have xd := xs.c
    have B3 := HB2.out.trans (xb _ (Nat.le_refl _))
    exact bodyPost_ret (v := .tuple #[.agg #[.int .i64 0, .int .i64 0, .string ⟨#[]⟩, .slice none 0 0, .slice none 0 0], .int .i64 1]) (by simp [results, Tryd.results57, go_sem, *]) rfl (by unfold QPost; rw [HQ.out]; exact ⟨Fr.ofBelow B3, rfl, ⟨p, dp, rfl, HR.out.below B3⟩, rfl⟩)
  | some y =>
    obtain ⟨o, m⟩ := y
    have hm := unquote_le _ _ _ HU2.out
    rw [rst_len] at hm
    unfold unqV
    go_wp2_with fail
    refine (pass_rd b c s p dp m _ R2.out hs hm).mono ?_
    rintro e w3 ⟨rfl, R3, O3⟩
    have X3 := X2.out.of_block (O3.block w.heap.size (by omega))
    have hq : quotedM (rst s p) = .inl (o, rst s (p + m)) := by unfold quotedM; rw [HU2.out, ← rst_drop]
    have HQ := hide hq
    have xc := X3.c
    have xf := X3.f
    have HR3 := hide R3
    have HO3 := hide O3
    clear hq R3 O3
    go_wp2_with fail
    obtain ⟨xs, xb⟩ := box_set5 X3 (.int .i64 1) (.int .i64 0) (.string (str o)) (.slice none 0 0) (.slice none 0 0)
    have xd := xs.c
    exact bodyPost_ret (v := .tuple #[.agg #[.int .i64 1, .int .i64 0, .string (str o), .slice none 0 0, .slice none 0 0], .int .i64 0]) (by simp [results, Tryd.results57, go_sem, *]) rfl (by unfold QPost; rw [HQ.out]; exact ⟨((Fr.ofBelow HB2.out).trans (Fr.ofOth HO3.out)).trans (Fr.ofBelow (xb _ (Nat.le_refl _))), ⟨p + m, by omega, rfl, HR3.out.under (xb w.heap.size (Nat.le_refl _)) hbl hcl⟩, rfl⟩)

end Go.Proofs.YtnmmhihfnphjeaaDoor.B

namespace Go.Br
set_option linter.unusedVariables false
open Go.Tx Go.Lib

theorem tw_take (f : UInt8 → Bool) : ∀ (l : Bs) (i : Nat), (∀ j c, j < i → l[j]? = some c → f c = true) → (∀ c, l[i]? = some c → f c = false) → i ≤ l.length → l.takeWhile f = l.take i
  | [], i, _, _, h => by
    obtain rfl : i = 0 := by simpa using h
    rfl
  | c :: t, 0, _, hs, _ => by
    rw [List.takeWhile_cons, hs c rfl]; rfl
  | c :: t, i + 1, ha, hs, h => by
    rw [List.takeWhile_cons, ha 0 c (by omega) rfl, if_pos rfl, List.take_succ_cons]
    rw [tw_take f t i (fun j d hj hd => ha (j + 1) d (by omega) (by simpa using hd)) (fun d hd => hs d (by simpa using hd)) (by simpa using h)]

/-- May a sign stand at place i of the row? -/
def rowC (i : Nat) (c : UInt8) : Bool := (c == 45 && i == 0) || isDig c

theorem row_stop (l : Bs) (i : Nat) (h : i ≤ l.length) (ha : ∀ j c, j < i → l[j]? = some c → rowC j c = true) (hs : ∀ c, l[i]? = some c → rowC i c = false) : rowM l = l.take i := by
  cases l with
  | nil => simp [rowM]
  | cons c t =>
    unfold rowM
    simp only
    have hd : ∀ j d, 0 < j → rowC j d = isDig d := fun j d hj => by
      unfold rowC
      rw [show (j == 0) = false by simp; omega]; simp
    by_cases hc : c = 45
    · rw [if_pos hc]
      cases i with
      | zero =>
        have := hs c rfl
        rw [hc] at this
        exact absurd this (by decide)
      | succ i =>
        rw [List.take_succ_cons, hc, tw_take isDig t i (fun j d hj e => by rw [← hd (j + 1) d (by omega)]; exact ha (j + 1) d (by omega) (by simpa using e)) (fun d e => by rw [← hd (i + 1) d (by omega)]; exact hs d (by simpa using e)) (by simpa using h)]
    · rw [if_neg hc]
      have h0 : ∀ j d, (c :: t)[j]? = some d → rowC j d = isDig d := fun j d e => by
        cases j with
        | zero =>
          obtain rfl : c = d := by simpa using e
          unfold rowC
          rw [show (c == 45) = false by simpa using hc]; simp
        | succ j => exact hd (j + 1) d (by omega)
      exact tw_take isDig (c :: t) i (fun j d hj e => by rw [← h0 j d e]; exact ha j d hj e) (fun d e => by rw [← h0 i d e]; exact hs d e) h

theorem rowM_pre (r : Bs) : ∃ i, i ≤ r.length ∧ rowM r = r.take i := by
  cases r with
  | nil => exact ⟨0, by simp, rfl⟩
  | cons c t =>
    have h : ∀ l : Bs, l.takeWhile isDig = l.take (l.takeWhile isDig).length := fun l => (List.prefix_iff_eq_take.1 (List.takeWhile_prefix _))
    unfold rowM
    simp only
    by_cases hc : c = 45
    · rw [if_pos hc]
      refine ⟨(t.takeWhile isDig).length + 1, ?_, ?_⟩
      · have := (List.takeWhile_prefix (l := t) isDig).length_le
        simp; omega
      · rw [List.take_succ_cons, hc, ← h t]
    · rw [if_neg hc]
      exact ⟨_, (List.takeWhile_prefix (l := c :: t) isDig).length_le, h _⟩

theorem numM_eq (r : Bs) : numM r = (if (okNum (trimPrefix (rowM r) [45]) && !(hasPrefix (rowM r) [45] && (numVal (trimPrefix (rowM r) [45]) == 0))) = true then .inl (if hasPrefix (rowM r) [45] = true then -(numVal (trimPrefix (rowM r) [45])) else numVal (trimPrefix (rowM r) [45]), r.drop (rowM r).length) else .inr (1, r)) := by
  unfold numM
  cases rowM r with
  | nil => rfl
  | cons c t =>
    by_cases hc : c = 45
    · have h1 : hasPrefix (c :: t) [45] = true := by rw [hc]; simp [hasPrefix, List.isPrefixOf]
      have h2 : trimPrefix (c :: t) [45] = t := by unfold trimPrefix; rw [h1]; rfl
      simp only [h1, h2, Bool.true_and]
      rw [if_pos (by rw [hc]; rfl), List.tail_cons]
      by_cases ho : okNum t = true <;> by_cases hz : numVal t = 0 <;> simp [ho, hz]
    · have h1 : hasPrefix (c :: t) [45] = false := by simp [hasPrefix, List.isPrefixOf]; exact fun e => hc e.symm
      have h2 : trimPrefix (c :: t) [45] = c :: t := by unfold trimPrefix; rw [h1]; rfl
      simp only [h1, h2]
      rw [if_neg (by simpa using hc)]
      by_cases ho : okNum (c :: t) = true <;> simp [ho]

end Go.Br

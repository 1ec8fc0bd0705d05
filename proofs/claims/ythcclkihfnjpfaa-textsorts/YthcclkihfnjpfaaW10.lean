/-
  Contracts of a quoted text's signs, of Unquote.
-/
import Derived.Test.YthcclkihfnjpfaaW9
namespace Go.Proofs.Ythcclkihfnjpfaa
set_option linter.unusedVariables false
open Go.RowKit Go.Joins Go.Tx
attribute [local go_sem ↓] Go.wp_at_zero Go.wp_at_succ

/-- A quoted text that is being read: block N is its cursor, block N + 1 itself; what it has said lies behind them. -/
structure QS (w : World) (N : Nat) (s : ByteArray) (p : Nat) (sd : List UInt8) : Prop where
  cur : IsCur w N s p
  ex : ∃ v, w.heap[N + 1]? = some (.cells #[.pointer (some ⟨N, 0, none⟩), v] 77 (0, 0)) ∧ w.ownsRow (N + 2) 5 1 v sd.length (Lib.byteCells sd)
  sz : N + 2 ≤ w.heap.size

theorem own_of_blocks {w w' : World} {base e size n : Nat} {v : Value} {xs : List Value} (h : w.ownsRow base e size v n xs) (hb : ∀ k, base ≤ k → w'.heap[k]? = w.heap[k]?) : w'.ownsRow base e size v n xs := by
  refine ⟨h.1, ?_⟩
  rcases h.2 with h2 | ⟨g, cap, cur, hv, hg, hh, r⟩
  · exact .inl h2
  · exact .inr ⟨g, cap, cur, hv, hg, by rw [hb g hg]; exact hh, r⟩

theorem QS.oth {w w' : World} {N p p' : Nat} {s : ByteArray} {sd : List UInt8} (h : QS w N s p sd) (ho : Oth N w w') (hc : IsCur w' N s p') : QS w' N s p' sd := by
  obtain ⟨v, hv, hr⟩ := h.ex
  exact ⟨hc, ⟨v, by rw [ho.block _ (by omega)]; exact hv, own_of_blocks hr (fun k hk => ho.block k (by omega))⟩, by rw [ho.size]; exact h.sz⟩

theorem pre_one (s : ByteArray) (p : Nat) (c : UInt8) (h : p < s.size) : Lib.hasPrefix (s.data.toList.drop p) [c] = (c == s[p]) := by
  rw [drop_cons s p h]; simp [Lib.hasPrefix, List.isPrefixOf]
theorem pre_end (s : ByteArray) (p : Nat) (c : UInt8) (h : ¬ p < s.size) : Lib.hasPrefix (s.data.toList.drop p) [c] = false := by
  rw [List.drop_eq_nil_of_le (by rw [len_eq]; omega)]; rfl

/-- The pointer to the cursor, read off the quoted text. -/
theorem QS.c0 {w : World} {N p : Nat} {s : ByteArray} {sd : List UInt8} (h : QS w N s p sd) : w.cell? ⟨N + 1, 0, none⟩ = some (.pointer (some ⟨N, 0, none⟩)) := by
  obtain ⟨v, hv, _⟩ := h.ex
  rw [cell_of_block hv]; rfl

set_option maxHeartbeats 400000 in
theorem sign_end (N : Nat) (s : ByteArray) (p : Nat) (sd : List UInt8) (w : World) (h : QS w N s p sd) (hs : s.size ≤ 2000000000000) (hp : ¬ p < s.size) :
    Calls Try.prog 51 #[.pointer (some ⟨N + 1, 0, none⟩)] w fun x w' => x = .returned (.bool false) ∧ Below N w w' := by
  have c0 := h.c0
  have hcur := h.cur
  go_enter Try.func51, Try.ntmps51
  go_wp2_with fail
  refine (take_no N s _ p w hcur hs (pre_end s p 92 hp)).mono ?_
  rintro x w1 ⟨rfl, n, rfl⟩
  go_wp2_with fail
  refine (next_end N s p _ (hcur.drewN n) hs hp).mono ?_
  rintro x w2 ⟨rfl, m, rfl⟩
  go_wp2_with fail
  go_ret
  exact ⟨rfl, (Oth.drewN N w _).below (Nat.le_refl _)⟩

theorem grown_at {w w1 : World} {o : Obj} {v : Value} {k : Nat} {X : Obj} (hv : w.heap[k]? = some X) (hlt : k < w.heap.size) (hg : (w.alloc o).grownBy w1 v.ownBlock) (hne : v.ownBlock ≠ some k) : w1.heap[k]? = some X := by
  rw [hg.block k (by simp; omega) (fun e => hne e.symm), Below.heap_alloc w o k hlt]; exact hv

theorem row_block {w : World} {base e n : Nat} {v : Value} {xs : List Value} (h : w.ownsRow base e 1 v n xs) : ∀ k, v.ownBlock = some k → base ≤ k := fun k hk => (h.lt k hk).1

theorem byteCells_snoc (sd : List UInt8) (c : UInt8) : Lib.byteCells (sd ++ [c]) = Lib.byteCells sd ++ [.int .u8 (c.toNat : Int)] := by simp [Lib.byteCells]

theorem put_below {w w1 : World} {N p : Nat} {s : ByteArray} {sd : List UInt8} {v : Value} {o : Obj} (h : QS w N s p sd) (hr : w.ownsRow (N + 2) 5 1 v sd.length (Lib.byteCells sd))
    (hg : (w.alloc o).grownBy w1 v.ownBlock) (u : Value) : Below N w (w1.setCell ⟨N + 1, 1, none⟩ u) := by
  have hsz := h.sz
  exact Below.setCell (((Below.refl N w).alloc (by omega) o).grown hg (by simp; omega) (fun k e => by have := row_block hr k e; omega)) (by show N ≤ N + 1; omega) u

theorem put_qs {w w1 : World} {N p g cap : Nat} {s : ByteArray} {sd : List UInt8} {v : Value} {c : UInt8} {o : Obj} (h : QS w N s p sd) (hv : w.heap[N + 1]? = some (.cells #[.pointer (some ⟨N, 0, none⟩), v] 77 (0, 0)))
    (hr : w.ownsRow (N + 2) 5 1 v sd.length (Lib.byteCells sd))
    (hown : w1.ownsRow (N + 2) 5 1 (.slice (some ⟨g, 0, none⟩) (sd.length + 1) cap) (sd.length + 1) (Lib.byteCells sd ++ [.int .u8 (c.toNat : Int)])) (hg : (w.alloc o).grownBy w1 v.ownBlock)
    (hv4 : w1.heap[N + 1]? = some (.cells #[.pointer (some ⟨N, 0, none⟩), v] 77 (0, 0))) : QS (w1.setCell ⟨N + 1, 1, none⟩ (.slice (some ⟨g, 0, none⟩) (sd.length + 1) cap)) N s p (sd ++ [c]) := by
  have hsz := h.sz
  have hnb : v.ownBlock ≠ some N := fun e => by have := row_block hr _ e; omega
  refine ⟨h.cur.of_block ?_, ⟨.slice (some ⟨g, 0, none⟩) (sd.length + 1) cap, ?_, ?_⟩, ?_⟩
  · rw [Below.heap_setCell _ _ _ _ (by show N ≠ N + 1; omega), hg.block N (by simp; omega) (fun e => hnb e.symm), Below.heap_alloc w o N (by omega)]
  · rw [block_setCell hv4]; rfl
  · rw [byteCells_snoc, List.length_append]
    exact ownsRow_setCell_below hown (by show N + 1 < N + 2; omega) _
  · have := hg.size
    simp at this ⊢
    omega

set_option maxHeartbeats 800000 in
set_option maxRecDepth 100000 in
theorem sign_plain (N : Nat) (s : ByteArray) (p : Nat) (sd : List UInt8) (w : World) (h : QS w N s p sd) (hs : s.size ≤ 2000000000000) (hp : p < s.size) (hsd : sd.length ≤ s.size) (c : UInt8) (HC : Hid (s[p] = c)) (hc : ¬ c = 92) :
    Calls Try.prog 51 #[.pointer (some ⟨N + 1, 0, none⟩)] w fun x w' => x = .returned (.bool (prB (c.toNat : Int))) ∧ Below N w w' ∧ (prB (c.toNat : Int) = true → QS w' N s (p + 1) (sd ++ [c])) := by
  have c0 := h.c0
  have hcur := h.cur
  have HPR : Hid (Lib.hasPrefix (s.data.toList.drop p) (ByteArray.mk #[92]).data.toList = false) := by
    show Lib.hasPrefix _ [92] = false
    rw [pre_one s p 92 hp, HC.out]; simpa using fun e => hc e.symm
  cases hpr : prB (c.toNat : Int)
  all_goals
    go_enter Try.func51, Try.ntmps51
    go_wp2_with fail
    refine (take_no N s _ p w hcur hs HPR.out).mono ?_
    rintro x w1 ⟨rfl, n, rfl⟩
    go_wp2_with fail
    refine (next_in N s p _ (hcur.drewN n) hs hp).mono ?_
    rw [HC.out]
    rintro x w2 ⟨rfl, hc2, ho2⟩
    have hq2 : QS w2 N s (p + 1) sd := h.oth ((Oth.drewN N w n).trans ho2) hc2
    have hB2 : Below N w w2 := ((Oth.drewN N w n).trans ho2).below (Nat.le_refl _)
    clear h hcur c0 hc2 ho2 HPR HC
    go_wp2_with fail
    refine (printable_any _ _).mono ?_
    rw [hpr]
    rintro x w3 ⟨rfl, rfl⟩
  · go_wp2_with fail
    go_ret
    exact ⟨rfl, hB2, fun e => by cases e⟩
  · obtain ⟨v, hv, hown⟩ := hq2.ex
    have hsz := hq2.sz
    have c1 : w3.cell? ⟨N + 1, 1, none⟩ = some v := by rw [cell_of_block hv]; rfl
    have hown1 := hown.alloc (.cells #[.int .u8 (c.toNat : Int)] 5)
    have hnb : v.ownBlock ≠ some (N + 1) := fun e => by have := row_block hown _ e; omega
    go_wp2_with (at_builtin; refine wpList_append_lies _ rfl _ _ _ rfl (N + 2) 5 Try.t5 (.int .u8 0) 1 1 Try.underlying22 info8 rfl rfl rfl rfl (by omega) v sd.length (Lib.byteCells sd) rfl hown1 ⟨w3.heap.size, 0, none⟩ 1 1 [.int .u8 (c.toNat : Int)] rfl rfl (cell_one_new _ _ _) (by simp [Value.oneCell']) (by omega) (by unfold maxLen; omega) (by omega) (by simp; omega) (w3.heap.size + 1) (by simp) ?_; intro g cap w4 ho4 hg4 hat hlt; have hv4 := grown_at hv (by omega) hg4 hnb; have c4 : w4.cell? ⟨N + 1, 1, none⟩ = some v := (by rw [cell_of_block hv4]; rfl); have f4 := unfrozen_of_block hv4 1; clear hat)
    go_ret
    exact ⟨rfl, hB2.trans (put_below hq2 hown hg4 _), fun _ => put_qs hq2 hv hown ho4 hg4 hv4⟩

set_option maxHeartbeats 400000 in
set_option maxRecDepth 100000 in
theorem sign_cut (N : Nat) (s : ByteArray) (p : Nat) (sd : List UInt8) (w : World) (h : QS w N s p sd) (hs : s.size ≤ 2000000000000) (hp : p < s.size) (HC : Hid (s[p] = 92)) (hp1 : ¬ p + 1 < s.size) :
    Calls Try.prog 51 #[.pointer (some ⟨N + 1, 0, none⟩)] w fun x w' => x = .returned (.bool false) ∧ Below N w w' := by
  have c0 := h.c0
  have hcur := h.cur
  have HPR : Hid (Lib.hasPrefix (s.data.toList.drop p) (ByteArray.mk #[92]).data.toList = true) := by
    show Lib.hasPrefix _ [92] = true
    rw [pre_one s p 92 hp, HC.out]; rfl
  go_enter Try.func51, Try.ntmps51
  go_wp2_with fail
  refine (take_yes N s _ p w hcur hs HPR.out).mono ?_
  rintro x w1 ⟨rfl, hc1, ho1⟩
  have hq1 := h.oth ho1 hc1
  have c1 := hq1.c0
  go_wp2_with fail
  refine (next_end N s _ _ hc1 hs hp1).mono ?_
  rintro x w2 ⟨rfl, m, rfl⟩
  go_wp2_with fail
  go_ret
  exact ⟨rfl, (ho1.trans (Oth.drewN N _ m)).below (Nat.le_refl _)⟩

set_option maxHeartbeats 800000 in
set_option maxRecDepth 100000 in
theorem sign_esc (N : Nat) (s : ByteArray) (p : Nat) (sd : List UInt8) (w : World) (h : QS w N s p sd) (hs : s.size ≤ 2000000000000) (hp : p < s.size) (hsd : sd.length ≤ s.size) (HC : Hid (s[p] = 92)) (hp1 : p + 1 < s.size) (d : UInt8) (HD : Hid (s[p + 1] = d)) (u : Option UInt8) (HU : Hid (unesc d = u)) :
    Calls Try.prog 51 #[.pointer (some ⟨N + 1, 0, none⟩)] w fun x w' => x = .returned (.bool u.isSome) ∧ Below N w w' ∧ (∀ c, u = some c → QS w' N s (p + 2) (sd ++ [c])) := by
  have c0 := h.c0
  have hcur := h.cur
  have HPR : Hid (Lib.hasPrefix (s.data.toList.drop p) (ByteArray.mk #[92]).data.toList = true) := by
    show Lib.hasPrefix _ [92] = true
    rw [pre_one s p 92 hp, HC.out]; rfl
  rcases u with _ | c
  all_goals
    go_enter Try.func51, Try.ntmps51
    go_wp2_with fail
    refine (take_yes N s _ p w hcur hs HPR.out).mono ?_
    rintro x w1 ⟨rfl, hc1, ho1⟩
    have hc1 : IsCur w1 N s (p + 1) := hc1
    have hq1 := h.oth ho1 hc1
    have c1 := hq1.c0
    go_wp2_with fail
    refine (next_in N s (p + 1) _ hc1 hs hp1).mono ?_
    rw [HD.out]
    rintro x w2 ⟨rfl, hc2, ho2⟩
    have hq2 : QS w2 N s (p + 2) sd := hq1.oth ho2 hc2
    have hB2 : Below N w w2 := (ho1.trans ho2).below (Nat.le_refl _)
    clear h hcur c0 hc2 ho2 HPR HC hq1 c1 ho1 hc1 HD
    go_wp2_with fail
    refine (unescape_any d _).mono ?_
    unfold unescV
    rw [HU.out]
    rintro x w3 ⟨rfl, rfl⟩
  · go_wp2_with fail
    go_ret
    exact ⟨rfl, hB2, fun c e => by cases e⟩
  · obtain ⟨v, hv, hown⟩ := hq2.ex
    have hsz := hq2.sz
    have c1 : w3.cell? ⟨N + 1, 1, none⟩ = some v := by rw [cell_of_block hv]; rfl
    have hown1 := hown.alloc (.cells #[.int .u8 (c.toNat : Int)] 5)
    have hnb : v.ownBlock ≠ some (N + 1) := fun e => by have := row_block hown _ e; omega
    go_wp2_with (at_builtin; refine wpList_append_lies _ rfl _ _ _ rfl (N + 2) 5 Try.t5 (.int .u8 0) 1 1 Try.underlying22 info8 rfl rfl rfl rfl (by omega) v sd.length (Lib.byteCells sd) rfl hown1 ⟨w3.heap.size, 0, none⟩ 1 1 [.int .u8 (c.toNat : Int)] rfl rfl (cell_one_new _ _ _) (by simp [Value.oneCell']) (by omega) (by unfold maxLen; omega) (by omega) (by simp; omega) (w3.heap.size + 1) (by simp) ?_; intro g cap w4 ho4 hg4 hat hlt; have hv4 := grown_at hv (by omega) hg4 hnb; have c4 : w4.cell? ⟨N + 1, 1, none⟩ = some v := (by rw [cell_of_block hv4]; rfl); have f4 := unfrozen_of_block hv4 1; clear hat)
    go_ret
    exact ⟨rfl, hB2.trans (put_below hq2 hown hg4 _), fun c' e => by cases e; exact put_qs hq2 hv hown ho4 hg4 hv4⟩


theorem sign_any (N : Nat) (s : ByteArray) (p : Nat) (sd : List UInt8) (w : World) (h : QS w N s p sd) (hs : s.size ≤ 2000000000000) (hsd : sd.length ≤ s.size) :
    Calls Try.prog 51 #[.pointer (some ⟨N + 1, 0, none⟩)] w fun x w' => x = .returned (.bool (sgn (s.data.toList.drop p)).isSome) ∧ Below N w w' ∧ (∀ c n, sgn (s.data.toList.drop p) = some (c, n) → QS w' N s (p + n) (sd ++ [c])) := by
  by_cases hp : p < s.size
  · rw [drop_cons s p hp, sgn_cons]
    by_cases hc : s[p] = 92
    · rw [if_pos hc]
      by_cases hp1 : p + 1 < s.size
      · rw [drop_cons s (p + 1) hp1]
        refine (sign_esc N s p sd w h hs hp hsd hc hp1 s[p + 1] rfl (unesc s[p + 1]) rfl).mono ?_
        rintro x w' ⟨rfl, hb, hq⟩
        refine ⟨by simp, hb, fun c n e => ?_⟩
        simp only [Option.map_eq_some_iff, Prod.mk.injEq] at e
        obtain ⟨a, ha, rfl, rfl⟩ := e
        exact hq a ha
      · rw [List.drop_eq_nil_of_le (by rw [len_eq]; omega)]
        refine (sign_cut N s p sd w h hs hp hc hp1).mono ?_
        rintro x w' ⟨rfl, hb⟩
        exact ⟨rfl, hb, fun c n e => by cases e⟩
    · rw [if_neg hc]
      refine (sign_plain N s p sd w h hs hp hsd s[p] rfl hc).mono ?_
      rintro x w' ⟨rfl, hb, hq⟩
      cases hpr : prB (s[p].toNat : Int) with
      | true =>
        refine ⟨rfl, hb, fun c n e => ?_⟩
        simp at e
        obtain ⟨rfl, rfl⟩ := e
        exact hq hpr
      | false => exact ⟨rfl, hb, fun c n e => by simp at e⟩
  · rw [List.drop_eq_nil_of_le (by rw [len_eq]; omega)]
    refine (sign_end N s p sd w h hs hp).mono ?_
    rintro x w' ⟨rfl, hb⟩
    exact ⟨rfl, hb, fun c n e => by cases e⟩

end Go.Proofs.Ythcclkihfnjpfaa

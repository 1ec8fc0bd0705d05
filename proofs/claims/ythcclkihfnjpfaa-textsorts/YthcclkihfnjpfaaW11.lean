/-
  Contract of Unquote.
-/
import Derived.Test.YthcclkihfnjpfaaW10
import Derived.Deep.LoopGhost
namespace Go.Proofs.Ythcclkihfnjpfaa
set_option linter.unusedVariables false
open Go.RowKit Go.Joins Go.Tx
attribute [local go_sem ↓] Go.wp_at_zero Go.wp_at_succ

/-- What Unquote answers. -/
def unqV (o : Option (List UInt8 × Nat)) : Value := match o with | some y => .tuple #[.string (str y.1), .int .i64 y.2, .bool true] | none => .tuple #[.string ⟨#[]⟩, .int .i64 0, .bool false]

theorem QS.start (s : ByteArray) (w : World) : QS ((w.alloc (.cells #[.int .i64 0, .int .i64 0, .int .i64 0, .string s] 65)).alloc (.cells #[.pointer (some ⟨w.heap.size, 0, none⟩), .slice none 0 0] 77)) w.heap.size s 0 [] := by
  refine ⟨(new_cur s w).below ((Below.refl _ _).alloc (Nat.le_refl _) _), ⟨.slice none 0 0, ?_, World.ownsRow_nil _ _ _ _⟩, by simp⟩
  have := heap_alloc_new (w.alloc (.cells #[.int .i64 0, .int .i64 0, .int .i64 0, .string s] 65)) (.cells #[.pointer (some ⟨w.heap.size, 0, none⟩), .slice none 0 0] 77)
  simpa using this

theorem QS.said {w : World} {N p : Nat} {s : ByteArray} {sd : List UInt8} (h : QS w N s p sd) : ∃ v, w.cell? ⟨N + 1, 1, none⟩ = some v ∧ ∀ W : World, W.heap = w.heap → (convert 22 9 v).run Try.prog W = .ok (.string (str sd)) W := by
  obtain ⟨v, hv, hr⟩ := h.ex
  refine ⟨v, by rw [cell_of_block hv]; rfl, fun W hW => ?_⟩
  rcases hr.2 with ⟨rfl, h0⟩ | ⟨g, cap, cur, rfl, hg, hh, hrest⟩
  · have : sd = [] := List.eq_nil_of_length_eq_zero h0
    subst this
    rw [run_convert_bytes_nil W 22 5 Try.underlying22 Try.underlying5 0 0 9 Try.underlying9]
    rfl
  · have hr' : W.ownsRow (N + 2) 5 1 (.slice (some ⟨g, 0, none⟩) sd.length cap) sd.length (Lib.byteCells sd) := own_of_blocks hr (fun k _ => by rw [hW])
    rw [run_convert_bytes_arg W 22 5 Try.underlying22 Try.underlying5 g 0 sd.length cap (sd.map fun c => (c.toNat : Int)) (by simp) (fun i hi => by
      rw [Nat.zero_add, hr'.cellAt i (by omega)]
      simp [Lib.byteCells, List.getD, List.getElem?_eq_getElem hi]) 9 Try.underlying9]
    congr 2
    refine ba_ext ?_
    rw [strOfNums_data, str_list, List.map_map]
    conv => rhs; rw [← List.map_id sd]
    apply List.map_congr_left
    intro c _
    simp

theorem sgn_len (l : List UInt8) : ∀ c n, sgn l = some (c, n) → 1 ≤ n ∧ n ≤ l.length := by
  intro c n e
  cases l with
  | nil => cases e
  | cons d l =>
    rw [sgn_cons] at e
    by_cases h2 : d = 92
    · rw [if_pos h2] at e
      cases l with
      | nil => cases e
      | cons d' l' =>
        simp only [Option.map_eq_some_iff, Prod.mk.injEq] at e
        obtain ⟨_, _, _, rfl⟩ := e
        simp
    · rw [if_neg h2] at e
      by_cases h3 : prB (d.toNat : Int) = true
      · rw [if_pos h3] at e; simp at e; simp; omega
      · rw [if_neg h3] at e; cases e

set_option maxHeartbeats 800000 in
set_option maxRecDepth 100000 in
theorem unquote_any (s : ByteArray) (w : World) (hs : s.size ≤ 2000000000000) (uq : Option (List UInt8 × Nat)) (HU : Hid (unquote s.data.toList = uq)) :
    Calls Try.prog 34 #[.string s] w fun x w' => x = .returned (unqV uq) ∧ Below w.heap.size w w' := by
  have hq0 := QS.start s w
  go_enter Try.func34, Try.ntmps34
  go_wp2_with (go_at_call 18; refine (new_any s w).mono ?_; rintro x w1 ⟨rfl, rfl⟩)
  by_cases h34 : s.data.toList.head? = some 34
  · obtain ⟨l, hl⟩ : ∃ l, s.data.toList = 34 :: l := by
      cases hh : s.data.toList with
      | nil => rw [hh] at h34; cases h34
      | cons c l => rw [hh] at h34; simp at h34; exact ⟨l, by rw [h34]⟩
    have hsz : 0 < s.size := by rw [← len_eq, hl]; simp
    have HQ : Hid ((unq (s.data.toList.drop 1)).map (fun y => (([] : List UInt8) ++ y.1, y.2 + 1)) = uq) := by
      show _ = _
      rw [← HU.out, hl]; rfl
    have HPR : Hid (Lib.hasPrefix (s.data.toList.drop 0) (ByteArray.mk #[34]).data.toList = true) := by
      show Lib.hasPrefix _ [34] = true
      rw [hl]; rfl
    clear hl h34 HU
    refine (take_yes w.heap.size s _ 0 _ hq0.cur hs HPR.out).mono ?_
    rintro x w1 ⟨rfl, hc1, ho1⟩
    have hq1 : QS w1 w.heap.size s 1 [] := hq0.oth ho1 hc1
    have hB1 : Below w.heap.size w w1 := (((Below.refl _ _).alloc (Nat.le_refl _) _).alloc (by simp) _).trans (ho1.below (Nat.le_refl _))
    clear hc1 ho1 hq0 HPR
    go_wp2_with fail
    go_loopg [13] (s.size - 1) (fun g _ wr => ∃ (p : Nat) (sd : List UInt8), p ≤ s.size ∧ g = s.size - p ∧ sd.length ≤ p ∧ QS wr w.heap.size s p sd ∧ Below w.heap.size w wr ∧ Hid ((unq (s.data.toList.drop p)).map (fun y => (sd ++ y.1, y.2 + p)) = uq))
    case atStart => exact ⟨1, [], by omega, rfl, by simp, hq1, hB1, HQ⟩
    case round =>
      obtain ⟨p, sd, hp, rfl, hsd, hq, hB, HQ1⟩ := hrel
      clear hq1 hB1 HQ
      have c0 := hq.c0
      by_cases h34 : (s.data.toList.drop p).head? = some 34
      · obtain ⟨l, hl⟩ : ∃ l, s.data.toList.drop p = 34 :: l := by
          cases hh : s.data.toList.drop p with
          | nil => rw [hh] at h34; cases h34
          | cons c l => rw [hh] at h34; simp at h34; exact ⟨l, by rw [h34]⟩
        have HPR : Hid (Lib.hasPrefix (s.data.toList.drop p) (ByteArray.mk #[34]).data.toList = true) := by
          show Lib.hasPrefix _ [34] = true
          rw [hl]; rfl
        have HR : Hid (uq = some (sd, p + 1)) := by
          show _ = _
          rw [← HQ1.out, hl, unq_cons]; simp; omega
        clear HQ1 hl h34
        go_wp2_with fail
        refine (take_yes w.heap.size s _ p _ hq.cur hs HPR.out).mono ?_
        rintro x w2 ⟨rfl, hc2, ho2⟩
        have hc2 : IsCur w2 w.heap.size s (p + 1) := hc2
        have hq2 := hq.oth ho2 hc2
        have hB2 : Below w.heap.size w w2 := hB.trans (ho2.below (Nat.le_refl _))
        obtain ⟨v, c1, hcv⟩ := hq2.said
        have hcv1 := hcv w2.drew rfl
        have c2 := hq2.c0
        clear hq hB c0 ho2 HPR hcv
        go_wp2_with fail
        go_region_with (go_at_call 26; refine (at_any w.heap.size s (p + 1) _ (by exact hc2.of_block rfl)).mono ?_; rintro x w3 ⟨rfl, rfl⟩)
        all_goals
          go_wp2_with fail
          go_ret3
          exact ⟨by rw [HR.out]; rfl, hB2.drew⟩
      · have HPR : Hid (Lib.hasPrefix (s.data.toList.drop p) (ByteArray.mk #[34]).data.toList = false) := by
          show Lib.hasPrefix _ [34] = false
          cases hh : s.data.toList.drop p with
          | nil => rfl
          | cons c l => rw [hh] at h34; simp at h34; simp [Lib.hasPrefix, List.isPrefixOf]; exact fun e => h34 e.symm
        have HST : Hid (unq (s.data.toList.drop p) = match sgn (s.data.toList.drop p) with | none => none | some (c, n) => (unq ((s.data.toList.drop p).drop n)).map fun y => (c :: y.1, y.2 + n)) := unq_step _ h34
        have HSL := sgn_len (s.data.toList.drop p)
        rw [List.length_drop, len_eq] at HSL
        clear h34
        go_wp2_with fail
        refine (take_no w.heap.size s _ p _ hq.cur hs HPR.out).mono ?_
        rintro x w2 ⟨rfl, n, rfl⟩
        have hq2 : QS (wr.drewN n) w.heap.size s p sd := hq.oth (Oth.drewN _ _ n) (hq.cur.drewN n)
        have hB2 : Below w.heap.size w (wr.drewN n) := hB.trans ((Oth.drewN w.heap.size _ n).below (Nat.le_refl _))
        clear hq hB c0 HPR
        go_wp2_with fail
        refine (sign_any w.heap.size s p sd _ hq2 hs (by omega)).mono ?_
        rintro x w3 ⟨rfl, hb3, hq3⟩
        have hB3 := hB2.trans hb3
        cases hsg : sgn (s.data.toList.drop p) with
        | none =>
          have HN : Hid (uq = none) := by
            show _ = _
            rw [← HQ1.out, HST.out, hsg]; rfl
          clear hsg HQ1 HST HSL hq3
          go_wp2_with fail
          go_ret3
          exact ⟨by rw [HN.out]; rfl, hB3⟩
        | some y =>
          obtain ⟨c, m⟩ := y
          have hq4 := hq3 c m hsg
          obtain ⟨hm1, hm2⟩ := HSL c m hsg
          have HQ2 : Hid ((unq (s.data.toList.drop (p + m))).map (fun y => ((sd ++ [c]) ++ y.1, y.2 + (p + m))) = uq) := by
            show _ = _
            rw [← HQ1.out, HST.out, hsg]
            simp only [List.drop_drop]
            cases unq (s.data.toList.drop (p + m)) with
            | none => rfl
            | some z => simp; omega
          clear hsg HQ1 HST HSL hq3
          go_wp2_with fail
          go_roundg (s.size - (p + m))
          case measure => omega
          case rel => exact ⟨p + m, sd ++ [c], by omega, rfl, by simp; omega, hq4, hB3, HQ2⟩
  · have HN : Hid (uq = none) := by
      show _ = _
      rw [← HU.out]
      cases hh : s.data.toList with
      | nil => rfl
      | cons c l => rw [hh] at h34; simp at h34; simp [unquote, h34]
    have HPR : Hid (Lib.hasPrefix (s.data.toList.drop 0) (ByteArray.mk #[34]).data.toList = false) := by
      show Lib.hasPrefix _ [34] = false
      rw [List.drop_zero]
      cases hh : s.data.toList with
      | nil => rfl
      | cons c l => rw [hh] at h34; simp at h34; simp [Lib.hasPrefix, List.isPrefixOf]; exact fun e => h34 e.symm
    refine (take_no w.heap.size s _ 0 _ hq0.cur hs HPR.out).mono ?_
    rintro x w1 ⟨rfl, n, rfl⟩
    go_wp2_with fail
    go_ret3
    exact ⟨by rw [HN.out]; rfl, (((Below.refl _ _).alloc (Nat.le_refl _) _).alloc (by simp) _).trans ((Oth.drewN w.heap.size _ n).below (Nat.le_refl _))⟩

end Go.Proofs.Ythcclkihfnjpfaa

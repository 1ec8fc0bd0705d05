/-
  Contract of the reference's Texts, of two equal rows.
-/
import Derived.Test.YthcclkihfnjpfaaW13
import Derived.Test.YthcclkihfnjpfaaW15
namespace Go.Proofs.Ythcclkihfnjpfaa
set_option linter.unusedVariables false
open Go.RowKit Go.Tx Go.Sort
attribute [local go_sem ↓] Go.wp_at_zero Go.wp_at_succ

theorem SRow.at_ {w : World} {a : Option Addr} {len cap : Nat} {ss : List (List UInt8)} (h : SRow w a len cap ss) (h0 : 0 < len) : ∃ b off, a = some ⟨b, off, none⟩ ∧ ∀ (i : Nat) (hi : i < len), w.cell? ⟨b, off + i, none⟩ = some (.string (str (ss.getD i []))) := by
  cases a with
  | none => have := h.nil rfl; omega
  | some x =>
    obtain ⟨b, off, spot⟩ := x
    have hk : ∀ (i : Nat) (hi : i < len), w.cell? ((⟨b, off, spot⟩ : Addr).add i) = some (.string (str (ss.getD i []))) := by
      intro i hi
      have hl : i < ss.length := by rw [h.n]; exact hi
      have := h.cell _ rfl i (encStr ss[i]) (by simp [List.getElem?_eq_getElem hl])
      rw [this]
      simp [List.getD, List.getElem?_eq_getElem hl, encStr, str]
    have hspot : spot = none := by simpa [Addr.add] using World.cell?_spot (hk 0 h0)
    subst hspot
    exact ⟨b, off, rfl, fun i hi => by have := hk i hi; rw [addr_add] at this; exact this⟩

set_option maxHeartbeats 800000 in
set_option maxRecDepth 100000 in
theorem rtexts_same (a b : Option Addr) (len cap cap2 : Nat) (ss : List (List UInt8)) (w : World) (h1 : SRow w a len cap ss) (h2 : SRow w b len cap2 ss) (hl : len ≤ 1000) :
    Calls Try.prog 40 #[.slice a len cap, .slice b len cap2] w fun e w' => e = .returned (.bool true) ∧ ∃ n, w' = w.drewN n := by
  go_enter Try.func40, Try.ntmps40
  go_wp2_with fail
  go_loopw [5] (fun i wr => ∃ k n : Nat, k ≤ len ∧ i = .int .i64 k ∧ wr = w.drewN n) (fun i _ => len - (intOf i).toNat)
  case atStart => exact ⟨0, 0, by omega, rfl, rfl⟩
  case round =>
    obtain ⟨k, n, hk, rfl, rfl⟩ := hrel
    by_cases hlt : k < len
    · obtain ⟨b1, o1, rfl, c1⟩ := h1.at_ (by omega)
      obtain ⟨b2, o2, rfl, c2⟩ := h2.at_ (by omega)
      have d1 : w.cell? ⟨b1, o1 + k, none⟩ = some (.string (str (ss.getD k []))) := c1 k hlt
      have d2 : w.cell? ⟨b2, o2 + k, none⟩ = some (.string (str (ss.getD k []))) := c2 k hlt
      generalize str (ss.getD k []) = t at *
      clear c1 c2 h1 h2
      have i1 : (0 : Int) ≤ (k : Int) := by omega
      have i2 : (k : Int) < (len : Int) := by omega
      go_wp2_with fail
      go_quiet (fail)
      go_wp2_with fail
      go_roundw
      case rel => exact ⟨k + 1, _, by omega, by go_num, rfl⟩
      case measure => simp [intOf]; omega
    · have hd : decide ((k : Int) < (len : Int)) = false := by simp; omega
      go_wp2_with fail
      go_ret
      exact ⟨rfl, n, rfl⟩

end Go.Proofs.Ythcclkihfnjpfaa

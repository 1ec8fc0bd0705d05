/-
  Rows of rows of spans; slices.Grow, slices.Concat at spans.
-/
import Derived.Test.YtninheehoabbbaaGreatDoorN7
namespace Go.Proofs.YtninheehoabbbaaGreatDoor
set_option linter.unusedSimpArgs false
set_option linter.unusedVariables false
open Go.RowKit Go.Vr Go.Sort Go.Tx Go.Lib
attribute [local go_sem] setCellDrewN allocDrewN

/-- A slice's three parts. -/
structure Sl where
  a : Option Addr
  n : Nat
  cap : Nat
abbrev Sl.val (s : Sl) : Value := .slice s.a s.n s.cap
def ER : El Sl where
  enc := fun s => [s.val]
  k := 1
  T := 28
  TS := 73
  z := .slice none 0 0
  bytes := 24
  hk := fun _ => rfl
  one := by
    intro x u hu
    simp only [List.mem_cons, List.not_mem_nil, or_false] at hu
    subst hu; rfl
  ht := Tryz.underlying73
  hi := ⟨Tryz.t28, by kernel_rfl, by kernel_rfl, by kernel_rfl, by kernel_rfl⟩
  hzs := by kernel_rfl
  hk0 := by decide
  hby := by decide

/-- Rows that are there, each of spans that are there. -/
def Each (w : World) : List Sl → List (List Sp.S) → Prop
  | [], [] => True
  | t :: ts, l :: ls => ERow ES w t.a t.n l ∧ Each w ts ls
  | _, _ => False
theorem Each.later {w w' : World} (hb : RowKit.Below w.heap.size w w') : ∀ {ts : List Sl} {ls : List (List Sp.S)}, Each w ts ls → Each w' ts ls
  | [], [], _ => trivial
  | _ :: _, _ :: _, h => ⟨h.1.later hb, Each.later hb h.2⟩
  | [], _ :: _, h => h.elim
  | _ :: _, [], h => h.elim
theorem Each.len {w : World} : ∀ {ts : List Sl} {ls : List (List Sp.S)}, Each w ts ls → ts.length = ls.length
  | [], [], _ => rfl
  | _ :: ts, _ :: ls, h => by rw [List.length_cons, List.length_cons, Each.len h.2]
  | [], _ :: _, h => h.elim
  | _ :: _, [], h => h.elim
theorem Each.at_ {w : World} : ∀ {ts : List Sl} {ls : List (List Sp.S)} (_ : Each w ts ls) (j : Nat) (h1 : j < ts.length) (h2 : j < ls.length), ERow ES w ts[j].a ts[j].n ls[j]
  | [], _, _, j, h1, _ => by simp at h1
  | _ :: _, [], _, j, _, h2 => by simp at h2
  | _ :: ts, _ :: ls, h, 0, _, _ => h.1
  | _ :: ts, _ :: ls, h, j + 1, h1, h2 => by simpa using Each.at_ h.2 j (by simpa using h1) (by simpa using h2)
theorem Each.app {w : World} : ∀ {ts : List Sl} {ls : List (List Sp.S)} {t : Sl} {l : List Sp.S}, Each w ts ls → ERow ES w t.a t.n l → Each w (ts ++ [t]) (ls ++ [l])
  | [], [], _, _, _, h => ⟨h, trivial⟩
  | _ :: _, _ :: _, _, _, h, k => ⟨h.1, Each.app h.2 k⟩
  | [], _ :: _, _, _, h, _ => h.elim
  | _ :: _, [], _, _, h, _ => h.elim
structure RRow (w : World) (a : Option Addr) (len : Nat) (ls : List (List Sp.S)) : Prop where
  ex : ∃ ts : List Sl, ERow ER w a len ts ∧ Each w ts ls
theorem RRow.later {w w' : World} {a : Option Addr} {len : Nat} {ls : List (List Sp.S)} (h : RRow w a len ls) (hb : RowKit.Below w.heap.size w w') : RRow w' a len ls := by
  obtain ⟨ts, h1, h2⟩ := h.ex
  exact ⟨ts, h1.later hb, h2.later hb⟩

theorem grow_nil (n : Nat) (w : World) (hn : n ≤ 100000) :
    Calls Tryz.prog 62 #[.slice none 0 0, .int .i64 n] w fun e w' => ∃ v, e = .returned v ∧ EOwn ES w' w.heap.size v [] ∧ RowKit.Below w.heap.size w w' := by
  by_cases h0 : n = 0
  · subst h0
    exact (Any8.slices_Grow_room Tryz.Lays8n4 none 0 0 0 w (by omega) (by omega) (by omega) (by omega)).mono fun e w' ⟨h1, h2⟩ => ⟨_, h1, EOwn.nil _ _, by rw [h2]; exact RowKit.Below.refl _ _⟩
  · refine (Any8.slices_Grow_grow Tryz.Lays8n4 Tryz.t44 (spv 0 0 0 ⟨#[]⟩ 0 0 0 ⟨#[]⟩ false false false) (by kernel_rfl) (by kernel_rfl) (of_decide_eq_true (by kernel_rfl)) none 0 0 n [] w (by omega) (by omega) ?_ (by omega) (by simp) (fun _ => rfl) (fun a e => nomatch e)).mono ?_
    · have : (Tryz.t44).bytes = 88 := by kernel_rfl
      rw [this]; omega
    · rintro e w' ⟨h1, h2⟩
      refine ⟨_, h1, ?_, ?_⟩
      · rw [h2]
        refine ⟨by simp [El.encs], .inr ⟨w.heap.size, _, _, rfl, Nat.le_refl _, heap_alloc_new _ _, Nat.zero_le _, grownCap_le_maxLen _ _ _ _ (by unfold maxLen; omega), ?_, by simp [El.encs]⟩⟩
        have hc := grownCap_ge w (0 + n) 0 44
        have h11 : (spv 0 0 0 ⟨#[]⟩ 0 0 0 ⟨#[]⟩ false false false).cells.size = 11 := rfl
        rw [Array.size_append, Array.size_append, size_zeroCells, size_zeroCells, h11]
        show 0 + (0 + n - 0) * 11 + (grownCap w (0 + n) 0 44 - (0 + n)) * 11 = grownCap w (0 + n) 0 44 * 11
        omega
      · rw [h2]; exact ((RowKit.Below.refl _ _).drew).alloc (Nat.le_refl _) _

theorem flat_take (ls : List (List Sp.S)) (k : Nat) (h : k < ls.length) : (ls.take (k + 1)).flatten = (ls.take k).flatten ++ ls[k] := by
  rw [List.take_succ_eq_append_getElem h, List.flatten_append]; simp
theorem flat_le (ls : List (List Sp.S)) (k : Nat) : (ls.take k).flatten.length ≤ ls.flatten.length := by
  have : ls.flatten = (ls.take k).flatten ++ (ls.drop k).flatten := by rw [← List.flatten_append, List.take_append_drop]
  rw [this, List.length_append]; omega
set_option maxHeartbeats 8000000 in
theorem concat_any (a : Option Addr) (n cap : Nat) (ls : List (List Sp.S)) (w : World) (hr : RRow w a n ls) (hn : n ≤ 9000) (hs : ls.flatten.length ≤ 90000) :
    Calls Tryz.prog 36 #[.slice a n cap] w fun e w' => ∃ v, e = .returned v ∧ EOwn ES w' w.heap.size v ls.flatten ∧ RowKit.Below w.heap.size w w' := by
  obtain ⟨ts, hts, hea⟩ := hr.ex
  have hlt := hts.n
  have hll : ls.length = n := by rw [← hea.len]; exact hlt
  have HT := hide hts
  have HE := hide hea
  have HG : Hid (∀ m : Nat, m ≤ 90000 → ∀ W, Calls Tryz.prog 62 #[.slice none 0 0, .int .i64 m] W fun e w' => ∃ v, e = .returned v ∧ EOwn ES w' W.heap.size v [] ∧ RowKit.Below W.heap.size W w') := fun m hm W => grow_nil m W (by omega)
  clear hts hea hr
  go_enter Tryz.func36, Tryz.ntmps36
  go_wp2_with fail
  go_loop [3, 11] (fun s i => ∃ (k m : Nat), k ≤ n ∧ i = .int .i64 k ∧ s = .int .i64 m ∧ Hid (m = (ls.take k).flatten.length)) (fun _ i => n - (RowKit.intOf i).toNat)
  case atStart => exact ⟨0, 0, by omega, rfl, rfl, by show _ = _; simp⟩
  case round =>
    obtain ⟨k, m, hk, rfl, rfl, HM⟩ := hrel
    have hm9 : m ≤ 90000 := by have := flat_le ls k; have := HM.out; omega
    by_cases hlt' : k < n
    · obtain ⟨b, off, rfl⟩ := HT.out.spot (by omega)
      have h1 : k < ts.length := by omega
      have h2 : k < ls.length := by omega
      have hc := HT.out.at_ k ts[k] (List.getElem?_eq_getElem h1) 0 _ rfl
      have hre := HE.out.at_ k h1 h2
      have hc' : w.cell? ⟨b, off + k, none⟩ = some ts[k].val := by
        have e : off + k * ER.k + 0 = off + k := by show off + k * 1 + 0 = off + k; omega
        rw [e] at hc; exact hc
      have hlen := hre.n
      have HM2 : Hid (m + ts[k].n = (ls.take (k + 1)).flatten.length) := by
        show _ = _
        rw [flat_take ls k h2, List.length_append, ← HM.out, hlen]
      have hm10 : m + ts[k].n ≤ 90000 := by have := flat_le ls (k + 1); have := HM2.out; omega
      clear hre hc HM
      generalize ts[k] = t at *
      obtain ⟨ta, tn, tc⟩ := t
      have i1 : (0 : Int) ≤ (k : Int) := by omega
      have i2 : (k : Int) < (n : Int) := by omega
      simp only at hm10 HM2
      have w1 : wrap64 ((m : Int) + (tn : Int)) = (m : Int) + (tn : Int) := by unfold wrap64; omega
      have w2 : ¬ ((m : Int) + (tn : Int) < 0) := by omega
      go_wp2_with fail
      exact ⟨⟨k + 1, m + tn, by omega, by go_num, by go_num, HM2⟩, by simp [RowKit.intOf]; omega⟩
    · have hd : decide ((k : Int) < (n : Int)) = false := by simp; omega
      go_wp2_with fail
      refine (HG.out m hm9 _).mono ?_
      rintro e w1 ⟨v1, rfl, o1, b1⟩
      clear HG hd hlt' HM
      go_wp2_with fail
      go_loopw [6, 27] (fun o i wr => ∃ j : Nat, j ≤ n ∧ i = .int .i64 j ∧ EOwn ES wr w.heap.size o (ls.take j).flatten ∧ RowKit.Below w.heap.size w wr) (fun _ i _ => n - (RowKit.intOf i).toNat)
      case atStart => exact ⟨0, by omega, rfl, by simpa using o1, b1⟩
      case round =>
        obtain ⟨j, hj, rfl, o2, hB⟩ := hrel
        by_cases hlt2 : j < n
        · obtain ⟨b, off, rfl⟩ := HT.out.spot (by omega)
          have h1 : j < ts.length := by omega
          have h2 : j < ls.length := by omega
          have hc := (HT.out.later hB).at_ j ts[j] (List.getElem?_eq_getElem h1) 0 _ rfl
          have hre := (HE.out.later hB).at_ j h1 h2
          have hc' : wr.cell? ⟨b, off + j, none⟩ = some ts[j].val := by
            have e : off + j * ER.k + 0 = off + j := by show off + j * 1 + 0 = off + j; omega
            rw [e] at hc; exact hc
          have hft := hide (flat_take ls j h2)
          have hlen : (ls.take j).flatten.length + ts[j].n ≤ 100000 := by
            have := flat_le ls (j + 1)
            rw [hft.out, List.length_append, hre.n] at this
            omega
          clear hc
          generalize ts[j] = t at *
          generalize ls[j] = lj at *
          obtain ⟨ta, tn, tc⟩ := t
          have i1 : (0 : Int) ≤ (j : Int) := by omega
          have i2 : (j : Int) < (n : Int) := by omega
          have HRE := hide hre
          have HO := hide o2
          have HBr := hide hB
          clear hre o2 hB
          go_wp2_with (refine wpList_eapp ES rfl _ _ rfl w.heap.size _ ((ls.take j).flatten) ta tn tc lj rfl rfl HO.out HRE.out hlen HBr.out.size ?_; intro v' w3 o3 g3 t3)
          go_roundw
          case rel => exact ⟨j + 1, by omega, by go_num, by rw [hft.out]; exact o3, HBr.out.grown g3 HBr.out.size (fun q e => (HO.out.low q e).1)⟩
          case measure => simp [RowKit.intOf]; omega
        · have hd : decide ((j : Int) < (n : Int)) = false := by simp; omega
          have e : ls.take j = ls := List.take_of_length_le (by omega)
          rw [e] at o2
          have HO := hide o2
          clear o2
          go_wp2_with fail
          go_ret
          exact ⟨_, rfl, HO.out, hB⟩
end Go.Proofs.YtninheehoabbbaaGreatDoor

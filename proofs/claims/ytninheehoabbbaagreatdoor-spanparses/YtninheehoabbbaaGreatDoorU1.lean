/-
  slices.IndexFunc, slices.ContainsFunc at texts, whatever function is handed in that leaves what was there as it was.
-/
import Derived.Test.YtninheehoabbbaaGreatDoorS1
import Derived.Test.YtninheehoabbbaaGreatDoorV9
namespace Go.Proofs.YtninheehoabbbaaGreatDoor
set_option linter.unusedSimpArgs false
set_option linter.unusedVariables false
open Go.RowKit Go.Vr Go.Sort Go.Tx Go.Lib
attribute [local go_sem] setCellDrewN allocDrewN

theorem take_getD (ws : List Bs) (k : Nat) (h : k < ws.length) : ws.take (k + 1) = ws.take k ++ [ws.getD k []] := by
  rw [List.take_add_one]
  simp [List.getD, List.getElem?_eq_getElem h]

set_option maxHeartbeats 2000000 in
set_option maxRecDepth 100000 in
theorem indexF_any (g : Nat) (lb : Array Value) (eg : ∀ args w, (callFunc g args).run Tryz.prog w = .ok (.enter g args) w) (p : Bs → Bool) (b off n cap : Nat) (ws : List Bs) (w : World) (hr : SRow w (some ⟨b, off, none⟩) n cap ws) (hn : n ≤ 10000)
    (hp : ∀ W x, x ∈ ws → Below w.heap.size w W → Calls Tryz.prog g (#[.string (str x)] ++ lb) W fun e w' => e = .returned (.bool (p x)) ∧ Below W.heap.size W w') :
    Calls Tryz.prog 155 #[.slice (some ⟨b, off, none⟩) n cap, .func (.func g) #[] lb] w fun e w' => ∃ k : Int, e = .returned (.int .i64 k) ∧ decide (0 ≤ k) = ws.any p ∧ Below w.heap.size w w' := by
  have hl := hr.n
  have HP : Hid _ := hp
  have HR : Hid _ := hr
  clear hp hr
  go_enter Tryz.func155, Tryz.ntmps155
  go_wp2_with fail
  go_loopw [5, 8] (fun _ i wr => ∃ k : Nat, k ≤ n ∧ i = .int .i64 k ∧ Hid ((ws.take k).any p = false) ∧ Below w.heap.size w wr) (fun _ i _ => n - (RowKit.intOf i).toNat)
  case atStart => exact ⟨0, by omega, rfl, rfl, Below.refl _ _⟩
  case round =>
    obtain ⟨k, hk, rfl, HA, hB⟩ := hrel
    by_cases hlt : k < n
    · obtain ⟨b2, off2, e, hc⟩ := HR.out.at_ (by omega)
      simp only [Option.some.injEq, Addr.mk.injEq, and_true] at e
      obtain ⟨rfl, rfl⟩ := e
      have hcell := cellLater hB (hc k hlt)
      have hm := getD_mem ws k (by omega)
      have HT : Hid _ := take_getD ws k (by omega)
      clear hc
      generalize ws.getD k [] = x at *
      have hcall := HP.out wr x hm hB
      have i1 : (0 : Int) ≤ (k : Int) := by omega
      have i2 : (k : Int) < (n : Int) := by omega
      cases hq : p x with
      | true =>
        have HF : Hid (ws.any p = true) := by
          show List.any _ _ = true
          rw [List.any_eq_true]; exact ⟨x, hm, hq⟩
        rw [hq] at hcall
        have HC := hide hcall
        clear hcall hq
        go_wp2_with fail
        refine HC.out.mono ?_
        rintro e w' ⟨rfl, hb⟩
        go_wp2_with fail
        go_ret
        exact ⟨_, rfl, by rw [HF.out]; simp, step hB hb⟩
      | false =>
        have HF : Hid ((ws.take (k + 1)).any p = false) := by
          show List.any _ _ = false
          rw [HT.out, List.any_append, HA.out]; simp [hq]
        rw [hq] at hcall
        have HC := hide hcall
        clear hcall hq
        go_wp2_with fail
        refine HC.out.mono ?_
        rintro e w' ⟨rfl, hb⟩
        go_wp2_with fail
        go_roundw
        case rel => exact ⟨k + 1, by omega, by go_num, HF, step hB hb⟩
        case measure => simp [RowKit.intOf]; omega
    · have hd : decide ((k : Int) < (n : Int)) = false := by simp; omega
      have HF : Hid (ws.any p = false) := by
        have := HA.out
        rw [List.take_of_length_le (by omega)] at this
        exact this
      go_wp2_with fail
      go_ret
      exact ⟨_, rfl, by rw [HF.out]; decide, hB⟩

set_option maxHeartbeats 2000000 in
set_option maxRecDepth 100000 in
theorem containsF_any (g : Nat) (lb : Array Value) (eg : ∀ args w, (callFunc g args).run Tryz.prog w = .ok (.enter g args) w) (p : Bs → Bool) (b off n cap : Nat) (ws : List Bs) (w : World) (hr : SRow w (some ⟨b, off, none⟩) n cap ws) (hn : n ≤ 10000)
    (hp : ∀ W x, x ∈ ws → Below w.heap.size w W → Calls Tryz.prog g (#[.string (str x)] ++ lb) W fun e w' => e = .returned (.bool (p x)) ∧ Below W.heap.size W w') :
    Calls Tryz.prog 131 #[.slice (some ⟨b, off, none⟩) n cap, .func (.func g) #[] lb] w fun e w' => e = .returned (.bool (ws.any p)) ∧ Below w.heap.size w w' := by
  have HI := hide <| indexF_any g lb eg p b off n cap ws w hr hn hp
  clear hp hr
  go_enter Tryz.func131, Tryz.ntmps131
  go_wp2_with fail
  refine HI.out.mono ?_
  rintro e w1 ⟨k, rfl, hk, hb⟩
  have HK : Hid _ := hk
  clear hk
  go_wp2_with fail
  go_ret
  exact ⟨ret_bool HK.out, hb⟩

end Go.Proofs.YtninheehoabbbaaGreatDoor

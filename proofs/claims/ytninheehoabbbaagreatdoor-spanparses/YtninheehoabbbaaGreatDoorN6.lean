/-
  slices.IndexFunc, slices.ContainsFunc at spans; contract of Has.
-/
import Derived.Test.YtninheehoabbbaaGreatDoorN5
namespace Go.Proofs.YtninheehoabbbaaGreatDoor
set_option linter.unusedSimpArgs false
set_option linter.unusedVariables false
open Go.RowKit Go.Vr Go.Sort Go.Tx Go.Lib
attribute [local go_sem] setCellDrewN allocDrewN

set_option maxHeartbeats 4000000 in
set_option maxRecDepth 100000 in
theorem sindexF_any (g : Nat) (lb : Array Value) (eg : ∀ args w, (callFunc g args).run Tryz.prog w = .ok (.enter g args) w) (p : Sp.S → Bool) (a : Option Addr) (n cap : Nat) (l : List Sp.S) (w : World) (hr : ERow ES w a n l) (hn : n ≤ 10000)
    (hp : ∀ W x, x ∈ l → Below w.heap.size w W → Calls Tryz.prog g (#[(pt x).val] ++ lb) W fun e w' => e = .returned (.bool (p x)) ∧ Below W.heap.size W w') :
    Calls Tryz.prog 58 #[.slice a n cap, .func (.func g) #[] lb] w fun e w' => ∃ k : Int, e = .returned (.int .i64 k) ∧ decide (0 ≤ k) = l.any p ∧ Below w.heap.size w w' := by
  have hl := hr.n
  have HP : Hid _ := hp
  have HR : Hid _ := hr
  clear hp hr
  go_enter Tryz.func58, Tryz.ntmps58
  go_wp2_with fail
  go_loopw [5, 8] (fun _ i wr => ∃ k : Nat, k ≤ n ∧ i = .int .i64 k ∧ Hid ((l.take k).any p = false) ∧ Below w.heap.size w wr) (fun _ i _ => n - (RowKit.intOf i).toNat)
  case atStart => exact ⟨0, by omega, rfl, rfl, Below.refl _ _⟩
  case round =>
    obtain ⟨k, hk, rfl, HA, hB⟩ := hrel
    by_cases hlt : k < n
    · obtain ⟨b, off, rfl⟩ := HR.out.spot (by omega)
      have hlk : k < l.length := by rw [HR.out.n]; exact hlt
      have hj : l[k]? = some l[k] := List.getElem?_eq_getElem hlk
      have hm := List.getElem_mem hlk
      obtain ⟨d0, d1, d2, d3, d4, d5, d6, d7, d8, d9, d10⟩ := ES_at (HR.out.later hB) k l[k] hj
      have HT : Hid (l.take (k + 1) = l.take k ++ [l[k]]) := by show _ = _; rw [List.take_succ_eq_append_getElem hlk]
      generalize l[k] = x at *
      have hcall := HP.out wr x hm hB
      have i1 : (0 : Int) ≤ (k : Int) := by omega
      have i2 : (k : Int) < (n : Int) := by omega
      cases hq : p x with
      | true =>
        have HF : Hid (l.any p = true) := by
          show List.any _ _ = true
          rw [List.any_eq_true]; exact ⟨x, hm, hq⟩
        rw [hq] at hcall
        have HC := hide hcall
        clear hcall hq hj hm HT
        generalize pt x = q at *
        go_wp2_with fail
        refine HC.out.mono ?_
        rintro e w' ⟨rfl, hb⟩
        clear HC d0 d1 d2 d3 d4 d5 d6 d7 d8 d9 d10
        go_wp2_with fail
        go_ret
        exact ⟨_, rfl, by rw [HF.out]; simp, step hB hb⟩
      | false =>
        have HF : Hid ((l.take (k + 1)).any p = false) := by
          show List.any _ _ = false
          rw [HT.out, List.any_append, HA.out]; simp [hq]
        rw [hq] at hcall
        have HC := hide hcall
        clear hcall hq hj hm HT
        generalize pt x = q at *
        go_wp2_with fail
        refine HC.out.mono ?_
        rintro e w' ⟨rfl, hb⟩
        clear HC d0 d1 d2 d3 d4 d5 d6 d7 d8 d9 d10
        go_wp2_with fail
        go_roundw
        case rel => exact ⟨k + 1, by omega, by go_num, HF, step hB hb⟩
        case measure => simp [RowKit.intOf]; omega
    · have hd : decide ((k : Int) < (n : Int)) = false := by simp; omega
      have HF : Hid (l.any p = false) := by
        have := HA.out
        rw [List.take_of_length_le (by omega)] at this
        exact this
      go_wp2_with fail
      go_ret
      exact ⟨_, rfl, by rw [HF.out]; decide, hB⟩

set_option maxHeartbeats 2000000 in
set_option maxRecDepth 100000 in
theorem scontainsF_any (g : Nat) (lb : Array Value) (eg : ∀ args w, (callFunc g args).run Tryz.prog w = .ok (.enter g args) w) (p : Sp.S → Bool) (a : Option Addr) (n cap : Nat) (l : List Sp.S) (w : World) (hr : ERow ES w a n l) (hn : n ≤ 10000)
    (hp : ∀ W x, x ∈ l → Below w.heap.size w W → Calls Tryz.prog g (#[(pt x).val] ++ lb) W fun e w' => e = .returned (.bool (p x)) ∧ Below W.heap.size W w') :
    Calls Tryz.prog 32 #[.slice a n cap, .func (.func g) #[] lb] w fun e w' => e = .returned (.bool (l.any p)) ∧ Below w.heap.size w w' := by
  have HI := hide <| sindexF_any g lb eg p a n cap l w hr hn hp
  clear hp hr
  go_enter Tryz.func32, Tryz.ntmps32
  go_wp2_with fail
  refine HI.out.mono ?_
  rintro e w1 ⟨k, rfl, hk, hb⟩
  have HK : Hid _ := hk
  clear hk
  go_wp2_with fail
  go_ret
  exact ⟨ret_bool HK.out, hb⟩

/-- Is a place in a span? -/
def inSp (c : Sp.C) (s : Sp.S) : Bool := decide (Sp.cmpC s.1 c ≤ 0) && decide (Sp.cmpC c s.2 < 0)
theorem has1_enters : ∀ args w, (callFunc 33 args).run Tryz.prog w = .ok (.enter 33 args) w := enters_of Tryz.func33 (by kernel_rfl) rfl
set_option maxHeartbeats 4000000 in
theorem has1_any (c : Sp.C) (hc : Sp.okC c) (N : Nat) (s : Sp.S) (hs : Sp.okS s) (w : World) (he : Env w) (X : Box w N (pl c).cells) :
    Calls Tryz.prog 33 #[(pt s).val, .pointer (some ⟨N, 0, none⟩)] w fun e w' => e = .returned (.bool (inSp c s)) ∧ Below w.heap.size w w' := by
  have CL : Hid (∀ W, Calls Tryz.prog 25 #[(pt s).val] W fun e w' => e = .returned (pl s.1).val ∧ Below W.heap.size W w') := fun W => by rw [← pl_val, ← pt_val]; exact low_any _ hs W
  have CH : Hid (∀ W, Calls Tryz.prog 26 #[(pt s).val] W fun e w' => e = .returned (pl s.2).val ∧ Below W.heap.size W w') := fun W => by rw [← pl_val, ← pt_val]; exact high_any _ W
  have C1 : Hid (∀ W, Below w.heap.size w W → Calls Tryz.prog 34 #[(pl s.1).val, (pl c).val] W fun e w' => e = .returned (.int .i64 (Sp.cmpC s.1 c)) ∧ Below W.heap.size W w') := fun W hW => by rw [← pl_val, ← pl_val]; exact ccmp_any _ _ hs.2.1 hc W (he.later hW)
  have C2 : Hid (∀ W, Below w.heap.size w W → Calls Tryz.prog 34 #[(pl c).val, (pl s.2).val] W fun e w' => e = .returned (.int .i64 (Sp.cmpC c s.2)) ∧ Below W.heap.size W w') := fun W hW => by rw [← pl_val, ← pl_val]; exact ccmp_any _ _ hc hs.2.2 W (he.later hW)
  have HI : Hid (inSp c s = (decide (Sp.cmpC s.1 c ≤ 0) && decide (Sp.cmpC c s.2 < 0))) := rfl
  generalize inSp c s = r at *
  generalize Sp.cmpC s.1 c = k1 at *
  generalize Sp.cmpC c s.2 = k2 at *
  clear hc hs he
  generalize pl c = u at *
  generalize pl s.1 = u1 at *
  generalize pl s.2 = u2 at *
  generalize pt s = q at *
  have HE2 : Hid (Below w.heap.size w (w.alloc (.cells #[.int .i64 q.a, .int .i64 q.b, .int .i64 q.c, .string q.p, .int .i64 q.a', .int .i64 q.b', .int .i64 q.c', .string q.p', .bool q.x, .bool q.y, .bool q.z] 44))) := (show Below w.heap.size w _ from (by repeat (first | with_reducible assumption | with_reducible exact Below.refl _ _ | with_reducible refine Below.setCell ?_ (by first | exact Nat.le_refl _ | (simp; done) | (simp; omega)) _ | with_reducible refine bal ?_ _ | with_reducible refine Below.alloc ?_ (by first | exact Nat.le_refl _ | (simp; done) | (simp; omega)) _ | with_reducible refine Below.drew ?_)))
  have XW := hide (X.alloc (.cells #[.int .i64 q.a, .int .i64 q.b, .int .i64 q.c, .string q.p, .int .i64 q.a', .int .i64 q.b', .int .i64 q.c', .string q.p', .bool q.x, .bool q.y, .bool q.z] 44))
  have SW := hide (Box.new w #[.int .i64 q.a, .int .i64 q.b, .int .i64 q.c, .string q.p, .int .i64 q.a', .int .i64 q.b', .int .i64 q.c', .string q.p', .bool q.x, .bool q.y, .bool q.z] 44)
  clear X
  by_cases hk : k1 ≤ 0
  · have hk2 : decide (k1 ≤ 0) = true := by simpa using hk
    go_enter Tryz.func33, Tryz.ntmps33
    go_wp2_with fail
    generalize w.alloc (.cells #[.int .i64 q.a, .int .i64 q.b, .int .i64 q.c, .string q.p, .int .i64 q.a', .int .i64 q.b', .int .i64 q.c', .string q.p', .bool q.x, .bool q.y, .bool q.z] 44) = W at *
    have KX : ∀ d os i, (grow (redrawn W d) os).cell? ⟨N, i, none⟩ = (u.cells)[i]? := fun d os => (XW.out.regrown d os).c
    have KS : ∀ d os i, (grow (redrawn W d) os).cell? ⟨w.heap.size, i, none⟩ = (#[.int .i64 q.a, .int .i64 q.b, .int .i64 q.c, .string q.p, .int .i64 q.a', .int .i64 q.b', .int .i64 q.c', .string q.p', .bool q.x, .bool q.y, .bool q.z] : Array Value)[i]? := fun d os => (SW.out.regrown d os).c
    refine wp_region_quiet_below mixed (by kernel_rfl) ?_
    quiet_step (fail)
    quiet_step (exact Calls.regrown_of (CL.out _))
    quiet_step (fail)
    quiet_step (exact Calls.regrown_of (C1.out _ (HE2.out.trans ((below_regrown W _ _).mono HE2.out.size))))
    quiet_step (fail)
    quiet_step (fail)
    quiet_step (fail)
    quiet_step (fail)
    quiet_step (exact Calls.regrown_of (CH.out _))
    quiet_step (exact Calls.regrown_of (C2.out _ (HE2.out.trans ((below_regrown W _ _).mono HE2.out.size))))
    quiet_step (fail)
    quiet_step (fail)
    quiet_step (fail)
    refine wpQuiet_nil ?_
    intro w1 hw1
    have hHeld := regrown_below hw1
    clear hw1 KX KS
    go_wp2_with fail
    go_ret
    exact ⟨ret_bool (by rw [HI.out]; simp [hk]), HE2.out.trans (hHeld.mono HE2.out.size)⟩
  · have hk2 : decide (k1 ≤ 0) = false := by simpa using hk
    have HK := hide hk2
    go_enter Tryz.func33, Tryz.ntmps33
    go_wp2_with fail
    generalize w.alloc (.cells #[.int .i64 q.a, .int .i64 q.b, .int .i64 q.c, .string q.p, .int .i64 q.a', .int .i64 q.b', .int .i64 q.c', .string q.p', .bool q.x, .bool q.y, .bool q.z] 44) = W at *
    have KX : ∀ d os i, (grow (redrawn W d) os).cell? ⟨N, i, none⟩ = (u.cells)[i]? := fun d os => (XW.out.regrown d os).c
    have KS : ∀ d os i, (grow (redrawn W d) os).cell? ⟨w.heap.size, i, none⟩ = (#[.int .i64 q.a, .int .i64 q.b, .int .i64 q.c, .string q.p, .int .i64 q.a', .int .i64 q.b', .int .i64 q.c', .string q.p', .bool q.x, .bool q.y, .bool q.z] : Array Value)[i]? := fun d os => (SW.out.regrown d os).c
    refine wp_region_quiet_below mixed (by kernel_rfl) ?_
    quiet_step (fail)
    quiet_step (exact Calls.regrown_of (CL.out _))
    quiet_step (fail)
    quiet_step (exact Calls.regrown_of (C1.out _ (HE2.out.trans ((below_regrown W _ _).mono HE2.out.size))))
    quiet_step (fail)
    quiet_step (fail)
    quiet_step (fail)
    quiet_step (fail)
    quiet_step (fail)
    quiet_step (fail)
    quiet_step (fail)
    quiet_step (fail)
    quiet_step (fail)
    refine wpQuiet_nil ?_
    intro w1 hw1
    have hHeld := regrown_below hw1
    clear hw1 KX KS
    go_wp2_with fail
    go_ret
    exact ⟨ret_bool (by rw [HI.out, HK.out]; rfl), HE2.out.trans (hHeld.mono HE2.out.size)⟩

set_option maxHeartbeats 4000000 in
theorem has_any (a : Option Addr) (n cap : Nat) (l : List Sp.S) (v : V) (w : World) (hr : ERow ES w a n l) (hn : n ≤ 10000) (ho : Sp.okL l) (hv : v.ok = true) (he : Env w) :
    Calls Tryz.prog 13 #[.slice a n cap, val v] w fun e w' => e = .returned (.bool (l.any (inSp (some (v, false))))) ∧ Below w.heap.size w w' := by
  have hc : Sp.okC (some (v, false)) := by rintro p h; obtain rfl := Option.some.inj h; exact hv
  have CC : Hid (∀ W N, Below w.heap.size w W → Box W N (pl (some (v, false))).cells → Calls Tryz.prog 32 #[.slice a n cap, .func (.func 33) #[] #[.pointer (some ⟨N, 0, none⟩)]] W fun e w' => e = .returned (.bool (l.any (inSp (some (v, false))))) ∧ Below W.heap.size W w') := fun W N hW X =>
    scontainsF_any _ _ has1_enters _ a n cap l W (hr.later hW) hn (fun W2 x hx h2 => has1_any _ hc N x (ho x hx) W2 (he.later (step hW h2)) (X.later h2))
  have CA : Hid (∀ W, Calls Tryz.prog 31 #[ver v.a v.b v.c v.p] W fun e w' => e = .returned (cutv v.a v.b v.c v.p false false) ∧ Below W.heap.size W w') := fun W => ahead_raw _ _ _ _ W
  clear hr ho hv he hc
  generalize l.any (inSp (some (v, false))) = r at *
  obtain ⟨x, y, z, p⟩ := v
  go_enter Tryz.func13, Tryz.ntmps13
  go_wp2_with fail
  refine (CA.out _).mono ?_
  rintro e w1 ⟨rfl, b1⟩
  have hW : Below w.heap.size w w1 := Below.trans ((by repeat (first | with_reducible assumption | with_reducible exact Below.refl _ _ | with_reducible refine Below.setCell ?_ (by first | exact Nat.le_refl _ | (simp; done) | (simp; omega)) _ | with_reducible refine bal ?_ _ | with_reducible refine Below.alloc ?_ (by first | exact Nat.le_refl _ | (simp; done) | (simp; omega)) _ | with_reducible refine Below.drew ?_))) (b1.mono (by simp))
  clear b1 CA
  go_wp2_with fail
  refine (CC.out _ w1.heap.size (by exact (by repeat (first | with_reducible assumption | with_reducible exact Below.refl _ _ | with_reducible refine Below.setCell ?_ (by first | exact Nat.le_refl _ | (simp; done) | (simp; omega)) _ | with_reducible refine bal ?_ _ | with_reducible refine Below.alloc ?_ (by first | exact Nat.le_refl _ | (simp; done) | (simp; omega)) _ | with_reducible refine Below.drew ?_))) (Box.new w1 _ _)).mono ?_
  rintro e w2 ⟨rfl, b2⟩
  have hW2 : Below w.heap.size w w2 := step (bal hW _) b2
  clear b2 CC
  go_wp2_with fail
  go_ret
  exact ⟨rfl, hW2⟩
end Go.Proofs.YtninheehoabbbaaGreatDoor

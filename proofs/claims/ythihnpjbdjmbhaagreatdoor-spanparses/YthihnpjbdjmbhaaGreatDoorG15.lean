/-
  slices.IndexFunc, slices.ContainsFunc at spans; contract of Has.
  No step of the machine takes back a draw: what a call ends in has drawn no less than what it began in. With it a contract that ends in 'Below' says that the world behind is the world ahead, some draws more, some blocks more.
-/
import Derived.Test.YthihnpjbdjmbhaaGreatDoorG14
import Derived.Lone
import Derived.RunT
import Derived.Lib.QuietBelow

namespace Go.Proofs.YthihnpjbdjmbhaaGreatDoor
set_option linter.unusedSimpArgs false
set_option linter.unusedVariables false
open Go.RowKit Go.Vr Go.Sort Go.Tx Go.Lib
attribute [local go_sem] setCellDrewN allocDrewN

set_option maxHeartbeats 4000000 in
set_option maxRecDepth 100000 in
theorem sindexF_any (g : Nat) (lb : Array Value) (eg : ∀ args w, (callFunc g args).run Tryz.prog w = .ok (.enter g args) w) (p : Sp.S → Bool) (a : Option Addr) (n cap : Nat) (l : List Sp.S) (w : World) (hr : ERow ES w a n l) (hn : n ≤ 10000)
    (hp : ∀ W x, x ∈ l → Below w.heap.size w W → Calls Tryz.prog g (#[(pt x).val] ++ lb) W fun e w' => e = .returned (.bool (p x)) ∧ Below W.heap.size W w') :
    Calls Tryz.prog 58 #[.slice a n cap, .func (.func g) #[] lb] w fun e w' => ∃ k : Int, e = .returned (.int .i64 k) ∧ decide (0 ≤ k) = l.any p ∧ Below w.heap.size w w' := by
  have hl := hr.n
  have HP : Hid _ := hp
  have HR : Hid _ := hr
  clear hp hr
  go_enter Tryz.func58, Tryz.ntmps58
  go_wp2_with fail
  go_loopw [5, 8] (fun _ i wr => ∃ k : Nat, k ≤ n ∧ i = .int .i64 k ∧ Hid ((l.take k).any p = false) ∧ Below w.heap.size w wr) (fun _ i _ => n - (RowKit.intOf i).toNat)
  case atStart => exact ⟨0, by omega, rfl, rfl, Below.refl _ _⟩
  case round =>
    obtain ⟨k, hk, rfl, HA, hB⟩ := hrel
    by_cases hlt : k < n
    · obtain ⟨b, off, rfl⟩ := HR.out.spot (by omega)
      have hlk : k < l.length := by rw [HR.out.n]; exact hlt
      have hj : l[k]? = some l[k] := List.getElem?_eq_getElem hlk
      have hm := List.getElem_mem hlk
      obtain ⟨d0, d1, d2, d3, d4, d5, d6, d7, d8, d9, d10⟩ := ES_at (HR.out.later hB) k l[k] hj
      have HT : Hid (l.take (k + 1) = l.take k ++ [l[k]]) := by show _ = _; rw [List.take_succ_eq_append_getElem hlk]
      generalize l[k] = x at *
      have hcall := HP.out wr x hm hB
      have i1 : (0 : Int) ≤ (k : Int) := by omega
      have i2 : (k : Int) < (n : Int) := by omega
      cases hq : p x with
      | true =>
        have HF : Hid (l.any p = true) := by
          show List.any _ _ = true
          rw [List.any_eq_true]; exact ⟨x, hm, hq⟩
        rw [hq] at hcall
        have HC := hide hcall
        clear hcall hq hj hm HT
        generalize pt x = q at *
        go_wp2_with fail
        refine HC.out.mono ?_
        rintro e w' ⟨rfl, hb⟩
        clear HC d0 d1 d2 d3 d4 d5 d6 d7 d8 d9 d10
        go_wp2_with fail
        go_ret
        exact ⟨_, rfl, by rw [HF.out]; simp, step hB hb⟩
      | false =>
        have HF : Hid ((l.take (k + 1)).any p = false) := by
          show List.any _ _ = false
          rw [HT.out, List.any_append, HA.out]; simp [hq]
        rw [hq] at hcall
        have HC := hide hcall
        clear hcall hq hj hm HT
        generalize pt x = q at *
        go_wp2_with fail
        refine HC.out.mono ?_
        rintro e w' ⟨rfl, hb⟩
        clear HC d0 d1 d2 d3 d4 d5 d6 d7 d8 d9 d10
        go_wp2_with fail
        go_roundw
        case rel => exact ⟨k + 1, by omega, by go_num, HF, step hB hb⟩
        case measure => simp [RowKit.intOf]; omega
    · have hd : decide ((k : Int) < (n : Int)) = false := by simp; omega
      have HF : Hid (l.any p = false) := by
        have := HA.out
        rw [List.take_of_length_le (by omega)] at this
        exact this
      go_wp2_with fail
      go_ret
      exact ⟨_, rfl, by rw [HF.out]; decide, hB⟩

set_option maxHeartbeats 2000000 in
set_option maxRecDepth 100000 in
theorem scontainsF_any (g : Nat) (lb : Array Value) (eg : ∀ args w, (callFunc g args).run Tryz.prog w = .ok (.enter g args) w) (p : Sp.S → Bool) (a : Option Addr) (n cap : Nat) (l : List Sp.S) (w : World) (hr : ERow ES w a n l) (hn : n ≤ 10000)
    (hp : ∀ W x, x ∈ l → Below w.heap.size w W → Calls Tryz.prog g (#[(pt x).val] ++ lb) W fun e w' => e = .returned (.bool (p x)) ∧ Below W.heap.size W w') :
    Calls Tryz.prog 32 #[.slice a n cap, .func (.func g) #[] lb] w fun e w' => e = .returned (.bool (l.any p)) ∧ Below w.heap.size w w' := by
  have HI := hide <| sindexF_any g lb eg p a n cap l w hr hn hp
  clear hp hr
  go_enter Tryz.func32, Tryz.ntmps32
  go_wp2_with fail
  refine HI.out.mono ?_
  rintro e w1 ⟨k, rfl, hk, hb⟩
  have HK : Hid _ := hk
  clear hk
  go_wp2_with fail
  go_ret
  exact ⟨ret_bool HK.out, hb⟩

/-- Is a place in a span? -/
def inSp (c : Sp.C) (s : Sp.S) : Bool := decide (Sp.cmpC s.1 c ≤ 0) && decide (Sp.cmpC c s.2 < 0)
theorem has1_enters : ∀ args w, (callFunc 33 args).run Tryz.prog w = .ok (.enter 33 args) w := enters_of Tryz.func33 (by kernel_rfl) rfl
set_option maxHeartbeats 4000000 in
theorem has1_any (c : Sp.C) (hc : Sp.okC c) (N : Nat) (s : Sp.S) (hs : Sp.okS s) (w : World) (he : Env w) (X : Box w N (pl c).cells) :
    Calls Tryz.prog 33 #[(pt s).val, .pointer (some ⟨N, 0, none⟩)] w fun e w' => e = .returned (.bool (inSp c s)) ∧ Below w.heap.size w w' := by
  have CL : Hid (∀ W, Calls Tryz.prog 25 #[(pt s).val] W fun e w' => e = .returned (pl s.1).val ∧ Below W.heap.size W w') := fun W => by rw [← pl_val, ← pt_val]; exact low_any _ hs W
  have CH : Hid (∀ W, Calls Tryz.prog 26 #[(pt s).val] W fun e w' => e = .returned (pl s.2).val ∧ Below W.heap.size W w') := fun W => by rw [← pl_val, ← pt_val]; exact high_any _ W
  have C1 : Hid (∀ W, Below w.heap.size w W → Calls Tryz.prog 34 #[(pl s.1).val, (pl c).val] W fun e w' => e = .returned (.int .i64 (Sp.cmpC s.1 c)) ∧ Below W.heap.size W w') := fun W hW => by rw [← pl_val, ← pl_val]; exact ccmp_any _ _ hs.2.1 hc W (he.later hW)
  have C2 : Hid (∀ W, Below w.heap.size w W → Calls Tryz.prog 34 #[(pl c).val, (pl s.2).val] W fun e w' => e = .returned (.int .i64 (Sp.cmpC c s.2)) ∧ Below W.heap.size W w') := fun W hW => by rw [← pl_val, ← pl_val]; exact ccmp_any _ _ hc hs.2.2 W (he.later hW)
  have HI : Hid (inSp c s = (decide (Sp.cmpC s.1 c ≤ 0) && decide (Sp.cmpC c s.2 < 0))) := rfl
  generalize inSp c s = r at *
  generalize Sp.cmpC s.1 c = k1 at *
  generalize Sp.cmpC c s.2 = k2 at *
  clear hc hs he
  generalize pl c = u at *
  generalize pl s.1 = u1 at *
  generalize pl s.2 = u2 at *
  generalize pt s = q at *
  have HE2 : Hid (Below w.heap.size w (w.alloc (.cells #[.int .i64 q.a, .int .i64 q.b, .int .i64 q.c, .string q.p, .int .i64 q.a', .int .i64 q.b', .int .i64 q.c', .string q.p', .bool q.x, .bool q.y, .bool q.z] 44))) := (show Below w.heap.size w _ from (by repeat (first | with_reducible assumption | with_reducible exact Below.refl _ _ | with_reducible refine Below.setCell ?_ (by first | exact Nat.le_refl _ | (simp; done) | (simp; omega)) _ | with_reducible refine bal ?_ _ | with_reducible refine Below.alloc ?_ (by first | exact Nat.le_refl _ | (simp; done) | (simp; omega)) _ | with_reducible refine Below.drew ?_)))
  have XW := hide (X.alloc (.cells #[.int .i64 q.a, .int .i64 q.b, .int .i64 q.c, .string q.p, .int .i64 q.a', .int .i64 q.b', .int .i64 q.c', .string q.p', .bool q.x, .bool q.y, .bool q.z] 44))
  have SW := hide (Box.new w #[.int .i64 q.a, .int .i64 q.b, .int .i64 q.c, .string q.p, .int .i64 q.a', .int .i64 q.b', .int .i64 q.c', .string q.p', .bool q.x, .bool q.y, .bool q.z] 44)
  clear X
  by_cases hk : k1 ≤ 0
  · have hk2 : decide (k1 ≤ 0) = true := by simpa using hk
    go_enter Tryz.func33, Tryz.ntmps33
    go_wp2_with fail
    generalize w.alloc (.cells #[.int .i64 q.a, .int .i64 q.b, .int .i64 q.c, .string q.p, .int .i64 q.a', .int .i64 q.b', .int .i64 q.c', .string q.p', .bool q.x, .bool q.y, .bool q.z] 44) = W at *
    have KX : ∀ d os i, (grow (redrawn W d) os).cell? ⟨N, i, none⟩ = (u.cells)[i]? := fun d os => (XW.out.regrown d os).c
    have KS : ∀ d os i, (grow (redrawn W d) os).cell? ⟨w.heap.size, i, none⟩ = (#[.int .i64 q.a, .int .i64 q.b, .int .i64 q.c, .string q.p, .int .i64 q.a', .int .i64 q.b', .int .i64 q.c', .string q.p', .bool q.x, .bool q.y, .bool q.z] : Array Value)[i]? := fun d os => (SW.out.regrown d os).c
    refine wp_region_quiet_below mixed (by kernel_rfl) ?_
    quiet_step (fail)
    quiet_step (exact Calls.regrown_of (CL.out _))
    quiet_step (fail)
    quiet_step (exact Calls.regrown_of (C1.out _ (HE2.out.trans ((below_regrown W _ _).mono HE2.out.size))))
    quiet_step (fail)
    quiet_step (fail)
    quiet_step (fail)
    quiet_step (fail)
    quiet_step (exact Calls.regrown_of (CH.out _))
    quiet_step (exact Calls.regrown_of (C2.out _ (HE2.out.trans ((below_regrown W _ _).mono HE2.out.size))))
    quiet_step (fail)
    quiet_step (fail)
    quiet_step (fail)
    refine wpQuiet_nil ?_
    intro w1 hw1
    have hHeld := regrown_below hw1
    clear hw1 KX KS
    go_wp2_with fail
    go_ret
    exact ⟨ret_bool (by rw [HI.out]; simp [hk]), HE2.out.trans (hHeld.mono HE2.out.size)⟩
  · have hk2 : decide (k1 ≤ 0) = false := by simpa using hk
    have HK := hide hk2
    go_enter Tryz.func33, Tryz.ntmps33
    go_wp2_with fail
    generalize w.alloc (.cells #[.int .i64 q.a, .int .i64 q.b, .int .i64 q.c, .string q.p, .int .i64 q.a', .int .i64 q.b', .int .i64 q.c', .string q.p', .bool q.x, .bool q.y, .bool q.z] 44) = W at *
    have KX : ∀ d os i, (grow (redrawn W d) os).cell? ⟨N, i, none⟩ = (u.cells)[i]? := fun d os => (XW.out.regrown d os).c
    have KS : ∀ d os i, (grow (redrawn W d) os).cell? ⟨w.heap.size, i, none⟩ = (#[.int .i64 q.a, .int .i64 q.b, .int .i64 q.c, .string q.p, .int .i64 q.a', .int .i64 q.b', .int .i64 q.c', .string q.p', .bool q.x, .bool q.y, .bool q.z] : Array Value)[i]? := fun d os => (SW.out.regrown d os).c
    refine wp_region_quiet_below mixed (by kernel_rfl) ?_
    quiet_step (fail)
    quiet_step (exact Calls.regrown_of (CL.out _))
    quiet_step (fail)
    quiet_step (exact Calls.regrown_of (C1.out _ (HE2.out.trans ((below_regrown W _ _).mono HE2.out.size))))
    quiet_step (fail)
    quiet_step (fail)
    quiet_step (fail)
    quiet_step (fail)
    quiet_step (fail)
    quiet_step (fail)
    quiet_step (fail)
    quiet_step (fail)
    quiet_step (fail)
    refine wpQuiet_nil ?_
    intro w1 hw1
    have hHeld := regrown_below hw1
    clear hw1 KX KS
    go_wp2_with fail
    go_ret
    exact ⟨ret_bool (by rw [HI.out, HK.out]; rfl), HE2.out.trans (hHeld.mono HE2.out.size)⟩

set_option maxHeartbeats 4000000 in
theorem has_any (a : Option Addr) (n cap : Nat) (l : List Sp.S) (v : V) (w : World) (hr : ERow ES w a n l) (hn : n ≤ 10000) (ho : Sp.okL l) (hv : v.ok = true) (he : Env w) :
    Calls Tryz.prog 13 #[.slice a n cap, val v] w fun e w' => e = .returned (.bool (l.any (inSp (some (v, false))))) ∧ Below w.heap.size w w' := by
  have hc : Sp.okC (some (v, false)) := by rintro p h; obtain rfl := Option.some.inj h; exact hv
  have CC : Hid (∀ W N, Below w.heap.size w W → Box W N (pl (some (v, false))).cells → Calls Tryz.prog 32 #[.slice a n cap, .func (.func 33) #[] #[.pointer (some ⟨N, 0, none⟩)]] W fun e w' => e = .returned (.bool (l.any (inSp (some (v, false))))) ∧ Below W.heap.size W w') := fun W N hW X =>
    scontainsF_any _ _ has1_enters _ a n cap l W (hr.later hW) hn (fun W2 x hx h2 => has1_any _ hc N x (ho x hx) W2 (he.later (step hW h2)) (X.later h2))
  have CA : Hid (∀ W, Calls Tryz.prog 31 #[ver v.a v.b v.c v.p] W fun e w' => e = .returned (cutv v.a v.b v.c v.p false false) ∧ Below W.heap.size W w') := fun W => ahead_raw _ _ _ _ W
  clear hr ho hv he hc
  generalize l.any (inSp (some (v, false))) = r at *
  obtain ⟨x, y, z, p⟩ := v
  go_enter Tryz.func13, Tryz.ntmps13
  go_wp2_with fail
  refine (CA.out _).mono ?_
  rintro e w1 ⟨rfl, b1⟩
  have hW : Below w.heap.size w w1 := Below.trans ((by repeat (first | with_reducible assumption | with_reducible exact Below.refl _ _ | with_reducible refine Below.setCell ?_ (by first | exact Nat.le_refl _ | (simp; done) | (simp; omega)) _ | with_reducible refine bal ?_ _ | with_reducible refine Below.alloc ?_ (by first | exact Nat.le_refl _ | (simp; done) | (simp; omega)) _ | with_reducible refine Below.drew ?_))) (b1.mono (by simp))
  clear b1 CA
  go_wp2_with fail
  refine (CC.out _ w1.heap.size (by exact (by repeat (first | with_reducible assumption | with_reducible exact Below.refl _ _ | with_reducible refine Below.setCell ?_ (by first | exact Nat.le_refl _ | (simp; done) | (simp; omega)) _ | with_reducible refine bal ?_ _ | with_reducible refine Below.alloc ?_ (by first | exact Nat.le_refl _ | (simp; done) | (simp; omega)) _ | with_reducible refine Below.drew ?_))) (Box.new w1 _ _)).mono ?_
  rintro e w2 ⟨rfl, b2⟩
  have hW2 : Below w.heap.size w w2 := step (bal hW _) b2
  clear b2 CC
  go_wp2_with fail
  go_ret
  exact ⟨rfl, hW2⟩
end Go.Proofs.YthihnpjbdjmbhaaGreatDoor

namespace Go
set_option linter.unusedVariables false
open Go.Sort Go.RowKit

def Result.up {α : Type} (d : Nat) : Result α → Prop
  | .ok _ w => d ≤ w.drawn
  | .halt _ w => d ≤ w.drawn

theorem World.ask_up {α : Type} : ∀ (q : Ask α) (w : World), w.drawn ≤ (w.ask q).2.drawn
  | .done a, w => Nat.le_refl _
  | .ask what range k, w => by
    unfold World.ask
    simp only []
    split
    · exact World.ask_up _ w
    · exact Nat.le_trans (Nat.le_succ _) (World.ask_up _ { w with drawn := w.drawn + 1 })

theorem World.sys_up (w : World) (c : Sys) : w.drawn ≤ (w.sys c).2.drawn := by
  have h := World.ask_up (Kernel.perform c w.os) w
  unfold World.sys
  split
  · exact Nat.le_refl _
  · rename_i e
    rw [e] at h
    exact h

theorem World.viewStore_up {p : Program} {w w' : World} {a : Addr} {u : TypeId} {k : Addr} {v : Value} {b : Bool} {l : List Addr} (h : w.viewStore p a u k v b = .ok (w', l)) : w'.drawn = w.drawn := by
  unfold World.viewStore at h
  simp only [bind, Except.bind, pure, Except.pure] at h
  repeat' first
    | (simp at h; done)
    | (simp only [Except.ok.injEq, Prod.mk.injEq] at h; obtain ⟨rfl, _⟩ := h; rfl)
    | split at h

theorem World.farStore_up {p : Program} {w w' : World} {a : Addr} {v : Value} {b : Bool} {l : List Addr} (h : w.farStore p a v b = .ok (w', l)) : w'.drawn = w.drawn := by
  unfold World.farStore at h
  split at h
  · split at h
    · rename_i e
      simp only [Except.ok.injEq] at h
      subst h
      exact World.viewStore_up e
    · simp at h
  · simp at h

theorem Sem.run_up {α : Type} (p : Program) : ∀ (s : Sem α) (w : World), (s.run p w).up w.drawn := by
  intro s
  induction s with
  | pure a => intro w; exact Nat.le_refl _
  | load m a k ih =>
    intro w
    unfold Sem.run
    split
    · exact ih _ w
    · split
      · exact ih _ w
      · exact Nat.le_refl _
  | store m a v k ih =>
    intro w
    have key : (match w.cell? a with
      | some _ => if w.frozen? a then Result.halt (.unsupported (.unsafePointer "a write to bytes that a string shares")) w else k.run p (w.setCell a v)
      | none => match w.farStore p a v (m == Mode.atomic) with
        | .ok (w, _) => k.run p w
        | .error h => .halt h w).up w.drawn := by
      split
      · split
        · exact Nat.le_refl _
        · exact ih (w.setCell a v)
      · split
        · rename_i e
          have h := World.farStore_up e
          rw [← h]
          exact ih _
        · exact Nat.le_refl _
    cases v <;> first | exact Nat.le_refl _ | exact key
  | new o k ih => intro w; exact ih _ { w with heap := w.heap.push o }
  | shape r k ih => intro w; exact ih _ w
  | freeze a n k ih =>
    intro w
    have h : (w.freeze a n).drawn = w.drawn := by unfold World.freeze; split <;> rfl
    have := ih (w.freeze a n)
    rw [h] at this
    exact this
  | frozen a k ih => intro w; exact ih _ w
  | getObj r k ih =>
    intro w
    unfold Sem.run
    split
    · exact Nat.le_refl _
    · exact ih _ w
    · exact Nat.le_refl _
  | setObj r o k ih =>
    intro w
    unfold Sem.run
    split
    · exact Nat.le_refl _
    · exact ih { w with heap := w.heap.setIfInBounds r o }
    · exact Nat.le_refl _
  | choose q k ih =>
    intro w
    unfold Sem.run
    split
    · exact ih _ w
    · have := ih (q.cut (w.tape w.drawn q)) { w with drawn := w.drawn + 1 }
      revert this
      cases (k (q.cut (w.tape w.drawn q))).run p { w with drawn := w.drawn + 1 } <;> exact fun h => Nat.le_trans (Nat.le_succ _) h
  | sys c k ih =>
    intro w
    have h := World.sys_up w c
    have := ih (w.sys c).1 (w.sys c).2
    show ((k (w.sys c).1).run p (w.sys c).2).up w.drawn
    revert this
    cases (k (w.sys c).1).run p (w.sys c).2 <;> exact fun h' => Nat.le_trans h h'
  | program k ih => intro w; exact ih p w
  | mark m k ih => intro w; exact ih w
  | halt h => intro w; exact Nat.le_refl _

theorem run_ok {α : Type} {p : Program} {s : Sem α} {w w' : World} {a : α} (h : s.run p w = .ok a w') : w.drawn ≤ w'.drawn := by
  have := Sem.run_up p s w
  rw [h] at this; exact this
theorem run_halt {α : Type} {p : Program} {s : Sem α} {w w' : World} {x : Halt} (h : s.run p w = .halt x w') : w.drawn ≤ w'.drawn := by
  have := Sem.run_up p s w
  rw [h] at this; exact this
theorem runT_up {α : Type} (p : Program) (s : Sem α) (w : World) (es : Array Event) : ((s.runT p w es).1).up w.drawn := by
  rw [Sem.runT_fst]; exact Sem.run_up p s w

/-- Of a goroutine's step, of the machine's. -/
def GStep.up (d : Nat) : GStep → Prop
  | .go _ w _ => d ≤ w.drawn
  | .comm _ _ _ _ w _ => d ≤ w.drawn
  | .spawn _ _ w _ => d ≤ w.drawn
  | .count _ w _ => d ≤ w.drawn
  | .timer _ _ w _ => d ≤ w.drawn
  | .alone _ _ w _ => d ≤ w.drawn
  | .newcoro _ _ _ w _ => d ≤ w.drawn
  | .coroswitch _ _ _ w _ => d ≤ w.drawn
  | .collect _ w _ => d ≤ w.drawn
  | .watch _ w _ => d ≤ w.drawn
  | .ended _ _ _ => True
theorem GStep.up_after {d : Nat} (es : Array Event) (s : GStep) (h : s.up d) : (GStep.after es s).up d := by cases s <;> exact h
theorem GStep.up_trans {d d' : Nat} {s : GStep} (h : d ≤ d') (k : s.up d') : s.up d := by
  cases s <;> first | exact trivial | exact Nat.le_trans h k

def Stepped.up (d : Nat) : Stepped → Prop
  | .next m => d ≤ m.world.drawn
  | .ended _ _ => True

theorem endWith_up (w : World) (fd : Nat) (text : ByteArray) (o : Outcome) (d : Nat) : (endWith w fd text o).up d := by
  unfold endWith
  simp only []
  repeat' first
    | exact trivial
    | split
theorem endThrow_up (fr : Frame) (m : String) (w : World) : (endThrow fr m w).up w.drawn := Nat.le_refl _
theorem dieOf_up (fr : Frame) (a : List ByteArray) (m : String) (b : Bool) (w : World) : (dieOf fr a m b w).up w.drawn := Nat.le_refl _
theorem endPrinting_up (p : Program) (fr : Frame) (v : Value) (w : World) : (endPrinting p fr v w).up w.drawn := by
  unfold endPrinting
  simp only []
  split
  · exact endThrow_up _ _ _
  · exact trivial
theorem endFatal_up (p : Program) (fr : Frame) (cs : List Frame) (dy : Option Dying) (m : String) (w : World) : (endFatal p fr cs dy m w).up w.drawn := by
  unfold endFatal
  simp only []
  split
  · rename_i e; exact GStep.up_trans (run_ok e) (dieOf_up _ _ _ _ _)
  · exact trivial
  · exact trivial
theorem writeOn_up (p : Program) (fr : Frame) (d : Dying) (f : Fatal) (w : World) : (writeOn p fr d f w).up w.drawn := by
  unfold writeOn
  simp only []
  split
  · exact trivial
  · split
    · rename_i e; have h := congrArg Prod.fst e; rw [Sem.runT_fst] at h; exact run_ok h
    · rename_i e; have h := congrArg Prod.fst e; rw [Sem.runT_fst] at h; exact run_halt h
    · exact trivial
    · exact trivial
theorem die_up (p : Program) (fr : Frame) (d : Dying) (w : World) : (die p fr d w).up w.drawn := by
  unfold die
  simp only [Sem.runT_fst]
  repeat' first
    | exact trivial
    | exact Nat.le_refl _
    | exact endWith_up _ _ _ _ _
    | exact writeOn_up _ _ _ _ _
    | (rename_i e; exact run_ok e)
    | (apply GStep.up_after)
    | (rename_i e; exact GStep.up_trans (run_halt e) (endPrinting_up _ _ _ _))
    | split
theorem doReturn_up (p : Program) (main : Bool) (fr : Frame) (cs : List Frame) (dy : Option Dying) (v : Value) (w : World) : (doReturn p main fr cs dy v w).up w.drawn := by
  unfold doReturn
  simp only []
  repeat' first
    | exact trivial
    | exact Nat.le_refl _
    | split
theorem early_up (p : Program) (fr : Frame) (cs : List Frame) (dy : Option Dying) (g : Nat) (w : World) : (early p fr cs dy g w).up w.drawn := by
  unfold early
  simp only []
  repeat' first
    | exact trivial
    | exact Nat.le_refl _
    | (rename_i e; exact run_ok e)
    | (rename_i e _ _ _; exact run_ok e)
    | (rename_i e _ _ _ _; have h := run_ok e; exact h)
    | (rename_i e _; exact run_ok e)
    | split
theorem callDeferred_up (p : Program) (fr : Frame) (cs : List Frame) (dy : Option Dying) (d : Deferred) (w : World) : (callDeferred p fr cs dy d w).up w.drawn := by
  unfold callDeferred
  simp only [Sem.runT_fst]
  have key := Sem.run_up p (invoke d.target d.args) w
  revert key
  generalize (invoke d.target d.args).run p w = r
  generalize ((invoke d.target d.args).runT p w #[]).2 = es0
  intro key
  generalize ((match d.target with | .nil => true | _ => false) && (match fr.mode with | .panicking _ => true | _ => false)) = c
  repeat' first
    | exact trivial
    | exact key
    | exact GStep.up_trans key (endFatal_up _ _ _ _ _ _)
    | exact GStep.up_trans key (endThrow_up _ _ _)
    | (apply GStep.up_after)
    | split
theorem unwind_up (p : Program) (main : Bool) (fr : Frame) (cs : List Frame) (dy : Option Dying) (w : World) : (unwind p main fr cs dy w).up w.drawn := by
  unfold unwind
  simp only [Sem.runT_fst]
  repeat' first
    | exact trivial
    | exact Nat.le_refl _
    | exact callDeferred_up _ _ _ _ _ _
    | exact doReturn_up _ _ _ _ _ _ _
    | exact endPrinting_up _ _ _ _
    | (rename_i e; exact run_ok e)
    | (rename_i e; exact GStep.up_trans (run_ok e) (doReturn_up _ _ _ _ _ _ _))
    | (apply GStep.up_after)
    | split

theorem elim_up {α : Type} {d : Nat} {o : Option α} {a : GStep} {f : α → GStep} (ha : a.up d) (hf : ∀ k, (f k).up d) : (o.elim a f).up d := by
  cases o with
  | none => exact ha
  | some k => exact hf k

section
variable (p : Program) (listen : Bool)
theorem apply_up (fr : Frame) (cs : List Frame) (dy : Option Dying) (s : Sem Next) (w : World) : (stepG.apply p listen fr cs dy s w).up w.drawn := by
  have key := Sem.run_up p s w
  have e : (if listen = true then s.runT p w #[] else (s.run p w, #[])) = (s.run p w, (if listen = true then s.runT p w #[] else (s.run p w, #[])).2) := by
    split
    · rw [← Sem.runT_fst p s w #[]]
    · rfl
  unfold stepG.apply
  simp only []
  rw [e]
  generalize (if listen = true then s.runT p w #[] else (s.run p w, #[])).2 = es0
  revert key
  generalize s.run p w = r
  intro key
  simp only []
  apply GStep.up_after
  repeat' first
    | exact trivial
    | exact key
    | exact GStep.up_trans key (endFatal_up _ _ _ _ _ _)
    | exact GStep.up_trans key (endThrow_up _ _ _)
    | exact GStep.up_trans key (early_up _ _ _ _ _ _)
    | split
theorem oper_up (fr : Frame) (cs : List Frame) (dy : Option Dying) (w : World) : (stepG.oper p listen fr cs dy w).up w.drawn := by
  unfold stepG.oper
  repeat' first
    | exact trivial
    | exact apply_up _ _ _ _ _ _ _
    | split
theorem exec_up (main : Bool) (fr : Frame) (cs : List Frame) (dy : Option Dying) (w : World) : (stepG.exec p main listen fr cs dy w).up w.drawn := by
  have hl : ∀ (jump : Option Code), (match fr.roundOf with
      | none => if (match jump with | none => true | some .ret => true | _ => false) = true then GStep.go { frame := { fr with mode := .returning }, callers := cs, status := .running, dying := dy } w else .ended (.stuck "exit, goto: no such block or label" (fr.pos p)) w
      | some l =>
        GStep.after (seen p fr.fn ((Instr.endRound l jump).runT p w #[]).2) <| match ((Instr.endRound l jump).runT p w #[]).1 with
        | .ok v w => doReturn p main fr cs dy v w
        | .halt _ w => .ended (.stuck "range over a function: no such loop" (fr.pos p)) w).up w.drawn := by
    intro jump
    repeat' first
      | exact trivial
      | exact Nat.le_refl _
      | (rename_i e; rw [Sem.runT_fst] at e; exact GStep.up_trans (run_ok e) (doReturn_up _ _ _ _ _ _ _))
      | (apply GStep.up_after)
      | split
  unfold stepG.exec
  simp only [Sem.runT_fst] at hl ⊢
  repeat' first
    | exact trivial
    | exact Nat.le_refl _
    | exact hl none
    | exact hl (some .ret)
    | exact apply_up _ _ _ _ _ _ _
    | exact oper_up _ _ _ _ _ _
    | (rename_i e; exact GStep.up_trans (run_ok e) (apply_up _ _ _ _ _ _ _))
    | (rename_i e; exact GStep.up_trans (run_ok e) (doReturn_up _ _ _ _ _ _ _))
    | (rename_i e; have h := run_ok e; exact h)
    | (rename_i e; have h := run_halt e; exact h)
    | (refine elim_up ?_ fun k => ?_)
    | (apply GStep.up_after)
    | split
theorem stepG_up (main : Bool) (g : Goroutine) (w : World) : (stepG p main g w listen).up w.drawn := by
  unfold stepG
  simp only []
  split
  · exact die_up _ _ _ _
  · exact exec_up _ _ _ _ _ _ _
  · exact unwind_up _ _ _ _ _ _
end

theorem Stepped.up_trans {d d' : Nat} {s : Stepped} (h : d ≤ d') (k : s.up d') : s.up d := by
  cases s <;> first | exact trivial | exact Nat.le_trans h k
theorem waitingAt_up {rest : Rest} {cs : Array CommCase} {w w' : World} (e : waitingAt rest cs w = some w') : w.drawn ≤ w'.drawn := by
  unfold waitingAt at e
  repeat' first
    | (simp at e; done)
    | (simp only [Option.some.injEq] at e; subst e; exact Nat.le_refl _)
    | split at e
theorem communicate_up (p : Program) (rest : Rest) (gs : Array Goroutine) (i : Nat) (g : Goroutine) (cases : Array CommCase) (blocking : Bool) (shape : CommShape) (w : World) : (communicate p rest gs i g cases blocking shape w).1.up w.drawn := by
  unfold communicate
  simp only []
  split
  · exact trivial
  split
  · split
    · split
      · rename_i e; exact waitingAt_up e
      · exact trivial
    · exact Nat.le_refl _
  split
  · exact trivial
  · rename_i e
    refine Stepped.up_trans (run_ok e) ?_
    clear e
    repeat' first
      | exact trivial
      | exact Nat.le_refl _
      | (rename_i e; have h := run_ok e; exact h)
      | (rename_i e; have h := run_halt e; exact h)
      | split
theorem look_up (p : Program) (gs : Array Goroutine) (rest : Rest) (w : World) : (look p gs rest w).up w.drawn := by
  unfold look
  simp only []
  repeat' first
    | exact trivial
    | (rename_i e; have h := run_ok e; exact h)
    | split
theorem drain_up (w : World) (c : Nat) : (drain w c).2.drawn = w.drawn := by
  unfold drain
  split <;> rfl
theorem retime_up (m : Machine) (k : Nat) (t : Timer) (a b : Nat) : (retime m k t a b).2.world.drawn = m.world.drawn := by
  unfold retime
  simp only []
  cases t.chan with
  | none => rfl
  | some c => exact drain_up m.world c
theorem timerOp_up (m m' : Machine) (op : TimerOp) (v : Value) (h : timerOp m op = .ok (v, m')) : m'.world.drawn = m.world.drawn := by
  cases op with
  | new t =>
    simp only [timerOp] at h
    repeat' first
      | (simp at h; done)
      | (simp only [Except.ok.injEq, Prod.mk.injEq] at h; obtain ⟨_, rfl⟩ := h; rfl)
      | split at h
  | stop var =>
    simp only [timerOp, timerOp.named] at h
    split at h
    · simp only [Except.ok.injEq] at h
      rename_i k _
      have := retime_up m k (m.rest.timers.getD k default) 0 (m.rest.timers.getD k default).period
      rw [h] at this; exact this
    · simp at h
  | reset var a b =>
    simp only [timerOp] at h
    split at h
    · rename_i m1 e
      have e1 : m1.world.drawn = m.world.drawn := by
        unfold timerOp.opened at e
        repeat' first | (simp at e; done) | (simp only [Option.some.injEq] at e; subst e; rfl) | split at e
      unfold timerOp.named at h
      split at h
      · simp only [Except.ok.injEq] at h
        rename_i k _
        have := retime_up m1 k (m.rest.timers.getD k default) a b
        rw [h] at this; rw [← e1]; exact this
      · simp at h
    · simp at h
  | deadline c r w' t =>
    simp only [timerOp, Except.ok.injEq, Prod.mk.injEq] at h
    obtain ⟨_, rfl⟩ := h
    rfl

theorem runT_next {p : Program} {m m' : Machine} {i : Nat} {b : Bool} (h : (runT p m i b).1 = .next m') : m.world.drawn ≤ m'.world.drawn := by
  simp only [runT] at h
  have key := stepG_up p b (i == 0) (m.gs.swapAt! i { (default : Goroutine) with status := .finished }).1 m.world
  revert key h
  generalize m.gs.swapAt! _ _ = gg
  generalize stepG p _ gg.1 m.world b = s
  intro h key
  cases s <;> simp only [] at h
  all_goals first
    | (simp at h; done)
    | (have k2 := communicate_up p m.rest gg.2 i ‹_› ‹_› ‹_› ‹_› ‹_›; rw [h] at k2; exact Nat.le_trans key k2)
    | (have k2 := look_up p (gg.2.setIfInBounds i ‹_›) m.rest ‹_›; rw [h] at k2; exact Nat.le_trans key k2)
    | (simp only [Stepped.next.injEq] at h; subst h; exact key)
    | (repeat' first
        | (simp at h; done)
        | (simp only [Stepped.next.injEq] at h; subst h; exact key)
        | (simp only [Stepped.next.injEq] at h; subst h; rename_i e; have k2 := timerOp_up _ _ _ _ e; simp only [] at k2; rw [k2]; exact key)
        | (rename_i e; simp only [endThrow, dieOf] at e; injection e with _ e; subst e; simp only [Stepped.next.injEq] at h; subst h; exact key)
        | split at h)
theorem serve_up {p : Program} {m m' : Machine} {k : Nat} (h : serve p m k = .next m') : m'.world.drawn = m.world.drawn := by
  unfold serve at h
  simp only [] at h
  repeat' first
    | (simp at h; done)
    | (simp only [Stepped.next.injEq] at h; subst h; rfl)
    | split at h

def Move.up (d : Nat) : Move → Prop
  | .goroutine m _ => d ≤ m.world.drawn
  | .machine s _ => s.up d
theorem Move.up_trans {d d' : Nat} {s : Move} (h : d ≤ d') (k : s.up d') : s.up d := by
  cases s with
  | goroutine m i => exact Nat.le_trans h k
  | machine s ops => exact Stepped.up_trans h k
theorem serve_up' (p : Program) (m : Machine) (k : Nat) : (serve p m k).up m.world.drawn := by
  cases h : serve p m k with
  | next m' => show _ ≤ _; rw [serve_up h]; exact Nat.le_refl _
  | ended o w => exact trivial
theorem askOn_up (p : Program) (m : Machine) : (askOn p m).up m.world.drawn := by
  unfold askOn
  simp only []
  split
  · exact trivial
  · rename_i e
    refine Move.up_trans (run_ok e) ?_
    clear e
    split
    · exact serve_up' _ _ _
    split
    · repeat' first
        | exact trivial
        | exact Nat.le_refl _
        | split
    · split
      · split
        · exact trivial
        · rename_i e
          have h1 := run_ok e
          clear e
          split
          · exact h1
          · split
            · exact trivial
            · rename_i e; have h2 := run_ok e; exact Nat.le_trans h1 h2
      · split
        · exact trivial
        · rename_i e
          refine Move.up_trans (run_ok e) ?_
          clear e
          split
          · exact trivial
          · rename_i e
            have h1 := run_ok e
            clear e
            split
            · exact h1
            · split
              · exact trivial
              · rename_i e; have h2 := run_ok e; exact Nat.le_trans h1 h2
        · rename_i e; have h1 := run_ok e; exact h1
        · rename_i e
          refine Move.up_trans (run_ok e) ?_
          clear e
          split
          · exact trivial
          · rename_i e
            have h1 := run_ok e
            clear e
            split
            · exact h1
            · split
              · exact trivial
              · rename_i e; have h2 := run_ok e; exact Nat.le_trans h1 h2
theorem ask_up (p : Program) (m : Machine) : (ask p m).up m.world.drawn := by
  unfold ask
  split
  · split
    · exact trivial
    · rename_i w e
      have h1 := run_ok e
      have h2 := look_up p m.gs m.rest w
      split
      · rename_i e2
        rw [e2] at h2
        exact Move.up_trans (Nat.le_trans h1 h2) (askOn_up p _)
      · exact Stepped.up_trans h1 h2
    · rename_i e; exact Move.up_trans (run_ok e) (askOn_up p _)
  · exact askOn_up p m
theorem move_up (p : Program) (m : Machine) : (move p m).up m.world.drawn := by
  unfold move
  repeat' first
    | exact trivial
    | exact Nat.le_refl _
    | exact ask_up p _
    | split
theorem step_up {p : Program} {m m' : Machine} (h : step p m = .next m') : m.world.drawn ≤ m'.world.drawn := by
  have k := move_up p m
  unfold step stepT at h
  split at h
  · rename_i e
    rw [e] at k
    exact Nat.le_trans k (runT_next h)
  · rename_i e
    rw [e] at k
    simp only [] at h
    subst h
    exact k
theorem Steps.up {P : Program} {m m' : Machine} (h : Steps P m m') : m.world.drawn ≤ m'.world.drawn := by
  obtain ⟨n, hn⟩ := h
  induction n generalizing m with
  | zero => simp only [runN, Stepped.next.injEq] at hn; rw [hn]; exact Nat.le_refl _
  | succ n ih =>
    simp only [runN] at hn
    cases hs : step P m with
    | next m1 => rw [hs] at hn; exact Nat.le_trans (step_up hs) (ih hn)
    | ended o w => rw [hs] at hn; simp at hn

/-- A contract that ends in a value: no draw is taken back. -/
theorem Calls.up {P : Program} {f : FuncId} {args : Array Value} {w : World} {R : Ending → World → Prop} (hr : ∀ e w', R e w' → ∃ v, e = .returned v) (h : Calls P f args w R) : Calls P f args w fun e w' => R e w' ∧ w.drawn ≤ w'.drawn := by
  intro cs
  obtain ⟨e, w', fr, r, c, hf, hl⟩ := h cs
  refine ⟨e, w', fr, ⟨r, ?_⟩, c, hf, hl⟩
  obtain ⟨v, rfl⟩ := hr e w' r
  have s : Steps P (lone (Frame.enter P f args .normal) cs w) (lone fr cs w') := c
  exact s.up
/-- 'Below', with that: some draws more, some blocks more. -/
theorem grown_of_below {w w' : World} (h : Below w.heap.size w w') (hd : w.drawn ≤ w'.drawn) : ∃ q os, w' = grow (w.drewN q) os := by
  obtain ⟨p, hp⟩ := regrown_of_below h
  have e : w'.drawn = p.d := by rw [hp]; rfl
  refine ⟨p.d - w.drawn, p.os, ?_⟩
  rw [hp]
  have e2 : w.drawn + (p.d - w.drawn) = p.d := by omega
  unfold World.drewN redrawn
  rw [e2]
theorem Calls.grown {P : Program} {f : FuncId} {args : Array Value} {w : World} {v : Value} (h : Calls P f args w fun e w' => e = .returned v ∧ Below w.heap.size w w') :
    Calls P f args w fun e w' => e = .returned v ∧ ∃ q os, w' = grow (w.drewN q) os :=
  (Calls.up (fun e w' k => ⟨v, k.1⟩) h).mono fun e w' ⟨⟨h1, h2⟩, h3⟩ => ⟨h1, grown_of_below h2 h3⟩

end Go

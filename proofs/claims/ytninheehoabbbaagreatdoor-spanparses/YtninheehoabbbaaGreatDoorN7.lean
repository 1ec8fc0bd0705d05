/-
  slices.SortFunc at spans, by where they begin.
-/
import Derived.Test.YtninheehoabbbaaGreatDoorN6
import Derived.Test.YtninheehoabbbaaGreatDoorD1
import Derived.Test.YtninheehoabbbaaGreatDoorShelf5
namespace Go.Proofs.YtninheehoabbbaaGreatDoor
set_option linter.unusedSimpArgs false
set_option linter.unusedVariables false
open Go.RowKit Go.Vr Go.Sort Go.Tx Go.Lib
attribute [local go_sem] setCellDrewN allocDrewN

set_option maxHeartbeats 4000000 in
theorem or1_any (s t : Sp.S) (hs : Sp.okS s) (ht : Sp.okS t) (w : World) (he : Env w) :
    Calls Tryz.prog 38 #[(pt s).val, (pt t).val] w fun e w' => e = .returned (.int .i64 (Sp.cmpC s.1 t.1)) ∧ RowKit.Below w.heap.size w w' := by
  have CL : Hid (∀ W, Calls Tryz.prog 25 #[(pt s).val] W fun e w' => e = .returned (pl s.1).val ∧ RowKit.Below W.heap.size W w') := fun W => by rw [← pl_val, ← pt_val]; exact low_any _ hs W
  have CL2 : Hid (∀ W, Calls Tryz.prog 25 #[(pt t).val] W fun e w' => e = .returned (pl t.1).val ∧ RowKit.Below W.heap.size W w') := fun W => by rw [← pl_val, ← pt_val]; exact low_any _ ht W
  have C1 : Hid (∀ W, RowKit.Below w.heap.size w W → Calls Tryz.prog 34 #[(pl s.1).val, (pl t.1).val] W fun e w' => e = .returned (.int .i64 (Sp.cmpC s.1 t.1)) ∧ RowKit.Below W.heap.size W w') := fun W hW => by rw [← pl_val, ← pl_val]; exact ccmp_any _ _ hs.2.1 ht.2.1 W (he.later hW)
  clear hs ht he
  generalize Sp.cmpC s.1 t.1 = k1 at *
  generalize pl s.1 = u1 at *
  generalize pl t.1 = u2 at *
  generalize pt s = q at *
  generalize pt t = r at *
  go_enter Tryz.func38, Tryz.ntmps38
  go_wp2_with fail
  have HB := hide (show RowKit.Below w.heap.size w ((w.alloc (.cells q.cells 44)).alloc (.cells r.cells 44)) from (by repeat (first | with_reducible assumption | with_reducible exact Below.refl _ _ | with_reducible refine Below.setCell ?_ (by first | exact Nat.le_refl _ | (simp; done) | (simp; omega)) _ | with_reducible refine bal ?_ _ | with_reducible refine Below.alloc ?_ (by first | exact Nat.le_refl _ | (simp; done) | (simp; omega)) _ | with_reducible refine Below.drew ?_)))
  have X := (Box.new w q.cells 44).alloc (.cells r.cells 44)
  have Y := Box.new (w.alloc (.cells q.cells 44)) r.cells 44
  have hs : (w.alloc (.cells q.cells 44)).heap.size = w.heap.size + 1 := by simp
  rw [hs] at Y
  clear hs
  generalize (w.alloc (.cells q.cells 44)).alloc (.cells r.cells 44) = W at *
  have KX : ∀ d os i, (grow (redrawn W d) os).cell? ⟨w.heap.size, i, none⟩ = (q.cells)[i]? := fun d os => (X.regrown d os).c
  have KY : ∀ d os i, (grow (redrawn W d) os).cell? ⟨w.heap.size + 1, i, none⟩ = (r.cells)[i]? := fun d os => (Y.regrown d os).c
  clear X Y
  refine wp_region_quiet_below mixed (by kernel_rfl) ?_
  quiet_step (fail)
  quiet_step (exact Calls.regrown_of (CL.out _))
  quiet_step (fail)
  quiet_step (exact Calls.regrown_of (CL2.out _))
  quiet_step (exact Calls.regrown_of (C1.out _ (HB.out.trans ((below_regrown W _ _).mono HB.out.size))))
  quiet_step (fail)
  refine wpQuiet_nil ?_
  intro w1 hw1
  have hHeld := regrown_below hw1
  clear hw1 KX KY
  go_wp2_with fail
  go_ret
  exact ⟨rfl, HB.out.trans (hHeld.mono HB.out.size)⟩

/-- Spans that may be. -/
abbrev OkS := { s : Sp.S // Sp.okS s }
def okDef : OkS := ⟨(Sp.start, none), ⟨⟨_, rfl⟩, Sp.ok_start, Sp.ok_end⟩⟩
instance : Inhabited OkS := ⟨okDef⟩
def cfS (x y : OkS) : Int := Sp.cmpC x.1.1 y.1.1
theorem swoS : SWO (ltOf cfS) where
  irrefl x := by unfold ltOf cfS; rw [Sp.ord_cut.refl]; decide
  trans x y z h1 h2 := by
    unfold ltOf cfS at *
    simp only [decide_eq_true_eq] at *
    exact Sp.lt_trans Sp.ord_cut h1 h2
  ntrans x y z h1 h2 := by
    unfold ltOf cfS at *
    simp only [decide_eq_false_iff_not] at *
    exact Sp.le_not Sp.ord_cut (Sp.ord_cut.le _ _ _ (Sp.not_lt Sp.ord_cut h2) (Sp.not_lt Sp.ord_cut h1))
theorem putRow_below {α : Type} [Inhabited α] (enc : α → Value) (w : World) (blk off : Nat) (d : Array α) (B : Nat) (hB : B ≤ blk) : RowKit.Below B w (putRow enc w blk off d) :=
  ⟨rfl, rfl, rfl, by simp, fun k hk => by
    show (w.heap.modify blk _)[k]? = _
    rw [Array.getElem?_modify, if_neg (by omega)]⟩
theorem sortWorld_grown {α : Type} [Inhabited α] (enc : α → List Value) (k : Nat) (w : World) (blk off m : Nat) (d : Array α) (os : Array Obj) : w.grownBy (sortWorldK enc k w blk off m d os) (some blk) := by
  refine ⟨rfl, rfl, rfl, ?_, fun j hj hne => ?_⟩
  · unfold sortWorldK putRowK grow
    simp [Sort.ahead]
  · unfold sortWorldK putRowK grow
    rw [Array.getElem?_append_left (by simpa [Sort.ahead] using hj)]
    show ((Sort.ahead w m).heap.modify blk _)[j]? = _
    rw [Array.getElem?_modify, if_neg (fun e => hne (by rw [e]))]
    rfl
theorem cmpLays (blk off size : Nat) (w0 w : World) (hb : RowKit.Below w0.heap.size w0 w) (hg : w0.heap.size ≤ blk) (he : Env w0) : CmpLays Tryz.prog 38 #[] (fun s : OkS => encS s.1) 11 cfS blk off size w := by
  intro m os dk _ x y
  have h := sortWorld_grown (fun s : OkS => encS s.1) 11 w blk off m dk os
  exact Calls.grown (or1_any x.1 y.1 x.2 y.2 _ (he.later (hb.grown h hb.size (fun k e => by have := Option.some.inj e; omega))))
theorem or1_enters : ∀ args w, (callFunc 38 args).run Tryz.prog w = .ok (.enter 38 args) w := enters_of Tryz.func38 (by kernel_rfl) rfl

theorem flat_get (d : Array OkS) (l : List Sp.S) (hl : d.toList.map (·.1) = l) (t : Nat) (ht : t < d.size * 11) : (ES.encs l)[t]? = some ((flatK (fun s : OkS => encS s.1) 11 d)[t]!) := by
  have hj : t / 11 < d.size := by omega
  have hx : l[t / 11]? = some (d[t / 11]!).1 := by
    rw [← hl, List.getElem?_map, Array.getElem?_toList, Array.getElem?_eq_getElem hj, getElem!_pos d _ hj]; rfl
  have e : t = t / 11 * 11 + t % 11 := by omega
  have hk : t % 11 < 11 := Nat.mod_lt _ (by decide)
  rw [get_flatK _ _ _ _ ht]
  have h := ES.encs_at l (t / 11) _ (t % 11) hx hk
  have e2 : t / 11 * ES.k + t % 11 = t := by show t / 11 * 11 + t % 11 = t; omega
  rw [e2] at h
  rw [h]
  show (encS (d[t / 11]!).1)[t % 11]? = some ((encS (d[t / 11]!).1)[t % 11]!)
  rw [List.getElem?_eq_getElem (show t % 11 < (encS (d[t / 11]!).1).length from hk), getElem!_pos (encS (d[t / 11]!).1) (t % 11) hk]
  rfl

/-- slices.SortFunc over a row of the call's own. -/
theorem sortF_any (B : Nat) (v : Value) (l : List Sp.S) (w0 w : World) (ho : EOwn ES w B v l) (hb : RowKit.Below w0.heap.size w0 w) (hB : w0.heap.size ≤ B) (hk : Sp.okL l) (hne : l ≠ []) (hn : l.length ≤ 100000) (he : Env w0) :
    Calls Tryz.prog 37 #[v, .func (.func 38) #[] #[]] w fun e w' => e = .returned (.tuple #[]) ∧ ∃ l', (∀ s, s ∈ l' ↔ s ∈ l) ∧ l'.length = l.length ∧ Sp.Rise Sp.cmpC l' ∧ (∃ ad cap, v = .slice ad l.length cap ∧ ERow ES w' ad l.length l') ∧ w.grownBy w' v.ownBlock := by
  rcases ho.form with ⟨_, h0⟩ | ⟨g, cap, rfl, hg, hgl, hnc, hm, hr⟩
  · exact absurd h0 hne
  have hk' : ∀ s ∈ l, Sp.okS s := hk
  have hd : ((l.pmap (fun s h => (⟨s, h⟩ : OkS)) hk').toArray).toList.map (·.1) = l := by simp [List.map_pmap]
  generalize (l.pmap (fun s h => (⟨s, h⟩ : OkS)) hk').toArray = d at hd
  have hds : d.size = l.length := by have := congrArg List.length hd; simpa using this
  have hH : HoldsK (fun s : OkS => encS s.1) 11 w g 0 d := by
    intro t ht
    rw [size_flatK] at ht
    have h1 := flat_get d l hd t ht
    refine ⟨?_, ?_⟩
    · have := hr.cell _ rfl t _ h1
      rw [addr_add] at this
      exact this
    · rcases ho.2 with ⟨e, _⟩ | ⟨g', cap', cur, e, _, hh, _⟩
      · cases e
      · obtain ⟨rfl, _⟩ : g = g' ∧ cap = cap' := by injection e with e1 e2 e3; injection e1 with e1; injection e1 with e1; exact ⟨e1, e3⟩
        simp [World.frozen?, hh]
  have L := Tryz.SlLaysF0n6
  have h := AnyQ.slices_SortFunc L 11 (fun w => Tryz.isAgg44 (w := w)) (fun w => Tryz.sizeOf44 (w := w)) (fun s : OkS => encS s.1) (fun _ => rfl) (fun x => ES.one x.1) cfS swoS 38 #[] g 0 cap d w or1_enters (cmpLays g 0 d.size w0 w hb (by omega) he) hH hgl (by omega)
  rw [hds] at h
  refine h.mono ?_
  rintro e w' ⟨he', d', m, os, hp, hs, hw⟩
  have hsz : d'.size = d.size := hp.1
  have hpm : d'.toList.Perm d.toList := by
    have h3 := hp.2.2
    rw [← hds] at h3
    have e1 : d.extract 0 d.size = d := by simp
    have e2 : d'.extract 0 d.size = d' := by rw [← hsz]; simp
    rw [e1, e2] at h3
    exact h3
  have hH' : HoldsK (fun s : OkS => encS s.1) 11 w' g 0 d' := SWK.holds (d0 := d) ⟨m, os, hw⟩ hgl hH hsz
  refine ⟨he', d'.toList.map (·.1), ?_, ?_, ?_, ⟨_, _, rfl, ?_⟩, ?_⟩
  · intro s
    rw [← hd]
    exact (hpm.map (·.1)).mem_iff
  · rw [List.length_map, Array.length_toList, hsz, hds]
  · have key : ∀ (l1 l2 : List OkS), d'.toList = l1 ++ l2 → Sp.Rise Sp.cmpC (l2.map (·.1)) := by
      intro l1 l2
      induction l2 generalizing l1 with
      | nil => intro _; exact trivial
      | cons x l2 ih =>
        intro e
        refine ⟨fun t ht => ?_, ih (l1 ++ [x]) (by rw [e]; simp)⟩
        obtain ⟨y, hy, rfl⟩ := List.mem_map.1 ht
        obtain ⟨j, hj, rfl⟩ := List.getElem_of_mem hy
        have hlen : d'.size = l1.length + (l2.length + 1) := by rw [← Array.length_toList, e]; simp
        have h1 := hs l1.length (l1.length + 1 + j) (Nat.zero_le _) (by omega) (by omega)
        have g1 : d'[l1.length]! = x := by
          rw [getElem!_pos d' _ (by omega), ← Array.getElem_toList]
          simp [e]
        have g2 : d'[l1.length + 1 + j]! = l2[j] := by
          rw [getElem!_pos d' _ (by omega), ← Array.getElem_toList]
          simp [e, Nat.add_assoc, List.getElem_append_right, Nat.add_comm 1 j]
        rw [g1, g2] at h1
        unfold ltOf cfS at h1
        simp only [decide_eq_false_iff_not] at h1
        exact Sp.not_lt Sp.ord_cut h1
    exact key [] d'.toList rfl
  · refine ⟨by rw [List.length_map, Array.length_toList, hsz, hds], (fun e => nomatch e), fun x e j v hj => ?_⟩
    obtain rfl : ⟨g, 0, none⟩ = x := by simpa using e
    have hlt : j < d'.size * 11 := by
      have := (List.getElem?_eq_some_iff.1 hj).1
      rw [ES.encs_len, List.length_map, Array.length_toList] at this
      exact this
    have h1 := flat_get d' _ rfl j hlt
    rw [h1] at hj
    rw [addr_add, ← Option.some.inj hj]
    exact (hH' j (by rw [size_flatK]; exact hlt)).1
  · rw [hw]; exact sortWorld_grown _ _ _ _ _ _ _ _
end Go.Proofs.YtninheehoabbbaaGreatDoor

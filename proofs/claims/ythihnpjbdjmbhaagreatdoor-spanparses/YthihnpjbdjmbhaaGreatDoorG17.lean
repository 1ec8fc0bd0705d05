/-
  Contract of Or.
-/
import Derived.Test.YthihnpjbdjmbhaaGreatDoorG16

namespace Go.Proofs.YthihnpjbdjmbhaaGreatDoor
set_option linter.unusedSimpArgs false
set_option linter.unusedVariables false
open Go.RowKit Go.Vr Go.Sort Go.Tx Go.Lib
attribute [local go_sem] setCellDrewN allocDrewN

/-- A new variable's block, two of them, behind a call; an elder one's. -/
abbrev zC : Array Value := #[.int .i64 0, .int .i64 0, .int .i64 0, .string ⟨#[]⟩, .bool false, .bool false]
theorem box1 {w w1 : World} {T : TypeId} (hb : RowKit.Below (w.alloc (.cells zC T)).heap.size (w.alloc (.cells zC T)) w1) : Box w1 w.heap.size zC := (Box.new w zC T).later hb
theorem box2a {w w1 : World} {T : TypeId} (hb : RowKit.Below ((w.alloc (.cells zC T)).alloc (.cells zC T)).heap.size ((w.alloc (.cells zC T)).alloc (.cells zC T)) w1) : Box w1 w.heap.size zC := ((Box.new w zC T).alloc _).later hb
theorem box2b {w w1 : World} {T : TypeId} (hb : RowKit.Below ((w.alloc (.cells zC T)).alloc (.cells zC T)).heap.size ((w.alloc (.cells zC T)).alloc (.cells zC T)) w1) : Box w1 (w.heap.size + 1) zC := by
  have h := (Box.new (w.alloc (.cells zC T)) zC T).later hb
  rw [World.size_alloc] at h
  exact h
theorem box1d {w w1 : World} {T : TypeId} (hb : RowKit.Below (w.alloc (.cells zC T)).drew.heap.size (w.alloc (.cells zC T)).drew w1) : Box w1 w.heap.size zC := (Box.new w zC T).drew.later hb
theorem box2ad {w w1 : World} {T : TypeId} (hb : RowKit.Below ((w.alloc (.cells zC T)).alloc (.cells zC T)).drew.heap.size ((w.alloc (.cells zC T)).alloc (.cells zC T)).drew w1) : Box w1 w.heap.size zC := ((Box.new w zC T).alloc _).drew.later hb
theorem box2bd {w w1 : World} {T : TypeId} (hb : RowKit.Below ((w.alloc (.cells zC T)).alloc (.cells zC T)).drew.heap.size ((w.alloc (.cells zC T)).alloc (.cells zC T)).drew w1) : Box w1 (w.heap.size + 1) zC := by
  have h := (Box.new (w.alloc (.cells zC T)) zC T).drew.later hb
  rw [World.size_alloc] at h
  exact h
theorem box_set {w : World} {N : Nat} {vs : Array Value} {x0 x1 x2 x3 x4 x5 : Value} (h : Box w N zC) (hv : vs = #[x0, x1, x2, x3, x4, x5]) :
    Box ((((((w.setCell ⟨N, 0, none⟩ x0).setCell ⟨N, 1, none⟩ x1).setCell ⟨N, 2, none⟩ x2).setCell ⟨N, 3, none⟩ x3).setCell ⟨N, 4, none⟩ x4).setCell ⟨N, 5, none⟩ x5) N vs := by rw [hv]; exact (h.set6 x0 x1 x2 x3 x4 x5).1
theorem box_new {w : World} {N : Nat} {vs vs' : Array Value} {T : TypeId} (h : w.heap.size = N) (hv : vs' = vs) : Box (w.alloc (.cells vs T)) N vs' := by subst h; subst hv; exact Box.new w _ T
theorem box_far {w : World} {N M : Nat} {vs : Array Value} {x0 x1 x2 x3 x4 x5 : Value} (h : Box w N vs) (hne : M ≠ N) :
    Box ((((((w.setCell ⟨M, 0, none⟩ x0).setCell ⟨M, 1, none⟩ x1).setCell ⟨M, 2, none⟩ x2).setCell ⟨M, 3, none⟩ x3).setCell ⟨M, 4, none⟩ x4).setCell ⟨M, 5, none⟩ x5) N vs := by
  refine h.kept (r := some M) ?_ (fun e => hne (Option.some.inj e))
  exact grownBy_trans (grownBy_trans (grownBy_trans (grownBy_trans (grownBy_trans (grownBy_setCell _ _ _ _) (grownBy_setCell _ _ _ _) (.inl rfl)) (grownBy_setCell _ _ _ _) (.inl rfl)) (grownBy_setCell _ _ _ _) (.inl rfl)) (grownBy_setCell _ _ _ _) (.inl rfl)) (grownBy_setCell _ _ _ _) (.inl rfl)
theorem grown_set6 {w w' : World} {N : Nat} {x0 x1 x2 x3 x4 x5 : Value} (h : w.grownBy w' (some N)) :
    w.grownBy ((((((w'.setCell ⟨N, 0, none⟩ x0).setCell ⟨N, 1, none⟩ x1).setCell ⟨N, 2, none⟩ x2).setCell ⟨N, 3, none⟩ x3).setCell ⟨N, 4, none⟩ x4).setCell ⟨N, 5, none⟩ x5) (some N) :=
  grownBy_trans (grownBy_trans (grownBy_trans (grownBy_trans (grownBy_trans (grownBy_trans h (grownBy_setCell _ _ _ _) (.inl rfl)) (grownBy_setCell _ _ _ _) (.inl rfl)) (grownBy_setCell _ _ _ _) (.inl rfl)) (grownBy_setCell _ _ _ _) (.inl rfl)) (grownBy_setCell _ _ _ _) (.inl rfl)) (grownBy_setCell _ _ _ _) (.inl rfl)
theorem boxl {w w1 : World} {N : Nat} {vs : Array Value} (h : Box w N vs) (hb : RowKit.Below w.heap.size w w1) : Box w1 N vs := h.later hb
theorem boxl1 {w w1 : World} {N : Nat} {vs : Array Value} {o : Obj} (h : Box w N vs) (hb : RowKit.Below (w.alloc o).heap.size (w.alloc o) w1) : Box w1 N vs := (h.alloc o).later hb

set_option maxHeartbeats 8000000 in
theorem sor_any (a : Option Addr) (n cap : Nat) (ls : List (List Sp.S)) (w : World) (hr : RRow w a n ls) (hn : n ≤ 9000) (hs : ls.flatten.length ≤ 9000) (ho : Sp.okL ls.flatten) (he : Env w) :
    Calls Tryz.prog 15 #[.slice a n cap] w fun e w' => ∃ v', e = .returned v' ∧ EOwn ES w' w.heap.size v' (Sp.nrm ls.flatten) ∧ RowKit.Below w.heap.size w w' := by
  have HC := hide (concat_any a n cap ls w hr hn (by omega))
  have HO := hide ho
  have HE := hide he
  generalize ls.flatten = l at *
  clear hr ho he
  by_cases h0 : l = []
  · subst h0
    go_enter Tryz.func15, Tryz.ntmps15
    go_wp2_with fail
    refine HC.out.mono ?_
    rintro e w1 ⟨v, rfl, o1, b1⟩
    obtain ⟨ad, cap1, rfl, hc1, hm1, hr1⟩ := o1.any
    go_wp2_with fail
    go_ret
    exact ⟨_, rfl, EOwn.nil _ _, b1⟩
  · have HS : Hid (∀ (W : World) (v : Value), EOwn ES W w.heap.size v l → RowKit.Below w.heap.size w W → Calls Tryz.prog 37 #[v, .func (.func 38) #[] #[]] W fun e w' => e = .returned (.tuple #[]) ∧ ∃ l', (∀ s, s ∈ l' ↔ s ∈ l) ∧ l'.length = l.length ∧ Sp.Rise Sp.cmpC l' ∧ (∃ ad cap, v = .slice ad l.length cap ∧ ERow ES w' ad l.length l') ∧ W.grownBy w' v.ownBlock) := fun W v h1 h2 => sortF_any w.heap.size v l w W h1 h2 (Nat.le_refl _) HO.out h0 (by omega) HE.out
    have hl0 : 0 < l.length := List.length_pos_iff.2 h0
    have hl1 : ¬ ((l.length : Int) = 0) := by omega
    go_enter Tryz.func15, Tryz.ntmps15
    go_wp2_with fail
    refine HC.out.mono ?_
    rintro e w1 ⟨v, rfl, o1, b1⟩
    obtain ⟨ad, cap1, rfl, hc1, hm1, hr1⟩ := o1.any
    have HO1 := hide o1
    clear o1 HC hr1
    go_wp2_with fail
    refine (HS.out _ _ HO1.out b1).mono ?_
    rintro e w2 ⟨rfl, l2, hmem, hlen, hrise, ⟨ad2, cap2, hv, hr2⟩, hg2⟩
    obtain ⟨rfl, rfl⟩ : ad = ad2 ∧ cap1 = cap2 := by injection hv with e1 _ e3; exact ⟨e1, e3⟩
    have hB2 : RowKit.Below w.heap.size w w2 := b1.grown hg2 b1.size (fun k e => (HO1.out.low k e).1)
    have HJ : Hid (Sp.nrm l = Sp.join Sp.cmpC l2) := (Sp.join_nrm hrise hmem).symm
    have HO2 : Hid (Sp.okL l2) := fun s hs => HO.out s ((hmem s).1 hs)
    clear hv hg2 b1 HO1 HS hrise hmem HO
    have hl2 : 0 < l2.length := by omega
    obtain ⟨b, off, rfl⟩ := hr2.spot (by omega)
    have hj : l2[0]? = some l2[0] := List.getElem?_eq_getElem hl2
    have hs0 := HO2.out l2[0] (List.getElem_mem hl2)
    have CL : Hid (∀ W, Calls Tryz.prog 25 #[(pt l2[0]).val] W fun e w' => e = .returned (pl l2[0].1).val ∧ RowKit.Below W.heap.size W w') := fun W => by rw [← pl_val, ← pt_val]; exact low_any _ hs0 W
    have CH : Hid (∀ W, Calls Tryz.prog 26 #[(pt l2[0]).val] W fun e w' => e = .returned (pl l2[0].2).val ∧ RowKit.Below W.heap.size W w') := fun W => by rw [← pl_val, ← pt_val]; exact high_any _ W
    obtain ⟨d0, d1, d2, d3, d4, d5, d6, d7, d8, d9, d10⟩ := ES_at hr2 0 l2[0] hj
    simp only [Nat.zero_mul, Nat.add_zero] at d0 d1 d2 d3 d4 d5 d6 d7 d8 d9 d10
    have HR2 := hide hr2
    have i2 : (0 : Int) < (l.length : Int) := by omega
    have hlt := World.block_lt_of_cell? _ _ d0
    simp only at hlt
    clear hj hs0 hr2
    generalize hx1 : l2[0].1 = c1 at *
    generalize hx2 : l2[0].2 = c2 at *
    generalize pt l2[0] = q at *
    generalize hu1 : pl c1 = u1 at *
    generalize hu2 : pl c2 = u2 at *
    have KE : ∀ w', RowKit.Below w2.heap.size w2 w' → w'.cell? ⟨b, off, none⟩ = some (.int .i64 q.a) ∧ w'.cell? ⟨b, off + 1, none⟩ = some (.int .i64 q.b) ∧ w'.cell? ⟨b, off + 2, none⟩ = some (.int .i64 q.c) ∧ w'.cell? ⟨b, off + 3, none⟩ = some (.string q.p) ∧ w'.cell? ⟨b, off + 4, none⟩ = some (.int .i64 q.a') ∧ w'.cell? ⟨b, off + 5, none⟩ = some (.int .i64 q.b') ∧ w'.cell? ⟨b, off + 6, none⟩ = some (.int .i64 q.c') ∧ w'.cell? ⟨b, off + 7, none⟩ = some (.string q.p') ∧ w'.cell? ⟨b, off + 8, none⟩ = some (.bool q.x) ∧ w'.cell? ⟨b, off + 9, none⟩ = some (.bool q.y) ∧ w'.cell? ⟨b, off + 10, none⟩ = some (.bool q.z) := fun w' h =>
      ⟨cellLater h d0, cellLater h d1, cellLater h d2, cellLater h d3, cellLater h d4, cellLater h d5, cellLater h d6, cellLater h d7, cellLater h d8, cellLater h d9, cellLater h d10⟩
    have hB := RowKit.Below.refl w2.heap.size w2
    clear d0 d1 d2 d3 d4 d5 d6 d7 d8 d9 d10
    go_wp2_with fail
    go_cut [5, 6] (fun p q wc => ∃ N M, p = .pointer (some ⟨N, 0, none⟩) ∧ q = .pointer (some ⟨M, 0, none⟩) ∧ N ≠ M ∧ w2.heap.size ≤ N ∧ w2.heap.size ≤ M ∧ Box wc N u1.cells ∧ Box wc M u2.cells ∧ RowKit.Below w2.heap.size w2 wc)
    case first =>
      go_region_held3 (fun w' => RowKit.Below w2.heap.size w2 w') (first | with_reducible assumption | exact (by repeat (first | with_reducible assumption | with_reducible exact Below.refl _ _ | with_reducible refine Below.setCell ?_ (by first | exact Nat.le_refl _ | (simp; done) | (simp; omega)) _ | with_reducible refine bal ?_ _ | with_reducible refine Below.alloc ?_ (by first | exact Nat.le_refl _ | (simp; done) | (simp; omega)) _ | with_reducible refine Below.drew ?_))) (first
        | (go_at_call 25; refine (CL.out _).mono ?_; rintro e w3 ⟨rfl, b3⟩; have k3 : RowKit.Below w2.heap.size w2 w3 := (by refine Below.trans ?_ (Below.mono b3 ?_); rotate_left; exact Below.size (by with_reducible assumption); with_reducible assumption); have z3 := k3.size; first | (with_reducible have A := box2ad b3; with_reducible have B := box2bd b3; have cA := A.c; have fA := A.f; have cB := B.c; have fB := B.f; have lA := A.lt; have lB := B.lt; have nA := Nat.ne_of_lt lA; have nB := Nat.ne_of_lt lB) | (with_reducible have A := box1d b3; have cA := A.c; have fA := A.f; have lA := A.lt; have nA := Nat.ne_of_lt lA) | skip)
        | (go_at_call 26; refine (CH.out _).mono ?_; rintro e w4 ⟨rfl, b4⟩; have k4 : RowKit.Below w2.heap.size w2 w4 := (by refine Below.trans ?_ (Below.mono b4 ?_); rotate_left; exact Below.size (by with_reducible assumption); with_reducible assumption); have z4 := k4.size; (try (with_reducible have A4 := boxl A b4; have cA4 := A4.c; have fA4 := A4.f; have lA4 := A4.lt; have nA4 := Nat.ne_of_lt lA4)); (try (with_reducible have B4 := boxl B b4; have cB4 := B4.c; have fB4 := B4.f; have lB4 := B4.lt; have nB4 := Nat.ne_of_lt lB4)); (try (with_reducible have A4 := boxl1 A b4; have cA4 := A4.c; have fA4 := A4.f; have lA4 := A4.lt; have nA4 := Nat.ne_of_lt lA4)); first | (with_reducible have D := box2a b4; with_reducible have E := box2b b4; have cD := D.c; have fD := D.f; have cE := E.c; have fE := E.f; have lE := E.lt; have nE := Nat.ne_of_lt lE; have lD := D.lt; have nD := Nat.ne_of_lt lD) | (with_reducible have D := box1 b4; have cD := D.c; have fD := D.f; have lD := D.lt; have nD := Nat.ne_of_lt lD) | skip))
      all_goals rename_i hHeld
      all_goals go_wp2_with fail
      all_goals go_meet
      all_goals case rel =>
        clear CL CH KE
        refine ⟨_, _, rfl, rfl, by omega, by omega, by omega, ?_, ?_, by first | with_reducible assumption | exact (by repeat (first | with_reducible assumption | with_reducible exact Below.refl _ _ | with_reducible refine Below.setCell ?_ (by first | exact Nat.le_refl _ | (simp; done) | (simp; omega)) _ | with_reducible refine bal ?_ _ | with_reducible refine Below.alloc ?_ (by first | exact Nat.le_refl _ | (simp; done) | (simp; omega)) _ | with_reducible refine Below.drew ?_))⟩
        all_goals repeat (first | with_reducible assumption | with_reducible exact box_new (by first | rfl | simp) rfl | with_reducible refine box_set ?_ rfl | with_reducible refine box_far ?_ (by omega) | with_reducible refine Box.alloc ?_ _)
    case rest =>
    obtain ⟨N, M, rfl, rfl, hNM, hN, hM, X, Y, hBc⟩ := hcut
    clear KE CL CH hB hlt
    have HJ0 : Hid (Sp.join Sp.cmpC l2 = [] ++ Sp.merge Sp.cmpC c1 c2 (l2.drop 0)) := by
      show _ = _
      rw [← hx1, ← hx2]
      cases l2 with
      | nil => simp at hl2
      | cons x r => rfl
    have oc1 : Sp.okC c1 := by rw [← hx1]; exact (HO2.out _ (List.getElem_mem hl2)).2.1
    have oc2 : Sp.okC c2 := by rw [← hx2]; exact (HO2.out _ (List.getElem_mem hl2)).2.2
    have HNM := hide hNM
    have HB2 := hide hB2
    have hPN : N < wc.heap.size := X.lt
    have hPM : M < wc.heap.size := Y.lt
    have hPw : w2.heap.size ≤ wc.heap.size := hBc.size
    have ho0 : EOwn ES wc wc.heap.size (.slice none 0 0) [] := EOwn.nil _ _
    have hPP : wc.heap.size ≤ wc.heap.size := Nat.le_refl _
    generalize hP : wc.heap.size = P at ho0 hPN hPM hPw
    have hPP : P ≤ wc.heap.size := by omega
    clear hP hNM hB2
    go_wp2_with fail
    go_loopw [4, 26] (fun o i wr => ∃ (k : Nat) (out : List Sp.S) (c d : Sp.C), k ≤ l.length ∧ i = .int .i64 k ∧ out.length ≤ k ∧ EOwn ES wr P o out ∧ Box wr N (pl c).cells ∧ Box wr M (pl d).cells ∧ RowKit.Below w2.heap.size w2 wr ∧ P ≤ wr.heap.size ∧ Sp.okC c ∧ Sp.okC d ∧ Hid (Sp.join Sp.cmpC l2 = out ++ Sp.merge Sp.cmpC c d (l2.drop k))) (fun _ i _ => l.length - (RowKit.intOf i).toNat)
    case atStart => exact ⟨0, [], c1, c2, by omega, rfl, by simp, ho0, by rw [hu1]; exact X, by rw [hu2]; exact Y, hBc, hPP, oc1, oc2, HJ0⟩
    case round =>
      obtain ⟨k, out, c, d, hk, rfl, hol, o1, X1, Y1, hB, hPr, oc, od, HG⟩ := hrel
      clear X Y hBc hPP oc1 oc2 HJ0 ho0
      by_cases hlt : k < l.length
      · have hlk : k < l2.length := by omega
        have hj : l2[k]? = some l2[k] := List.getElem?_eq_getElem hlk
        have hs := HO2.out l2[k] (List.getElem_mem hlk)
        obtain ⟨d0, d1, d2, d3, d4, d5, d6, d7, d8, d9, d10⟩ := ES_at (HR2.out.later hB) k l2[k] hj
        have HGc : Hid (Sp.join Sp.cmpC l2 = out ++ (if Sp.cmpC d l2[k].1 < 0 then Sp.only Sp.cmpC c d ++ Sp.merge Sp.cmpC l2[k].1 (Sp.later Sp.cmpC d l2[k].2) (l2.drop (k + 1)) else Sp.merge Sp.cmpC c (Sp.later Sp.cmpC d l2[k].2) (l2.drop (k + 1)))) := by
          show _ = _
          rw [HG.out, List.drop_eq_getElem_cons hlk]; rfl
        have CL : Hid (∀ W, Calls Tryz.prog 25 #[(pt l2[k]).val] W fun e w' => e = .returned (pl l2[k].1).val ∧ RowKit.Below W.heap.size W w') := fun W => by rw [← pl_val, ← pt_val]; exact low_any _ hs W
        have CH : Hid (∀ W, Calls Tryz.prog 26 #[(pt l2[k]).val] W fun e w' => e = .returned (pl l2[k].2).val ∧ RowKit.Below W.heap.size W w') := fun W => by rw [← pl_val, ← pt_val]; exact high_any _ W
        have CC : Hid (∀ W, RowKit.Below w2.heap.size w2 W → Calls Tryz.prog 34 #[(pl d).val, (pl l2[k].1).val] W fun e w' => e = .returned (.int .i64 (Sp.cmpC d l2[k].1)) ∧ RowKit.Below W.heap.size W w') := fun W hW => by rw [← pl_val, ← pl_val]; exact ccmp_any _ _ od hs.2.1 W (HE.out.later (HB2.out.trans (hW.mono HB2.out.size)))
        have CT : Hid (∀ W, RowKit.Below w2.heap.size w2 W → Calls Tryz.prog 39 #[(pl d).val, (pl l2[k].2).val] W fun e w' => e = .returned (pl (Sp.later Sp.cmpC d l2[k].2)).val ∧ RowKit.Below W.heap.size W w') := fun W hW => by rw [← pl_val, ← pl_val, ← pl_val]; exact later_any _ _ od hs.2.2 W (HE.out.later (HB2.out.trans (hW.mono HB2.out.size)))
        have CP : Hid (∀ (W : World) (v : Value), EOwn ES W P v out → P ≤ W.heap.size → RowKit.Below w2.heap.size w2 W → Calls Tryz.prog 24 #[v, (pl c).val, (pl d).val] W fun e w' => ∃ v', e = .returned v' ∧ EOwn ES w' P v' (out ++ Sp.only Sp.cmpC c d) ∧ Onto W w' v v') := fun W v h1 h2 h3 => by
          rw [← pl_val, ← pl_val]; exact put_any P v out c d oc od W h1 (by omega) h2 (HE.out.later (HB2.out.trans (h3.mono HB2.out.size)))
        have hol2 : (out ++ Sp.only Sp.cmpC c d).length ≤ k + 1 := by
          rw [List.length_append]; unfold Sp.only; split <;> simp <;> omega
        have os1 := hs.2.1
        have os2 := hs.2.2
        generalize l2[k].2 = s2 at *
        generalize l2[k].1 = s1 at *
        generalize pt l2[k] = q at *
        generalize hut : pl (Sp.later Sp.cmpC d s2) = ut at *
        generalize pl s2 = u2' at *
        generalize hus : pl s1 = us at *
        have i1 : (0 : Int) ≤ (k : Int) := by omega
        have i2 : (k : Int) < (l.length : Int) := by omega
        clear hj hs HG
        go_wp2_with fail
        have hne : u4.ownBlock ≠ some N := fun e => by have := (o1.low N e).1; omega
        have hne1 : u4.ownBlock ≠ some M := fun e => by have := (o1.low M e).1; omega
        have hne2 : u4.ownBlock ≠ some wr.heap.size := fun e => by have := (o1.low _ e).2; omega
        have XW0 := X1.alloc (.cells q.cells 44)
        have YW0 := Y1.alloc (.cells q.cells 44)
        have SW0 := Box.new wr q.cells 44
        have hBW0 := bal hB (.cells q.cells 44)
        have oW0 := o1.later (show RowKit.Below wr.heap.size wr (wr.alloc (.cells q.cells 44)) from (by repeat (first | with_reducible assumption | with_reducible exact Below.refl _ _ | with_reducible refine Below.setCell ?_ (by first | exact Nat.le_refl _ | (simp; done) | (simp; omega)) _ | with_reducible refine bal ?_ _ | with_reducible refine Below.alloc ?_ (by first | exact Nat.le_refl _ | (simp; done) | (simp; omega)) _ | with_reducible refine Below.drew ?_)))
        have hPW0 : P ≤ (wr.alloc (.cells q.cells 44)).heap.size := by simp; omega
        have hSM : M ≠ wr.heap.size := by omega
        have hSN : N ≠ wr.heap.size := by omega
        clear d0 d1 d2 d3 d4 d5 d6 d7 d8 d9 d10
        generalize wr.alloc (.cells q.cells 44) = W0 at *
        clear hB X1 Y1 o1
        generalize wr.heap.size = R at *
        have KY : ∀ e os i, (grow (redrawn W0 e) os).cell? ⟨M, i, none⟩ = ((pl d).cells)[i]? := fun e os => (YW0.regrown e os).c
        have KS : ∀ e os i, (grow (redrawn W0 e) os).cell? ⟨R, i, none⟩ = (q.cells)[i]? := fun e os => (SW0.regrown e os).c
        generalize hud : pl d = ud at *
        generalize huc : pl c = uc at *
        refine wp_region_quiet_below mixed (by kernel_rfl) ?_
        quiet_step (fail)
        quiet_step (fail)
        quiet_step (exact Calls.regrown_of (CL.out _))
        quiet_step (exact Calls.regrown_of (CC.out _ (hBW0.trans ((below_regrown W0 _ _).mono hBW0.size))))
        quiet_step (fail)
        refine wpQuiet_nil ?_
        intro w3 hw3
        have b3 := regrown_below hw3
        clear hw3 KY KS CC
        have XW1 := XW0.later b3
        have YW1 := YW0.later b3
        have SW1 := SW0.later b3
        have hBW1 := hBW0.trans (b3.mono hBW0.size)
        have oW1 := oW0.later b3
        have hPW1 : P ≤ w3.heap.size := Nat.le_trans hPW0 b3.size
        clear XW0 YW0 SW0 hBW0 oW0 hPW0 b3
        by_cases hc : Sp.cmpC d s1 < 0
        · have HG3 : Hid (Sp.join Sp.cmpC l2 = (out ++ Sp.only Sp.cmpC c d) ++ Sp.merge Sp.cmpC s1 (Sp.later Sp.cmpC d s2) (l2.drop (k + 1))) := by
            show _ = _
            rw [HGc.out, if_pos hc, List.append_assoc]
          clear HGc
          have cX1 := XW1.c
          have cY1 := YW1.c
          generalize Sp.cmpC d s1 = kk at *
          go_wp2_with fail
          refine (CP.out _ _ oW1 hPW1 hBW1).mono ?_
          rintro e w4 ⟨v4, rfl, o4, t4⟩
          have X4 := XW1.kept t4.1 hne
          have Y4 := YW1.kept t4.1 hne1
          have S4 := SW1.kept t4.1 hne2
          have hB4 := hBW1.grown t4.1 hBW1.size (fun j e => by have := (oW1.low j e).1; omega)
          have hP4 : P ≤ w4.heap.size := Nat.le_trans hPW1 t4.1.size
          have cS4 := S4.c
          clear cX1 cY1 t4 XW1 YW1 SW1 hBW1 oW1 hPW1 CP
          generalize out ++ Sp.only Sp.cmpC c d = out2 at *
          go_wp2_with fail
          refine (CL.out _).mono ?_
          rintro e w5 ⟨rfl, b5⟩
          have X5 := X4.later b5
          have Y5 := Y4.later b5
          have S5 := S4.later b5
          have hB5 := hB4.trans (b5.mono hB4.size)
          have o5 := o4.later b5
          have hP5 : P ≤ w5.heap.size := Nat.le_trans hP4 b5.size
          have cX5 := X5.c
          have fX5 := X5.f
          clear cS4 X4 Y4 S4 hB4 o4 hP4 CL b5
          go_wp2_with fail
          obtain ⟨XW, gx⟩ := X5.set6 (.int .i64 us.a) (.int .i64 us.b) (.int .i64 us.c) (.string us.p) (.bool us.x) (.bool us.e)
          have YW := Y5.kept gx (fun e => HNM.out (Option.some.inj e))
          have SW := S5.kept gx (fun e => hSN (Option.some.inj e))
          have hBW := hB5.grown gx hB5.size (fun j e => by have := Option.some.inj e; omega)
          have oW := o5.kept gx (.inr (fun e => by have := (o5.low N e).1; omega))
          have hPW2 : P ≤ _ := Nat.le_trans hP5 gx.size
          clear cX5 fX5 X5 Y5 S5 hB5 o5 hP5 gx
          generalize (((((w5.setCell ⟨N, 0, none⟩ (.int .i64 us.a)).setCell ⟨N, 1, none⟩ (.int .i64 us.b)).setCell ⟨N, 2, none⟩ (.int .i64 us.c)).setCell ⟨N, 3, none⟩ (.string us.p)).setCell ⟨N, 4, none⟩ (.bool us.x)).setCell ⟨N, 5, none⟩ (.bool us.e) = W at *
          have cYW := YW.c
          have cSW := SW.c
          go_region_with (first
            | (go_at_call 26; refine (CH.out _).mono ?_; rintro e w5 ⟨rfl, b5⟩; have b5 : RowKit.Below W.heap.size W w5 := (show RowKit.Below W.heap.size W W.drew from (by repeat (first | with_reducible assumption | with_reducible exact Below.refl _ _ | with_reducible refine Below.setCell ?_ (by first | exact Nat.le_refl _ | (simp; done) | (simp; omega)) _ | with_reducible refine bal ?_ _ | with_reducible refine Below.alloc ?_ (by first | exact Nat.le_refl _ | (simp; done) | (simp; omega)) _ | with_reducible refine Below.drew ?_))).trans b5; have g5 := grownBy_below (some M) b5; have Y5 := YW.later b5; have cY5 := Y5.c; have fY5 := Y5.f; have cS5 := (SW.later b5).c)
            | (go_at_call 39; refine (CT.out _ (hBW.trans (b5.mono hBW.size))).mono ?_; rintro e w6 ⟨rfl, b6⟩; have b6 : RowKit.Below W.heap.size W w6 := step b5 b6; have g6 := grownBy_below (some M) b6; have Y6 := YW.later b6; have cY6 := Y6.c; have fY6 := Y6.f))
          all_goals
            go_wp2_with fail
            go_roundw
            case rel =>
              obtain ⟨Y7, g7⟩ := Y6.set6 (.int .i64 ut.a) (.int .i64 ut.b) (.int .i64 ut.c) (.string ut.p) (.bool ut.x) (.bool ut.e)
              have g8 := grownBy_trans g6 g7 (.inl rfl)
              exact ⟨k + 1, out2, s1, Sp.later Sp.cmpC d s2, by omega, by go_num, by omega, oW.kept g8 (.inr (fun e => by have := (oW.low M e).1; omega)), by rw [hus]; exact XW.kept g8 (fun e => HNM.out (Option.some.inj e).symm), by rw [hut]; exact Y7, hBW.grown g8 hBW.size (fun j e => by have := Option.some.inj e; omega), Nat.le_trans hPW2 g8.size, os1, Sp.ok_later od os2, HG3⟩
            case measure => simp [RowKit.intOf]; omega
        · have HG3 : Hid (Sp.join Sp.cmpC l2 = out ++ Sp.merge Sp.cmpC c (Sp.later Sp.cmpC d s2) (l2.drop (k + 1))) := by
            show _ = _
            rw [HGc.out, if_neg hc]
          clear HGc CP CL
          generalize Sp.cmpC d s1 = kk at *
          have XW := XW1
          have YW := YW1
          have SW := SW1
          have hBW := hBW1
          have oW := oW1
          have hPW2 := hPW1
          clear XW1 YW1 SW1 hBW1 oW1 hPW1
          generalize w3 = W at *
          go_wp2_with fail
          have cYW := YW.c
          have cSW := SW.c
          go_region_with (first
            | (go_at_call 26; refine (CH.out _).mono ?_; rintro e w5 ⟨rfl, b5⟩; have b5 : RowKit.Below W.heap.size W w5 := (show RowKit.Below W.heap.size W W.drew from (by repeat (first | with_reducible assumption | with_reducible exact Below.refl _ _ | with_reducible refine Below.setCell ?_ (by first | exact Nat.le_refl _ | (simp; done) | (simp; omega)) _ | with_reducible refine bal ?_ _ | with_reducible refine Below.alloc ?_ (by first | exact Nat.le_refl _ | (simp; done) | (simp; omega)) _ | with_reducible refine Below.drew ?_))).trans b5; have g5 := grownBy_below (some M) b5; have Y5 := YW.later b5; have cY5 := Y5.c; have fY5 := Y5.f; have cS5 := (SW.later b5).c)
            | (go_at_call 39; refine (CT.out _ (hBW.trans (b5.mono hBW.size))).mono ?_; rintro e w6 ⟨rfl, b6⟩; have b6 : RowKit.Below W.heap.size W w6 := step b5 b6; have g6 := grownBy_below (some M) b6; have Y6 := YW.later b6; have cY6 := Y6.c; have fY6 := Y6.f))
          all_goals
            go_wp2_with fail
            go_roundw
            case rel =>
              obtain ⟨Y7, g7⟩ := Y6.set6 (.int .i64 ut.a) (.int .i64 ut.b) (.int .i64 ut.c) (.string ut.p) (.bool ut.x) (.bool ut.e)
              have g8 := grownBy_trans g6 g7 (.inl rfl)
              exact ⟨k + 1, out, c, Sp.later Sp.cmpC d s2, by omega, by go_num, by omega, oW.kept g8 (.inr (fun e => by have := (oW.low M e).1; omega)), by rw [huc]; exact XW.kept g8 (fun e => HNM.out (Option.some.inj e).symm), by rw [hut]; exact Y7, hBW.grown g8 hBW.size (fun j e => by have := Option.some.inj e; omega), Nat.le_trans hPW2 g8.size, oc, Sp.ok_later od os2, HG3⟩
            case measure => simp [RowKit.intOf]; omega
      · have hd : decide ((k : Int) < (l.length : Int)) = false := by simp; omega
        have HG2 : Hid (Sp.nrm l = out ++ Sp.only Sp.cmpC c d) := by
          show _ = _
          rw [HJ.out, HG.out, List.drop_of_length_le (by omega)]; rfl
        have CP : Hid (∀ (W : World) (v : Value), EOwn ES W P v out → P ≤ W.heap.size → RowKit.Below w2.heap.size w2 W → Calls Tryz.prog 24 #[v, (pl c).val, (pl d).val] W fun e w' => ∃ v', e = .returned v' ∧ EOwn ES w' P v' (out ++ Sp.only Sp.cmpC c d) ∧ Onto W w' v v') := fun W v h1 h2 h3 => by
          rw [← pl_val, ← pl_val]; exact put_any P v out c d oc od W h1 (by omega) h2 (HE.out.later (HB2.out.trans (h3.mono HB2.out.size)))
        generalize pl c = uc at *
        generalize pl d = ud at *
        have cX1 := X1.c
        have cY1 := Y1.c
        have HO1 := hide o1
        have HBr := hide hB
        clear X1 Y1 HG o1 hB
        go_wp2_with fail
        refine (CP.out _ _ HO1.out hPr HBr.out).mono ?_
        rintro e w4 ⟨v4, rfl, o4, t4⟩
        have hB4 := HBr.out.grown t4.1 HBr.out.size (fun j e => by have := (HO1.out.low j e).1; omega)
        clear cX1 cY1
        go_wp2_with fail
        go_ret
        exact ⟨v4, rfl, by rw [HG2.out]; exact o4.base (by have := HB2.out.size; omega), HB2.out.trans (hB4.mono HB2.out.size)⟩
end Go.Proofs.YthihnpjbdjmbhaaGreatDoor

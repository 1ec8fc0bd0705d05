/-
  Sizes of texts of versions; a version that may be, written and read.
  Contract of Text.
  Plain mathematics of words: what one says.
  Contracts of bumpA, bumpB, bumpC, bumpLeading, signed.
-/
import Derived.Test.YthihnpjbdjmbhaaGreatDoorG20
import Derived.Test.YthihnpjbdjmbhaaGreatDoorG21
import Derived.Test.YthihnpjbdjmbhaaGreatDoorG18
import Derived.Test.YthihnpjbdjmbhaaGreatDoorG09

namespace Go.Proofs.YthihnpjbdjmbhaaGreatDoor
set_option linter.unusedSimpArgs false
set_option linter.unusedVariables false
open Go.RowKit Go.Vr Go.Sort Go.Tx Go.Lib

theorem ok_size {v : V} (h : v.ok = true) : v.p.size ≤ 40 := by
  have := (ok_parts h).2.2.2
  unfold preOk at this
  rw [Bool.and_eq_true] at this
  have h1 := of_decide_eq_true this.1
  rw [len_eq] at h1
  exact h1
theorem txt_size (v : V) (ha : 0 ≤ v.a ∧ v.a < 1000000000) (hb : 0 ≤ v.b ∧ v.b < 1000000000) (hc : 0 ≤ v.c ∧ v.c < 1000000000) : (str (txt v)).size ≤ v.p.size + 31 ∧ 6 ≤ (str (txt v)).size := by
  have h1 := itoa_size v.a ha.1 ha.2
  have h2 := itoa_size v.b hb.1 hb.2
  have h3 := itoa_size v.c hc.1 hc.2
  have e1 := List.length_pos_iff.2 (itoa_ok v.a ha.1 ha.2).2.2.2
  have e2 := List.length_pos_iff.2 (itoa_ok v.b hb.1 hb.2).2.2.2
  have e3 := List.length_pos_iff.2 (itoa_ok v.c hc.1 hc.2).2.2.2
  rw [Tx.str_size] at *
  have h4 : (tail v.p.data.toList).length ≤ v.p.size + 1 := by
    unfold tail
    split
    · simp
    · rw [List.length_cons, len_eq]; omega
  unfold txt
  simp only [List.length_cons, List.length_append]
  omega
theorem ok_bd {v : V} (h : v.ok = true) : (0 ≤ v.a ∧ v.a < 1000000000) ∧ (0 ≤ v.b ∧ v.b < 1000000000) ∧ (0 ≤ v.c ∧ v.c < 1000000000) := by
  obtain ⟨h1, h2, h3, -⟩ := ok_parts h
  omega
theorem ok_txt {v : V} (h : v.ok = true) : (str (txt v)).size ≤ 71 ∧ 6 ≤ (str (txt v)).size := by
  obtain ⟨h1, h2, h3⟩ := ok_bd h
  have := txt_size v h1 h2 h3
  have := ok_size h
  omega
theorem parse_back {v : V} (h : v.ok = true) : parse (str (txt v)).data.toList = some v := by rw [str_list]; exact parse_txt h

end Go.Proofs.YthihnpjbdjmbhaaGreatDoor

namespace Go.Proofs.YthihnpjbdjmbhaaGreatDoor
set_option linter.unusedSimpArgs false
set_option linter.unusedVariables false
open Go.RowKit Go.Vr Go.Sort Go.Tx Go.Lib
attribute [local go_sem] setCellDrewN allocDrewN

/-- A span's text. -/
def tLow (s : Sp.S) : Bs := (if (lo s).2 then 40 else 91) :: txt (lo s).1
def tHigh (s : Sp.S) : Bs := match s.2 with
  | none => [41]
  | some p => txt p.1 ++ [if p.2 then 93 else 41]
def tOne (s : Sp.S) : Bs := tLow s ++ 44 :: tHigh s
def tAll (l : List Sp.S) : Bs := if l = [] then [45] else Lib.join (l.map tOne) [32, 124, 124, 32]

theorem lo_ok {s : Sp.S} (hs : Sp.okS s) : (lo s).1.ok = true := by
  obtain ⟨⟨p, hp⟩, ok1, _⟩ := hs
  unfold lo; rw [hp]; exact ok1 p hp
theorem hi_ok {s : Sp.S} (hs : Sp.okS s) : (hi s).1.ok = true := by
  obtain ⟨_, _, ok2⟩ := hs
  unfold hi
  cases h : s.2 with
  | none => decide +kernel
  | some p => exact ok2 p h

set_option maxHeartbeats 2000000 in
theorem textLow_any (s : Sp.S) (hs : Sp.okS s) (w : World) (he : Env w) :
    Calls Tryz.prog 28 #[(pt s).val] w fun e w' => e = .returned (.string (str (tLow s))) ∧ RowKit.Below w.heap.size w w' := by
  have hv := lo_ok hs
  have hz := (ok_txt hv).1
  have CT : Hid (∀ W, RowKit.Below w.heap.size w W → Calls Tryz.prog 54 #[ver (pt s).a (pt s).b (pt s).c (pt s).p] W fun e w' => e = .returned (.string (str (txt (lo s).1))) ∧ RowKit.Below W.heap.size W w') := fun W hW => text_any (lo s).1 W hv (he.later hW)
  have HT : Hid (str (tLow s) = (if (pt s).x then ⟨#[40]⟩ else ⟨#[91]⟩) ++ str (txt (lo s).1)) := by
    show _ = _
    refine ba_ext ?_
    rw [ba_app]
    unfold tLow
    show _ = (if (lo s).2 then (⟨#[40]⟩ : ByteArray) else ⟨#[91]⟩).data.toList ++ _
    rw [str_list, str_list]
    cases (lo s).2 <;> rfl
  generalize str (txt (lo s).1) = t at *
  generalize pt s = q at *
  generalize str (tLow s) = r at *
  clear hs hv he
  obtain ⟨q1, q2, q3, q4, q5, q6, q7, q8, q9, q10, q11⟩ := q
  have n1 : ¬ 9223372036854775807 < 1 + t.size := by omega
  cases q9
  all_goals
    go_enter Tryz.func28, Tryz.ntmps28
    go_wp2_with fail
    refine (CT.out _ ((by repeat (first | with_reducible assumption | with_reducible exact Below.refl _ _ | with_reducible refine Below.setCell ?_ (by first | exact Nat.le_refl _ | (simp; done) | (simp; omega)) _ | with_reducible refine bal ?_ _ | with_reducible refine Below.alloc ?_ (by first | exact Nat.le_refl _ | (simp; done) | (simp; omega)) _ | with_reducible refine Below.drew ?_)))).mono ?_
    rintro e w1 ⟨rfl, b1⟩
    have hB : RowKit.Below w.heap.size w w1 := RowKit.Below.trans ((by repeat (first | with_reducible assumption | with_reducible exact Below.refl _ _ | with_reducible refine Below.setCell ?_ (by first | exact Nat.le_refl _ | (simp; done) | (simp; omega)) _ | with_reducible refine bal ?_ _ | with_reducible refine Below.alloc ?_ (by first | exact Nat.le_refl _ | (simp; done) | (simp; omega)) _ | with_reducible refine Below.drew ?_))) (b1.mono (by simp))
    clear CT b1
    go_wp2_with fail
    go_ret
    exact ⟨by rw [HT.out]; rfl, hB⟩

set_option maxHeartbeats 2000000 in
theorem textHigh_any (s : Sp.S) (hs : Sp.okS s) (w : World) (he : Env w) :
    Calls Tryz.prog 29 #[(pt s).val] w fun e w' => e = .returned (.string (str (tHigh s))) ∧ RowKit.Below w.heap.size w w' := by
  have hv := hi_ok hs
  have hz := (ok_txt hv).1
  have CT : Hid (∀ W, RowKit.Below w.heap.size w W → Calls Tryz.prog 54 #[ver (pt s).a' (pt s).b' (pt s).c' (pt s).p'] W fun e w' => e = .returned (.string (str (txt (hi s).1))) ∧ RowKit.Below W.heap.size W w') := fun W hW => text_any (hi s).1 W hv (he.later hW)
  have HT : Hid (str (tHigh s) = if (pt s).z then ⟨#[41]⟩ else str (txt (hi s).1) ++ (if (pt s).y then ⟨#[93]⟩ else ⟨#[41]⟩)) := by
    show _ = _
    show str (tHigh s) = if s.2.isNone then ⟨#[41]⟩ else str (txt (hi s).1) ++ (if (hi s).2 then ⟨#[93]⟩ else ⟨#[41]⟩)
    unfold tHigh hi
    cases s.2 with
    | none => rfl
    | some p =>
      obtain ⟨v, b⟩ := p
      show str _ = str (txt v) ++ (if b then ⟨#[93]⟩ else ⟨#[41]⟩)
      refine ba_ext ?_
      rw [ba_app, str_list, str_list]
      cases b <;> rfl
  generalize str (txt (hi s).1) = t at *
  generalize pt s = q at *
  generalize str (tHigh s) = r at *
  clear hs hv he
  obtain ⟨q1, q2, q3, q4, q5, q6, q7, q8, q9, q10, q11⟩ := q
  have n1 : ¬ 9223372036854775807 < t.size + 1 := by omega
  cases q11 with
  | true =>
    go_enter Tryz.func29, Tryz.ntmps29
    go_wp2_with fail
    go_ret
    exact ⟨by rw [HT.out]; rfl, (by repeat (first | with_reducible assumption | with_reducible exact Below.refl _ _ | with_reducible refine Below.setCell ?_ (by first | exact Nat.le_refl _ | (simp; done) | (simp; omega)) _ | with_reducible refine bal ?_ _ | with_reducible refine Below.alloc ?_ (by first | exact Nat.le_refl _ | (simp; done) | (simp; omega)) _ | with_reducible refine Below.drew ?_))⟩
  | false =>
    cases q10
    all_goals
      go_enter Tryz.func29, Tryz.ntmps29
      go_wp2_with fail
      refine (CT.out _ ((by repeat (first | with_reducible assumption | with_reducible exact Below.refl _ _ | with_reducible refine Below.setCell ?_ (by first | exact Nat.le_refl _ | (simp; done) | (simp; omega)) _ | with_reducible refine bal ?_ _ | with_reducible refine Below.alloc ?_ (by first | exact Nat.le_refl _ | (simp; done) | (simp; omega)) _ | with_reducible refine Below.drew ?_)))).mono ?_
      rintro e w1 ⟨rfl, b1⟩
      have hB : RowKit.Below w.heap.size w w1 := RowKit.Below.trans ((by repeat (first | with_reducible assumption | with_reducible exact Below.refl _ _ | with_reducible refine Below.setCell ?_ (by first | exact Nat.le_refl _ | (simp; done) | (simp; omega)) _ | with_reducible refine bal ?_ _ | with_reducible refine Below.alloc ?_ (by first | exact Nat.le_refl _ | (simp; done) | (simp; omega)) _ | with_reducible refine Below.drew ?_))) (b1.mono (by simp))
      clear CT b1
      go_wp2_with fail
      go_ret
      exact ⟨by rw [HT.out]; rfl, hB⟩

/-- Texts as elements. -/
def ET : El ByteArray where
  enc := fun s => [.string s]
  k := 1
  T := 9
  TS := 27
  z := .string ⟨#[]⟩
  bytes := 16
  hk := fun _ => rfl
  one := by
    intro x u hu
    simp only [List.mem_cons, List.not_mem_nil, or_false] at hu
    subst hu; rfl
  ht := Tryz.underlying27
  hi := ⟨Tryz.t9, by kernel_rfl, by kernel_rfl, by kernel_rfl, by kernel_rfl⟩
  hzs := by kernel_rfl
  hk0 := by decide
  hby := by decide
theorem tLow_len {s : Sp.S} (hs : Sp.okS s) : (str (tLow s)).size ≤ 72 := by
  have := (ok_txt (lo_ok hs)).1
  rw [Tx.str_size] at this ⊢
  unfold tLow
  rw [List.length_cons]; omega
theorem tHigh_len {s : Sp.S} (hs : Sp.okS s) : (str (tHigh s)).size ≤ 72 := by
  rw [Tx.str_size]
  unfold tHigh
  cases h : s.2 with
  | none => decide
  | some p =>
    have := (ok_txt (hs.2.2 p h)).1
    rw [Tx.str_size] at this
    show (txt p.1 ++ [_]).length ≤ 72
    rw [List.length_append]; simp; omega
theorem tOne_len {s : Sp.S} (hs : Sp.okS s) : (tOne s).length ≤ 145 := by
  have h1 := tLow_len hs
  have h2 := tHigh_len hs
  rw [Tx.str_size] at h1 h2
  unfold tOne
  rw [List.length_append, List.length_cons]; omega
theorem join_len (sep : Bs) (k : Nat) (hk : sep.length ≤ k) : ∀ (l : List Bs), (∀ x ∈ l, x.length ≤ k) → (Lib.join l sep).length ≤ l.length * (2 * k)
  | [], _ => by simp [Lib.join]
  | [x], h => by
    have := h x (by simp)
    rw [Lib.join_one]; simp; omega
  | x :: y :: r, h => by
    have h1 := h x (by simp)
    have h2 := join_len sep k hk (y :: r) (fun z hz => h z (by simp at hz ⊢; exact .inr hz))
    have e : Lib.join (x :: y :: r) sep = x ++ sep ++ Lib.join (y :: r) sep := by first | rfl | simp [Lib.join]
    rw [e, List.length_append, List.length_append, List.length_cons, Nat.add_mul]
    omega
set_option maxHeartbeats 8000000 in
set_option maxRecDepth 100000 in
theorem stext_any (a : Option Addr) (n cap : Nat) (l : List Sp.S) (w : World) (hr : ERow ES w a n l) (hn : n ≤ 9000) (ho : Sp.okL l) (he : Env w) :
    Calls Tryz.prog 12 #[.slice a n cap] w fun e w' => e = .returned (.string (str (tAll l))) ∧ RowKit.Below w.heap.size w w' := by
  have HR := hide hr
  have HO := hide ho
  have HE := hide he
  have hln := hr.n
  clear hr ho he
  by_cases h0 : n = 0
  · have hl0 : l = [] := List.eq_nil_of_length_eq_zero (by omega)
    subst h0
    go_enter Tryz.func12, Tryz.ntmps12
    go_wp2_with fail
    go_ret
    exact ⟨by rw [hl0]; rfl, RowKit.Below.refl _ _⟩
  · have hn0 : ¬ ((n : Int) = 0) := by omega
    go_enter Tryz.func12, Tryz.ntmps12
    go_wp2_with fail
    rw [show ((n : Int) == 0) = false from by simpa using hn0]
    go_loopw [3, 11] (fun o i wr => ∃ k : Nat, k ≤ n ∧ i = .int .i64 k ∧ EOwn ET wr w.heap.size o ((l.take k).map fun s => str (tOne s)) ∧ RowKit.Below w.heap.size w wr) (fun _ i _ => n - (RowKit.intOf i).toNat)
    case atStart => exact ⟨0, by omega, rfl, EOwn.nil _ _, RowKit.Below.refl _ _⟩
    case round =>
      obtain ⟨k, hk, rfl, o1, hB⟩ := hrel
      by_cases hlt : k < n
      · obtain ⟨b, off, rfl⟩ := HR.out.spot (by omega)
        have hlk : k < l.length := by omega
        have hj : l[k]? = some l[k] := List.getElem?_eq_getElem hlk
        have hs := HO.out l[k] (List.getElem_mem hlk)
        obtain ⟨d0, d1, d2, d3, d4, d5, d6, d7, d8, d9, d10⟩ := ES_at (HR.out.later hB) k l[k] hj
        have HM : Hid ((l.take (k + 1)).map (fun s => str (tOne s)) = (l.take k).map (fun s => str (tOne s)) ++ [str (tOne l[k])]) := by
          show _ = _
          rw [List.take_succ_eq_append_getElem hlk, List.map_append]; rfl
        have HX : Hid (str (tOne l[k]) = (str (tLow l[k]) ++ ⟨#[44]⟩) ++ str (tHigh l[k])) := by
          show _ = _
          refine ba_ext ?_
          rw [ba_app, ba_app, str_list, str_list, str_list]
          unfold tOne
          simp
        have CL : Hid (∀ W, RowKit.Below w.heap.size w W → Calls Tryz.prog 28 #[(pt l[k]).val] W fun e w' => e = .returned (.string (str (tLow l[k]))) ∧ RowKit.Below W.heap.size W w') := fun W hW => textLow_any _ hs W (HE.out.later hW)
        have CH : Hid (∀ W, RowKit.Below w.heap.size w W → Calls Tryz.prog 29 #[(pt l[k]).val] W fun e w' => e = .returned (.string (str (tHigh l[k]))) ∧ RowKit.Below W.heap.size W w') := fun W hW => textHigh_any _ hs W (HE.out.later hW)
        have z1 := tLow_len hs
        have z2 := tHigh_len hs
        have hml : ((l.take k).map fun s => str (tOne s)).length = k := by rw [List.length_map, List.length_take]; omega
        generalize str (tLow l[k]) = x1 at *
        generalize str (tHigh l[k]) = x2 at *
        generalize str (tOne l[k]) = x3 at *
        generalize pt l[k] = q at *
        generalize hml2 : (l.take k).map (fun s => str (tOne s)) = ms at *
        have i1 : (0 : Int) ≤ (k : Int) := by omega
        have i2 : (k : Int) < (n : Int) := by omega
        have n1 : ¬ 9223372036854775807 < x1.size + 1 := by omega
        have n2 : ¬ 9223372036854775807 < x1.size + 1 + x2.size := by omega
        clear hj hs
        go_wp2_with fail
        have hne2 : u3.ownBlock ≠ some wr.heap.size := fun e => by have := (o1.low _ e).2; omega
        have SW := Box.new wr q.cells 44
        have hBW := bal hB (.cells q.cells 44)
        have oW := o1.later (show RowKit.Below wr.heap.size wr (wr.alloc (.cells q.cells 44)) from (by repeat (first | with_reducible assumption | with_reducible exact Below.refl _ _ | with_reducible refine Below.setCell ?_ (by first | exact Nat.le_refl _ | (simp; done) | (simp; omega)) _ | with_reducible refine bal ?_ _ | with_reducible refine Below.alloc ?_ (by first | exact Nat.le_refl _ | (simp; done) | (simp; omega)) _ | with_reducible refine Below.drew ?_)))
        clear d0 d1 d2 d3 d4 d5 d6 d7 d8 d9 d10
        generalize wr.alloc (.cells q.cells 44) = W at *
        clear hB o1
        generalize wr.heap.size = R at *
        have KS : ∀ w', W.grownBy w' u3.ownBlock → ∀ i, w'.cell? ⟨R, i, none⟩ = (q.cells)[i]? := fun w' h => (SW.kept h hne2).c
        have HW := hide hBW
        have HOW := hide oW
        clear SW hBW oW hml2
        go_region_held3 (fun w' => W.grownBy w' u3.ownBlock) (first | with_reducible assumption | exact grownBy_below _ (by repeat (first | with_reducible assumption | with_reducible exact Below.refl _ _ | with_reducible refine Below.setCell ?_ (by first | exact Nat.le_refl _ | (simp; done) | (simp; omega)) _ | with_reducible refine bal ?_ _ | with_reducible refine Below.alloc ?_ (by first | exact Nat.le_refl _ | (simp; done) | (simp; omega)) _ | with_reducible refine Below.drew ?_))) (first
          | (go_at_call 28; refine (CL.out _ (HW.out.trans (RowKit.Below.mono (show RowKit.Below W.heap.size W W.drew from (by repeat (first | with_reducible assumption | with_reducible exact Below.refl _ _ | with_reducible refine Below.setCell ?_ (by first | exact Nat.le_refl _ | (simp; done) | (simp; omega)) _ | with_reducible refine bal ?_ _ | with_reducible refine Below.alloc ?_ (by first | exact Nat.le_refl _ | (simp; done) | (simp; omega)) _ | with_reducible refine Below.drew ?_))) HW.out.size))).mono ?_; rintro e w2 ⟨rfl, b2⟩; have b2 : RowKit.Below W.heap.size W w2 := (show RowKit.Below W.heap.size W W.drew from (by repeat (first | with_reducible assumption | with_reducible exact Below.refl _ _ | with_reducible refine Below.setCell ?_ (by first | exact Nat.le_refl _ | (simp; done) | (simp; omega)) _ | with_reducible refine bal ?_ _ | with_reducible refine Below.alloc ?_ (by first | exact Nat.le_refl _ | (simp; done) | (simp; omega)) _ | with_reducible refine Below.drew ?_))).trans b2; have g2 := grownBy_below u3.ownBlock b2)
          | (go_at_call 29; refine (CH.out _ (HW.out.trans (b2.mono HW.out.size))).mono ?_; rintro e w3 ⟨rfl, b3⟩; have b3 : RowKit.Below W.heap.size W w3 := step b2 b3; have g3 := grownBy_below u3.ownBlock b3; have b3a : RowKit.Below W.heap.size W (w3.alloc (.cells #[.string ((x1 ++ ⟨#[44]⟩) ++ x2)] 9)) := bal b3 _)
          | (refine step_eapp ET rfl _ _ rfl w.heap.size _ ms (some _) 1 1 [(x1 ++ (⟨#[44]⟩ : ByteArray)) ++ x2] rfl rfl (HOW.out.later b3a) (ERow.new ET w3 ((x1 ++ (⟨#[44]⟩ : ByteArray)) ++ x2) _) (by simp; omega) (Nat.le_trans HW.out.size b3a.size) ?_; intro v4 w4 o4 g4 t4; have g4 := grownBy_trans (grownBy_below u3.ownBlock b3a) g4 (.inl rfl)))
        all_goals
          go_wp2_with fail
          go_roundw
          case rel =>
            exact ⟨k + 1, by omega, by go_num, by rw [HM.out, HX.out]; exact o4, HW.out.grown g4 HW.out.size (fun j e => (HOW.out.low j e).1)⟩
          case measure => simp [RowKit.intOf]; omega
      · have hd : decide ((k : Int) < (n : Int)) = false := by simp; omega
        have e : l.take k = l := List.take_of_length_le (by omega)
        rw [e] at o1
        obtain ⟨ad, cap1, rfl, hc1, hm1, hr1⟩ := o1.any
        have hlm : (l.map fun s => str (tOne s)).length = n := by rw [List.length_map]; exact hln
        rw [hlm] at hr1 hc1
        obtain ⟨g, off, rfl⟩ := hr1.spot (by omega)
        have CJ : Hid (Calls Tryz.prog 30 #[.slice (some ⟨g, off, none⟩) n cap1, .string ⟨#[32, 124, 124, 32]⟩] wr fun e w' => e = .returned (.string (str (tAll l))) ∧ RowKit.Below wr.heap.size wr w') := by
          have hmm : (l.map fun s => str (tOne s)).map (·.data.toList) = l.map tOne := by
            rw [List.map_map]
            exact List.map_congr_left fun s _ => str_list _
          have h := Any.strings_Join Tryz.lays156 Tryz.extra156 g off cap1 (l.map fun s => str (tOne s)) ⟨#[32, 124, 124, 32]⟩ wr (fun j x hx => by
              have := hr1.at_ j x hx 0 _ rfl
              have e : off + j * ET.k + 0 = off + j := by show off + j * 1 + 0 = off + j; omega
              rw [e] at this; exact this) (hr1.lt (by omega)) (by omega) (by omega) (by
              rw [hmm]
              have := join_len [32, 124, 124, 32] 145 (by decide) (l.map tOne) (fun x hx => by obtain ⟨s, hs, rfl⟩ := List.mem_map.1 hx; exact tOne_len (HO.out s hs))
              rw [List.length_map] at this
              show (Lib.join (l.map tOne) [32, 124, 124, 32]).length ≤ _
              omega)
          rw [hlm, hmm] at h
          have et : tAll l = Lib.join (l.map tOne) [32, 124, 124, 32] := by unfold tAll; rw [if_neg (fun e => by rw [e] at hln; simp at hln; omega)]
          rw [et]
          exact h
        have HBr := hide hB
        clear o1 hr1 hB e
        rw [hlm]
        clear hlm hln
        go_wp2_with fail
        refine CJ.out.mono ?_
        rintro e w2 ⟨rfl, b2⟩
        have hB2 := HBr.out.trans (b2.mono HBr.out.size)
        go_wp2_with fail
        go_ret
        exact ⟨rfl, hB2⟩
end Go.Proofs.YthihnpjbdjmbhaaGreatDoor

namespace Go.Sp
set_option linter.unusedVariables false
open Go.Vr Go.Tx

/-- A bumped place. -/
def firstC (a b c : Int) : C := some (⟨a, b, c, ⟨#[48]⟩⟩, false)
def bumpA (v : V) : C := if v.a = 999999 then none else firstC (v.a + 1) 0 0
def bumpB (v : V) : C := if v.b = 999999 then bumpA v else firstC v.a (v.b + 1) 0
def bumpC (v : V) : C := if v.c = 999999 then bumpB v else firstC v.a v.b (v.c + 1)
def bumpL (v : V) : C := if 0 < v.a then bumpA v else if 0 < v.b then bumpB v else bumpC v
theorem ok_first {a b c : Int} (ha : 0 ≤ a ∧ a ≤ 999999) (hb : 0 ≤ b ∧ b ≤ 999999) (hc : 0 ≤ c ∧ c ≤ 999999) : okC (firstC a b c) := by
  rintro p h
  obtain rfl := Option.some.inj h
  have hp : preOk (ByteArray.mk #[48]).data.toList = true := by decide
  show verOk a b c _ = true
  unfold verOk partOk
  simp only [Bool.and_eq_true, decide_eq_true_eq]
  exact ⟨⟨⟨ha, hb⟩, hc⟩, hp⟩
theorem parts_ok {v : V} (h : v.ok = true) : (0 ≤ v.a ∧ v.a ≤ 999999) ∧ (0 ≤ v.b ∧ v.b ≤ 999999) ∧ (0 ≤ v.c ∧ v.c ≤ 999999) := by
  unfold V.ok verOk partOk at h
  simp only [Bool.and_eq_true, decide_eq_true_eq] at h
  exact ⟨h.1.1.1, h.1.1.2, h.1.2⟩
theorem ok_bumpA {v : V} (h : v.ok = true) : okC (bumpA v) := by
  obtain ⟨h1, _, _⟩ := parts_ok h
  unfold bumpA
  split
  · exact ok_end
  · exact ok_first ⟨by omega, by omega⟩ (by omega) (by omega)
theorem ok_bumpB {v : V} (h : v.ok = true) : okC (bumpB v) := by
  obtain ⟨h1, h2, _⟩ := parts_ok h
  unfold bumpB
  split
  · exact ok_bumpA h
  · exact ok_first h1 ⟨by omega, by omega⟩ (by omega)
theorem ok_bumpC {v : V} (h : v.ok = true) : okC (bumpC v) := by
  obtain ⟨h1, h2, h3⟩ := parts_ok h
  unfold bumpC
  split
  · exact ok_bumpB h
  · exact ok_first h1 h2 ⟨by omega, by omega⟩
theorem ok_bumpL {v : V} (h : v.ok = true) : okC (bumpL v) := by
  unfold bumpL
  split
  · exact ok_bumpA h
  · split
    · exact ok_bumpB h
    · exact ok_bumpC h

/-- What a sign ahead of a version says. -/
def signedM (g : Bs) (v : V) : Option (List S) :=
  if g = [] ∨ g = [61] then some (only cmpC (some (v, false)) (some (v, true)))
  else if g = [33, 61] then some (notL (only cmpC (some (v, false)) (some (v, true))))
  else if g = [62] then some (only cmpC (some (v, true)) none)
  else if g = [62, 61] then some (only cmpC (some (v, false)) none)
  else if g = [60] then some (only cmpC start (some (v, false)))
  else if g = [60, 61] then some (only cmpC start (some (v, true)))
  else if g = [94] then some (only cmpC (some (v, false)) (bumpL v))
  else if g = [126] then some (only cmpC (some (v, false)) (bumpB v))
  else none
theorem ok_v {v : V} (h : v.ok = true) (b : Bool) : okC (some (v, b)) := by rintro p e; obtain rfl := Option.some.inj e; exact h
theorem ok_signed {g : Bs} {v : V} {l : List S} (hv : v.ok = true) (h : signedM g v = some l) : okL l ∧ Normed l := by
  have h1 := ok_only (ok_v hv false) (ok_v hv true)
  have n1 : Normed (only cmpC (some (v, false)) (some (v, true))) := nm_only _ _
  unfold signedM at h
  repeat' split at h
  all_goals first
    | (cases h; exact ⟨h1, n1⟩)
    | (cases h; exact ⟨ok_not h1, not_nm n1⟩)
    | (cases h; exact ⟨ok_only (ok_v hv true) ok_end, nm_only _ _⟩)
    | (cases h; exact ⟨ok_only (ok_v hv false) ok_end, nm_only _ _⟩)
    | (cases h; exact ⟨ok_only ok_start (ok_v hv false), nm_only _ _⟩)
    | (cases h; exact ⟨ok_only ok_start (ok_v hv true), nm_only _ _⟩)
    | (cases h; exact ⟨ok_only (ok_v hv false) (ok_bumpL hv), nm_only _ _⟩)
    | (cases h; exact ⟨ok_only (ok_v hv false) (ok_bumpB hv), nm_only _ _⟩)
    | (cases h; done)

/-- One that leaves C, or B and C, open. -/
def wild1 : Option V → Option (List S)
  | some u => if u.p.data.toList = [] then some (only cmpC (firstC u.a 0 0) (bumpA ⟨u.a, 0, 0, ⟨#[48]⟩⟩)) else none
  | none => none
def wild2 (o1 o2 : Option V) : Option (List S) := match o1 with
  | some v => if v.p.data.toList = [] then some (only cmpC (firstC v.a v.b 0) (bumpB ⟨v.a, v.b, 0, ⟨#[48]⟩⟩)) else wild1 o2
  | none => wild1 o2
def wildM (s : Bs) : Option (List S) :=
  if s.drop (s.length - 2) = [46, 120] then wild2 (parse (s.take (s.length - 2) ++ [46, 48])) (parse (s.take (s.length - 2) ++ [46, 48, 46, 48]))
  else none
/-- Where a word's version begins: at its first v, or at its own begin. -/
def vAt (s : Bs) : Nat := (Go.Lib.indexByte s 118).toNat
def meant2 (g : Bs) : Option V → Option (List S)
  | some v => signedM g v
  | none => none
/-- A word. -/
def meantM (s : Bs) : Option (List S) :=
  if s = [42] then some (notL []) else
  match wildM s with
  | some l => some l
  | none => meant2 (s.take (vAt s)) (parse (s.drop (vAt s)))
end Go.Sp

namespace Go.Proofs.YthihnpjbdjmbhaaGreatDoor
set_option linter.unusedSimpArgs false
set_option linter.unusedVariables false
open Go.RowKit Go.Vr Go.Sort Go.Tx Go.Lib
attribute [local go_sem] setCellDrewN allocDrewN

set_option maxHeartbeats 2000000 in
theorem bumpA_any (v : V) (x : Bool) (w : World) (hv : v.ok = true) :
    Calls Tryz.prog 140 #[cutv v.a v.b v.c v.p x false] w fun e w' => e = .returned (pl (Sp.bumpA v)).val ∧ RowKit.Below w.heap.size w w' := by
  have hp := Sp.parts_ok hv
  by_cases h : v.a = 999999
  · have e : Sp.bumpA v = none := if_pos h
    rw [e]
    have CE : Hid (∀ W, Calls Tryz.prog 27 #[] W fun e w' => e = .returned (pl none).val ∧ RowKit.Below W.heap.size W w') := fun W => end_raw W
    clear e
    generalize pl none = u at *
    clear hv hp
    obtain ⟨a, b, c, p⟩ := v
    simp only at h
    subst h
    go_enter Tryz.func140, Tryz.ntmps140
    go_wp2_with fail
    refine (CE.out _).mono ?_
    rintro e w1 ⟨rfl, b1⟩
    obtain ⟨c1, c2, f1, f2, lt, hB⟩ := keep2 b1
    clear b1 CE
    go_wp2_with fail
    exact bodyPost_ret (by simp [results, Tryz.results140, go_sem, *]) rfl ⟨rfl, (by repeat (first | with_reducible assumption | with_reducible exact Below.refl _ _ | with_reducible refine Below.setCell ?_ (by first | exact Nat.le_refl _ | (simp; done) | (simp; omega)) _ | with_reducible refine bal ?_ _ | with_reducible refine Below.alloc ?_ (by first | exact Nat.le_refl _ | (simp; done) | (simp; omega)) _ | with_reducible refine Below.drew ?_))⟩
  · have e : Sp.bumpA v = Sp.firstC (v.a + 1) 0 0 := if_neg h
    have ev : (pl (Sp.firstC (v.a + 1) 0 0)).val = cutv (v.a + 1) 0 0 ⟨#[48]⟩ false false := rfl
    rw [e, ev]
    have CE : Hid (∀ W, Calls Tryz.prog 52 #[.int .i64 (v.a + 1), .int .i64 0, .int .i64 0] W fun e w' => e = .returned (cutv (v.a + 1) 0 0 ⟨#[48]⟩ false false) ∧ RowKit.Below W.heap.size W w') := fun W => first_raw _ _ _ W
    have w1 : wrap64 (v.a + 1) = v.a + 1 := by unfold wrap64; omega
    clear e ev hv hp
    obtain ⟨a, b, c, p⟩ := v
    simp only at h w1 CE ⊢
    go_enter Tryz.func140, Tryz.ntmps140
    go_wp2_with fail
    refine (CE.out _).mono ?_
    rintro e w1 ⟨rfl, b1⟩
    obtain ⟨c1, c2, f1, f2, lt, hB⟩ := keep2 b1
    clear b1 CE
    go_wp2_with fail
    exact bodyPost_ret (by simp [results, Tryz.results140, go_sem, *]) rfl ⟨rfl, (by repeat (first | with_reducible assumption | with_reducible exact Below.refl _ _ | with_reducible refine Below.setCell ?_ (by first | exact Nat.le_refl _ | (simp; done) | (simp; omega)) _ | with_reducible refine bal ?_ _ | with_reducible refine Below.alloc ?_ (by first | exact Nat.le_refl _ | (simp; done) | (simp; omega)) _ | with_reducible refine Below.drew ?_))⟩
set_option maxHeartbeats 2000000 in
theorem bumpB_any (v : V) (x : Bool) (w : World) (hv : v.ok = true) :
    Calls Tryz.prog 139 #[cutv v.a v.b v.c v.p x false] w fun e w' => e = .returned (pl (Sp.bumpB v)).val ∧ RowKit.Below w.heap.size w w' := by
  have hp := Sp.parts_ok hv
  by_cases h : v.b = 999999
  · have e : Sp.bumpB v = Sp.bumpA v := if_pos h
    rw [e]
    have CE : Hid (∀ W, Calls Tryz.prog 140 #[cutv v.a v.b v.c v.p x false] W fun e w' => e = .returned (pl (Sp.bumpA v)).val ∧ RowKit.Below W.heap.size W w') := fun W => bumpA_any v x W hv
    clear e
    generalize pl (Sp.bumpA v) = u at *
    clear hv hp
    obtain ⟨a, b, c, p⟩ := v
    simp only at h
    subst h
    go_enter Tryz.func139, Tryz.ntmps139
    go_wp2_with fail
    refine (CE.out _).mono ?_
    rintro e w1 ⟨rfl, b1⟩
    obtain ⟨c1, c2, f1, f2, lt, hB⟩ := keep2 b1
    clear b1 CE
    go_wp2_with fail
    exact bodyPost_ret (by simp [results, Tryz.results139, go_sem, *]) rfl ⟨rfl, (by repeat (first | with_reducible assumption | with_reducible exact Below.refl _ _ | with_reducible refine Below.setCell ?_ (by first | exact Nat.le_refl _ | (simp; done) | (simp; omega)) _ | with_reducible refine bal ?_ _ | with_reducible refine Below.alloc ?_ (by first | exact Nat.le_refl _ | (simp; done) | (simp; omega)) _ | with_reducible refine Below.drew ?_))⟩
  · have e : Sp.bumpB v = Sp.firstC v.a (v.b + 1) 0 := if_neg h
    have ev : (pl (Sp.firstC v.a (v.b + 1) 0)).val = cutv v.a (v.b + 1) 0 ⟨#[48]⟩ false false := rfl
    rw [e, ev]
    have CE : Hid (∀ W, Calls Tryz.prog 52 #[.int .i64 v.a, .int .i64 (v.b + 1), .int .i64 0] W fun e w' => e = .returned (cutv v.a (v.b + 1) 0 ⟨#[48]⟩ false false) ∧ RowKit.Below W.heap.size W w') := fun W => first_raw _ _ _ W
    have w1 : wrap64 (v.b + 1) = v.b + 1 := by unfold wrap64; omega
    clear e ev hv hp
    obtain ⟨a, b, c, p⟩ := v
    simp only at h w1 CE ⊢
    go_enter Tryz.func139, Tryz.ntmps139
    go_wp2_with fail
    refine (CE.out _).mono ?_
    rintro e w1 ⟨rfl, b1⟩
    obtain ⟨c1, c2, f1, f2, lt, hB⟩ := keep2 b1
    clear b1 CE
    go_wp2_with fail
    exact bodyPost_ret (by simp [results, Tryz.results139, go_sem, *]) rfl ⟨rfl, (by repeat (first | with_reducible assumption | with_reducible exact Below.refl _ _ | with_reducible refine Below.setCell ?_ (by first | exact Nat.le_refl _ | (simp; done) | (simp; omega)) _ | with_reducible refine bal ?_ _ | with_reducible refine Below.alloc ?_ (by first | exact Nat.le_refl _ | (simp; done) | (simp; omega)) _ | with_reducible refine Below.drew ?_))⟩
set_option maxHeartbeats 2000000 in
theorem bumpC_any (v : V) (x : Bool) (w : World) (hv : v.ok = true) :
    Calls Tryz.prog 162 #[cutv v.a v.b v.c v.p x false] w fun e w' => e = .returned (pl (Sp.bumpC v)).val ∧ RowKit.Below w.heap.size w w' := by
  have hp := Sp.parts_ok hv
  by_cases h : v.c = 999999
  · have e : Sp.bumpC v = Sp.bumpB v := if_pos h
    rw [e]
    have CE : Hid (∀ W, Calls Tryz.prog 139 #[cutv v.a v.b v.c v.p x false] W fun e w' => e = .returned (pl (Sp.bumpB v)).val ∧ RowKit.Below W.heap.size W w') := fun W => bumpB_any v x W hv
    clear e
    generalize pl (Sp.bumpB v) = u at *
    clear hv hp
    obtain ⟨a, b, c, p⟩ := v
    simp only at h
    subst h
    go_enter Tryz.func162, Tryz.ntmps162
    go_wp2_with fail
    refine (CE.out _).mono ?_
    rintro e w1 ⟨rfl, b1⟩
    obtain ⟨c1, c2, f1, f2, lt, hB⟩ := keep2 b1
    clear b1 CE
    go_wp2_with fail
    exact bodyPost_ret (by simp [results, Tryz.results162, go_sem, *]) rfl ⟨rfl, (by repeat (first | with_reducible assumption | with_reducible exact Below.refl _ _ | with_reducible refine Below.setCell ?_ (by first | exact Nat.le_refl _ | (simp; done) | (simp; omega)) _ | with_reducible refine bal ?_ _ | with_reducible refine Below.alloc ?_ (by first | exact Nat.le_refl _ | (simp; done) | (simp; omega)) _ | with_reducible refine Below.drew ?_))⟩
  · have e : Sp.bumpC v = Sp.firstC v.a v.b (v.c + 1) := if_neg h
    have ev : (pl (Sp.firstC v.a v.b (v.c + 1))).val = cutv v.a v.b (v.c + 1) ⟨#[48]⟩ false false := rfl
    rw [e, ev]
    have CE : Hid (∀ W, Calls Tryz.prog 52 #[.int .i64 v.a, .int .i64 v.b, .int .i64 (v.c + 1)] W fun e w' => e = .returned (cutv v.a v.b (v.c + 1) ⟨#[48]⟩ false false) ∧ RowKit.Below W.heap.size W w') := fun W => first_raw _ _ _ W
    have w1 : wrap64 (v.c + 1) = v.c + 1 := by unfold wrap64; omega
    clear e ev hv hp
    obtain ⟨a, b, c, p⟩ := v
    simp only at h w1 CE ⊢
    go_enter Tryz.func162, Tryz.ntmps162
    go_wp2_with fail
    refine (CE.out _).mono ?_
    rintro e w1 ⟨rfl, b1⟩
    obtain ⟨c1, c2, f1, f2, lt, hB⟩ := keep2 b1
    clear b1 CE
    go_wp2_with fail
    exact bodyPost_ret (by simp [results, Tryz.results162, go_sem, *]) rfl ⟨rfl, (by repeat (first | with_reducible assumption | with_reducible exact Below.refl _ _ | with_reducible refine Below.setCell ?_ (by first | exact Nat.le_refl _ | (simp; done) | (simp; omega)) _ | with_reducible refine bal ?_ _ | with_reducible refine Below.alloc ?_ (by first | exact Nat.le_refl _ | (simp; done) | (simp; omega)) _ | with_reducible refine Below.drew ?_))⟩
set_option maxHeartbeats 2000000 in
theorem bumpL_any (v : V) (x : Bool) (w : World) (hv : v.ok = true) :
    Calls Tryz.prog 142 #[cutv v.a v.b v.c v.p x false] w fun e w' => e = .returned (pl (Sp.bumpL v)).val ∧ RowKit.Below w.heap.size w w' := by
  have CA : Hid (∀ W, Calls Tryz.prog 140 #[cutv v.a v.b v.c v.p x false] W fun e w' => e = .returned (pl (Sp.bumpA v)).val ∧ RowKit.Below W.heap.size W w') := fun W => bumpA_any v x W hv
  have CB : Hid (∀ W, Calls Tryz.prog 139 #[cutv v.a v.b v.c v.p x false] W fun e w' => e = .returned (pl (Sp.bumpB v)).val ∧ RowKit.Below W.heap.size W w') := fun W => bumpB_any v x W hv
  have CC : Hid (∀ W, Calls Tryz.prog 162 #[cutv v.a v.b v.c v.p x false] W fun e w' => e = .returned (pl (Sp.bumpC v)).val ∧ RowKit.Below W.heap.size W w') := fun W => bumpC_any v x W hv
  by_cases h1 : 0 < v.a
  · have e : Sp.bumpL v = Sp.bumpA v := if_pos h1
    rw [e]
    have CE := CA
    clear CA CB CC e hv
    generalize pl (Sp.bumpA v) = u at *
    obtain ⟨a, b, c, p⟩ := v
    simp only at h1
    go_enter Tryz.func142, Tryz.ntmps142
    go_wp2_with fail
    refine (CE.out _).mono ?_
    rintro e w1 ⟨rfl, b1⟩
    obtain ⟨c1, c2, f1, f2, lt, hB⟩ := keep2 b1
    clear b1 CE
    go_wp2_with fail
    exact bodyPost_ret (by simp [results, Tryz.results142, go_sem, *]) rfl ⟨rfl, (by repeat (first | with_reducible assumption | with_reducible exact Below.refl _ _ | with_reducible refine Below.setCell ?_ (by first | exact Nat.le_refl _ | (simp; done) | (simp; omega)) _ | with_reducible refine bal ?_ _ | with_reducible refine Below.alloc ?_ (by first | exact Nat.le_refl _ | (simp; done) | (simp; omega)) _ | with_reducible refine Below.drew ?_))⟩
  · by_cases h2 : 0 < v.b
    · have e : Sp.bumpL v = Sp.bumpB v := (if_neg h1).trans (if_pos h2)
      rw [e]
      have CE := CB
      clear CA CB CC e hv
      generalize pl (Sp.bumpB v) = u at *
      obtain ⟨a, b, c, p⟩ := v
      simp only at h1 h2
      go_enter Tryz.func142, Tryz.ntmps142
      go_wp2_with fail
      refine (CE.out _).mono ?_
      rintro e w1 ⟨rfl, b1⟩
      obtain ⟨c1, c2, f1, f2, lt, hB⟩ := keep2 b1
      clear b1 CE
      go_wp2_with fail
      exact bodyPost_ret (by simp [results, Tryz.results142, go_sem, *]) rfl ⟨rfl, (by repeat (first | with_reducible assumption | with_reducible exact Below.refl _ _ | with_reducible refine Below.setCell ?_ (by first | exact Nat.le_refl _ | (simp; done) | (simp; omega)) _ | with_reducible refine bal ?_ _ | with_reducible refine Below.alloc ?_ (by first | exact Nat.le_refl _ | (simp; done) | (simp; omega)) _ | with_reducible refine Below.drew ?_))⟩
    · have e : Sp.bumpL v = Sp.bumpC v := (if_neg h1).trans (if_neg h2)
      rw [e]
      have CE := CC
      clear CA CB CC e hv
      generalize pl (Sp.bumpC v) = u at *
      obtain ⟨a, b, c, p⟩ := v
      simp only at h1 h2
      go_enter Tryz.func142, Tryz.ntmps142
      go_wp2_with fail
      refine (CE.out _).mono ?_
      rintro e w1 ⟨rfl, b1⟩
      obtain ⟨c1, c2, f1, f2, lt, hB⟩ := keep2 b1
      clear b1 CE
      go_wp2_with fail
      exact bodyPost_ret (by simp [results, Tryz.results142, go_sem, *]) rfl ⟨rfl, (by repeat (first | with_reducible assumption | with_reducible exact Below.refl _ _ | with_reducible refine Below.setCell ?_ (by first | exact Nat.le_refl _ | (simp; done) | (simp; omega)) _ | with_reducible refine bal ?_ _ | with_reducible refine Below.alloc ?_ (by first | exact Nat.le_refl _ | (simp; done) | (simp; omega)) _ | with_reducible refine Below.drew ?_))⟩
end Go.Proofs.YthihnpjbdjmbhaaGreatDoor

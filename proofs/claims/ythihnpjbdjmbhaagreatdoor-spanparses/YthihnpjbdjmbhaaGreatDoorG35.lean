/-
  The reference's way to read a word that ends in .x is the model's.
  Contracts of the reference's to, tell.
-/
import Derived.Test.YthihnpjbdjmbhaaGreatDoorG30
import Derived.Test.YthihnpjbdjmbhaaGreatDoorG34

namespace Go.Sp
set_option linter.unusedVariables false
open Go.Vr Go.Tx Go.Lib

theorem cut_last {x y u w : Bs} (hu : ∀ c ∈ u, c ≠ (46 : UInt8)) (hw : ∀ c ∈ w, c ≠ (46 : UInt8)) (h : x ++ 46 :: u = y ++ 46 :: w) : x = y ∧ u = w := by
  have e := congrArg List.reverse h
  simp only [List.reverse_append, List.reverse_cons, List.append_assoc, List.singleton_append] at e
  have k := cut_eq (p := fun c => c != 46) (fun b hb => by simpa using hu b (List.mem_reverse.1 hb)) (fun b hb => by simpa using hw b (List.mem_reverse.1 hb)) (by decide) (by decide) e
  exact ⟨List.reverse_inj.1 k.2.2, List.reverse_inj.1 k.1⟩
theorem itoa_nodot {n : Int} (h0 : 0 ≤ n) (h : n ≤ 999999) : ∀ c ∈ itoa n, c ≠ (46 : UInt8) := dig_ne (itoa_ok n h0 (by omega)).2.2.1 46 (by decide)
theorem txt_plain {v : V} (h : v.p.data.toList = []) : txt v = (118 :: (itoa v.a ++ 46 :: itoa v.b)) ++ 46 :: itoa v.c := by
  unfold txt
  rw [h]
  show 118 :: (itoa v.a ++ 46 :: (itoa v.b ++ 46 :: (itoa v.c ++ []))) = _
  simp
theorem itoa_0 : itoa 0 = [48] := by decide +kernel
theorem w1 {t : Bs} {v : V} (h : parse (t ++ [46, 48]) = some v) (hp : v.p.data.toList = []) : t = 118 :: (itoa v.a ++ 46 :: itoa v.b) ∧ v.ok = true := by
  obtain ⟨ok, ht⟩ := parse_some h
  obtain ⟨h1, h2, h3, _⟩ := ok_parts ok
  rw [txt_plain hp] at ht
  exact ⟨(cut_last (itoa_nodot h3.1 h3.2) (by decide) ht).1.symm, ok⟩
theorem w2 {t : Bs} {v : V} (h : parse (t ++ [46, 48, 46, 48]) = some v) (hp : v.p.data.toList = []) : t = 118 :: itoa v.a ∧ v.ok = true := by
  obtain ⟨ok, ht⟩ := parse_some h
  obtain ⟨h1, h2, h3, _⟩ := ok_parts ok
  rw [txt_plain hp] at ht
  have e : t ++ [46, 48, 46, 48] = (t ++ [46, 48]) ++ 46 :: [48] := by simp
  rw [e] at ht
  have k := (cut_last (itoa_nodot h3.1 h3.2) (by decide) ht).1
  have e2 : 118 :: (itoa v.a ++ 46 :: itoa v.b) = (118 :: itoa v.a) ++ 46 :: itoa v.b := rfl
  rw [e2] at k
  exact ⟨(cut_last (itoa_nodot h2.1 h2.2) (by decide) k).1.symm, ok⟩
theorem plain_ok {a b : Int} (ha : 0 ≤ a ∧ a ≤ 999999) (hb : 0 ≤ b ∧ b ≤ 999999) : (V.mk a b 0 ⟨#[]⟩).ok = true := by
  unfold V.ok verOk partOk
  simp [ha.1, ha.2, hb.1, hb.2]
  decide
theorem w1' {a b : Int} (ha : 0 ≤ a ∧ a ≤ 999999) (hb : 0 ≤ b ∧ b ≤ 999999) : parse ((118 :: (itoa a ++ 46 :: itoa b)) ++ [46, 48]) = some ⟨a, b, 0, ⟨#[]⟩⟩ := by
  have h := parse_txt (plain_ok ha hb)
  rw [txt_plain rfl] at h
  rw [← itoa_0]
  exact h
theorem w2' {a : Int} (ha : 0 ≤ a ∧ a ≤ 999999) : parse ((118 :: itoa a) ++ [46, 48, 46, 48]) = some ⟨a, 0, 0, ⟨#[]⟩⟩ := by
  have h := parse_txt (plain_ok ha (b := 0) (by omega))
  rw [txt_plain rfl] at h
  have e : (118 :: itoa a) ++ [46, 48, 46, 48] = (118 :: (itoa a ++ 46 :: itoa 0)) ++ 46 :: itoa 0 := by rw [itoa_0]; simp
  rw [e]
  exact h
/-- What stands between the v and the .x. -/
def wx (s : Bs) : Bs := (s.drop 1).take (s.length - 3)
theorem wx_of (b : Bs) : wx (118 :: (b ++ [46, 120])) = b := by
  unfold wx
  have e : (118 :: (b ++ [46, 120])).length - 3 = b.length := by simp
  rw [e, List.drop_one, List.tail_cons, List.take_left]
def refW (s : Bs) : Option (List S) :=
  if 4 ≤ s.length ∧ s.head? = some 118 ∧ s.drop (s.length - 2) = [46, 120] then
    if ((wx s).takeWhile (· != 46)).length = (wx s).length then
      if okNum ((wx s).takeWhile (· != 46)) = true ∧ numVal ((wx s).takeWhile (· != 46)) ≤ 999999 then some (only cmpC (firstC (numVal ((wx s).takeWhile (· != 46))) 0 0) (bumpA ⟨numVal ((wx s).takeWhile (· != 46)), 0, 0, ⟨#[48]⟩⟩)) else none
    else if (okNum ((wx s).takeWhile (· != 46)) = true ∧ okNum ((wx s).drop (((wx s).takeWhile (· != 46)).length + 1)) = true) ∧ numVal ((wx s).takeWhile (· != 46)) ≤ 999999 ∧ numVal ((wx s).drop (((wx s).takeWhile (· != 46)).length + 1)) ≤ 999999 then
      some (only cmpC (firstC (numVal ((wx s).takeWhile (· != 46))) (numVal ((wx s).drop (((wx s).takeWhile (· != 46)).length + 1))) 0) (bumpB ⟨numVal ((wx s).takeWhile (· != 46)), numVal ((wx s).drop (((wx s).takeWhile (· != 46)).length + 1)), 0, ⟨#[48]⟩⟩))
    else none
  else none
theorem nd_tw {x : Bs} (h : ∀ c ∈ x, c ≠ (46 : UInt8)) : x.takeWhile (· != 46) = x := tw_all fun c hc => by simpa using h c hc
theorem nd_tw2 {x r : Bs} (h : ∀ c ∈ x, c ≠ (46 : UInt8)) : (x ++ 46 :: r).takeWhile (· != 46) = x := tw_stop (fun c hc => by simpa using h c hc) (by decide)
theorem end2 {s : Bs} (h : s.drop (s.length - 2) = [46, 120]) : s = s.take (s.length - 2) ++ [46, 120] := by
  conv => lhs; rw [← List.take_append_drop (s.length - 2) s, h]
theorem refW_two {a b : Int} (ha : 0 ≤ a ∧ a ≤ 999999) (hb : 0 ≤ b ∧ b ≤ 999999) : refW (118 :: ((itoa a ++ 46 :: itoa b) ++ [46, 120])) = some (only cmpC (firstC a b 0) (bumpB ⟨a, b, 0, ⟨#[48]⟩⟩)) := by
  obtain ⟨a1, a2, a3, a4⟩ := itoa_ok a ha.1 (by omega)
  obtain ⟨b1, b2, b3, b4⟩ := itoa_ok b hb.1 (by omega)
  have hd := nd_tw2 (r := itoa b) (itoa_nodot ha.1 ha.2)
  have hl : (118 :: ((itoa a ++ 46 :: itoa b) ++ [46, 120])).length = (itoa a).length + (itoa b).length + 4 := by simp; omega
  have hdr : (118 :: ((itoa a ++ 46 :: itoa b) ++ [46, 120])).drop ((118 :: ((itoa a ++ 46 :: itoa b) ++ [46, 120])).length - 2) = [46, 120] := by
    have e : (118 :: ((itoa a ++ 46 :: itoa b) ++ [46, 120])) = (118 :: (itoa a ++ 46 :: itoa b)) ++ [46, 120] := rfl
    rw [hl, e]
    have e2 : (itoa a).length + (itoa b).length + 4 - 2 = (118 :: (itoa a ++ 46 :: itoa b)).length := by simp; omega
    rw [e2, List.drop_left]
  unfold refW
  rw [if_pos ⟨by rw [hl]; omega, rfl, hdr⟩, wx_of, hd]
  have hne : ¬ (itoa a).length = (itoa a ++ 46 :: itoa b).length := by simp
  have hy : (itoa a ++ 46 :: itoa b).drop ((itoa a).length + 1) = itoa b := by rw [← List.drop_drop, List.drop_left]; rfl
  rw [if_neg hne, hy, a2, b2, if_pos ⟨⟨a1, b1⟩, ha.2, hb.2⟩]
theorem refW_one {a : Int} (ha : 0 ≤ a ∧ a ≤ 999999) : refW (118 :: (itoa a ++ [46, 120])) = some (only cmpC (firstC a 0 0) (bumpA ⟨a, 0, 0, ⟨#[48]⟩⟩)) := by
  obtain ⟨a1, a2, a3, a4⟩ := itoa_ok a ha.1 (by omega)
  have hd := nd_tw (itoa_nodot ha.1 ha.2)
  have hpos : 1 ≤ (itoa a).length := by
    cases h : itoa a with
    | nil => exact absurd h a4
    | cons c t => simp
  have hl : (118 :: (itoa a ++ [46, 120])).length = (itoa a).length + 3 := by simp
  have hdr : (118 :: (itoa a ++ [46, 120])).drop ((118 :: (itoa a ++ [46, 120])).length - 2) = [46, 120] := by
    have e : (118 :: (itoa a ++ [46, 120])) = (118 :: itoa a) ++ [46, 120] := rfl
    rw [hl, e]
    have e2 : (itoa a).length + 3 - 2 = (118 :: itoa a).length := by simp
    rw [e2, List.drop_left]
  unfold refW
  rw [if_pos ⟨by rw [hl]; omega, rfl, hdr⟩, wx_of, hd, if_pos rfl, a2, if_pos ⟨a1, ha.2⟩]
theorem wild_ref (s : Bs) : wildM s = refW s := by
  by_cases he : s.drop (s.length - 2) = [46, 120]
  case neg =>
    unfold wildM refW
    rw [if_neg he, if_neg (fun h => he h.2.2)]
  have hs := end2 he
  generalize htt : s.take (s.length - 2) = t at hs
  have hW : wildM s = wild2 (parse (t ++ [46, 48])) (parse (t ++ [46, 48, 46, 48])) := by unfold wildM; rw [if_pos he, htt]
  by_cases c1 : ∃ a b : Int, (0 ≤ a ∧ a ≤ 999999) ∧ (0 ≤ b ∧ b ≤ 999999) ∧ t = 118 :: (itoa a ++ 46 :: itoa b)
  · obtain ⟨a, b, ha, hb, rfl⟩ := c1
    rw [hW, w1' ha hb, hs]
    exact (refW_two ha hb).symm
  have n1 : wild2 (parse (t ++ [46, 48])) (parse (t ++ [46, 48, 46, 48])) = wild1 (parse (t ++ [46, 48, 46, 48])) := by
    cases e : parse (t ++ [46, 48]) with
    | none => rfl
    | some v =>
      show (if v.p.data.toList = [] then _ else _) = _
      rw [if_neg]
      intro hp
      obtain ⟨h1, h2⟩ := w1 e hp
      obtain ⟨q1, q2, q3, _⟩ := ok_parts h2
      exact c1 ⟨v.a, v.b, q1, q2, h1⟩
  rw [hW, n1]
  by_cases c2 : ∃ a : Int, (0 ≤ a ∧ a ≤ 999999) ∧ t = 118 :: itoa a
  · obtain ⟨a, ha, rfl⟩ := c2
    rw [w2' ha, hs]
    exact (refW_one ha).symm
  have n2 : wild1 (parse (t ++ [46, 48, 46, 48])) = none := by
    cases e : parse (t ++ [46, 48, 46, 48]) with
    | none => rfl
    | some v =>
      show (if v.p.data.toList = [] then _ else _) = _
      rw [if_neg]
      intro hp
      obtain ⟨h1, h2⟩ := w2 e hp
      obtain ⟨q1, q2, q3, _⟩ := ok_parts h2
      exact c2 ⟨v.a, q1, h1⟩
  rw [n2]
  unfold refW
  split
  case isFalse => rfl
  case isTrue hc =>
    obtain ⟨h4, hh, _⟩ := hc
    cases t with
    | nil => rw [hs] at h4; simp at h4
    | cons c b =>
      have hc8 : c = 118 := by rw [hs] at hh; simpa using hh
      subst hc8
      have hwx : wx s = b := by rw [hs]; exact wx_of b
      rw [hwx]
      split
      case isTrue hl =>
        rw [if_neg]
        rintro ⟨k1, k2⟩
        have hb : b.takeWhile (· != 46) = b := (List.takeWhile_prefix _).eq_of_length hl
        rw [hb] at k1 k2
        obtain ⟨g1, g2⟩ := okNum_dec b k1
        exact c2 ⟨numVal b, ⟨g2, k2⟩, by rw [g1]⟩
      case isFalse hl =>
        rw [if_neg]
        rintro ⟨⟨k1, k2⟩, k3, k4⟩
        have hb : b = b.takeWhile (· != 46) ++ b.dropWhile (· != 46) := List.takeWhile_append_dropWhile.symm
        cases hdw : b.dropWhile (· != 46) with
        | nil => rw [hdw, List.append_nil] at hb; exact hl (by rw [← hb])
        | cons d r =>
          have hd46 : d = 46 := by
            have := List.head_dropWhile_not (· != (46 : UInt8)) (l := b) (by rw [hdw]; simp)
            simp only [hdw, List.head_cons] at this
            simpa using this
          subst hd46
          rw [hdw] at hb
          have hy : b.drop ((b.takeWhile (· != 46)).length + 1) = r := by
            conv => lhs; arg 2; rw [hb]
            rw [← List.drop_drop, List.drop_left]; rfl
          rw [hy] at k2 k4
          obtain ⟨g1, g2⟩ := okNum_dec _ k1
          obtain ⟨g3, g4⟩ := okNum_dec _ k2
          exact c1 ⟨_, _, ⟨g2, k3⟩, ⟨g4, k4⟩, by rw [g1, g3, ← hb]⟩
end Go.Sp

namespace Go.Proofs.YthihnpjbdjmbhaaGreatDoor
set_option linter.unusedSimpArgs false
set_option linter.unusedVariables false
open Go.RowKit Go.Vr Go.Sort Go.Tx Go.Lib
attribute [local go_sem] setCellDrewN allocDrewN

/-- Behind a version's part so and so, bumped. -/
def bumpAt (v : V) (k : Int) : Sp.C := if k = 2 then Sp.bumpC v else if k = 1 then Sp.bumpB v else if k = 0 then Sp.bumpA v else none
theorem bumpAt_2 (v : V) : bumpAt v 2 = if v.c = 999999 then bumpAt v 1 else Sp.firstC v.a v.b (v.c + 1) := rfl
theorem bumpAt_1 (v : V) : bumpAt v 1 = if v.b = 999999 then bumpAt v 0 else Sp.firstC v.a (v.b + 1) 0 := rfl
theorem bumpAt_0 (v : V) : bumpAt v 0 = if v.a = 999999 then bumpAt v (-1) else Sp.firstC (v.a + 1) 0 0 := rfl
theorem bumpAt_n (v : V) : bumpAt v (-1) = none := rfl
abbrev sc (v : V) (z : Bool) : Array Value := #[.int .i64 v.a, .int .i64 v.b, .int .i64 v.c, .string v.p, .int .i64 0, .int .i64 0, .int .i64 0, .string ⟨#[]⟩, .bool false, .bool false, .bool z]
abbrev zc : Array Value := #[.int .i64 0, .int .i64 0, .int .i64 0, .string ⟨#[]⟩, .int .i64 0, .int .i64 0, .int .i64 0, .string ⟨#[]⟩, .bool false, .bool false, .bool false]

set_option maxHeartbeats 8000000 in
set_option maxRecDepth 100000 in
theorem rto_any (v : V) (k0 : Int) (W : World) (h0 : k0 = 0 ∨ k0 = 1 ∨ k0 = 2) (hv : (0 ≤ v.a ∧ v.a ≤ 1000000000) ∧ (0 ≤ v.b ∧ v.b ≤ 1000000000) ∧ (0 ≤ v.c ∧ v.c ≤ 1000000000)) :
    Calls Tryz.prog 104 #[ver v.a v.b v.c v.p, .int .i64 k0] W fun e w' => e = .returned (pt (some (v, false), bumpAt v k0)).val ∧ RowKit.Below W.heap.size W w' := by
  obtain ⟨⟨a1, a2⟩, ⟨b1, b2⟩, ⟨c1, c2⟩⟩ := hv
  have wa : wrap64 (v.a + 1) = v.a + 1 := by unfold wrap64; omega
  have wb : wrap64 (v.b + 1) = v.b + 1 := by unfold wrap64; omega
  have wc : wrap64 (v.c + 1) = v.c + 1 := by unfold wrap64; omega
  clear a1 a2 b1 b2 c1 c2
  go_enter Tryz.func104, Tryz.ntmps104
  go_wp2_with fail
  have hB4 : RowKit.Below W.heap.size W ((((W.alloc (.cells #[.int .i64 v.a, .int .i64 v.b, .int .i64 v.c, .string v.p] 37)).alloc (.cells zc 44)).alloc (.cells (sc v false) 44)).alloc (.cells #[.int .i64 v.a, .int .i64 v.b, .int .i64 v.c] 57)) := (by repeat (first | with_reducible assumption | with_reducible exact Below.refl _ _ | with_reducible refine Below.setCell ?_ (by first | exact Nat.le_refl _ | (simp; done) | (simp; omega)) _ | with_reducible refine bal ?_ _ | with_reducible refine Below.alloc ?_ (by first | exact Nat.le_refl _ | (simp; done) | (simp; omega)) _ | with_reducible refine Below.drew ?_))
  have XR := (((Box.new (W.alloc (.cells #[.int .i64 v.a, .int .i64 v.b, .int .i64 v.c, .string v.p] 37)) zc 44).alloc (.cells (sc v false) 44)).alloc (.cells #[.int .i64 v.a, .int .i64 v.b, .int .i64 v.c] 57))
  have XS := ((Box.new ((W.alloc (.cells #[.int .i64 v.a, .int .i64 v.b, .int .i64 v.c, .string v.p] 37)).alloc (.cells zc 44)) (sc v false) 44).alloc (.cells #[.int .i64 v.a, .int .i64 v.b, .int .i64 v.c] 57))
  have XM := (Box.new (((W.alloc (.cells #[.int .i64 v.a, .int .i64 v.b, .int .i64 v.c, .string v.p] 37)).alloc (.cells zc 44)).alloc (.cells (sc v false) 44)) #[.int .i64 v.a, .int .i64 v.b, .int .i64 v.c] 57)
  have z1 : (W.alloc (.cells #[.int .i64 v.a, .int .i64 v.b, .int .i64 v.c, .string v.p] 37)).heap.size = W.heap.size + 1 := by simp
  have z2 : ((W.alloc (.cells #[.int .i64 v.a, .int .i64 v.b, .int .i64 v.c, .string v.p] 37)).alloc (.cells zc 44)).heap.size = W.heap.size + 1 + 1 := by simp
  have z3 : (((W.alloc (.cells #[.int .i64 v.a, .int .i64 v.b, .int .i64 v.c, .string v.p] 37)).alloc (.cells zc 44)).alloc (.cells (sc v false) 44)).heap.size = W.heap.size + 1 + 1 + 1 := by simp
  rw [z1] at XR
  rw [z2] at XS
  rw [z3] at XM
  clear z1 z2 z3
  generalize ((((W.alloc (.cells #[.int .i64 v.a, .int .i64 v.b, .int .i64 v.c, .string v.p] 37)).alloc (.cells zc 44)).alloc (.cells (sc v false) 44)).alloc (.cells #[.int .i64 v.a, .int .i64 v.b, .int .i64 v.c] 57)) = W4 at *
  have HXR := hide XR
  have HXS := hide XS
  have HXM := hide XM
  have HB4 := hide hB4
  clear XR XS XM hB4
  go_loopw [1] (fun x wr => ∃ k : Int, x = .int .i64 k ∧ (k = -1 ∨ k = 0 ∨ k = 1 ∨ k = 2) ∧ wr = W4 ∧ Hid (bumpAt v k0 = bumpAt v k)) (fun x _ => (RowKit.intOf x + 1).toNat)
  case atStart => exact ⟨k0, rfl, by omega, rfl, hide rfl⟩
  case round =>
    obtain ⟨k, rfl, hk, rfl, HK⟩ := hrel
    obtain ⟨_, cM, fM⟩ := HXM.out
    obtain ⟨_, cS, fS⟩ := HXS.out
    obtain ⟨_, cR, fR⟩ := HXR.out
    rcases hk with rfl | rfl | rfl | rfl
    · rw [bumpAt_n] at HK
      go_wp2_with fail
      have hb9 := HB4.out
      exact bodyPost_ret (v := (pt (some (v, false), none)).val) (by simp [results, Tryz.results104, go_sem, *]; exact ⟨rfl, rfl, rfl, rfl, rfl, rfl, rfl, rfl, rfl, rfl, rfl⟩) rfl ⟨by rw [HK.out], (by repeat (first | with_reducible assumption | with_reducible exact Below.refl _ _ | with_reducible refine Below.setCell ?_ (by first | exact Nat.le_refl _ | (simp; done) | (simp; omega)) _ | with_reducible refine bal ?_ _ | with_reducible refine Below.alloc ?_ (by first | exact Nat.le_refl _ | (simp; done) | (simp; omega)) _ | with_reducible refine Below.drew ?_))⟩
    · rw [bumpAt_0] at HK
      by_cases hx : v.a = 999999
      · rw [if_pos hx] at HK
        go_wp2_with fail
        go_roundw
        case rel => exact ⟨-1, by first | rfl | go_num, by omega, by first | rfl | trivial, HK⟩
        case measure => simp [RowKit.intOf]
      · rw [if_neg hx] at HK
        have hx2 : (v.a == 999999) = false := by simpa using hx
        go_wp2_with fail
        go_loopw [7] (fun x wq => ∃ (i : Nat) (x0 x1 x2 : Int), x = .int .i64 i ∧ Hid (Box wq (W.heap.size + 1) zc) ∧ Hid (Box wq (W.heap.size + 1 + 1) (sc v false)) ∧ Hid (Box wq (W.heap.size + 1 + 1 + 1) #[.int .i64 x0, .int .i64 x1, .int .i64 x2]) ∧ Hid (RowKit.Below W.heap.size W wq) ∧ ((i = 0 ∧ x0 = v.a ∧ x1 = v.b ∧ x2 = v.c) ∨ (i = 1 ∧ x0 = v.a + 1 ∧ x1 = v.b ∧ x2 = v.c) ∨ (i = 2 ∧ x0 = v.a + 1 ∧ x1 = 0 ∧ x2 = v.c) ∨ (i = 3 ∧ x0 = v.a + 1 ∧ x1 = 0 ∧ x2 = 0))) (fun x _ => 3 - (RowKit.intOf x).toNat)
        case atStart => exact ⟨0, v.a, v.b, v.c, rfl, HXR, HXS, HXM, HB4, .inl ⟨rfl, rfl, rfl, rfl⟩⟩
        case round =>
          clear cM fM cS fS cR fR
          obtain ⟨i, x0, x1, x2, rfl, YR, YS, YM, HB, hst⟩ := hrel
          obtain ⟨_, cM, fM⟩ := YM.out
          obtain ⟨_, cS, fS⟩ := YS.out
          obtain ⟨_, cR, fR⟩ := YR.out
          rcases hst with ⟨rfl, rfl, rfl, rfl⟩ | ⟨rfl, rfl, rfl, rfl⟩ | ⟨rfl, rfl, rfl, rfl⟩ | ⟨rfl, rfl, rfl, rfl⟩
          · go_wp2_with fail
            go_roundw
            case rel => exact ⟨1, v.a + 1, v.b, v.c, by go_num, hide (YR.out.kept (grownBy_setCell _ _ _ _) (fun e => by have := Option.some.inj e; omega)), hide (YS.out.kept (grownBy_setCell _ _ _ _) (fun e => by have := Option.some.inj e; omega)), hide (YM.out.set 0 _ (by simp)), hide (HB.out.setCell (by simp; omega) _), .inr (.inl ⟨rfl, rfl, rfl, rfl⟩)⟩
            case measure => simp [RowKit.intOf]
          · go_wp2_with fail
            go_roundw
            case rel => exact ⟨2, v.a + 1, 0, v.c, by go_num, hide (YR.out.kept (grownBy_setCell _ _ _ _) (fun e => by have := Option.some.inj e; omega)), hide (YS.out.kept (grownBy_setCell _ _ _ _) (fun e => by have := Option.some.inj e; omega)), hide (YM.out.set 1 _ (by simp)), hide (HB.out.setCell (by simp; omega) _), .inr (.inr (.inl ⟨rfl, rfl, rfl, rfl⟩))⟩
            case measure => simp [RowKit.intOf]
          · go_wp2_with fail
            go_roundw
            case rel => exact ⟨3, v.a + 1, 0, 0, by go_num, hide (YR.out.kept (grownBy_setCell _ _ _ _) (fun e => by have := Option.some.inj e; omega)), hide (YS.out.kept (grownBy_setCell _ _ _ _) (fun e => by have := Option.some.inj e; omega)), hide (YM.out.set 2 _ (by simp)), hide (HB.out.setCell (by simp; omega) _), .inr (.inr (.inr (⟨rfl, rfl, rfl, rfl⟩)))⟩
            case measure => simp [RowKit.intOf]
          · go_wp2_with fail
            have hb9 := HB.out
            exact bodyPost_ret (v := (pt (some (v, false), Sp.firstC (v.a + 1) (0) (0))).val) (by simp [results, Tryz.results104, go_sem, *]; exact ⟨rfl, rfl, rfl, rfl, rfl, rfl, rfl, rfl, rfl, rfl, rfl⟩) rfl ⟨by rw [HK.out], (by repeat (first | with_reducible assumption | with_reducible exact Below.refl _ _ | with_reducible refine Below.setCell ?_ (by first | exact Nat.le_refl _ | (simp; done) | (simp; omega)) _ | with_reducible refine bal ?_ _ | with_reducible refine Below.alloc ?_ (by first | exact Nat.le_refl _ | (simp; done) | (simp; omega)) _ | with_reducible refine Below.drew ?_))⟩
    · rw [bumpAt_1] at HK
      by_cases hx : v.b = 999999
      · rw [if_pos hx] at HK
        go_wp2_with fail
        go_roundw
        case rel => exact ⟨0, by first | rfl | go_num, by omega, by first | rfl | trivial, HK⟩
        case measure => simp [RowKit.intOf]
      · rw [if_neg hx] at HK
        have hx2 : (v.b == 999999) = false := by simpa using hx
        go_wp2_with fail
        go_loopw [7] (fun x wq => ∃ (i : Nat) (x0 x1 x2 : Int), x = .int .i64 i ∧ Hid (Box wq (W.heap.size + 1) zc) ∧ Hid (Box wq (W.heap.size + 1 + 1) (sc v false)) ∧ Hid (Box wq (W.heap.size + 1 + 1 + 1) #[.int .i64 x0, .int .i64 x1, .int .i64 x2]) ∧ Hid (RowKit.Below W.heap.size W wq) ∧ ((i = 0 ∧ x0 = v.a ∧ x1 = v.b ∧ x2 = v.c) ∨ (i = 1 ∧ x0 = v.a ∧ x1 = v.b ∧ x2 = v.c) ∨ (i = 2 ∧ x0 = v.a ∧ x1 = v.b + 1 ∧ x2 = v.c) ∨ (i = 3 ∧ x0 = v.a ∧ x1 = v.b + 1 ∧ x2 = 0))) (fun x _ => 3 - (RowKit.intOf x).toNat)
        case atStart => exact ⟨0, v.a, v.b, v.c, rfl, HXR, HXS, HXM, HB4, .inl ⟨rfl, rfl, rfl, rfl⟩⟩
        case round =>
          clear cM fM cS fS cR fR
          obtain ⟨i, x0, x1, x2, rfl, YR, YS, YM, HB, hst⟩ := hrel
          obtain ⟨_, cM, fM⟩ := YM.out
          obtain ⟨_, cS, fS⟩ := YS.out
          obtain ⟨_, cR, fR⟩ := YR.out
          rcases hst with ⟨rfl, rfl, rfl, rfl⟩ | ⟨rfl, rfl, rfl, rfl⟩ | ⟨rfl, rfl, rfl, rfl⟩ | ⟨rfl, rfl, rfl, rfl⟩
          · go_wp2_with fail
            go_roundw
            case rel => exact ⟨1, v.a, v.b, v.c, by go_num, YR, YS, YM, HB, .inr (.inl ⟨rfl, rfl, rfl, rfl⟩)⟩
            case measure => simp [RowKit.intOf]
          · go_wp2_with fail
            go_roundw
            case rel => exact ⟨2, v.a, v.b + 1, v.c, by go_num, hide (YR.out.kept (grownBy_setCell _ _ _ _) (fun e => by have := Option.some.inj e; omega)), hide (YS.out.kept (grownBy_setCell _ _ _ _) (fun e => by have := Option.some.inj e; omega)), hide (YM.out.set 1 _ (by simp)), hide (HB.out.setCell (by simp; omega) _), .inr (.inr (.inl ⟨rfl, rfl, rfl, rfl⟩))⟩
            case measure => simp [RowKit.intOf]
          · go_wp2_with fail
            go_roundw
            case rel => exact ⟨3, v.a, v.b + 1, 0, by go_num, hide (YR.out.kept (grownBy_setCell _ _ _ _) (fun e => by have := Option.some.inj e; omega)), hide (YS.out.kept (grownBy_setCell _ _ _ _) (fun e => by have := Option.some.inj e; omega)), hide (YM.out.set 2 _ (by simp)), hide (HB.out.setCell (by simp; omega) _), .inr (.inr (.inr (⟨rfl, rfl, rfl, rfl⟩)))⟩
            case measure => simp [RowKit.intOf]
          · go_wp2_with fail
            have hb9 := HB.out
            exact bodyPost_ret (v := (pt (some (v, false), Sp.firstC (v.a) (v.b + 1) (0))).val) (by simp [results, Tryz.results104, go_sem, *]; exact ⟨rfl, rfl, rfl, rfl, rfl, rfl, rfl, rfl, rfl, rfl, rfl⟩) rfl ⟨by rw [HK.out], (by repeat (first | with_reducible assumption | with_reducible exact Below.refl _ _ | with_reducible refine Below.setCell ?_ (by first | exact Nat.le_refl _ | (simp; done) | (simp; omega)) _ | with_reducible refine bal ?_ _ | with_reducible refine Below.alloc ?_ (by first | exact Nat.le_refl _ | (simp; done) | (simp; omega)) _ | with_reducible refine Below.drew ?_))⟩
    · rw [bumpAt_2] at HK
      by_cases hx : v.c = 999999
      · rw [if_pos hx] at HK
        go_wp2_with fail
        go_roundw
        case rel => exact ⟨1, by first | rfl | go_num, by omega, by first | rfl | trivial, HK⟩
        case measure => simp [RowKit.intOf]
      · rw [if_neg hx] at HK
        have hx2 : (v.c == 999999) = false := by simpa using hx
        go_wp2_with fail
        go_loopw [7] (fun x wq => ∃ (i : Nat) (x0 x1 x2 : Int), x = .int .i64 i ∧ Hid (Box wq (W.heap.size + 1) zc) ∧ Hid (Box wq (W.heap.size + 1 + 1) (sc v false)) ∧ Hid (Box wq (W.heap.size + 1 + 1 + 1) #[.int .i64 x0, .int .i64 x1, .int .i64 x2]) ∧ Hid (RowKit.Below W.heap.size W wq) ∧ ((i = 0 ∧ x0 = v.a ∧ x1 = v.b ∧ x2 = v.c) ∨ (i = 1 ∧ x0 = v.a ∧ x1 = v.b ∧ x2 = v.c) ∨ (i = 2 ∧ x0 = v.a ∧ x1 = v.b ∧ x2 = v.c) ∨ (i = 3 ∧ x0 = v.a ∧ x1 = v.b ∧ x2 = v.c + 1))) (fun x _ => 3 - (RowKit.intOf x).toNat)
        case atStart => exact ⟨0, v.a, v.b, v.c, rfl, HXR, HXS, HXM, HB4, .inl ⟨rfl, rfl, rfl, rfl⟩⟩
        case round =>
          clear cM fM cS fS cR fR
          obtain ⟨i, x0, x1, x2, rfl, YR, YS, YM, HB, hst⟩ := hrel
          obtain ⟨_, cM, fM⟩ := YM.out
          obtain ⟨_, cS, fS⟩ := YS.out
          obtain ⟨_, cR, fR⟩ := YR.out
          rcases hst with ⟨rfl, rfl, rfl, rfl⟩ | ⟨rfl, rfl, rfl, rfl⟩ | ⟨rfl, rfl, rfl, rfl⟩ | ⟨rfl, rfl, rfl, rfl⟩
          · go_wp2_with fail
            go_roundw
            case rel => exact ⟨1, v.a, v.b, v.c, by go_num, YR, YS, YM, HB, .inr (.inl ⟨rfl, rfl, rfl, rfl⟩)⟩
            case measure => simp [RowKit.intOf]
          · go_wp2_with fail
            go_roundw
            case rel => exact ⟨2, v.a, v.b, v.c, by go_num, YR, YS, YM, HB, .inr (.inr (.inl ⟨rfl, rfl, rfl, rfl⟩))⟩
            case measure => simp [RowKit.intOf]
          · go_wp2_with fail
            go_roundw
            case rel => exact ⟨3, v.a, v.b, v.c + 1, by go_num, hide (YR.out.kept (grownBy_setCell _ _ _ _) (fun e => by have := Option.some.inj e; omega)), hide (YS.out.kept (grownBy_setCell _ _ _ _) (fun e => by have := Option.some.inj e; omega)), hide (YM.out.set 2 _ (by simp)), hide (HB.out.setCell (by simp; omega) _), .inr (.inr (.inr (⟨rfl, rfl, rfl, rfl⟩)))⟩
            case measure => simp [RowKit.intOf]
          · go_wp2_with fail
            have hb9 := HB.out
            exact bodyPost_ret (v := (pt (some (v, false), Sp.firstC (v.a) (v.b) (v.c + 1))).val) (by simp [results, Tryz.results104, go_sem, *]; exact ⟨rfl, rfl, rfl, rfl, rfl, rfl, rfl, rfl, rfl, rfl, rfl⟩) rfl ⟨by rw [HK.out], (by repeat (first | with_reducible assumption | with_reducible exact Below.refl _ _ | with_reducible refine Below.setCell ?_ (by first | exact Nat.le_refl _ | (simp; done) | (simp; omega)) _ | with_reducible refine bal ?_ _ | with_reducible refine Below.alloc ?_ (by first | exact Nat.le_refl _ | (simp; done) | (simp; omega)) _ | with_reducible refine Below.drew ?_))⟩
end Go.Proofs.YthihnpjbdjmbhaaGreatDoor

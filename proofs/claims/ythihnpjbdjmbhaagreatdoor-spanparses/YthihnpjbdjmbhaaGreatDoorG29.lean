/-
  The laws of sets, at rows of spans.
  What texts of one word, of two versions with a bar between say.
-/
import Derived.Test.YthihnpjbdjmbhaaGreatDoorG28
import Derived.Test.YthihnpjbdjmbhaaGreatDoorG24

namespace Go.Sp
set_option linter.unusedVariables false
open Go.Vr Go.Tx

/-- A row that may be, normed. -/
structure Row (l : List S) : Prop where
  nm : Normed l
  ok : okL l
theorem Row.nil : Row [] := ⟨trivial, fun _ h => nomatch h⟩
theorem Row.nrm {l : List S} (h : okL l) : Row (nrm l) := ⟨nrm_nm l, ok_nrm h⟩
theorem Row.not {l : List S} (h : Row l) : Row (notL l) := ⟨not_nm h.nm, ok_not h.ok⟩
theorem ok_two {a b : List S} (ha : okL a) (hb : okL b) : okL [a, b].flatten := by
  intro s hs
  simp only [List.flatten_cons, List.flatten_nil, List.append_nil, List.mem_append] at hs
  exact hs.elim (ha s) (hb s)
theorem ok_three {a b c : List S} (ha : okL a) (hb : okL b) (hc : okL c) : okL [a, b, c].flatten := by
  intro s hs
  simp only [List.flatten_cons, List.flatten_nil, List.append_nil, List.mem_append] at hs
  exact hs.elim (ha s) fun h => h.elim (hb s) (hc s)
theorem Row.or {a b : List S} (ha : Row a) (hb : Row b) : Row (Sp.nrm [a, b].flatten) := Row.nrm (ok_two ha.ok hb.ok)
theorem mem_two {P : List S → Prop} {a b : List S} (ha : P a) (hb : P b) : ∀ l ∈ [a, b], P l := by
  intro l hl
  rcases List.mem_cons.1 hl with rfl | hl
  · exact ha
  · rw [List.mem_singleton.1 hl]; exact hb
theorem Row.and {a b : List S} (ha : Row a) (hb : Row b) : Row (allL [a, b]) := ⟨all_nm _, ok_all (mem_two ha.ok hb.ok)⟩
/-- Between the first version and the end. -/
def InR (x : C) : Prop := cmpC start x ≤ 0 ∧ cmpC x none < 0
theorem Row.range {a : List S} (h : Row a) {x : C} (k : Has a x) : InR x := has_range h.ok k
theorem has_not {a : List S} (h : Row a) (x : C) : Has (notL a) x ↔ InR x ∧ ¬ Has a x := by rw [not_has h.nm h.ok]; unfold InR; exact ⟨fun ⟨p, q, r⟩ => ⟨⟨p, q⟩, r⟩, fun ⟨⟨p, q⟩, r⟩ => ⟨p, q, r⟩⟩
theorem has_or (a b : List S) (x : C) : Has (Sp.nrm [a, b].flatten) x ↔ Has a x ∨ Has b x := by
  rw [nrm_has, has_flat]
  constructor
  · rintro ⟨l, hl, h⟩
    rcases List.mem_cons.1 hl with rfl | hl
    · exact .inl h
    · rw [List.mem_singleton.1 hl] at h; exact .inr h
  · rintro (h | h)
    · exact ⟨a, by simp, h⟩
    · exact ⟨b, by simp, h⟩
theorem has_or3 (a b c : List S) (x : C) : Has (Sp.nrm [a, b, c].flatten) x ↔ Has a x ∨ Has b x ∨ Has c x := by
  rw [nrm_has, has_flat]
  constructor
  · rintro ⟨l, hl, h⟩
    rcases List.mem_cons.1 hl with rfl | hl
    · exact .inl h
    · rcases List.mem_cons.1 hl with rfl | hl
      · exact .inr (.inl h)
      · rw [List.mem_singleton.1 hl] at h; exact .inr (.inr h)
  · rintro (h | h | h)
    · exact ⟨a, by simp, h⟩
    · exact ⟨b, by simp, h⟩
    · exact ⟨c, by simp, h⟩
theorem has_and {a b : List S} (ha : Row a) (hb : Row b) (x : C) : Has (allL [a, b]) x ↔ Has a x ∧ Has b x := by
  rw [all_has (mem_two ha.nm hb.nm) (mem_two ha.ok hb.ok)]
  constructor
  · rintro ⟨_, _, h⟩; exact ⟨h a (by simp), h b (by simp)⟩
  · rintro ⟨h, k⟩; exact ⟨(ha.range h).1, (ha.range h).2, mem_two (P := fun l => Has l x) h k⟩
theorem row_eq {a b : List S} (ha : Row a) (hb : Row b) (h : ∀ x, Has a x ↔ Has b x) : a = b := unique ord_cut a b ha.nm hb.nm h
open Classical in
theorem not_not_row {a : List S} (h : Row a) : notL (notL a) = a := row_eq h.not.not h fun x => by
  rw [has_not h.not, has_not h]
  constructor
  · rintro ⟨r, k⟩; exact Classical.byContradiction fun n => k ⟨r, n⟩
  · intro k; exact ⟨h.range k, fun n => n.2 k⟩
theorem not_or_row {a b : List S} (ha : Row a) (hb : Row b) : notL (Sp.nrm [a, b].flatten) = allL [notL a, notL b] := row_eq (ha.or hb).not (ha.not.and hb.not) fun x => by
  rw [has_not (ha.or hb), has_and ha.not hb.not, has_or, has_not ha, has_not hb]
  constructor
  · rintro ⟨r, k⟩; exact ⟨⟨r, fun h => k (.inl h)⟩, r, fun h => k (.inr h)⟩
  · rintro ⟨⟨r, k⟩, _, m⟩; exact ⟨r, fun h => h.elim k m⟩
theorem and_or_row {a b c : List S} (ha : Row a) (hb : Row b) (hc : Row c) : allL [a, Sp.nrm [b, c].flatten] = Sp.nrm [allL [a, b], allL [a, c]].flatten := row_eq (ha.and (hb.or hc)) ((ha.and hb).or (ha.and hc)) fun x => by
  rw [has_and ha (hb.or hc), has_or, has_or, has_and ha hb, has_and ha hc]
  constructor
  · rintro ⟨h, k | k⟩
    · exact .inl ⟨h, k⟩
    · exact .inr ⟨h, k⟩
  · rintro (⟨h, k⟩ | ⟨h, k⟩)
    · exact ⟨h, .inl k⟩
    · exact ⟨h, .inr k⟩
theorem or_not_row {a : List S} (ha : Row a) : Sp.nrm [a, notL a].flatten = notL [] := row_eq (ha.or ha.not) Row.nil.not fun x => by
  rw [has_or, has_not ha, has_not Row.nil]
  constructor
  · rintro (h | h)
    · exact ⟨ha.range h, in_nil x⟩
    · exact ⟨h.1, in_nil x⟩
  · rintro ⟨r, _⟩
    by_cases h : Has a x
    · exact .inl h
    · exact .inr ⟨r, h⟩
theorem and_not_row {a : List S} (ha : Row a) : allL [a, notL a] = [] := row_eq (ha.and ha.not) Row.nil fun x => by
  rw [has_and ha ha.not, has_not ha]
  exact ⟨fun h => absurd h.1 h.2.2, fun h => absurd h (in_nil x)⟩
theorem or_one_row {a : List S} (ha : Row a) : Sp.nrm [a].flatten = a := by
  have e : [a].flatten = a := by simp
  rw [e]; exact nrm_same ha.nm
theorem or_none : Sp.nrm ([] : List (List S)).flatten = [] := rfl
theorem or_comm_row {a b : List S} (ha : Row a) (hb : Row b) : Sp.nrm [b, a].flatten = Sp.nrm [a, b].flatten := row_eq (hb.or ha) (ha.or hb) fun x => by
  rw [has_or, has_or]; exact or_comm
/-- As the reference writes them. -/
theorem or_app {a b : List S} : Sp.nrm (a ++ b) = Sp.nrm [a, b].flatten := by
  have e : [a, b].flatten = a ++ b := by simp
  rw [e]
theorem or_or {a b c : List S} (ha : Row a) (hb : Row b) (hc : Row c) : Sp.nrm (Sp.nrm (a ++ b) ++ c) = Sp.nrm [a, b, c].flatten := by
  rw [or_app, or_app]
  refine row_eq ((ha.or hb).or hc) (Row.nrm (ok_three ha.ok hb.ok hc.ok)) fun x => ?_
  rw [has_or, has_or, has_or3, or_assoc]
theorem and_ref (a b : List S) : notL (Sp.nrm (notL a ++ notL b)) = allL [a, b] := by
  unfold allL
  have e : [a, b].flatMap notL = notL a ++ notL b := by simp
  rw [e]
end Go.Sp

namespace Go.Sp
set_option linter.unusedVariables false
open Go.Vr Go.Tx Go.Lib

theorem tw_all {p : UInt8 → Bool} : ∀ {l : Bs}, (∀ c ∈ l, p c = true) → l.takeWhile p = l
  | [], _ => rfl
  | c :: l, h => by rw [List.takeWhile_cons_of_pos (h c (by simp)), tw_all fun d hd => h d (by simp [hd])]
theorem tw_stop {p : UInt8 → Bool} : ∀ {l r : Bs} {d : UInt8}, (∀ c ∈ l, p c = true) → p d = false → (l ++ d :: r).takeWhile p = l
  | [], r, d, _, hd => by rw [List.nil_append, List.takeWhile_cons_of_neg (by rw [hd]; decide)]
  | c :: l, r, d, h, hd => by rw [List.cons_append, List.takeWhile_cons_of_pos (h c (by simp)), tw_stop (fun e he => h e (by simp [he])) hd]
theorem vb_w {c : UInt8} (h : isVb c = true) : isW c = true := by
  unfold isW
  rw [Bool.not_eq_true', Bool.or_eq_false_iff]
  constructor
  · rw [beq_eq_false_iff_ne]; rintro rfl; exact absurd h (by decide)
  · rw [beq_eq_false_iff_ne]; rintro rfl; exact absurd h (by decide)
theorem bl_stay {s : Bs} {p : Nat} (h : ∀ c, s[p]? = some c → c ≠ 32) : blM s p = p := by
  unfold blM
  have : (s.drop p).takeWhile (· == 32) = [] := by
    cases e : s.drop p with
    | nil => rfl
    | cons c r =>
      have hc : s[p]? = some c := by
        have := congrArg (·[0]?) e
        simpa using this
      rw [List.takeWhile_cons_of_neg (by simpa using h c hc)]
  rw [this]; rfl
theorem bl_end (s : Bs) : blM s s.length = s.length := bl_stay (by intro c h; rw [List.getElem?_eq_none (Nat.le_refl _)] at h; exact nomatch h)
theorem all_one {l : List S} (h : Row l) : allL [l] = l := row_eq ⟨all_nm _, ok_all (by simpa using h.ok)⟩ h fun x => by
  rw [all_has (by simpa using h.nm) (by simpa using h.ok)]
  constructor
  · rintro ⟨_, _, k⟩; exact k l (by simp)
  · intro k; exact ⟨(h.range k).1, (h.range k).2, by simpa using k⟩
/-- One item up to the end. -/
theorem parse_item {s : Bs} {l : List S} (hl : Row l) (h0 : ∀ c, s[0]? = some c → c ≠ 32) (hi : itemM s 0 = (some l, s.length)) : parseS s = (some l, s.length) := by
  have hp : partM s 0 = (some l, s.length) := by
    unfold partM
    rw [bl_stay h0]
    unfold partG
    rw [hi]
    simp only
    rw [bl_end, if_pos (.inl rfl), List.nil_append, all_one hl]
  unfold parseS partsG
  rw [hp]
  show (if s.length = s.length then (some (nrm ([] ++ [l]).flatten), s.length) else _) = _
  rw [if_pos rfl, List.nil_append, or_one_row hl]
theorem word_whole {s : Bs} (hw : ∀ c ∈ s, isW c = true) : wordM s 0 = s := by unfold wordM; rw [List.drop_zero]; exact tw_all hw
theorem word_end (s : Bs) : wordM s s.length = [] := by unfold wordM; rw [List.drop_length]; rfl
theorem parse_word {s : Bs} {l : List S} (hl : Row l) (hw : ∀ c ∈ s, isW c = true) (hm : meantM s = some l) : parseS s = (some l, s.length) := by
  have h0 : ∀ c, s[0]? = some c → c ≠ 32 := by rintro c hc rfl; exact absurd (hw 32 (List.mem_of_getElem? hc)) (by decide)
  refine parse_item hl h0 ?_
  unfold itemM
  rw [word_whole hw, hm]
  simp only [Nat.zero_add]
  rw [bl_end]
  unfold item1
  cases parse s with
  | none => rfl
  | some v => simp only; rw [if_neg (by rw [word_end]; decide)]

/-- A version written with a sign ahead. -/
theorem pre_minus {u : V} (ho : u.ok = true) (h : (45 : UInt8) ∈ txt u) : u.p.data.toList ≠ [] := by
  intro e
  obtain ⟨h1, h2, h3, _⟩ := ok_parts ho
  have i1 := dig_ne (itoa_ok u.a h1.1 (by omega)).2.2.1 45 (by decide)
  have i2 := dig_ne (itoa_ok u.b h2.1 (by omega)).2.2.1 45 (by decide)
  have i3 := dig_ne (itoa_ok u.c h3.1 (by omega)).2.2.1 45 (by decide)
  unfold txt tail at h
  rw [if_pos e] at h
  simp only [List.mem_cons, List.mem_append, List.not_mem_nil, or_false] at h
  rcases h with h | h | h | h | h | h
  · exact absurd h (by decide)
  · exact i1 _ h rfl
  · exact absurd h (by decide)
  · exact i2 _ h rfl
  · exact absurd h (by decide)
  · exact i3 _ h rfl
theorem parse_minus {y : Bs} {u : V} (h : parse y = some u) (hm : (45 : UInt8) ∈ y) : u.p.data.toList ≠ [] := by
  obtain ⟨h1, h2⟩ := parse_some h
  exact pre_minus h1 (by rw [h2]; exact hm)
theorem wild_minus {s : Bs} (h : (45 : UInt8) ∈ s.take (s.length - 2)) : wildM s = none := by
  have w1 : ∀ y, (45 : UInt8) ∈ y → wild1 (parse y) = none := by
    intro y hy
    cases e : parse y with
    | none => rfl
    | some u => exact if_neg (parse_minus e hy)
  unfold wildM
  split
  · unfold wild2
    have k1 := w1 (s.take (s.length - 2) ++ [46, 48, 46, 48]) (by simp [h])
    cases e : parse (s.take (s.length - 2) ++ [46, 48]) with
    | none => exact k1
    | some u =>
      simp only
      rw [if_neg (parse_minus e (by simp [h]))]
      exact k1
  · rfl
theorem wild_txt (g : Bs) {v : V} (h : v.ok = true) : wildM (g ++ txt v) = none := by
  obtain ⟨h1, h2, h3, h4⟩ := ok_parts h
  by_cases hx : (g ++ txt v).drop ((g ++ txt v).length - 2) = [46, 120]
  · have hne : v.p.data.toList ≠ [] := by
      intro e
      have i3 := itoa_ok v.c h3.1 (by omega)
      have hd := dig_ne i3.2.2.1 120 (by decide)
      have e2 : g ++ txt v = (g ++ 118 :: (itoa v.a ++ 46 :: (itoa v.b ++ [46]))) ++ itoa v.c := by unfold txt tail; rw [if_pos e]; simp
      have hl : (g ++ txt v).getLast? = some 120 := by
        rw [← List.take_append_drop ((g ++ txt v).length - 2) (g ++ txt v), hx, List.getLast?_append]; rfl
      rw [e2, List.getLast?_append] at hl
      cases e3 : (itoa v.c).getLast? with
      | none => exact i3.2.2.2 (List.getLast?_eq_none_iff.1 e3)
      | some c =>
        rw [e3] at hl
        have : c = 120 := by simpa using hl
        exact hd c (List.mem_of_getLast? e3) this
    refine wild_minus ?_
    have e2 : g ++ txt v = (g ++ 118 :: (itoa v.a ++ 46 :: (itoa v.b ++ 46 :: itoa v.c))) ++ 45 :: v.p.data.toList := by unfold txt tail; rw [if_neg hne]; simp
    generalize g ++ 118 :: (itoa v.a ++ 46 :: (itoa v.b ++ 46 :: itoa v.c)) = y at e2
    generalize v.p.data.toList = p at *
    have hp2 : 2 ≤ p.length := by
      cases p with
      | nil => exact absurd rfl hne
      | cons c p =>
        cases p with
        | nil =>
          rw [e2] at hx
          have e5 : (y ++ [45, c]).drop ((y ++ [45, c]).length - 2) = [45, c] := by
            have : (y ++ [45, c]).length - 2 = y.length := by simp
            rw [this, List.drop_left]
          rw [e5] at hx
          injection hx with hx _
          exact absurd hx (by decide)
        | cons d p => simp
    have e4 : (g ++ txt v).take ((g ++ txt v).length - 2) = y ++ 45 :: p.take (p.length - 2) := by
      rw [e2]
      have : (y ++ 45 :: p).length - 2 = y.length + (1 + (p.length - 2)) := by simp; omega
      rw [this, List.take_length_add_append]
      rw [Nat.add_comm 1, List.take_succ_cons]
    rw [e4]
    simp
  · unfold wildM; exact if_neg hx
theorem idx_at : ∀ (x r : Bs) (d : UInt8), (∀ c ∈ x, c ≠ d) → indexByte (x ++ d :: r) d = x.length
  | [], r, d, _ => by simp [indexByte]
  | y :: x, r, d, h => by
    have i := idx_at x r d (fun c hc => h c (by simp [hc]))
    have hy := h y (by simp)
    rw [List.cons_append, indexByte, if_neg (by simpa using hy), i, if_neg (by simp)]
    simp
theorem meant_signed {g : Bs} {v : V} (hv : v.ok = true) (hg : ∀ c ∈ g, c ≠ 118) : meantM (g ++ txt v) = signedM g v := by
  have hne : g ++ txt v ≠ [42] := by
    intro e
    have : (118 : UInt8) ∈ g ++ txt v := by unfold txt; simp
    rw [e] at this
    exact absurd this (by decide)
  have ha : vAt (g ++ txt v) = g.length := by
    unfold vAt txt
    rw [idx_at g _ 118 hg, Int.toNat_natCast]
  unfold meantM
  rw [if_neg hne, wild_txt g hv, ha]
  simp only [List.take_left, List.drop_left]
  rw [parse_txt hv]
  rfl
/-- From a version to a version. -/
theorem row_only {a b : C} (ha : okC a) (hb : okC b) : Row (only cmpC a b) := ⟨nm_only _ _, ok_only ha hb⟩
theorem parse_two {v u : V} (hv : v.ok = true) (hu : u.ok = true) : parseS (txt v ++ [32, 45, 32] ++ txt u) = (some (only cmpC (some (v, false)) (some (u, true))), (txt v ++ [32, 45, 32] ++ txt u).length) := by
  have hvb : ∀ c ∈ txt v, isW c = true := fun c hc => vb_w (txt_bytes hv c hc)
  have hub : ∀ c ∈ txt u, isW c = true := fun c hc => vb_w (txt_bytes hu c hc)
  have e0 : txt v ++ [32, 45, 32] ++ txt u = txt v ++ 32 :: (45 :: (32 :: txt u)) := by simp
  have e1 : txt v ++ [32, 45, 32] ++ txt u = (txt v ++ [32]) ++ 45 :: (32 :: txt u) := by simp
  have e2 : txt v ++ [32, 45, 32] ++ txt u = (txt v ++ [32, 45]) ++ 32 :: txt u := by simp
  have e3 : txt v ++ [32, 45, 32] ++ txt u = (txt v ++ [32, 45, 32]) ++ txt u := rfl
  have hlen : (txt v ++ [32, 45, 32] ++ txt u).length = (txt v).length + 3 + (txt u).length := by simp; omega
  have hw0 : wordM (txt v ++ [32, 45, 32] ++ txt u) 0 = txt v := by
    unfold wordM; rw [List.drop_zero, e0]; exact tw_stop hvb (by decide)
  have hu0 : ∃ r, txt u = 118 :: r := ⟨_, rfl⟩
  obtain ⟨r, hr⟩ := hu0
  have hb1 : blM (txt v ++ [32, 45, 32] ++ txt u) (txt v).length = (txt v).length + 1 := by
    unfold blM
    rw [e0, List.drop_left]
    rfl
  have hw1 : wordM (txt v ++ [32, 45, 32] ++ txt u) ((txt v).length + 1) = [45] := by
    unfold wordM
    rw [e1]
    have : (txt v).length + 1 = (txt v ++ [32]).length := by simp
    rw [this, List.drop_left]
    rfl
  have hb2 : blM (txt v ++ [32, 45, 32] ++ txt u) ((txt v).length + 1 + 1) = (txt v).length + 3 := by
    unfold blM
    rw [e2]
    have : (txt v).length + 1 + 1 = (txt v ++ [32, 45]).length := by simp
    rw [this, List.drop_left, hr]
    rw [List.takeWhile_cons_of_pos (by decide), List.takeWhile_cons_of_neg (by decide)]
    simp
  have hw2 : wordM (txt v ++ [32, 45, 32] ++ txt u) ((txt v).length + 3) = txt u := by
    unfold wordM
    have : (txt v).length + 3 = (txt v ++ [32, 45, 32]).length := by simp
    rw [e3, this, List.drop_left]
    exact tw_all hub
  refine parse_item (row_only (ok_v hv _) (ok_v hu _)) ?_ ?_
  · intro c hc
    have : c = 118 := by unfold txt at hc; simpa using hc.symm
    subst this; decide
  · unfold itemM
    rw [hw0]
    have hm := meant_signed (g := []) hv (by simp)
    rw [List.nil_append] at hm
    rw [hm]
    have hsg : signedM [] v = some (only cmpC (some (v, false)) (some (v, true))) := rfl
    rw [hsg]
    simp only [Nat.zero_add]
    rw [hb1, parse_txt hv]
    unfold item1
    simp only
    rw [if_pos hw1]
    unfold item2
    rw [hb2, hw2, parse_txt hu]
    simp only
    rw [hlen]
end Go.Sp

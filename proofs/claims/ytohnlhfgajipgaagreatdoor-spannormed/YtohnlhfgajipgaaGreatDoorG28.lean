/-
  Plain mathematics of joining as the reference does it: spans put in one by one by their begins, then joined from the left; leaving out with empty spans between; one row's spans are told by its cells.
  Contracts of the third law's within and known.
  Contract of the third law's known.
  Two spans that meet at a version: what any, both of them have.
-/
import Derived.Test.YtohnlhfgajipgaaGreatDoorG09
import Derived.Test.YtohnlhfgajipgaaGreatDoorG27
import Derived.Test.YtohnlhfgajipgaaGreatDoorG22
import Derived.Test.YtohnlhfgajipgaaGreatDoorG10

namespace Go.Sp
set_option linter.unusedVariables false
open Go.Vr Go.Tx

theorem rise_at {l : List S} (h : Rise cmpC l) : ∀ (i j : Nat) (x y : S), i ≤ j → l[i]? = some x → l[j]? = some y → cmpC x.1 y.1 ≤ 0 := by
  induction l with
  | nil => intro i j x y _ hx; simp at hx
  | cons s l ih =>
    intro i j x y hij hx hy
    cases i with
    | zero =>
      obtain rfl : s = x := by simpa using hx
      cases j with
      | zero =>
        obtain rfl : s = y := by simpa using hy
        rw [ord_cut.refl]; omega
      | succ j => exact h.1 y (List.mem_of_getElem? (by simpa using hy))
    | succ i =>
      cases j with
      | zero => omega
      | succ j => exact ih h.2 i j x y (by omega) (by simpa using hx) (by simpa using hy)
theorem rise_app : ∀ {a b : List S}, Rise cmpC a → Rise cmpC b → (∀ s ∈ a, ∀ t ∈ b, cmpC s.1 t.1 ≤ 0) → Rise cmpC (a ++ b)
  | [], _, _, hb, _ => hb
  | s :: a, b, ha, hb, h => by
    refine ⟨fun t ht => ?_, rise_app ha.2 hb fun u hu t ht => h u (by simp [hu]) t ht⟩
    rcases List.mem_append.1 ht with ht | ht
    · exact ha.1 t ht
    · exact h s (by simp) t ht
theorem rise_take : ∀ {a : List S} (k : Nat), Rise cmpC a → Rise cmpC (a.take k)
  | _, 0, _ => by rw [List.take_zero]; trivial
  | [], _ + 1, _ => trivial
  | s :: a, k + 1, h => ⟨fun t ht => h.1 t (List.mem_of_mem_take ht), rise_take k h.2⟩
theorem rise_drop : ∀ {a : List S} (k : Nat), Rise cmpC a → Rise cmpC (a.drop k)
  | _, 0, h => h
  | [], _ + 1, _ => trivial
  | _ :: _, k + 1, h => rise_drop k h.2
/-- One put in at the place that the walk from behind finds. -/
theorem rise_put {l : List S} (hr : Rise cmpC l) (x : S) (k : Nat) (h1 : ∀ t ∈ l.drop k, cmpC x.1 t.1 < 0) (h2 : k = 0 ∨ ∃ y, l[k - 1]? = some y ∧ ¬ cmpC x.1 y.1 < 0) : Rise cmpC (l.take k ++ [x] ++ l.drop k) := by
  have hx : Rise cmpC [x] := ⟨by simp, trivial⟩
  refine rise_app (rise_app (rise_take k hr) hx fun s hs t ht => ?_) (rise_drop k hr) fun s hs t ht => ?_
  · obtain rfl := List.mem_singleton.1 ht
    obtain ⟨i, hi⟩ := List.getElem?_of_mem hs
    rw [List.getElem?_take] at hi
    split at hi
    · rename_i hik
      rcases h2 with rfl | ⟨y, hy, hn⟩
      · omega
      · exact ord_cut.le _ _ _ (rise_at hr i (k - 1) s y (by omega) hi hy) (not_lt ord_cut hn)
    · exact nomatch hi
  · rcases List.mem_append.1 hs with hs | hs
    · obtain ⟨i, hi⟩ := List.getElem?_of_mem hs
      obtain ⟨j, hj⟩ := List.getElem?_of_mem ht
      rw [List.getElem?_take] at hi
      rw [List.getElem?_drop] at hj
      split at hi
      · exact rise_at hr i (k + j) s t (by omega) hi hj
      · exact nomatch hi
    · obtain rfl := List.mem_singleton.1 hs
      have := h1 t ht; omega
theorem mem_put (l : List S) (x : S) (k : Nat) (t : S) : t ∈ l.take k ++ [x] ++ l.drop k ↔ t = x ∨ t ∈ l := by
  have e : t ∈ l ↔ t ∈ l.take k ∨ t ∈ l.drop k := by rw [← List.mem_append, List.take_append_drop]
  simp only [List.mem_append, List.mem_singleton, e]
  constructor
  · rintro ((h | h) | h)
    · exact .inr (.inl h)
    · exact .inl h
    · exact .inr (.inr h)
  · rintro (h | h | h)
    · exact .inl (.inr h)
    · exact .inl (.inl h)
    · exact .inr h

/-- One more, joined from the left. -/
def stepR (out : List S) (x : S) : List S := match out.getLast? with
  | none => [x]
  | some t => if cmpC t.2 x.1 < 0 then out ++ [x] else if cmpC t.2 x.2 < 0 then out.dropLast ++ [(t.1, x.2)] else out
theorem stepR_last (pre : List S) (t x : S) : stepR (pre ++ [t]) x = if cmpC t.2 x.1 < 0 then pre ++ [t] ++ [x] else if cmpC t.2 x.2 < 0 then pre ++ [(t.1, x.2)] else pre ++ [t] := by
  unfold stepR
  rw [List.getLast?_append]
  simp
theorem fold_merge : ∀ (l : List S) (pre : List S) (a b : C), cmpC a b < 0 → (∀ s ∈ l, cmpC s.1 s.2 < 0) → l.foldl stepR (pre ++ [(a, b)]) = pre ++ merge cmpC a b l
  | [], pre, a, b, h, _ => by
    show pre ++ [(a, b)] = pre ++ only cmpC a b
    unfold only; rw [if_pos h]
  | s :: r, pre, a, b, h, hne => by
    have hs := hne s (by simp)
    have hr : ∀ t ∈ r, cmpC t.1 t.2 < 0 := fun t ht => hne t (by simp [ht])
    rw [List.foldl_cons, stepR_last]
    unfold merge
    by_cases h1 : cmpC b s.1 < 0
    · rw [if_pos h1, if_pos h1]
      have h2 : later cmpC b s.2 = s.2 := if_pos (lt_trans ord_cut h1 hs)
      have := fold_merge r (pre ++ [(a, b)]) s.1 s.2 hs hr
      rw [h2]
      unfold only
      rw [if_pos h, this, List.append_assoc]
    · rw [if_neg h1, if_neg h1]
      by_cases h2 : cmpC b s.2 < 0
      · have h3 : later cmpC b s.2 = s.2 := if_pos h2
        rw [if_pos h2, h3]
        exact fold_merge r pre a s.2 (lt_trans ord_cut h h2) hr
      · have h3 : later cmpC b s.2 = b := if_neg h2
        rw [if_neg h2, h3]
        exact fold_merge r pre a b h hr
theorem fold_join : ∀ (l : List S), (∀ s ∈ l, cmpC s.1 s.2 < 0) → l.foldl stepR [] = join cmpC l
  | [], _ => rfl
  | s :: r, hne => by
    have hs := hne s (by simp)
    rw [List.foldl_cons]
    have h := fold_merge r [] s.1 s.2 hs fun t ht => hne t (by simp [ht])
    rw [List.nil_append, List.nil_append] at h
    show r.foldl stepR [s] = merge cmpC s.1 s.2 (s :: r)
    have e : merge cmpC s.1 s.2 (s :: r) = merge cmpC s.1 s.2 r := by
      show (if cmpC s.2 s.1 < 0 then only cmpC s.1 s.2 ++ merge cmpC s.1 (later cmpC s.2 s.2) r else merge cmpC s.1 (later cmpC s.2 s.2) r) = _
      have h1 : ¬ cmpC s.2 s.1 < 0 := by have := ord_cut.anti s.1 s.2; omega
      have h2 : later cmpC s.2 s.2 = s.2 := if_neg (lt_ne ord_cut _)
      rw [if_neg h1, h2]
    rw [e]; exact h
theorem fold_nrm {l d : List S} (hr : Rise cmpC d) (hm : ∀ t, t ∈ d ↔ t ∈ l ∧ cmpC t.1 t.2 < 0) : d.foldl stepR [] = nrm l := by
  rw [fold_join d fun s hs => ((hm s).1 hs).2]
  refine nrm_uniq (join_nm ord_cut hr) fun x => (join_in ord_cut hr x).trans ⟨?_, ?_⟩
  · rintro ⟨s, hs, h⟩; exact ⟨s, ((hm s).1 hs).1, h⟩
  · rintro ⟨s, hs, h⟩; exact ⟨s, (hm s).2 ⟨hs, ord_cut.le_lt _ _ _ h.1 h.2⟩, h⟩

/-- What lies between, empty ones too, up to one that has no end. -/
def notR (a : C) : List S → List S
  | [] => [(a, none)]
  | s :: l => (a, s.1) :: (match s.2 with | none => [] | some p => notR (some p) l)
theorem normed_open {s : S} {l : List S} (h : Normed (s :: l)) (he : s.2 = none) : l = [] := by
  cases l with
  | nil => rfl
  | cons u l =>
    have h1 := h.2.1 u (by simp)
    rw [he] at h1
    have := ord_cut.anti none u.1
    have := le_end u.1
    omega
theorem notR_in : ∀ (l : List S) (a x : C), Normed l → (In cmpC (notR a l) x ↔ In cmpC (gaps cmpC none a l) x)
  | [], a, x, _ => by
    show In cmpC [(a, none)] x ↔ In cmpC (only cmpC a none) x
    rw [in_cons, in_only ord_cut]
    exact ⟨fun h => h.resolve_right (in_nil x), .inl⟩
  | s :: l, a, x, hn => by
    show In cmpC ((a, s.1) :: (match s.2 with | none => [] | some p => notR (some p) l)) x ↔ In cmpC (only cmpC a s.1 ++ gaps cmpC none s.2 l) x
    rw [in_cons, in_app, in_only ord_cut]
    cases h : s.2 with
    | none =>
      obtain rfl := normed_open hn h
      have e : gaps cmpC none none ([] : List S) = [] := by decide
      rw [e]
    | some p => rw [notR_in l (some p) x hn.2.2]
theorem notR_nrm {l : List S} (hn : Normed l) : nrm (notR start l) = notL l :=
  (nrm_uniq (not_nm hn) fun x => (notR_in l start x hn).symm).symm
theorem notR_ok : ∀ (l : List S) (a : C), okL l → okC a → (∃ p, a = some p) → okL (notR a l)
  | [], a, _, ha, hp => by
    intro s hs
    obtain rfl : s = (a, none) := by simpa [notR] using hs
    exact ⟨hp, ha, ok_end⟩
  | t :: l, a, hl, ha, hp => by
    have ht := hl t (by simp)
    have hl2 : okL l := fun s hs => hl s (by simp [hs])
    intro s hs
    have hs : s ∈ (a, t.1) :: (match t.2 with | none => [] | some p => notR (some p) l) := hs
    rcases List.mem_cons.1 hs with rfl | hs
    · exact ⟨hp, ha, ht.2.1⟩
    · cases h2 : t.2 with
      | none => rw [h2] at hs; exact nomatch hs
      | some q =>
        rw [h2] at hs
        exact notR_ok l (some q) hl2 (h2 ▸ ht.2.2) ⟨q, rfl⟩ s hs
theorem notR_len : ∀ (l : List S) (a : C), (notR a l).length ≤ l.length + 1
  | [], _ => by simp [notR]
  | t :: l, a => by
    show ((a, t.1) :: (match t.2 with | none => [] | some p => notR (some p) l)).length ≤ _
    cases t.2 with
    | none => simp
    | some q => have := notR_len l (some q); simp only [List.length_cons]; omega
/-- Only the last of a normed row may have no end. -/
theorem open_last : ∀ {l : List S}, Normed l → ∀ (i : Nat) (s : S), l[i]? = some s → s.2 = none → i + 1 = l.length
  | [], _, i, s, h, _ => by simp at h
  | t :: l, hn, 0, s, h, he => by
    obtain rfl : t = s := by simpa using h
    cases l with
    | nil => rfl
    | cons u l =>
      have := hn.2.1 u (by simp)
      rw [he] at this
      have := ord_cut.anti none u.1
      have := le_end u.1
      omega
  | t :: l, hn, i + 1, s, h, he => by
    have := open_last hn.2.2 i s (by simpa using h) he
    simp only [List.length_cons]; omega
end Go.Sp

namespace Go.Proofs.YtohnlhfgajipgaaGreatDoor
set_option linter.unusedSimpArgs false
set_option linter.unusedVariables false
open Go.RowKit Go.Vr Go.Sort Go.Tx Go.Lib
attribute [local go_sem] setCellDrewN allocDrewN

set_option maxHeartbeats 400000 in
theorem within3_any (a n : Int) (w : World) (h1 : 1 ≤ n) (h2 : n ≤ 4611686018427387904) (h3 : -9223372036854775808 ≤ a) (h4 : a ≤ 9223372036854775807) :
    Calls Tryz.prog 29 #[.int .i64 a, .int .i64 n] w fun e w' => e = .returned (.int .i64 (a % n)) ∧ w' = w := by
  obtain ⟨hb1, hb2⟩ := Tx.tmod_bd a n h1
  go_enter Tryz.func29, Tryz.ntmps29
  go_wp2
  · go_ret
    exact ⟨ret_int (Tx.tmod_dn a n h1 (by assumption)), rfl⟩
  · go_ret
    exact ⟨ret_int (Tx.tmod_up a n h1 (by assumption)), rfl⟩
theorem within3 (a n : Int) (w : World) (h1 : 1 ≤ n) (h2 : n ≤ 4611686018427387904) (h3 : -9223372036854775808 ≤ a) (h4 : a ≤ 9223372036854775807) :
    Calls Tryz.prog 29 #[.int .i64 a, .int .i64 n] w fun e w' => ∃ k : Nat, e = .returned (.int .i64 k) ∧ (k : Int) < n ∧ Hid ((k : Int) = a % n) ∧ w' = w := by
  refine (within3_any a n w h1 h2 h3 h4).mono ?_
  rintro e w' ⟨rfl, rfl⟩
  have b1 := Int.emod_nonneg a (b := n) (by omega)
  have b2 := Int.emod_lt_of_pos a (b := n) (by omega)
  exact ⟨(a % n).toNat, by rw [Int.toNat_of_nonneg b1], by omega, Int.toNat_of_nonneg b1, rfl⟩

/-- The chapter's example: ^v1.2.3; v1.9.0. -/
def kS : Sp.S := (some (⟨1, 2, 3, ⟨#[]⟩⟩, false), some (⟨2, 0, 0, ⟨#[48]⟩⟩, false))
def kV : V := ⟨1, 9, 0, ⟨#[]⟩⟩
def kN : List Sp.S := [(Sp.start, some (⟨1, 2, 3, ⟨#[]⟩⟩, false)), (some (⟨2, 0, 0, ⟨#[48]⟩⟩, false), none)]
theorem k3_parse : Sp.parseS (ByteArray.mk #[94, 118, 49, 46, 50, 46, 51]).data.toList = (some [kS], 7) := Prod.ext (by decide +kernel) (by decide +kernel)
theorem k3_ver : parse (ByteArray.mk #[118, 49, 46, 57, 46, 48]).data.toList = some kV := by decide +kernel
theorem k3_vok : kV.ok = true := by decide +kernel
theorem k3_text : str (tAll [kS]) = ⟨#[91, 118, 49, 46, 50, 46, 51, 44, 118, 50, 46, 48, 46, 48, 45, 48, 41]⟩ := by decide +kernel
theorem k3_none : str (tAll []) = ⟨#[45]⟩ := by decide +kernel
theorem k3_has : [kS].any (inSp (some (kV, false))) = true := by decide +kernel
theorem k3_hasn : kN.any (inSp (some (kV, false))) = false := by decide +kernel
theorem k3_not : Sp.notL [kS] = kN := by decide +kernel
theorem k3_notn : Sp.notL [] = [(Sp.start, none)] := by decide +kernel
theorem k3_and : Sp.allL [[kS], []] = [] := by decide +kernel
theorem k3_or : Sp.nrm [[kS], [kS], [kS]].flatten = [kS] := by decide +kernel
theorem k3_ok : Sp.okL [kS] := by
  intro s hs
  obtain rfl := List.mem_singleton.1 hs
  exact ⟨⟨_, rfl⟩, Sp.ok_v (by decide +kernel) false, Sp.ok_v (by decide +kernel) false⟩
theorem k3_okn : Sp.okL kN := by rw [← k3_not]; exact Sp.ok_not k3_ok
theorem k3_oknil : Sp.okL [] := fun _ h => nomatch h
theorem k3_ia : IA ⟨#[94, 118, 49, 46, 50, 46, 51]⟩ := ia_ascii _ (by decide) (by decide)

end Go.Proofs.YtohnlhfgajipgaaGreatDoor

namespace Go.Proofs.YtohnlhfgajipgaaGreatDoor
set_option linter.unusedSimpArgs false
set_option linter.unusedVariables false
open Go.RowKit Go.Vr Go.Sort Go.Tx Go.Lib
attribute [local go_sem] setCellDrewN allocDrewN

theorem k3_cparse (W : World) (he : Env W) : Calls Tryz.prog 30 #[.string ⟨#[94, 118, 49, 46, 50, 46, 51]⟩] W fun e w' => ∃ ad cp, e = .returned (.tuple #[.slice ad 1 cp, .int .i64 0, .int .i64 0]) ∧ ERow ES w' ad 1 [kS] ∧ RowKit.Below W.heap.size W w' := by
  refine (sparse_any _ W (by decide) k3_ia he).mono ?_
  rintro e w' ⟨h, hb⟩
  rw [k3_parse] at h
  obtain ⟨v', rfl, ho⟩ : ∃ v', e = .returned (.tuple #[v', .int .i64 0, .int .i64 0]) ∧ EOwn ES w' W.heap.size v' [kS] := h
  obtain ⟨ad, cp, rfl, _, _, hr⟩ := ho.any
  exact ⟨ad, cp, rfl, hr, hb⟩
theorem k3_cver (W : World) : Calls Tryz.prog 37 #[.string ⟨#[118, 49, 46, 57, 46, 48]⟩] W fun e w' => e = .returned (.tuple #[ver 1 9 0 ⟨#[]⟩, .bool true]) ∧ RowKit.Below W.heap.size W w' := by
  have h := rparse_any ⟨#[118, 49, 46, 57, 46, 48]⟩ W (by decide)
  rw [k3_ver] at h
  exact h
theorem k3_cnil (W : World) (he : Env W) : Calls Tryz.prog 18 #[.slice none 0 0] W fun e w' => ∃ g cp, e = .returned (.slice (some ⟨g, 0, none⟩) 1 cp) ∧ w'.cell? ⟨g, 10, none⟩ = some (.bool true) ∧ RowKit.Below W.heap.size W w' := by
  refine (not_any none 0 0 [] W (ERow.none W) (by omega) k3_oknil he).mono ?_
  rintro e w' ⟨v', rfl, ho, hb⟩
  rw [k3_notn] at ho
  rcases ho.form with ⟨_, h⟩ | ⟨g, cap, rfl, _, _, _, _, hr⟩
  · exact nomatch h
  · exact ⟨g, cap, rfl, hr.at_ 0 (Sp.start, none) rfl 10 _ rfl, hb⟩
theorem k3_ctext (W : World) (ad : Option Addr) (cp : Nat) (he : Env W) (h : ERow ES W ad 1 [kS]) : Calls Tryz.prog 34 #[.slice ad 1 cp] W fun e w' => e = .returned (.string ⟨#[91, 118, 49, 46, 50, 46, 51, 44, 118, 50, 46, 48, 46, 48, 45, 48, 41]⟩) ∧ RowKit.Below W.heap.size W w' := by
  have := stext_any ad 1 cp [kS] W h (by omega) k3_ok he
  rw [k3_text] at this
  exact this
theorem k3_ctextn (W : World) (he : Env W) : Calls Tryz.prog 34 #[.slice none 0 0] W fun e w' => e = .returned (.string ⟨#[45]⟩) ∧ RowKit.Below W.heap.size W w' := by
  have := stext_any none 0 0 [] W (ERow.none W) (by omega) k3_oknil he
  rw [k3_none] at this
  exact this
theorem k3_chas (W : World) (ad : Option Addr) (cp : Nat) (he : Env W) (h : ERow ES W ad 1 [kS]) : Calls Tryz.prog 24 #[.slice ad 1 cp, ver 1 9 0 ⟨#[]⟩] W fun e w' => e = .returned (.bool true) ∧ RowKit.Below W.heap.size W w' := by
  have := has_any ad 1 cp [kS] kV W h (by omega) k3_ok k3_vok he
  rw [k3_has] at this
  exact this
theorem k3_chasn (W : World) (ad : Option Addr) (cp : Nat) (he : Env W) (h : ERow ES W ad 2 kN) : Calls Tryz.prog 24 #[.slice ad 2 cp, ver 1 9 0 ⟨#[]⟩] W fun e w' => e = .returned (.bool false) ∧ RowKit.Below W.heap.size W w' := by
  have := has_any ad 2 cp kN kV W h (by omega) k3_okn k3_vok he
  rw [k3_hasn] at this
  exact this
theorem k3_cnot (W : World) (ad : Option Addr) (cp : Nat) (he : Env W) (h : ERow ES W ad 1 [kS]) : Calls Tryz.prog 18 #[.slice ad 1 cp] W fun e w' => ∃ a2 c2, e = .returned (.slice a2 2 c2) ∧ ERow ES w' a2 2 kN ∧ RowKit.Below W.heap.size W w' := by
  refine (not_any ad 1 cp [kS] W h (by omega) k3_ok he).mono ?_
  rintro e w' ⟨v', rfl, ho, hb⟩
  rw [k3_not] at ho
  obtain ⟨a2, c2, rfl, _, _, hr⟩ := ho.any
  exact ⟨a2, c2, rfl, hr, hb⟩
theorem k3_cand (W : World) (ad : Option Addr) (cp : Nat) (he : Env W) (h : ERow ES W ad 1 [kS]) : Calls Tryz.prog 16 #[.slice ad 1 cp, .slice none 0 0] W fun e w' => ∃ a2 c2, e = .returned (.slice a2 0 c2) ∧ RowKit.Below W.heap.size W w' := by
  refine (and_any ad none 1 0 cp 0 [kS] [] W h (ERow.none W) (by omega) k3_ok k3_oknil he).mono ?_
  rintro e w' ⟨v', rfl, ho, hb⟩
  rw [k3_and] at ho
  obtain ⟨a2, c2, rfl, _, _, hr⟩ := ho.any
  exact ⟨a2, c2, rfl, hb⟩
/-- Two, three slices laid for a call. -/
theorem rrow3 {W : World} {a b c : Sl} {l m k : List Sp.S} (T : TypeId) (h1 : ERow ES W a.a a.n l) (h2 : ERow ES W b.a b.n m) (h3 : ERow ES W c.a c.n k) :
    RRow (W.alloc (.cells #[a.val, b.val, c.val] T)) (some ⟨W.heap.size, 0, none⟩) 3 [l, m, k] := by
  have hb : RowKit.Below W.heap.size W (W.alloc (.cells #[a.val, b.val, c.val] T)) := (by repeat (first | with_reducible assumption | with_reducible exact Below.refl _ _ | with_reducible refine Below.setCell ?_ (by first | exact Nat.le_refl _ | (simp; done) | (simp; omega)) _ | with_reducible refine bal ?_ _ | with_reducible refine Below.alloc ?_ (by first | exact Nat.le_refl _ | (simp; done) | (simp; omega)) _ | with_reducible refine Below.drew ?_))
  refine ⟨[a, b, c], ⟨rfl, (fun e => nomatch e), fun x e j v hj => ?_⟩, h1.later hb, h2.later hb, h3.later hb, trivial⟩
  obtain rfl : ⟨W.heap.size, 0, .none⟩ = x := by simpa using e
  rw [addr_add, Nat.zero_add, (Box.new W _ T).c]
  simpa [El.encs, ER] using hj
theorem rrow2 {W : World} {a b : Sl} {l m : List Sp.S} (T : TypeId) (h1 : ERow ES W a.a a.n l) (h2 : ERow ES W b.a b.n m) :
    RRow (W.alloc (.cells #[a.val, b.val] T)) (some ⟨W.heap.size, 0, none⟩) 2 [l, m] := by
  have hb : RowKit.Below W.heap.size W (W.alloc (.cells #[a.val, b.val] T)) := (by repeat (first | with_reducible assumption | with_reducible exact Below.refl _ _ | with_reducible refine Below.setCell ?_ (by first | exact Nat.le_refl _ | (simp; done) | (simp; omega)) _ | with_reducible refine bal ?_ _ | with_reducible refine Below.alloc ?_ (by first | exact Nat.le_refl _ | (simp; done) | (simp; omega)) _ | with_reducible refine Below.drew ?_))
  refine ⟨[a, b], ⟨rfl, (fun e => nomatch e), fun x e j v hj => ?_⟩, h1.later hb, h2.later hb, trivial⟩
  obtain rfl : ⟨W.heap.size, 0, .none⟩ = x := by simpa using e
  rw [addr_add, Nat.zero_add, (Box.new W _ T).c]
  simpa [El.encs, ER] using hj
theorem k3_cor (W : World) (ad : Option Addr) (cp : Nat) (he : Env W) (h : ERow ES W ad 1 [kS]) : Calls Tryz.prog 17 #[.slice (some ⟨W.heap.size, 0, none⟩) 3 3] (W.alloc (.cells #[.slice ad 1 cp, .slice ad 1 cp, .slice ad 1 cp] 24)) fun e w' => ∃ a2 c2, e = .returned (.slice a2 1 c2) ∧ RowKit.Below W.heap.size W w' := by
  have hb : RowKit.Below W.heap.size W (W.alloc (.cells #[.slice ad 1 cp, .slice ad 1 cp, .slice ad 1 cp] 24)) := (by repeat (first | with_reducible assumption | with_reducible exact Below.refl _ _ | with_reducible refine Below.setCell ?_ (by first | exact Nat.le_refl _ | (simp; done) | (simp; omega)) _ | with_reducible refine bal ?_ _ | with_reducible refine Below.alloc ?_ (by first | exact Nat.le_refl _ | (simp; done) | (simp; omega)) _ | with_reducible refine Below.drew ?_))
  have hr := rrow3 (a := ⟨ad, 1, cp⟩) (b := ⟨ad, 1, cp⟩) (c := ⟨ad, 1, cp⟩) 24 h h h
  refine (sor_any (some ⟨W.heap.size, 0, none⟩) 3 3 [[kS], [kS], [kS]] _ hr (by omega) (by decide) ?_ (he.later hb)).mono ?_
  · intro s hs
    have : s = kS := by simpa using hs
    subst this
    exact k3_ok _ (by simp)
  rintro e w' ⟨v', rfl, ho, b2⟩
  rw [k3_or] at ho
  obtain ⟨a2, c2, rfl, _, _, _⟩ := ho.any
  exact ⟨a2, c2, rfl, step hb b2⟩

set_option maxHeartbeats 8000000 in
set_option maxRecDepth 100000 in
theorem known3_any (w : World) (he : Env w) :
    Calls Tryz.prog 14 #[] w fun e w' => e = .returned (.bool true) ∧ RowKit.Below w.heap.size w w' := by
  have HE := hide he
  have CP := hide (k3_cparse w he)
  have CV : Hid (∀ W : World, Calls Tryz.prog 37 #[.string ⟨#[118, 49, 46, 57, 46, 48]⟩] W fun e w' => e = .returned (.tuple #[ver 1 9 0 ⟨#[]⟩, .bool true]) ∧ RowKit.Below W.heap.size W w') := k3_cver
  clear he
  go_enter Tryz.func14, Tryz.ntmps14
  go_wp2_with fail
  refine CP.out.mono ?_
  rintro e w1 ⟨ad, cp, rfl, r1, b1⟩
  have HR1 := hide r1
  have HB1 := hide b1
  clear CP r1 b1
  go_wp2_with fail
  refine (CV.out _).mono ?_
  rintro e w2 ⟨rfl, b2⟩
  have HR2 := hide (HR1.out.later b2)
  have HB2 := hide (step HB1.out b2)
  have X2 := hide (Box.new w2 #[.int .i64 1, .int .i64 9, .int .i64 0, .string ⟨#[]⟩] 34)
  have ba : RowKit.Below w2.heap.size w2 (w2.alloc (.cells #[.int .i64 1, .int .i64 9, .int .i64 0, .string ⟨#[]⟩] 34)) := (by repeat (first | with_reducible assumption | with_reducible exact Below.refl _ _ | with_reducible refine Below.setCell ?_ (by first | exact Nat.le_refl _ | (simp; done) | (simp; omega)) _ | with_reducible refine bal ?_ _ | with_reducible refine Below.alloc ?_ (by first | exact Nat.le_refl _ | (simp; done) | (simp; omega)) _ | with_reducible refine Below.drew ?_))
  have HB3 := hide (step HB2.out ba)
  have HR3 := hide (HR2.out.later ba)
  have CN := hide (k3_cnil _ (HE.out.later HB3.out))
  clear CV b2 HR1 HB1 HR2 HB2 ba
  go_wp2_with fail
  refine CN.out.mono ?_
  rintro e w3 ⟨g, cpn, rfl, cg, b3⟩
  have HB4 := hide (step HB3.out b3)
  have HR4 := hide (HR3.out.later b3)
  have X4 := X2.out.later b3
  have E4 := hide (HE.out.later HB4.out)
  generalize w2.heap.size = N at *
  have KX : ∀ w', RowKit.Below w3.heap.size w3 w' → ∀ i, w'.cell? ⟨N, i, none⟩ = (#[.int .i64 1, .int .i64 9, .int .i64 0, .string ⟨#[]⟩] : Array Value)[i]? := fun w' h => (X4.later h).c
  have KG : ∀ w', RowKit.Below w3.heap.size w3 w' → w'.cell? ⟨g, 10, none⟩ = some (.bool true) := fun w' h => cellLater h cg
  have hB0 := RowKit.Below.refl w3.heap.size w3
  clear X2 X4 CN b3 HB3 HR3 cg
  go_wp2_with fail
  go_region_held3 (fun w' => RowKit.Below w3.heap.size w3 w') (first | assumption | exact (by repeat (first | with_reducible assumption | with_reducible exact Below.refl _ _ | with_reducible refine Below.setCell ?_ (by first | exact Nat.le_refl _ | (simp; done) | (simp; omega)) _ | with_reducible refine bal ?_ _ | with_reducible refine Below.alloc ?_ (by first | exact Nat.le_refl _ | (simp; done) | (simp; omega)) _ | with_reducible refine Below.drew ?_))) (first
    | (go_at_call_of 34 (Value.slice none 0 0); refine (k3_ctextn _ (E4.out.later (by assumption))).mono ?_; rintro e w5 ⟨rfl, b5⟩; have b5 : RowKit.Below w3.heap.size w3 w5 := (by refine Below.trans ?_ (Below.mono b5 ?_); rotate_left; exact Below.size (by with_reducible assumption); with_reducible assumption))
    | (go_at_call 34; refine (k3_ctext _ _ _ (E4.out.later (by first | assumption | exact (by repeat (first | with_reducible assumption | with_reducible exact Below.refl _ _ | with_reducible refine Below.setCell ?_ (by first | exact Nat.le_refl _ | (simp; done) | (simp; omega)) _ | with_reducible refine bal ?_ _ | with_reducible refine Below.alloc ?_ (by first | exact Nat.le_refl _ | (simp; done) | (simp; omega)) _ | with_reducible refine Below.drew ?_)))) (HR4.out.later (by first | assumption | exact (by repeat (first | with_reducible assumption | with_reducible exact Below.refl _ _ | with_reducible refine Below.setCell ?_ (by first | exact Nat.le_refl _ | (simp; done) | (simp; omega)) _ | with_reducible refine bal ?_ _ | with_reducible refine Below.alloc ?_ (by first | exact Nat.le_refl _ | (simp; done) | (simp; omega)) _ | with_reducible refine Below.drew ?_))))).mono ?_; rintro e w5 ⟨rfl, b5⟩; have b5 : RowKit.Below w3.heap.size w3 w5 := (by refine Below.trans ?_ (Below.mono b5 ?_); rotate_left; exact Below.size (by with_reducible assumption); with_reducible assumption))
    | (go_at_call 18; refine (k3_cnot _ _ _ (E4.out.later (by assumption)) (HR4.out.later (by assumption))).mono ?_; rintro e w5 ⟨a2, c2, rfl, r5, b5⟩; have HR5 := hide r5; clear r5; have b5 : RowKit.Below w3.heap.size w3 w5 := (by refine Below.trans ?_ (Below.mono b5 ?_); rotate_left; exact Below.size (by with_reducible assumption); with_reducible assumption))
    | (go_at_call 16; refine (k3_cand _ _ _ (E4.out.later (by assumption)) (HR4.out.later (by assumption))).mono ?_; rintro e w5 ⟨a3, c3, rfl, b5⟩; have b5 : RowKit.Below w3.heap.size w3 w5 := (by refine Below.trans ?_ (Below.mono b5 ?_); rotate_left; exact Below.size (by with_reducible assumption); with_reducible assumption))
    | (go_at_call 17; refine (k3_cor _ _ _ (E4.out.later (by assumption)) (HR4.out.later (by assumption))).mono ?_; rintro e w5 ⟨a4, c4, rfl, b5⟩; have b5 : RowKit.Below w3.heap.size w3 w5 := (by refine Below.trans ?_ (Below.mono b5 ?_); rotate_left; exact Below.size (by with_reducible assumption); with_reducible assumption))
    | (go_at_call 24; refine (k3_chasn _ _ _ (E4.out.later (by assumption)) HR5.out).mono ?_; rintro e w5 ⟨rfl, b5⟩; have b5 : RowKit.Below w3.heap.size w3 w5 := (by refine Below.trans ?_ (Below.mono b5 ?_); rotate_left; exact Below.size (by with_reducible assumption); with_reducible assumption))
    | (go_at_call 24; refine (k3_chas _ _ _ (E4.out.later (by assumption)) (HR4.out.later (by assumption))).mono ?_; rintro e w5 ⟨rfl, b5⟩; have b5 : RowKit.Below w3.heap.size w3 w5 := (by refine Below.trans ?_ (Below.mono b5 ?_); rotate_left; exact Below.size (by with_reducible assumption); with_reducible assumption)))
  rename_i hHeld
  go_wp2_with fail
  go_ret
  exact ⟨rfl, HB4.out.trans (hHeld.mono HB4.out.size)⟩
end Go.Proofs.YtohnlhfgajipgaaGreatDoor

namespace Go.Sp
set_option linter.unusedVariables false
open Go.Vr Go.Tx

theorem cmp_lt {v u : V} (x y : Bool) (h : cmpV v u < 0) : cmpC (some (v, x)) (some (u, y)) < 0 := by
  rw [cmpC_ss]; unfold seq; simp only; split <;> omega
theorem cmp_same (v : V) (x y : Bool) : cmpC (some (v, x)) (some (v, y)) = cmpB x y := by
  rw [cmpC_ss]; simp only; rw [ord_ver.refl]; rfl
theorem nm_one {s : S} (h : cmpC s.1 s.2 < 0) : Normed [s] := ⟨h, by simp, trivial⟩
/-- Two that rise, joined. -/
theorem nrm_two {s t : S} (h : cmpC s.1 t.1 ≤ 0) (hs : cmpC s.1 s.2 < 0) (ht : cmpC t.1 t.2 < 0) : nrm [s, t] = if cmpC s.2 t.1 < 0 then [s, t] else if cmpC s.2 t.2 < 0 then [(s.1, t.2)] else [s] := by
  have hr : Rise cmpC [s, t] := ⟨by simpa using h, by simp, trivial⟩
  rw [← join_nrm (l := [s, t]) hr (fun _ => Iff.rfl), ← fold_join [s, t] (by rintro u hu; rcases List.mem_cons.1 hu with rfl | hu; exact hs; rw [List.mem_singleton.1 hu]; exact ht)]
  show stepR ([] ++ [s]) t = _
  rw [stepR_last]
  rfl

section
variable {v0 v1 v2 : V} (i a : Bool)
def eX (v0 v1 : V) (i : Bool) : S := (some (v0, false), some (v1, i))
def eY (v1 v2 : V) (a : Bool) : S := (some (v1, a), some (v2, false))
theorem ends_or (h01 : cmpV v0 v1 < 0) (h12 : cmpV v1 v2 < 0) : nrm [eX v0 v1 i, eY v1 v2 a] = if i || !a then [(some (v0, false), some (v2, false))] else [eX v0 v1 i, eY v1 v2 a] := by
  have h1 : cmpC (eX v0 v1 i).1 (eY v1 v2 a).1 < 0 := cmp_lt _ _ h01
  rw [nrm_two (by omega) (cmp_lt _ _ h01) (cmp_lt _ _ h12)]
  have e1 : cmpC (eX v0 v1 i).2 (eY v1 v2 a).1 = cmpB i a := cmp_same v1 i a
  have e2 : cmpC (eX v0 v1 i).2 (eY v1 v2 a).2 < 0 := cmp_lt _ _ h12
  rw [e1]
  by_cases h : (i || !a) = true
  · have h2 : ¬ cmpB i a < 0 := by revert h; cases i <;> cases a <;> decide
    rw [if_neg h2, if_pos e2, if_pos h]; rfl
  · have h2 : cmpB i a < 0 := by revert h; cases i <;> cases a <;> decide
    rw [if_pos h2, if_neg h]
theorem ok_X (ok0 : v0.ok = true) (ok1 : v1.ok = true) : okS (eX v0 v1 i) := ⟨⟨_, rfl⟩, ok_v ok0 _, ok_v ok1 _⟩
theorem ok_Y (ok1 : v1.ok = true) (ok2 : v2.ok = true) : okS (eY v1 v2 a) := ⟨⟨_, rfl⟩, ok_v ok1 _, ok_v ok2 _⟩
theorem ok_l1 {s : S} (h : okS s) : okL [s] := fun t ht => by rw [List.mem_singleton.1 ht]; exact h
theorem ok_l2 {s t : S} (h : okS s) (k : okS t) : okL [s, t] := fun u hu => by
  rcases List.mem_cons.1 hu with rfl | hu
  · exact h
  · rw [List.mem_singleton.1 hu]; exact k
theorem ends_and (ok0 : v0.ok = true) (ok1 : v1.ok = true) (ok2 : v2.ok = true) (h01 : cmpV v0 v1 < 0) (h12 : cmpV v1 v2 < 0) : (allL [[eX v0 v1 i], [eY v1 v2 a]]).length = if i && !a then 1 else 0 := by
  have e : allL [[eX v0 v1 i], [eY v1 v2 a]] = only cmpC (some (v1, a)) (some (v1, i)) := by
    refine unique ord_cut _ _ (all_nm _) (nm_only _ _) fun x => ?_
    have nX : Normed [eX v0 v1 i] := nm_one (cmp_lt _ _ h01)
    have nY : Normed [eY v1 v2 a] := nm_one (cmp_lt _ _ h12)
    have oX := ok_l1 (ok_X i ok0 ok1)
    have oY := ok_l1 (ok_Y a ok1 ok2)
    have h := all_has (ls := [[eX v0 v1 i], [eY v1 v2 a]]) (fun l hl => by
      rcases List.mem_cons.1 hl with rfl | hl
      · exact nX
      · rw [List.mem_singleton.1 hl]; exact nY) (fun l hl => by
      rcases List.mem_cons.1 hl with rfl | hl
      · exact oX
      · rw [List.mem_singleton.1 hl]; exact oY) x
    refine h.trans ?_
    rw [in_only ord_cut]
    constructor
    · rintro ⟨_, _, h3⟩
      obtain ⟨s, hs, _, k1⟩ := h3 _ (List.mem_cons_self ..)
      obtain ⟨t, ht, k2, _⟩ := h3 [eY v1 v2 a] (by simp)
      rw [List.mem_singleton.1 hs] at k1
      rw [List.mem_singleton.1 ht] at k2
      exact ⟨k2, k1⟩
    · rintro ⟨k1, k2⟩
      have l0 : cmpC (some (v0, false)) x < 0 := ord_cut.lt_le _ _ _ (cmp_lt _ _ h01) k1
      refine ⟨ord_cut.le _ _ _ (start_le (ok_v ok1 a)) k1, ord_cut.lt_le _ _ _ k2 (le_end _), ?_⟩
      intro l hl
      rcases List.mem_cons.1 hl with rfl | hl
      · exact ⟨eX v0 v1 i, List.mem_singleton.2 rfl, by show cmpC (some (v0, false)) x ≤ 0; omega, k2⟩
      · rw [List.mem_singleton.1 hl]
        exact ⟨eY v1 v2 a, List.mem_singleton.2 rfl, k1, lt_trans ord_cut k2 (cmp_lt _ _ h12)⟩
  rw [e]
  unfold only
  rw [cmp_same]
  cases i <;> cases a <;> rfl
end
end Go.Sp

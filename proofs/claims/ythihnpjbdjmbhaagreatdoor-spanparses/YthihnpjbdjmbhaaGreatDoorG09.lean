/-
  Plain mathematics of places between versions, and of spans between such places: the order of places; what a row of spans has; joining, leaving out, what all have.
  Places and spans as values; contracts of ahead, behind, first, start, end, cmpBool, low, high, between.
  Contracts of the reference's order, Id.
-/
import Derived.Test.YthihnpjbdjmbhaaGreatDoorG08
import Derived.Test.YthihnpjbdjmbhaaGreatDoorG03
import Derived.Test.YthihnpjbdjmbhaaGreatDoorG07

namespace Go.Sp
set_option linter.unusedVariables false
open Go.Vr Go.Tx

def cmpB (a b : Bool) : Int := if a = b then 0 else if b = true then -1 else 1
theorem ord_bool : Ord cmpB where
  anti a b := by cases a <;> cases b <;> rfl
  le a b c := by cases a <;> cases b <;> cases c <;> decide
  eq a b := by cases a <;> cases b <;> decide
  bd a b := by cases a <;> cases b <;> decide

/-- A place: ahead of a version, or just behind it; none: behind all. -/
abbrev C := Option (V × Bool)
def cmpC : C → C → Int
  | none, none => 0
  | none, some _ => 1
  | some _, none => -1
  | some a, some b => seq (cmpV a.1 b.1) (cmpB a.2 b.2)
theorem cmpC_nn : cmpC none none = 0 := rfl
theorem cmpC_ns (b : V × Bool) : cmpC none (some b) = 1 := rfl
theorem cmpC_sn (b : V × Bool) : cmpC (some b) none = -1 := rfl
theorem cmpC_ss (a b : V × Bool) : cmpC (some a) (some b) = seq (cmpV a.1 b.1) (cmpB a.2 b.2) := rfl
theorem ord_cut : Ord cmpC := by
  have o := ord_ver.pair ord_bool
  refine ⟨?_, ?_, ?_, ?_⟩
  · rintro (_ | a) (_ | b)
    · rfl
    · rfl
    · rfl
    · exact o.anti a b
  · rintro (_ | a) (_ | b) (_ | c) h1 h2
    · exact h1
    · exact h2
    · rw [cmpC_nn]; omega
    · rw [cmpC_ns] at h1; omega
    · rw [cmpC_sn]; omega
    · rw [cmpC_ns] at h2; omega
    · rw [cmpC_sn]; omega
    · exact o.le a b c h1 h2
  · rintro (_ | a) (_ | b)
    · exact ⟨fun _ => rfl, fun _ => rfl⟩
    · exact ⟨fun h => by rw [cmpC_ns] at h; omega, fun h => nomatch h⟩
    · exact ⟨fun h => by rw [cmpC_sn] at h; omega, fun h => nomatch h⟩
    · exact ⟨fun h => congrArg some ((o.eq a b).1 h), fun h => (o.eq a b).2 (Option.some.inj h)⟩
  · rintro (_ | a) (_ | b)
    · rw [cmpC_nn]; omega
    · rw [cmpC_ns]; omega
    · rw [cmpC_sn]; omega
    · exact o.bd a b

/-- A span: from a place to a place. -/
abbrev S := C × C
def okC (c : C) : Prop := ∀ p, c = some p → p.1.ok = true
/-- One that may be: it begins somewhere, at versions that may be. -/
def okS (s : S) : Prop := (∃ p, s.1 = some p) ∧ okC s.1 ∧ okC s.2
def okL (l : List S) : Prop := ∀ s ∈ l, okS s

def least : V := ⟨0, 0, 0, ⟨#[48]⟩⟩
theorem least_ok : least.ok = true := by decide +kernel
def start : C := some (least, false)
def orL (l : List S) : List S := join cmpC l
def notL (l : List S) : List S := gaps cmpC none start l

theorem seq_le {x y : Int} (h : x ≤ 0) (k : y ≤ 0) : seq x y ≤ 0 := by unfold seq; split <;> omega
theorem cmpI_le {x y : Int} (h : x ≤ y) : Go.Lib.compareInt x y ≤ 0 := by
  unfold Go.Lib.compareInt
  split
  · omega
  · split <;> omega
theorem word_0 (q : Bs) (h : wordOk q = true) : cmpW [48] q ≤ 0 := by
  have k0 : kind [48] = 0 := by decide
  have l0 : klen [48] = 1 := by decide
  unfold cmpW
  rw [k0, l0]
  unfold wordOk at h
  simp only [Bool.and_eq_true, Bool.not_eq_true', List.isEmpty_eq_false_iff] at h
  obtain ⟨⟨hn, _⟩, _⟩ := h
  by_cases hd : digs q = true
  · have k1 : kind q = 0 := if_pos hd
    have l1 : klen q = q.length := if_pos hd
    rw [k1, l1]
    have hq : digs q = true := hd
    unfold digs at hq
    simp only [Bool.and_eq_true] at hq
    cases q with
    | nil => exact absurd rfl hn
    | cons c r =>
      refine seq_le (by decide) ?_
      cases r with
      | nil =>
        refine seq_le (by simp [Go.Lib.compareInt]) ?_
        have hc : isDig c = true := by have := hq.2; simp only [List.all_cons, List.all_nil, Bool.and_true] at this; exact this
        have h1 : (48 : UInt8) ≤ c := by
          revert hc
          unfold isDig
          simp only [Bool.and_eq_true, decide_eq_true_eq]
          intro h
          rw [UInt8.le_iff_toNat_le]
          have : (48 : UInt8).toNat = 48 := rfl
          omega
        unfold Go.Lib.compareBytes
        split
        · decide
        · split
          · rename_i h3; exact absurd h3 (by rw [UInt8.lt_iff_toNat_lt]; rw [UInt8.le_iff_toNat_le] at h1; omega)
          · decide
      | cons d r =>
        have : Go.Lib.compareInt 1 (((c :: d :: r).length : Nat) : Int) = -1 := by
          unfold Go.Lib.compareInt
          simp only [List.length_cons]
          rw [if_pos (by omega)]
        rw [this, seq_ne (by decide)]; decide
  · have k1 : kind q = 1 := if_neg hd
    have e : Go.Lib.compareInt 0 1 = -1 := by decide
    rw [k1, e, seq_ne (by decide)]
    decide
theorem least_le (v : V) (h : v.ok = true) : cmpV least v ≤ 0 := by
  have h' := h
  unfold V.ok verOk at h'
  simp only [Bool.and_eq_true] at h'
  obtain ⟨⟨⟨ha, hb⟩, hc⟩, hp⟩ := h'
  unfold partOk at ha hb hc
  simp only [Bool.and_eq_true, decide_eq_true_eq] at ha hb hc
  unfold cmpV
  refine seq_le (cmpI_le ha.1) (seq_le (cmpI_le hb.1) (seq_le (cmpI_le hc.1) ?_))
  show cmpP [48] v.p.data.toList ≤ 0
  unfold cmpP
  have n0 : none1 [48] = 0 := by decide
  rw [n0]
  unfold preOk at hp
  simp only [Bool.and_eq_true, Bool.or_eq_true] at hp
  by_cases he : v.p.data.toList = []
  · rw [he]; decide
  · have n1 : none1 v.p.data.toList = 0 := if_neg he
    rw [n1]
    refine seq_le (by decide) ?_
    have hw : words [48] = [[48]] := by decide
    rw [hw]
    have hall := hp.2.resolve_left (by simpa using he)
    cases hs : words v.p.data.toList with
    | nil => exact absurd hs (words_ne _)
    | cons w ws =>
      rw [hs] at hall
      simp only [List.all_cons, Bool.and_eq_true] at hall
      show seq (cmpW [48] w) (lex cmpW [] ws) ≤ 0
      refine seq_le (word_0 w hall.1) ?_
      cases ws with
      | nil => decide
      | cons _ _ => show (-1 : Int) ≤ 0; decide
theorem start_le {c : C} (h : okC c) : cmpC start c ≤ 0 := by
  cases c with
  | none => decide
  | some p =>
    show seq (cmpV least p.1) (cmpB false p.2) ≤ 0
    refine seq_le (least_le p.1 (h p rfl)) ?_
    cases p.2 <;> decide
theorem le_end (c : C) : cmpC c none ≤ 0 := by
  cases c with
  | none => decide
  | some p => rw [cmpC_sn]; decide
theorem lt_end {c : C} (p : V × Bool) (h : c = some p) : cmpC c none < 0 := by subst h; exact (by decide : (-1 : Int) < 0)

/-- What a row has, from the first version on. -/
abbrev Has (l : List S) (x : C) : Prop := In cmpC l x
abbrev Normed (l : List S) : Prop := Nm cmpC l
theorem not_has {l : List S} (hn : Normed l) (ho : okL l) (x : C) : Has (notL l) x ↔ cmpC start x ≤ 0 ∧ cmpC x none < 0 ∧ ¬ Has l x :=
  gaps_in ord_cut none l start hn (fun s hs => start_le (ho s hs).2.1) (fun s _ => le_end s.2) x
theorem not_nm {l : List S} (hn : Normed l) : Normed (notL l) := gaps_nm ord_cut none l start hn
theorem has_range {l : List S} (ho : okL l) {x : C} (h : Has l x) : cmpC start x ≤ 0 ∧ cmpC x none < 0 := by
  obtain ⟨s, hs, h1, h2⟩ := h
  exact ⟨ord_cut.le _ _ _ (start_le (ho s hs).2.1) h1, ord_cut.lt_le _ _ _ h2 (le_end s.2)⟩

theorem ok_start : okC start := by rintro p h; obtain rfl := Option.some.inj h; exact least_ok
theorem ok_end : okC none := by rintro p h; exact nomatch h
theorem ok_only {a b : C} (ha : okC a) (hb : okC b) : okL (only cmpC a b) := by
  intro s hs
  obtain ⟨rfl, hlt⟩ := only_mem hs
  refine ⟨?_, ha, hb⟩
  cases a with
  | none => exact absurd (le_end b) (by have := ord_cut.anti b none; omega)
  | some p => exact ⟨p, rfl⟩
theorem ok_app {a b : List S} (ha : okL a) (hb : okL b) : okL (a ++ b) := fun s hs => (List.mem_append.1 hs).elim (ha s) (hb s)
theorem ok_gaps : ∀ (l : List S) (a : C), okL l → okC a → okL (gaps cmpC none a l)
  | [], a, _, ha => ok_only ha ok_end
  | s :: l, a, hl, ha => by
    unfold gaps
    have hs := hl s (by simp)
    exact ok_app (ok_only ha hs.2.1) (ok_gaps l s.2 (fun t ht => hl t (by simp [ht])) hs.2.2)
theorem ok_not {l : List S} (h : okL l) : okL (notL l) := ok_gaps l start h ok_start
theorem ok_later {a b : C} (ha : okC a) (hb : okC b) : okC (later cmpC a b) := by unfold later; split; exact hb; exact ha
theorem ok_merge : ∀ (l : List S) (a b : C), okL l → okC a → okC b → okL (merge cmpC a b l)
  | [], a, b, _, ha, hb => ok_only ha hb
  | s :: l, a, b, hl, ha, hb => by
    have hs := hl s (by simp)
    have hr : okL l := fun t ht => hl t (by simp [ht])
    unfold merge
    split
    · exact ok_app (ok_only ha hb) (ok_merge l s.1 _ hr hs.2.1 (ok_later hb hs.2.2))
    · exact ok_merge l a _ hr ha (ok_later hb hs.2.2)
theorem ok_join {l : List S} (h : okL l) : okL (join cmpC l) := by
  cases l with
  | nil => exact h
  | cons s l => have hs := h s (by simp); exact ok_merge _ _ _ h hs.2.1 hs.2.2

/-- The spans of any spans, normed: the one row that has just what they have. -/
def ins (x : S) : List S → List S
  | [] => [x]
  | s :: l => if cmpC x.1 s.1 < 0 then x :: s :: l else s :: ins x l
def sorted : List S → List S
  | [] => []
  | x :: l => ins x (sorted l)
theorem ins_mem (x : S) : ∀ (l : List S) (t : S), t ∈ ins x l ↔ t = x ∨ t ∈ l
  | [], t => by simp [ins]
  | s :: l, t => by
    unfold ins
    split
    · simp
    · simp only [List.mem_cons, ins_mem x l t]
      constructor
      · rintro (h | h | h)
        · exact .inr (.inl h)
        · exact .inl h
        · exact .inr (.inr h)
      · rintro (h | h | h)
        · exact .inr (.inl h)
        · exact .inl h
        · exact .inr (.inr h)
theorem ins_rise (x : S) : ∀ (l : List S), Rise cmpC l → Rise cmpC (ins x l)
  | [], _ => ⟨by simp, trivial⟩
  | s :: l, h => by
    unfold ins
    split
    · rename_i k
      refine ⟨fun t ht => ?_, h⟩
      rcases List.mem_cons.1 ht with rfl | ht
      · omega
      · have := ord_cut.lt_le _ _ _ k (h.1 t ht); omega
    · rename_i k
      refine ⟨fun t ht => ?_, ins_rise x l h.2⟩
      rcases (ins_mem x l t).1 ht with rfl | ht
      · exact not_lt ord_cut k
      · exact h.1 t ht
theorem sorted_mem : ∀ (l : List S) (t : S), t ∈ sorted l ↔ t ∈ l
  | [], _ => Iff.rfl
  | x :: l, t => by show t ∈ ins x (sorted l) ↔ _; rw [ins_mem, sorted_mem l t, List.mem_cons]
theorem sorted_rise : ∀ (l : List S), Rise cmpC (sorted l)
  | [] => trivial
  | x :: l => ins_rise x _ (sorted_rise l)
def nrm (l : List S) : List S := join cmpC (sorted l)
theorem nrm_nm (l : List S) : Normed (nrm l) := join_nm ord_cut (sorted_rise l)
theorem nrm_has (l : List S) (x : C) : Has (nrm l) x ↔ Has l x := by
  unfold nrm
  show In cmpC _ _ ↔ _
  rw [join_in ord_cut (sorted_rise l)]
  exact in_perm (sorted_mem l) x
theorem ok_nrm {l : List S} (h : okL l) : okL (nrm l) := ok_join (fun s hs => h s ((sorted_mem l s).1 hs))
theorem nrm_uniq {l m : List S} (h : Normed m) (k : ∀ x, Has m x ↔ Has l x) : m = nrm l := unique ord_cut _ _ h (nrm_nm l) fun x => (k x).trans (nrm_has l x).symm
theorem nrm_same {l : List S} (h : Normed l) : nrm l = l := (nrm_uniq h fun _ => Iff.rfl).symm
theorem join_nrm {l d : List S} (hr : Rise cmpC d) (hm : ∀ s, s ∈ d ↔ s ∈ l) : join cmpC d = nrm l :=
  nrm_uniq (join_nm ord_cut hr) fun x => (join_in ord_cut hr x).trans (in_perm hm x)
/-- What all of some rows have. -/
def allL (ls : List (List S)) : List S := notL (nrm (ls.flatMap notL))
theorem has_flat (ls : List (List S)) (x : C) : Has ls.flatten x ↔ ∃ l ∈ ls, Has l x := by
  constructor
  · rintro ⟨s, hs, h⟩
    obtain ⟨l, hl, hs⟩ := List.mem_flatten.1 hs
    exact ⟨l, hl, s, hs, h⟩
  · rintro ⟨l, hl, s, hs, h⟩
    exact ⟨s, List.mem_flatten.2 ⟨l, hl, hs⟩, h⟩
theorem all_has {ls : List (List S)} (hn : ∀ l ∈ ls, Normed l) (ho : ∀ l ∈ ls, okL l) (x : C) : Has (allL ls) x ↔ cmpC start x ≤ 0 ∧ cmpC x none < 0 ∧ ∀ l ∈ ls, Has l x := by
  have hok : okL (ls.flatMap notL) := by
    intro s hs
    obtain ⟨l, hl, hs⟩ := List.mem_flatMap.1 hs
    exact ok_not (ho l hl) s hs
  unfold allL
  rw [not_has (nrm_nm _) (ok_nrm hok), nrm_has]
  constructor
  · rintro ⟨h1, h2, h3⟩
    refine ⟨h1, h2, fun l hl => Classical.byContradiction fun h => h3 ?_⟩
    obtain ⟨s, hs, k⟩ := (not_has (hn l hl) (ho l hl) x).2 ⟨h1, h2, h⟩
    exact ⟨s, List.mem_flatMap.2 ⟨l, hl, hs⟩, k⟩
  · rintro ⟨h1, h2, h3⟩
    refine ⟨h1, h2, ?_⟩
    rintro ⟨s, hs, k⟩
    obtain ⟨l, hl, hs⟩ := List.mem_flatMap.1 hs
    exact ((not_has (hn l hl) (ho l hl) x).1 ⟨s, hs, k⟩).2.2 (h3 l hl)
theorem all_nm (ls : List (List S)) : Normed (allL ls) := not_nm (nrm_nm _)
theorem ok_all {ls : List (List S)} (ho : ∀ l ∈ ls, okL l) : okL (allL ls) := by
  refine ok_not (ok_nrm fun s hs => ?_)
  obtain ⟨l, hl, hs⟩ := List.mem_flatMap.1 hs
  exact ok_not (ho l hl) s hs
end Go.Sp

namespace Go.Proofs.YthihnpjbdjmbhaaGreatDoor
set_option linter.unusedSimpArgs false
set_option linter.unusedVariables false
open Go.RowKit Go.Vr Go.Sort Go.Tx Go.Lib
attribute [local go_sem] setCellDrewN allocDrewN

abbrev cutv (a b c : Int) (p : ByteArray) (past fin : Bool) : Value := .agg #[.int .i64 a, .int .i64 b, .int .i64 c, .string p, .bool past, .bool fin]
abbrev spv (a b c : Int) (p : ByteArray) (a' b' c' : Int) (p' : ByteArray) (ab inn op : Bool) : Value := .agg #[.int .i64 a, .int .i64 b, .int .i64 c, .string p, .int .i64 a', .int .i64 b', .int .i64 c', .string p', .bool ab, .bool inn, .bool op]

theorem bal {a w : World} (h : Below a.heap.size a w) (o : Obj) : Below a.heap.size a (w.alloc o) := h.alloc h.size o
/-- A variable's block behind a call that turns nothing of what was there. -/
theorem keep {w w1 : World} {vs : Array Value} {T : TypeId} (N : Nat) (hN : w.heap.size = N) (hb : Below (w.alloc (.cells vs T)).heap.size (w.alloc (.cells vs T)) w1) :
    (∀ i, w1.cell? ⟨N, i, none⟩ = vs[i]?) ∧ (∀ i, w1.frozen? ⟨N, i, none⟩ = false) ∧ N < w1.heap.size ∧ Below w.heap.size w w1 := by
  subst hN
  obtain ⟨h1, h2⟩ := bcell hb
  refine ⟨fun i => ?_, fun i => ?_, ?_, ?_⟩
  · rw [h1 _ _ (by simp)]; simp [go_sem]
  · rw [h2 _ _ (by simp)]; simp [go_sem]
  · have := hb.size; simp at this; omega
  · exact ((Below.refl _ _).alloc (Nat.le_refl _) _).trans (hb.mono (by simp))

set_option maxHeartbeats 400000 in
theorem ahead_raw (a b c : Int) (p : ByteArray) (w : World) :
    Calls Tryz.prog 31 #[ver a b c p] w fun e w' => e = .returned (cutv a b c p false false) ∧ Below w.heap.size w w' := by
  go_enter Tryz.func31, Tryz.ntmps31
  go_wp2_with fail
  exact bodyPost_ret (by simp [results, Tryz.results31, go_sem]) rfl ⟨rfl, (by repeat (first | with_reducible assumption | with_reducible exact Below.refl _ _ | with_reducible refine Below.setCell ?_ (by first | exact Nat.le_refl _ | (simp; done) | (simp; omega)) _ | with_reducible refine bal ?_ _ | with_reducible refine Below.alloc ?_ (by first | exact Nat.le_refl _ | (simp; done) | (simp; omega)) _ | with_reducible refine Below.drew ?_))⟩
set_option maxHeartbeats 400000 in
theorem behind_raw (a b c : Int) (p : ByteArray) (w : World) :
    Calls Tryz.prog 103 #[ver a b c p] w fun e w' => e = .returned (cutv a b c p true false) ∧ Below w.heap.size w w' := by
  go_enter Tryz.func103, Tryz.ntmps103
  go_wp2_with fail
  exact bodyPost_ret (by simp [results, Tryz.results103, go_sem]) rfl ⟨rfl, (by repeat (first | with_reducible assumption | with_reducible exact Below.refl _ _ | with_reducible refine Below.setCell ?_ (by first | exact Nat.le_refl _ | (simp; done) | (simp; omega)) _ | with_reducible refine bal ?_ _ | with_reducible refine Below.alloc ?_ (by first | exact Nat.le_refl _ | (simp; done) | (simp; omega)) _ | with_reducible refine Below.drew ?_))⟩
set_option maxHeartbeats 400000 in
theorem end_raw (w : World) :
    Calls Tryz.prog 27 #[] w fun e w' => e = .returned (cutv 0 0 0 ⟨#[]⟩ false true) ∧ Below w.heap.size w w' := by
  go_enter Tryz.func27, Tryz.ntmps27
  go_wp2_with fail
  exact bodyPost_ret (by simp [results, Tryz.results27, go_sem]) rfl ⟨rfl, (by repeat (first | with_reducible assumption | with_reducible exact Below.refl _ _ | with_reducible refine Below.setCell ?_ (by first | exact Nat.le_refl _ | (simp; done) | (simp; omega)) _ | with_reducible refine bal ?_ _ | with_reducible refine Below.alloc ?_ (by first | exact Nat.le_refl _ | (simp; done) | (simp; omega)) _ | with_reducible refine Below.drew ?_))⟩
set_option maxHeartbeats 400000 in
theorem first_raw (a b c : Int) (w : World) :
    Calls Tryz.prog 52 #[.int .i64 a, .int .i64 b, .int .i64 c] w fun e w' => e = .returned (cutv a b c ⟨#[48]⟩ false false) ∧ Below w.heap.size w w' := by
  have CA := fun W => ahead_raw a b c ⟨#[48]⟩ W
  go_enter Tryz.func52, Tryz.ntmps52
  go_wp2_with fail
  refine (CA _).mono ?_
  rintro e w1 ⟨rfl, b1⟩
  obtain ⟨c1, f1, l1, hB⟩ := keep w.heap.size rfl b1
  clear b1 CA
  go_wp2_with fail
  exact bodyPost_ret (by simp [results, Tryz.results52, go_sem, *]) rfl ⟨rfl, (by repeat (first | with_reducible assumption | with_reducible exact Below.refl _ _ | with_reducible refine Below.setCell ?_ (by first | exact Nat.le_refl _ | (simp; done) | (simp; omega)) _ | with_reducible refine bal ?_ _ | with_reducible refine Below.alloc ?_ (by first | exact Nat.le_refl _ | (simp; done) | (simp; omega)) _ | with_reducible refine Below.drew ?_))⟩
set_option maxHeartbeats 400000 in
theorem cmpBool_raw (a b : Bool) (w : World) :
    Calls Tryz.prog 59 #[.bool a, .bool b] w fun e w' => e = .returned (.int .i64 (Sp.cmpB a b)) ∧ w' = w := by
  cases a <;> cases b
  all_goals
    go_enter Tryz.func59, Tryz.ntmps59
    go_wp2_with fail
    go_ret
    exact ⟨rfl, rfl⟩
set_option maxHeartbeats 400000 in
theorem low_raw (a b c : Int) (p : ByteArray) (a' b' c' : Int) (p' : ByteArray) (ab inn op : Bool) (w : World) :
    Calls Tryz.prog 25 #[spv a b c p a' b' c' p' ab inn op] w fun e w' => e = .returned (cutv a b c p ab false) ∧ Below w.heap.size w w' := by
  go_enter Tryz.func25, Tryz.ntmps25
  go_wp2_with fail
  exact bodyPost_ret (by simp [results, Tryz.results25, go_sem]) rfl ⟨rfl, (by repeat (first | with_reducible assumption | with_reducible exact Below.refl _ _ | with_reducible refine Below.setCell ?_ (by first | exact Nat.le_refl _ | (simp; done) | (simp; omega)) _ | with_reducible refine bal ?_ _ | with_reducible refine Below.alloc ?_ (by first | exact Nat.le_refl _ | (simp; done) | (simp; omega)) _ | with_reducible refine Below.drew ?_))⟩
set_option maxHeartbeats 400000 in
theorem high_raw (a b c : Int) (p : ByteArray) (a' b' c' : Int) (p' : ByteArray) (ab inn : Bool) (w : World) :
    Calls Tryz.prog 26 #[spv a b c p a' b' c' p' ab inn false] w fun e w' => e = .returned (cutv a' b' c' p' inn false) ∧ Below w.heap.size w w' := by
  go_enter Tryz.func26, Tryz.ntmps26
  go_wp2_with fail
  exact bodyPost_ret (by simp [results, Tryz.results26, go_sem]) rfl ⟨rfl, (by repeat (first | with_reducible assumption | with_reducible exact Below.refl _ _ | with_reducible refine Below.setCell ?_ (by first | exact Nat.le_refl _ | (simp; done) | (simp; omega)) _ | with_reducible refine bal ?_ _ | with_reducible refine Below.alloc ?_ (by first | exact Nat.le_refl _ | (simp; done) | (simp; omega)) _ | with_reducible refine Below.drew ?_))⟩
set_option maxHeartbeats 400000 in
theorem high_open (a b c : Int) (p : ByteArray) (a' b' c' : Int) (p' : ByteArray) (ab inn : Bool) (w : World) :
    Calls Tryz.prog 26 #[spv a b c p a' b' c' p' ab inn true] w fun e w' => e = .returned (cutv 0 0 0 ⟨#[]⟩ false true) ∧ Below w.heap.size w w' := by
  have CE := fun W => end_raw W
  go_enter Tryz.func26, Tryz.ntmps26
  go_wp2_with fail
  have hb : Below w.heap.size w (w.alloc (.cells #[.int .i64 a, .int .i64 b, .int .i64 c, .string p, .int .i64 a', .int .i64 b', .int .i64 c', .string p', .bool ab, .bool inn, .bool true] 44)) := (by repeat (first | with_reducible assumption | with_reducible exact Below.refl _ _ | with_reducible refine Below.setCell ?_ (by first | exact Nat.le_refl _ | (simp; done) | (simp; omega)) _ | with_reducible refine bal ?_ _ | with_reducible refine Below.alloc ?_ (by first | exact Nat.le_refl _ | (simp; done) | (simp; omega)) _ | with_reducible refine Below.drew ?_))
  refine (CE _).mono ?_
  rintro e w1 ⟨rfl, b1⟩
  obtain ⟨c1, f1, l1, hB⟩ := keep (w.heap.size + 1) (by simp) b1
  have hB := hb.trans (hB.mono (by simp))
  clear b1 CE hb
  go_wp2_with fail
  exact bodyPost_ret (by simp [results, Tryz.results26, go_sem, *]) rfl ⟨rfl, (by repeat (first | with_reducible assumption | with_reducible exact Below.refl _ _ | with_reducible refine Below.setCell ?_ (by first | exact Nat.le_refl _ | (simp; done) | (simp; omega)) _ | with_reducible refine bal ?_ _ | with_reducible refine Below.alloc ?_ (by first | exact Nat.le_refl _ | (simp; done) | (simp; omega)) _ | with_reducible refine Below.drew ?_))⟩
set_option maxHeartbeats 400000 in
theorem start_raw (w : World) :
    Calls Tryz.prog 23 #[] w fun e w' => e = .returned (cutv 0 0 0 ⟨#[48]⟩ false false) ∧ Below w.heap.size w w' := by
  have CA := fun W => first_raw 0 0 0 W
  go_enter Tryz.func23, Tryz.ntmps23
  go_wp2_with fail
  refine (CA _).mono ?_
  rintro e w1 ⟨rfl, b1⟩
  obtain ⟨c1, f1, l1, hB⟩ := keep w.heap.size rfl b1
  clear b1 CA
  go_wp2_with fail
  exact bodyPost_ret (by simp [results, Tryz.results23, go_sem, *]) rfl ⟨rfl, (by repeat (first | with_reducible assumption | with_reducible exact Below.refl _ _ | with_reducible refine Below.setCell ?_ (by first | exact Nat.le_refl _ | (simp; done) | (simp; omega)) _ | with_reducible refine bal ?_ _ | with_reducible refine Below.alloc ?_ (by first | exact Nat.le_refl _ | (simp; done) | (simp; omega)) _ | with_reducible refine Below.drew ?_))⟩
set_option maxHeartbeats 400000 in
theorem between_raw (a b c : Int) (p : ByteArray) (a' b' c' : Int) (p' : ByteArray) (ab inn e1 : Bool) (w : World) :
    Calls Tryz.prog 53 #[cutv a b c p ab e1, cutv a' b' c' p' inn false] w fun e w' => e = .returned (spv a b c p a' b' c' p' ab inn false) ∧ Below w.heap.size w w' := by
  go_enter Tryz.func53, Tryz.ntmps53
  go_wp2_with fail
  exact bodyPost_ret (by simp [results, Tryz.results53, go_sem]) rfl ⟨rfl, (by repeat (first | with_reducible assumption | with_reducible exact Below.refl _ _ | with_reducible refine Below.setCell ?_ (by first | exact Nat.le_refl _ | (simp; done) | (simp; omega)) _ | with_reducible refine bal ?_ _ | with_reducible refine Below.alloc ?_ (by first | exact Nat.le_refl _ | (simp; done) | (simp; omega)) _ | with_reducible refine Below.drew ?_))⟩
set_option maxHeartbeats 400000 in
theorem between_end (a b c : Int) (p : ByteArray) (a' b' c' : Int) (p' : ByteArray) (ab inn e1 : Bool) (w : World) :
    Calls Tryz.prog 53 #[cutv a b c p ab e1, cutv a' b' c' p' inn true] w fun e w' => e = .returned (spv a b c p 0 0 0 ⟨#[]⟩ ab false true) ∧ Below w.heap.size w w' := by
  go_enter Tryz.func53, Tryz.ntmps53
  go_wp2_with fail
  exact bodyPost_ret (by simp [results, Tryz.results53, go_sem]) rfl ⟨rfl, (by repeat (first | with_reducible assumption | with_reducible exact Below.refl _ _ | with_reducible refine Below.setCell ?_ (by first | exact Nat.le_refl _ | (simp; done) | (simp; omega)) _ | with_reducible refine bal ?_ _ | with_reducible refine Below.alloc ?_ (by first | exact Nat.le_refl _ | (simp; done) | (simp; omega)) _ | with_reducible refine Below.drew ?_))⟩
end Go.Proofs.YthihnpjbdjmbhaaGreatDoor

namespace Go.Proofs.YthihnpjbdjmbhaaGreatDoor
set_option linter.unusedSimpArgs false
set_option linter.unusedVariables false
open Go.RowKit Go.Vr Go.Sort Go.Tx Go.Lib

theorem less_cmp : ∀ l k : List UInt8, compareBytes l k = if Op.bytesLess l k = true then -1 else if (l == k) = true then 0 else 1
  | [], [] => rfl
  | [], _ :: _ => rfl
  | _ :: _, [] => rfl
  | a :: l, b :: k => by
    have ih := less_cmp l k
    unfold compareBytes Op.bytesLess
    by_cases h1 : a < b
    · simp [h1]
    · by_cases h2 : b < a
      · have hne : a ≠ b := by rintro rfl; exact h1 h2
        simp [h1, h2, hne]
      · have : a = b := by
          rw [UInt8.lt_iff_toNat_lt] at h1 h2
          exact UInt8.toNat_inj.1 (by omega)
        subst this
        rw [if_neg h1, if_neg h2, ih]
        simp
theorem cmp_less {x y : ByteArray} (h : Op.bytesLess x.toList y.toList = true) : compareBytes x.data.toList y.data.toList = -1 := by
  rw [less_cmp, ← toList_data, ← toList_data, if_pos h]
theorem cmp_more {x y : ByteArray} (h : Op.bytesLess x.toList y.toList = false) (k : (!x.toList == y.toList) = true) : compareBytes x.data.toList y.data.toList = 1 := by
  rw [less_cmp, ← toList_data, ← toList_data, if_neg (by simp [h]), if_neg (by simpa using k)]
theorem cmp_same {x y : ByteArray} (h : Op.bytesLess x.toList y.toList = false) (k : (!x.toList == y.toList) = false) : compareBytes x.data.toList y.data.toList = 0 := by
  rw [less_cmp, ← toList_data, ← toList_data, if_neg (by simp [h]), if_pos (by simpa using k)]
theorem cmpW_both {x y : List UInt8} (hp : digs x = true) (hq : digs y = true) : cmpW x y = seq (compareInt x.length y.length) (compareBytes x y) := by
  unfold cmpW kind klen
  rw [hp, hq]; rfl
theorem cmpW_none {x y : List UInt8} (hp : digs x = false) (hq : digs y = false) : cmpW x y = compareBytes x y := by
  unfold cmpW kind klen
  rw [hp, hq]; rfl
theorem cmpW_left {x y : List UInt8} (hp : digs x = true) (hq : digs y = false) : cmpW x y = -1 := by
  unfold cmpW kind klen
  rw [hp, hq]; rfl
theorem cmpW_right {x y : List UInt8} (hp : digs x = false) (hq : digs y = true) : cmpW x y = 1 := by
  unfold cmpW kind klen
  rw [hp, hq]; rfl

set_option maxHeartbeats 1000000 in
theorem rorder_any (x y : ByteArray) (w : World) (hx : x.size ≤ 10000) (hy : y.size ≤ 10000) :
    Calls Tryz.prog 127 #[.string x, .string y] w fun e w' => e = .returned (.int .i64 (cmpW x.data.toList y.data.toList)) ∧ w' = w := by
  cases hp : digs x.data.toList with
  | true =>
    cases hq : digs y.data.toList with
    | true =>
      have HP : Hid _ := hp
      have HQ : Hid _ := hq
      have HC : Hid (cmpW x.data.toList y.data.toList = seq (compareInt x.size y.size) (compareBytes x.data.toList y.data.toList)) := by show cmpW _ _ = _; rw [cmpW_both hp hq, len_eq, len_eq]
      clear hp hq
      by_cases he : x.size = y.size
      · have h1 : ((x.size : Int) != (y.size : Int)) = false := by simp; omega
        have HE : Hid (compareInt x.size y.size = 0) := by show compareInt _ _ = 0; rw [he]; exact ord_int.refl _
        clear he
        go_enter Tryz.func127, Tryz.ntmps127
        go_wp2_with fail
        refine (rdigs_any _ _ (by unfold maxLen; omega)).mono ?_
        rw [HP.out]
        rintro e w1 ⟨rfl, rfl⟩
        go_wp2_with fail
        refine (rdigs_any _ _ (by unfold maxLen; omega)).mono ?_
        rw [HQ.out]
        rintro e w1 ⟨rfl, rfl⟩
        go_wp2_with fail
        all_goals
          go_ret
          exact ⟨ret_int (by rw [HC.out, HE.out, seq_zero]; first | rw [cmp_less ‹_›] | rw [cmp_more ‹_› ‹_›] | rw [cmp_same ‹_› ‹_›]), rfl⟩
      · have h1 : ((x.size : Int) != (y.size : Int)) = true := by simp; omega
        have HE : Hid (compareInt x.size y.size ≠ 0) := by
          show compareInt _ _ ≠ 0
          intro e; have := (ord_int.eq _ _).1 e; omega
        clear he
        go_enter Tryz.func127, Tryz.ntmps127
        go_wp2_with fail
        refine (rdigs_any _ _ (by unfold maxLen; omega)).mono ?_
        rw [HP.out]
        rintro e w1 ⟨rfl, rfl⟩
        go_wp2_with fail
        refine (rdigs_any _ _ (by unfold maxLen; omega)).mono ?_
        rw [HQ.out]
        rintro e w1 ⟨rfl, rfl⟩
        go_wp2_with fail
        refine (rsign_any _ _ _).mono ?_
        rintro e w1 ⟨rfl, rfl⟩
        go_wp2_with fail
        go_ret
        exact ⟨ret_int (by rw [HC.out, seq_ne HE.out]), rfl⟩
    | false =>
      have HP : Hid _ := hp
      have HQ : Hid _ := hq
      have HC : Hid _ := cmpW_left hp hq
      clear hp hq
      go_enter Tryz.func127, Tryz.ntmps127
      go_wp2_with fail
      refine (rdigs_any _ _ (by unfold maxLen; omega)).mono ?_
      rw [HP.out]
      rintro e w1 ⟨rfl, rfl⟩
      go_wp2_with fail
      refine (rdigs_any _ _ (by unfold maxLen; omega)).mono ?_
      rw [HQ.out]
      rintro e w1 ⟨rfl, rfl⟩
      go_wp2_with fail
      go_ret
      exact ⟨ret_int (by rw [HC.out]), rfl⟩
  | false =>
    cases hq : digs y.data.toList with
    | true =>
      have HP : Hid _ := hp
      have HQ : Hid _ := hq
      have HC : Hid _ := cmpW_right hp hq
      clear hp hq
      go_enter Tryz.func127, Tryz.ntmps127
      go_wp2_with fail
      refine (rdigs_any _ _ (by unfold maxLen; omega)).mono ?_
      rw [HP.out]
      rintro e w1 ⟨rfl, rfl⟩
      go_wp2_with fail
      refine (rdigs_any _ _ (by unfold maxLen; omega)).mono ?_
      rw [HQ.out]
      rintro e w1 ⟨rfl, rfl⟩
      go_wp2_with fail
      go_ret
      exact ⟨ret_int (by rw [HC.out]), rfl⟩
    | false =>
      have HP : Hid _ := hp
      have HQ : Hid _ := hq
      have HC : Hid _ := cmpW_none hp hq
      clear hp hq
      go_enter Tryz.func127, Tryz.ntmps127
      go_wp2_with fail
      refine (rdigs_any _ _ (by unfold maxLen; omega)).mono ?_
      rw [HP.out]
      rintro e w1 ⟨rfl, rfl⟩
      go_wp2_with fail
      refine (rdigs_any _ _ (by unfold maxLen; omega)).mono ?_
      rw [HQ.out]
      rintro e w1 ⟨rfl, rfl⟩
      go_wp2_with fail
      all_goals
        go_ret
        exact ⟨ret_int (by rw [HC.out]; first | rw [cmp_less ‹_›] | rw [cmp_more ‹_› ‹_›] | rw [cmp_same ‹_› ‹_›]), rfl⟩

theorem idOk_eq (s : ByteArray) : idOk s.data.toList = (decide (12 ≤ s.size) && decide (s.size ≤ 40) && s.data.toList.all isHex) := by unfold idOk; rw [len_eq]

end Go.Proofs.YthihnpjbdjmbhaaGreatDoor

/-
  Plain mathematics of paths: words parted by slashes, which may be, the root, the major.
  Plain mathematics of texts of braces: values, their texts, how a text is read.
-/
import Derived.Test.YtnmmhihfnphjeaaGreatDoorG13
import Derived.Test.YtnmmhihfnphjeaaGreatDoorG07

namespace Go.Pa
set_option linter.unusedVariables false
open Go.Lib Go.Tx Go.Vr

/-- Parted by slashes. -/
def sw : Bs → List Bs
  | [] => [[]]
  | c :: r => if c = 47 then [] :: sw r else match sw r with | [] => [[c]] | w :: ws => (c :: w) :: ws

theorem sw_ne : ∀ l, sw l ≠ []
  | [] => by simp [sw]
  | c :: r => by
    unfold sw
    split
    · simp
    · split <;> simp
theorem sw_slash (r : Bs) : sw (47 :: r) = [] :: sw r := by rw [sw, if_pos rfl]
theorem sw_cons {c : UInt8} {r w : Bs} {ws : List Bs} (h : c ≠ 47) (e : sw r = w :: ws) : sw (c :: r) = (c :: w) :: ws := by
  rw [sw, if_neg h, e]
theorem sw_app (b : Bs) : ∀ a, sw (a ++ 47 :: b) = sw a ++ sw b
  | [] => by simp [sw]
  | c :: a => by
    have ih := sw_app b a
    by_cases h : c = 47
    · subst h; rw [List.cons_append, sw_slash, sw_slash, ih]; rfl
    · cases e : sw a with
      | nil => exact absurd e (sw_ne a)
      | cons w ws =>
        rw [e] at ih
        rw [List.cons_append, sw_cons h ih, sw_cons h e]; rfl
theorem sw_snoc (c : UInt8) (h : c ≠ 47) (w : Bs) : ∀ (l : Bs) (o : List Bs), sw l = o ++ [w] → sw (l ++ [c]) = o ++ [w ++ [c]]
  | [], o, e => by
    cases o with
    | nil =>
      simp [sw] at e
      subst e
      exact sw_cons (w := []) h rfl
    | cons x o => simp [sw] at e
  | d :: l, o, e => by
    by_cases hd : d = 47
    · subst hd
      rw [sw_slash] at e
      cases o with
      | nil =>
        simp at e
        exact absurd e.2 (sw_ne l)
      | cons x o =>
        simp at e
        rw [List.cons_append, sw_slash, sw_snoc c h w l o e.2, e.1]; rfl
    · cases e2 : sw l with
      | nil => exact absurd e2 (sw_ne l)
      | cons v vs =>
        rw [sw_cons hd e2] at e
        cases o with
        | nil =>
          simp at e
          obtain ⟨e3, e4⟩ := e
          subst e4
          have := sw_snoc c h v l [] e2
          rw [List.cons_append, sw_cons hd this, ← e3]; rfl
        | cons x o =>
          simp at e
          obtain ⟨e3, e4⟩ := e
          subst e4
          have := sw_snoc c h w l (v :: o) e2
          rw [List.cons_append, sw_cons hd this, ← e3]; rfl
theorem sw_one : ∀ w : Bs, (∀ c ∈ w, c ≠ 47) → sw w = [w]
  | [], _ => rfl
  | c :: w, h => sw_cons (h c (by simp)) (sw_one w (fun d hd => h d (by simp [hd])))
theorem sw_len_one : ∀ {s w : Bs}, sw s = [w] → s = w ∧ ∀ c ∈ s, c ≠ 47
  | [], w, h => by
    simp [sw] at h
    exact ⟨h.symm, by simp⟩
  | c :: s, w, h => by
    by_cases hc : c = 47
    · subst hc
      rw [sw_slash] at h
      simp at h
      exact absurd h.2 (sw_ne s)
    · cases e : sw s with
      | nil => exact absurd e (sw_ne s)
      | cons v vs =>
        rw [sw_cons hc e] at h
        simp at h
        obtain ⟨h1, h2⟩ := h
        subst h2
        obtain ⟨h3, h4⟩ := sw_len_one e
        subst h3
        refine ⟨h1, fun d hd => ?_⟩
        simp at hd
        rcases hd with rfl | hd
        · exact hc
        · exact h4 d hd

theorem first_slash : ∀ t : Bs, (∃ x r, (∀ c ∈ x, c ≠ 47) ∧ t = x ++ 47 :: r) ∨ (∀ c ∈ t, c ≠ 47)
  | [] => .inr (by simp)
  | c :: t => by
    by_cases hc : c = 47
    · subst hc; exact .inl ⟨[], t, by simp, rfl⟩
    · rcases first_slash t with ⟨x, r, h1, rfl⟩ | h
      · refine .inl ⟨c :: x, r, ?_, rfl⟩
        intro d hd
        simp at hd
        rcases hd with rfl | hd
        · exact hc
        · exact h1 d hd
      · refine .inr fun d hd => ?_
        simp at hd
        rcases hd with rfl | hd
        · exact hc
        · exact h d hd

/-- What stands ahead of the last slash, what behind it. -/
def lastS : Bs → Option (Bs × Bs)
  | [] => none
  | c :: r => match lastS r with
    | some (x, w) => some (c :: x, w)
    | none => if c = 47 then some ([], r) else none
theorem lastS_none : ∀ {s : Bs}, lastS s = none → ∀ c ∈ s, c ≠ 47
  | [], _ => by simp
  | c :: r, h => by
    unfold lastS at h
    split at h
    · exact absurd h (by simp)
    · rename_i e
      split at h
      · exact absurd h (by simp)
      · rename_i hc
        intro d hd
        simp at hd
        rcases hd with rfl | hd
        · exact hc
        · exact lastS_none e d hd
theorem lastS_of_none : ∀ {s : Bs}, (∀ c ∈ s, c ≠ 47) → lastS s = none
  | [], _ => rfl
  | c :: r, h => by
    unfold lastS
    rw [lastS_of_none (s := r) (fun d hd => h d (by simp [hd]))]
    simp [h c (by simp)]
theorem lastS_app (w : Bs) (h : ∀ c ∈ w, c ≠ 47) : ∀ x : Bs, lastS (x ++ 47 :: w) = some (x, w)
  | [] => by
    show lastS (47 :: w) = _
    unfold lastS
    rw [lastS_of_none h]; simp
  | c :: x => by
    rw [List.cons_append]
    unfold lastS
    rw [lastS_app w h x]
theorem lastS_some : ∀ {s x w : Bs}, lastS s = some (x, w) → s = x ++ 47 :: w ∧ ∀ c ∈ w, c ≠ 47
  | [], x, w, h => by simp [lastS] at h
  | c :: r, x, w, h => by
    unfold lastS at h
    split at h
    · rename_i x2 w2 e
      simp at h
      obtain ⟨rfl, rfl⟩ := h
      obtain ⟨h1, h2⟩ := lastS_some e
      exact ⟨by rw [h1]; rfl, h2⟩
    · rename_i e
      split at h
      · rename_i hc
        simp at h
        obtain ⟨rfl, rfl⟩ := h
        exact ⟨by rw [hc]; rfl, lastS_none e⟩
      · exact absurd h (by simp)

/-- The signs of words. -/
def sgL : Bs := [97, 98, 99, 100, 101, 102, 103, 104, 105, 106, 107, 108, 109, 110, 111, 112, 113, 114, 115, 116, 117, 118, 119, 120, 121, 122, 48, 49, 50, 51, 52, 53, 54, 55, 56, 57, 46, 45, 95]
def sgnB (n : Int) : Bool := (decide (97 ≤ n) && decide (n ≤ 122)) || (decide (48 ≤ n) && decide (n ≤ 57)) || (n == 46) || (n == 45) || (n == 95)
def sgn (c : UInt8) : Bool := sgnB (c.toNat : Int)
theorem sgn_all : ∀ n : Fin 256, decide (indexByte sgL (UInt8.ofNat n.val) < 0) = !sgn (UInt8.ofNat n.val) := by decide +kernel
theorem sgn_is (c : UInt8) : decide (indexByte sgL c < 0) = !sgn c := by have := sgn_all ⟨c.toNat, c.toNat_lt⟩; simpa using this

def badW (w : Bs) : Bool := (w == []) || (w == [46]) || (w == [46, 46])
def wOk (w : Bs) : Bool := !badW w && w.all sgn
/-- May a text be a path? -/
def right (s : Bs) : Bool := decide (s.length ≤ 40) && (sw s).all wOk
def sgs (c : UInt8) : Bool := sgn c || (c == 47)
theorem all_sgs : ∀ s : Bs, s.all sgs = (sw s).all fun w => w.all sgn
  | [] => by simp [sw]
  | c :: s => by
    have ih := all_sgs s
    by_cases hc : c = 47
    · subst hc
      rw [sw_slash, List.all_cons, List.all_cons, ih]
      simp [sgs]
    · cases e : sw s with
      | nil => exact absurd e (sw_ne s)
      | cons w ws =>
        rw [sw_cons hc e]
        rw [e] at ih
        rw [List.all_cons, ih, List.all_cons, List.all_cons, List.all_cons]
        have : sgs c = sgn c := by unfold sgs; simp [hc]
        rw [this, Bool.and_assoc]
theorem all_and (p q : Bs → Bool) : ∀ l : List Bs, (l.all fun x => p x && q x) = (l.all p && l.all q)
  | [] => rfl
  | x :: l => by
    rw [List.all_cons, List.all_cons, List.all_cons, all_and p q l]
    cases p x <;> cases q x <;> cases l.all p <;> cases l.all q <;> rfl
theorem right_ref (s : Bs) : right s = (s.all sgs && ((sw s).all (fun w => !badW w) && decide (s.length ≤ 40))) := by
  unfold right
  rw [show wOk = fun w => (fun w => !badW w) w && (fun w : Bs => w.all sgn) w from rfl, all_and, all_sgs]
  cases decide (s.length ≤ 40) <;> cases (sw s).all (fun w => !badW w) <;> cases (sw s).all (fun w => w.all sgn) <;> rfl
theorem right_short {s : Bs} (h : right s = true) : 1 ≤ s.length ∧ s.length ≤ 40 := by
  unfold right at h
  rw [Bool.and_eq_true] at h
  refine ⟨?_, of_decide_eq_true h.1⟩
  cases s with
  | nil => exact absurd h.2 (by decide)
  | cons c s => simp

/-- A last word's number. -/
def majW : Bs → Option Int
  | [] => none
  | c :: d => if c = 118 ∧ okNum d = true ∧ 2 ≤ numVal d ∧ numVal d ≤ 999999 then some (numVal d) else none
theorem majW_some {w : Bs} {n : Int} (h : majW w = some n) : w = 118 :: itoa n ∧ 2 ≤ n ∧ n ≤ 999999 ∧ okNum (itoa n) = true := by
  cases w with
  | nil => simp [majW] at h
  | cons c d =>
    have hw : (if c = 118 ∧ okNum d = true ∧ 2 ≤ numVal d ∧ numVal d ≤ 999999 then some (numVal d) else none) = some n := h
    clear h
    split at hw
    · rename_i hc
      obtain ⟨h1, h2, h3, h4⟩ := hc
      have e : numVal d = n := by simpa using hw
      subst e
      obtain ⟨h5, h6⟩ := okNum_dec d h2
      rw [h5]
      exact ⟨by rw [h1], h3, h4, h2⟩
    · exact absurd hw (by simp)
theorem majW_of {n : Int} (h2 : 2 ≤ n) (h9 : n ≤ 999999) : majW (118 :: itoa n) = some n := by
  obtain ⟨h3, h4, _, _⟩ := itoa_ok n (by omega) (by omega)
  show (if (118 : UInt8) = 118 ∧ okNum (itoa n) = true ∧ 2 ≤ numVal (itoa n) ∧ numVal (itoa n) ≤ 999999 then some (numVal (itoa n)) else none) = some n
  rw [if_pos ⟨rfl, h3, by omega, by omega⟩, h4]
theorem majW_noslash {w : Bs} {n : Int} (h : majW w = some n) : ∀ c ∈ w, c ≠ 47 := by
  obtain ⟨h1, h2, h3, h4⟩ := majW_some h
  obtain ⟨_, _, h5, _⟩ := itoa_ok n (by omega) (by omega)
  intro c hc
  rw [h1] at hc
  simp at hc
  rcases hc with rfl | hc
  · decide
  · exact dig_ne h5 47 (by decide) c hc
/-- What stands ahead of a path's major, and that. -/
def maj (s : Bs) : Bs × Int := match lastS s with
  | none => (s, 0)
  | some (x, w) => match majW w with
    | none => (s, 0)
    | some n => (x, n)
theorem maj_cases (s : Bs) : (maj s = (s, 0)) ∨ ∃ x w n, lastS s = some (x, w) ∧ majW w = some n ∧ maj s = (x, n) := by
  unfold maj
  cases e : lastS s with
  | none => exact .inl rfl
  | some p =>
    obtain ⟨x, w⟩ := p
    simp only
    cases e2 : majW w with
    | none => exact .inl rfl
    | some n => exact .inr ⟨x, w, n, rfl, e2, rfl⟩
theorem maj_len (s : Bs) : (maj s).1.length ≤ s.length := by
  rcases maj_cases s with h | ⟨x, w, n, h1, h2, h3⟩
  · rw [h]; exact Nat.le_refl _
  · rw [h3]
    obtain ⟨h, _⟩ := lastS_some h1
    rw [h]; simp
theorem maj_nonneg (s : Bs) : 0 ≤ (maj s).2 ∧ (maj s).2 ≤ 999999 ∧ (maj s).2 ≠ 1 := by
  rcases maj_cases s with h | ⟨x, w, n, h1, h2, h3⟩
  · rw [h]; exact ⟨Int.le_refl _, by show (0 : Int) ≤ 999999; omega, by show (0 : Int) ≠ 1; omega⟩
  · rw [h3]
    obtain ⟨_, g2, g3, _⟩ := majW_some h2
    exact ⟨by show 0 ≤ n; omega, g3, by show n ≠ 1; omega⟩
theorem maj_zero {s : Bs} (h : (maj s).2 = 0) : (maj s).1 = s := by
  rcases maj_cases s with e | ⟨x, w, n, h1, h2, h3⟩
  · rw [e]
  · obtain ⟨_, g2, g3, _⟩ := majW_some h2
    rw [h3] at h
    have : n = 0 := h
    omega
theorem maj_more {s : Bs} (h : (maj s).2 ≠ 0) : s = (maj s).1 ++ 47 :: 118 :: itoa (maj s).2 := by
  rcases maj_cases s with e | ⟨x, w, n, h1, h2, h3⟩
  · rw [e] at h; exact absurd rfl h
  · obtain ⟨g1, _⟩ := lastS_some h1
    obtain ⟨g2, _, _, _⟩ := majW_some h2
    rw [h3, g1, g2]
theorem maj_put (x : Bs) {n : Int} (h2 : 2 ≤ n) (h9 : n ≤ 999999) : maj (x ++ 47 :: 118 :: itoa n) = (x, n) := by
  unfold maj
  rw [lastS_app _ (majW_noslash (majW_of h2 h9)) x]
  simp only
  rw [majW_of h2 h9]

/-- Does a version of this A fit? -/
def fits (s : Bs) (a : Int) : Bool := ((maj s).2 == a) || (((maj s).2 == 0) && (a == 1))
/-- Is one text another, or within it? -/
def inside (s r : Bs) : Bool := hasPrefix s r && (match s.drop r.length with | [] => true | c :: _ => c == 47)
theorem inside_iff (s r : Bs) : inside s r = true ↔ s = r ∨ ∃ t, s = r ++ 47 :: t := by
  unfold inside
  rw [Bool.and_eq_true]
  constructor
  · rintro ⟨h1, h2⟩
    have h3 : r <+: s := by unfold hasPrefix at h1; exact List.isPrefixOf_iff_prefix.1 h1
    obtain ⟨t, rfl⟩ := h3
    rw [List.drop_left] at h2
    cases t with
    | nil => exact .inl (by simp)
    | cons c t =>
      have hc : c = 47 := by simpa using h2
      exact .inr ⟨t, by rw [hc]⟩
  · rintro (rfl | ⟨t, rfl⟩)
    · exact ⟨by unfold hasPrefix; exact List.isPrefixOf_iff_prefix.2 (List.prefix_refl _), by simp⟩
    · exact ⟨by unfold hasPrefix; exact List.isPrefixOf_iff_prefix.2 (List.prefix_append _ _), by simp⟩
theorem inside_len {s r : Bs} (h : inside s r = true) : r.length ≤ s.length := by
  rcases (inside_iff s r).1 h with rfl | ⟨t, rfl⟩
  · exact Nat.le_refl _
  · simp

/-- The order in which paths are found: of the longest root, then as bytes. -/
def cmpF (p q : Bs) : Int := seq (compareInt (-((maj p).1.length : Int)) (-((maj q).1.length : Int))) (compareBytes p q)
theorem ord_find : Ord cmpF := (ord_int.pair ord_bytes).pull (fun p => (-((maj p).1.length : Int), p)) (fun a b e => by injection e with _ e)
/-- Is one path to be found ahead of another, if both may be? -/
def better (p q : Bs) : Bool := decide (cmpF p q < 0)
theorem better_same {p q : Bs} (h : (maj p).1.length = (maj q).1.length) : better p q = decide (compareBytes p q < 0) := by
  unfold better cmpF
  rw [h, ord_int.refl, seq_zero]
theorem better_else {p q : Bs} (h : (maj p).1.length ≠ (maj q).1.length) : better p q = decide ((maj q).1.length < (maj p).1.length) := by
  unfold better cmpF
  have e : compareInt (-((maj p).1.length : Int)) (-((maj q).1.length : Int)) ≠ 0 := by
    intro e
    have := (ord_int.eq _ _).1 e
    omega
  rw [seq_ne e]
  unfold compareInt
  by_cases h1 : (maj q).1.length < (maj p).1.length
  · rw [if_pos (by omega), decide_eq_true h1]; rfl
  · rw [if_neg (by omega), decide_eq_false h1]
    split <;> rfl
/-- May a path be found for a root, of this A? -/
def may (root : Bs) (a : Int) (p : Bs) : Bool := fits p a && inside root (maj p).1
def pick (root : Bs) (a : Int) (o : Option Bs) (p : Bs) : Option Bs := if may root a p = true then (match o with | none => some p | some q => if better p q = true then some p else some q) else o
def find (root : Bs) (a : Int) (l : List Bs) : Option Bs := l.foldl (pick root a) none
theorem find_snoc (root : Bs) (a : Int) (l : List Bs) (p : Bs) : find root a (l ++ [p]) = pick root a (find root a l) p := by
  unfold find; rw [List.foldl_append]; rfl
/-- What is found: one that may be, none ahead of it; or none may be. -/
def Found (root : Bs) (a : Int) (l : List Bs) (o : Option Bs) : Prop := match o with
  | none => ∀ p ∈ l, may root a p = false
  | some p => p ∈ l ∧ may root a p = true ∧ ∀ q ∈ l, may root a q = true → cmpF p q ≤ 0
theorem found_pick {root : Bs} {a : Int} {l : List Bs} {o : Option Bs} (h : Found root a l o) (p : Bs) : Found root a (l ++ [p]) (pick root a o p) := by
  unfold pick
  cases hm : may root a p with
  | false =>
    rw [if_neg (by simp)]
    cases o with
    | none =>
      intro q hq
      rw [List.mem_append, List.mem_singleton] at hq
      rcases hq with hq | rfl
      · exact h q hq
      · exact hm
    | some x =>
      obtain ⟨h1, h2, h3⟩ := h
      refine ⟨by simp [h1], h2, fun q hq hm2 => ?_⟩
      rw [List.mem_append, List.mem_singleton] at hq
      rcases hq with hq | rfl
      · exact h3 q hq hm2
      · rw [hm] at hm2; exact absurd hm2 (by simp)
  | true =>
    rw [if_pos rfl]
    cases o with
    | none =>
      refine ⟨by simp, hm, fun q hq hm2 => ?_⟩
      rw [List.mem_append, List.mem_singleton] at hq
      rcases hq with hq | rfl
      · rw [h q hq] at hm2; exact absurd hm2 (by simp)
      · rw [ord_find.refl]; omega
    | some x =>
      obtain ⟨h1, h2, h3⟩ := h
      show Found root a (l ++ [p]) (if better p x = true then some p else some x)
      by_cases hb : better p x = true
      · rw [if_pos hb]
        have hb2 : cmpF p x < 0 := of_decide_eq_true hb
        refine ⟨by simp, hm, fun q hq hm2 => ?_⟩
        rw [List.mem_append, List.mem_singleton] at hq
        rcases hq with hq | rfl
        · exact ord_find.le p x q (by omega) (h3 q hq hm2)
        · rw [ord_find.refl]; omega
      · rw [if_neg hb]
        have hb2 : ¬ cmpF p x < 0 := fun e => hb (decide_eq_true e)
        refine ⟨by simp [h1], h2, fun q hq hm2 => ?_⟩
        rw [List.mem_append, List.mem_singleton] at hq
        rcases hq with hq | rfl
        · exact h3 q hq hm2
        · have := ord_find.anti x q; omega
theorem found_all (root : Bs) (a : Int) : ∀ l2 l1 : List Bs, ∀ o, Found root a l1 o → Found root a (l1 ++ l2) (l2.foldl (pick root a) o)
  | [], l1, o, h => by rw [List.append_nil]; exact h
  | p :: l2, l1, o, h => by
    have := found_all root a l2 (l1 ++ [p]) _ (found_pick h p)
    rw [List.append_assoc] at this
    exact this
theorem found_is (root : Bs) (a : Int) (l : List Bs) : Found root a l (find root a l) := found_all root a l [] none (fun p hp => by simp at hp)
theorem found_one {root : Bs} {a : Int} {l k : List Bs} {o r : Option Bs} (h : Found root a l o) (g : Found root a k r) (hlk : ∀ x, x ∈ l ↔ x ∈ k) : o = r := by
  cases o with
  | none =>
    cases r with
    | none => rfl
    | some q =>
      obtain ⟨g1, g2, _⟩ := g
      have := h q ((hlk q).2 g1)
      rw [g2] at this
      exact absurd this (by simp)
  | some p =>
    obtain ⟨h1, h2, h3⟩ := h
    cases r with
    | none =>
      have := g p ((hlk p).1 h1)
      rw [h2] at this
      exact absurd this (by simp)
    | some q =>
      obtain ⟨g1, g2, g3⟩ := g
      have e1 := h3 q ((hlk q).2 g1) g2
      have e2 := g3 p ((hlk p).1 h1) h2
      have e3 := ord_find.anti p q
      rw [(ord_find.eq p q).1 (by omega)]
theorem find_same (root : Bs) (a : Int) {l k : List Bs} (hlk : ∀ x, x ∈ l ↔ x ∈ k) : find root a l = find root a k := found_one (found_is root a l) (found_is root a k) hlk
theorem find_not (root : Bs) (a : Int) (l : List Bs) (p : Bs) (h : may root a p = false) : find root a (l ++ [p]) = find root a l := by
  rw [find_snoc]; unfold pick; rw [if_neg (by simp [h])]
theorem find_may (root : Bs) (a : Int) (l : List Bs) (p : Bs) (h : may root a p = true) : ∃ q, find root a (l ++ [p]) = some q ∧ cmpF q p ≤ 0 ∧ may root a q = true := by
  have hf := found_is root a (l ++ [p])
  cases e : find root a (l ++ [p]) with
  | none =>
    rw [e] at hf
    have := hf p (by simp)
    rw [h] at this
    exact absurd this (by simp)
  | some q =>
    rw [e] at hf
    obtain ⟨_, h2, h3⟩ := hf
    exact ⟨q, rfl, h3 p (by simp) h, h2⟩
theorem cmpF_len {p q : Bs} (h : cmpF p q ≤ 0) : (maj q).1.length ≤ (maj p).1.length := by
  apply Decidable.byContradiction
  intro hn
  have e : (maj p).1.length ≠ (maj q).1.length := by omega
  unfold cmpF at h
  have : compareInt (-((maj p).1.length : Int)) (-((maj q).1.length : Int)) = 1 := by
    unfold compareInt
    rw [if_neg (by omega), if_pos (by omega)]
  rw [this, seq_ne (by omega)] at h
  omega

end Go.Pa

namespace Go.Br
set_option linter.unusedVariables false
open Go.Tx

abbrev Bs := List UInt8
/-- A text, a number, true or false. -/
abbrev Leaf := Bs ⊕ (Int ⊕ Bool)
/-- A value in which at most d lists and maps are within one another. -/
@[reducible] def Val : Nat → Type
  | 0 => Leaf
  | d + 1 => Leaf ⊕ (List (Val d) ⊕ List (Bs × Val d))

def blk (c : UInt8) : Bool := c == 32 || c == 9 || c == 10
def skip (r : Bs) : Bs := r.dropWhile blk

/-- What reading comes to: an answer and the rest, or an error's number and the rest that begins with what is wrong. -/
abbrev R (α : Type) := (α × Bs) ⊕ (Nat × Bs)

def rowM (r : Bs) : Bs := match r with
  | [] => []
  | c :: t => if c = 45 then 45 :: t.takeWhile isDig else (c :: t).takeWhile isDig

def numM (r : Bs) : R Int :=
  let row := rowM r
  if row.head? = some 45 then (if okNum row.tail = true ∧ numVal row.tail ≠ 0 then .inl (-(numVal row.tail), r.drop row.length) else .inr (1, r))
  else (if okNum row = true then .inl (numVal row, r.drop row.length) else .inr (1, r))

def quotedM (r : Bs) : R Bs := match unquote r with
  | some (s, n) => .inl (s, r.drop n)
  | none => .inr (1, r)

def begins (x r : Bs) : Bool := Lib.hasPrefix r x

/-- A value that is no list and no map. -/
def leafM (r : Bs) : R Leaf :=
  if r.head? = some 34 then (match quotedM r with | .inl (s, q) => .inl (.inl s, q) | .inr e => .inr e)
  else if begins [116, 114, 117, 101] r = true then .inl (.inr (.inr true), r.drop 4)
  else if begins [102, 97, 108, 115, 101] r = true then .inl (.inr (.inr false), r.drop 5)
  else (match numM r with | .inl (n, q) => .inl (.inr (.inl n), q) | .inr e => .inr e)

/-- Items, commas between, up to the end's sign. -/
def itemsM {α : Type} (f : List α → Bs → R α) (e : UInt8) : Nat → List α → Bs → R (List α)
  | 0, _, r => .inr (1, r)
  | n + 1, acc, r => match f acc r with
    | .inr x => .inr x
    | .inl (a, q) => match q with
      | [] => .inr (1, [])
      | c :: t => if c = e then .inl (acc ++ [a], t) else if c = 44 then itemsM f e n (acc ++ [a]) t else .inr (1, q)

/-- Behind the opening sign. -/
def insideM {α : Type} (f : List α → Bs → R α) (e : UInt8) (t : Bs) : R (List α) :=
  if (skip t).head? = some e then .inl ([], (skip t).tail) else itemsM f e ((skip t).length + 1) [] (skip t)

def keyM {α : Type} (acc : List (Bs × α)) (r : Bs) : R Bs :=
  match unquote (skip r) with
  | none => .inr (1, skip r)
  | some (k, n) => if (acc.map Prod.fst).contains k = true then .inr (4, skip r) else
    match skip ((skip r).drop n) with
    | [] => .inr (1, [])
    | c :: t => if c = 58 then .inl (k, t) else .inr (1, c :: t)

def pairM {α : Type} (f : Bs → R α) (acc : List (Bs × α)) (r : Bs) : R (Bs × α) :=
  match keyM acc r with
  | .inr e => .inr e
  | .inl (k, q) => match f q with
    | .inr e => .inr e
    | .inl (a, q) => .inl ((k, a), q)

/-- A value, and the blanks around it. -/
def around {α : Type} (f : Bs → R α) (r : Bs) : R α := match f (skip r) with
  | .inr e => .inr e
  | .inl (a, q) => .inl (a, skip q)

def bareM : (d : Nat) → Bs → R (Val d)
  | 0, r => if r.head? = some 91 ∨ r.head? = some 123 then .inr (3, r) else leafM r
  | d + 1, r =>
    if r.head? = some 91 then (match insideM (fun _ => around (bareM d)) 93 r.tail with | .inl (l, q) => .inl (.inr (.inl l), q) | .inr e => .inr e)
    else if r.head? = some 123 then (match insideM (pairM (around (bareM d))) 125 r.tail with | .inl (l, q) => .inl (.inr (.inr l), q) | .inr e => .inr e)
    else (match leafM r with | .inl (x, q) => .inl (.inl x, q) | .inr e => .inr e)

def valM (d : Nat) (r : Bs) : R (Val d) := around (bareM d) r

/-- The whole text: a value, or the error and how many bytes are ahead of it. -/
def parseM (s : Bs) : Val 8 ⊕ (Nat × Nat) :=
  if 8000 < s.length then .inr (2, 0) else
  match valM 8 s with
  | .inr (e, q) => .inr (e, s.length - q.length)
  | .inl (v, []) => .inl v
  | .inl (_, q) => .inr (1, s.length - q.length)

end Go.Br

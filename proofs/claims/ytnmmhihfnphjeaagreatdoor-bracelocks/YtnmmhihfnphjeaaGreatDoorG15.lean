/-
  Plain mathematics of texts of braces: a value's text, with blanks behind its signs, is read as it was.
  Plain mathematics of locks in texts of braces: what a value tells, how locks are written, there and back.
-/
import Derived.Test.YtnmmhihfnphjeaaGreatDoorG09
import Derived.Test.YtnmmhihfnphjeaaGreatDoorG11
import Derived.Test.YtnmmhihfnphjeaaGreatDoorG14

namespace Go.Br
set_option linter.unusedVariables false
open Go.Tx Go.Lib
open Go.Vr (itoa_nat itoa_ok tw_app)

/-! Blanks -/

def allBlk (b : Bs) : Prop := b.all blk = true
theorem skip_blk (b r : Bs) (h : allBlk b) : skip (b ++ r) = skip r := by
  unfold skip
  exact List.dropWhile_append_of_pos (fun a ha => List.all_eq_true.1 h a ha)
theorem skip_skip (r : Bs) : skip (skip r) = skip r := by
  unfold skip
  induction r with
  | nil => rfl
  | cons c t ih =>
    rw [List.dropWhile_cons]
    split
    · exact ih
    · rename_i h
      rw [List.dropWhile_cons, if_neg h]
theorem skip_not {c : UInt8} {t : Bs} (h : blk c = false) : skip (c :: t) = c :: t := by
  unfold skip
  rw [List.dropWhile_cons, if_neg (by rw [h]; simp)]
/-- What stands behind a value: no digit. -/
def Safe (r : Bs) : Prop := ∀ c t, r = c :: t → isDig c = false
theorem safe_cons {c : UInt8} {t : Bs} (h : isDig c = false) : Safe (c :: t) := by
  intro d u e; injection e with e1 _; rw [← e1]; exact h
theorem safe_nil : Safe [] := by intro c t e; cases e
theorem safe_blk {b r : Bs} (hb : allBlk b) (hr : Safe r) : Safe (b ++ r) := by
  cases b with
  | nil => exact hr
  | cons c t =>
    refine safe_cons ?_
    unfold allBlk at hb
    rw [List.all_cons, Bool.and_eq_true] at hb
    have h := hb.1
    unfold blk at h
    simp only [Bool.or_eq_true, beq_iff_eq] at h
    rcases h with (h | h) | h <;> rw [h] <;> decide

/-! Texts -/

def leafT : Leaf → Bs
  | .inl s => quote s
  | .inr (.inl n) => itoa n
  | .inr (.inr true) => [116, 114, 117, 101]
  | .inr (.inr false) => [102, 97, 108, 115, 101]

def cjoin : List Bs → Bs
  | [] => []
  | x :: l => x ++ l.flatMap fun y => 44 :: y

def textV : (d : Nat) → Val d → Bs
  | 0, x => leafT x
  | _ + 1, Sum.inl x => leafT x
  | d + 1, Sum.inr (Sum.inl l) => 91 :: (cjoin (l.map (textV d)) ++ [93])
  | d + 1, Sum.inr (Sum.inr l) => 123 :: (cjoin (l.map fun kx => quote kx.1 ++ 58 :: textV d kx.2) ++ [125])

def leafOk : Leaf → Prop
  | .inl s => plain s = true
  | .inr (.inl n) => -999999999 ≤ n ∧ n ≤ 999999999
  | .inr (.inr _) => True

def okV : (d : Nat) → Val d → Prop
  | 0, x => leafOk x
  | _ + 1, Sum.inl x => leafOk x
  | d + 1, Sum.inr (Sum.inl l) => ∀ x ∈ l, okV d x
  | d + 1, Sum.inr (Sum.inr l) => (l.map Prod.fst).Nodup ∧ ∀ kx ∈ l, plain kx.1 = true ∧ okV d kx.2

/-! Texts with blanks -/

/-- Items' texts, a comma and blanks between. -/
def itemsT {α : Type} (P : α → Bs → Prop) : List α → Bs → Prop
  | [], t => t = []
  | x :: l, t => ∃ u v, P x u ∧ t = u ++ v ∧ (match l with | [] => v = [] | _ :: _ => ∃ b z, allBlk b ∧ v = 44 :: (b ++ z) ∧ itemsT P l z)

def spV : (d : Nat) → Val d → Bs → Prop
  | 0, x, t => t = leafT x
  | _ + 1, Sum.inl x, t => t = leafT x
  | d + 1, Sum.inr (Sum.inl l), t => ∃ b u e, allBlk b ∧ itemsT (spV d) l u ∧ allBlk e ∧ t = 91 :: (b ++ (u ++ 93 :: e))
  | d + 1, Sum.inr (Sum.inr l), t => ∃ b u e, allBlk b ∧ itemsT (fun kx t => ∃ b v, allBlk b ∧ spV d kx.2 v ∧ t = quote kx.1 ++ 58 :: (b ++ v)) l u ∧ allBlk e ∧ t = 123 :: (b ++ (u ++ 125 :: e))

theorem itemsT_of {α : Type} (P : α → Bs → Prop) (f : α → Bs) : ∀ l : List α, (∀ x ∈ l, P x (f x)) → itemsT P l (cjoin (l.map f))
  | [], _ => rfl
  | [x], h => ⟨f x, [], h x (List.mem_cons_self ..), by simp [cjoin], rfl⟩
  | x :: y :: l, h => by
    refine ⟨f x, 44 :: cjoin ((y :: l).map f), h x (List.mem_cons_self ..), by simp [cjoin], [], _, by rfl, rfl, ?_⟩
    exact itemsT_of P f (y :: l) fun z hz => h z (List.mem_cons_of_mem _ hz)

theorem spV_text : ∀ (d : Nat) (x : Val d), spV d x (textV d x)
  | 0, _ => rfl
  | _ + 1, Sum.inl _ => rfl
  | d + 1, Sum.inr (Sum.inl l) => ⟨[], _, [], rfl, itemsT_of _ _ l fun x _ => spV_text d x, rfl, rfl⟩
  | d + 1, Sum.inr (Sum.inr l) => ⟨[], _, [], rfl, itemsT_of _ _ l fun x _ => ⟨[], _, rfl, spV_text d x.2, rfl⟩, rfl, rfl⟩

/-! Leaves -/

theorem quote_cons (s : Bs) : ∃ t, quote s = 34 :: t := ⟨_, rfl⟩

theorem itoa_head (n : Int) (h1 : -999999999 ≤ n) (h2 : n ≤ 999999999) : (∃ c t, itoa n = c :: t ∧ 0 ≤ n ∧ isDig c = true) ∨ (∃ t, itoa n = 45 :: t ∧ n < 0 ∧ t = itoa (-n)) := by
  by_cases h : n < 0
  · refine .inr ⟨itoa (-n), ?_, h, rfl⟩
    obtain ⟨k, hk⟩ := Int.eq_ofNat_of_zero_le (show 0 ≤ -n by omega)
    rw [hk, itoa_nat]
    unfold itoa
    rw [if_pos h, show n.natAbs = k by omega]
  · obtain ⟨-, -, o3, o4⟩ := itoa_ok n (by omega) (by omega)
    cases hi : itoa n with
    | nil => exact absurd hi o4
    | cons c t =>
      rw [hi, List.all_cons, Bool.and_eq_true] at o3
      exact .inl ⟨c, t, rfl, by omega, o3.1⟩

theorem numM_itoa (n : Int) (r : Bs) (h1 : -999999999 ≤ n) (h2 : n ≤ 999999999) (hr : Safe r) : numM (itoa n ++ r) = .inl (n, r) := by
  rcases itoa_head n h1 h2 with ⟨c, t, hi, h0, hc⟩ | ⟨t, hi, h0, ht⟩
  · obtain ⟨o1, o2, o3, o4⟩ := itoa_ok n h0 (by omega)
    obtain ⟨t1, t2⟩ := tw_app (itoa n) r o3 hr
    have hc45 : ¬ c = 45 := by intro e; rw [e] at hc; exact absurd hc (by decide)
    have hrow : rowM (itoa n ++ r) = itoa n := by
      rw [hi] at t1 ⊢
      show rowM (c :: (t ++ r)) = _
      unfold rowM
      simp only
      rw [if_neg hc45]
      exact t1
    unfold numM
    simp only [hrow]
    rw [if_neg (by rw [hi]; simpa using hc45), if_pos o1, o2]
    simp
  · obtain ⟨o1, o2, o3, o4⟩ := itoa_ok (-n) (by omega) (by omega)
    obtain ⟨t1, t2⟩ := tw_app (itoa (-n)) r o3 hr
    have hrow : rowM (itoa n ++ r) = itoa n := by
      rw [hi, ht]
      show rowM (45 :: (itoa (-n) ++ r)) = _
      unfold rowM
      simp only [if_true]
      rw [t1]
    unfold numM
    simp only [hrow]
    have htl : (itoa n).tail = itoa (-n) := by rw [hi, ht]; rfl
    rw [if_pos (by rw [hi]; rfl), if_pos (by rw [htl, o2]; exact ⟨o1, by omega⟩), htl, o2]
    simp

theorem leafM_text (x : Leaf) (r : Bs) (h : leafOk x) (hr : Safe r) : leafM (leafT x ++ r) = .inl (x, r) := by
  match x, h with
  | .inl s, h =>
    have hq := unquote_quote s r h
    have hp : quotedM (quote s ++ r) = .inl (s, r) := by unfold quotedM; rw [hq]; simp
    unfold leafM
    show (if (quote s ++ r).head? = some 34 then _ else _) = _
    rw [if_pos (by unfold quote; rfl)]
    show (match quotedM (quote s ++ r) with | .inl (s, q) => _ | .inr e => _) = _
    rw [hp]
  | .inr (.inr true), _ => rfl
  | .inr (.inr false), _ => rfl
  | .inr (.inl n), h =>
    have hn := numM_itoa n r h.1 h.2 hr
    have hh : ∃ c t, itoa n ++ r = c :: t ∧ c ≠ 34 ∧ c ≠ 116 ∧ c ≠ 102 := by
      rcases itoa_head n h.1 h.2 with ⟨c, t, hi, _, hc⟩ | ⟨t, hi, _, _⟩
      · refine ⟨c, t ++ r, by rw [hi]; rfl, ?_, ?_, ?_⟩ <;> (intro e; rw [e] at hc; exact absurd hc (by decide))
      · exact ⟨45, t ++ r, by rw [hi]; rfl, by decide, by decide, by decide⟩
    obtain ⟨c, t, e, c1, c2, c3⟩ := hh
    unfold leafM
    show (if (itoa n ++ r).head? = some 34 then _ else if begins _ (itoa n ++ r) = true then _ else if begins _ (itoa n ++ r) = true then _ else match numM (itoa n ++ r) with | .inl (n, q) => _ | .inr e => _) = _
    rw [hn, e, if_neg (by simpa using c1), if_neg (by unfold begins Lib.hasPrefix; simp [List.isPrefixOf]; exact fun e => absurd e.symm c2), if_neg (by unfold begins Lib.hasPrefix; simp [List.isPrefixOf]; exact fun e => absurd e.symm c3)]

/-- A value's text begins with no blank. -/
theorem leafT_head (x : Leaf) (h : leafOk x) : ∃ c t, leafT x = c :: t ∧ blk c = false ∧ c ≠ 91 ∧ c ≠ 123 := by
  match x, h with
  | .inl s, _ => exact ⟨34, _, rfl, by decide, by decide, by decide⟩
  | .inr (.inr true), _ => exact ⟨116, _, rfl, by decide, by decide, by decide⟩
  | .inr (.inr false), _ => exact ⟨102, _, rfl, by decide, by decide, by decide⟩
  | .inr (.inl n), h =>
    rcases itoa_head n h.1 h.2 with ⟨c, t, hi, _, hc⟩ | ⟨t, hi, _, _⟩
    · have hd : 48 ≤ (c.toNat : Int) ∧ (c.toNat : Int) ≤ 57 := by simpa [isDig] using hc
      refine ⟨c, t, hi, ?_, ?_, ?_⟩
      · unfold blk
        have : ∀ z : UInt8, z.toNat < 48 → (c == z) = false := fun z hz => by
          rw [beq_eq_false_iff_ne]; intro e; rw [e] at hd; omega
        rw [this 32 (by decide), this 9 (by decide), this 10 (by decide)]; rfl
      · intro e; rw [e] at hc; exact absurd hc (by decide)
      · intro e; rw [e] at hc; exact absurd hc (by decide)
    · exact ⟨45, t, hi, by decide, by decide, by decide⟩

theorem spV_head (d : Nat) (x : Val d) (t : Bs) (h : spV d x t) (ho : okV d x) : ∃ c u, t = c :: u ∧ blk c = false := by
  match d, x, h, ho with
  | 0, x, h, ho => obtain ⟨c, u, e, hb, _⟩ := leafT_head x ho; exact ⟨c, u, by rw [show t = leafT x from h, e], hb⟩
  | _ + 1, Sum.inl x, h, ho => obtain ⟨c, u, e, hb, _⟩ := leafT_head x ho; exact ⟨c, u, by rw [show t = leafT x from h, e], hb⟩
  | _ + 1, Sum.inr (Sum.inl l), ⟨b, u, e, _, _, _, ht⟩, _ => exact ⟨_, _, ht, by decide⟩
  | _ + 1, Sum.inr (Sum.inr l), ⟨b, u, e, _, _, _, ht⟩, _ => exact ⟨_, _, ht, by decide⟩

/-! Items -/

theorem items_read {α : Type} (P : α → Bs → Prop) (f : List α → Bs → R α) (e : UInt8) (he : isDig e = false) (heb : blk e = false) (hne : ¬ (44 : UInt8) = e) (A : List α → α → Prop)
    (hf : ∀ acc x u b r, A acc x → P x u → allBlk b → Safe r → f acc (b ++ (u ++ r)) = .inl (x, skip r)) :
    ∀ (l : List α) (n : Nat) (acc : List α) (b u r : Bs), l ≠ [] → l.length ≤ n → (∀ a x c, l = a ++ x :: c → A (acc ++ a) x) → allBlk b → itemsT P l u → itemsM f e n acc (b ++ (u ++ e :: r)) = .inl (acc ++ l, r)
  | [], _, _, _, _, _, h, _, _, _, _ => absurd rfl h
  | x :: l, 0, _, _, _, _, _, h, _, _, _ => by simp at h
  | x :: l, n + 1, acc, b, u, r, _, hn, hA, hb, ⟨u1, v, hP, hu, hv⟩ => by
    have hAx : A acc x := by have := hA [] x l rfl; rwa [List.append_nil] at this
    cases l with
    | nil =>
      subst hv
      rw [List.append_nil] at hu
      subst hu
      unfold itemsM
      rw [hf acc x u b (e :: r) hAx hP hb (safe_cons he)]
      simp only [skip_not heb, if_true]
    | cons y l =>
      obtain ⟨b2, z, hb2, hv2, hz⟩ := hv
      subst hv2
      subst hu
      unfold itemsM
      have hre : (u1 ++ 44 :: (b2 ++ z)) ++ e :: r = u1 ++ (44 :: (b2 ++ (z ++ e :: r))) := by simp
      rw [hre, hf acc x u1 b (44 :: (b2 ++ (z ++ e :: r))) hAx hP hb (safe_cons (by decide))]
      simp only [skip_not (show blk 44 = false by decide)]
      have ih := items_read P f e he heb hne A hf (y :: l) n (acc ++ [x]) b2 z r (by simp) (by simpa using hn) (fun a x' c hc => by
        have := hA (x :: a) x' c (by rw [hc]; rfl)
        rw [List.append_assoc]
        exact this) hb2 hz
      rw [if_neg hne, if_pos trivial, ih, List.append_assoc]
      rfl

theorem itemsT_head {α : Type} (P : α → Bs → Prop) (l : List α) (u r : Bs) (hl : l ≠ []) (h : itemsT P l u) (hP : ∀ x ∈ l, ∀ t, P x t → ∃ c v, t = c :: v ∧ blk c = false ∧ c ≠ 93 ∧ c ≠ 125) : ∃ c v, u ++ r = c :: v ∧ blk c = false ∧ c ≠ 93 ∧ c ≠ 125 := by
  cases l with
  | nil => exact absurd rfl hl
  | cons x l =>
    obtain ⟨u1, v, h1, h2, -⟩ := h
    obtain ⟨c, z, e, hb, h93, h125⟩ := hP x (List.mem_cons_self ..) u1 h1
    exact ⟨c, z ++ v ++ r, by rw [h2, e]; simp, hb, h93, h125⟩

theorem inside_read {α : Type} (P : α → Bs → Prop) (f : List α → Bs → R α) (e : UInt8) (he : isDig e = false) (heb : blk e = false) (hne : ¬ (44 : UInt8) = e) (h9 : e = 93 ∨ e = 125) (A : List α → α → Prop)
    (hf : ∀ acc x u b r, A acc x → P x u → allBlk b → Safe r → f acc (b ++ (u ++ r)) = .inl (x, skip r))
    (l : List α) (b u r : Bs) (hA : ∀ a x c, l = a ++ x :: c → A a x) (hb : allBlk b) (hu : itemsT P l u) (hP : ∀ x ∈ l, ∀ t, P x t → ∃ c v, t = c :: v ∧ blk c = false ∧ c ≠ 93 ∧ c ≠ 125) (hlen : l.length ≤ u.length + 1) : insideM f e (b ++ (u ++ e :: r)) = .inl (l, r) := by
  unfold insideM
  rw [skip_blk _ _ hb]
  cases l with
  | nil =>
    obtain rfl : u = [] := hu
    have hs : skip ([] ++ e :: r) = e :: r := skip_not heb
    rw [hs]
    simp
  | cons x l =>
    obtain ⟨c, v, hc, hcb, h93, h125⟩ := itemsT_head P (x :: l) u (e :: r) (by simp) hu hP
    have hs : skip (u ++ e :: r) = u ++ e :: r := by rw [hc, skip_not hcb]
    rw [hs]
    rw [if_neg (by rw [hc]; rcases h9 with rfl | rfl <;> simpa)]
    have := items_read P f e he heb hne A hf (x :: l) ((u ++ e :: r).length + 1) [] [] u r (by simp) (by rw [List.length_append]; simp at hlen ⊢; omega) (fun a y c hy => by rw [List.nil_append]; exact hA a y c hy) rfl hu
    rw [List.nil_append, List.nil_append] at this
    exact this

theorem itemsT_len {α : Type} (P : α → Bs → Prop) : ∀ (l : List α) (u : Bs), itemsT P l u → (∀ x ∈ l, ∀ t, P x t → 1 ≤ t.length) → l.length ≤ u.length
  | [], _, _, _ => by simp
  | x :: l, u, ⟨u1, v, h1, h2, h3⟩, h => by
    have := h x (List.mem_cons_self ..) u1 h1
    cases l with
    | nil => rw [h2, List.length_append]; simp; omega
    | cons y l =>
      obtain ⟨b, z, _, hv, hz⟩ := h3
      have ih := itemsT_len P (y :: l) z hz fun w hw => h w (List.mem_cons_of_mem _ hw)
      rw [h2, hv]
      simp only [List.length_append, List.length_cons] at ih ⊢
      omega

/-- The head of a value's text with blanks. -/
theorem spV_head2 (d : Nat) (x : Val d) (t : Bs) (h : spV d x t) (ho : okV d x) : ∃ c u, t = c :: u ∧ blk c = false ∧ c ≠ 93 ∧ c ≠ 125 := by
  have leaf : ∀ y : Leaf, leafOk y → ∃ c u, leafT y = c :: u ∧ blk c = false ∧ c ≠ 93 ∧ c ≠ 125 := by
    intro y hy
    match y, hy with
    | .inl s, _ => exact ⟨34, _, rfl, by decide, by decide, by decide⟩
    | .inr (.inr true), _ => exact ⟨116, _, rfl, by decide, by decide, by decide⟩
    | .inr (.inr false), _ => exact ⟨102, _, rfl, by decide, by decide, by decide⟩
    | .inr (.inl n), h =>
      obtain ⟨c, u, e, hb, h91, h123⟩ := leafT_head (.inr (.inl n)) h
      refine ⟨c, u, e, hb, ?_⟩
      rcases itoa_head n h.1 h.2 with ⟨c2, t, hi, _, hc⟩ | ⟨t, hi, _, _⟩
      · have : c = c2 := by have e2 : itoa n = c :: u := e; rw [hi] at e2; injection e2 with e2 _; exact e2.symm
        subst this
        constructor <;> (intro e; rw [e] at hc; exact absurd hc (by decide))
      · have : c = 45 := by have e2 : itoa n = c :: u := e; rw [hi] at e2; injection e2 with e2 _; exact e2.symm
        subst this
        exact ⟨by decide, by decide⟩
  match d, x, h, ho with
  | 0, x, h, ho => obtain ⟨c, u, e, hb⟩ := leaf x ho; exact ⟨c, u, by rw [show t = leafT x from h, e], hb⟩
  | _ + 1, Sum.inl x, h, ho => obtain ⟨c, u, e, hb⟩ := leaf x ho; exact ⟨c, u, by rw [show t = leafT x from h, e], hb⟩
  | _ + 1, Sum.inr (Sum.inl l), ⟨b, u, e, _, _, _, ht⟩, _ => exact ⟨_, _, ht, by decide, by decide, by decide⟩
  | _ + 1, Sum.inr (Sum.inr l), ⟨b, u, e, _, _, _, ht⟩, _ => exact ⟨_, _, ht, by decide, by decide, by decide⟩

theorem bareM_leaf (d : Nat) (x : Leaf) (r : Bs) (h : leafOk x) (hr : Safe r) : bareM (d + 1) (leafT x ++ r) = .inl (Sum.inl x, r) ∧ bareM 0 (leafT x ++ r) = .inl (x, r) := by
  obtain ⟨c, u, e, hb, h91, h123⟩ := leafT_head x h
  have hl := leafM_text x r h hr
  have hh : (leafT x ++ r).head? = some c := by rw [e]; rfl
  constructor
  · show (if (leafT x ++ r).head? = some 91 then _ else if (leafT x ++ r).head? = some 123 then _ else match leafM (leafT x ++ r) with | .inl (x, q) => _ | .inr e => _) = _
    rw [hh, if_neg (by simpa using h91), if_neg (by simpa using h123), hl]
  · show (if (leafT x ++ r).head? = some 91 ∨ (leafT x ++ r).head? = some 123 then _ else leafM (leafT x ++ r)) = _
    rw [hh, if_neg (by rintro (h | h); exact h91 (Option.some.inj h); exact h123 (Option.some.inj h)), hl]

theorem around_of {α : Type} (f : Bs → R α) (x : α) (b u r : Bs) (hb : allBlk b) (hu : ∃ c v, u = c :: v ∧ blk c = false) (h : f (u ++ r) = .inl (x, r)) : around f (b ++ (u ++ r)) = .inl (x, skip r) := by
  obtain ⟨c, v, e, hc⟩ := hu
  unfold around
  rw [skip_blk _ _ hb, show skip (u ++ r) = u ++ r by rw [e]; exact skip_not hc, h]

theorem keyM_of {α : Type} (acc : List (Bs × α)) (k b r : Bs) (hk : plain k = true) (hacc : (acc.map Prod.fst).contains k = false) (hb : allBlk b) : keyM acc (b ++ (quote k ++ 58 :: r)) = .inl (k, r) := by
  have hs : skip (b ++ (quote k ++ 58 :: r)) = quote k ++ 58 :: r := by
    rw [skip_blk _ _ hb]; exact skip_not (by decide)
  unfold keyM
  rw [hs, unquote_quote k _ hk]
  simp only [hacc]
  rw [show (quote k ++ 58 :: r).drop (quote k).length = 58 :: r by simp, skip_not (by decide)]
  simp

theorem allBlk_nil : allBlk [] := rfl
theorem itemsT_mono {α : Type} (P Q : α → Bs → Prop) : ∀ (l : List α) (u : Bs), itemsT P l u → (∀ x ∈ l, ∀ t, P x t → Q x t) → itemsT Q l u
  | [], _, h, _ => h
  | x :: l, u, ⟨u1, v, h1, h2, h3⟩, h => by
    refine ⟨u1, v, h x (List.mem_cons_self ..) u1 h1, h2, ?_⟩
    cases l with
    | nil => exact h3
    | cons y l =>
      obtain ⟨b, z, hb, hv, hz⟩ := h3
      exact ⟨b, z, hb, hv, itemsT_mono P Q (y :: l) z hz fun w hw => h w (List.mem_cons_of_mem _ hw)⟩

theorem nodup_mid {l : List Bs} (h : l.Nodup) (a c : List Bs) (x : Bs) (e : l = a ++ x :: c) : a.contains x = false := by
  rw [e, List.nodup_append] at h
  have := h.2.2
  rw [Bool.eq_false_iff]
  intro hc
  rw [List.contains_iff_mem] at hc
  exact this x hc x (List.mem_cons_self ..) rfl

theorem bareM_list (d : Nat) (t : Bs) (l : List (Val d)) (q : Bs) (h : insideM (fun _ => valM d) 93 t = .inl (l, q)) : bareM (d + 1) (91 :: t) = .inl (Sum.inr (Sum.inl l), q) := by
  have h2 : insideM (fun _ => around (bareM d)) 93 t = .inl (l, q) := h
  unfold bareM
  rw [if_pos (by rfl), List.tail_cons, h2]
theorem bareM_map (d : Nat) (t : Bs) (l : List (Bs × Val d)) (q : Bs) (h : insideM (pairM (valM d)) 125 t = .inl (l, q)) : bareM (d + 1) (123 :: t) = .inl (Sum.inr (Sum.inr l), q) := by
  have h2 : insideM (pairM (around (bareM d))) 125 t = .inl (l, q) := h
  unfold bareM
  rw [if_neg (by simp), if_pos (by rfl), List.tail_cons, h2]

/-- A value's text, with blanks behind its signs, is read as it was. -/
theorem val_read : ∀ (d : Nat) (x : Val d) (t b r : Bs), okV d x → spV d x t → allBlk b → Safe r → valM d (b ++ (t ++ r)) = .inl (x, skip r)
  | 0, x, t, b, r, ho, hs, hb, hr => by
    obtain rfl : t = leafT x := hs
    obtain ⟨c, u, e, hc, _⟩ := leafT_head x ho
    exact around_of _ x b _ r hb ⟨c, u, e, hc⟩ (bareM_leaf 0 x r ho hr).2
  | d + 1, Sum.inl x, t, b, r, ho, hs, hb, hr => by
    obtain rfl : t = leafT x := hs
    obtain ⟨c, u, e, hc, _⟩ := leafT_head x ho
    exact around_of _ (Sum.inl x) b _ r hb ⟨c, u, e, hc⟩ (bareM_leaf d x r ho hr).1
  | d + 1, Sum.inr (Sum.inl l), t, b, r, ho, ⟨b1, u, e, hb1, hu, he, ht⟩, hb, hr => by
    have ih := val_read d
    have hP : ∀ x ∈ l, ∀ t, spV d x t → ∃ c v, t = c :: v ∧ blk c = false ∧ c ≠ 93 ∧ c ≠ 125 := fun x hx t h => spV_head2 d x t h (ho x hx)
    have h1 : ∀ x ∈ l, ∀ t, spV d x t → 1 ≤ t.length := fun x hx t h => by obtain ⟨c, v, e, _⟩ := hP x hx t h; rw [e]; simp
    have hl := itemsT_len _ l u hu h1
    have hin := inside_read (fun x t => x ∈ l ∧ spV d x t) (fun _ => valM d) 93 (by decide) (by decide) (by decide) (.inl rfl) (fun _ _ => True)
      (fun acc x u b r _ hP hb hr => ih x u b r (ho x hP.1) hP.2 hb hr) l b1 u (e ++ r) (fun _ _ _ _ => trivial) hb1
      (itemsT_mono _ _ l u hu fun x hx t h => ⟨hx, h⟩) (fun x hx t h => hP x hx t h.2) (by omega)
    unfold valM around
    rw [skip_blk _ _ hb, ht]
    have e1 : (91 :: (b1 ++ (u ++ 93 :: e))) ++ r = 91 :: (b1 ++ (u ++ 93 :: (e ++ r))) := by simp
    rw [e1, skip_not (by decide)]
    rw [bareM_list d _ _ _ hin]
    simp only [skip_blk _ _ he]
  | d + 1, Sum.inr (Sum.inr l), t, b, r, ho, ⟨b1, u, e, hb1, hu, he, ht⟩, hb, hr => by
    have ih := val_read d
    have hP : ∀ x ∈ l, ∀ t, (∃ b v, allBlk b ∧ spV d x.2 v ∧ t = quote x.1 ++ 58 :: (b ++ v)) → ∃ c v, t = c :: v ∧ blk c = false ∧ c ≠ 93 ∧ c ≠ 125 := fun x _ t ⟨b, v, _, _, h⟩ => ⟨34, _, h, by decide, by decide, by decide⟩
    have h1 : ∀ x ∈ l, ∀ t, (∃ b v, allBlk b ∧ spV d x.2 v ∧ t = quote x.1 ++ 58 :: (b ++ v)) → 1 ≤ t.length := fun x hx t h => by obtain ⟨c, v, e, _⟩ := hP x hx t h; rw [e]; simp
    have hl := itemsT_len _ l u hu h1
    have hin := inside_read (fun x t => x ∈ l ∧ ∃ b v, allBlk b ∧ spV d x.2 v ∧ t = quote x.1 ++ 58 :: (b ++ v)) (pairM (valM d)) 125 (by decide) (by decide) (by decide) (.inr rfl) (fun acc x => (acc.map Prod.fst).contains x.1 = false)
      (fun acc x u b r hA hP hb hr => by
        obtain ⟨hx, b2, v, hb2, hv, hu⟩ := hP
        obtain ⟨ok1, ok2⟩ := ho.2 x hx
        unfold pairM
        rw [hu, show (quote x.1 ++ 58 :: (b2 ++ v)) ++ r = quote x.1 ++ 58 :: (b2 ++ (v ++ r)) by simp, keyM_of acc x.1 b _ ok1 hA hb]
        simp only [ih x.2 v b2 r ok2 hv hb2 hr]) l b1 u (e ++ r)
      (fun a x c hc => nodup_mid ho.1 (a.map Prod.fst) (c.map Prod.fst) x.1 (by rw [hc]; simp)) hb1
      (itemsT_mono _ _ l u hu fun x hx t h => ⟨hx, h⟩) (fun x hx t h => hP x hx t h.2) (by omega)
    unfold valM around
    rw [skip_blk _ _ hb, ht]
    have e1 : (123 :: (b1 ++ (u ++ 125 :: e))) ++ r = 123 :: (b1 ++ (u ++ 125 :: (e ++ r))) := by simp
    rw [e1, skip_not (by decide)]
    rw [bareM_map d _ _ _ hin]
    simp only [skip_blk _ _ he]

/-- T4: a value's text is read as it was. -/
theorem parse_text (x : Val 8) (h : okV 8 x) (hl : (textV 8 x).length ≤ 8000) : parseM (textV 8 x) = .inl x := by
  have := val_read 8 x (textV 8 x) [] [] h (spV_text 8 x) rfl safe_nil
  rw [List.nil_append, List.append_nil] at this
  unfold parseM
  rw [if_neg (by omega), this]
  rfl

end Go.Br

namespace Go.Br
set_option linter.unusedVariables false
open Go.Tx Go.Lib
open Go.Pa (right)

structure Lk where
  root : Bs
  ver : Bs
  rev : Bs
  within : Bs
  source : Bs

def kPath : Bs := [112, 97, 116, 104]
def kRev : Bs := [114, 101, 118, 105, 115, 105, 111, 110]
def kVer : Bs := [118, 101, 114, 115, 105, 111, 110]
def kWithin : Bs := [119, 105, 116, 104, 105, 110]
def kOrigin : Bs := [111, 114, 105, 103, 105, 110]
def kLocks : Bs := [108, 111, 99, 107, 115]

/-- The fields of a lock, in the order in which they are written. -/
def fieldsL (x : Lk) : List (Bs × Bs) := [(kPath, x.root), (kRev, x.rev), (kVer, x.ver), (kWithin, x.within), (kOrigin, x.source)]
def hereL (x : Lk) : List (Bs × Bs) := (fieldsL x).filter fun f => f.2 != []
def leaf5 (f : Bs × Bs) : Bs × Val 5 := (f.1, Sum.inl (Sum.inl f.2))
def lockV (x : Lk) : Val 6 := Sum.inr (Sum.inr ((hereL x).map leaf5))
def locksV (l : List Lk) : Val 8 := Sum.inr (Sum.inr [(kLocks, Sum.inr (Sum.inl (l.map lockV)))])
def writeM (l : List Lk) : Bs := textV 8 (locksV l) ++ [10]

def assoc {α : Type} (l : List (Bs × α)) (k : Bs) : Option α := (l.find? fun p => p.1 == k).map Prod.snd
def fieldM (l : List (Bs × Val 5)) (k : Bs) : Option Bs := match assoc l k with
  | none => some []
  | some (Sum.inl (Sum.inl s)) => some s
  | some _ => none
def lockM (x : Val 6) : Option Lk := match x with
  | Sum.inr (Sum.inr l) => (match fieldM l kPath, fieldM l kRev, fieldM l kVer, fieldM l kWithin, fieldM l kOrigin with
    | some a, some b, some c, some d, some e => some ⟨a, c, b, d, e⟩
    | _, _, _, _, _ => none)
  | _ => none
def lockMs : List (Val 6) → Option (List Lk)
  | [] => some []
  | x :: l => match lockM x with
    | none => none
    | some k => (lockMs l).map fun ks => k :: ks
def formM (x : Val 8) : Option (List Lk) := match x with
  | Sum.inr (Sum.inr l) => (match assoc l kLocks with
    | none => some []
    | some (Sum.inr (Sum.inl ls)) => lockMs ls
    | some _ => none)
  | _ => none

def ownM (x : Lk) : Nat := if (!right x.root || (x.source != [] && !right x.source)) = true then 7 else if (x.rev == [] && x.ver == []) = true then 1 else 0
/-- Why locks may not be; those ahead have these roots. -/
def faultG : List Bs → List Lk → Nat
  | seen, [] => if 40 < seen.length then 2 else 0
  | seen, x :: l => if ownM x ≠ 0 then ownM x else if seen.contains x.root = true then 4 else faultG (seen ++ [x.root]) l
def faultM (l : List Lk) : Nat := faultG [] l

def locksM (s : Bs) : List Lk ⊕ (Nat × Nat) := match parseM s with
  | .inr e => .inr e
  | .inl v => match formM v with
    | none => .inr (1, 0)
    | some l => if faultM l = 0 then .inl l else .inr (faultM l, 0)

/-! There and back -/

def plainL (x : Lk) : Prop := plain x.root = true ∧ plain x.ver = true ∧ plain x.rev = true ∧ plain x.within = true ∧ plain x.source = true

theorem assoc_here (x : Lk) (k : Bs) (s : Bs) (hk : (k, s) ∈ fieldsL x) : fieldM ((hereL x).map leaf5) k = some s := by
  obtain ⟨a, b, c, d, e⟩ := x
  simp only [fieldsL, List.mem_cons, Prod.mk.injEq, List.not_mem_nil, or_false] at hk
  unfold fieldM assoc hereL fieldsL
  by_cases ha : a = [] <;> by_cases hb : b = [] <;> by_cases hc : c = [] <;> by_cases hd : d = [] <;> by_cases he : e = [] <;>
    rcases hk with ⟨rfl, rfl⟩ | ⟨rfl, rfl⟩ | ⟨rfl, rfl⟩ | ⟨rfl, rfl⟩ | ⟨rfl, rfl⟩ <;>
    simp [ha, hb, hc, hd, he, leaf5, kPath, kRev, kVer, kWithin, kOrigin]

theorem lockM_lockV (x : Lk) : lockM (lockV x) = some x := by
  have h := assoc_here x
  unfold lockM lockV
  simp only
  rw [h kPath x.root (by simp [fieldsL]), h kRev x.rev (by simp [fieldsL]), h kVer x.ver (by simp [fieldsL]), h kWithin x.within (by simp [fieldsL]), h kOrigin x.source (by simp [fieldsL])]

theorem lockMs_map : ∀ l : List Lk, lockMs (l.map lockV) = some l
  | [] => rfl
  | x :: l => by
    show (match lockM (lockV x) with | none => none | some k => (lockMs (l.map lockV)).map fun ks => k :: ks) = _
    rw [lockM_lockV, lockMs_map l]; rfl

theorem formM_locksV (l : List Lk) : formM (locksV l) = some l := by
  unfold formM locksV assoc
  simp only [List.find?_cons, beq_self_eq_true, Option.map_some]
  exact lockMs_map l

theorem okV_locks (l : List Lk) (h : ∀ x ∈ l, plainL x) : okV 8 (locksV l) := by
  refine ⟨by simp, ?_⟩
  intro kx hk
  rw [List.mem_singleton] at hk
  subst hk
  refine ⟨show plain kLocks = true by decide, ?_⟩
  intro y hy
  obtain ⟨x, hx, rfl⟩ := List.mem_map.1 hy
  have hp := h x hx
  have hsub : ((hereL x).map leaf5).map Prod.fst = (hereL x).map Prod.fst := by rw [List.map_map]; rfl
  refine ⟨?_, ?_⟩
  · rw [hsub]
    have : ((hereL x).map Prod.fst).Sublist ((fieldsL x).map Prod.fst) := List.Sublist.map _ List.filter_sublist
    refine List.Nodup.sublist this ?_
    simp [fieldsL, kPath, kRev, kVer, kWithin, kOrigin]
  · intro f hf
    obtain ⟨g, hg, rfl⟩ := List.mem_map.1 hf
    have hg2 := (List.mem_filter.1 hg).1
    simp only [fieldsL, List.mem_cons, List.not_mem_nil, or_false] at hg2
    obtain ⟨p1, p2, p3, p4, p5⟩ := hp
    rcases hg2 with rfl | rfl | rfl | rfl | rfl
    · exact ⟨show plain kPath = true by decide, p1⟩
    · exact ⟨show plain kRev = true by decide, p3⟩
    · exact ⟨show plain kVer = true by decide, p2⟩
    · exact ⟨show plain kWithin = true by decide, p4⟩
    · exact ⟨show plain kOrigin = true by decide, p5⟩

theorem parse_write (l : List Lk) (h : ∀ x ∈ l, plainL x) (hl : (writeM l).length ≤ 8000) : parseM (writeM l) = .inl (locksV l) := by
  have := val_read 8 (locksV l) (textV 8 (locksV l)) [] [10] (okV_locks l h) (spV_text 8 _) rfl (safe_cons (by decide))
  rw [List.nil_append] at this
  unfold parseM
  rw [if_neg (by omega)]
  show (match valM 8 (textV 8 (locksV l) ++ [10]) with | .inr (e, q) => _ | .inl (v, []) => _ | .inl (_, q) => _) = _
  rw [this]
  rfl

theorem locks_write (l : List Lk) (h : ∀ x ∈ l, plainL x) (hl : (writeM l).length ≤ 8000) : locksM (writeM l) = if faultM l = 0 then .inl l else .inr (faultM l, 0) := by
  unfold locksM
  rw [parse_write l h hl]
  simp only [formM_locksV]

theorem faultG_ok : ∀ (l : List Lk) (seen : List Bs), (∀ x ∈ l, ownM x = 0) → (seen ++ l.map Lk.root).Nodup → faultG seen l = if 40 < seen.length + l.length then 2 else 0
  | [], seen, _, _ => by simp [faultG]
  | x :: l, seen, h, hn => by
    have h0 := h x (List.mem_cons_self ..)
    have hc : seen.contains x.root = false := nodup_mid hn seen (l.map Lk.root) x.root (by simp)
    have ih := faultG_ok l (seen ++ [x.root]) (fun y hy => h y (List.mem_cons_of_mem _ hy)) (by simpa using hn)
    unfold faultG
    rw [if_neg (by rw [h0]; simp), if_neg (by rw [hc]; simp), ih]
    simp only [List.length_append, List.length_cons, List.length_nil]
    rw [show seen.length + (0 + 1) + l.length = seen.length + (l.length + 1) by omega]

end Go.Br

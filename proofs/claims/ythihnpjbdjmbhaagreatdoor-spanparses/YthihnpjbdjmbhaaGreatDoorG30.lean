/-
  Texts of spans put together: words by blanks, parts by bars.
  The reference's way to read a word is the model's.
-/
import Derived.Test.YthihnpjbdjmbhaaGreatDoorG29

namespace Go.Sp
set_option linter.unusedVariables false
open Go.Vr Go.Tx Go.Lib

/-- Without the blanks ahead. -/
def dropBl (r : Bs) : Bs := r.dropWhile (· == 32)
theorem drop_tw (p : UInt8 → Bool) : ∀ l : Bs, l.drop (l.takeWhile p).length = l.dropWhile p
  | [] => rfl
  | c :: l => by
    cases h : p c with
    | true => rw [List.takeWhile_cons_of_pos h, List.dropWhile_cons_of_pos h]; exact drop_tw p l
    | false => rw [List.takeWhile_cons_of_neg (by rw [h]; decide), List.dropWhile_cons_of_neg (by rw [h]; decide)]; rfl
theorem bl_drop (s : Bs) (p : Nat) : s.drop (blM s p) = dropBl (s.drop p) := by
  unfold blM dropBl
  rw [← List.drop_drop, drop_tw]
theorem dropBl_app : ∀ {b r : Bs}, (∀ c ∈ b, c = 32) → dropBl (b ++ r) = dropBl r
  | [], _, _ => rfl
  | c :: b, r, h => by
    have hc : c = 32 := h c (by simp)
    subst hc
    show (32 :: (b ++ r)).dropWhile (· == 32) = _
    rw [List.dropWhile_cons_of_pos (by decide)]
    exact dropBl_app fun d hd => h d (by simp [hd])
theorem dropBl_all {b : Bs} (h : ∀ c ∈ b, c = 32) : dropBl b = [] := by
  have := dropBl_app (b := b) (r := []) h
  rw [List.append_nil] at this
  exact this
theorem dropBl_not {c : UInt8} {t : Bs} (h : c ≠ 32) : dropBl (c :: t) = c :: t := by
  unfold dropBl
  exact List.dropWhile_cons_of_neg (by simpa using h)
theorem dropBl_head : ∀ (r : Bs) (c : UInt8) (t : Bs), dropBl r = c :: t → c ≠ 32
  | [], c, t, h => nomatch h
  | d :: r, c, t, h => by
    by_cases hd : d = 32
    · subst hd
      have : dropBl (32 :: r) = dropBl r := dropBl_app (b := [32]) (by simp)
      rw [this] at h
      exact dropBl_head r c t h
    · rw [dropBl_not hd] at h
      injection h with h1 h2
      subst h1; exact hd
theorem dropBl_idem (r : Bs) : dropBl (dropBl r) = dropBl r := by
  cases h : dropBl r with
  | nil => rfl
  | cons c t => exact dropBl_not (dropBl_head r c t h)
theorem at_drop {s t : Bs} {p : Nat} {c : UInt8} (h : s.drop p = c :: t) : s[p]? = some c := by
  have := congrArg (fun l : Bs => l[0]?) h
  simp only [List.getElem?_drop, Nat.add_zero] at this
  exact this
theorem end_drop {s : Bs} {p : Nat} (h : s.drop p = []) (hp : p ≤ s.length) : p = s.length := by
  have := congrArg List.length h
  simp only [List.length_drop, List.length_nil] at this
  omega
theorem not_end {s t : Bs} {p : Nat} {c : UInt8} (h : s.drop p = c :: t) : p < s.length := by
  have := congrArg List.length h
  simp only [List.length_drop, List.length_cons] at this
  omega

/-- What may follow a word: the end, a blank, a bar; no '-' behind blanks. -/
def Cont (r : Bs) : Prop := (r = [] ∨ ∃ t, r = 32 :: t ∨ r = 124 :: t) ∧ ∀ t, dropBl r ≠ 45 :: t
/-- What may follow a part. -/
def Fin (r : Bs) : Prop := dropBl r = [] ∨ ∃ t, dropBl r = 124 :: t
theorem Fin.cont {r : Bs} (h : Fin r) : Cont r := by
  constructor
  · cases r with
    | nil => exact .inl rfl
    | cons c t =>
      by_cases hc : c = 32
      · subst hc; exact .inr ⟨t, .inl rfl⟩
      · rcases h with h | ⟨u, h⟩
        · rw [dropBl_not hc] at h; exact nomatch h
        · rw [dropBl_not hc] at h; injection h with h1 h2; subst h1; exact .inr ⟨t, .inr rfl⟩
  · intro t e
    rcases h with h | ⟨u, h⟩
    · rw [h] at e; exact nomatch e
    · rw [h] at e; injection e with e1; exact absurd e1 (by decide)
/-- An item's text: read so wherever it stands. -/
def It (x : Bs) (l : List S) : Prop := ∀ (s : Bs) (p : Nat) (r : Bs), p ≤ s.length → s.drop p = x ++ r → Cont r → ∃ q, itemM s p = (some l, q) ∧ s.drop (blM s q) = dropBl r ∧ blM s q ≤ s.length
def Hd (x : Bs) : Prop := ∃ c t, x = c :: t ∧ c ≠ 32 ∧ c ≠ 124 ∧ c ≠ 45
theorem tw_cont {x r : Bs} (h : ∀ c ∈ x, isW c = true) (hr : Cont r) : (x ++ r).takeWhile isW = x := by
  rcases hr.1 with rfl | ⟨t, rfl | rfl⟩
  · rw [List.append_nil]; exact tw_all h
  · exact tw_stop h (by decide)
  · exact tw_stop h (by decide)
theorem it_word {x : Bs} {l : List S} (hw : ∀ c ∈ x, isW c = true) (hm : meantM x = some l) : It x l := by
  intro s p r hp hs hr
  have h0 : wordM s p = x := by unfold wordM; rw [hs]; exact tw_cont hw hr
  have hlen : p + x.length ≤ s.length := by
    have := congrArg List.length hs
    simp only [List.length_drop, List.length_append] at this
    omega
  have hd : s.drop (p + x.length) = r := by rw [← List.drop_drop, hs, List.drop_left]
  have hb : s.drop (blM s (p + x.length)) = dropBl r := by rw [bl_drop, hd]
  have hbl := (bl_le s (p + x.length) hlen).2
  have hb2 : s.drop (blM s (blM s (p + x.length))) = dropBl r := by rw [bl_drop, hb, dropBl_idem]
  refine ⟨blM s (p + x.length), ?_, hb2, (bl_le s _ hbl).2⟩
  unfold itemM
  rw [h0, hm]
  unfold item1
  cases parse x with
  | none => rfl
  | some v =>
    simp only
    rw [if_neg]
    intro e
    unfold wordM at e
    rw [hb] at e
    cases hq : dropBl r with
    | nil => rw [hq] at e; exact nomatch e
    | cons c t =>
      rw [hq] at e
      by_cases hc : isW c = true
      · rw [List.takeWhile_cons_of_pos hc] at e
        injection e with e1 e2
        subst e1
        exact hr.2 t hq
      · rw [List.takeWhile_cons_of_neg hc] at e; exact nomatch e
theorem it_two {v u : V} (hv : v.ok = true) (hu : u.ok = true) : It (txt v ++ [32, 45, 32] ++ txt u) (only cmpC (some (v, false)) (some (u, true))) := by
  intro s p r hp hs hr
  have hvb : ∀ c ∈ txt v, isW c = true := fun c hc => vb_w (txt_bytes hv c hc)
  have hub : ∀ c ∈ txt u, isW c = true := fun c hc => vb_w (txt_bytes hu c hc)
  have hs0 : s.drop p = txt v ++ 32 :: (45 :: (32 :: (txt u ++ r))) := by rw [hs]; simp
  have hlen := congrArg List.length hs0
  simp only [List.length_drop, List.length_append, List.length_cons] at hlen
  have hw0 : wordM s p = txt v := by unfold wordM; rw [hs0]; exact tw_stop hvb (by decide)
  have hd1 : s.drop (p + (txt v).length) = 32 :: (45 :: (32 :: (txt u ++ r))) := by rw [← List.drop_drop, hs0, List.drop_left]
  have hb1 : s.drop (blM s (p + (txt v).length)) = 45 :: (32 :: (txt u ++ r)) := by
    rw [bl_drop, hd1]
    exact (dropBl_app (b := [32]) (by simp)).trans (dropBl_not (by decide))
  have hw1 : wordM s (blM s (p + (txt v).length)) = [45] := by
    unfold wordM; rw [hb1, List.takeWhile_cons_of_pos (by decide), List.takeWhile_cons_of_neg (by decide)]
  have hd2 : s.drop (blM s (p + (txt v).length) + 1) = 32 :: (txt u ++ r) := by rw [← List.drop_drop, hb1]; rfl
  have hu0 : ∃ t, txt u = 118 :: t := ⟨_, rfl⟩
  obtain ⟨ut, hut⟩ := hu0
  have hb2 : s.drop (blM s (blM s (p + (txt v).length) + 1)) = txt u ++ r := by
    rw [bl_drop, hd2]
    refine (dropBl_app (b := [32]) (r := txt u ++ r) (by simp)).trans ?_
    rw [hut]
    show dropBl (118 :: (ut ++ r)) = 118 :: (ut ++ r)
    exact dropBl_not (by decide)
  have hw2 : wordM s (blM s (blM s (p + (txt v).length) + 1)) = txt u := by unfold wordM; rw [hb2]; exact tw_cont hub hr
  have hl2 : blM s (blM s (p + (txt v).length) + 1) + (txt u).length ≤ s.length := by
    have h1 := not_end (by rw [hb2, hut]; rfl)
    have h2 := congrArg List.length hb2
    simp only [List.length_drop, List.length_append] at h2
    omega
  have hd3 : s.drop (blM s (blM s (p + (txt v).length) + 1) + (txt u).length) = r := by rw [← List.drop_drop, hb2, List.drop_left]
  refine ⟨blM s (blM s (p + (txt v).length) + 1) + (txt u).length, ?_, by rw [bl_drop, hd3], (bl_le s _ hl2).2⟩
  unfold itemM
  rw [hw0]
  have hm := meant_signed (g := []) hv (by simp)
  rw [List.nil_append] at hm
  rw [hm]
  have hsg : signedM [] v = some (only cmpC (some (v, false)) (some (v, true))) := rfl
  rw [hsg]
  simp only
  rw [parse_txt hv]
  unfold item1
  simp only
  rw [if_pos hw1]
  unfold item2
  rw [hw2, parse_txt hu]

/-- Words that hold together. -/
def ItemsL : List (List S) → Bs → Prop
  | [], _ => False
  | l :: ls, y => (ls = [] ∧ It y l ∧ Hd y) ∨ ∃ x b z, y = x ++ (b ++ z) ∧ It x l ∧ Hd x ∧ b ≠ [] ∧ (∀ c ∈ b, c = 32) ∧ ItemsL ls z
def Items (y : Bs) (ls : List (List S)) : Prop := ItemsL ls y
theorem Items.one {x : Bs} {l : List S} (h : It x l) (k : Hd x) : Items x [l] := .inl ⟨rfl, h, k⟩
theorem Items.more {x b y : Bs} {l : List S} {ls : List (List S)} (h : It x l) (k : Hd x) (h0 : b ≠ []) (hb : ∀ c ∈ b, c = 32) (hy : Items y ls) : Items (x ++ (b ++ y)) (l :: ls) := .inr ⟨x, b, y, rfl, h, k, h0, hb, hy⟩
theorem Items.ind {motive : Bs → List (List S) → Prop} (one : ∀ (x : Bs) (l : List S), It x l → Hd x → motive x [l])
    (more : ∀ (x b y : Bs) (l : List S) (ls : List (List S)), It x l → Hd x → b ≠ [] → (∀ c ∈ b, c = 32) → Items y ls → motive y ls → motive (x ++ (b ++ y)) (l :: ls)) : ∀ (ls : List (List S)) (y : Bs), Items y ls → motive y ls
  | [], _, h => h.elim
  | l :: ls, y, h => by
    rcases h with ⟨e, h1, h2⟩ | ⟨x, b, z, e, h1, h2, h3, h4, h5⟩
    · subst e; exact one y l h1 h2
    · subst e; exact more x b z l ls h1 h2 h3 h4 h5 (Items.ind one more ls z h5)
theorem Hd.app {x : Bs} (h : Hd x) (y : Bs) : Hd (x ++ y) := by
  obtain ⟨c, t, rfl, h⟩ := h
  exact ⟨c, t ++ y, rfl, h⟩
theorem Items.hd {y : Bs} {ls : List (List S)} (h : Items y ls) : Hd y := by
  refine Items.ind (motive := fun y _ => Hd y) ?_ ?_ ls y h
  · intro x l _ h; exact h
  · intro x b y l ls _ h _ _ _ _; exact h.app _
theorem Hd.dropBl {y : Bs} (h : Hd y) (r : Bs) : dropBl (y ++ r) = y ++ r := by
  obtain ⟨c, t, rfl, h1, _, _⟩ := h
  exact dropBl_not h1
theorem part_items {y : Bs} {ls : List (List S)} (h : Items y ls) : ∀ (s : Bs) (n p : Nat) (acc : List (List S)) (r : Bs), p ≤ s.length → s.drop p = y ++ r → Fin r → s.length - p < n →
    ∃ q, partG s n p acc = (some (allL (acc ++ ls)), q) ∧ s.drop q = dropBl r ∧ q ≤ s.length := by
  refine Items.ind (motive := fun y ls => ∀ (s : Bs) (n p : Nat) (acc : List (List S)) (r : Bs), p ≤ s.length → s.drop p = y ++ r → Fin r → s.length - p < n → ∃ q, partG s n p acc = (some (allL (acc ++ ls)), q) ∧ s.drop q = dropBl r ∧ q ≤ s.length) ?_ ?_ ls y h
  · intro x l hi hh
    intro s n p acc r hp hs hr hn
    obtain ⟨n, rfl⟩ : ∃ m, n = m + 1 := ⟨n - 1, by omega⟩
    obtain ⟨q, h1, h2, h3⟩ := hi s p r hp hs hr.cont
    refine ⟨blM s q, ?_, h2, h3⟩
    unfold partG
    rw [h1]
    simp only
    rw [if_pos]
    rcases hr with e | ⟨t, e⟩
    · rw [e] at h2; exact .inl (end_drop h2 h3)
    · rw [e] at h2; exact .inr (at_drop h2)
  · intro x b y l ls hi hh hb0 hb hy ih
    intro s n p acc r hp hs hr hn
    obtain ⟨n, rfl⟩ : ∃ m, n = m + 1 := ⟨n - 1, by omega⟩
    have hyr : dropBl (b ++ (y ++ r)) = y ++ r := (dropBl_app hb).trans (hy.hd.dropBl r)
    obtain ⟨c, t, hct, hc1, hc2, hc3⟩ := hy.hd.app r
    have hct0 : y ++ r = c :: t := hct
    have hc : Cont (b ++ (y ++ r)) := by
      constructor
      · cases b with
        | nil => exact absurd rfl hb0
        | cons d b => have : d = 32 := hb d (by simp); subst this; exact .inr ⟨_, .inl rfl⟩
      · intro t' e
        rw [hyr, hct0] at e
        injection e with e1
        exact hc3 e1
    obtain ⟨q, h1, h2, h3⟩ := hi s p (b ++ (y ++ r)) hp (by rw [hs]; simp) hc
    have hq := (item_le s p hp).2.2 (by rw [h1]; simp)
    have hq2 := (item_le s p hp).2.1
    rw [h1] at hq hq2
    have hqb := (bl_le s q hq2).1
    rw [hyr] at h2
    obtain ⟨q', g1, g2, g3⟩ := ih s n (blM s q) (acc ++ [l]) r h3 h2 hr (by simp only at hq; omega)
    refine ⟨q', ?_, g2, g3⟩
    unfold partG
    rw [h1]
    simp only
    rw [if_neg, g1, List.append_assoc]
    · rfl
    · rintro (e | e)
      · have := not_end (h2.trans hct0); omega
      · rw [at_drop (h2.trans hct0)] at e
        exact hc2 (Option.some.inj e)
theorem part_at {y b r : Bs} {ls : List (List S)} (h : Items y ls) (hb : ∀ c ∈ b, c = 32) (s : Bs) (p : Nat) (hp : p ≤ s.length) (hs : s.drop p = b ++ (y ++ r)) (hr : Fin r) :
    ∃ q, partM s p = (some (allL ls), q) ∧ s.drop q = dropBl r ∧ q ≤ s.length := by
  have h1 : s.drop (blM s p) = y ++ r := by rw [bl_drop, hs, dropBl_app hb, h.hd.dropBl]
  have h2 := (bl_le s p hp).2
  obtain ⟨q, g1, g2, g3⟩ := part_items h s (s.length + 1) (blM s p) [] r h2 h1 hr (by omega)
  exact ⟨q, by unfold partM; rw [g1]; rfl, g2, g3⟩
/-- A whole text. -/
def PartsL : List (List (List S)) → Bs → Prop
  | [], _ => False
  | ls :: qs, u => ∃ b y c, (∀ d ∈ b, d = 32) ∧ Items y ls ∧ (∀ d ∈ c, d = 32) ∧ ((qs = [] ∧ u = b ++ (y ++ c)) ∨ ∃ t, u = b ++ (y ++ (c ++ 124 :: 124 :: t)) ∧ PartsL qs t)
def Parts (u : Bs) (qs : List (List (List S))) : Prop := PartsL qs u
theorem Parts.one {b y c : Bs} {ls : List (List S)} (hb : ∀ d ∈ b, d = 32) (hy : Items y ls) (hc : ∀ d ∈ c, d = 32) : Parts (b ++ (y ++ c)) [ls] := ⟨b, y, c, hb, hy, hc, .inl ⟨rfl, rfl⟩⟩
theorem Parts.more {b y c t : Bs} {ls : List (List S)} {qs : List (List (List S))} (hb : ∀ d ∈ b, d = 32) (hy : Items y ls) (hc : ∀ d ∈ c, d = 32) (ht : Parts t qs) : Parts (b ++ (y ++ (c ++ 124 :: 124 :: t))) (ls :: qs) := ⟨b, y, c, hb, hy, hc, .inr ⟨t, rfl, ht⟩⟩
theorem Parts.ind {motive : Bs → List (List (List S)) → Prop} (one : ∀ (b y c : Bs) (ls : List (List S)), (∀ d ∈ b, d = 32) → Items y ls → (∀ d ∈ c, d = 32) → motive (b ++ (y ++ c)) [ls])
    (more : ∀ (b y c t : Bs) (ls : List (List S)) (qs : List (List (List S))), (∀ d ∈ b, d = 32) → Items y ls → (∀ d ∈ c, d = 32) → Parts t qs → motive t qs → motive (b ++ (y ++ (c ++ 124 :: 124 :: t))) (ls :: qs)) : ∀ (qs : List (List (List S))) (u : Bs), Parts u qs → motive u qs
  | [], _, h => h.elim
  | ls :: qs, u, h => by
    obtain ⟨b, y, c, hb, hy, hc, ⟨e1, e2⟩ | ⟨t, e, ht⟩⟩ := h
    · subst e1; subst e2; exact one b y c ls hb hy hc
    · subst e; exact more b y c t ls qs hb hy hc ht (Parts.ind one more qs t ht)
theorem parts_read {t : Bs} {qs : List (List (List S))} (h : Parts t qs) : ∀ (s : Bs) (n p : Nat) (acc : List (List S)), p ≤ s.length → s.drop p = t → s.length - p < n →
    partsG s n p acc = (some (nrm (acc ++ qs.map allL).flatten), s.length) := by
  refine Parts.ind (motive := fun t qs => ∀ (s : Bs) (n p : Nat) (acc : List (List S)), p ≤ s.length → s.drop p = t → s.length - p < n → partsG s n p acc = (some (nrm (acc ++ qs.map allL).flatten), s.length)) ?_ ?_ qs t h
  · intro b y c ls hb hy hc
    intro s n p acc hp hs hn
    obtain ⟨n, rfl⟩ : ∃ m, n = m + 1 := ⟨n - 1, by omega⟩
    obtain ⟨q, g1, g2, g3⟩ := part_at hy hb s p hp hs (.inl (dropBl_all hc))
    rw [dropBl_all hc] at g2
    have hq := end_drop g2 g3
    unfold partsG
    rw [g1]
    simp only
    rw [if_pos hq, hq]
    rfl
  · intro b y c t ls qs hb hy hc ht ih
    intro s n p acc hp hs hn
    obtain ⟨n, rfl⟩ : ∃ m, n = m + 1 := ⟨n - 1, by omega⟩
    have hd : dropBl (c ++ 124 :: 124 :: t) = 124 :: 124 :: t := (dropBl_app hc).trans (dropBl_not (by decide))
    obtain ⟨q, g1, g2, g3⟩ := part_at hy hb s p hp hs (.inr ⟨_, hd⟩)
    rw [hd] at g2
    have hlq := congrArg List.length g2
    have hlp := congrArg List.length hs
    simp only [List.length_drop, List.length_cons, List.length_append] at hlq hlp
    have e1 : s.drop (q + 1) = 124 :: t := by rw [← List.drop_drop, g2]; rfl
    have e2 : s.drop (q + 2) = t := by rw [← List.drop_drop, g2]; rfl
    unfold partsG
    rw [g1]
    simp only
    rw [if_neg (by omega), if_pos (at_drop e1), ih s n (q + 2) (acc ++ [allL ls]) (by omega) e2 (by omega), List.append_assoc]
    rfl
theorem parse_parts {s : Bs} {qs : List (List (List S))} (h : Parts s qs) : parseS s = (some (nrm (qs.map allL).flatten), s.length) := by
  unfold parseS
  exact parts_read h s (s.length + 1) 0 [] (by omega) (List.drop_zero) (by omega)
theorem Parts.join {s t : Bs} {qs rs : List (List (List S))} (h : Parts s qs) (k : Parts t rs) : Parts (s ++ 124 :: 124 :: t) (qs ++ rs) := by
  refine Parts.ind (motive := fun s qs => Parts (s ++ 124 :: 124 :: t) (qs ++ rs)) ?_ ?_ qs s h
  · intro b y c ls hb hy hc
    have e : (b ++ (y ++ c)) ++ 124 :: 124 :: t = b ++ (y ++ (c ++ 124 :: 124 :: t)) := by simp
    rw [e]
    exact .more hb hy hc k
  · intro b y c u ls qs hb hy hc hu ih
    have e : (b ++ (y ++ (c ++ 124 :: 124 :: u))) ++ 124 :: 124 :: t = b ++ (y ++ (c ++ 124 :: 124 :: (u ++ 124 :: 124 :: t))) := by simp
    rw [e]
    exact .more hb hy hc ih
theorem bl_app {a b : Bs} (ha : ∀ d ∈ a, d = 32) (hb : ∀ d ∈ b, d = 32) : ∀ d ∈ a ++ b, d = 32 := fun d hd => (List.mem_append.1 hd).elim (ha d) (hb d)
theorem Parts.left {s a : Bs} {qs : List (List (List S))} (h : Parts s qs) (ha : ∀ d ∈ a, d = (32 : UInt8)) : Parts (a ++ s) qs := by
  refine Parts.ind (motive := fun s qs => Parts (a ++ s) qs) ?_ ?_ qs s h
  · intro b y c ls hb hy hc; rw [← List.append_assoc]; exact .one (bl_app ha hb) hy hc
  · intro b y c u ls qs hb hy hc hu _; rw [← List.append_assoc]; exact .more (bl_app ha hb) hy hc hu
theorem Parts.right {s a : Bs} {qs : List (List (List S))} (h : Parts s qs) (ha : ∀ d ∈ a, d = (32 : UInt8)) : Parts (s ++ a) qs := by
  refine Parts.ind (motive := fun s qs => Parts (s ++ a) qs) ?_ ?_ qs s h
  · intro b y c ls hb hy hc
    have e : (b ++ (y ++ c)) ++ a = b ++ (y ++ (c ++ a)) := by simp
    rw [e]
    exact .one hb hy (bl_app hc ha)
  · intro b y c u ls qs hb hy hc hu ih
    have e : (b ++ (y ++ (c ++ 124 :: 124 :: u))) ++ a = b ++ (y ++ (c ++ 124 :: 124 :: (u ++ a))) := by simp
    rw [e]
    exact .more hb hy hc ih
theorem Items.word {y b x : Bs} {ls : List (List S)} {l : List S} (h : Items y ls) (hx : It x l) (hh : Hd x) (hb0 : b ≠ []) (hb : ∀ d ∈ b, d = 32) : Items (y ++ (b ++ x)) (ls ++ [l]) := by
  refine Items.ind (motive := fun y ls => Items (y ++ (b ++ x)) (ls ++ [l])) ?_ ?_ ls y h
  · intro z m hi hd; exact .more hi hd hb0 hb (.one hx hh)
  · intro z a w m ms hi hd ha0 ha hw ih
    have e : (z ++ (a ++ w)) ++ (b ++ x) = z ++ (a ++ (w ++ (b ++ x))) := by simp
    rw [e]
    exact .more hi hd ha0 ha ih
/-- So many words, each of which is normed, short. -/
def Fine (qs : List (List (List S))) (K : Nat) : Prop := (∀ ls ∈ qs, ∀ l ∈ ls, Row l ∧ l.length ≤ 2) ∧ qs.flatten.length ≤ K ∧ ∀ ls ∈ qs, ls ≠ []
theorem Parts.word {s b x : Bs} {qs : List (List (List S))} {l : List S} {K : Nat} (h : Parts s qs) (hf : Fine qs K) (hx : It x l) (hh : Hd x) (hl : Row l ∧ l.length ≤ 2) (hb0 : b ≠ []) (hb : ∀ d ∈ b, d = 32) : ∃ rs, Parts (s ++ (b ++ x)) rs ∧ Fine rs (K + 1) := by
  refine Parts.ind (motive := fun s qs => ∀ K, Fine qs K → ∃ rs, Parts (s ++ (b ++ x)) rs ∧ Fine rs (K + 1)) ?_ ?_ qs s h K hf
  · intro a y c ls ha hy hc K hf
    have e : (a ++ (y ++ c)) ++ (b ++ x) = a ++ ((y ++ ((c ++ b) ++ x)) ++ []) := by simp
    rw [e]
    refine ⟨_, .one ha (hy.word hx hh (by simp [hb0]) (bl_app hc hb)) (by simp), ?_, ?_, ?_⟩
    · intro ms hms m hm
      rw [List.mem_singleton.1 hms] at hm
      rcases List.mem_append.1 hm with hm | hm
      · exact hf.1 ls (by simp) m hm
      · rw [List.mem_singleton.1 hm]; exact hl
    · have := hf.2.1
      simp only [List.flatten_cons, List.flatten_nil, List.append_nil, List.length_append, List.length_singleton] at this ⊢
      omega
    · intro ms hms
      rw [List.mem_singleton.1 hms]; simp
  · intro a y c u ls qs ha hy hc hu ih K hf
    have h2 := hf.2.1
    simp only [List.flatten_cons, List.length_append] at h2
    obtain ⟨rs, g1, g2⟩ := ih (K - ls.length) ⟨fun ms hms => hf.1 ms (by simp [hms]), by omega, fun ms hms => hf.2.2 ms (by simp [hms])⟩
    have e : (a ++ (y ++ (c ++ 124 :: 124 :: u))) ++ (b ++ x) = a ++ (y ++ (c ++ 124 :: 124 :: (u ++ (b ++ x)))) := by simp
    rw [e]
    refine ⟨_, .more ha hy hc g1, ?_, ?_, ?_⟩
    · intro ms hms
      rcases List.mem_cons.1 hms with rfl | hms
      · exact hf.1 ms (by simp)
      · exact g2.1 ms hms
    · have := g2.2.1
      simp only [List.flatten_cons, List.length_append]
      omega
    · intro ms hms
      rcases List.mem_cons.1 hms with rfl | hms
      · exact hf.2.2 ms (by simp)
      · exact g2.2.2 ms hms
theorem Parts.start {x : Bs} {l : List S} (hx : It x l) (hh : Hd x) (hl : Row l ∧ l.length ≤ 2) : Parts x [[l]] ∧ Fine [[l]] 1 := by
  have h : Parts ([] ++ (x ++ [])) [[l]] := .one (by simp) (.one hx hh) (by simp)
  rw [List.nil_append, List.append_nil] at h
  refine ⟨h, ?_, by simp, by simp⟩
  intro ls hls m hm
  rw [List.mem_singleton.1 hls] at hm
  rw [List.mem_singleton.1 hm]; exact hl
theorem Fine.join {qs rs : List (List (List S))} {K L : Nat} (h : Fine qs K) (k : Fine rs L) : Fine (qs ++ rs) (K + L) := by
  refine ⟨fun ls hls => (List.mem_append.1 hls).elim (h.1 ls) (k.1 ls), ?_, fun ls hls => (List.mem_append.1 hls).elim (h.2.2 ls) (k.2.2 ls)⟩
  have := h.2.1
  have := k.2.1
  rw [List.flatten_append, List.length_append]
  omega
theorem Parts.part {s a b x : Bs} {qs : List (List (List S))} {l : List S} {K : Nat} (h : Parts s qs) (hf : Fine qs K) (hx : It x l) (hh : Hd x) (hl : Row l ∧ l.length ≤ 2) (ha : ∀ d ∈ a, d = 32) (hb : ∀ d ∈ b, d = 32) : ∃ rs, Parts (s ++ (a ++ 124 :: 124 :: (b ++ x))) rs ∧ Fine rs (K + 1) := by
  obtain ⟨g1, g2⟩ := Parts.start hx hh hl
  have := (h.right ha).join (g1.left hb)
  rw [List.append_assoc] at this
  exact ⟨_, this, hf.join g2⟩
end Go.Sp

namespace Go.Sp
set_option linter.unusedVariables false
open Go.Vr Go.Tx Go.Lib

theorem nrm_one (a b : C) : nrm [(a, b)] = only cmpC a b := (nrm_uniq (nm_only a b) fun x => by
  show In cmpC _ x ↔ In cmpC _ x
  rw [in_only ord_cut, in_cons]
  exact ⟨.inl, fun h => h.resolve_right (in_nil x)⟩).symm
/-- The signs, as the reference tries them. -/
def sigs : List Bs := [[33, 61], [62, 61], [60, 61], [61], [62], [60], [94], [126], []]
def pref (g s : Bs) : Bool := s.take g.length == g
theorem sig_first (k : Nat) (hk : k < 9) (r : Bs) : (∀ j, j < k → pref (sigs.getD j []) (sigs.getD k [] ++ 118 :: r) = false) ∧ pref (sigs.getD k []) (sigs.getD k [] ++ 118 :: r) = true := by
  constructor
  · intro j hj
    match k, hk, j, hj with
    | 1, _, 0, _ => rfl
    | 2, _, 0, _ => rfl
    | 2, _, 1, _ => rfl
    | 3, _, 0, _ => rfl
    | 3, _, 1, _ => rfl
    | 3, _, 2, _ => rfl
    | 4, _, 0, _ => rfl
    | 4, _, 1, _ => rfl
    | 4, _, 2, _ => rfl
    | 4, _, 3, _ => rfl
    | 5, _, 0, _ => rfl
    | 5, _, 1, _ => rfl
    | 5, _, 2, _ => rfl
    | 5, _, 3, _ => rfl
    | 5, _, 4, _ => rfl
    | 6, _, 0, _ => rfl
    | 6, _, 1, _ => rfl
    | 6, _, 2, _ => rfl
    | 6, _, 3, _ => rfl
    | 6, _, 4, _ => rfl
    | 6, _, 5, _ => rfl
    | 7, _, 0, _ => rfl
    | 7, _, 1, _ => rfl
    | 7, _, 2, _ => rfl
    | 7, _, 3, _ => rfl
    | 7, _, 4, _ => rfl
    | 7, _, 5, _ => rfl
    | 7, _, 6, _ => rfl
    | 8, _, 0, _ => rfl
    | 8, _, 1, _ => rfl
    | 8, _, 2, _ => rfl
    | 8, _, 3, _ => rfl
    | 8, _, 4, _ => rfl
    | 8, _, 5, _ => rfl
    | 8, _, 6, _ => rfl
    | 8, _, 7, _ => rfl
  · match k, hk with
    | 0, _ => rfl
    | 1, _ => rfl
    | 2, _ => rfl
    | 3, _ => rfl
    | 4, _ => rfl
    | 5, _ => rfl
    | 6, _ => rfl
    | 7, _ => rfl
    | 8, _ => rfl
theorem sig_mem {g : Bs} {v : V} {l : List S} (h : signedM g v = some l) : ∃ k, k < 9 ∧ g = sigs.getD k [] := by
  unfold signedM at h
  by_cases h0 : g = [] ∨ g = [61]
  · rcases h0 with rfl | rfl
    · exact ⟨8, by omega, rfl⟩
    · exact ⟨3, by omega, rfl⟩
  rw [if_neg h0] at h
  by_cases h1 : g = [33, 61]
  · exact ⟨0, by omega, h1⟩
  rw [if_neg h1] at h
  by_cases h2 : g = [62]
  · exact ⟨4, by omega, h2⟩
  rw [if_neg h2] at h
  by_cases h3 : g = [62, 61]
  · exact ⟨1, by omega, h3⟩
  rw [if_neg h3] at h
  by_cases h4 : g = [60]
  · exact ⟨5, by omega, h4⟩
  rw [if_neg h4] at h
  by_cases h5 : g = [60, 61]
  · exact ⟨2, by omega, h5⟩
  rw [if_neg h5] at h
  by_cases h6 : g = [94]
  · exact ⟨6, by omega, h6⟩
  rw [if_neg h6] at h
  by_cases h7 : g = [126]
  · exact ⟨7, by omega, h7⟩
  rw [if_neg h7] at h
  exact nomatch h
theorem sig_no (k : Nat) (hk : k < 9) : ∀ c ∈ sigs.getD k [], c ≠ 118 := by
  match k, hk with
  | 0, _ => decide
  | 1, _ => decide
  | 2, _ => decide
  | 3, _ => decide
  | 4, _ => decide
  | 5, _ => decide
  | 6, _ => decide
  | 7, _ => decide
  | 8, _ => decide
theorem pref_eq {g s : Bs} (h : pref g s = true) : s = g ++ s.drop g.length := by
  have e : s.take g.length = g := by simpa [pref] using h
  conv => lhs; rw [← List.take_append_drop g.length s, e]
theorem txt_v (v : V) : ∃ r, txt v = 118 :: r := ⟨_, rfl⟩
theorem one_hit {s : Bs} (i : Nat) (hi : i < 9) (hp : pref (sigs.getD i []) s = true) (hn : ∀ j, j < i → pref (sigs.getD j []) s = false) (hs : s ≠ [42]) (hw : wildM s = none) :
    meantM s = meant2 (sigs.getD i []) (parse (s.drop (sigs.getD i []).length)) := by
  cases e : parse (s.drop (sigs.getD i []).length) with
  | some v =>
    obtain ⟨ok, ht⟩ := parse_some e
    have hs2 := pref_eq hp
    rw [← ht] at hs2
    conv => lhs; rw [hs2]
    exact meant_signed ok (sig_no i hi)
  | none =>
    show meantM s = none
    unfold meantM
    rw [if_neg hs, hw]
    show meant2 (s.take (vAt s)) (parse (s.drop (vAt s))) = none
    cases e2 : parse (s.drop (vAt s)) with
    | none => rfl
    | some v =>
      show signedM (s.take (vAt s)) v = none
      cases e3 : signedM (s.take (vAt s)) v with
      | none => rfl
      | some l =>
        exfalso
        obtain ⟨k, hk, hg⟩ := sig_mem e3
        obtain ⟨ok, ht⟩ := parse_some e2
        have hs2 : s = sigs.getD k [] ++ txt v := by rw [← hg, ht, List.take_append_drop]
        obtain ⟨r, hr⟩ := txt_v v
        obtain ⟨f1, f2⟩ := sig_first k hk r
        rw [← hr, ← hs2] at f1 f2
        have hik : i = k := by
          rcases Nat.lt_trichotomy i k with h | h | h
          · rw [f1 i h] at hp; exact nomatch hp
          · exact h
          · rw [hn k h] at f2; exact nomatch f2
        subst hik
        rw [hs2, List.drop_left, parse_txt ok] at e
        exact nomatch e
theorem sig_head {s : Bs} (i : Nat) (hi : i < 8) (hp : pref (sigs.getD i []) s = true) : parse s = none := by
  cases e : parse s with
  | none => rfl
  | some v =>
    exfalso
    obtain ⟨ok, ht⟩ := parse_some e
    obtain ⟨r, hr⟩ := txt_v v
    have h := (sig_first 8 (by omega) r).1 i hi
    have e2 : sigs.getD 8 [] ++ 118 :: r = s := by rw [← ht, hr]; rfl
    rw [e2, hp] at h
    exact nomatch h
/-- A word with a bar ahead says nothing. -/
theorem meant_bar (t : Bs) : meantM (45 :: t) = none := by
  have hp0 : parse (45 :: t) = none := by
    cases e : parse (45 :: t) with
    | none => rfl
    | some v => obtain ⟨r, hr⟩ := txt_v v; have := (parse_some e).2; rw [hr] at this; exact absurd (List.cons.inj this).1 (by decide)
  have hw : wildM (45 :: t) = none := by
    have np : ∀ y z : Bs, ∀ c : UInt8, parse (c :: y) ≠ none → c = 118 := by
      intro y _ c h
      cases e : parse (c :: y) with
      | none => exact absurd e h
      | some v => obtain ⟨r, hr⟩ := txt_v v; have := (parse_some e).2; rw [hr] at this; exact (List.cons.inj this).1.symm
    unfold wildM
    split
    · cases ht : (45 :: t).take ((45 :: t).length - 2) with
      | nil =>
        have e1 : parse ([] ++ [46, 48]) = none := by decide +kernel
        have e2 : parse ([] ++ [46, 48, 46, 48]) = none := by decide +kernel
        rw [e1, e2]; rfl
      | cons c u =>
        have hc : c = 45 := by
          cases hl : (45 :: t).length - 2 with
          | zero => rw [hl] at ht; exact nomatch ht
          | succ m => rw [hl, List.take_succ_cons] at ht; exact (List.cons.inj ht).1.symm
        subst hc
        have q : ∀ y : Bs, parse (45 :: y) = none := fun y => Classical.byContradiction fun h => absurd (np y [] 45 h) (by decide)
        rw [List.cons_append, List.cons_append, q, q]; rfl
    · rfl
  have h := one_hit (s := 45 :: t) 8 (by omega) (by rfl) (fun j hj => by
    match j, hj with
    | 0, _ => rfl
    | 1, _ => rfl
    | 2, _ => rfl
    | 3, _ => rfl
    | 4, _ => rfl
    | 5, _ => rfl
    | 6, _ => rfl
    | 7, _ => rfl) (by intro e; exact absurd (List.cons.inj e).1 (by decide)) hw
  rw [h]
  show meant2 [] (parse (45 :: t)) = none
  rw [hp0]; rfl
/-- Both of what all say and one more: all with that one. -/
theorem all_snoc {ls : List (List S)} {l : List S} (h : ∀ m ∈ ls, Row m) (k : Row l) : allL [allL ls, l] = allL (ls ++ [l]) := by
  have hr : Row (allL ls) := ⟨all_nm _, ok_all fun m hm => (h m hm).ok⟩
  have hr2 : ∀ m ∈ ls ++ [l], Row m := fun m hm => (List.mem_append.1 hm).elim (h m) (fun e => by rw [List.mem_singleton.1 e]; exact k)
  refine row_eq (hr.and k) ⟨all_nm _, ok_all fun m hm => (hr2 m hm).ok⟩ fun x => ?_
  rw [has_and hr k, all_has (fun m hm => (h m hm).nm) (fun m hm => (h m hm).ok), all_has (fun m hm => (hr2 m hm).nm) (fun m hm => (hr2 m hm).ok)]
  constructor
  · rintro ⟨⟨h1, h2, h3⟩, h4⟩
    exact ⟨h1, h2, fun m hm => (List.mem_append.1 hm).elim (h3 m) (fun e => by rw [List.mem_singleton.1 e]; exact h4)⟩
  · rintro ⟨h1, h2, h3⟩
    exact ⟨⟨h1, h2, fun m hm => h3 m (by simp [hm])⟩, h3 l (by simp)⟩
theorem all_nil : allL [] = notL [] := rfl
theorem or_snoc {ls : List (List S)} {l : List S} : nrm (nrm ls.flatten ++ l) = nrm (ls ++ [l]).flatten := nrm_uniq (nrm_nm _) fun x => (nrm_has _ x).trans (by
  show In cmpC _ x ↔ In cmpC _ x
  have e : (ls ++ [l]).flatten = ls.flatten ++ l := by simp
  rw [e, in_app, in_app]
  exact ⟨fun h => h.elim (fun h => .inl ((nrm_has _ x).1 h)) .inr, fun h => h.elim (fun h => .inl ((nrm_has _ x).2 h)) .inr⟩)
end Go.Sp

/-
  Plain mathematics of texts of versions: which bytes are in them.
  Rows of spans of unlike spans are written unlike.
  Contract of the reference's Text.
  What texts of one word, of two versions with a bar between say.
-/
import Derived.Test.YtohnlhfgajipgaaGreatDoorG22
import Derived.Test.YtohnlhfgajipgaaGreatDoorG30
import Derived.Test.YtohnlhfgajipgaaGreatDoorG24
import Derived.Test.YtohnlhfgajipgaaGreatDoorG31

namespace Go.Sp
set_option linter.unusedVariables false
open Go.Vr Go.Tx Go.Lib

/-- A byte of a version's text. -/
def isVb (c : UInt8) : Bool := isWd c || c == 46
theorem words_mem : ∀ (l : Bs), ∀ c ∈ l, c = 46 ∨ ∃ w ∈ words l, c ∈ w
  | [], c, h => by simp at h
  | d :: l, c, h => by
    by_cases hd : d = 46
    · subst hd
      rw [words_dot]
      rcases List.mem_cons.1 h with rfl | h
      · exact .inl rfl
      · rcases words_mem l c h with e | ⟨w, hw, hc⟩
        · exact .inl e
        · exact .inr ⟨w, by simp [hw], hc⟩
    · cases e : words l with
      | nil => exact absurd e (words_ne l)
      | cons v vs =>
        rw [words_cons hd e]
        rcases List.mem_cons.1 h with rfl | h
        · exact .inr ⟨c :: v, by simp, by simp⟩
        · rcases words_mem l c h with e2 | ⟨w, hw, hc⟩
          · exact .inl e2
          · rw [e] at hw
            rcases List.mem_cons.1 hw with rfl | hw
            · exact .inr ⟨d :: w, by simp, by simp [hc]⟩
            · exact .inr ⟨w, by simp [hw], hc⟩
theorem pre_bytes {p : Bs} (h : preOk p = true) : ∀ c ∈ p, isVb c = true := by
  intro c hc
  unfold preOk at h
  rw [Bool.and_eq_true, Bool.or_eq_true] at h
  have hp : (words p).all wordOk = true := h.2.resolve_left (by intro e; have := List.isEmpty_iff.1 e; subst this; simp at hc)
  rcases words_mem p c hc with rfl | ⟨w, hw, hcw⟩
  · decide
  · have := List.all_eq_true.1 hp w hw
    unfold wordOk at this
    simp only [Bool.and_eq_true] at this
    have := List.all_eq_true.1 this.2 c hcw
    unfold isVb; rw [this]; rfl
theorem dig_vb {x : Bs} (h : x.all isDig = true) : ∀ c ∈ x, isVb c = true := by
  intro c hc
  have := List.all_eq_true.1 h c hc
  unfold isVb isWd; rw [this]; rfl
theorem txt_bytes {v : V} (h : v.ok = true) : ∀ c ∈ txt v, isVb c = true := by
  obtain ⟨h1, h2, h3, h4⟩ := ok_parts h
  have i1 := dig_vb (itoa_ok v.a h1.1 (by omega)).2.2.1
  have i2 := dig_vb (itoa_ok v.b h2.1 (by omega)).2.2.1
  have i3 := dig_vb (itoa_ok v.c h3.1 (by omega)).2.2.1
  have i4 := pre_bytes h4
  intro c hc
  unfold txt tail at hc
  simp only [List.mem_cons, List.mem_append] at hc
  rcases hc with rfl | hc | rfl | hc | rfl | hc | hc
  · decide
  · exact i1 c hc
  · decide
  · exact i2 c hc
  · decide
  · exact i3 c hc
  · split at hc
    · simp at hc
    · rcases List.mem_cons.1 hc with rfl | hc
      · decide
      · exact i4 c hc
theorem txt_ne {v : V} (h : v.ok = true) (d : UInt8) (hd : isVb d = false) : ∀ c ∈ txt v, c ≠ d := by
  rintro c hc rfl
  rw [txt_bytes h c hc] at hd
  exact nomatch hd
theorem vb_small (c : UInt8) (h : isVb c = true) : c.toNat < 128 := by
  unfold isVb isWd isDig isLet at h
  simp only [Bool.or_eq_true, Bool.and_eq_true, decide_eq_true_eq, beq_iff_eq] at h
  rcases h with (h | h) | h
  · omega
  · omega
  · subst h; decide
theorem txt_inj {v u : V} (hv : v.ok = true) (hu : u.ok = true) (h : txt v = txt u) : v = u := by
  have h1 := parse_txt hv
  rw [h, parse_txt hu] at h1
  exact (Option.some.inj h1).symm
/-- Up to the first byte of a kind. -/
theorem cut_eq {p : UInt8 → Bool} {x y : Bs} {c d : UInt8} {r t : Bs} (hx : ∀ b ∈ x, p b = true) (hy : ∀ b ∈ y, p b = true) (hc : p c = false) (hd : p d = false) (h : x ++ c :: r = y ++ d :: t) : x = y ∧ c = d ∧ r = t := by
  induction x generalizing y with
  | nil =>
    cases y with
    | nil =>
      injection h with h1 h2
      exact ⟨rfl, h1, h2⟩
    | cons b y =>
      injection h with h1 h2
      rw [h1, hy b (by simp)] at hc
      exact nomatch hc
  | cons a x ih =>
    cases y with
    | nil =>
      injection h with h1 h2
      rw [← h1, hx a (by simp)] at hd
      exact nomatch hd
    | cons b y =>
      injection h with h1 h2
      obtain ⟨e1, e2, e3⟩ := ih (fun b hb => hx b (by simp [hb])) (fun b hb => hy b (by simp [hb])) h2
      exact ⟨by rw [h1, e1], e2, e3⟩
end Go.Sp

namespace Go.Proofs.YtohnlhfgajipgaaGreatDoor
set_option linter.unusedVariables false
open Go.RowKit Go.Vr Go.Sort Go.Tx Go.Lib

theorem lo_some {s : Sp.S} (h : Sp.okS s) : s.1 = some (lo s) := by
  obtain ⟨⟨p, hp⟩, _⟩ := h
  unfold lo; rw [hp]; rfl
theorem one_inj {s t : Sp.S} {r q : Bs} (hs : Sp.okS s) (ht : Sp.okS t) (h : tOne s ++ r = tOne t ++ q) : s = t ∧ r = q := by
  have v1 := Sp.txt_bytes (lo_ok hs)
  have v2 := Sp.txt_bytes (lo_ok ht)
  have h1 : tOne s ++ r = (if (lo s).2 then (40 : UInt8) else 91) :: (txt (lo s).1 ++ 44 :: (tHigh s ++ r)) := by unfold tOne tLow; simp
  have h2 : tOne t ++ q = (if (lo t).2 then (40 : UInt8) else 91) :: (txt (lo t).1 ++ 44 :: (tHigh t ++ q)) := by unfold tOne tLow; simp
  rw [h1, h2] at h
  injection h with e1 e2
  obtain ⟨e3, _, e4⟩ := Sp.cut_eq (p := Sp.isVb) v1 v2 (by decide) (by decide) e2
  have e5 := Sp.txt_inj (lo_ok hs) (lo_ok ht) e3
  have e6 : (lo s).2 = (lo t).2 := by
    revert e1
    cases (lo s).2 <;> cases (lo t).2 <;> simp
  have e7 : s.1 = t.1 := by rw [lo_some hs, lo_some ht]; exact congrArg some (Prod.ext e5 e6)
  obtain ⟨s1, s2⟩ := s
  obtain ⟨t1, t2⟩ := t
  simp only at e7
  subst e7
  unfold tHigh at e4
  simp only at e4
  cases s2 with
  | none =>
    cases t2 with
    | none =>
      injection e4 with _ e8
      exact ⟨rfl, e8⟩
    | some p =>
      simp only at e4
      unfold txt at e4
      injection e4 with e8 _
      exact absurd e8 (by decide)
  | some p =>
    cases t2 with
    | none =>
      simp only at e4
      unfold txt at e4
      injection e4 with e8 _
      exact absurd e8 (by decide)
    | some p' =>
      simp only [List.append_assoc, List.cons_append, List.nil_append] at e4
      have w1 := hs.2.2 p rfl
      have w2 := ht.2.2 p' rfl
      obtain ⟨e8, e9, e10⟩ := Sp.cut_eq (p := Sp.isVb) (Sp.txt_bytes w1) (Sp.txt_bytes w2) (by cases p.2 <;> decide) (by cases p'.2 <;> decide) e4
      have e11 := Sp.txt_inj w1 w2 e8
      have e12 : p.2 = p'.2 := by
        revert e9
        cases p.2 <;> cases p'.2 <;> simp
      exact ⟨by rw [show p = p' from Prod.ext e11 e12], e10⟩
theorem join_cons (x : Bs) (r : List Bs) (sep : Bs) : Lib.join (x :: r) sep = x ++ (if r = [] then [] else sep ++ Lib.join r sep) := by
  cases r with
  | nil => simp [Lib.join]
  | cons y r => simp [Lib.join]
theorem rows_inj : ∀ (l m : List Sp.S), Sp.okL l → Sp.okL m → Lib.join (l.map tOne) [32, 124, 124, 32] = Lib.join (m.map tOne) [32, 124, 124, 32] → l ≠ [] → m ≠ [] → l = m
  | [], _, _, _, _, h, _ => absurd rfl h
  | _ :: _, [], _, _, _, _, h => absurd rfl h
  | s :: l, t :: m, hl, hm, h, _, _ => by
    rw [List.map_cons, List.map_cons, join_cons, join_cons] at h
    obtain ⟨rfl, h2⟩ := one_inj (hl s (by simp)) (hm t (by simp)) h
    have hmp : ∀ k : List Sp.S, k.map tOne = [] ↔ k = [] := fun k => List.map_eq_nil_iff
    by_cases e1 : l = []
    · by_cases e2 : m = []
      · rw [e1, e2]
      · rw [if_pos ((hmp l).2 e1), if_neg (fun h => e2 ((hmp m).1 h))] at h2
        simp at h2
    · by_cases e2 : m = []
      · rw [if_neg (fun h => e1 ((hmp l).1 h)), if_pos ((hmp m).2 e2)] at h2
        simp at h2
      · rw [if_neg (fun h => e1 ((hmp l).1 h)), if_neg (fun h => e2 ((hmp m).1 h))] at h2
        have h3 := List.append_cancel_left h2
        rw [rows_inj l m (fun x hx => hl x (by simp [hx])) (fun x hx => hm x (by simp [hx])) h3 e1 e2]
theorem head_one (s : Sp.S) (l : List Sp.S) : ∃ r, Lib.join ((s :: l).map tOne) [32, 124, 124, 32] = (if (lo s).2 then (40 : UInt8) else 91) :: r := by
  rw [List.map_cons, join_cons]
  unfold tOne tLow
  exact ⟨_, rfl⟩
theorem tAll_inj {l m : List Sp.S} (hl : Sp.okL l) (hm : Sp.okL m) (h : tAll l = tAll m) : l = m := by
  unfold tAll at h
  by_cases e1 : l = []
  · by_cases e2 : m = []
    · rw [e1, e2]
    · rw [if_pos e1, if_neg e2] at h
      obtain ⟨s, m', rfl⟩ := List.exists_cons_of_ne_nil e2
      obtain ⟨r, hr⟩ := head_one s m'
      rw [hr] at h
      injection h with h _
      revert h
      cases (lo s).2 <;> simp
  · by_cases e2 : m = []
    · rw [if_neg e1, if_pos e2] at h
      obtain ⟨s, l', rfl⟩ := List.exists_cons_of_ne_nil e1
      obtain ⟨r, hr⟩ := head_one s l'
      rw [hr] at h
      injection h with h _
      revert h
      cases (lo s).2 <;> simp
    · rw [if_neg e1, if_neg e2] at h
      exact rows_inj l m hl hm h e1 e2
end Go.Proofs.YtohnlhfgajipgaaGreatDoor

namespace Go.Proofs.YtohnlhfgajipgaaGreatDoor
set_option linter.unusedSimpArgs false
set_option linter.unusedVariables false
open Go.RowKit Go.Vr Go.Sort Go.Tx Go.Lib
attribute [local go_sem] setCellDrewN allocDrewN

/-- What is written of the first k. -/
def up (l : List Sp.S) (k : Nat) : Bs := Lib.join ((l.take k).map tOne) [32, 124, 124, 32]
theorem join_snoc (y sep : Bs) : ∀ xs : List Bs, xs ≠ [] → Lib.join (xs ++ [y]) sep = Lib.join xs sep ++ (sep ++ y)
  | [], h => absurd rfl h
  | [x], _ => by rw [List.cons_append, List.nil_append, join_cons, if_neg (by simp), join_cons, if_pos rfl, join_cons, if_pos rfl]; simp
  | x :: z :: r, _ => by
    have := join_snoc y sep (z :: r) (by simp)
    rw [List.cons_append, join_cons, if_neg (by simp), this, join_cons x (z :: r), if_neg (by simp)]
    simp only [List.append_assoc]
theorem up_zero (l : List Sp.S) : up l 0 = [] := rfl
theorem up_one (l : List Sp.S) (h : 0 < l.length) : up l 1 = tOne l[0] := by
  unfold up
  cases l with
  | nil => simp at h
  | cons x r => simp [Lib.join]
theorem up_next (l : List Sp.S) (k : Nat) (h : k + 1 < l.length) : up l (k + 1 + 1) = up l (k + 1) ++ ([32, 124, 124, 32] ++ tOne l[k + 1]) := by
  unfold up
  rw [List.take_succ_eq_append_getElem h, List.map_append]
  refine join_snoc _ _ _ ?_
  intro e
  have := congrArg List.length e
  rw [List.length_map, List.length_take, List.length_nil] at this
  omega
theorem up_all (l : List Sp.S) (h : l ≠ []) : up l l.length = tAll l := by
  unfold up tAll
  rw [List.take_length, if_neg h]

/-- One, as it is put behind. -/
theorem one_is (o t u : ByteArray) (s : Sp.S) (ht : t = str (txt (lo s).1)) (hu : u = str (txt (hi s).1)) :
    tOne s = (if (pt s).x then [40] else [91]) ++ t.data.toList ++ [44] ++ (if (pt s).z then [41] else u.data.toList ++ (if (pt s).y then [93] else [41])) := by
  subst ht
  subst hu
  rw [str_list, str_list]
  obtain ⟨s1, s2⟩ := s
  cases s2 with
  | none =>
    show tOne (s1, none) = (if (lo (s1, none)).2 then [40] else [91]) ++ _ ++ _ ++ [41]
    unfold tOne tLow tHigh
    cases (lo (s1, none)).2 <;> simp
  | some p =>
    obtain ⟨pv, pb⟩ := p
    show tOne (s1, some (pv, pb)) = (if (lo (s1, some (pv, pb))).2 then [40] else [91]) ++ _ ++ _ ++ (txt pv ++ (if pb then [93] else [41]))
    unfold tOne tLow tHigh
    cases (lo (s1, some (pv, pb))).2 <;> cases pb <;> simp

theorem z4 : (⟨#[32, 124, 124, 32]⟩ : ByteArray).size = 4 := rfl
theorem z40 : (⟨#[40]⟩ : ByteArray).size = 1 := rfl
theorem z91 : (⟨#[91]⟩ : ByteArray).size = 1 := rfl
theorem z44 : (⟨#[44]⟩ : ByteArray).size = 1 := rfl
theorem z41 : (⟨#[41]⟩ : ByteArray).size = 1 := rfl
theorem z93 : (⟨#[93]⟩ : ByteArray).size = 1 := rfl
theorem measK {n k : Nat} {K : Int} (e : (k : Int) = K) (h : k < n) : n - (RowKit.intOf (Value.int .i64 (K + 1))).toNat < n - (RowKit.intOf (Value.int .i64 K)).toNat := by
  subst e; exact meas rfl h
theorem cat_ok {a b : ByteArray} (h : a.size + b.size ≤ 10000000) : ¬ 9223372036854775807 < a.size + b.size := by omega

set_option maxHeartbeats 16000000 in
set_option maxRecDepth 100000 in
theorem rtextL_any (a : Option Addr) (n cap : Nat) (l : List Sp.S) (w : World) (hr : ERow ES w a n l) (hn : n ≤ 9000) (ho : Sp.okL l) :
    Calls Tryz.prog 35 #[.slice a n cap] w fun e w' => e = .returned (.string (str (tAll l))) ∧ RowKit.Below w.heap.size w w' := by
  have HR := hide hr
  have HO := hide ho
  have hl := hr.n
  clear hr ho
  by_cases h0 : n = 0
  · subst h0
    have HE : Hid (str (tAll l) = ⟨#[45]⟩) := by
      obtain rfl := List.eq_nil_of_length_eq_zero hl
      rfl
    go_enter Tryz.func35, Tryz.ntmps35
    go_wp2_with fail
    go_ret
    exact ⟨by rw [HE.out]; rfl, RowKit.Below.refl _ _⟩
  · have hz : ((n : Int) == 0) = false := by simp; omega
    go_enter Tryz.func35, Tryz.ntmps35
    go_wp2_with fail
    go_loopw [3, 4] (fun s i wr => ∃ (k : Nat) (o : ByteArray), k ≤ n ∧ i = .int .i64 k ∧ s = .string o ∧ o.size ≤ 200 * k ∧ Hid (o.data.toList = up l k) ∧ RowKit.Below w.heap.size w wr) (fun _ i _ => n - (RowKit.intOf i).toNat)
    case atStart => exact ⟨0, ⟨#[]⟩, by omega, rfl, rfl, by decide, rfl, RowKit.Below.refl _ _⟩
    case round =>
      obtain ⟨k, o, hk, rfl, rfl, hos, HU, hB⟩ := hrel
      have HB := hide hB
      clear hB
      by_cases hlt : k < n
      · obtain ⟨g, off, rfl⟩ := HR.out.spot (by omega)
        have hlk : k < l.length := by omega
        obtain ⟨d0, d1, d2, d3, d4, d5, d6, d7, d8, d9, d10⟩ := ES_at (HR.out.later HB.out) k l[k] (List.getElem?_eq_getElem hlk)
        have hso := HO.out _ (List.getElem_mem hlk)
        have hpo := okPt_pt hso
        have CL : Hid (∀ W, Calls Tryz.prog 33 #[ver (pt l[k]).a (pt l[k]).b (pt l[k]).c (pt l[k]).p] W fun e w' => e = .returned (.string (str (txt (lo l[k]).1))) ∧ RowKit.Below W.heap.size W w') := fun W => rtext_any _ _ _ _ W (ok_1000 hpo.1) (ok_bd hpo.1).1 (ok_bd hpo.1).2.1 (ok_bd hpo.1).2.2
        have CH : Hid (∀ W, Calls Tryz.prog 33 #[ver (pt l[k]).a' (pt l[k]).b' (pt l[k]).c' (pt l[k]).p'] W fun e w' => e = .returned (.string (str (txt (hi l[k]).1))) ∧ RowKit.Below W.heap.size W w') := fun W => rtext_any _ _ _ _ W (ok_1000 hpo.2) (ok_bd hpo.2).1 (ok_bd hpo.2).2.1 (ok_bd hpo.2).2.2
        have s1 := (ok_txt hpo.1).1
        have s2 := (ok_txt hpo.2).1
        have s1' : (str (txt (lo l[k]).1)).size ≤ 71 := s1
        have s2' : (str (txt (hi l[k]).1)).size ≤ 71 := s2
        have H1 := hide (one_is o _ _ l[k] rfl rfl)
        have HN : Hid (up l (k + 1) = o.data.toList ++ ((if 0 < k then [32, 124, 124, 32] else []) ++ tOne l[k])) := by
          show _ = _
          rw [HU.out]
          cases k with
          | zero => rw [up_one l (by omega), up_zero]; rfl
          | succ k => rw [up_next l k (by omega)]; rfl
        generalize str (txt (lo l[k]).1) = t1 at *
        generalize str (txt (hi l[k]).1) = t2 at *
        generalize tOne l[k] = tx at *
        generalize pt l[k] = q at *
        clear hso hpo s1 s2
        have HK1 := hide hos
        have HS1 := hide s1'
        have HS2 := hide s2'
        have hk9 : Hid (k ≤ 9000) := by show _ ≤ _; omega
        have i1 : (0 : Int) ≤ (k : Int) := by omega
        have i2 : (k : Int) < (n : Int) := by omega
        obtain ⟨qa, qb, qc, qp, qa', qb', qc', qp', qx, qy, qz⟩ := q
        by_cases hk0 : 0 < k
        · have HKW : Hid (wrap64 ((k : Int) + 1) = ((k + 1 : Nat) : Int)) := by show _ = _; have := hk9.out; unfold wrap64; omega
          have hKn : ((k : Int)).toNat = k := Int.toNat_natCast k
          have K0 : (0 : Int) < (k : Int) := by omega
          have hkk := hk9.out
          have n0 : ¬ 9223372036854775807 < o.size + 4 := by omega
          have n1 : ¬ 9223372036854775807 < o.size + 4 + 1 := by omega
          have n2 : ¬ 9223372036854775807 < o.size + 4 + 1 + t1.size := by omega
          have n3 : ¬ 9223372036854775807 < o.size + 4 + 1 + t1.size + 1 := by omega
          have n4 : ¬ 9223372036854775807 < o.size + 4 + 1 + t1.size + 1 + 1 := by omega
          have n5 : ¬ 9223372036854775807 < o.size + 4 + 1 + t1.size + 1 + t2.size := by omega
          have n6 : ¬ 9223372036854775807 < o.size + 4 + 1 + t1.size + 1 + t2.size + 1 := by omega
          clear hkk hos s1' s2'
          generalize hKK : (k : Int) = K at *
          have HKK := hide hKK
          clear hKK
          cases qx <;> cases qz
          · cases qy
            all_goals
              go_wp2_with fail
              refine (CL.out _).mono ?_
              rintro e w1 ⟨rfl, b1⟩
              obtain ⟨c1, f1, l1, hW1⟩ := keep wr.heap.size rfl b1
              clear b1 CL
              go_wp2_with fail
              refine (CH.out _).mono ?_
              rintro e w2 ⟨rfl, b2⟩
              have hW2 := step hW1 b2
              clear b2 CH c1 f1 l1
              go_wp2_with fail
              go_roundw
              case rel => exact ⟨k + 1, _, by omega, (congrArg (Value.int .i64) (by have := HKK.out; omega)), rfl, (by have q1 := HK1.out; have q2 := HS1.out; have q3 := HS2.out; simp only [ByteArray.size_append, z4, z40, z91, z44, z41, z93]; omega), (show _ = _ by rw [HN.out, H1.out]; simp [if_pos hk0]), step HB.out hW2⟩
              case measure => exact measK HKK.out hlt
          · go_wp2_with fail
            refine (CL.out _).mono ?_
            rintro e w1 ⟨rfl, b1⟩
            obtain ⟨c1, f1, l1, hW1⟩ := keep wr.heap.size rfl b1
            clear b1 CL
            go_wp2_with fail
            go_roundw
            case rel => exact ⟨k + 1, _, by omega, (congrArg (Value.int .i64) (by have := HKK.out; omega)), rfl, (by have q1 := HK1.out; have q2 := HS1.out; have q3 := HS2.out; simp only [ByteArray.size_append, z4, z40, z91, z44, z41, z93]; omega), (show _ = _ by rw [HN.out, H1.out]; simp [if_pos hk0]), step HB.out hW1⟩
            case measure => exact measK HKK.out hlt
          · cases qy
            all_goals
              go_wp2_with fail
              refine (CL.out _).mono ?_
              rintro e w1 ⟨rfl, b1⟩
              obtain ⟨c1, f1, l1, hW1⟩ := keep wr.heap.size rfl b1
              clear b1 CL
              go_wp2_with fail
              refine (CH.out _).mono ?_
              rintro e w2 ⟨rfl, b2⟩
              have hW2 := step hW1 b2
              clear b2 CH c1 f1 l1
              go_wp2_with fail
              go_roundw
              case rel => exact ⟨k + 1, _, by omega, (congrArg (Value.int .i64) (by have := HKK.out; omega)), rfl, (by have q1 := HK1.out; have q2 := HS1.out; have q3 := HS2.out; simp only [ByteArray.size_append, z4, z40, z91, z44, z41, z93]; omega), (show _ = _ by rw [HN.out, H1.out]; simp [if_pos hk0]), step HB.out hW2⟩
              case measure => exact measK HKK.out hlt
          · go_wp2_with fail
            refine (CL.out _).mono ?_
            rintro e w1 ⟨rfl, b1⟩
            obtain ⟨c1, f1, l1, hW1⟩ := keep wr.heap.size rfl b1
            clear b1 CL
            go_wp2_with fail
            go_roundw
            case rel => exact ⟨k + 1, _, by omega, (congrArg (Value.int .i64) (by have := HKK.out; omega)), rfl, (by have q1 := HK1.out; have q2 := HS1.out; have q3 := HS2.out; simp only [ByteArray.size_append, z4, z40, z91, z44, z41, z93]; omega), (show _ = _ by rw [HN.out, H1.out]; simp [if_pos hk0]), step HB.out hW1⟩
            case measure => exact measK HKK.out hlt
        · obtain rfl : k = 0 := by omega
          simp only [Nat.zero_mul, Nat.add_zero] at d0 d1 d2 d3 d4 d5 d6 d7 d8 d9 d10
          have n0 : ¬ 9223372036854775807 < o.size := by omega
          have n1 : ¬ 9223372036854775807 < o.size + 1 := by omega
          have n2 : ¬ 9223372036854775807 < o.size + 1 + t1.size := by omega
          have n3 : ¬ 9223372036854775807 < o.size + 1 + t1.size + 1 := by omega
          have n4 : ¬ 9223372036854775807 < o.size + 1 + t1.size + 1 + 1 := by omega
          have n5 : ¬ 9223372036854775807 < o.size + 1 + t1.size + 1 + t2.size := by omega
          have n6 : ¬ 9223372036854775807 < o.size + 1 + t1.size + 1 + t2.size + 1 := by omega
          clear hos s1' s2'
          cases qx <;> cases qz
          · cases qy
            all_goals
              go_wp2_with fail
              refine (CL.out _).mono ?_
              rintro e w1 ⟨rfl, b1⟩
              obtain ⟨c1, f1, l1, hW1⟩ := keep wr.heap.size rfl b1
              clear b1 CL
              go_wp2_with fail
              refine (CH.out _).mono ?_
              rintro e w2 ⟨rfl, b2⟩
              have hW2 := step hW1 b2
              clear b2 CH c1 f1 l1
              go_wp2_with fail
              go_roundw
              case rel => exact ⟨0 + 1, _, by omega, rfl, rfl, (by have q1 := HK1.out; have q2 := HS1.out; have q3 := HS2.out; simp only [ByteArray.size_append, z4, z40, z91, z44, z41, z93]; omega), (show _ = _ by rw [HN.out, H1.out]; simp []), step HB.out hW2⟩
              case measure => simp [RowKit.intOf]; omega
          · go_wp2_with fail
            refine (CL.out _).mono ?_
            rintro e w1 ⟨rfl, b1⟩
            obtain ⟨c1, f1, l1, hW1⟩ := keep wr.heap.size rfl b1
            clear b1 CL
            go_wp2_with fail
            go_roundw
            case rel => exact ⟨0 + 1, _, by omega, rfl, rfl, (by have q1 := HK1.out; have q2 := HS1.out; have q3 := HS2.out; simp only [ByteArray.size_append, z4, z40, z91, z44, z41, z93]; omega), (show _ = _ by rw [HN.out, H1.out]; simp []), step HB.out hW1⟩
            case measure => simp [RowKit.intOf]; omega
          · cases qy
            all_goals
              go_wp2_with fail
              refine (CL.out _).mono ?_
              rintro e w1 ⟨rfl, b1⟩
              obtain ⟨c1, f1, l1, hW1⟩ := keep wr.heap.size rfl b1
              clear b1 CL
              go_wp2_with fail
              refine (CH.out _).mono ?_
              rintro e w2 ⟨rfl, b2⟩
              have hW2 := step hW1 b2
              clear b2 CH c1 f1 l1
              go_wp2_with fail
              go_roundw
              case rel => exact ⟨0 + 1, _, by omega, rfl, rfl, (by have q1 := HK1.out; have q2 := HS1.out; have q3 := HS2.out; simp only [ByteArray.size_append, z4, z40, z91, z44, z41, z93]; omega), (show _ = _ by rw [HN.out, H1.out]; simp []), step HB.out hW2⟩
              case measure => simp [RowKit.intOf]; omega
          · go_wp2_with fail
            refine (CL.out _).mono ?_
            rintro e w1 ⟨rfl, b1⟩
            obtain ⟨c1, f1, l1, hW1⟩ := keep wr.heap.size rfl b1
            clear b1 CL
            go_wp2_with fail
            go_roundw
            case rel => exact ⟨0 + 1, _, by omega, rfl, rfl, (by have q1 := HK1.out; have q2 := HS1.out; have q3 := HS2.out; simp only [ByteArray.size_append, z4, z40, z91, z44, z41, z93]; omega), (show _ = _ by rw [HN.out, H1.out]; simp []), step HB.out hW1⟩
            case measure => simp [RowKit.intOf]; omega
      · have hd : decide ((k : Int) < (n : Int)) = false := by simp; omega
        have HE : Hid (str (tAll l) = o) := by
          refine ba_ext ?_
          have e : k = l.length := by omega
          rw [HU.out, e, up_all l (by intro e; rw [e] at hl; simp at hl; omega), str_list]
        go_wp2_with fail
        go_ret
        exact ⟨by rw [HE.out]; rfl, HB.out⟩
end Go.Proofs.YtohnlhfgajipgaaGreatDoor

namespace Go.Sp
set_option linter.unusedVariables false
open Go.Vr Go.Tx Go.Lib

theorem tw_all {p : UInt8 → Bool} : ∀ {l : Bs}, (∀ c ∈ l, p c = true) → l.takeWhile p = l
  | [], _ => rfl
  | c :: l, h => by rw [List.takeWhile_cons_of_pos (h c (by simp)), tw_all fun d hd => h d (by simp [hd])]
theorem tw_stop {p : UInt8 → Bool} : ∀ {l r : Bs} {d : UInt8}, (∀ c ∈ l, p c = true) → p d = false → (l ++ d :: r).takeWhile p = l
  | [], r, d, _, hd => by rw [List.nil_append, List.takeWhile_cons_of_neg (by rw [hd]; decide)]
  | c :: l, r, d, h, hd => by rw [List.cons_append, List.takeWhile_cons_of_pos (h c (by simp)), tw_stop (fun e he => h e (by simp [he])) hd]
theorem vb_w {c : UInt8} (h : isVb c = true) : isW c = true := by
  unfold isW
  rw [Bool.not_eq_true', Bool.or_eq_false_iff]
  constructor
  · rw [beq_eq_false_iff_ne]; rintro rfl; exact absurd h (by decide)
  · rw [beq_eq_false_iff_ne]; rintro rfl; exact absurd h (by decide)
theorem bl_stay {s : Bs} {p : Nat} (h : ∀ c, s[p]? = some c → c ≠ 32) : blM s p = p := by
  unfold blM
  have : (s.drop p).takeWhile (· == 32) = [] := by
    cases e : s.drop p with
    | nil => rfl
    | cons c r =>
      have hc : s[p]? = some c := by
        have := congrArg (·[0]?) e
        simpa using this
      rw [List.takeWhile_cons_of_neg (by simpa using h c hc)]
  rw [this]; rfl
theorem bl_end (s : Bs) : blM s s.length = s.length := bl_stay (by intro c h; rw [List.getElem?_eq_none (Nat.le_refl _)] at h; exact nomatch h)
theorem all_one {l : List S} (h : Row l) : allL [l] = l := row_eq ⟨all_nm _, ok_all (by simpa using h.ok)⟩ h fun x => by
  rw [all_has (by simpa using h.nm) (by simpa using h.ok)]
  constructor
  · rintro ⟨_, _, k⟩; exact k l (by simp)
  · intro k; exact ⟨(h.range k).1, (h.range k).2, by simpa using k⟩
/-- One item up to the end. -/
theorem parse_item {s : Bs} {l : List S} (hl : Row l) (h0 : ∀ c, s[0]? = some c → c ≠ 32) (hi : itemM s 0 = (some l, s.length)) : parseS s = (some l, s.length) := by
  have hp : partM s 0 = (some l, s.length) := by
    unfold partM
    rw [bl_stay h0]
    unfold partG
    rw [hi]
    simp only
    rw [bl_end, if_pos (.inl rfl), List.nil_append, all_one hl]
  unfold parseS partsG
  rw [hp]
  show (if s.length = s.length then (some (nrm ([] ++ [l]).flatten), s.length) else _) = _
  rw [if_pos rfl, List.nil_append, or_one_row hl]
theorem word_whole {s : Bs} (hw : ∀ c ∈ s, isW c = true) : wordM s 0 = s := by unfold wordM; rw [List.drop_zero]; exact tw_all hw
theorem word_end (s : Bs) : wordM s s.length = [] := by unfold wordM; rw [List.drop_length]; rfl
theorem parse_word {s : Bs} {l : List S} (hl : Row l) (hw : ∀ c ∈ s, isW c = true) (hm : meantM s = some l) : parseS s = (some l, s.length) := by
  have h0 : ∀ c, s[0]? = some c → c ≠ 32 := by rintro c hc rfl; exact absurd (hw 32 (List.mem_of_getElem? hc)) (by decide)
  refine parse_item hl h0 ?_
  unfold itemM
  rw [word_whole hw, hm]
  simp only [Nat.zero_add]
  rw [bl_end]
  unfold item1
  cases parse s with
  | none => rfl
  | some v => simp only; rw [if_neg (by rw [word_end]; decide)]

/-- A version written with a sign ahead. -/
theorem pre_minus {u : V} (ho : u.ok = true) (h : (45 : UInt8) ∈ txt u) : u.p.data.toList ≠ [] := by
  intro e
  obtain ⟨h1, h2, h3, _⟩ := ok_parts ho
  have i1 := dig_ne (itoa_ok u.a h1.1 (by omega)).2.2.1 45 (by decide)
  have i2 := dig_ne (itoa_ok u.b h2.1 (by omega)).2.2.1 45 (by decide)
  have i3 := dig_ne (itoa_ok u.c h3.1 (by omega)).2.2.1 45 (by decide)
  unfold txt tail at h
  rw [if_pos e] at h
  simp only [List.mem_cons, List.mem_append, List.not_mem_nil, or_false] at h
  rcases h with h | h | h | h | h | h
  · exact absurd h (by decide)
  · exact i1 _ h rfl
  · exact absurd h (by decide)
  · exact i2 _ h rfl
  · exact absurd h (by decide)
  · exact i3 _ h rfl
theorem parse_minus {y : Bs} {u : V} (h : parse y = some u) (hm : (45 : UInt8) ∈ y) : u.p.data.toList ≠ [] := by
  obtain ⟨h1, h2⟩ := parse_some h
  exact pre_minus h1 (by rw [h2]; exact hm)
theorem wild_minus {s : Bs} (h : (45 : UInt8) ∈ s.take (s.length - 2)) : wildM s = none := by
  have w1 : ∀ y, (45 : UInt8) ∈ y → wild1 (parse y) = none := by
    intro y hy
    cases e : parse y with
    | none => rfl
    | some u => exact if_neg (parse_minus e hy)
  unfold wildM
  split
  · unfold wild2
    have k1 := w1 (s.take (s.length - 2) ++ [46, 48, 46, 48]) (by simp [h])
    cases e : parse (s.take (s.length - 2) ++ [46, 48]) with
    | none => exact k1
    | some u =>
      simp only
      rw [if_neg (parse_minus e (by simp [h]))]
      exact k1
  · rfl
theorem wild_txt (g : Bs) {v : V} (h : v.ok = true) : wildM (g ++ txt v) = none := by
  obtain ⟨h1, h2, h3, h4⟩ := ok_parts h
  by_cases hx : (g ++ txt v).drop ((g ++ txt v).length - 2) = [46, 120]
  · have hne : v.p.data.toList ≠ [] := by
      intro e
      have i3 := itoa_ok v.c h3.1 (by omega)
      have hd := dig_ne i3.2.2.1 120 (by decide)
      have e2 : g ++ txt v = (g ++ 118 :: (itoa v.a ++ 46 :: (itoa v.b ++ [46]))) ++ itoa v.c := by unfold txt tail; rw [if_pos e]; simp
      have hl : (g ++ txt v).getLast? = some 120 := by
        rw [← List.take_append_drop ((g ++ txt v).length - 2) (g ++ txt v), hx, List.getLast?_append]; rfl
      rw [e2, List.getLast?_append] at hl
      cases e3 : (itoa v.c).getLast? with
      | none => exact i3.2.2.2 (List.getLast?_eq_none_iff.1 e3)
      | some c =>
        rw [e3] at hl
        have : c = 120 := by simpa using hl
        exact hd c (List.mem_of_getLast? e3) this
    refine wild_minus ?_
    have e2 : g ++ txt v = (g ++ 118 :: (itoa v.a ++ 46 :: (itoa v.b ++ 46 :: itoa v.c))) ++ 45 :: v.p.data.toList := by unfold txt tail; rw [if_neg hne]; simp
    generalize g ++ 118 :: (itoa v.a ++ 46 :: (itoa v.b ++ 46 :: itoa v.c)) = y at e2
    generalize v.p.data.toList = p at *
    have hp2 : 2 ≤ p.length := by
      cases p with
      | nil => exact absurd rfl hne
      | cons c p =>
        cases p with
        | nil =>
          rw [e2] at hx
          have e5 : (y ++ [45, c]).drop ((y ++ [45, c]).length - 2) = [45, c] := by
            have : (y ++ [45, c]).length - 2 = y.length := by simp
            rw [this, List.drop_left]
          rw [e5] at hx
          injection hx with hx _
          exact absurd hx (by decide)
        | cons d p => simp
    have e4 : (g ++ txt v).take ((g ++ txt v).length - 2) = y ++ 45 :: p.take (p.length - 2) := by
      rw [e2]
      have : (y ++ 45 :: p).length - 2 = y.length + (1 + (p.length - 2)) := by simp; omega
      rw [this, List.take_length_add_append]
      rw [Nat.add_comm 1, List.take_succ_cons]
    rw [e4]
    simp
  · unfold wildM; exact if_neg hx
theorem idx_at : ∀ (x r : Bs) (d : UInt8), (∀ c ∈ x, c ≠ d) → indexByte (x ++ d :: r) d = x.length
  | [], r, d, _ => by simp [indexByte]
  | y :: x, r, d, h => by
    have i := idx_at x r d (fun c hc => h c (by simp [hc]))
    have hy := h y (by simp)
    rw [List.cons_append, indexByte, if_neg (by simpa using hy), i, if_neg (by simp)]
    simp
theorem meant_signed {g : Bs} {v : V} (hv : v.ok = true) (hg : ∀ c ∈ g, c ≠ 118) : meantM (g ++ txt v) = signedM g v := by
  have hne : g ++ txt v ≠ [42] := by
    intro e
    have : (118 : UInt8) ∈ g ++ txt v := by unfold txt; simp
    rw [e] at this
    exact absurd this (by decide)
  have ha : vAt (g ++ txt v) = g.length := by
    unfold vAt txt
    rw [idx_at g _ 118 hg, Int.toNat_natCast]
  unfold meantM
  rw [if_neg hne, wild_txt g hv, ha]
  simp only [List.take_left, List.drop_left]
  rw [parse_txt hv]
  rfl
/-- From a version to a version. -/
theorem row_only {a b : C} (ha : okC a) (hb : okC b) : Row (only cmpC a b) := ⟨nm_only _ _, ok_only ha hb⟩
theorem parse_two {v u : V} (hv : v.ok = true) (hu : u.ok = true) : parseS (txt v ++ [32, 45, 32] ++ txt u) = (some (only cmpC (some (v, false)) (some (u, true))), (txt v ++ [32, 45, 32] ++ txt u).length) := by
  have hvb : ∀ c ∈ txt v, isW c = true := fun c hc => vb_w (txt_bytes hv c hc)
  have hub : ∀ c ∈ txt u, isW c = true := fun c hc => vb_w (txt_bytes hu c hc)
  have e0 : txt v ++ [32, 45, 32] ++ txt u = txt v ++ 32 :: (45 :: (32 :: txt u)) := by simp
  have e1 : txt v ++ [32, 45, 32] ++ txt u = (txt v ++ [32]) ++ 45 :: (32 :: txt u) := by simp
  have e2 : txt v ++ [32, 45, 32] ++ txt u = (txt v ++ [32, 45]) ++ 32 :: txt u := by simp
  have e3 : txt v ++ [32, 45, 32] ++ txt u = (txt v ++ [32, 45, 32]) ++ txt u := rfl
  have hlen : (txt v ++ [32, 45, 32] ++ txt u).length = (txt v).length + 3 + (txt u).length := by simp; omega
  have hw0 : wordM (txt v ++ [32, 45, 32] ++ txt u) 0 = txt v := by
    unfold wordM; rw [List.drop_zero, e0]; exact tw_stop hvb (by decide)
  have hu0 : ∃ r, txt u = 118 :: r := ⟨_, rfl⟩
  obtain ⟨r, hr⟩ := hu0
  have hb1 : blM (txt v ++ [32, 45, 32] ++ txt u) (txt v).length = (txt v).length + 1 := by
    unfold blM
    rw [e0, List.drop_left]
    rfl
  have hw1 : wordM (txt v ++ [32, 45, 32] ++ txt u) ((txt v).length + 1) = [45] := by
    unfold wordM
    rw [e1]
    have : (txt v).length + 1 = (txt v ++ [32]).length := by simp
    rw [this, List.drop_left]
    rfl
  have hb2 : blM (txt v ++ [32, 45, 32] ++ txt u) ((txt v).length + 1 + 1) = (txt v).length + 3 := by
    unfold blM
    rw [e2]
    have : (txt v).length + 1 + 1 = (txt v ++ [32, 45]).length := by simp
    rw [this, List.drop_left, hr]
    rw [List.takeWhile_cons_of_pos (by decide), List.takeWhile_cons_of_neg (by decide)]
    simp
  have hw2 : wordM (txt v ++ [32, 45, 32] ++ txt u) ((txt v).length + 3) = txt u := by
    unfold wordM
    have : (txt v).length + 3 = (txt v ++ [32, 45, 32]).length := by simp
    rw [e3, this, List.drop_left]
    exact tw_all hub
  refine parse_item (row_only (ok_v hv _) (ok_v hu _)) ?_ ?_
  · intro c hc
    have : c = 118 := by unfold txt at hc; simpa using hc.symm
    subst this; decide
  · unfold itemM
    rw [hw0]
    have hm := meant_signed (g := []) hv (by simp)
    rw [List.nil_append] at hm
    rw [hm]
    have hsg : signedM [] v = some (only cmpC (some (v, false)) (some (v, true))) := rfl
    rw [hsg]
    simp only [Nat.zero_add]
    rw [hb1, parse_txt hv]
    unfold item1
    simp only
    rw [if_pos hw1]
    unfold item2
    rw [hb2, hw2, parse_txt hu]
    simp only
    rw [hlen]
end Go.Sp

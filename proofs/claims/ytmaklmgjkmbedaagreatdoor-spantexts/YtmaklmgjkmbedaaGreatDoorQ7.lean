/-
  Contract of the reference's Text.
-/
import Derived.Test.YtmaklmgjkmbedaaGreatDoorQ3
import Derived.Test.YtmaklmgjkmbedaaGreatDoorN11
import Derived.Test.YtmaklmgjkmbedaaGreatDoorM22
namespace Go.Proofs.YtmaklmgjkmbedaaGreatDoor
set_option linter.unusedSimpArgs false
set_option linter.unusedVariables false
open Go.RowKit Go.Vr Go.Sort Go.Tx Go.Lib
attribute [local go_sem] setCellDrewN allocDrewN

/-- What is written of the first k. -/
def up (l : List Sp.S) (k : Nat) : Bs := Lib.join ((l.take k).map tOne) [32, 124, 124, 32]
theorem join_snoc (y sep : Bs) : ∀ xs : List Bs, xs ≠ [] → Lib.join (xs ++ [y]) sep = Lib.join xs sep ++ (sep ++ y)
  | [], h => absurd rfl h
  | [x], _ => by rw [List.cons_append, List.nil_append, join_cons, if_neg (by simp), join_cons, if_pos rfl, join_cons, if_pos rfl]; simp
  | x :: z :: r, _ => by
    have := join_snoc y sep (z :: r) (by simp)
    rw [List.cons_append, join_cons, if_neg (by simp), this, join_cons x (z :: r), if_neg (by simp)]
    simp only [List.append_assoc]
theorem up_zero (l : List Sp.S) : up l 0 = [] := rfl
theorem up_one (l : List Sp.S) (h : 0 < l.length) : up l 1 = tOne l[0] := by
  unfold up
  cases l with
  | nil => simp at h
  | cons x r => simp [Lib.join]
theorem up_next (l : List Sp.S) (k : Nat) (h : k + 1 < l.length) : up l (k + 1 + 1) = up l (k + 1) ++ ([32, 124, 124, 32] ++ tOne l[k + 1]) := by
  unfold up
  rw [List.take_succ_eq_append_getElem h, List.map_append]
  refine join_snoc _ _ _ ?_
  intro e
  have := congrArg List.length e
  rw [List.length_map, List.length_take, List.length_nil] at this
  omega
theorem up_all (l : List Sp.S) (h : l ≠ []) : up l l.length = tAll l := by
  unfold up tAll
  rw [List.take_length, if_neg h]

/-- One, as it is put behind. -/
theorem one_is (o t u : ByteArray) (s : Sp.S) (ht : t = str (txt (lo s).1)) (hu : u = str (txt (hi s).1)) :
    tOne s = (if (pt s).x then [40] else [91]) ++ t.data.toList ++ [44] ++ (if (pt s).z then [41] else u.data.toList ++ (if (pt s).y then [93] else [41])) := by
  subst ht
  subst hu
  rw [str_list, str_list]
  obtain ⟨s1, s2⟩ := s
  cases s2 with
  | none =>
    show tOne (s1, none) = (if (lo (s1, none)).2 then [40] else [91]) ++ _ ++ _ ++ [41]
    unfold tOne tLow tHigh
    cases (lo (s1, none)).2 <;> simp
  | some p =>
    obtain ⟨pv, pb⟩ := p
    show tOne (s1, some (pv, pb)) = (if (lo (s1, some (pv, pb))).2 then [40] else [91]) ++ _ ++ _ ++ (txt pv ++ (if pb then [93] else [41]))
    unfold tOne tLow tHigh
    cases (lo (s1, some (pv, pb))).2 <;> cases pb <;> simp

theorem z4 : (⟨#[32, 124, 124, 32]⟩ : ByteArray).size = 4 := rfl
theorem z40 : (⟨#[40]⟩ : ByteArray).size = 1 := rfl
theorem z91 : (⟨#[91]⟩ : ByteArray).size = 1 := rfl
theorem z44 : (⟨#[44]⟩ : ByteArray).size = 1 := rfl
theorem z41 : (⟨#[41]⟩ : ByteArray).size = 1 := rfl
theorem z93 : (⟨#[93]⟩ : ByteArray).size = 1 := rfl
theorem measK {n k : Nat} {K : Int} (e : (k : Int) = K) (h : k < n) : n - (RowKit.intOf (Value.int .i64 (K + 1))).toNat < n - (RowKit.intOf (Value.int .i64 K)).toNat := by
  subst e; exact meas rfl h
theorem cat_ok {a b : ByteArray} (h : a.size + b.size ≤ 10000000) : ¬ 9223372036854775807 < a.size + b.size := by omega

set_option maxHeartbeats 16000000 in
set_option maxRecDepth 100000 in
theorem rtextL_any (a : Option Addr) (n cap : Nat) (l : List Sp.S) (w : World) (hr : ERow ES w a n l) (hn : n ≤ 9000) (ho : Sp.okL l) :
    Calls Tryz.prog 35 #[.slice a n cap] w fun e w' => e = .returned (.string (str (tAll l))) ∧ RowKit.Below w.heap.size w w' := by
  have HR := hide hr
  have HO := hide ho
  have hl := hr.n
  clear hr ho
  by_cases h0 : n = 0
  · subst h0
    have HE : Hid (str (tAll l) = ⟨#[45]⟩) := by
      obtain rfl := List.eq_nil_of_length_eq_zero hl
      rfl
    go_enter Tryz.func35, Tryz.ntmps35
    go_wp2_with fail
    go_ret
    exact ⟨by rw [HE.out]; rfl, RowKit.Below.refl _ _⟩
  · have hz : ((n : Int) == 0) = false := by simp; omega
    go_enter Tryz.func35, Tryz.ntmps35
    go_wp2_with fail
    go_loopw [3, 4] (fun s i wr => ∃ (k : Nat) (o : ByteArray), k ≤ n ∧ i = .int .i64 k ∧ s = .string o ∧ o.size ≤ 200 * k ∧ Hid (o.data.toList = up l k) ∧ RowKit.Below w.heap.size w wr) (fun _ i _ => n - (RowKit.intOf i).toNat)
    case atStart => exact ⟨0, ⟨#[]⟩, by omega, rfl, rfl, by decide, rfl, RowKit.Below.refl _ _⟩
    case round =>
      obtain ⟨k, o, hk, rfl, rfl, hos, HU, hB⟩ := hrel
      have HB := hide hB
      clear hB
      by_cases hlt : k < n
      · obtain ⟨g, off, rfl⟩ := HR.out.spot (by omega)
        have hlk : k < l.length := by omega
        obtain ⟨d0, d1, d2, d3, d4, d5, d6, d7, d8, d9, d10⟩ := ES_at (HR.out.later HB.out) k l[k] (List.getElem?_eq_getElem hlk)
        have hso := HO.out _ (List.getElem_mem hlk)
        have hpo := okPt_pt hso
        have CL : Hid (∀ W, Calls Tryz.prog 33 #[ver (pt l[k]).a (pt l[k]).b (pt l[k]).c (pt l[k]).p] W fun e w' => e = .returned (.string (str (txt (lo l[k]).1))) ∧ RowKit.Below W.heap.size W w') := fun W => rtext_any _ _ _ _ W (ok_1000 hpo.1) (ok_bd hpo.1).1 (ok_bd hpo.1).2.1 (ok_bd hpo.1).2.2
        have CH : Hid (∀ W, Calls Tryz.prog 33 #[ver (pt l[k]).a' (pt l[k]).b' (pt l[k]).c' (pt l[k]).p'] W fun e w' => e = .returned (.string (str (txt (hi l[k]).1))) ∧ RowKit.Below W.heap.size W w') := fun W => rtext_any _ _ _ _ W (ok_1000 hpo.2) (ok_bd hpo.2).1 (ok_bd hpo.2).2.1 (ok_bd hpo.2).2.2
        have s1 := (ok_txt hpo.1).1
        have s2 := (ok_txt hpo.2).1
        have s1' : (str (txt (lo l[k]).1)).size ≤ 71 := s1
        have s2' : (str (txt (hi l[k]).1)).size ≤ 71 := s2
        have H1 := hide (one_is o _ _ l[k] rfl rfl)
        have HN : Hid (up l (k + 1) = o.data.toList ++ ((if 0 < k then [32, 124, 124, 32] else []) ++ tOne l[k])) := by
          show _ = _
          rw [HU.out]
          cases k with
          | zero => rw [up_one l (by omega), up_zero]; rfl
          | succ k => rw [up_next l k (by omega)]; rfl
        generalize str (txt (lo l[k]).1) = t1 at *
        generalize str (txt (hi l[k]).1) = t2 at *
        generalize tOne l[k] = tx at *
        generalize pt l[k] = q at *
        clear hso hpo s1 s2
        have HK1 := hide hos
        have HS1 := hide s1'
        have HS2 := hide s2'
        have hk9 : Hid (k ≤ 9000) := by show _ ≤ _; omega
        have i1 : (0 : Int) ≤ (k : Int) := by omega
        have i2 : (k : Int) < (n : Int) := by omega
        obtain ⟨qa, qb, qc, qp, qa', qb', qc', qp', qx, qy, qz⟩ := q
        by_cases hk0 : 0 < k
        · have HKW : Hid (wrap64 ((k : Int) + 1) = ((k + 1 : Nat) : Int)) := by show _ = _; have := hk9.out; unfold wrap64; omega
          have hKn : ((k : Int)).toNat = k := Int.toNat_natCast k
          have K0 : (0 : Int) < (k : Int) := by omega
          have hkk := hk9.out
          have n0 : ¬ 9223372036854775807 < o.size + 4 := by omega
          have n1 : ¬ 9223372036854775807 < o.size + 4 + 1 := by omega
          have n2 : ¬ 9223372036854775807 < o.size + 4 + 1 + t1.size := by omega
          have n3 : ¬ 9223372036854775807 < o.size + 4 + 1 + t1.size + 1 := by omega
          have n4 : ¬ 9223372036854775807 < o.size + 4 + 1 + t1.size + 1 + 1 := by omega
          have n5 : ¬ 9223372036854775807 < o.size + 4 + 1 + t1.size + 1 + t2.size := by omega
          have n6 : ¬ 9223372036854775807 < o.size + 4 + 1 + t1.size + 1 + t2.size + 1 := by omega
          clear hkk hos s1' s2'
          generalize hKK : (k : Int) = K at *
          have HKK := hide hKK
          clear hKK
          cases qx <;> cases qz
          · cases qy
            all_goals
              go_wp2_with fail
              refine (CL.out _).mono ?_
              rintro e w1 ⟨rfl, b1⟩
              obtain ⟨c1, f1, l1, hW1⟩ := keep wr.heap.size rfl b1
              clear b1 CL
              go_wp2_with fail
              refine (CH.out _).mono ?_
              rintro e w2 ⟨rfl, b2⟩
              have hW2 := step hW1 b2
              clear b2 CH c1 f1 l1
              go_wp2_with fail
              go_roundw
              case rel => exact ⟨k + 1, _, by omega, (congrArg (Value.int .i64) (by have := HKK.out; omega)), rfl, (by have q1 := HK1.out; have q2 := HS1.out; have q3 := HS2.out; simp only [ByteArray.size_append, z4, z40, z91, z44, z41, z93]; omega), (show _ = _ by rw [HN.out, H1.out]; simp [if_pos hk0]), step HB.out hW2⟩
              case measure => exact measK HKK.out hlt
          · go_wp2_with fail
            refine (CL.out _).mono ?_
            rintro e w1 ⟨rfl, b1⟩
            obtain ⟨c1, f1, l1, hW1⟩ := keep wr.heap.size rfl b1
            clear b1 CL
            go_wp2_with fail
            go_roundw
            case rel => exact ⟨k + 1, _, by omega, (congrArg (Value.int .i64) (by have := HKK.out; omega)), rfl, (by have q1 := HK1.out; have q2 := HS1.out; have q3 := HS2.out; simp only [ByteArray.size_append, z4, z40, z91, z44, z41, z93]; omega), (show _ = _ by rw [HN.out, H1.out]; simp [if_pos hk0]), step HB.out hW1⟩
            case measure => exact measK HKK.out hlt
          · cases qy
            all_goals
              go_wp2_with fail
              refine (CL.out _).mono ?_
              rintro e w1 ⟨rfl, b1⟩
              obtain ⟨c1, f1, l1, hW1⟩ := keep wr.heap.size rfl b1
              clear b1 CL
              go_wp2_with fail
              refine (CH.out _).mono ?_
              rintro e w2 ⟨rfl, b2⟩
              have hW2 := step hW1 b2
              clear b2 CH c1 f1 l1
              go_wp2_with fail
              go_roundw
              case rel => exact ⟨k + 1, _, by omega, (congrArg (Value.int .i64) (by have := HKK.out; omega)), rfl, (by have q1 := HK1.out; have q2 := HS1.out; have q3 := HS2.out; simp only [ByteArray.size_append, z4, z40, z91, z44, z41, z93]; omega), (show _ = _ by rw [HN.out, H1.out]; simp [if_pos hk0]), step HB.out hW2⟩
              case measure => exact measK HKK.out hlt
          · go_wp2_with fail
            refine (CL.out _).mono ?_
            rintro e w1 ⟨rfl, b1⟩
            obtain ⟨c1, f1, l1, hW1⟩ := keep wr.heap.size rfl b1
            clear b1 CL
            go_wp2_with fail
            go_roundw
            case rel => exact ⟨k + 1, _, by omega, (congrArg (Value.int .i64) (by have := HKK.out; omega)), rfl, (by have q1 := HK1.out; have q2 := HS1.out; have q3 := HS2.out; simp only [ByteArray.size_append, z4, z40, z91, z44, z41, z93]; omega), (show _ = _ by rw [HN.out, H1.out]; simp [if_pos hk0]), step HB.out hW1⟩
            case measure => exact measK HKK.out hlt
        · obtain rfl : k = 0 := by omega
          simp only [Nat.zero_mul, Nat.add_zero] at d0 d1 d2 d3 d4 d5 d6 d7 d8 d9 d10
          have n0 : ¬ 9223372036854775807 < o.size := by omega
          have n1 : ¬ 9223372036854775807 < o.size + 1 := by omega
          have n2 : ¬ 9223372036854775807 < o.size + 1 + t1.size := by omega
          have n3 : ¬ 9223372036854775807 < o.size + 1 + t1.size + 1 := by omega
          have n4 : ¬ 9223372036854775807 < o.size + 1 + t1.size + 1 + 1 := by omega
          have n5 : ¬ 9223372036854775807 < o.size + 1 + t1.size + 1 + t2.size := by omega
          have n6 : ¬ 9223372036854775807 < o.size + 1 + t1.size + 1 + t2.size + 1 := by omega
          clear hos s1' s2'
          cases qx <;> cases qz
          · cases qy
            all_goals
              go_wp2_with fail
              refine (CL.out _).mono ?_
              rintro e w1 ⟨rfl, b1⟩
              obtain ⟨c1, f1, l1, hW1⟩ := keep wr.heap.size rfl b1
              clear b1 CL
              go_wp2_with fail
              refine (CH.out _).mono ?_
              rintro e w2 ⟨rfl, b2⟩
              have hW2 := step hW1 b2
              clear b2 CH c1 f1 l1
              go_wp2_with fail
              go_roundw
              case rel => exact ⟨0 + 1, _, by omega, rfl, rfl, (by have q1 := HK1.out; have q2 := HS1.out; have q3 := HS2.out; simp only [ByteArray.size_append, z4, z40, z91, z44, z41, z93]; omega), (show _ = _ by rw [HN.out, H1.out]; simp []), step HB.out hW2⟩
              case measure => simp [RowKit.intOf]; omega
          · go_wp2_with fail
            refine (CL.out _).mono ?_
            rintro e w1 ⟨rfl, b1⟩
            obtain ⟨c1, f1, l1, hW1⟩ := keep wr.heap.size rfl b1
            clear b1 CL
            go_wp2_with fail
            go_roundw
            case rel => exact ⟨0 + 1, _, by omega, rfl, rfl, (by have q1 := HK1.out; have q2 := HS1.out; have q3 := HS2.out; simp only [ByteArray.size_append, z4, z40, z91, z44, z41, z93]; omega), (show _ = _ by rw [HN.out, H1.out]; simp []), step HB.out hW1⟩
            case measure => simp [RowKit.intOf]; omega
          · cases qy
            all_goals
              go_wp2_with fail
              refine (CL.out _).mono ?_
              rintro e w1 ⟨rfl, b1⟩
              obtain ⟨c1, f1, l1, hW1⟩ := keep wr.heap.size rfl b1
              clear b1 CL
              go_wp2_with fail
              refine (CH.out _).mono ?_
              rintro e w2 ⟨rfl, b2⟩
              have hW2 := step hW1 b2
              clear b2 CH c1 f1 l1
              go_wp2_with fail
              go_roundw
              case rel => exact ⟨0 + 1, _, by omega, rfl, rfl, (by have q1 := HK1.out; have q2 := HS1.out; have q3 := HS2.out; simp only [ByteArray.size_append, z4, z40, z91, z44, z41, z93]; omega), (show _ = _ by rw [HN.out, H1.out]; simp []), step HB.out hW2⟩
              case measure => simp [RowKit.intOf]; omega
          · go_wp2_with fail
            refine (CL.out _).mono ?_
            rintro e w1 ⟨rfl, b1⟩
            obtain ⟨c1, f1, l1, hW1⟩ := keep wr.heap.size rfl b1
            clear b1 CL
            go_wp2_with fail
            go_roundw
            case rel => exact ⟨0 + 1, _, by omega, rfl, rfl, (by have q1 := HK1.out; have q2 := HS1.out; have q3 := HS2.out; simp only [ByteArray.size_append, z4, z40, z91, z44, z41, z93]; omega), (show _ = _ by rw [HN.out, H1.out]; simp []), step HB.out hW1⟩
            case measure => simp [RowKit.intOf]; omega
      · have hd : decide ((k : Int) < (n : Int)) = false := by simp; omega
        have HE : Hid (str (tAll l) = o) := by
          refine ba_ext ?_
          have e : k = l.length := by omega
          rw [HU.out, e, up_all l (by intro e; rw [e] at hl; simp at hl; omega), str_list]
        go_wp2_with fail
        go_ret
        exact ⟨by rw [HE.out]; rfl, HB.out⟩
end Go.Proofs.YtmaklmgjkmbedaaGreatDoor

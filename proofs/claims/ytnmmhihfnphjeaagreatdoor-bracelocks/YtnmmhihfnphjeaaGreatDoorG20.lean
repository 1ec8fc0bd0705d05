/-
  Contracts of items, inside.
  Contracts of list, pairs.
-/
import Derived.Test.YtnmmhihfnphjeaaGreatDoorG19
import Derived.Deep.LoopGhost

namespace Go.Proofs.YtnmmhihfnphjeaaGreatDoor.B
set_option linter.unusedSimpArgs false
set_option linter.unusedVariables false
open Go.RowKit Go.Vr Go.Sort Go.Tx Go.Lib
open Go.Br hiding Bs
open Go.Proofs.YtnmmhihfnphjeaaGreatDoor.W (IsCur Oth Kept)
attribute [local go_sem] setCellDrewN allocDrewN

/-- What items leans on of the closure that it is handed: it reads an item and lays it behind the others. -/
structure Reads (b c : Nat) (s : ByteArray) (dp B N1 N2 f : Nat) {α : Type} (step : List α → Bs → R α) (St : World → List α → Prop) (St2 : World → Prop) : Prop where
  call : ∀ acc p w, Rd w b c s p dp → St w acc → acc.length < 90000 → Calls Tryz.prog f #[.pointer (some ⟨N1, 0, none⟩), .pointer (some ⟨N2, 0, none⟩)] w (CPost b c s p dp B w (step acc (rst s p)) (fun w' x => St w' (acc ++ [x])) St2)
  ent : ∀ args w, (callFunc f args).run Tryz.prog w = .ok (.enter f args) w
  oth : ∀ w w' acc, St w acc → Oth c w w' → St w' acc
  end_ : ∀ w acc, St w acc → St2 w
  lo : ∀ w acc, St w acc → B ≤ w.heap.size

theorem ent_list (args : Array Value) (w : World) : (callFunc 90 args).run Tryz.prog w = .ok (.enter 90 args) w := by
  have hf := Tryz.func90
  simp [callFunc, go_sem, hf, Tryz.f90]
theorem ent_pairs (args : Array Value) (w : World) : (callFunc 91 args).run Tryz.prog w = .ok (.enter 91 args) w := by
  have hf := Tryz.func91
  simp [callFunc, go_sem, hf, Tryz.f91]

theorem head1 (l : Bs) (c : UInt8) : (hasPrefix l [c] = true ∧ ∃ t, l = c :: t) ∨ (hasPrefix l [c] = false ∧ ∀ t, l ≠ c :: t) := by
  cases l with
  | nil => exact .inr ⟨rfl, fun t h => by cases h⟩
  | cons x t =>
    by_cases h : x = c
    · exact .inl ⟨by rw [h]; simp [hasPrefix, List.isPrefixOf], t, by rw [h]⟩
    · exact .inr ⟨by simp [hasPrefix, List.isPrefixOf]; exact fun e => h e.symm, fun u e => h (by injection e)⟩

theorem cp_good {b c p dp B p' : Nat} {s : ByteArray} {w w' : World} {α : Type} {r : R α} {l : α} {St : World → α → Prop} {St2 : World → Prop} (hr : Hid (r = .inl (l, rst s p'))) (hf : Fr B b c w w') (hp : p ≤ p') (h : Rd w' b c s p' dp) (hs : St w' l) : CPost b c s p dp B w r St St2 (.returned (.int .i64 0)) w' := by
  unfold CPost; rw [hr.out]; exact ⟨hf, ⟨p', hp, rfl, h⟩, rfl, hs⟩
theorem cp_bad {b c p dp B p' dq n : Nat} {s : ByteArray} {w w' : World} {α : Type} {r : R α} {St : World → α → Prop} {St2 : World → Prop} (hr : Hid (r = .inr (n, rst s p'))) (hf : Fr B b c w w') (hn : 1 ≤ n) (h : Rd w' b c s p' dq) (hs : St2 w') : CPost b c s p dp B w r St St2 (.returned (.int .i64 n)) w' := by
  unfold CPost; rw [hr.out]; exact ⟨hf, hn, ⟨p', dq, rfl, h⟩, rfl, hs⟩

theorem items_err {α : Type} {f : List α → Bs → R α} {e : UInt8} {n : Nat} {acc : List α} {r : Bs} {y : Nat × Bs} (h : f acc r = .inr y) : itemsM f e (n + 1) acc r = .inr y := by unfold itemsM; rw [h]
theorem items_end {α : Type} {f : List α → Bs → R α} {e : UInt8} {n : Nat} {acc : List α} {r t : Bs} {a : α} (h : f acc r = .inl (a, e :: t)) : itemsM f e (n + 1) acc r = .inl (acc ++ [a], t) := by unfold itemsM; rw [h]; simp
theorem items_more {α : Type} {f : List α → Bs → R α} {e : UInt8} {n : Nat} {acc : List α} {r t : Bs} {a : α} (h : f acc r = .inl (a, 44 :: t)) (hne : ¬ (44 : UInt8) = e) : itemsM f e (n + 1) acc r = itemsM f e n (acc ++ [a]) t := by
  conv => lhs; unfold itemsM
  rw [h]
  simp only [if_neg hne, if_true]
theorem items_bad {α : Type} {f : List α → Bs → R α} {e : UInt8} {n : Nat} {acc : List α} {r q : Bs} {a : α} (h : f acc r = .inl (a, q)) (h1 : ∀ t, q ≠ e :: t) (h2 : ∀ t, q ≠ 44 :: t) : itemsM f e (n + 1) acc r = .inr (1, q) := by
  unfold itemsM
  rw [h]
  cases q with
  | nil => rfl
  | cons c t =>
    simp only
    rw [if_neg (fun e2 => h1 t (by rw [e2])), if_neg (fun e2 => h2 t (by rw [e2]))]

set_option maxHeartbeats 4000000 in
set_option maxRecDepth 100000 in
theorem items_rd {α : Type} (b c : Nat) (s : ByteArray) (dp B N1 N2 f : Nat) (step : List α → Bs → R α) (St : World → List α → Prop) (St2 : World → Prop) (e1 : UInt8) (hC : Reads b c s dp B N1 N2 f step St St2) (hne : ¬ (44 : UInt8) = e1) (hs : s.size ≤ 80000)
    (n p : Nat) (acc : List α) (w : World) (hn : s.size - p < n) (hal : acc.length + n ≤ 90000) (h : Rd w b c s p dp) (hst : St w acc) :
    Calls Tryz.prog 110 #[.pointer (some ⟨b, 0, none⟩), .string (str [e1]), .func (.func f) #[] #[.pointer (some ⟨N1, 0, none⟩), .pointer (some ⟨N2, 0, none⟩)]] w (CPost b c s p dp B w (itemsM step e1 n acc (rst s p)) St St2) := by
  have HR := hide h
  have HST := hide hst
  have HC := hide hC
  have HNE := hide hne
  clear h hst hC hne
  go_enter Tryz.func110, Tryz.ntmps110
  go_wp2_with fail
  go_loopg [7] n (fun g _ wr => ∃ (q : Nat) (ac : List α), s.size - q < g ∧ ac.length + g ≤ 90000 ∧ p ≤ q ∧ Hid (Rd wr b c s q dp) ∧ Hid (St wr ac) ∧ Hid (Fr B b c w wr) ∧ Hid (itemsM step e1 n acc (rst s p) = itemsM step e1 g ac (rst s q)))
  case atStart => exact ⟨p, acc, hn, hal, Nat.le_refl _, HR, HST, hide (Fr.refl _ _ _ _), hide rfl⟩
  case round =>
    obtain ⟨q, ac, hg, hlen, hpq, R, ST, F, HQ⟩ := hrel
    cases gk with
    | zero => omega
    | succ g =>
      have CC := hide (HC.out.call ac q wr R.out ST.out (by omega))
      have hlo := HC.out.lo wr ac ST.out
      have hent := HC.out.ent
      have HG := hide (And.intro hg (And.intro hlen (And.intro hpq hlo)))
      clear hg hlen hpq hlo hn hal HR HST
      go_wp2_with fail
      refine CC.out.mono ?_
      rintro e w1 ⟨F1, hm⟩
      have F2 := hide (F.out.trans F1)
      cases hst : step ac (rst s q) with
      | inr y =>
        obtain ⟨m, z⟩ := y
        rw [hst] at hm
        obtain ⟨hm1, ⟨p', dq, hz, hr⟩, rfl, h2⟩ := hm
        have HQ2 : Hid (itemsM step e1 n acc (rst s p) = .inr (m, rst s p')) := by show _ = _; rw [HQ.out, items_err hst, hz]
        have dm : ((m : Int) == 0) = false := by simp; omega
        have HM1 := hide hm1
        have HR2 := hide hr
        have HS2 := hide h2
        clear hm1 hst hz hr h2 CC F1
        go_wp2_with fail
        go_ret
        exact cp_bad HQ2 F2.out HM1.out HR2.out HS2.out
      | inl y =>
        obtain ⟨x, z⟩ := y
        rw [hst] at hm
        obtain ⟨⟨q1, hq1, hz, hr⟩, rfl, h2⟩ := hm
        have hc := hr.box.c
        have HR2 := hide hr
        have HS2 := hide h2
        have CT := hide (take_rd b c s q1 dp (str [e1]) w1 hr (by omega))
        rw [str_list, str_size, List.length_singleton] at CT
        clear hr h2 CC F1
        rcases head1 (rst s q1) e1 with ⟨h1, t, ht⟩ | ⟨h1, ht⟩
        · have ht2 : rst s (q1 + 1) = t := by rw [← rst_drop, ht]; rfl
          have HQ2 : Hid (itemsM step e1 n acc (rst s p) = .inl (ac ++ [x], rst s (q1 + 1))) := by
            show _ = _
            rw [HQ.out, items_end (t := rst s (q1 + 1)) (a := x) (by rw [hst, ← hz, ht, ht2])]
          rw [h1] at CT
          clear ht ht2 h1 hst hz
          go_wp2_with fail
          refine CT.out.mono ?_
          rintro e w2 ⟨rfl, R3, O3⟩
          have HR3 := hide R3
          have HO3 := hide O3
          clear R3 O3 CT
          go_wp2_with fail
          go_ret
          exact cp_good HQ2 (F2.out.trans (Fr.ofOth HO3.out)) (by have := HG.out; omega) HR3.out (HC.out.oth _ _ _ HS2.out HO3.out)
        · rw [h1] at CT
          clear h1
          go_wp2_with fail
          refine CT.out.mono ?_
          rintro e w2 ⟨rfl, R3, O3⟩
          have hc := R3.box.c
          have HR3 := hide R3
          have HO3 := hide O3
          have CT2 := hide (take_rd b c s q1 dp ⟨#[44]⟩ w2 R3 (by omega))
          have e44 : (ByteArray.mk #[44]).data.toList = [44] := rfl
          have z44 : (ByteArray.mk #[44]).size = 1 := rfl
          rw [e44, z44] at CT2
          clear R3 O3 CT
          rcases head1 (rst s q1) 44 with ⟨h1, t, ht4⟩ | ⟨h1, ht4⟩
          · have ht2 : rst s (q1 + 1) = t := by rw [← rst_drop, ht4]; rfl
            have hlt : q1 < s.size := by
              have := rst_len s q1
              rw [ht4] at this
              simp at this
              omega
            have HQ2 : Hid (itemsM step e1 n acc (rst s p) = itemsM step e1 g (ac ++ [x]) (rst s (q1 + 1))) := by
              show _ = _
              rw [HQ.out, items_more (t := rst s (q1 + 1)) (a := x) (by rw [hst, ← hz, ht4, ht2]) HNE.out]
            have HLT := hide hlt
            rw [h1] at CT2
            clear ht ht4 ht2 h1 hst hz hlt
            go_wp2_with fail
            refine CT2.out.mono ?_
            rintro e w3 ⟨rfl, R4, O4⟩
            have HR4 := hide R4
            have HO4 := hide O4
            clear R4 O4 CT2
            go_wp2_with fail
            go_roundg g
            case measure => omega
            case rel => exact ⟨q1 + 1, ac ++ [x], by have := HG.out; have := HLT.out; omega, by have := HG.out; simp; omega, by have := HG.out; omega, HR4, hide (HC.out.oth _ _ _ (HC.out.oth _ _ _ HS2.out HO3.out) HO4.out), hide ((F2.out.trans (Fr.ofOth HO3.out)).trans (Fr.ofOth HO4.out)), HQ2⟩
          · have HQ2 : Hid (itemsM step e1 n acc (rst s p) = .inr (1, rst s q1)) := by
              show _ = _
              rw [HQ.out, items_bad (q := rst s q1) (a := x) (by rw [hst, hz]) ht ht4]
            rw [h1] at CT2
            clear ht ht4 h1 hst hz
            go_wp2_with fail
            refine CT2.out.mono ?_
            rintro e w3 ⟨rfl, R4, O4⟩
            have HR4 := hide R4
            have HO4 := hide O4
            clear R4 O4 CT2
            go_wp2_with fail
            go_ret
            exact cp_bad HQ2 ((F2.out.trans (Fr.ofOth HO3.out)).trans (Fr.ofOth HO4.out)) (Nat.le_refl _) HR4.out (HC.out.end_ _ _ (HC.out.oth _ _ _ (HC.out.oth _ _ _ HS2.out HO3.out) HO4.out))

theorem inside_end {α : Type} {f : List α → Bs → R α} {e : UInt8} {t u : Bs} (h : skip t = e :: u) : insideM f e t = .inl ([], u) := by unfold insideM; rw [h, if_pos (by rfl)]; rfl
theorem inside_more {α : Type} {f : List α → Bs → R α} {e : UInt8} {t : Bs} (h : ∀ u, skip t ≠ e :: u) : insideM f e t = itemsM f e ((skip t).length + 1) [] (skip t) := by
  unfold insideM
  rw [if_neg]
  intro h2
  cases hs : skip t with
  | nil => rw [hs] at h2; cases h2
  | cons c u =>
    rw [hs] at h2
    exact h u (by rw [hs]; injection h2 with h2; rw [h2])

set_option maxHeartbeats 4000000 in
set_option maxRecDepth 100000 in
/-- inside: behind the opening sign. -/
theorem inside_rd {α : Type} (b c : Nat) (s : ByteArray) (dp B N1 N2 f : Nat) (step : List α → Bs → R α) (St : World → List α → Prop) (St2 : World → Prop) (o1 e1 : UInt8) (hC : Reads b c s (dp + 1) B N1 N2 f step St St2) (hne : ¬ (44 : UInt8) = e1) (hs : s.size ≤ 80000)
    (p : Nat) (u : Bs) (w : World) (h : Rd w b c s p dp) (hd : dp < 8) (hu : rst s p = o1 :: u) (hst : St w []) (hset : ∀ w' l k, St w' l → St (w'.setCell ⟨b, 2, none⟩ (.int .i64 k)) l) (hkept : ∀ w w' l, St w l → Kept c w w' → St w' l) :
    Calls Tryz.prog 89 #[.pointer (some ⟨b, 0, none⟩), .string (str [o1]), .string (str [e1]), .func (.func f) #[] #[.pointer (some ⟨N1, 0, none⟩), .pointer (some ⟨N2, 0, none⟩)]] w (CPost b c s p dp B w (insideM step e1 u) St St2) := by
  have hc := h.box.c
  have hf := h.box.f
  have hu2 : rst s (p + 1) = u := by rw [← rst_drop, hu]; rfl
  have HU := hide hu2
  have HP : Hid (hasPrefix (rst s p) [o1] = true) := by show _ = _; rw [hu]; simp [hasPrefix, List.isPrefixOf]
  have HST := hide hst
  have HC := hide hC
  have HNE := hide hne
  have HR := hide h
  have hd8 : ¬ (dp : Int) = 8 := by omega
  have d8 : ((dp : Int) == 8) = false := by simp; omega
  have hdp0 : (0 : Int) ≤ (dp : Int) := by omega
  have hdp1 : (dp : Int) ≤ 8 := by omega
  have HSET := hide hset
  have HKEPT := hide hkept
  have R1 := hide (h.set (dq := dp + 1))
  have S1 := hide (hset w [] (dp + 1 : Nat) hst)
  have hbl := h.lt
  have F1 : Hid (Fr B b c w (w.setCell ⟨b, 2, none⟩ (.int .i64 (dp + 1 : Nat)))) := hide ((Fr.refl B b c w).setCell b 2 _ (.inr (.inl rfl)))
  have h1 : ((dp + 1 : Nat) : Int) = (dp : Int) + 1 := by omega
  rw [h1] at R1 S1 F1
  clear h hu hu2 hst hC hne hset hkept
  go_enter Tryz.func89, Tryz.ntmps89
  go_wp2_with fail
  generalize hW1 : w.setCell ⟨b, 2, none⟩ (.int .i64 ((dp : Int) + 1)) = W1 at *
  clear hW1 hc hf
  have hc := R1.out.box.c
  have hf := R1.out.box.f
  have CT := hide (take_rd b c s p (dp + 1) (str [o1]) W1 R1.out (by omega))
  rw [str_list, str_size, List.length_singleton, HP.out, if_pos rfl] at CT
  refine CT.out.mono ?_
  rintro e w2 ⟨rfl, R2, O2⟩
  have S2 := hide (HC.out.oth _ _ _ S1.out O2)
  have F2 := hide (F1.out.trans (Fr.ofOth (b := b) O2))
  have HR2 := hide R2
  have CB := hide (blanks_rd b c s (p + 1) (dp + 1) w2 R2 (by omega))
  have hN1 := HC.out.lo _ _ S2.out
  clear hc hf CT
  have hc := R2.box.c
  clear R2 O2
  go_wp2_with fail
  refine CB.out.mono ?_
  rintro e w3 ⟨t1, p2, rfl, hp2, hsk, R3, K3⟩
  have HSK : Hid (skip u = rst s p2) := by show _ = _; rw [← HU.out]; exact hsk
  have S3 := hide (HKEPT.out _ _ _ S2.out K3)
  have F3 := hide (F2.out.trans (Fr.ofKept (b := b) K3 hN1))
  have HR3 := hide R3
  have CT := hide (take_rd b c s p2 (dp + 1) (str [e1]) w3 R3 (by omega))
  rw [str_list, str_size, List.length_singleton] at CT
  clear hc CB hsk K3
  have hc := R3.box.c
  clear R3
  rcases head1 (rst s p2) e1 with ⟨h1, t, ht⟩ | ⟨h1, ht⟩
  · have ht2 : rst s (p2 + 1) = t := by rw [← rst_drop, ht]; rfl
    have HQ : Hid (insideM step e1 u = .inl ([], rst s (p2 + 1))) := by show _ = _; exact inside_end (by rw [HSK.out, ht, ht2])
    rw [h1] at CT
    clear h1 ht ht2
    go_wp2_with fail
    refine CT.out.mono ?_
    rintro e w4 ⟨rfl, R4, O4⟩
    have S4 := hide (HC.out.oth _ _ _ S3.out O4)
    have F4 := hide (F3.out.trans (Fr.ofOth (b := b) O4))
    have HR4 := hide R4
    clear hc
    have hc := R4.box.c
    have hf := R4.box.f
    clear R4 O4 CT
    go_wp2_with fail
    go_ret
    have R5 := HR4.out.set (dq := dp)
    have S5 := HSET.out _ _ (dp : Nat) S4.out
    exact cp_good HQ (F4.out.setCell b 2 _ (.inr (.inl rfl))) (by omega) R5 S5
  · have hn : (rst s p2).length + 1 = s.size - p2 + 1 := by rw [rst_len]
    have HQ : Hid (insideM step e1 u = itemsM step e1 (s.size - p2 + 1) [] (rst s p2)) := by show _ = _; rw [inside_more (by rw [HSK.out]; exact ht), HSK.out, hn]
    rw [h1] at CT
    clear h1 ht hn
    go_wp2_with fail
    refine CT.out.mono ?_
    rintro e w4 ⟨rfl, R4, O4⟩
    have S4 := hide (HC.out.oth _ _ _ S3.out O4)
    have F4 := hide (F3.out.trans (Fr.ofOth (b := b) O4))
    have CI := hide (items_rd b c s (dp + 1) B N1 N2 f step St St2 e1 HC.out HNE.out hs (s.size - p2 + 1) p2 [] w4 (by omega) (by simp; omega) R4 S4.out)
    clear hc R4 O4 CT
    go_wp2_with fail
    refine CI.out.mono ?_
    rintro e w5 ⟨F5, hm⟩
    have F6 := hide (F4.out.trans F5)
    cases hI : itemsM step e1 (s.size - p2 + 1) [] (rst s p2) with
    | inr y =>
      obtain ⟨m, z⟩ := y
      rw [hI] at hm
      obtain ⟨hm1, ⟨p', dq, hz, hr⟩, rfl, h2⟩ := hm
      have HQ2 : Hid (insideM step e1 u = .inr (m, rst s p')) := by show _ = _; rw [HQ.out, hI, hz]
      have dm : ((m : Int) == 0) = false := by simp; omega
      have HM1 := hide hm1
      have HR5 := hide hr
      have HS5 := hide h2
      clear hm1 hr h2 hz hI F5 CI
      go_wp2_with fail
      go_ret
      exact cp_bad HQ2 F6.out HM1.out HR5.out HS5.out
    | inl y =>
      obtain ⟨l, z⟩ := y
      rw [hI] at hm
      obtain ⟨⟨p', hp', hz, hr⟩, rfl, h2⟩ := hm
      have HQ2 : Hid (insideM step e1 u = .inl (l, rst s p')) := by show _ = _; rw [HQ.out, hI, hz]
      have HR5 := hide hr
      have HS5 := hide h2
      have hc := hr.box.c
      have hf := hr.box.f
      clear hr h2 hz hI F5 CI
      go_wp2_with fail
      go_ret
      have R6 := HR5.out.set (dq := dp)
      have S6 := HSET.out _ _ (dp : Nat) HS5.out
      exact cp_good HQ2 (F6.out.setCell b 2 _ (.inr (.inl rfl))) (by omega) R6 S6

end Go.Proofs.YtnmmhihfnphjeaaGreatDoor.B

namespace Go.Proofs.YtnmmhihfnphjeaaGreatDoor.B
set_option linter.unusedSimpArgs false
set_option linter.unusedVariables false
open Go.RowKit Go.Vr Go.Sort Go.Tx Go.Lib
open Go.Br hiding Bs
open Go.Proofs.YtnmmhihfnphjeaaGreatDoor.W (IsCur Oth Kept)
attribute [local go_sem] setCellDrewN allocDrewN

theorem LSt.fr {b c N1 N2 d : Nat} {w w' : World} {acc : List (Val d)} (h : LSt b c w N1 N2 d acc) (hf : Fr w.heap.size b c w w') : LSt b c w' N1 N2 d acc := by
  obtain ⟨h1, ⟨l1, l2, l3⟩, L, us, hB, hO, hA⟩ := h
  exact ⟨h1.of_block (hf.block N1 h1.lt (by omega) (by omega)), ⟨l1, l2, l3⟩, L, us, hB.of_block (hf.block N2 hB.lt (by omega) (by omega)), hO.fr hf (Nat.le_refl _) (by omega) (by omega), hA.mono fun x v hx => hx.fr (b := b) (c := c) (fun k hk => ⟨by omega, by omega⟩) hf⟩
theorem MSt.fr {b c N1 N2 d : Nat} {w w' : World} {acc : List (Bs × Val d)} (h : MSt b c w N1 N2 d acc) (hf : Fr w.heap.size b c w w') : MSt b c w' N1 N2 d acc := by
  obtain ⟨h1, ⟨l1, l2, l3⟩, K, L, us, hB, hK, hO, hD, hA⟩ := h
  exact ⟨h1.of_block (hf.block N1 h1.lt (by omega) (by omega)), ⟨l1, l2, l3⟩, K, L, us, hB.of_block (hf.block N2 hB.lt (by omega) (by omega)), hK.fr hf (Nat.le_refl _) (by omega) (by omega), hO.fr hf (Nat.le_refl _) (by omega) (by omega), hD, hA.mono fun x v hx => hx.fr (b := b) (c := c) (fun k hk => ⟨by omega, by omega⟩) hf⟩

theorem reads_list (d : Nat) (HV : ValueAt d) (b c : Nat) (s : ByteArray) (dp N1 N2 : Nat) (hs : s.size ≤ 80000) (hd : dp + d = 8) :
    Reads b c s dp N2 N1 N2 90 (fun _ => valM d) (fun w acc => LSt b c w N1 N2 d acc) (fun w => ∃ v : SV, Box w N2 v.cells) where
  call := fun acc p w h hst hal => list1_rd d HV b c s p dp N1 N2 acc w h (by omega) hd hst hal
  ent := ent_list
  oth := fun w w' acc h ho => h.fr (Fr.ofOth ho)
  end_ := fun w acc h => by
    obtain ⟨_, _, L, us, hB, hO, _⟩ := h
    obtain ⟨a, n, cp, rfl⟩ := hO.sl
    exact ⟨⟨4, 0, ⟨#[]⟩, none, 0, 0, a, n, cp⟩, hB⟩
  lo := fun w acc h => by
    obtain ⟨_, _, L, us, hB, _⟩ := h
    exact Nat.le_of_lt hB.lt
theorem reads_pairs (d : Nat) (HV : ValueAt d) (b c : Nat) (s : ByteArray) (dp N1 N2 : Nat) (hs : s.size ≤ 80000) (hd : dp + d = 8) :
    Reads b c s dp N2 N1 N2 91 (pairM (valM d)) (fun w acc => MSt b c w N1 N2 d acc) (fun w => ∃ v : SV, Box w N2 v.cells) where
  call := fun acc p w h hst hal => pairs1_rd d HV b c s p dp N1 N2 acc w h (by omega) hd hst hal
  ent := ent_pairs
  oth := fun w w' acc h ho => h.fr (Fr.ofOth ho)
  end_ := fun w acc h => by
    obtain ⟨_, _, K, L, us, hB, hK, hO, _⟩ := h
    obtain ⟨a, n, cp, rfl⟩ := hO.sl
    obtain ⟨a2, n2, cp2, rfl⟩ := hK.sl
    exact ⟨⟨5, 0, ⟨#[]⟩, a2, n2, cp2, a, n, cp⟩, hB⟩
  lo := fun w acc h => by
    obtain ⟨_, _, K, L, us, hB, _⟩ := h
    exact Nat.le_of_lt hB.lt

theorem QRow.own {α : Type} {E : El α} {w : World} {B : Nat} {Q : Nat → Prop} {a : Option Addr} {n c : Nat} {l : List α} (h : EOwn E w B (.slice a n c) l) (hQ : ∀ k, B ≤ k → Q k) : QRow E w Q a n c l := by
  obtain ⟨ad, cap, e, h1, h2, h3⟩ := h.any
  injection e with e1 e2 e3
  subst e1 e2 e3
  exact ⟨h3, h1, h2, fun x e _ => hQ _ ((h.low x.block (by rw [e]; rfl)).1)⟩

theorem bareM_list_eq (d : Nat) (t : Bs) : bareM (d + 1) (91 :: t) = match insideM (fun _ => valM d) 93 t with | .inl (l, q) => .inl (Sum.inr (Sum.inl l), q) | .inr e => .inr e := by
  have h : (insideM (fun _ => valM d) 93 t) = insideM (fun _ => around (bareM d)) 93 t := rfl
  rw [h]
  conv => lhs; unfold bareM
  rw [if_pos (by rfl), List.tail_cons]
  rfl
theorem bareM_map_eq (d : Nat) (t : Bs) : bareM (d + 1) (123 :: t) = match insideM (pairM (valM d)) 125 t with | .inl (l, q) => .inl (Sum.inr (Sum.inr l), q) | .inr e => .inr e := by
  have h : (insideM (pairM (valM d)) 125 t) = insideM (pairM (around (bareM d))) 125 t := rfl
  rw [h]
  conv => lhs; unfold bareM
  rw [if_neg (by simp), if_pos (by rfl), List.tail_cons]
  rfl

theorem box_set5_block (w : World) (N : Nat) (x0 x1 x2 x3 x4 : Value) {k : Nat} (hk : k ≠ N) :
    (((((w.setCell ⟨N, 0, none⟩ x0).setCell ⟨N, 1, none⟩ x1).setCell ⟨N, 2, none⟩ x2).setCell ⟨N, 3, none⟩ x3).setCell ⟨N, 4, none⟩ x4).heap[k]? = w.heap[k]? :=
  (Below.heap_setCell _ _ _ _ hk).trans ((Below.heap_setCell _ _ _ _ hk).trans ((Below.heap_setCell _ _ _ _ hk).trans ((Below.heap_setCell _ _ _ _ hk).trans (Below.heap_setCell _ _ _ _ hk))))

set_option maxHeartbeats 4000000 in
set_option maxRecDepth 100000 in
theorem list_rd (d : Nat) (HV : ValueAt d) (b c : Nat) (s : ByteArray) (p dp : Nat) (u : Bs) (w : World) (h : Rd w b c s p dp) (hs : s.size ≤ 80000) (hd : dp + (d + 1) = 8) (hu : rst s p = 91 :: u) :
    Calls Tryz.prog 75 #[.pointer (some ⟨b, 0, none⟩)] w (VPost b c s p dp (d + 1) w (bareM (d + 1) (rst s p))) := by
  obtain ⟨hbl, hcl⟩ := h.lt
  have w3b : Below w.heap.size w (((w.alloc (.cells #[.pointer (some ⟨b, 0, none⟩)] 87)).alloc (.cells #[.int .i64 0, .int .i64 0, .string ⟨#[]⟩, .slice none 0 0, .slice none 0 0] 28)).alloc (.cells #[.int .i64 4, .int .i64 0, .string ⟨#[]⟩, .slice none 0 0, .slice none 0 0] 28)) := (by repeat (first | with_reducible assumption | with_reducible exact Below.refl _ _ | with_reducible refine Below.setCell ?_ (by first | exact Nat.le_refl _ | (simp; done) | (simp; omega)) _ | with_reducible refine bal ?_ _ | with_reducible refine Below.alloc ?_ (by first | exact Nat.le_refl _ | (simp; done) | (simp; omega)) _ | with_reducible refine Below.drew ?_))
  have X1 := ((Box.new w #[.pointer (some ⟨b, 0, none⟩)] 87).alloc (.cells #[.int .i64 0, .int .i64 0, .string ⟨#[]⟩, .slice none 0 0, .slice none 0 0] 28)).alloc (.cells #[.int .i64 4, .int .i64 0, .string ⟨#[]⟩, .slice none 0 0, .slice none 0 0] 28)
  have X2 := (Box.new (w.alloc (.cells #[.pointer (some ⟨b, 0, none⟩)] 87)) #[.int .i64 0, .int .i64 0, .string ⟨#[]⟩, .slice none 0 0, .slice none 0 0] 28).alloc (.cells #[.int .i64 4, .int .i64 0, .string ⟨#[]⟩, .slice none 0 0, .slice none 0 0] 28)
  have X3 := Box.new ((w.alloc (.cells #[.pointer (some ⟨b, 0, none⟩)] 87)).alloc (.cells #[.int .i64 0, .int .i64 0, .string ⟨#[]⟩, .slice none 0 0, .slice none 0 0] 28)) #[.int .i64 4, .int .i64 0, .string ⟨#[]⟩, .slice none 0 0, .slice none 0 0] 28
  have e1 : (w.alloc (.cells #[.pointer (some ⟨b, 0, none⟩)] 87)).heap.size = w.heap.size + 1 := by simp
  have e2 : ((w.alloc (.cells #[.pointer (some ⟨b, 0, none⟩)] 87)).alloc (.cells #[.int .i64 0, .int .i64 0, .string ⟨#[]⟩, .slice none 0 0, .slice none 0 0] 28)).heap.size = w.heap.size + 1 + 1 := by simp
  rw [e1] at X2
  rw [e2] at X3
  have R3 := h.below w3b
  have HX1 := hide X1
  have HX2 := hide X2
  have HX3 := hide X3
  have HB3 := hide w3b
  have HQ0 := hide (bareM_list_eq d u)
  have HU := hide hu
  have hst : LSt b c (((w.alloc (.cells #[.pointer (some ⟨b, 0, none⟩)] 87)).alloc (.cells #[.int .i64 0, .int .i64 0, .string ⟨#[]⟩, .slice none 0 0, .slice none 0 0] 28)).alloc (.cells #[.int .i64 4, .int .i64 0, .string ⟨#[]⟩, .slice none 0 0, .slice none 0 0] 28)) w.heap.size (w.heap.size + 1 + 1) d [] := ⟨HX1.out, ⟨hbl, hcl, by omega⟩, _, [], HX3.out, EOwn.nil _ _, trivial⟩
  have CI := hide (inside_rd b c s dp (w.heap.size + 1 + 1) w.heap.size (w.heap.size + 1 + 1) 90 (fun _ => valM d) (fun wx acc => LSt b c wx w.heap.size (w.heap.size + 1 + 1) d acc) (fun wx => ∃ v : SV, Box wx (w.heap.size + 1 + 1) v.cells) 91 93 (reads_list d HV b c s (dp + 1) _ _ hs (by omega)) (by decide) hs p u _ R3 (by omega) hu hst (fun w' l k h => h.fr ((Fr.refl _ _ _ _).setCell b 2 _ (.inr (.inl rfl)))) (fun w w' l h hk => h.fr (Fr.ofKept hk (Nat.le_refl _))))
  have hsz := w3b.size
  have hsz2 : (((w.alloc (.cells #[.pointer (some ⟨b, 0, none⟩)] 87)).alloc (.cells #[.int .i64 0, .int .i64 0, .string ⟨#[]⟩, .slice none 0 0, .slice none 0 0] 28)).alloc (.cells #[.int .i64 4, .int .i64 0, .string ⟨#[]⟩, .slice none 0 0, .slice none 0 0] 28)).heap.size = w.heap.size + 1 + 1 + 1 := by simp
  have HSZ := hide hsz2
  clear w3b X1 X2 X3 e1 e2 h hu hst R3 hsz2
  generalize hN : w.heap.size = N at *
  have HN := hide hN
  go_enter Tryz.func75, Tryz.ntmps75
  go_wp2_with fail
  refine CI.out.mono ?_
  rintro e w4 ⟨F4, hm⟩
  have X4 := HX2.out.of_block (F4.block (N + 1) (by omega) (by omega) (by omega))
  have FF : Hid (Fr N b c w w4) := (Fr.ofBelow HB3.out).trans (F4.mono (by omega))
  have xc := X4.c
  have xf := X4.f
  have HX4 := hide X4
  cases hI : insideM (fun _ => valM d) 93 u with
  | inr y =>
    obtain ⟨m, z⟩ := y
    rw [hI] at hm
    obtain ⟨hm1, ⟨p', dq, hz, hr⟩, rfl, v, hv⟩ := hm
    have HQ : Hid (bareM (d + 1) (rst s p) = .inr (m, z)) := by show _ = _; rw [HU.out, HQ0.out, hI]
    have vc := hv.c
    have HM1 := hide hm1
    have HR4 := hide hr
    have HZ := hide hz
    clear hm1 hr hz hI F4 CI X4 hsz
    go_wp2_with fail
    obtain ⟨xs, xb⟩ := box_set5 HX4.out (.int .i64 v.k) (.int .i64 v.n) (.string v.s) (.slice v.ka v.kn v.kc) (.slice v.la v.ln v.lc)
    have xd := xs.c
    exact bodyPost_ret (v := .tuple #[.agg #[.int .i64 v.k, .int .i64 v.n, .string v.s, .slice v.ka v.kn v.kc, .slice v.la v.ln v.lc], .int .i64 m]) (by simp [results, Tryz.results75, go_sem, *]) rfl (by unfold VPost; rw [HQ.out, HN.out]; exact ⟨FF.out.trans (Fr.ofBelow (xb N (by omega))), HM1.out, ⟨p', dq, HZ.out, HR4.out.under (xb (N + 1) (by omega)) (by omega) (by omega)⟩, v, rfl⟩)
  | inl y =>
    obtain ⟨l, z⟩ := y
    rw [hI] at hm
    obtain ⟨⟨p', hp', hz, hr⟩, rfl, -, -, L, us, hB, hO, hA⟩ := hm
    obtain ⟨la, ln, lc, rfl⟩ := hO.sl
    have HQ : Hid (bareM (d + 1) (rst s p) = .inl (Sum.inr (Sum.inl l), z)) := by show _ = _; rw [HU.out, HQ0.out, hI]
    have hV : VH w4 (fun k => N + 1 + 1 < k) (d + 1) (Sum.inr (Sum.inl l)) ⟨4, 0, ⟨#[]⟩, none, 0, 0, la, ln, lc⟩ := ⟨⟨rfl, rfl, rfl, rfl, rfl, rfl⟩, us, QRow.own hO (fun k hk => by omega), hA.mono fun x v hx => hx.mono fun k hk => hk.1⟩
    have vc := hB.c
    have HV4 := hide hV
    have HR4 := hide hr
    have HZ := hide hz
    have HP := hide hp'
    clear hr hz hI F4 CI X4 hsz hB hO hA hV hp'
    go_wp2_with fail
    obtain ⟨xs, xb⟩ := box_set5 HX4.out (.int .i64 4) (.int .i64 0) (.string ⟨#[]⟩) (.slice none 0 0) (.slice la ln lc)
    have xd := xs.c
    exact bodyPost_ret (v := .tuple #[.agg #[.int .i64 4, .int .i64 0, .string ⟨#[]⟩, .slice none 0 0, .slice la ln lc], .int .i64 0]) (by simp [results, Tryz.results75, go_sem, *]) rfl (by unfold VPost; rw [HQ.out, HN.out]; exact ⟨FF.out.trans (Fr.ofBelow (xb N (by omega))), ⟨p', HP.out, HZ.out, HR4.out.under (xb (N + 1) (by omega)) (by omega) (by omega)⟩, ⟨4, 0, ⟨#[]⟩, none, 0, 0, la, ln, lc⟩, rfl, HV4.out.keep (fun k hk hlt => box_set5_block _ _ _ _ _ _ _ (by omega)) (fun k hk _ => by omega)⟩)

set_option maxHeartbeats 4000000 in
set_option maxRecDepth 100000 in
theorem pairs_rd (d : Nat) (HV : ValueAt d) (b c : Nat) (s : ByteArray) (p dp : Nat) (u : Bs) (w : World) (h : Rd w b c s p dp) (hs : s.size ≤ 80000) (hd : dp + (d + 1) = 8) (hu : rst s p = 123 :: u) :
    Calls Tryz.prog 76 #[.pointer (some ⟨b, 0, none⟩)] w (VPost b c s p dp (d + 1) w (bareM (d + 1) (rst s p))) := by
  obtain ⟨hbl, hcl⟩ := h.lt
  have w3b : Below w.heap.size w (((w.alloc (.cells #[.pointer (some ⟨b, 0, none⟩)] 87)).alloc (.cells #[.int .i64 0, .int .i64 0, .string ⟨#[]⟩, .slice none 0 0, .slice none 0 0] 28)).alloc (.cells #[.int .i64 5, .int .i64 0, .string ⟨#[]⟩, .slice none 0 0, .slice none 0 0] 28)) := (by repeat (first | with_reducible assumption | with_reducible exact Below.refl _ _ | with_reducible refine Below.setCell ?_ (by first | exact Nat.le_refl _ | (simp; done) | (simp; omega)) _ | with_reducible refine bal ?_ _ | with_reducible refine Below.alloc ?_ (by first | exact Nat.le_refl _ | (simp; done) | (simp; omega)) _ | with_reducible refine Below.drew ?_))
  have X1 := ((Box.new w #[.pointer (some ⟨b, 0, none⟩)] 87).alloc (.cells #[.int .i64 0, .int .i64 0, .string ⟨#[]⟩, .slice none 0 0, .slice none 0 0] 28)).alloc (.cells #[.int .i64 5, .int .i64 0, .string ⟨#[]⟩, .slice none 0 0, .slice none 0 0] 28)
  have X2 := (Box.new (w.alloc (.cells #[.pointer (some ⟨b, 0, none⟩)] 87)) #[.int .i64 0, .int .i64 0, .string ⟨#[]⟩, .slice none 0 0, .slice none 0 0] 28).alloc (.cells #[.int .i64 5, .int .i64 0, .string ⟨#[]⟩, .slice none 0 0, .slice none 0 0] 28)
  have X3 := Box.new ((w.alloc (.cells #[.pointer (some ⟨b, 0, none⟩)] 87)).alloc (.cells #[.int .i64 0, .int .i64 0, .string ⟨#[]⟩, .slice none 0 0, .slice none 0 0] 28)) #[.int .i64 5, .int .i64 0, .string ⟨#[]⟩, .slice none 0 0, .slice none 0 0] 28
  have e1 : (w.alloc (.cells #[.pointer (some ⟨b, 0, none⟩)] 87)).heap.size = w.heap.size + 1 := by simp
  have e2 : ((w.alloc (.cells #[.pointer (some ⟨b, 0, none⟩)] 87)).alloc (.cells #[.int .i64 0, .int .i64 0, .string ⟨#[]⟩, .slice none 0 0, .slice none 0 0] 28)).heap.size = w.heap.size + 1 + 1 := by simp
  rw [e1] at X2
  rw [e2] at X3
  have R3 := h.below w3b
  have HX1 := hide X1
  have HX2 := hide X2
  have HX3 := hide X3
  have HB3 := hide w3b
  have HQ0 := hide (bareM_map_eq d u)
  have HU := hide hu
  have hst : MSt b c (((w.alloc (.cells #[.pointer (some ⟨b, 0, none⟩)] 87)).alloc (.cells #[.int .i64 0, .int .i64 0, .string ⟨#[]⟩, .slice none 0 0, .slice none 0 0] 28)).alloc (.cells #[.int .i64 5, .int .i64 0, .string ⟨#[]⟩, .slice none 0 0, .slice none 0 0] 28)) w.heap.size (w.heap.size + 1 + 1) d [] := ⟨HX1.out, ⟨hbl, hcl, by omega⟩, _, _, [], HX3.out, EOwn.nil _ _, EOwn.nil _ _, (fun k e => nomatch e), trivial⟩
  have CI := hide (inside_rd b c s dp (w.heap.size + 1 + 1) w.heap.size (w.heap.size + 1 + 1) 91 (pairM (valM d)) (fun wx acc => MSt b c wx w.heap.size (w.heap.size + 1 + 1) d acc) (fun wx => ∃ v : SV, Box wx (w.heap.size + 1 + 1) v.cells) 123 125 (reads_pairs d HV b c s (dp + 1) _ _ hs (by omega)) (by decide) hs p u _ R3 (by omega) hu hst (fun w' l k h => h.fr ((Fr.refl _ _ _ _).setCell b 2 _ (.inr (.inl rfl)))) (fun w w' l h hk => h.fr (Fr.ofKept hk (Nat.le_refl _))))
  have hsz := w3b.size
  have hsz2 : (((w.alloc (.cells #[.pointer (some ⟨b, 0, none⟩)] 87)).alloc (.cells #[.int .i64 0, .int .i64 0, .string ⟨#[]⟩, .slice none 0 0, .slice none 0 0] 28)).alloc (.cells #[.int .i64 5, .int .i64 0, .string ⟨#[]⟩, .slice none 0 0, .slice none 0 0] 28)).heap.size = w.heap.size + 1 + 1 + 1 := by simp
  have HSZ := hide hsz2
  clear w3b X1 X2 X3 e1 e2 h hu hst R3 hsz2
  generalize hN : w.heap.size = N at *
  have HN := hide hN
  go_enter Tryz.func76, Tryz.ntmps76
  go_wp2_with fail
  refine CI.out.mono ?_
  rintro e w4 ⟨F4, hm⟩
  have X4 := HX2.out.of_block (F4.block (N + 1) (by omega) (by omega) (by omega))
  have FF : Hid (Fr N b c w w4) := (Fr.ofBelow HB3.out).trans (F4.mono (by omega))
  have xc := X4.c
  have xf := X4.f
  have HX4 := hide X4
  cases hI : insideM (pairM (valM d)) 125 u with
  | inr y =>
    obtain ⟨m, z⟩ := y
    rw [hI] at hm
    obtain ⟨hm1, ⟨p', dq, hz, hr⟩, rfl, v, hv⟩ := hm
    have HQ : Hid (bareM (d + 1) (rst s p) = .inr (m, z)) := by show _ = _; rw [HU.out, HQ0.out, hI]
    have vc := hv.c
    have HM1 := hide hm1
    have HR4 := hide hr
    have HZ := hide hz
    clear hm1 hr hz hI F4 CI X4 hsz
    go_wp2_with fail
    obtain ⟨xs, xb⟩ := box_set5 HX4.out (.int .i64 v.k) (.int .i64 v.n) (.string v.s) (.slice v.ka v.kn v.kc) (.slice v.la v.ln v.lc)
    have xd := xs.c
    exact bodyPost_ret (v := .tuple #[.agg #[.int .i64 v.k, .int .i64 v.n, .string v.s, .slice v.ka v.kn v.kc, .slice v.la v.ln v.lc], .int .i64 m]) (by simp [results, Tryz.results76, go_sem, *]) rfl (by unfold VPost; rw [HQ.out, HN.out]; exact ⟨FF.out.trans (Fr.ofBelow (xb N (by omega))), HM1.out, ⟨p', dq, HZ.out, HR4.out.under (xb (N + 1) (by omega)) (by omega) (by omega)⟩, v, rfl⟩)
  | inl y =>
    obtain ⟨l, z⟩ := y
    rw [hI] at hm
    obtain ⟨⟨p', hp', hz, hr⟩, rfl, -, -, K, L, us, hB, hK, hO, hD, hA⟩ := hm
    obtain ⟨la, ln, lc, rfl⟩ := hO.sl
    obtain ⟨ka, kn, kc, rfl⟩ := hK.sl
    have HQ : Hid (bareM (d + 1) (rst s p) = .inl (Sum.inr (Sum.inr l), z)) := by show _ = _; rw [HU.out, HQ0.out, hI]
    have hV : VH w4 (fun k => N + 1 + 1 < k) (d + 1) (Sum.inr (Sum.inr l)) ⟨5, 0, ⟨#[]⟩, ka, kn, kc, la, ln, lc⟩ := ⟨⟨rfl, rfl, rfl⟩, QRow.own hK (fun k hk => by omega), us, QRow.own hO (fun k hk => by omega), hA.mono fun x v hx => hx.mono fun k hk => hk.1⟩
    have vc := hB.c
    have HV4 := hide hV
    have HR4 := hide hr
    have HZ := hide hz
    have HP := hide hp'
    clear hr hz hI F4 CI X4 hsz hB hK hO hD hA hV hp'
    go_wp2_with fail
    obtain ⟨xs, xb⟩ := box_set5 HX4.out (.int .i64 5) (.int .i64 0) (.string ⟨#[]⟩) (.slice ka kn kc) (.slice la ln lc)
    have xd := xs.c
    exact bodyPost_ret (v := .tuple #[.agg #[.int .i64 5, .int .i64 0, .string ⟨#[]⟩, .slice ka kn kc, .slice la ln lc], .int .i64 0]) (by simp [results, Tryz.results76, go_sem, *]) rfl (by unfold VPost; rw [HQ.out, HN.out]; exact ⟨FF.out.trans (Fr.ofBelow (xb N (by omega))), ⟨p', HP.out, HZ.out, HR4.out.under (xb (N + 1) (by omega)) (by omega) (by omega)⟩, ⟨5, 0, ⟨#[]⟩, ka, kn, kc, la, ln, lc⟩, rfl, HV4.out.keep (fun k hk hlt => box_set5_block _ _ _ _ _ _ _ (by omega)) (fun k hk _ => by omega)⟩)

end Go.Proofs.YtnmmhihfnphjeaaGreatDoor.B

/-
  Contract of the reference's one.
  A part, as the reference reads it: states between the words.
-/
import Derived.Test.YthihnpjbdjmbhaaGreatDoorG36
import Derived.Test.YthihnpjbdjmbhaaGreatDoorG37
import Derived.BigQuiet
import Derived.Test.YthihnpjbdjmbhaaGreatDoorG30

namespace Go.Proofs.YthihnpjbdjmbhaaGreatDoor
set_option linter.unusedSimpArgs false
set_option linter.unusedVariables false
open Go.RowKit Go.Vr Go.Sort Go.Tx Go.Lib
attribute [local go_sem] setCellDrewN allocDrewN

/-- What one answers. -/
def OneR (W w' : World) (o : Option (List Sp.S)) (pl : Bool) (e : Ending) : Prop := match o with
  | some l => ∃ ad n cp, e = .returned (.tuple #[.slice ad n cp, .bool pl, .bool true]) ∧ SR w' ad n l 2 ∧ RowKit.Below W.heap.size W w'
  | none => e = .returned (.tuple #[.slice none 0 0, .bool false, .bool false]) ∧ RowKit.Below W.heap.size W w'
def sigA : Array Value := #[.string ⟨#[33, 61]⟩, .string ⟨#[62, 61]⟩, .string ⟨#[60, 61]⟩, .string ⟨#[61]⟩, .string ⟨#[62]⟩, .string ⟨#[60]⟩, .string ⟨#[94]⟩, .string ⟨#[126]⟩, .string ⟨#[]⟩]
theorem sigA_at (k : Nat) (hk : k < 9) : sigA[k]? = some (.string (str (Sp.sigs.getD k []))) := by
  match k, hk with
  | 0, _ => rfl
  | 1, _ => rfl
  | 2, _ => rfl
  | 3, _ => rfl
  | 4, _ => rfl
  | 5, _ => rfl
  | 6, _ => rfl
  | 7, _ => rfl
  | 8, _ => rfl
theorem sig_size (k : Nat) (hk : k < 9) : (str (Sp.sigs.getD k [])).size ≤ 2 ∧ (str (Sp.sigs.getD k [])).size = (Sp.sigs.getD k []).length ∧ ((str (Sp.sigs.getD k [])).toList.isEmpty = true ↔ k = 8) := by
  match k, hk with
  | 0, _ => decide +kernel
  | 1, _ => decide +kernel
  | 2, _ => decide +kernel
  | 3, _ => decide +kernel
  | 4, _ => decide +kernel
  | 5, _ => decide +kernel
  | 6, _ => decide +kernel
  | 7, _ => decide +kernel
  | 8, _ => decide +kernel
theorem pref_is (s : ByteArray) (k : Nat) (hk : k < 9) : Sp.pref (Sp.sigs.getD k []) s.data.toList = ((s.extract 0 (str (Sp.sigs.getD k [])).size).toList == (str (Sp.sigs.getD k [])).toList) := by
  unfold Sp.pref
  rw [toList_data, toList_data, ext_list, List.drop_zero, Nat.sub_zero, (sig_size k hk).2.1]
  rfl
theorem pref_short (s : ByteArray) (k : Nat) (hk : k < 9) (h : s.size < (str (Sp.sigs.getD k [])).size) : Sp.pref (Sp.sigs.getD k []) s.data.toList = false := by
  unfold Sp.pref
  rw [beq_eq_false_iff_ne]
  intro e
  have e := congrArg List.length e
  rw [List.length_take, len_eq] at e
  have := (sig_size k hk).2.1
  omega
theorem wild_plain {s : Bs} {l : List Sp.S} (h : Sp.wildM s = some l) : parse s = none := by
  cases e : parse s with
  | none => rfl
  | some v =>
    obtain ⟨ok, ht⟩ := parse_some e
    have := Sp.wild_txt [] ok
    rw [List.nil_append, ht, h] at this
    exact nomatch this

set_option maxHeartbeats 8000000 in
set_option maxRecDepth 100000 in
theorem rone_any (s : ByteArray) (W : World) (hs : s.size ≤ 4000) :
    Calls Tryz.prog 47 #[.string s] W fun e w' => OneR W w' (Sp.meantM s.data.toList) (parse s.data.toList).isSome e := by
  by_cases hst : s.data.toList = [42]
  · have hx : (s.toList == [42]) = true := by rw [toList_data, hst]; rfl
    have HM : Hid (Sp.meantM s.data.toList = some (Sp.notL [])) := by show _ = _; rw [hst]; rfl
    have HP : Hid ((parse s.data.toList).isSome = false) := by show _ = _; rw [hst]; decide +kernel
    clear hst
    go_enter Tryz.func47, Tryz.ntmps47
    go_wp2_with fail
    refine (rnot_sl _ _ _ _ [] 0 (SR.nil _ 0) (by omega)).mono ?_
    rintro e w1 ⟨a1, n1, c1, rfl, h1, b1⟩
    have H1 := hide h1
    clear h1
    go_wp2_with fail
    refine bodyPost_ret (v := .tuple #[.slice a1 n1 c1, .bool false, .bool true]) (by simp [results, Tryz.results47, go_sem]) rfl ?_
    rw [HM.out, HP.out]
    exact ⟨a1, n1, c1, rfl, ⟨H1.out.r, H1.out.row, Nat.le_trans H1.out.le (by omega)⟩, b1⟩
  have hx : (s.toList == [42]) = false := by rw [toList_data]; simpa using hst
  have CW := hide (rwild_any s W hs)
  rw [← Sp.wild_ref] at CW
  have HST := hide hst
  have HWP : Hid (∀ l, Sp.wildM s.data.toList = some l → parse s.data.toList = none) := fun l h => wild_plain h
  have HOH : Hid (Sp.wildM s.data.toList = none → ∀ i, i < 9 → Sp.pref (Sp.sigs.getD i []) s.data.toList = true → (∀ j, j < i → Sp.pref (Sp.sigs.getD j []) s.data.toList = false) → Sp.meantM s.data.toList = Sp.meant2 (Sp.sigs.getD i []) (parse (s.data.toList.drop (Sp.sigs.getD i []).length))) := fun h i h1 h2 h3 => Sp.one_hit i h1 h2 h3 HST.out h
  have HMW : Hid (∀ l, Sp.wildM s.data.toList = some l → Sp.meantM s.data.toList = some l) := fun l h => by unfold Sp.meantM; rw [if_neg HST.out, h]
  have HML : Hid (∀ l, Sp.meantM s.data.toList = some l → l.length ≤ 2) := fun l h => meant_len h
  have HMO : Hid (∀ l, Sp.meantM s.data.toList = some l → Sp.okL l ∧ Sp.Normed l) := fun l h => meantM_ok h
  clear hst
  generalize Sp.meantM s.data.toList = mo at *
  generalize Sp.wildM s.data.toList = wo at *
  go_enter Tryz.func47, Tryz.ntmps47
  go_wp2_with fail
  refine CW.out.mono ?_
  rintro e w1 ⟨q, rfl, HQ, b1⟩
  have B1 := hide b1
  clear CW b1
  cases wo with
  | some l =>
    obtain ⟨hq1, hq2⟩ := HQ.out l rfl
    have HM := hide (HMW.out l rfl)
    have HP := hide (HWP.out l rfl)
    have hl2 := HML.out l HM.out
    have hok := HMO.out l HM.out
    have CN : Hid (∀ W' ad cp, ERow EP W' ad 1 [q] → Calls Tryz.prog 48 #[.slice ad 1 cp] W' fun e w' => ∃ v', e = .returned v' ∧ EOwn ES w' W'.heap.size v' l ∧ RowKit.Below W'.heap.size W' w') := fun W' ad cp h => by
      have := rnorm_any ad 1 cp [q] W' h (by omega) (fun r hr => by rw [List.mem_singleton.1 hr]; exact hq1)
      rw [show [q].map pS = [pS q] from rfl, hq2] at this
      exact this
    have HR : Hid (Sp.Row l ∧ l.length ≤ 2) := ⟨⟨hok.2, hok.1⟩, hl2⟩
    clear hq1 hq2 hl2 hok HQ HML HMO HMW HWP HOH
    go_wp2_with fail
    refine (CN.out _ _ _ (ERow.newP _ q _ _ (by simp))).mono ?_
    rintro e w2 ⟨v2, rfl, o2, b2⟩
    obtain ⟨a2, n2, c2, rfl, h2⟩ := SR.of (B := 2) o2 HR.out.1 HR.out.2
    have hb2 : RowKit.Below w1.heap.size w1 w2 := RowKit.Below.trans (((RowKit.Below.refl w1.heap.size w1).alloc (Nat.le_refl _) _).alloc (by simp) _) (b2.mono (by simp; omega))
    have H2 := hide h2
    clear CN o2 h2 b2
    go_wp2_with fail
    refine bodyPost_ret (v := .tuple #[.slice a2 n2 c2, .bool false, .bool true]) (by simp [results, Tryz.results47, go_sem]) rfl ?_
    rw [HM.out, HP.out]
    exact ⟨a2, n2, c2, rfl, H2.out, step B1.out hb2⟩
  | none =>
    have HO2 := hide (HOH.out rfl)
    clear HMW HWP HQ HOH
    go_wp2_with fail
    have X3 := hide (Box.new (w1.alloc (.cells #[.int .i64 q.a, .int .i64 q.b, .int .i64 q.c, .string q.p, .int .i64 q.a', .int .i64 q.b', .int .i64 q.c', .string q.p', .bool q.x, .bool q.y, .bool q.z] 44)) sigA 9)
    have z3 : (w1.alloc (.cells #[.int .i64 q.a, .int .i64 q.b, .int .i64 q.c, .string q.p, .int .i64 q.a', .int .i64 q.b', .int .i64 q.c', .string q.p', .bool q.x, .bool q.y, .bool q.z] 44)).heap.size = w1.heap.size + 1 := by simp
    rw [z3] at X3
    have B3 := hide (step B1.out (((RowKit.Below.refl w1.heap.size w1).alloc (Nat.le_refl _) (.cells #[.int .i64 q.a, .int .i64 q.b, .int .i64 q.c, .string q.p, .int .i64 q.a', .int .i64 q.b', .int .i64 q.c', .string q.p', .bool q.x, .bool q.y, .bool q.z] 44)).alloc (by simp) (.cells sigA 9)))
    have hr : (w1.alloc (.cells #[.int .i64 q.a, .int .i64 q.b, .int .i64 q.c, .string q.p, .int .i64 q.a', .int .i64 q.b', .int .i64 q.c', .string q.p', .bool q.x, .bool q.y, .bool q.z] 44)).alloc (.cells sigA 9) = (w1.alloc (.cells #[.int .i64 q.a, .int .i64 q.b, .int .i64 q.c, .string q.p, .int .i64 q.a', .int .i64 q.b', .int .i64 q.c', .string q.p', .bool q.x, .bool q.y, .bool q.z] 44)).alloc (.cells #[.string ⟨#[33, 61]⟩, .string ⟨#[62, 61]⟩, .string ⟨#[60, 61]⟩, .string ⟨#[61]⟩, .string ⟨#[62]⟩, .string ⟨#[60]⟩, .string ⟨#[94]⟩, .string ⟨#[126]⟩, .string ⟨#[]⟩] 9) := rfl
    rw [hr] at X3 B3
    generalize (w1.alloc (.cells #[.int .i64 q.a, .int .i64 q.b, .int .i64 q.c, .string q.p, .int .i64 q.a', .int .i64 q.b', .int .i64 q.c', .string q.p', .bool q.x, .bool q.y, .bool q.z] 44)).alloc (.cells #[.string ⟨#[33, 61]⟩, .string ⟨#[62, 61]⟩, .string ⟨#[60, 61]⟩, .string ⟨#[61]⟩, .string ⟨#[62]⟩, .string ⟨#[60]⟩, .string ⟨#[94]⟩, .string ⟨#[126]⟩, .string ⟨#[]⟩] 9) = W3 at *
    clear z3 hr
    go_loopw [8] (fun i wr => ∃ k : Nat, k ≤ 9 ∧ i = .int .i64 k ∧ Hid (Box wr (w1.heap.size + 1) sigA) ∧ Hid (RowKit.Below W.heap.size W wr) ∧ Hid (∀ j, j < k → Sp.pref (Sp.sigs.getD j []) s.data.toList = false)) (fun i _ => 9 - (RowKit.intOf i).toNat)
    case atStart => exact ⟨0, by omega, rfl, X3, B3, hide (fun j h => by omega)⟩
    case round =>
      clear X3 B3
      obtain ⟨k, hk, rfl, X, HB, HN⟩ := hrel
      by_cases hlt : k < 9
      · have cN : wr.cell? ⟨w1.heap.size + 1, k, none⟩ = some (.string (str (Sp.sigs.getD k []))) := by rw [X.out.c]; exact sigA_at k hlt
        have CNl : Hid (∀ w', RowKit.Below wr.heap.size wr w' → w'.cell? ⟨w1.heap.size + 1, k, none⟩ = some (.string (str (Sp.sigs.getD k [])))) := fun w' h => by rw [(X.out.later h).c]; exact sigA_at k hlt
        have HPI := hide (pref_is s k hlt)
        have HPS := hide (pref_short s k hlt)
        obtain ⟨gs, gl, ge⟩ := sig_size k hlt
        have HGL := hide gl
        have HGE := hide ge
        have HHIT := hide (HO2.out k hlt)
        have HHD := hide (Sp.sig_head (s := s.data.toList) k)
        have CT : Hid (∀ (v : V) W', v.ok = true → Calls Tryz.prog 71 #[.string (str (Sp.sigs.getD k [])), ver v.a v.b v.c v.p] W' fun e w' => ToldR W' w' (Sp.sigs.getD k []) v e) := fun v W' h => rtell_any k hlt v W' h
        have HNX : Hid (Sp.pref (Sp.sigs.getD k []) s.data.toList = false → ∀ j, j < k + 1 → Sp.pref (Sp.sigs.getD j []) s.data.toList = false) := fun h j hj => by
          rcases Nat.lt_or_eq_of_le (Nat.le_of_lt_succ hj) with h2 | h2
          · exact HN.out j h2
          · rw [h2]; exact h
        have HDR : Hid ((s.extract (str (Sp.sigs.getD k [])).size s.size).data.toList = s.data.toList.drop (Sp.sigs.getD k []).length) := by show _ = _; rw [ext2, gl]
        clear gl ge
        generalize str (Sp.sigs.getD k []) = g at *
        have i1 : (0 : Int) ≤ (k : Int) := by omega
        have i2 : (k : Int) < 9 := by omega
        have d9 : decide ((k : Int) < 9) = true := by simp; omega
        by_cases hl : s.size < g.size
        · have HN2 := hide (HNX.out (HPS.out hl))
          have l1 : (s.size : Int) < (g.size : Int) := by omega
          clear HPI HPS HHIT HHD CT HNX HDR hl CNl
          go_wp2_with fail
          go_quiet (fail)
          have b1 := belDrewN wr nq
          have X2 := hide (X.out.later b1)
          have B2 := hide (step HB.out b1)
          clear b1 cN
          go_wp2_with fail
          go_roundw
          case rel => exact ⟨k + 1, by omega, by go_num, X2, B2, HN2⟩
          case measure => simp [RowKit.intOf]; omega
        · have l1 : ¬ (s.size : Int) < (g.size : Int) := by omega
          have l2 : (0 : Int) ≤ (g.size : Int) := by omega
          have l3 : (g.size : Int) ≤ (s.size : Int) := by omega
          have l4 : decide ((s.size : Int) < (g.size : Int)) = false := decide_eq_false l1
          have l5 : decide (s.size < g.size) = false := decide_eq_false hl
          have l6 : g.size ≤ s.size := by omega
          cases hp : ((s.extract 0 g.size).toList == g.toList) with
          | false =>
            have HN2 := hide (HNX.out (by rw [HPI.out, hp]))
            have hp2 : ¬ (s.extract 0 g.size).toList = g.toList := by simpa using hp
            have hp3 : (!(s.extract 0 g.size).toList == g.toList) = true := by rw [hp]; rfl
            clear HPI HPS HHIT HHD CT HNX HDR hl CNl
            go_wp2_with fail
            refine wp_region_quiet_lit (by kernel_rfl) (by kernel_rfl) ?_
            go_big_quiet_step (fail)
            go_big_quiet_step (fail)
            go_big_quiet_step (fail)
            quiet_step (fail)
            go_big_quiet_step (fail)
            go_big_quiet_step (fail)
            go_big_quiet_step (fail)
            go_big_quiet_step (fail)
            go_big_quiet_step (fail)
            go_big_quiet_step (fail)
            go_big_quiet_step (fail)
            go_big_quiet_step (fail)
            quiet_step (fail)
            quiet_step (fail)
            refine wpQuiet_nil ?_
            intro _ hw'
            obtain ⟨nq, hw''⟩ := hw'
            subst hw''
            have b1 := belDrewN wr nq
            have X2 := hide (X.out.later b1)
            have B2 := hide (step HB.out b1)
            clear b1 cN
            go_wp2_with fail
            go_roundw
            case rel => exact ⟨k + 1, by omega, by go_num, X2, B2, HN2⟩
            case measure => simp [RowKit.intOf]; omega
          | true =>
            have HPT := hide (HPI.out.trans hp)
            have hp3 : (!(s.extract 0 g.size).toList == g.toList) = false := by rw [hp]; rfl
            have HM := hide (HHIT.out HPT.out HN.out)
            have CP : Hid (∀ W', Calls Tryz.prog 10 #[.string (s.extract g.size s.size)] W' fun e w' => e = .returned (pret (parse (s.data.toList.drop (Sp.sigs.getD k []).length))) ∧ RowKit.Below W'.heap.size W' w') := fun W' => by
              have := rparse_any (s.extract g.size s.size) W' (by rw [ByteArray.size_extract]; omega)
              rw [HDR.out] at this
              exact this
            have HPK : Hid (∀ v, parse (s.data.toList.drop (Sp.sigs.getD k []).length) = some v → v.ok = true) := fun v h => (parse_some h).1
            have HPL : Hid (∀ v, parse (s.data.toList.drop (Sp.sigs.getD k []).length) = some v → (parse s.data.toList).isSome = g.toList.isEmpty) := fun v h => by
              by_cases h8 : k = 8
              · rw [HGE.out.2 h8]
                subst h8
                have e : s.data.toList.drop (Sp.sigs.getD 8 []).length = s.data.toList := rfl
                rw [e] at h
                rw [h]; rfl
              · rw [HHD.out (by omega) HPT.out]
                cases hge : g.toList.isEmpty with
                | false => rfl
                | true => exact absurd (HGE.out.1 hge) h8
            have CNW := hide cN
            clear HPI HPS HHIT HHD HNX HDR hl HGL HGE HN
            generalize parse (s.data.toList.drop (Sp.sigs.getD k []).length) = po at *
            go_wp2_with fail
            refine wp_region_quiet_lit (by kernel_rfl) (by kernel_rfl) ?_
            go_big_quiet_step (fail)
            go_big_quiet_step (fail)
            go_big_quiet_step (fail)
            quiet_step (fail)
            go_big_quiet_step (fail)
            go_big_quiet_step (fail)
            go_big_quiet_step (fail)
            go_big_quiet_step (fail)
            go_big_quiet_step (fail)
            go_big_quiet_step (fail)
            go_big_quiet_step (fail)
            go_big_quiet_step (fail)
            quiet_step (fail)
            quiet_step (fail)
            refine wpQuiet_nil ?_
            intro _ hw'
            obtain ⟨nq, hw''⟩ := hw'
            subst hw''
            have b1 := belDrewN wr nq
            have X2 := hide (X.out.later b1)
            have B2 := hide (step HB.out b1)
            have CN2 : Hid (∀ w', RowKit.Below (wr.drewN nq).heap.size (wr.drewN nq) w' → w'.cell? ⟨w1.heap.size + 1, k, none⟩ = some (.string g)) := fun w' h => CNl.out w' (step b1 h)
            clear b1 cN CNW CNl hp hp3 X HB
            generalize wr.drewN nq = w2 at *
            go_wp2_with fail
            refine (CP.out _).mono ?_
            rintro e w3 ⟨rfl, b3⟩
            have B3 := hide (step B2.out b3)
            have CN3 : Hid (∀ w', RowKit.Below w3.heap.size w3 w' → w'.cell? ⟨w1.heap.size + 1, k, none⟩ = some (.string g)) := fun w' h => CN2.out w' (step b3 h)
            clear CP b3 B2 X2 CN2
            cases po with
            | none =>
              have HMN : Hid (mo = none) := HM.out
              unfold pret
              go_wp2_with fail
              refine bodyPost_ret (v := .tuple #[.slice none 0 0, .bool false, .bool false]) (by simp [results, Tryz.results47, go_sem]) rfl ?_
              rw [HMN.out]
              have hb9 := B3.out
              exact ⟨rfl, (by repeat (first | with_reducible assumption | with_reducible exact Below.refl _ _ | with_reducible refine Below.setCell ?_ (by first | exact Nat.le_refl _ | (simp; done) | (simp; omega)) _ | with_reducible refine bal ?_ _ | with_reducible refine Below.alloc ?_ (by first | exact Nat.le_refl _ | (simp; done) | (simp; omega)) _ | with_reducible refine Below.drew ?_))⟩
            | some v =>
              have hv := HPK.out v rfl
              have HL := hide (HPL.out v rfl)
              have HMS : Hid (mo = Sp.signedM (Sp.sigs.getD k []) v) := HM.out
              have CTv : Hid (∀ W', Calls Tryz.prog 71 #[.string g, ver v.a v.b v.c v.p] W' fun e w' => ToldR W' w' (Sp.sigs.getD k []) v e) := fun W' => CT.out v W' hv
              clear HPK HPL HM CT hv
              unfold pret
              go_wp2_with fail
              have XV := (Box.new w3 #[.int .i64 v.a, .int .i64 v.b, .int .i64 v.c, .string v.p] 37)
              have bA : RowKit.Below w3.heap.size w3 (w3.alloc (.cells #[.int .i64 v.a, .int .i64 v.b, .int .i64 v.c, .string v.p] 37)) := (by repeat (first | with_reducible assumption | with_reducible exact Below.refl _ _ | with_reducible refine Below.setCell ?_ (by first | exact Nat.le_refl _ | (simp; done) | (simp; omega)) _ | with_reducible refine bal ?_ _ | with_reducible refine Below.alloc ?_ (by first | exact Nat.le_refl _ | (simp; done) | (simp; omega)) _ | with_reducible refine Below.drew ?_))
              have B5 := hide (step B3.out bA)
              have KN : ∀ w', RowKit.Below (w3.alloc (.cells #[.int .i64 v.a, .int .i64 v.b, .int .i64 v.c, .string v.p] 37)).heap.size (w3.alloc (.cells #[.int .i64 v.a, .int .i64 v.b, .int .i64 v.c, .string v.p] 37)) w' → w'.cell? ⟨w1.heap.size + 1, k, none⟩ = some (.string g) := fun w' h => CN3.out w' (step bA h)
              have KV : ∀ w', RowKit.Below (w3.alloc (.cells #[.int .i64 v.a, .int .i64 v.b, .int .i64 v.c, .string v.p] 37)).heap.size (w3.alloc (.cells #[.int .i64 v.a, .int .i64 v.b, .int .i64 v.c, .string v.p] 37)) w' → ∀ i, w'.cell? ⟨w3.heap.size, i, none⟩ = (#[.int .i64 v.a, .int .i64 v.b, .int .i64 v.c, .string v.p] : Array Value)[i]? := fun w' h => (XV.later h).c
              clear XV bA B3 CN3
              generalize w3.alloc (.cells #[.int .i64 v.a, .int .i64 v.b, .int .i64 v.c, .string v.p] 37) = W5 at *
              go_region_held3 (fun w' => RowKit.Below W5.heap.size W5 w') (first | with_reducible assumption | exact (by repeat (first | with_reducible assumption | with_reducible exact Below.refl _ _ | with_reducible refine Below.setCell ?_ (by first | exact Nat.le_refl _ | (simp; done) | (simp; omega)) _ | with_reducible refine bal ?_ _ | with_reducible refine Below.alloc ?_ (by first | exact Nat.le_refl _ | (simp; done) | (simp; omega)) _ | with_reducible refine Below.drew ?_))) (first
                | (go_at_call 71; refine (CTv.out _).mono ?_; rintro e w6 ⟨a6, n6, c6, l6', rfl, r6, ok6, hn6, HS6, b6⟩; have b6 : RowKit.Below W5.heap.size W5 w6 := (by refine Below.trans ?_ (Below.mono b6 ?_); rotate_left; exact Below.size (by with_reducible assumption); with_reducible assumption))
                | (go_at_call 48; refine (rnormL _ a6 n6 c6 l6' r6 (by omega) ok6).mono ?_; rintro e w7 ⟨v7, rfl, o7, b7⟩; have b7 : RowKit.Below W5.heap.size W5 w7 := (by refine Below.trans ?_ (Below.mono b7 ?_); rotate_left; exact Below.size (by with_reducible assumption); with_reducible assumption)))
              all_goals
                have HMQ := hide (HMS.out.trans HS6.out)
                obtain ⟨a8, n8, c8, rfl, h8⟩ := SR.of (B := 2) o7 ⟨(HMO.out _ HMQ.out).2, (HMO.out _ HMQ.out).1⟩ (HML.out _ HMQ.out)
                have H8 := hide (show SR w7 a8 n8 (Sp.nrm l6') 2 from h8)
                have B7 := hide (step B5.out b7)
                clear KN KV h8 o7 b7 b6 r6 ok6 HS6
                go_wp2_with fail
                refine bodyPost_ret (v := .tuple #[.slice a8 n8 c8, .bool g.toList.isEmpty, .bool true]) (by simp [results, Tryz.results47, go_sem]) rfl ?_
                rw [HMQ.out, HL.out]
                exact ⟨a8, n8, c8, rfl, H8.out, B7.out⟩
      · have d9 : decide ((k : Int) < 9) = false := by simp; omega
        exfalso
        have h8 : k = 9 := by omega
        subst h8
        have := HN.out 8 (by omega)
        exact nomatch this
end Go.Proofs.YthihnpjbdjmbhaaGreatDoor

namespace Go.Sp
set_option linter.unusedVariables false
open Go.Vr Go.Tx Go.Lib

theorem bl_idem (s : Bs) (p : Nat) : blM s (blM s p) = blM s p := by
  have h := bl_drop s p
  unfold blM at h ⊢
  rw [h]
  have : (dropBl (s.drop p)).takeWhile (· == 32) = [] := by
    cases e : dropBl (s.drop p) with
    | nil => rfl
    | cons c t =>
      have := dropBl_head _ _ _ e
      rw [List.takeWhile_cons_of_neg (by simpa using this)]
  rw [this]; rfl
/-- Between two words: so many rows so far. -/
def St (s : Bs) (pm : Option (List S) × Nat) (q : Nat) (ls : List (List S)) (f : Nat) : Prop := pm = if ls ≠ [] ∧ (q = s.length ∨ s[q]? = some 124) then (some (allL ls), q) else partG s f q ls
theorem St.begin (s : Bs) (p : Nat) : St s (partM s p) (blM s p) [] (s.length + 1) := by
  unfold St
  rw [if_neg (fun h => h.1 rfl)]
  rfl
theorem St.fin {s : Bs} {pm : Option (List S) × Nat} {q f : Nat} {ls : List (List S)} (h : St s pm q ls f) (hc : ls ≠ [] ∧ (q = s.length ∨ s[q]? = some 124)) : pm = (some (allL ls), q) := by
  unfold St at h
  rw [if_pos hc] at h
  exact h
theorem St.none {s : Bs} {pm : Option (List S) × Nat} {q q1 f : Nat} {ls : List (List S)} (h : St s pm q ls (f + 1)) (hc : ¬ (ls ≠ [] ∧ (q = s.length ∨ s[q]? = some 124))) (hi : itemM s q = (Option.none, q1)) : pm = (Option.none, q1) := by
  unfold St at h
  rw [if_neg hc] at h
  unfold partG at h
  rw [hi] at h
  exact h
theorem St.next {s : Bs} {pm : Option (List S) × Nat} {q q1 f : Nat} {ls : List (List S)} {l : List S} (h : St s pm q ls (f + 1)) (hc : ¬ (ls ≠ [] ∧ (q = s.length ∨ s[q]? = some 124))) (hi : itemM s q = (some l, q1)) : St s pm (blM s q1) (ls ++ [l]) f := by
  unfold St at h ⊢
  rw [if_neg hc] at h
  unfold partG at h
  rw [hi] at h
  simp only at h
  rw [h]
  by_cases hb : blM s q1 = s.length ∨ s[blM s q1]? = some 124
  · rw [if_pos hb, if_pos ⟨by simp, hb⟩]
  · rw [if_neg hb, if_neg (fun k => hb k.2)]
theorem item_none {s : Bs} {q : Nat} (h : meantM (wordM s q) = Option.none) : itemM s q = (Option.none, q) := by
  unfold itemM; rw [h]
theorem item_one {s : Bs} {q : Nat} {l : List S} (h : meantM (wordM s q) = some l) (hp : parse (wordM s q) = Option.none ∨ wordM s (blM s (q + (wordM s q).length)) ≠ [45]) : itemM s q = (some l, blM s (q + (wordM s q).length)) := by
  unfold itemM
  rw [h]
  simp only
  unfold item1
  cases e : parse (wordM s q) with
  | none => rfl
  | some v =>
    simp only
    rw [if_neg]
    rcases hp with hp | hp
    · rw [e] at hp; exact nomatch hp
    · exact hp
theorem item_two {s : Bs} {q : Nat} {l : List S} {v : V} (h : meantM (wordM s q) = some l) (hv : parse (wordM s q) = some v) (hd : wordM s (blM s (q + (wordM s q).length)) = [45]) : itemM s q = item2 s (blM s (q + (wordM s q).length)) v := by
  unfold itemM
  rw [h]
  simp only
  unfold item1
  rw [hv]
  simp only
  rw [if_pos hd]
theorem plain_row {w : Bs} {l : List S} {v : V} (h : meantM w = some l) (hv : parse w = some v) : l = [(some (v, false), some (v, true))] ∧ v.ok = true := by
  obtain ⟨ok, ht⟩ := parse_some hv
  have hm := meant_signed (g := []) ok (by simp)
  rw [List.nil_append, ht, h] at hm
  have hsg : signedM [] v = some (only cmpC (some (v, false)) (some (v, true))) := rfl
  rw [hsg] at hm
  refine ⟨?_, ok⟩
  rw [Option.some.inj hm]
  unfold only
  have hc : cmpC (some (v, false)) (some (v, true)) < 0 := by
    rw [cmpC_ss]
    show seq (cmpV v v) (cmpB false true) < 0
    rw [ord_ver.refl]
    decide
  rw [if_pos hc]
theorem word_bar {s : Bs} {p : Nat} (h : s[p]? = some 45) : ∃ t, wordM s p = 45 :: t := by
  have hlt := (List.getElem?_eq_some_iff.1 h).1
  have e : s.drop p = 45 :: s.drop (p + 1) := by rw [List.drop_eq_getElem_cons hlt, (List.getElem?_eq_some_iff.1 h).2]
  exact ⟨(s.drop (p + 1)).takeWhile isW, by unfold wordM; rw [e, List.takeWhile_cons_of_pos (by decide)]⟩
theorem word_nobar {s : Bs} {p : Nat} (h : s[p]? ≠ some 45) : wordM s p ≠ [45] := by
  intro e
  apply h
  unfold wordM at e
  cases hd : s.drop p with
  | nil => rw [hd] at e; exact nomatch e
  | cons c t =>
    rw [hd] at e
    by_cases hc : isW c = true
    · rw [List.takeWhile_cons_of_pos hc] at e
      have := (List.cons.inj e).1
      subst this
      exact at_drop hd
    · rw [List.takeWhile_cons_of_neg hc] at e; exact nomatch e
end Go.Sp

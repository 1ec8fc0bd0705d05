/-
  The walk of VerMaxes.
-/
import Derived.Test.YtiicikieemfcmaaGreatDoorU25
import Derived.BigQuiet
import Derived.Deep.CutBlock
import Derived.Deep.RegionHeld3
namespace Go.Proofs.YtiicikieemfcmaaGreatDoor.verMaxes
set_option linter.unusedSimpArgs false
set_option linter.unusedVariables false
open Go.RowKit Go.Vr Go.Sort Go.Tx Go.Lib
attribute [local go_sem] setCellDrewN allocDrewN

abbrev ZB : Obj := .cells #[.int .i64 0, .int .i64 0, .int .i64 0, .string ⟨#[]⟩] 24
theorem VarAt.grown {w w' : World} {N : Nat} {v : Vr.V} {r : Option Nat} (h : VarAt w N v) (g : w.grownBy w' r) (hne : r ≠ some N) : VarAt w' N v := by
  have hb := g.block N h.lt (fun e => hne e.symm)
  exact ⟨Nat.lt_of_lt_of_le h.lt g.size, (World.cell?_of_block hb).trans h.c0, (World.cell?_of_block hb).trans h.c1, (World.cell?_of_block hb).trans h.c2, (World.cell?_of_block hb).trans h.c3, (World.frozen?_of_block hb).trans h.f0, (World.frozen?_of_block hb).trans h.f1, (World.frozen?_of_block hb).trans h.f2, (World.frozen?_of_block hb).trans h.f3⟩
theorem z4 {w2 u3 : World} (b3 : Below (w2.alloc ZB).heap.size (w2.alloc ZB) u3) : VarAt u3 w2.heap.size Vr.V.zero := (VarAt.new w2 Vr.V.zero).later b3
theorem z3 {w1 w2 u3 : World} {B n : Nat} {v1 : Value} {xs : List Value} (o1 : w1.ownsRow B 24 4 v1 n xs) (g2 : (w1.alloc ZB).grownBy w2 v1.ownBlock) (b3 : Below w2.heap.size w2 u3) : VarAt u3 w1.heap.size Vr.V.zero :=
  (VarAt.grown (VarAt.new w1 Vr.V.zero) g2 (fun e => by have := (o1.lt _ e).2; omega)).later b3
theorem z12 {C w1 w2 u3 : World} {N : Nat} {r : Option Nat} {v1 : Value} (g1 : C.grownBy w1 r) (t1 : v1.ownBlock = r ∨ v1.ownBlock = some C.heap.size) (g2 : w1.grownBy w2 v1.ownBlock) (b3 : Below w2.heap.size w2 u3) (h : VarAt C N Vr.V.zero) (hv : r ≠ some N) : VarAt u3 N Vr.V.zero := by
  refine (VarAt.grown (VarAt.grown h g1 hv) g2 ?_).later b3
  rcases t1 with e | e
  · rw [e]; exact hv
  · rw [e]; intro e2; have := h.lt; simp at e2; omega
theorem vtwo (w : World) (x y : Vr.V) : VRow (w.alloc (.cells #[.int .i64 x.a, .int .i64 x.b, .int .i64 x.c, .string x.p, .int .i64 y.a, .int .i64 y.b, .int .i64 y.c, .string y.p] 24)) (some ⟨w.heap.size, 0, none⟩) 2 [x, y] := by
  refine VRow.of_at rfl fun j hj => ?_
  rcases (show j = 0 ∨ j = 1 by omega) with rfl | rfl
  · exact ⟨by simp [go_sem], by simp [go_sem], by simp [go_sem], by simp [go_sem]⟩
  · exact ⟨by simp [go_sem], by simp [go_sem], by simp [go_sem], by simp [go_sem]⟩

set_option maxHeartbeats 20000000 in
set_option maxRecDepth 100000 in
theorem walk (a0 : Option Addr) (len0 cap0 : Nat) (z0 : List Int) (a1 : Option Addr) (len1 cap1 : Nat) (z1 : List Int) (a2 : Int) (w : World) (he : Env w) (w0 : IsRow .i64 w a0 len0 cap0 z0) (w1 : IsRow .i64 w a1 len1 cap1 z1) (h2 : -9223372036854775808 ≤ a2 ∧ a2 ≤ 9223372036854775807) :
    Calls Tryz.prog 14 #[.slice a0 len0 cap0, .slice a1 len1 cap1, .int .i64 a2] w fun e w' => e = .returned (.bool true) ∧ Below w.heap.size w w' := by
  have HE := hide he
  have HR0 := hide w0.row
  have HR1 := hide w1.row
  have hle := HR0.out.le
  have hmx := HR0.out.mx
  have hle1 := HR1.out.le
  have hmx1 := HR1.out.mx
  unfold maxLen at hmx hmx1
  clear w0 w1 he
  go_enter Tryz.func14, Tryz.ntmps14
  go_wp2_with fail
  refine (known_any w HE.out).mono ?_
  rintro e v1 ⟨rfl, b1⟩
  go_upto_block 0 with fail
  go_cut [7] (fun l wc => ∃ (k : Nat) (ls : List Vr.V), k ≤ 12 ∧ (∀ v ∈ ls, v.ok = true) ∧ wc.ownsRow v1.heap.size 24 4 l k (encs ls) ∧ Below v1.heap.size v1 wc)
  case first =>
    go_wp2_with fail
    go_loopw [7, 8] (fun v i wr => ∃ (k : Nat) (ls : List Vr.V), k ≤ 12 ∧ i = .int .i64 k ∧ (∀ v ∈ ls, v.ok = true) ∧ wr.ownsRow v1.heap.size 24 4 v k (encs ls) ∧ Below v1.heap.size v1 wr) (fun _ i _ => 12 - (RowKit.intOf i).toNat)
    case atStart => exact ⟨0, [], by omega, rfl, by simp, World.ownsRow_nil _ _ _ _, Below.refl _ _⟩
    case round =>
      obtain ⟨k, ls, hk, rfl, hok, hown, hB⟩ := hrel
      have HOK := hide hok
      have HOWN := hide hown
      clear hok hown
      by_cases hi : k < len0 ∧ k < len1 ∧ k < 12
      · obtain ⟨hi0, hi1, hi2⟩ := hi
        have hBw := step b1 hB
        obtain ⟨x0, o0, rfl, hc0⟩ := row_at (HR0.out.later hBw) (by omega)
        obtain ⟨x1, o1, rfl, hc1⟩ := row_at (HR1.out.later hBw) (by omega)
        have e0 := hc0 k hi0
        have e1 := hc1 k hi1
        have y0 := row_bd (HR0.out.later hBw) k hi0
        have y1 := row_bd (HR1.out.later hBw) k hi1
        generalize (List.take len0 z0).getD k 0 = n0 at *
        generalize (List.take len1 z1).getD k 0 = n1 at *
        clear hc0 hc1
        have j1 : (0 : Int) ≤ (k : Int) := by omega
        have j2 : (k : Int) < (len0 : Int) := by omega
        have j3 : (k : Int) < (len1 : Int) := by omega
        have j4 : (k : Int) < 12 := by omega
        have hbs := hB.size
        have CM := hide (fun W => make_any n0 n1 W y0 y1)
        clear y0 y1 HR0 HR1 hBw
        go_wp2_with fail
        go_region_law (first
          | (go_simp; go_at_call 17; refine (CM.out _).mono ?_; rintro e u2 ⟨⟨va, vb, vc, vp⟩, rfl, hv, b2⟩; have B2 : Below wr.heap.size wr u2 := Below.trans (by first | exact (Below.refl _ _).drew | exact belDrewN _ _) (b2.mono (by first | exact Nat.le_refl _ | simp)))
          | (refine step_vapp rfl _ _ rfl v1.heap.size k _ ls (some ⟨u2.heap.size, 0, none⟩) 1 1 [⟨va, vb, vc, vp⟩] rfl rfl (vown_later (vown_later HOWN.out B2) ((Below.refl _ _).alloc (Nat.le_refl _) _)) (vone_new u2 ⟨va, vb, vc, vp⟩) (by omega) (by have := B2.size; simp; omega) ?_; intro v' w' o' g' t'))
        all_goals
          have B3 : Below v1.heap.size v1 (u2.alloc (.cells #[.int .i64 va, .int .i64 vb, .int .i64 vc, .string vp] 24)) := (hB.trans (B2.mono hbs)).alloc (by have := B2.size; omega) _
          have B4 := vbel_app B3 (vown_later (vown_later HOWN.out B2) ((Below.refl _ _).alloc (Nat.le_refl _) _)) g' B3.size
          have HO' := hide o'
          clear o' g' t' B3 e0 e1
          go_wp2_with fail
          go_roundw
          case rel => exact ⟨k + 1, ls ++ [⟨va, vb, vc, vp⟩], by omega, by go_num, fun u hu => by rcases List.mem_append.1 hu with h | h; exact HOK.out u h; rw [List.mem_singleton.1 h]; exact hv, HO'.out, B4⟩
          case measure => simp [RowKit.intOf]; omega
      · clear HR0 HR1
        go_wp2_with fail
        all_goals first
          | (exfalso; omega)
          | (go_meet; case rel => exact ⟨k, ls, hk, HOK.out, HOWN.out, hB⟩)
  case rest =>
    obtain ⟨k, ls, hk, hok, hown, hB⟩ := hcut
    have hBw := step b1 hB
    have HOK := hide hok
    have HOWN := hide hown
    clear hok hown HR0 HR1 hB b1 hle hmx hle1 hmx1
    have hw1 : IntKind.i64.wrap ((k : Int) + 1) = (k : Int) + 1 := by rw [IntKind.wrap_i64]; omega
    by_cases hk0 : k = 0
    · subst hk0
      obtain ⟨ad, cap, rfl, hkc, hrow⟩ := vown_any HOWN.out
      clear hrow
      have CM : Hid (∀ W, Calls Tryz.prog 27 #[.slice ad 0 cap] W fun e w' => e = .returned (ver 0 0 0 ⟨#[]⟩) ∧ Below W.heap.size W w') := fun W => max_none ad cap W
      go_wp2_with fail
      refine (within_nat _ _ _ (by omega) (by omega) (by omega) (by omega)).mono ?_
      rintro e w3 ⟨t, rfl, ht, -, rfl⟩
      go_wp2_with fail
      refine (CM.out _).mono ?_
      rintro e w2 ⟨rfl, b2⟩
      have ba2 : Below w2.heap.size w2 (w2.alloc ZB) := (Below.refl _ _).alloc (Nat.le_refl _) _
      have hB2 := step (step hBw b2) ba2
      go_wp2_with fail
      go_ret
      exact ⟨by first | rfl | simp, hB2⟩
    · have h0 : 0 < k := by omega
      rcases vown_form HOWN.out with ⟨-, h⟩ | ⟨g, cap, rfl, hg, hkc, hcm, hrow⟩
      · omega
      have HROW := hide hrow
      clear hrow HOWN
      have hlen := HROW.out.n
      have hne : ls ≠ [] := fun e => by rw [e] at hlen; simp at hlen; omega
      have CM := hide (max_row cap HROW.out h0 (by omega) HOK.out (HE.out.later hBw))
      obtain ⟨M, HM⟩ : ∃ M, Hid (maxV ls = M) := ⟨_, rfl⟩
      rw [HM.out] at CM
      obtain ⟨ma, mb, mc, mp⟩ := M
      have dk : ((k : Int) == 0) = false := by simp; omega
      have HLEN := hide hlen
      have HNE := hide hne
      clear hlen hne
      go_wp2_with fail
      refine (within_nat _ _ _ (by omega) (by omega) (by omega) (by omega)).mono ?_
      rintro e w3 ⟨t, rfl, ht, -, rfl⟩
      have htk : t ≤ k := by omega
      have htc : t ≤ cap := by omega
      go_wp2_with fail
      refine CM.out.mono ?_
      rintro e w2 ⟨rfl, b2⟩
      have ba2 : Below w2.heap.size w2 (w2.alloc (.cells #[.int .i64 ma, .int .i64 mb, .int .i64 mc, .string mp] 24)) := (Below.refl _ _).alloc (Nat.le_refl _) _
      have hB2 := step (step hBw b2) ba2
      have M2 := hide (VarAt.new w2 ⟨ma, mb, mc, mp⟩)
      have HROW2 := hide ((HROW.out.later b2).later ba2)
      clear HROW hBw b2 ba2 CM
      have i1 : (0 : Int) ≤ (t : Int) := by omega
      have i2 : (t : Int) ≤ (k : Int) := by omega
      have i3 : (t : Int) ≤ (cap : Int) := by omega
      go_wp2_with fail
      generalize w2.alloc (.cells #[.int .i64 ma, .int .i64 mb, .int .i64 mc, .string mp] 24) = u at *
      generalize w2.heap.size = N2 at *
      have hH := vrow_pre HROW2.out t htk
      have hT := vrow_tail HROW2.out t htk hkc
      have HPM : Hid (maxV ([] ++ ls.drop t ++ ls.take t) = ⟨ma, mb, mc, mp⟩) := by
        show _ = _
        rw [← HM.out]
        refine maxV_perm _ _ (fun e => HNE.out ?_) (fun x => ?_)
        · have h := congrArg List.length e
          simp only [List.length_append, List.length_drop, List.length_take, List.length_nil] at h
          exact List.eq_nil_of_length_eq_zero (by omega)
        · rw [List.nil_append, List.mem_append, or_comm, ← List.mem_append, List.take_append_drop]
      have HPO : Hid (∀ v ∈ [] ++ ls.drop t ++ ls.take t, v.ok = true) := by
        show ∀ v, _
        intro v hv
        rw [List.nil_append, List.mem_append] at hv
        rcases hv with h | h
        · exact HOK.out v (List.mem_of_mem_drop h)
        · exact HOK.out v (List.mem_of_mem_take h)
      have CM : Hid (∀ W ad c, VRow W ad k ([] ++ ls.drop t ++ ls.take t) → Below u.heap.size u W → Calls Tryz.prog 27 #[.slice ad k c] W fun e w' => e = .returned (ver ma mb mc mp) ∧ Below W.heap.size W w') := fun W ad c hr hb => by
        have := max_row c hr h0 (by omega) HPO.out (HE.out.later (step hB2 hb))
        rw [HPM.out] at this
        exact this
      have hH' := hide hH
      have hT' := hide hT
      clear hH hT
      have HD1 : Hid (Below u.heap.size u (u.alloc (.cells #[] 24)).drew) := ((Below.refl _ _).alloc (Nat.le_refl _) _).drew
      have HD2 : Hid (Below u.heap.size u ((u.alloc (.cells #[] 24)).alloc ZB).drew) := (((Below.refl _ _).alloc (Nat.le_refl _) _).alloc (by simp) _).drew
      have HD3 : Hid (Below u.heap.size u ((u.alloc ZB).alloc (.cells #[] 24)).drew) := (((Below.refl _ _).alloc (Nat.le_refl _) _).alloc (by simp) _).drew
      have HZ2 : Hid (VarAt ((u.alloc (.cells #[] 24)).alloc ZB).drew (u.heap.size + 1) Vr.V.zero) := by
        have h := (VarAt.new (u.alloc (.cells #[] 24)) Vr.V.zero).drew
        rw [show (u.alloc (.cells #[] 24)).heap.size = u.heap.size + 1 by simp] at h
        exact h
      have HZ1 : Hid (VarAt ((u.alloc ZB).alloc (.cells #[] 24)).drew u.heap.size Vr.V.zero) := ((VarAt.new u Vr.V.zero).later ((Below.refl _ _).alloc (Nat.le_refl _) _)).drew
      go_cut [11] (fun q wc => ∃ N, q = .pointer (some ⟨N, 0, none⟩) ∧ VarAt wc N ⟨ma, mb, mc, mp⟩ ∧ Below u.heap.size u wc)
      case first =>
        go_region_law (first
          | (refine step_vapp rfl _ _ rfl u.heap.size 0 _ [] (if cap = t then some ⟨g, 0, none⟩ else some ⟨g, t * 4, none⟩) (k - t) (cap - t) (ls.drop t) rfl rfl (vfresh (by first | exact at_new _ _ _ (by simp) | exact heap_alloc_new _ _ | exact at_old _ _ _ (by simp) (heap_alloc_new _ _)) (by simp)) (hT'.out.later (by first | exact HD1.out | exact HD2.out | exact HD3.out)) (by omega) (by first | (simp; done) | (simp; omega)) ?_; intro v1 w1 o1 g1 t1; have B1 : Below u.heap.size u w1 := Below.grown (by first | exact HD1.out | exact HD2.out | exact HD3.out) g1 (by first | (simp; done) | (simp; omega)) (by intro k e; first | (have e2 : some u.heap.size = some k := e; simp at e2; omega) | (have e2 : some (u.heap.size + 1) = some k := e; simp at e2; omega)))
          | (refine step_vapp rfl _ _ rfl u.heap.size (0 + (k - t)) v1 ([] ++ ls.drop t) (some ⟨g, 0, none⟩) t cap (ls.take t) rfl rfl (by first | exact o1 | exact o1.alloc _) (hH'.out.later (by first | exact B1 | exact B1.alloc B1.size _)) (by omega) (by first | exact B1.size | exact (B1.alloc B1.size _).size) ?_; intro v2 w2 o2 g2 t2; have B2 : Below u.heap.size u w2 := (by first | exact vbel_app B1 o1 g2 B1.size | exact vbel_app (B1.alloc B1.size _) (o1.alloc _) g2 (B1.alloc B1.size _).size); obtain ⟨ad2, cap2, rfl, hn2, S2⟩ := vown_any o2; replace S2 : VRow w2 ad2 k ([] ++ ls.drop t ++ ls.take t) := (by have h := S2; first | exact h | (rw [show 0 + (k - t) + t = k by omega] at h; exact h)))
          | (go_simp; go_at_call 27; refine (CM.out _ ad2 cap2 (by first | exact S2 | exact S2.later ((Below.refl _ _).alloc (Nat.le_refl _) _)) (by first | exact B2 | exact B2.alloc B2.size _)).mono ?_; rintro e u3 ⟨rfl, b3⟩; have B3 : Below u.heap.size u u3 := (by first | exact step B2 b3 | exact step (B2.alloc B2.size _) b3);
              first
              | (refine cutIn (z4 b3) (fun za => ?_); have ZA := hide za; obtain ⟨zl, y0, y1, y2, y3, f0, f1, f2, f3⟩ := za)
              | (refine cutIn (z3 o1 g2 b3) (fun za => ?_); have ZA := hide za; obtain ⟨zl, y0, y1, y2, y3, f0, f1, f2, f3⟩ := za)
              | (refine cutIn (z12 (N := u.heap.size) g1 t1 g2 b3 ?_ ?_) (fun za => ?_); (exact HZ1.out); (change ¬ (some (u.heap.size + 1) = some u.heap.size); simp); have ZA := hide za; obtain ⟨zl, y0, y1, y2, y3, f0, f1, f2, f3⟩ := za)
              | (refine cutIn (z12 (N := u.heap.size + 1) g1 t1 g2 b3 ?_ ?_) (fun za => ?_); (exact HZ2.out); (change ¬ (some u.heap.size = some (u.heap.size + 1)); simp); have ZA := hide za; obtain ⟨zl, y0, y1, y2, y3, f0, f1, f2, f3⟩ := za)
              | skip))
        all_goals
          clear hT' hH' HD1 HD2 HD3 HZ1 HZ2 S2 o2 g2 t2 o1 g1 t1 b3 CM
          generalize (if cap = t then (some ⟨g, 0, none⟩ : Option Addr) else some ⟨g, t * 4, none⟩) = adx
          go_wp2_with fail
          go_meet
          case rel =>
            refine ⟨_, rfl, ?_, ?_⟩
            · first
              | exact VarAt.new u3 ⟨ma, mb, mc, mp⟩
              | exact ZA.out.put ⟨ma, mb, mc, mp⟩
            · first
              | exact B3.alloc B3.size _
              | (refine (((B3.setCell ?_ _).setCell ?_ _).setCell ?_ _).setCell ?_ _ <;> (have h1 := B1.size; have h2 := B2.size; (try dsimp only); omega))
      case rest =>
        obtain ⟨N, rfl, VN, hbc⟩ := hcut
        have hB3 := step hB2 hbc
        have VN' := hide VN
        have VM' := hide (M2.out.later hbc)
        have HR3 := hide (HROW2.out.later hbc)
        clear VN CM HROW2 M2 hH' hT' HD1 HD2 HD3 HZ1 HZ2 HPO HPM
        obtain ⟨-, n0, n1, n2, n3, -, -, -, -⟩ := VN'.out
        obtain ⟨-, m0, m1, m2, m3, -, -, -, -⟩ := VM'.out
        by_cases ht0 : t = 0
        · have dt : ((t : Int) == 0) = true := by simp; omega
          clear ht0
          go_wp2_with fail
          go_ret
          exact ⟨by first | rfl | simp, hB3⟩
        · have dt : ((t : Int) == 0) = false := by simp; omega
          by_cases htk2 : t = k
          · have dt2 : ((t : Int) == (k : Int)) = true := by simp; omega
            clear ht0 htk2
            go_wp2_with fail
            go_ret
            exact ⟨by first | rfl | simp, hB3⟩
          · have dt2 : ((t : Int) == (k : Int)) = false := by simp; omega
            have hct : ¬ cap = t := by omega
            have hH := vrow_pre HR3.out t htk
            have hT := vrow_suf HR3.out t htk
            have hne1 : ls.take t ≠ [] := fun e => by have h := congrArg List.length e; simp only [List.length_take, List.length_nil] at h; have := HLEN.out; omega
            have hne2 : ls.drop t ≠ [] := fun e => by have h := congrArg List.length e; simp only [List.length_drop, List.length_nil] at h; have := HLEN.out; omega
            have ok1 : ∀ v ∈ ls.take t, v.ok = true := fun v hv => HOK.out v (List.mem_of_mem_take hv)
            have ok2 : ∀ v ∈ ls.drop t, v.ok = true := fun v hv => HOK.out v (List.mem_of_mem_drop hv)
            have HQ : Hid (maxV [maxV (ls.take t), maxV (ls.drop t)] = ⟨ma, mb, mc, mp⟩) := by
              show _ = _
              rw [← maxV_app _ _ hne1 hne2, List.take_append_drop]
              exact HM.out
            have O1 := hide (ok1 _ (maxV_mem _ hne1))
            have O2 := hide (ok2 _ (maxV_mem _ hne2))
            have C1 : Hid (∀ W, Below wc.heap.size wc W → Calls Tryz.prog 27 #[.slice (some ⟨g, 0, none⟩) t cap] W fun e w' => e = .returned (val (maxV (ls.take t))) ∧ Below W.heap.size W w') := fun W hb => max_row cap (hH.later hb) (by omega) (by omega) ok1 (HE.out.later (step hB3 hb))
            have C2 : Hid (∀ W, Below wc.heap.size wc W → Calls Tryz.prog 27 #[.slice (some ⟨g, t * 4, none⟩) (k - t) (cap - t)] W fun e w' => e = .returned (val (maxV (ls.drop t))) ∧ Below W.heap.size W w') := fun W hb => max_row (cap - t) (hT.later hb) (by omega) (by omega) ok2 (HE.out.later (step hB3 hb))
            generalize maxV (ls.take t) = P at *
            generalize maxV (ls.drop t) = Q at *
            obtain ⟨pa, pb, pc, pp⟩ := P
            obtain ⟨qa, qb, qc, qp⟩ := Q
            have C3 : Hid (∀ W b, VRow W (some ⟨b, 0, none⟩) 2 [⟨pa, pb, pc, pp⟩, ⟨qa, qb, qc, qp⟩] → Below wc.heap.size wc W → Calls Tryz.prog 27 #[.slice (some ⟨b, 0, none⟩) 2 2] W fun e w' => e = .returned (ver ma mb mc mp) ∧ Below W.heap.size W w') := fun W b hr hb => by
              have := max_row 2 hr (by omega) (by omega) (by intro v hv; simp only [List.mem_cons, List.not_mem_nil, or_false] at hv; rcases hv with rfl | rfl; exact O1.out; exact O2.out) (HE.out.later (step hB3 hb))
              rw [HQ.out] at this
              exact this
            clear hH hT hne1 hne2 ok1 ok2 HQ O1 O2 HM ht0 htk2 HR3 HOK HNE HLEN
            go_wp2_with fail
            go_region_held3 (fun w' => w'.cell? ⟨N2, 0, none⟩ = some (.int .i64 ma) ∧ w'.cell? ⟨N2, 1, none⟩ = some (.int .i64 mb) ∧ w'.cell? ⟨N2, 2, none⟩ = some (.int .i64 mc) ∧ w'.cell? ⟨N2, 3, none⟩ = some (.string mp) ∧ w'.cell? ⟨N, 0, none⟩ = some (.int .i64 ma) ∧ w'.cell? ⟨N, 1, none⟩ = some (.int .i64 mb) ∧ w'.cell? ⟨N, 2, none⟩ = some (.int .i64 mc) ∧ w'.cell? ⟨N, 3, none⟩ = some (.string mp)) (first | go_keep | assumption) (first
              | (go_at_call 27; refine (C1.out _ (by first | exact (Below.refl _ _).drew | exact belDrewN _ _)).mono ?_; rintro e x1 ⟨rfl, d1⟩; have D1 : Below wc.heap.size wc x1 := Below.trans (by first | exact (Below.refl _ _).drew | exact belDrewN _ _) (d1.mono (Nat.le_refl _)); have r0 := cellLater D1 m0; have r1 := cellLater D1 m1; have r2 := cellLater D1 m2; have r3 := cellLater D1 m3; have r4 := cellLater D1 n0; have r5 := cellLater D1 n1; have r6 := cellLater D1 n2; have r7 := cellLater D1 n3)
              | (go_at_call 27; refine (C2.out _ D1).mono ?_; rintro e x2 ⟨rfl, d2⟩; have D2 : Below wc.heap.size wc x2 := step D1 d2; have s0 := cellLater D2 m0; have s1 := cellLater D2 m1; have s2 := cellLater D2 m2; have s3 := cellLater D2 m3; have s4 := cellLater D2 n0; have s5 := cellLater D2 n1; have s6 := cellLater D2 n2; have s7 := cellLater D2 n3; have X4 := World.new_ne x2 ⟨N, 0, none⟩ s4; have X5 := World.new_ne x2 ⟨N, 1, none⟩ s5; have X6 := World.new_ne x2 ⟨N, 2, none⟩ s6; have X7 := World.new_ne x2 ⟨N, 3, none⟩ s7; have D3 : Below wc.heap.size wc (x2.alloc (.cells #[.int .i64 pa, .int .i64 pb, .int .i64 pc, .string pp, .int .i64 qa, .int .i64 qb, .int .i64 qc, .string qp] 24)) := D2.alloc D2.size _; have X0 := World.new_ne x2 ⟨N2, 0, none⟩ s0; have X1 := World.new_ne x2 ⟨N2, 1, none⟩ s1; have X2 := World.new_ne x2 ⟨N2, 2, none⟩ s2; have X3 := World.new_ne x2 ⟨N2, 3, none⟩ s3; have VR := vtwo x2 ⟨pa, pb, pc, pp⟩ ⟨qa, qb, qc, qp⟩)
              | (go_at_call 27; refine (C3.out _ _ VR D3).mono ?_; rintro e x3 ⟨rfl, d3⟩; have D4 : Below wc.heap.size wc x3 := step D3 d3; have q0 := cellLater D4 m0; have q1 := cellLater D4 m1; have q2 := cellLater D4 m2; have q3 := cellLater D4 m3; have q4 := cellLater D4 n0; have q5 := cellLater D4 n1; have q6 := cellLater D4 n2; have q7 := cellLater D4 n3))
            all_goals
              go_wp2_with fail
              go_ret
              exact ⟨by first | rfl | simp, step hB3 D4⟩

end Go.Proofs.YtiicikieemfcmaaGreatDoor.verMaxes

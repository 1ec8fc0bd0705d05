/-
  Contracts of common, And.
  Contracts of rightTime, rightId, stamp.
  Contract of Text.
-/
import Derived.Test.YthihnpjbdjmbhaaGreatDoorG17
import Derived.Test.YthihnpjbdjmbhaaGreatDoorG12
import Derived.Lib.ItoaLen
import Derived.Test.YthihnpjbdjmbhaaGreatDoorG11

namespace Go.Proofs.YthihnpjbdjmbhaaGreatDoor
set_option linter.unusedSimpArgs false
set_option linter.unusedVariables false
open Go.RowKit Go.Vr Go.Sort Go.Tx Go.Lib
attribute [local go_sem] setCellDrewN allocDrewN

theorem own_apart {w : World} {B B' : Nat} {v v' : Value} {l : List Sp.S} {ts : List Sl} (h : EOwn ES w B v l) (k : EOwn ER w B' v' ts) : v.ownBlock = none ∨ v.ownBlock ≠ v'.ownBlock := by
  rcases h.2 with ⟨rfl, _⟩ | ⟨g, cap, cur, rfl, _, h1, _⟩
  · exact .inl rfl
  · refine .inr fun e => ?_
    rcases k.2 with ⟨rfl, _⟩ | ⟨g', cap', cur', rfl, _, h2, _⟩
    · exact nomatch e
    · have e2 : g = g' := Option.some.inj e
      subst e2
      rw [h1] at h2
      injection h2 with h2
      injection h2 with _ h2
      exact absurd h2 (by decide)
def EachO (w : World) (B : Nat) : List Sl → List (List Sp.S) → Prop
  | [], [] => True
  | t :: ts, l :: ls => EOwn ES w B t.val l ∧ EachO w B ts ls
  | _, _ => False
theorem EachO.each {w : World} {B : Nat} : ∀ {ts : List Sl} {ls : List (List Sp.S)}, EachO w B ts ls → Each w ts ls
  | [], [], _ => trivial
  | t :: _, _ :: _, h => by
    refine ⟨?_, EachO.each h.2⟩
    obtain ⟨ad, cap, e, _, _, hr⟩ := h.1.any
    injection e with e1 e2 e3
    rw [e1, e2]; exact hr
  | [], _ :: _, h => h.elim
  | _ :: _, [], h => h.elim
theorem EachO.later {w w' : World} {B : Nat} (hb : RowKit.Below w.heap.size w w') : ∀ {ts : List Sl} {ls : List (List Sp.S)}, EachO w B ts ls → EachO w' B ts ls
  | [], [], _ => trivial
  | _ :: _, _ :: _, h => ⟨h.1.later hb, EachO.later hb h.2⟩
  | [], _ :: _, h => h.elim
  | _ :: _, [], h => h.elim
theorem EachO.kept {w w' : World} {B B' : Nat} {v : Value} {us : List Sl} (k : EOwn ER w B' v us) (hg : w.grownBy w' v.ownBlock) : ∀ {ts : List Sl} {ls : List (List Sp.S)}, EachO w B ts ls → EachO w' B ts ls
  | [], [], _ => trivial
  | _ :: _, _ :: _, h => ⟨h.1.kept hg (own_apart h.1 k), EachO.kept k hg h.2⟩
  | [], _ :: _, h => h.elim
  | _ :: _, [], h => h.elim
theorem EachO.app {w : World} {B : Nat} : ∀ {ts : List Sl} {ls : List (List Sp.S)} {t : Sl} {l : List Sp.S}, EachO w B ts ls → EOwn ES w B t.val l → EachO w B (ts ++ [t]) (ls ++ [l])
  | [], [], _, _, _, h => ⟨h, trivial⟩
  | _ :: _, _ :: _, _, _, h, k => ⟨h.1, EachO.app h.2 k⟩
  | [], _ :: _, _, _, h, _ => h.elim
  | _ :: _, [], _, _, h, _ => h.elim
theorem EachO.len {w : World} {B : Nat} {ts : List Sl} {ls : List (List Sp.S)} (h : EachO w B ts ls) : ts.length = ls.length := h.each.len

theorem only_len (a b : Sp.C) : (Sp.only Sp.cmpC a b).length ≤ 1 := by unfold Sp.only; split <;> simp
theorem gaps_len : ∀ (l : List Sp.S) (a : Sp.C), (Sp.gaps Sp.cmpC none a l).length ≤ l.length + 1
  | [], a => by have := only_len a none; unfold Sp.gaps; simpa using this
  | s :: l, a => by
    have h1 := only_len a s.1
    have h2 := gaps_len l s.2
    unfold Sp.gaps
    rw [List.length_append, List.length_cons]; omega
theorem not_len (l : List Sp.S) : (Sp.notL l).length ≤ l.length + 1 := gaps_len l _
theorem merge_len : ∀ (l : List Sp.S) (a b : Sp.C), (Sp.merge Sp.cmpC a b l).length ≤ l.length + 1
  | [], a, b => by have := only_len a b; unfold Sp.merge; simpa using this
  | s :: l, a, b => by
    unfold Sp.merge
    split
    · have h1 := only_len a b
      have h2 := merge_len l s.1 (Sp.later Sp.cmpC b s.2)
      rw [List.length_append, List.length_cons]; omega
    · have h2 := merge_len l a (Sp.later Sp.cmpC b s.2)
      rw [List.length_cons]; omega
theorem ins_len (x : Sp.S) : ∀ l : List Sp.S, (Sp.ins x l).length = l.length + 1
  | [] => rfl
  | s :: l => by
    unfold Sp.ins
    split
    · rfl
    · rw [List.length_cons, ins_len x l, List.length_cons]
theorem sorted_len : ∀ l : List Sp.S, (Sp.sorted l).length = l.length
  | [] => rfl
  | x :: l => by show (Sp.ins x (Sp.sorted l)).length = _; rw [ins_len, sorted_len l, List.length_cons]
theorem nrm_len (l : List Sp.S) : (Sp.nrm l).length ≤ l.length + 1 := by
  unfold Sp.nrm
  have hs := sorted_len l
  cases h : Sp.sorted l with
  | nil => simp [Sp.join]
  | cons s r =>
    rw [h] at hs
    have := merge_len (s :: r) s.1 s.2
    show (Sp.merge Sp.cmpC s.1 s.2 (s :: r)).length ≤ _
    omega
theorem flatMap_len : ∀ ls : List (List Sp.S), (ls.flatMap Sp.notL).length ≤ ls.flatten.length + ls.length
  | [] => by simp
  | l :: ls => by
    have h1 := flatMap_len ls
    have h2 := not_len l
    rw [List.flatMap_cons, List.length_append, List.flatten_cons, List.length_append, List.length_cons]; omega

set_option maxHeartbeats 8000000 in
theorem common_any (a : Option Addr) (n cap : Nat) (ls : List (List Sp.S)) (w : World) (hr : RRow w a n ls) (hs : ls.flatten.length + n ≤ 8000) (ho : Sp.okL ls.flatten) (he : Env w) :
    Calls Tryz.prog 35 #[.slice a n cap] w fun e w' => ∃ v', e = .returned v' ∧ EOwn ES w' w.heap.size v' (Sp.allL ls) ∧ RowKit.Below w.heap.size w w' := by
  obtain ⟨ts, hts, hea⟩ := hr.ex
  have hlt := hts.n
  have hll : ls.length = n := by rw [← hea.len]; exact hlt
  have HT := hide hts
  have HEA := hide hea
  have HE := hide he
  have HO := hide ho
  clear hts hea hr he ho
  go_enter Tryz.func35, Tryz.ntmps35
  go_wp2_with fail
  go_loopw [3, 8] (fun o i wr => ∃ (k : Nat) (us : List Sl), k ≤ n ∧ i = .int .i64 k ∧ EOwn ER wr w.heap.size o us ∧ EachO wr w.heap.size us ((ls.take k).map Sp.notL) ∧ RowKit.Below w.heap.size w wr) (fun _ i _ => n - (RowKit.intOf i).toNat)
  case atStart => exact ⟨0, [], by omega, rfl, EOwn.nil _ _, trivial, RowKit.Below.refl _ _⟩
  case round =>
    obtain ⟨k, us, hk, rfl, o1, e1, hB⟩ := hrel
    have hul := e1.len
    rw [List.length_map, List.length_take] at hul
    by_cases hlt' : k < n
    · obtain ⟨b, off, rfl⟩ := HT.out.spot (by omega)
      have h1 : k < ts.length := by omega
      have h2 : k < ls.length := by omega
      have hc := (HT.out.later hB).at_ k ts[k] (List.getElem?_eq_getElem h1) 0 _ rfl
      have hre := (HEA.out.later hB).at_ k h1 h2
      have hc' : wr.cell? ⟨b, off + k, none⟩ = some ts[k].val := by
        have e : off + k * ER.k + 0 = off + k := by show off + k * 1 + 0 = off + k; omega
        rw [e] at hc; exact hc
      have hmem : ∀ s ∈ ls[k], s ∈ ls.flatten := fun s hs => List.mem_flatten.2 ⟨ls[k], List.getElem_mem h2, hs⟩
      have hok : Sp.okL ls[k] := fun s hs => HO.out s (hmem s hs)
      have hlen : ts[k].n ≤ 8000 := by
        have h3 := flat_le ls (k + 1)
        rw [flat_take ls k h2, List.length_append, hre.n] at h3
        omega
      have HM : Hid ((ls.take (k + 1)).map Sp.notL = (ls.take k).map Sp.notL ++ [Sp.notL ls[k]]) := by
        show _ = _
        rw [List.take_succ_eq_append_getElem h2, List.map_append]; rfl
      have CN : Hid (Calls Tryz.prog 11 #[.slice ts[k].a ts[k].n ts[k].cap] wr fun e w' => ∃ v', e = .returned v' ∧ EOwn ES w' wr.heap.size v' (Sp.notL ls[k]) ∧ RowKit.Below wr.heap.size wr w') := not_any _ _ _ _ wr hre (by omega) hok (HE.out.later hB)
      clear hc hre hmem hok
      generalize ts[k] = t at *
      generalize Sp.notL ls[k] = lk at *
      obtain ⟨ta, tn, tc⟩ := t
      have i1 : (0 : Int) ≤ (k : Int) := by omega
      have i2 : (k : Int) < (n : Int) := by omega
      have HO1 := hide o1
      have HE1 := hide e1
      have HBr := hide hB
      clear o1 e1 hB
      go_wp2_with fail
      refine CN.out.mono ?_
      rintro e w2 ⟨v2, rfl, o2, b2⟩
      obtain ⟨ad2, cap2, rfl, hc2, hm2, hr2⟩ := o2.any
      have HO2 := hide o2
      have HOw := hide (HO1.out.later b2)
      have HEw := hide (HE1.out.later b2)
      have HBw := hide (HBr.out.trans (b2.mono HBr.out.size))
      have hsz : wr.heap.size ≤ w2.heap.size := b2.size
      have hwz : w.heap.size ≤ wr.heap.size := HBr.out.size
      clear o2 hr2 b2 CN HO1 HE1
      generalize lk.length = m2 at *
      go_wp2_with (refine wpList_eapp ER rfl _ _ rfl w.heap.size _ us (some _) 1 1 [⟨ad2, m2, cap2⟩] rfl rfl (HOw.out.later (by repeat (first | with_reducible assumption | with_reducible exact Below.refl _ _ | with_reducible refine Below.setCell ?_ (by first | exact Nat.le_refl _ | (simp; done) | (simp; omega)) _ | with_reducible refine bal ?_ _ | with_reducible refine Below.alloc ?_ (by first | exact Nat.le_refl _ | (simp; done) | (simp; omega)) _ | with_reducible refine Below.drew ?_))) (ERow.new ER w2 ⟨ad2, m2, cap2⟩ _) (by simp; omega) (by simp; omega) ?_; intro v' w3 o3 g3 t3)
      go_roundw
      case rel =>
        have hba : RowKit.Below w2.heap.size w2 (w2.alloc (.cells #[.slice ad2 m2 cap2] 28)) := (by repeat (first | with_reducible assumption | with_reducible exact Below.refl _ _ | with_reducible refine Below.setCell ?_ (by first | exact Nat.le_refl _ | (simp; done) | (simp; omega)) _ | with_reducible refine bal ?_ _ | with_reducible refine Below.alloc ?_ (by first | exact Nat.le_refl _ | (simp; done) | (simp; omega)) _ | with_reducible refine Below.drew ?_))
        have oe := HOw.out.later hba
        refine ⟨k + 1, us ++ [⟨ad2, m2, cap2⟩], by omega, by go_num, o3, ?_, ?_⟩
        · rw [HM.out]
          exact ((HEw.out.later hba).app ((HO2.out.later hba).base hwz)).kept oe g3
        · exact (HBw.out.trans (hba.mono HBw.out.size)).grown g3 (by have := hba.size; have := HBw.out.size; omega) (fun j e => (oe.low j e).1)
      case measure => simp [RowKit.intOf]; omega
    · have hd : decide ((k : Int) < (n : Int)) = false := by simp; omega
      have e : ls.take k = ls := List.take_of_length_le (by omega)
      rw [e] at e1
      obtain ⟨ad, cap1, rfl, hc1, hm1, hr1⟩ := o1.any
      have hfl : (ls.map Sp.notL).flatten = ls.flatMap Sp.notL := by rw [List.flatMap_def]
      have hok : Sp.okL (ls.flatMap Sp.notL) := by
        intro s hs
        obtain ⟨l, hl, hs⟩ := List.mem_flatMap.1 hs
        exact Sp.ok_not (fun t ht => HO.out t (List.mem_flatten.2 ⟨l, hl, ht⟩)) s hs
      have hfm := flatMap_len ls
      have CO : Hid (Calls Tryz.prog 15 #[.slice ad us.length cap1] wr fun e w' => ∃ v', e = .returned v' ∧ EOwn ES w' wr.heap.size v' (Sp.nrm (ls.flatMap Sp.notL)) ∧ RowKit.Below wr.heap.size wr w') := by
        have := sor_any ad us.length cap1 (ls.map Sp.notL) wr ⟨us, hr1, e1.each⟩ (by omega) (by rw [hfl]; omega) (by rw [hfl]; exact hok) (HE.out.later hB)
        rw [hfl] at this
        exact this
      have CN : Hid (∀ (W : World) (v : Value), EOwn ES W wr.heap.size v (Sp.nrm (ls.flatMap Sp.notL)) → RowKit.Below w.heap.size w W → Calls Tryz.prog 11 #[v] W fun e w' => ∃ v', e = .returned v' ∧ EOwn ES w' W.heap.size v' (Sp.allL ls) ∧ RowKit.Below W.heap.size W w') := fun W v h1 h2 => by
        obtain ⟨a2, c2, rfl, _, _, h3⟩ := h1.any
        exact not_any _ _ _ _ W h3 (by have := nrm_len (ls.flatMap Sp.notL); omega) (Sp.ok_nrm hok) (HE.out.later h2)
      have HBr := hide hB
      clear o1 e1 hB hr1 hok hfl hul e
      go_wp2_with fail
      refine CO.out.mono ?_
      rintro e w2 ⟨v2, rfl, o2, b2⟩
      have hB2 := HBr.out.trans (b2.mono HBr.out.size)
      have HB2 := hide hB2
      clear b2 CO hB2
      go_wp2_with fail
      refine (CN.out _ _ o2 HB2.out).mono ?_
      rintro e w3 ⟨v3, rfl, o3, b3⟩
      have hB3 := HB2.out.trans (b3.mono HB2.out.size)
      have hs2 := HB2.out.size
      go_wp2_with fail
      go_ret
      exact ⟨v3, rfl, o3.base hs2, hB3⟩

set_option maxHeartbeats 4000000 in
theorem and_any (a b : Option Addr) (n m cn cm : Nat) (l k : List Sp.S) (w : World) (hl : ERow ES w a n l) (hk : ERow ES w b m k) (hn : n + m ≤ 7000) (ho : Sp.okL l) (ho2 : Sp.okL k) (he : Env w) :
    Calls Tryz.prog 14 #[.slice a n cn, .slice b m cm] w fun e w' => ∃ v', e = .returned v' ∧ EOwn ES w' w.heap.size v' (Sp.allL [l, k]) ∧ RowKit.Below w.heap.size w w' := by
  have CC : Hid (Calls Tryz.prog 35 #[.slice (some ⟨w.heap.size, 0, none⟩) 2 2] (w.alloc (.cells #[.slice a n cn, .slice b m cm] 28)) fun e w' => ∃ v', e = .returned v' ∧ EOwn ES w' (w.alloc (.cells #[.slice a n cn, .slice b m cm] 28)).heap.size v' (Sp.allL [l, k]) ∧ RowKit.Below (w.alloc (.cells #[.slice a n cn, .slice b m cm] 28)).heap.size (w.alloc (.cells #[.slice a n cn, .slice b m cm] 28)) w') := by
    have hb : RowKit.Below w.heap.size w (w.alloc (.cells #[.slice a n cn, .slice b m cm] 28)) := (by repeat (first | with_reducible assumption | with_reducible exact Below.refl _ _ | with_reducible refine Below.setCell ?_ (by first | exact Nat.le_refl _ | (simp; done) | (simp; omega)) _ | with_reducible refine bal ?_ _ | with_reducible refine Below.alloc ?_ (by first | exact Nat.le_refl _ | (simp; done) | (simp; omega)) _ | with_reducible refine Below.drew ?_))
    have hX := Box.new w #[.slice a n cn, .slice b m cm] 28
    refine common_any _ 2 2 [l, k] _ ⟨[⟨a, n, cn⟩, ⟨b, m, cm⟩], ?_, hl.later hb, hk.later hb, trivial⟩ ?_ ?_ (he.later hb)
    · refine ⟨rfl, (fun e => nomatch e), fun x e j v hj => ?_⟩
      obtain rfl : ⟨w.heap.size, 0, none⟩ = x := by simpa using e
      rw [addr_add, Nat.zero_add, hX.c]
      simpa [El.encs, ER] using hj
    · simp only [List.flatten_cons, List.flatten_nil, List.append_nil, List.length_append, hl.n, hk.n]; omega
    · intro s hs
      simp only [List.flatten_cons, List.flatten_nil, List.append_nil, List.mem_append] at hs
      exact hs.elim (ho s) (ho2 s)
  clear hl hk ho ho2 he
  generalize Sp.allL [l, k] = r at *
  go_enter Tryz.func14, Tryz.ntmps14
  go_wp2_with fail
  refine CC.out.mono ?_
  rintro e w1 ⟨v1, rfl, o1, b1⟩
  have hB : RowKit.Below w.heap.size w w1 := RowKit.Below.trans ((by repeat (first | with_reducible assumption | with_reducible exact Below.refl _ _ | with_reducible refine Below.setCell ?_ (by first | exact Nat.le_refl _ | (simp; done) | (simp; omega)) _ | with_reducible refine bal ?_ _ | with_reducible refine Below.alloc ?_ (by first | exact Nat.le_refl _ | (simp; done) | (simp; omega)) _ | with_reducible refine Below.drew ?_))) (b1.mono (by simp))
  have o2 := o1.base (show w.heap.size ≤ _ by simp)
  clear CC b1 o1
  go_wp2_with fail
  go_ret
  exact ⟨v1, rfl, o2, hB⟩
end Go.Proofs.YthihnpjbdjmbhaaGreatDoor

namespace Go.Proofs.YthihnpjbdjmbhaaGreatDoor
set_option linter.unusedSimpArgs false
set_option linter.unusedVariables false
open Go.RowKit Go.Vr Go.Sort Go.Tx Go.Lib
attribute [local go_sem] setCellDrewN allocDrewN

theorem repeat_one (c : UInt8) : ∀ n, repeatL [c] n = List.replicate n c
  | 0 => rfl
  | n + 1 => by rw [repeatL, repeat_one c n, List.replicate_succ]; rfl

end Go.Proofs.YthihnpjbdjmbhaaGreatDoor

namespace Go.Proofs.YthihnpjbdjmbhaaGreatDoor
set_option linter.unusedSimpArgs false
set_option linter.unusedVariables false
open Go.RowKit Go.Vr Go.Sort Go.Tx Go.Lib
attribute [local go_sem] setCellDrewN allocDrewN

theorem join3 (x y z : Bs) : join [x, y, z] [46] = x ++ 46 :: (y ++ 46 :: z) := by
  rw [join_cons]; simp [joinTail]
theorem join2 (x y : Bs) : join [x, y] [46] = x ++ 46 :: y := by
  rw [join_cons]; simp [joinTail]
theorem row3_cells (w : World) (x y z : ByteArray) : ∀ (j : Nat) v, [x, y, z][j]? = some v → (w.alloc (.cells #[.string x, .string y, .string z] 9)).cell? ⟨w.heap.size, 0 + j, none⟩ = some (.string v) := by
  intro j v h
  match j, h with
  | 0, h => simp at h; subst h; simp [go_sem]
  | 1, h => simp at h; subst h; simp [go_sem]
  | 2, h => simp at h; subst h; simp [go_sem]
theorem row2_cells (w : World) (x y : ByteArray) : ∀ (j : Nat) v, [x, y][j]? = some v → (w.alloc (.cells #[.string x, .string y] 9)).cell? ⟨w.heap.size, 0 + j, none⟩ = some (.string v) := by
  intro j v h
  match j, h with
  | 0, h => simp at h; subst h; simp [go_sem]
  | 1, h => simp at h; subst h; simp [go_sem]
/-- dotted of three, of two texts, just laid. -/
theorem dotted3 (x y z : ByteArray) (w : World) (hx : x.size ≤ 1000) (hy : y.size ≤ 1000) (hz : z.size ≤ 1000) :
    Calls Tryz.prog 78 #[.slice (some ⟨w.heap.size, 0, none⟩) 3 3] (w.alloc (.cells #[.string x, .string y, .string z] 9)) fun e w' => e = .returned (.string (str (x.data.toList ++ 46 :: (y.data.toList ++ 46 :: z.data.toList)))) ∧ Below w.heap.size w w' := by
  have := dotted_any w.heap.size 0 3 [x, y, z] (w.alloc (.cells #[.string x, .string y, .string z] 9)) (row3_cells w x y z) (by simp) (by simp) (by simp) (by simp only [List.map_cons, List.map_nil]; rw [join3]; simp; omega)
  simp only [List.map_cons, List.map_nil, join3] at this
  exact this.mono fun e w' h => ⟨h.1, ((Below.refl _ _).alloc (Nat.le_refl _) _).trans (h.2.mono (by simp))⟩
theorem dotted2 (x y : ByteArray) (w : World) (hx : x.size ≤ 1000) (hy : y.size ≤ 1000) :
    Calls Tryz.prog 78 #[.slice (some ⟨w.heap.size, 0, none⟩) 2 2] (w.alloc (.cells #[.string x, .string y] 9)) fun e w' => e = .returned (.string (str (x.data.toList ++ 46 :: y.data.toList))) ∧ Below w.heap.size w w' := by
  have := dotted_any w.heap.size 0 2 [x, y] (w.alloc (.cells #[.string x, .string y] 9)) (row2_cells w x y) (by simp) (by simp) (by simp) (by simp only [List.map_cons, List.map_nil]; rw [join2]; simp; omega)
  simp only [List.map_cons, List.map_nil, join2] at this
  exact this.mono fun e w' h => ⟨h.1, ((Below.refl _ _).alloc (Nat.le_refl _) _).trans (h.2.mono (by simp))⟩

set_option maxHeartbeats 2000000 in
set_option maxRecDepth 100000 in
theorem text_any (v : V) (w : World) (hv : v.ok = true) (he : Env w) :
    Calls Tryz.prog 54 #[val v] w fun e w' => e = .returned (.string (str (txt v))) ∧ Below w.heap.size w w' := by
  obtain ⟨ha, hb, hc, hp⟩ := ok_parts hv
  have hp2 : v.p.size ≤ 40 := by rw [preOk_eq] at hp; simp only [Bool.and_eq_true, decide_eq_true_eq] at hp; exact hp.1
  obtain ⟨a, b, c, p⟩ := v
  simp only at ha hb hc hp2
  have hB0 : Below w.heap.size w (w.alloc (.cells #[.int .i64 a, .int .i64 b, .int .i64 c, .string p] 37)) := (Below.refl _ _).alloc (Nat.le_refl _) _
  have HE : Hid (Env (w.alloc (.cells #[.int .i64 a, .int .i64 b, .int .i64 c, .string p] 37))) := he.later hB0
  have s1 := itoa_size a ha.1 (by omega)
  have s2 := itoa_size b hb.1 (by omega)
  have s3 := itoa_size c hc.1 (by omega)
  have HX : Hid (str (txt ⟨a, b, c, p⟩) = (⟨#[118]⟩ : ByteArray) ++ str ((str (itoa a)).data.toList ++ 46 :: ((str (itoa b)).data.toList ++ 46 :: (str (itoa c)).data.toList)) ++ str (tail p.data.toList)) := by
    show str (txt ⟨a, b, c, p⟩) = _
    refine ba_ext ?_
    simp [txt, ba_app, str_list]
  have CA : Hid (∀ W, Env W → Calls Tryz.prog 79 #[.int .i64 a] W fun e w' => e = .returned (.string (str (itoa a))) ∧ Below W.heap.size W w') := fun W hW => itoa_any a W (by omega) (by omega) hW
  have CB : Hid (∀ W, Env W → Calls Tryz.prog 79 #[.int .i64 b] W fun e w' => e = .returned (.string (str (itoa b))) ∧ Below W.heap.size W w') := fun W hW => itoa_any b W (by omega) (by omega) hW
  have CC : Hid (∀ W, Env W → Calls Tryz.prog 79 #[.int .i64 c] W fun e w' => e = .returned (.string (str (itoa c))) ∧ Below W.heap.size W w') := fun W hW => itoa_any c W (by omega) (by omega) hW
  clear he hp hv ha hb hc
  generalize str (itoa a) = xa at *
  generalize str (itoa b) = xb at *
  generalize str (itoa c) = xc at *
  have CJ := hide (fun W => dotted3 xa xb xc W (by omega) (by omega) (by omega))
  have sj : (str (xa.data.toList ++ 46 :: (xb.data.toList ++ 46 :: xc.data.toList))).size ≤ 1000 := by rw [Tx.str_size]; simp; omega
  generalize str (xa.data.toList ++ 46 :: (xb.data.toList ++ 46 :: xc.data.toList)) = xj at *
  have n1 : ¬ 9223372036854775807 < 1 + xj.size := by omega
  go_enter Tryz.func54, Tryz.ntmps54
  go_wp2_with fail
  go_region_held3 (fun w' => w'.cell? ⟨w.heap.size, 0, none⟩ = some (.int .i64 a) ∧ w'.cell? ⟨w.heap.size, 1, none⟩ = some (.int .i64 b) ∧ w'.cell? ⟨w.heap.size, 2, none⟩ = some (.int .i64 c) ∧ w'.cell? ⟨w.heap.size, 3, none⟩ = some (.string p)) (first | go_keep | assumption) (first
    | (go_at_call_of 79 (Value.int .i64 a); refine (CA.out _ (HE.out.later (Below.refl _ _).drew)).mono ?_; rintro e w1 ⟨rfl, b1⟩; have E1 := hide ((HE.out.later (Below.refl _ _).drew).later b1); have hB1 : Below w.heap.size w w1 := hB0.drew.trans (b1.mono (by simp)); have c10 := cellLater (a := ⟨w.heap.size, 0, none⟩) (v := .int .i64 a) b1 (by first | assumption | (simp [go_sem]; done)); have c11 := cellLater (a := ⟨w.heap.size, 1, none⟩) (v := .int .i64 b) b1 (by first | assumption | (simp [go_sem]; done)); have c12 := cellLater (a := ⟨w.heap.size, 2, none⟩) (v := .int .i64 c) b1 (by first | assumption | (simp [go_sem]; done)); have c13 := cellLater (a := ⟨w.heap.size, 3, none⟩) (v := .string p) b1 (by first | assumption | (simp [go_sem]; done)); skip)
    | (go_at_call_of 79 (Value.int .i64 b); refine (CB.out _ (E1.out)).mono ?_; rintro e w2 ⟨rfl, b2⟩; have E2 := hide ((E1.out).later b2); have hB2 : Below w.heap.size w w2 := step hB1 b2; have c20 := cellLater (a := ⟨w.heap.size, 0, none⟩) (v := .int .i64 a) b2 (by first | assumption | (simp [go_sem]; done)); have c21 := cellLater (a := ⟨w.heap.size, 1, none⟩) (v := .int .i64 b) b2 (by first | assumption | (simp [go_sem]; done)); have c22 := cellLater (a := ⟨w.heap.size, 2, none⟩) (v := .int .i64 c) b2 (by first | assumption | (simp [go_sem]; done)); have c23 := cellLater (a := ⟨w.heap.size, 3, none⟩) (v := .string p) b2 (by first | assumption | (simp [go_sem]; done)); skip)
    | (go_at_call_of 79 (Value.int .i64 c); refine (CC.out _ (E2.out)).mono ?_; rintro e w3 ⟨rfl, b3⟩; have E3 := hide ((E2.out).later b3); have hB3 : Below w.heap.size w w3 := step hB2 b3; have c30 := cellLater (a := ⟨w.heap.size, 0, none⟩) (v := .int .i64 a) b3 (by first | assumption | (simp [go_sem]; done)); have c31 := cellLater (a := ⟨w.heap.size, 1, none⟩) (v := .int .i64 b) b3 (by first | assumption | (simp [go_sem]; done)); have c32 := cellLater (a := ⟨w.heap.size, 2, none⟩) (v := .int .i64 c) b3 (by first | assumption | (simp [go_sem]; done)); have c33 := cellLater (a := ⟨w.heap.size, 3, none⟩) (v := .string p) b3 (by first | assumption | (simp [go_sem]; done)); skip)
    | (go_at_call 78; refine (CJ.out _).mono ?_; rintro e w4 ⟨rfl, b4⟩; have hB4 : Below w.heap.size w w4 := step hB3 b4; have c40 := cellLater (a := ⟨w.heap.size, 0, none⟩) (v := .int .i64 a) b4 (by assumption); have c41 := cellLater (a := ⟨w.heap.size, 1, none⟩) (v := .int .i64 b) b4 (by assumption); have c42 := cellLater (a := ⟨w.heap.size, 2, none⟩) (v := .int .i64 c) b4 (by assumption); have c43 := cellLater (a := ⟨w.heap.size, 3, none⟩) (v := .string p) b4 (by assumption)))
  rename_i hHeld
  clear hHeld
  by_cases h0 : p.size = 0
  · have he : p.toList.isEmpty = true := by rw [empty_eq]; simpa using h0
    have HT : Hid (tail p.data.toList = []) := by
      show tail p.data.toList = []
      unfold tail
      rw [if_pos (List.eq_nil_of_length_eq_zero (by rw [len_eq]; exact h0))]
    clear h0
    go_wp2_with fail
    go_ret
    exact ⟨ret_str (by rw [HX.out, HT.out]; refine ba_ext ?_; simp [ba_app, str_list]), hB4⟩
  · have he : p.toList.isEmpty = false := by rw [empty_eq]; simpa using h0
    have HT : Hid (tail p.data.toList = 45 :: p.data.toList) := by
      show tail p.data.toList = _
      unfold tail
      rw [if_neg (fun e => h0 (by have := len_eq p; rw [e] at this; simpa using this.symm))]
    clear h0
    go_wp2_with fail
    go_ret
    exact ⟨ret_str (by rw [HX.out, HT.out]; refine ba_ext ?_; simp [ba_app, str_list]), hB4⟩

end Go.Proofs.YthihnpjbdjmbhaaGreatDoor

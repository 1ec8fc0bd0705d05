/-
  Contract of write where the value is a leaf.
  Contract of writeList.
  Contract of writeMap.
-/
import Derived.Test.YtnmmhihfnphjeaaGreatDoorG22
import Derived.Test.YtnmmhihfnphjeaaGreatDoorG08
import Derived.Test.YtnmmhihfnphjeaaGreatDoorG15

namespace Go.Proofs.YtnmmhihfnphjeaaGreatDoor.B
set_option linter.unusedSimpArgs false
set_option linter.unusedVariables false
open Go.RowKit Go.Vr Go.Sort Go.Tx Go.Lib
open Go.Br hiding Bs
open Go.Proofs.YtnmmhihfnphjeaaGreatDoor.W (quote_any)
attribute [local go_sem] setCellDrewN allocDrewN

/-- The library's variables, below a builder. -/
def EnvB (b : Nat) (w : World) : Prop := ∃ w0, Env w0 ∧ w0.heap.size ≤ b ∧ Below w0.heap.size w0 w
theorem EnvB.env {b : Nat} {w : World} (h : EnvB b w) : Env w := by
  obtain ⟨w0, h0, _, h2⟩ := h; exact h0.later h2
theorem EnvB.next {b : Nat} {w w' : World} (h : EnvB b w) (k : WF b w w') : EnvB b w' := by
  obtain ⟨w0, h0, h1, h2⟩ := h; exact ⟨w0, h0, h1, h2.trans (k.lo.mono h1)⟩
/-- How a writing ends. -/
def WPost (b : Nat) (l t : Bs) (w : World) (e : Ending) (w' : World) : Prop := e = .returned (.tuple #[]) ∧ Bk b (l ++ t) w' ∧ WF b w w'

theorem ifb_any (t : Bool) (w : World) :
    Calls Tryz.prog 57 #[.bool t] w fun e w' => e = .returned (.string (str (if t then [116, 114, 117, 101] else [102, 97, 108, 115, 101]))) ∧ w' = w := by
  go_enter Tryz.func57, Tryz.ntmps57
  cases t with
  | true =>
    go_wp2_with fail
    go_ret
    exact ⟨rfl, rfl⟩
  | false =>
    go_wp2_with fail
    go_ret
    exact ⟨rfl, rfl⟩
theorem formatBool_any (t : Bool) (w : World) :
    Calls Tryz.prog 38 #[.bool t] w fun e w' => e = .returned (.string (str (if t then [116, 114, 117, 101] else [102, 97, 108, 115, 101]))) ∧ w' = w := by
  cases t with
  | true =>
    have CF := hide (ifb_any true w)
    go_enter Tryz.func38, Tryz.ntmps38
    go_wp2_with fail
    refine CF.out.mono ?_
    rintro e w2 ⟨rfl, rfl⟩
    go_wp2_with fail
    go_ret
    exact ⟨rfl, rfl⟩
  | false =>
    have CF := hide (ifb_any false w)
    go_enter Tryz.func38, Tryz.ntmps38
    go_wp2_with fail
    refine CF.out.mono ?_
    rintro e w2 ⟨rfl, rfl⟩
    go_wp2_with fail
    go_ret
    exact ⟨rfl, rfl⟩

set_option maxHeartbeats 4000000 in
set_option maxRecDepth 100000 in
theorem write_text (s : Bs) (b : Nat) (l : Bs) (w : World) (hk : Bk b l w) (hs : s.length ≤ 1000000) (hl : l.length + (quote s).length ≤ 140737488355328) :
    Calls Tryz.prog 22 #[.pointer (some ⟨b, 0, none⟩), .agg #[.int .i64 1, .int .i64 0, .string (str s), .slice none 0 0, .slice none 0 0]] w (WPost b l (quote s) w) := by
  have B0 := hide (show Below w.heap.size w (w.alloc (.cells #[.int .i64 1, .int .i64 0, .string (str s), .slice none 0 0, .slice none 0 0] 28)) from (by repeat (first | with_reducible assumption | with_reducible exact Below.refl _ _ | with_reducible refine Below.setCell ?_ (by first | exact Nat.le_refl _ | (simp; done) | (simp; omega)) _ | with_reducible refine bal ?_ _ | with_reducible refine Below.alloc ?_ (by first | exact Nat.le_refl _ | (simp; done) | (simp; omega)) _ | with_reducible refine Below.drew ?_)))
  have HK := hide (hk.below B0.out)
  have CQ := hide (quote_any (str s) (w.alloc (.cells #[.int .i64 1, .int .i64 0, .string (str s), .slice none 0 0, .slice none 0 0] 28)) (by show s.length ≤ _; omega))
  have hb := hide hk.lt
  have HL := hide hl
  clear hk hl
  go_enter Tryz.func22, Tryz.ntmps22
  go_wp2_with fail
  refine CQ.out.mono ?_
  rintro e w2 ⟨rfl, hb2⟩
  have CW := hide (wstr b l (quote s) w2 (HK.out.below hb2) HL.out)
  have HB2 := hide (WF.ofBelow (B0.out.trans (hb2.mono B0.out.size)) (Nat.le_of_lt hb.out))
  clear hb2 CQ
  go_wp2_with fail
  refine CW.out.mono ?_
  rintro e w3 ⟨⟨n, rfl⟩, h2, h3⟩
  have HV := hide (show WPost b l (quote s) w (.returned (.tuple #[])) w3 from ⟨rfl, h2, HB2.out.trans h3⟩)
  clear h2 h3 CW
  go_wp2_with fail
  exact bodyPost_ret (v := .tuple #[]) (by simp [results, Tryz.results22, go_sem, *]) rfl HV.out

set_option maxHeartbeats 4000000 in
set_option maxRecDepth 100000 in
theorem write_num (n : Int) (b : Nat) (l : Bs) (w : World) (hk : Bk b l w) (he : EnvB b w) (h1 : -9223372036854775808 ≤ n) (h2 : n ≤ 9223372036854775807) (hl : l.length + (itoa n).length ≤ 140737488355328) :
    Calls Tryz.prog 22 #[.pointer (some ⟨b, 0, none⟩), .agg #[.int .i64 2, .int .i64 n, .string ⟨#[]⟩, .slice none 0 0, .slice none 0 0]] w (WPost b l (itoa n) w) := by
  have B0 := hide (show Below w.heap.size w (w.alloc (.cells #[.int .i64 2, .int .i64 n, .string ⟨#[]⟩, .slice none 0 0, .slice none 0 0] 28)) from (by repeat (first | with_reducible assumption | with_reducible exact Below.refl _ _ | with_reducible refine Below.setCell ?_ (by first | exact Nat.le_refl _ | (simp; done) | (simp; omega)) _ | with_reducible refine bal ?_ _ | with_reducible refine Below.alloc ?_ (by first | exact Nat.le_refl _ | (simp; done) | (simp; omega)) _ | with_reducible refine Below.drew ?_)))
  have HK := hide (hk.below B0.out)
  have CQ := hide (itoa_any n (w.alloc (.cells #[.int .i64 2, .int .i64 n, .string ⟨#[]⟩, .slice none 0 0, .slice none 0 0] 28)) h1 h2 (he.env.later B0.out))
  have hb := hide hk.lt
  have HL := hide hl
  clear hk hl he h1 h2
  go_enter Tryz.func22, Tryz.ntmps22
  go_wp2_with fail
  refine CQ.out.mono ?_
  rintro e w2 ⟨rfl, hb2⟩
  have CW := hide (wstr b l (itoa n) w2 (HK.out.below hb2) HL.out)
  have HB2 := hide (WF.ofBelow (B0.out.trans (hb2.mono B0.out.size)) (Nat.le_of_lt hb.out))
  clear hb2 CQ
  go_wp2_with fail
  refine CW.out.mono ?_
  rintro e w3 ⟨⟨n3, rfl⟩, h2, h3⟩
  have HV := hide (show WPost b l (itoa n) w (.returned (.tuple #[])) w3 from ⟨rfl, h2, HB2.out.trans h3⟩)
  clear h2 h3 CW
  go_wp2_with fail
  exact bodyPost_ret (v := .tuple #[]) (by simp [results, Tryz.results22, go_sem, *]) rfl HV.out

set_option maxHeartbeats 4000000 in
set_option maxRecDepth 100000 in
theorem write_bool (t : Bool) (b : Nat) (l : Bs) (w : World) (hk : Bk b l w) (hl : l.length + 5 ≤ 140737488355328) :
    Calls Tryz.prog 22 #[.pointer (some ⟨b, 0, none⟩), .agg #[.int .i64 3, .int .i64 (if t then 1 else 0), .string ⟨#[]⟩, .slice none 0 0, .slice none 0 0]] w (WPost b l (leafT (.inr (.inr t))) w) := by
  cases t with
  | true =>
    have B0 := hide (show Below w.heap.size w (w.alloc (.cells #[.int .i64 3, .int .i64 1, .string ⟨#[]⟩, .slice none 0 0, .slice none 0 0] 28)) from (by repeat (first | with_reducible assumption | with_reducible exact Below.refl _ _ | with_reducible refine Below.setCell ?_ (by first | exact Nat.le_refl _ | (simp; done) | (simp; omega)) _ | with_reducible refine bal ?_ _ | with_reducible refine Below.alloc ?_ (by first | exact Nat.le_refl _ | (simp; done) | (simp; omega)) _ | with_reducible refine Below.drew ?_)))
    have HK := hide (hk.below B0.out)
    have CQ := hide (formatBool_any true (w.alloc (.cells #[.int .i64 3, .int .i64 1, .string ⟨#[]⟩, .slice none 0 0, .slice none 0 0] 28)))
    have hb := hide hk.lt
    have CW := hide (wstr b l [116, 114, 117, 101] _ HK.out (by simp; omega))
    have HB2 := hide (WF.ofBelow B0.out (Nat.le_of_lt hb.out))
    clear hk hl
    go_enter Tryz.func22, Tryz.ntmps22
    go_wp2_with fail
    refine CQ.out.mono ?_
    rintro e w2 ⟨rfl, rfl⟩
    clear CQ
    go_wp2_with fail
    refine CW.out.mono ?_
    rintro e w3 ⟨⟨n3, rfl⟩, h2, h3⟩
    have HV := hide (show WPost b l (leafT (.inr (.inr true))) w (.returned (.tuple #[])) w3 from ⟨rfl, h2, HB2.out.trans h3⟩)
    clear h2 h3 CW
    go_wp2_with fail
    exact bodyPost_ret (v := .tuple #[]) (by simp [results, Tryz.results22, go_sem, *]) rfl HV.out
  | false =>
    have B0 := hide (show Below w.heap.size w (w.alloc (.cells #[.int .i64 3, .int .i64 0, .string ⟨#[]⟩, .slice none 0 0, .slice none 0 0] 28)) from (by repeat (first | with_reducible assumption | with_reducible exact Below.refl _ _ | with_reducible refine Below.setCell ?_ (by first | exact Nat.le_refl _ | (simp; done) | (simp; omega)) _ | with_reducible refine bal ?_ _ | with_reducible refine Below.alloc ?_ (by first | exact Nat.le_refl _ | (simp; done) | (simp; omega)) _ | with_reducible refine Below.drew ?_)))
    have HK := hide (hk.below B0.out)
    have CQ := hide (formatBool_any false (w.alloc (.cells #[.int .i64 3, .int .i64 0, .string ⟨#[]⟩, .slice none 0 0, .slice none 0 0] 28)))
    have hb := hide hk.lt
    have CW := hide (wstr b l [102, 97, 108, 115, 101] _ HK.out (by simp; omega))
    have HB2 := hide (WF.ofBelow B0.out (Nat.le_of_lt hb.out))
    clear hk hl
    go_enter Tryz.func22, Tryz.ntmps22
    go_wp2_with fail
    refine CQ.out.mono ?_
    rintro e w2 ⟨rfl, rfl⟩
    clear CQ
    go_wp2_with fail
    refine CW.out.mono ?_
    rintro e w3 ⟨⟨n3, rfl⟩, h2, h3⟩
    have HV := hide (show WPost b l (leafT (.inr (.inr false))) w (.returned (.tuple #[])) w3 from ⟨rfl, h2, HB2.out.trans h3⟩)
    clear h2 h3 CW
    go_wp2_with fail
    exact bodyPost_ret (v := .tuple #[]) (by simp [results, Tryz.results22, go_sem, *]) rfl HV.out

theorem escs_ge : ∀ l : Bs, l.length ≤ (escs l).length
  | [] => by simp
  | c :: t => by
    have h1 := (esc1_len c).1
    have h2 := escs_ge t
    show _ ≤ (esc1 c ++ escs t).length
    rw [List.length_append, List.length_cons]
    omega
theorem quote_ge (s : Bs) : s.length ≤ (quote s).length := by
  have := escs_ge s
  unfold quote
  simp
  omega

/-- A leaf is written. -/
theorem write_leaf (x : Leaf) (b : Nat) (l : Bs) (w : World) (hk : Bk b l w) (he : EnvB b w) (hx : leafOk x) (hl : l.length + (leafT x).length ≤ 1000000) :
    Calls Tryz.prog 22 #[.pointer (some ⟨b, 0, none⟩), (leafSV x).val] w (WPost b l (leafT x) w) := by
  match x, hx, hl with
  | .inl s, _, hl =>
    have hq := quote_ge s
    have hl' : l.length + (quote s).length ≤ 1000000 := hl
    exact write_text s b l w hk (by omega) (by omega)
  | .inr (.inl n), hx, hl => exact write_num n b l w hk he (by have := hx.1; omega) (by have := hx.2; omega) (by have : l.length + (itoa n).length ≤ 1000000 := hl; omega)
  | .inr (.inr true), _, hl => exact write_bool true b l w hk (by have : l.length + 4 ≤ 1000000 := hl; omega)
  | .inr (.inr false), _, hl => exact write_bool false b l w hk (by have : l.length + 5 ≤ 1000000 := hl; omega)

end Go.Proofs.YtnmmhihfnphjeaaGreatDoor.B

namespace Go.Proofs.YtnmmhihfnphjeaaGreatDoor.B
set_option linter.unusedSimpArgs false
set_option linter.unusedVariables false
open Go.RowKit Go.Vr Go.Sort Go.Tx Go.Lib
open Go.Br hiding Bs
attribute [local go_sem] setCellDrewN allocDrewN

/-- The first k of them, commas between. -/
def pj (ts : List Bs) (k : Nat) : Bs := cjoin (ts.take k)
theorem pj_zero (ts : List Bs) : pj ts 0 = [] := rfl
theorem pj_all (ts : List Bs) : pj ts ts.length = cjoin ts := by unfold pj; rw [List.take_length]
theorem cjoin_snoc (x : Bs) : ∀ ts : List Bs, ts ≠ [] → cjoin (ts ++ [x]) = cjoin ts ++ ([44] ++ x)
  | [], h => absurd rfl h
  | y :: r, _ => by simp [cjoin]
theorem pj_next (ts : List Bs) (k : Nat) (h : k < ts.length) : pj ts (k + 1) = pj ts k ++ ((if 0 < k then [44] else []) ++ ts[k]) := by
  unfold pj
  rw [List.take_succ_eq_append_getElem h]
  by_cases h0 : 0 < k
  · rw [if_pos h0]
    refine cjoin_snoc _ _ ?_
    intro e
    have := congrArg List.length e
    rw [List.length_take, List.length_nil] at this
    omega
  · obtain rfl : k = 0 := by omega
    simp [cjoin]
theorem pj_mono (ts : List Bs) : ∀ (m k : Nat), k + m ≤ ts.length → (pj ts k).length ≤ (pj ts (k + m)).length
  | 0, _, _ => Nat.le_refl _
  | m + 1, k, h => by
    have h1 := pj_mono ts m k (by omega)
    have h2 := pj_next ts (k + m) (by omega)
    rw [← Nat.add_assoc, h2, List.length_append]
    omega
theorem pj_len (ts : List Bs) (k : Nat) (h : k ≤ ts.length) : (pj ts k).length ≤ (cjoin ts).length := by
  have := pj_mono ts (ts.length - k) k (by omega)
  rw [show k + (ts.length - k) = ts.length by omega, pj_all] at this
  exact this

/-- A variable behind a writing. -/
theorem box_wf {b : Nat} {w w' : World} (vs : Array Value) (T : TypeId) (hT : T ≠ 5) (hb : b < w.heap.size) (h : WF b (w.alloc (.cells vs T)) w') : Box w' w.heap.size vs := by
  have e : (w.alloc (.cells vs T)).heap[w.heap.size]? = some (.cells vs T (0, 0)) := heap_alloc_new _ _
  have e2 := h.ot w.heap.size _ e (by intro k; injection k with k; omega) (by intro c fz k; injection k with _ k; exact hT k)
  exact (Box.new w vs T).of_block (e2.trans e.symm)
theorem VH.wf {w w' : World} {b d : Nat} {x : Val d} {v : SV} (h : VH w (fun k => k < b) d x v) (k : WF b w w') : VH w' (fun k => k < b) d x v := h.keep (fun i hi _ => k.lo.block i hi) (fun _ h _ => h)
theorem QRow.wf {α : Type} {E : El α} {w w' : World} {b : Nat} {a : Option Addr} {n c : Nat} {l : List α} (h : QRow E w (fun k => k < b) a n c l) (k : WF b w w') : QRow E w' (fun k => k < b) a n c l := h.keep (fun i hi _ => k.lo.block i hi) (fun _ h _ => h)
theorem EV_at {w : World} {b off len : Nat} {l : List SV} (h : ERow EV w (some ⟨b, off, none⟩) len l) (j : Nat) (s : SV) (hj : l[j]? = some s) :
    w.cell? ⟨b, off + j * 5, none⟩ = some (.int .i64 s.k) ∧ w.cell? ⟨b, off + j * 5 + 1, none⟩ = some (.int .i64 s.n) ∧ w.cell? ⟨b, off + j * 5 + 2, none⟩ = some (.string s.s) ∧ w.cell? ⟨b, off + j * 5 + 3, none⟩ = some (.slice s.ka s.kn s.kc) ∧ w.cell? ⟨b, off + j * 5 + 4, none⟩ = some (.slice s.la s.ln s.lc) :=
  ⟨h.at_ j s hj 0 _ rfl, h.at_ j s hj 1 _ rfl, h.at_ j s hj 2 _ rfl, h.at_ j s hj 3 _ rfl, h.at_ j s hj 4 _ rfl⟩
theorem measB {m k : Nat} {z : Int} (e : z = ((k + 1 : Nat) : Int)) (h : k < m) : m - (RowKit.intOf (Value.int .i64 z)).toNat < m - (RowKit.intOf (Value.int .i64 (k : Int))).toNat := by
  subst e
  show m - (((k + 1 : Nat) : Int)).toNat < m - ((k : Nat) : Int).toNat
  omega

/-- Writing of values of depth d. -/
def WriteAt (d : Nat) : Prop := ∀ (x : Val d) (v : SV) (b : Nat) (l : Bs) (w : World), Bk b l w → EnvB b w → VH w (fun k => k < b) d x v → okV d x → l.length + (textV d x).length ≤ 1000000 →
  Calls Tryz.prog 22 #[.pointer (some ⟨b, 0, none⟩), v.val] w (WPost b l (textV d x) w)

set_option maxHeartbeats 8000000 in
set_option maxRecDepth 100000 in
theorem writeList_any (d : Nat) (H : WriteAt d) (xs : List (Val d)) (us : List SV) (a : Option Addr) (n c : Nat) (b : Nat) (l : Bs) (w : World) (hk : Bk b l w) (he : EnvB b w) (hr : QRow EV w (fun k => k < b) a n c us) (hv : All2 (VH w (fun k => k < b) d) xs us) (ho : ∀ x ∈ xs, okV d x) (hl : l.length + (91 :: (cjoin (xs.map (textV d)) ++ [93])).length ≤ 1000000) :
    Calls Tryz.prog 39 #[.pointer (some ⟨b, 0, none⟩), .slice a n c] w (WPost b l (91 :: (cjoin (xs.map (textV d)) ++ [93])) w) := by
  have hn := hide hr.row.n
  have hxn := hide hv.len
  have hN : Hid (n ≤ maxLen) := Nat.le_trans hr.le hr.mx
  have htn : Hid ((xs.map (textV d)).length = n) := by show _ = _; rw [List.length_map]; exact hxn.out.trans hn.out
  have hL : Hid (l.length + (cjoin (xs.map (textV d))).length + 2 ≤ 1000000) := by show _ ≤ _; simp only [List.length_cons, List.length_append, List.length_nil] at hl; omega
  have HR := hide hr
  have HVs := hide hv
  have HO := hide ho
  have HE := hide he
  have HW := hide H
  have hts : ∀ i (h : i < xs.length), (xs.map (textV d))[i]? = some (textV d xs[i]) := fun i h => by rw [List.getElem?_map, List.getElem?_eq_getElem h]; rfl
  have HT := hide hts
  clear hts hr hv ho he hl H
  generalize xs.map (textV d) = ts at *
  have CB := hide (wbyte b l 91 w hk (by have := hL.out; omega))
  have hb := hide hk.lt
  clear hk
  go_enter Tryz.func39, Tryz.ntmps39
  go_wp2_with fail
  refine CB.out.mono ?_
  rintro e w1 ⟨rfl, hk1, hf1⟩
  have HK1 := hide (show Bk b (l ++ 91 :: pj ts 0) w1 from hk1)
  have HF1 := hide hf1
  clear hk1 hf1 CB
  go_wp2_with fail
  go_loopw [10] (fun i wr => ∃ k : Nat, k ≤ n ∧ i = .int .i64 k ∧ Hid (Bk b (l ++ 91 :: pj ts k) wr) ∧ Hid (WF b w wr)) (fun i _ => n - (RowKit.intOf i).toNat)
  case atStart => exact ⟨0, Nat.zero_le _, rfl, HK1, HF1⟩
  case round =>
    obtain ⟨k, hk, rfl, HK, HF⟩ := hrel
    clear HK1 HF1
    by_cases hlt : k < n
    · have hkt : k < ts.length := by have := htn.out; omega
      have hku : k < us.length := by have := hn.out; omega
      have hkx : k < xs.length := by have := hxn.out; have := hn.out; omega
      obtain ⟨g, off, rfl⟩ := HR.out.row.spot (by omega)
      obtain ⟨u, hu, hxu⟩ := HVs.out.at_ k xs[k] (List.getElem?_eq_getElem hkx)
      obtain ⟨d0, d1, d2, d3, d4⟩ := EV_at (HR.out.wf HF.out).row k u hu
      have hokx := HO.out _ (List.getElem_mem hkx)
      have hVr := hxu.wf HF.out
      have hTk : ts[k] = textV d xs[k] := by have := HT.out k hkx; rw [List.getElem?_eq_getElem hkt] at this; exact Option.some.inj this
      have HP := hide (pj_next ts k hkt)
      have hP1 := pj_len ts (k + 1) (by omega)
      have hlen : l.length + (pj ts k).length + (textV d xs[k]).length + 5 ≤ 1000010 := by
        have h1 := hL.out
        have h2 := congrArg List.length HP.out
        rw [List.length_append, List.length_append, hTk] at h2
        omega
      rw [hTk] at HP
      have hlen2 : 0 < k → l.length + (pj ts k).length + 1 + (textV d xs[k]).length + 2 ≤ 1000000 := fun h0 => by
        have h1 := hL.out
        have h2 := congrArg List.length HP.out
        rw [if_pos h0, List.length_append, List.length_append, List.length_singleton] at h2
        omega
      have hlen1 : l.length + (pj ts k).length + (textV d xs[k]).length + 2 ≤ 1000000 := by
        have h1 := hL.out
        have h2 := congrArg List.length HP.out
        rw [List.length_append, List.length_append] at h2
        omega
      obtain ⟨uk, un, us', uka, ukn, ukc, ula, uln, ulc⟩ := u
      have B1 : Below wr.heap.size wr (wr.alloc (.cells #[.int .i64 uk, .int .i64 un, .string us', .slice uka ukn ukc, .slice ula uln ulc] 28)) := (by repeat (first | with_reducible assumption | with_reducible exact Below.refl _ _ | with_reducible refine Below.setCell ?_ (by first | exact Nat.le_refl _ | (simp; done) | (simp; omega)) _ | with_reducible refine bal ?_ _ | with_reducible refine Below.alloc ?_ (by first | exact Nat.le_refl _ | (simp; done) | (simp; omega)) _ | with_reducible refine Below.drew ?_))
      have F1 := hide (WF.ofBelow B1 (Nat.le_of_lt HK.out.lt))
      have K1 := hide (HK.out.below B1)
      have E1 := hide ((HE.out.next HF.out).next F1.out)
      have V1 := hide (hVr.wf F1.out)
      have HKW : Hid (wrap64 ((k : Int) + 1) = ((k + 1 : Nat) : Int)) := by show _ = _; have := hN.out; unfold maxLen at this; unfold wrap64; omega
      have hbx := hide (fun w' => box_wf (b := b) (w := wr) (w' := w') #[.int .i64 uk, .int .i64 un, .string us', .slice uka ukn ukc, .slice ula uln ulc] 28 (by decide) HK.out.lt)
      have i1 : (0 : Int) ≤ (k : Int) := by omega
      have i2 : (k : Int) < (n : Int) := by omega
      have hKn : ((k : Int)).toNat = k := Int.toNat_natCast k
      have Hok := hide hokx
      have Hl1 := hide hlen1
      have Hl2 := hide hlen2
      clear hxu hokx hVr hTk hP1 hlen hlen1 hlen2 B1 hu
      generalize xs[k] = x at *
      by_cases hk0 : 0 < k
      · have K0 : (0 : Int) < (k : Int) := by omega
        have Ht := hide (show l ++ 91 :: pj ts (k + 1) = ((l ++ 91 :: pj ts k) ++ [44]) ++ textV d x by rw [HP.out, if_pos hk0]; simp)
        have CC := hide (wbyte b (l ++ 91 :: pj ts k) 44 _ K1.out (by have := Hl1.out; simp; omega))
        have hlt' := hide hlt
        clear hlt hk0 hk
        go_wp2_with fail
        refine CC.out.mono ?_
        rintro e w2 ⟨rfl, k2, f2⟩
        have hx2 := hbx.out _ f2
        have xc := hx2.c
        have xf := hx2.f
        have CV := hide (HW.out x ⟨uk, un, us', uka, ukn, ukc, ula, uln, ulc⟩ b _ w2 k2 (E1.out.next f2) (V1.out.wf f2) Hok.out (by have := Hl2.out (by omega); simp; omega))
        have F2 := hide ((HF.out.trans F1.out).trans f2)
        clear k2 f2 CC hx2
        go_wp2_with fail
        refine CV.out.mono ?_
        rintro e w3 ⟨rfl, k3, f3⟩
        have K3 := hide k3
        have F3 := hide f3
        clear k3 f3 CV xc xf
        go_wp2_with fail
        go_roundw
        case rel => exact ⟨k + 1, by have := hlt'.out; omega, (by first | exact congrArg (Value.int .i64) HKW.out | rfl), (show Bk _ _ _ by rw [Ht.out]; exact K3.out), F2.out.trans F3.out⟩
        case measure => exact measB (by first | exact HKW.out | rfl) hlt'.out
      · have K0 : ¬ (0 : Int) < (k : Int) := by omega
        have Ht := hide (show l ++ 91 :: pj ts (k + 1) = (l ++ 91 :: pj ts k) ++ textV d x by rw [HP.out, if_neg hk0]; simp)
        have CV := hide (HW.out x ⟨uk, un, us', uka, ukn, ukc, ula, uln, ulc⟩ b _ _ K1.out E1.out V1.out Hok.out (by have := Hl1.out; simp; omega))
        have hlt' := hide hlt
        clear hlt hk0 hk
        go_wp2_with fail
        refine CV.out.mono ?_
        rintro e w3 ⟨rfl, k3, f3⟩
        have K3 := hide k3
        have F3 := hide f3
        clear k3 f3 CV
        go_wp2_with fail
        go_roundw
        case rel => exact ⟨k + 1, by have := hlt'.out; omega, (by first | exact congrArg (Value.int .i64) HKW.out | rfl), (show Bk _ _ _ by rw [Ht.out]; exact K3.out), (HF.out.trans F1.out).trans F3.out⟩
        case measure => exact measB (by first | exact HKW.out | rfl) hlt'.out
    · obtain rfl : k = n := by omega
      have CZ := hide (wbyte b (l ++ 91 :: pj ts k) 93 wr HK.out (by have := pj_len ts k (by have := htn.out; omega); have := hL.out; simp; omega))
      have Ht := hide (show (l ++ 91 :: pj ts k) ++ [93] = l ++ (91 :: (cjoin ts ++ [93])) by rw [← pj_all ts, htn.out]; simp)
      have i2 : ¬ ((k : Int) < (k : Int)) := by omega
      clear hlt hk
      go_wp2_with fail
      refine CZ.out.mono ?_
      rintro e w3 ⟨rfl, k3, f3⟩
      have HV := hide (show WPost b l (91 :: (cjoin ts ++ [93])) w (.returned (.tuple #[])) w3 from ⟨rfl, by rw [← Ht.out]; exact k3, HF.out.trans f3⟩)
      clear k3 f3 CZ
      go_wp2_with fail
      exact bodyPost_ret (v := .tuple #[]) (by simp [results, Tryz.results39, go_sem, *]) rfl HV.out

end Go.Proofs.YtnmmhihfnphjeaaGreatDoor.B

namespace Go.Proofs.YtnmmhihfnphjeaaGreatDoor.B
set_option linter.unusedSimpArgs false
set_option linter.unusedVariables false
open Go.RowKit Go.Vr Go.Sort Go.Tx Go.Lib
open Go.Br hiding Bs
open Go.Proofs.YtnmmhihfnphjeaaGreatDoor.W (quote_any)
attribute [local go_sem] setCellDrewN allocDrewN

/-- A pair's text. -/
def pairT (d : Nat) (kx : Bs × Val d) : Bs := quote kx.1 ++ 58 :: textV d kx.2

set_option maxHeartbeats 8000000 in
set_option maxRecDepth 100000 in
theorem writeMap_any (d : Nat) (H : WriteAt d) (kxs : List (Bs × Val d)) (us : List SV) (v : SV) (b : Nat) (l : Bs) (w : World) (hk : Bk b l w) (he : EnvB b w) (hv0 : v.k = 5 ∧ v.n = 0 ∧ v.s = ⟨#[]⟩) (hrk : QRow ET w (fun k => k < b) v.ka v.kn v.kc (kxs.map Prod.fst)) (hr : QRow EV w (fun k => k < b) v.la v.ln v.lc us) (hv : All2 (VH w (fun k => k < b) d) (kxs.map Prod.snd) us) (ho : ∀ kx ∈ kxs, okV d kx.2) (hl : l.length + (123 :: (cjoin (kxs.map (pairT d)) ++ [125])).length ≤ 1000000) :
    Calls Tryz.prog 40 #[.pointer (some ⟨b, 0, none⟩), v.val] w (WPost b l (123 :: (cjoin (kxs.map (pairT d)) ++ [125])) w) := by
  obtain ⟨vk, vn, vs, ka, kn, kc, la, n, lc⟩ := v
  obtain ⟨rfl, rfl, rfl⟩ := hv0
  have hkn : (kxs.map Prod.fst).length = kn := hrk.row.n
  have hn : us.length = n := hr.row.n
  have hxn : (kxs.map Prod.snd).length = us.length := hv.len
  rw [List.length_map] at hkn hxn
  obtain rfl : kn = n := by omega
  have Hn := hide hn
  have Hx := hide hkn
  have hN : Hid (kn ≤ maxLen) := Nat.le_trans hr.le hr.mx
  have htn : Hid ((kxs.map (pairT d)).length = kn) := by show _ = _; rw [List.length_map]; exact hkn
  have hL : Hid (l.length + (cjoin (kxs.map (pairT d))).length + 2 ≤ 1000000) := by show _ ≤ _; simp only [List.length_cons, List.length_append, List.length_nil] at hl; omega
  have hts : ∀ i (h : i < kxs.length), (kxs.map (pairT d))[i]? = some (pairT d kxs[i]) := fun i h => by rw [List.getElem?_map, List.getElem?_eq_getElem h]; rfl
  have HT := hide hts
  have B0 : Below w.heap.size w (w.alloc (.cells #[.int .i64 5, .int .i64 0, .string ⟨#[]⟩, .slice ka kn kc, .slice la kn lc] 28)) := (by repeat (first | with_reducible assumption | with_reducible exact Below.refl _ _ | with_reducible refine Below.setCell ?_ (by first | exact Nat.le_refl _ | (simp; done) | (simp; omega)) _ | with_reducible refine bal ?_ _ | with_reducible refine Below.alloc ?_ (by first | exact Nat.le_refl _ | (simp; done) | (simp; omega)) _ | with_reducible refine Below.drew ?_))
  have F0 := hide (WF.ofBelow B0 (Nat.le_of_lt hk.lt))
  have HR := hide (hr.wf F0.out)
  have HRK := hide (hrk.wf F0.out)
  have HVs := hide (hv.mono fun x y h => h.wf F0.out)
  have HO := hide ho
  have HE := hide (he.next F0.out)
  have HW := hide H
  have hbx := hide (fun w' => box_wf (b := b) (w := w) (w' := w') #[.int .i64 5, .int .i64 0, .string ⟨#[]⟩, .slice ka kn kc, .slice la kn lc] 28 (by decide) hk.lt)
  have CB := hide (wbyte b l 123 _ (hk.below B0) (by have := hL.out; omega))
  clear hts hr hrk hv ho he hl H hk B0 hn hkn hxn
  generalize kxs.map (pairT d) = ts at *
  go_enter Tryz.func40, Tryz.ntmps40
  go_wp2_with fail
  refine CB.out.mono ?_
  rintro e w1 ⟨rfl, hk1, hf1⟩
  have HK1 := hide (show Bk b (l ++ 123 :: pj ts 0) w1 from hk1)
  have HF1 := hide hf1
  have hx1 := hbx.out _ hf1
  have xc := hx1.c
  have hmin : min (kn : Int) (kn : Int) = (kn : Int) := Int.min_self _
  clear hk1 hf1 CB hx1
  go_wp2_with fail
  clear xc hmin
  generalize hW0 : w.alloc (.cells #[.int .i64 5, .int .i64 0, .string ⟨#[]⟩, .slice ka kn kc, .slice la kn lc] 28) = W0 at *
  clear hW0
  go_loopw [14] (fun i wr => ∃ k : Nat, k ≤ kn ∧ i = .int .i64 k ∧ Hid (Bk b (l ++ 123 :: pj ts k) wr) ∧ Hid (WF b W0 wr)) (fun i _ => kn - (RowKit.intOf i).toNat)
  case atStart => exact ⟨0, Nat.zero_le _, rfl, HK1, HF1⟩
  case round =>
    obtain ⟨k, hk, rfl, HK, HF⟩ := hrel
    clear HK1 HF1
    by_cases hlt : k < kn
    · have hkt : k < ts.length := by have := htn.out; omega
      have hku : k < us.length := by have := Hn.out; omega
      have hkx : k < kxs.length := by have := Hx.out; omega
      obtain ⟨g, off, rfl⟩ := HR.out.row.spot (by omega)
      obtain ⟨g2, off2, rfl⟩ := HRK.out.row.spot (by omega)
      obtain ⟨u, hu, hxu⟩ := HVs.out.at_ k kxs[k].2 (by rw [List.getElem?_map, List.getElem?_eq_getElem hkx]; rfl)
      have hkey : Hid ((kxs.map Prod.fst)[k]? = some kxs[k].1) := by show _ = _; rw [List.getElem?_map, List.getElem?_eq_getElem hkx]; rfl
      have Hok := hide (HO.out _ (List.getElem_mem hkx))
      have hTk : ts[k] = pairT d kxs[k] := by have := HT.out k hkx; rw [List.getElem?_eq_getElem hkt] at this; exact Option.some.inj this
      have HP := pj_next ts k hkt
      have hP1 := pj_len ts (k + 1) (by omega)
      rw [hTk] at HP
      unfold pairT at HP
      have V1 := hide hxu
      generalize kxs[k].1 = key at *
      generalize kxs[k].2 = x at *
      have Hl : Hid (l.length + 1 + (pj ts k).length + (if 0 < k then [44] else ([] : Bs)).length + (quote key).length + 1 + (textV d x).length + 1 ≤ 1000000) := by
        have h1 := hL.out
        have h2 := congrArg List.length HP
        simp only [List.length_append, List.length_cons] at h2
        show _ ≤ _
        omega
      have Ht : Hid (l ++ 123 :: pj ts (k + 1) = (((l ++ 123 :: pj ts k) ++ (if 0 < k then [44] else ([] : Bs))) ++ quote key ++ [58]) ++ textV d x) := by
        show _ = _
        rw [HP]; simp
      obtain ⟨uk, un, us', uka, ukn, ukc, ula, uln, ulc⟩ := u
      have hu := hide hu
      have HKW : Hid (wrap64 ((k : Int) + 1) = ((k + 1 : Nat) : Int)) := by show _ = _; have := hN.out; unfold maxLen at this; unfold wrap64; omega
      have i1 : (0 : Int) ≤ (k : Int) := by omega
      have i2 : (k : Int) < (kn : Int) := by omega
      have hKn : ((k : Int)).toNat = k := Int.toNat_natCast k
      have hlt' := hide hlt
      clear hxu hTk hP1 HP hkt hku hkx
      by_cases hk0 : 0 < k
      · have K0 : (0 : Int) < (k : Int) := by omega
        have CC := hide (wbyte b (l ++ 123 :: pj ts k) 44 _ HK.out (by have := Hl.out; simp; omega))
        simp only [if_pos hk0] at Hl Ht
        clear hlt hk0 hk
        go_wp2_with fail
        refine CC.out.mono ?_
        rintro e w2 ⟨rfl, k2, f2⟩
        have HZ := hide k2
        have FZ := hide (HF.out.trans f2)
        clear k2 f2 CC
        have hxz := hbx.out _ FZ.out
        have xc := hxz.c
        have kc0 := ET_at (HRK.out.wf FZ.out).row k key hkey.out
        have CQ := hide (quote_any (str key) w2 (by rw [str_size]; have := Hl.out; have := quote_ge key; omega))
        rw [str_list] at CQ
        clear hxz
        go_wp2_with fail
        refine CQ.out.mono ?_
        rintro e w3 ⟨rfl, b3⟩
        have CW := hide (wstr b _ (quote key) w3 (HZ.out.below b3) (by have := Hl.out; simp; omega))
        have F3 := hide (FZ.out.trans (WF.ofBelow b3 (Nat.le_of_lt HZ.out.lt)))
        clear b3 CQ xc kc0
        go_wp2_with fail
        refine CW.out.mono ?_
        rintro e w4 ⟨⟨m4, rfl⟩, k4, f4⟩
        have CC2 := hide (wbyte b _ 58 w4 k4 (by have := Hl.out; simp; omega))
        have F4 := hide (F3.out.trans f4)
        clear k4 f4 CW
        go_wp2_with fail
        refine CC2.out.mono ?_
        rintro e w5 ⟨rfl, k5, f5⟩
        have F5 := hide (F4.out.trans f5)
        have hxz := hbx.out _ F5.out
        have xc := hxz.c
        obtain ⟨d0, d1, d2, d3, d4⟩ := EV_at (HR.out.wf F5.out).row k ⟨uk, un, us', uka, ukn, ukc, ula, uln, ulc⟩ hu.out
        have CV := hide (HW.out x ⟨uk, un, us', uka, ukn, ukc, ula, uln, ulc⟩ b _ w5 k5 (HE.out.next F5.out) (V1.out.wf F5.out) Hok.out (by have := Hl.out; simp; omega))
        clear k5 f5 CC2 hxz
        go_wp2_with fail
        refine CV.out.mono ?_
        rintro e w6 ⟨rfl, k6, f6⟩
        have K6 := hide k6
        have F6 := hide (F5.out.trans f6)
        clear k6 f6 CV xc d0 d1 d2 d3 d4
        go_wp2_with fail
        go_roundw
        case rel => exact ⟨k + 1, by have := hlt'.out; omega, (by first | exact congrArg (Value.int .i64) HKW.out | rfl), (show Bk _ _ _ by rw [Ht.out]; exact K6.out), F6⟩
        case measure => exact measB (by first | exact HKW.out | rfl) hlt'.out
      · have K0 : ¬ (0 : Int) < (k : Int) := by omega
        have HZ : Hid (Bk b ((l ++ 123 :: pj ts k) ++ []) wr) := by show Bk _ _ _; rw [List.append_nil]; exact HK.out
        have FZ := hide HF.out
        simp only [if_neg hk0] at Hl Ht
        clear hlt hk0 hk
        have hxz := hbx.out _ FZ.out
        have xc := hxz.c
        have kc0 := ET_at (HRK.out.wf FZ.out).row k key hkey.out
        have CQ := hide (quote_any (str key) wr (by rw [str_size]; have := Hl.out; have := quote_ge key; omega))
        rw [str_list] at CQ
        clear hxz
        go_wp2_with fail
        refine CQ.out.mono ?_
        rintro e w3 ⟨rfl, b3⟩
        have CW := hide (wstr b _ (quote key) w3 (HZ.out.below b3) (by have := Hl.out; simp; omega))
        have F3 := hide (FZ.out.trans (WF.ofBelow b3 (Nat.le_of_lt HZ.out.lt)))
        clear b3 CQ xc kc0
        go_wp2_with fail
        refine CW.out.mono ?_
        rintro e w4 ⟨⟨m4, rfl⟩, k4, f4⟩
        have CC2 := hide (wbyte b _ 58 w4 k4 (by have := Hl.out; simp; omega))
        have F4 := hide (F3.out.trans f4)
        clear k4 f4 CW
        go_wp2_with fail
        refine CC2.out.mono ?_
        rintro e w5 ⟨rfl, k5, f5⟩
        have F5 := hide (F4.out.trans f5)
        have hxz := hbx.out _ F5.out
        have xc := hxz.c
        obtain ⟨d0, d1, d2, d3, d4⟩ := EV_at (HR.out.wf F5.out).row k ⟨uk, un, us', uka, ukn, ukc, ula, uln, ulc⟩ hu.out
        have CV := hide (HW.out x ⟨uk, un, us', uka, ukn, ukc, ula, uln, ulc⟩ b _ w5 k5 (HE.out.next F5.out) (V1.out.wf F5.out) Hok.out (by have := Hl.out; simp; omega))
        clear k5 f5 CC2 hxz
        go_wp2_with fail
        refine CV.out.mono ?_
        rintro e w6 ⟨rfl, k6, f6⟩
        have K6 := hide k6
        have F6 := hide (F5.out.trans f6)
        clear k6 f6 CV xc d0 d1 d2 d3 d4
        go_wp2_with fail
        go_roundw
        case rel => exact ⟨k + 1, by have := hlt'.out; omega, (by first | exact congrArg (Value.int .i64) HKW.out | rfl), (show Bk _ _ _ by rw [Ht.out]; exact K6.out), F6⟩
        case measure => exact measB (by first | exact HKW.out | rfl) hlt'.out
    · obtain rfl : k = kn := by omega
      have CZ := hide (wbyte b (l ++ 123 :: pj ts k) 125 wr HK.out (by have := pj_len ts k (by have := htn.out; omega); have := hL.out; simp; omega))
      have Ht := hide (show (l ++ 123 :: pj ts k) ++ [125] = l ++ (123 :: (cjoin ts ++ [125])) by rw [← pj_all ts, htn.out]; simp)
      have i2 : ¬ ((k : Int) < (k : Int)) := by omega
      clear hlt hk
      go_wp2_with fail
      refine CZ.out.mono ?_
      rintro e w3 ⟨rfl, k3, f3⟩
      have HV := hide (show WPost b l (123 :: (cjoin ts ++ [125])) w (.returned (.tuple #[])) w3 from ⟨rfl, by rw [← Ht.out]; exact k3, (F0.out.trans HF.out).trans f3⟩)
      clear k3 f3 CZ
      go_wp2_with fail
      exact bodyPost_ret (v := .tuple #[]) (by simp [results, Tryz.results40, go_sem, *]) rfl HV.out

end Go.Proofs.YtnmmhihfnphjeaaGreatDoor.B

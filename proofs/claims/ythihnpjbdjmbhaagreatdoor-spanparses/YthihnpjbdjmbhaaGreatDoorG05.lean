/-
  Contract of the reference's word.
  Slices of texts: those that are there, those that the call owns; append.
  Contract of the reference's words.
  Contract of the reference's Right.
-/
import Derived.Test.YthihnpjbdjmbhaaGreatDoorG04
import Derived.Test.YthihnpjbdjmbhaaGreatDoorProg
import Derived.Test.YthihnpjbdjmbhaaGreatDoorG01
import Derived.Sort.EncStr
import Derived.Maps.AppendAt
import Derived.WalkKit
import Derived.WalkSpells
import Derived.WalkLawsBesides
import Derived.Laws.AppendOwnNone

namespace Go.Proofs.YthihnpjbdjmbhaaGreatDoor
set_option linter.unusedVariables false
open Go.RowKit Go.Vr

theorem wordOk_empty (s : ByteArray) (h : s.size = 0) : wordOk s.data.toList = false := by
  unfold wordOk; rw [isEmpty_eq, decide_eq_true h]; rfl
theorem wordOk_zero (s : ByteArray) (hd : digs s.data.toList = true) (h : 1 < s.size) (h0 : (((s[0]).toNat : Int) == 48) = true) : wordOk s.data.toList = false := by
  have e0 : s[0] = 48 := UInt8.toNat_inj.1 (by have := beq_iff_eq.1 h0; show _ = 48; omega)
  have hl : 1 < s.data.toList.length := by rw [Tx.len_eq]; exact h
  unfold wordOk
  rw [hd, Tx.head_eq s (by omega), e0, decide_eq_true hl]; simp
theorem wordOk_else (s : ByteArray) (h1 : s.size ≠ 0) (h : digs s.data.toList = false ∨ ¬ 1 < s.size ∨ ∃ h : 0 < s.size, (((s[0]).toNat : Int) == 48) = false) : wordOk s.data.toList = s.data.toList.all isWd := by
  unfold wordOk
  rw [isEmpty_eq, decide_eq_false h1]
  have : (digs s.data.toList && decide (1 < s.data.toList.length) && (s.data.toList.head? == some 48)) = false := by
    rcases h with h | h | ⟨hp, h⟩
    · rw [h]; rfl
    · rw [Tx.len_eq, decide_eq_false h]; simp
    · rw [Tx.head_eq s hp]
      have : s[0] ≠ 48 := by intro e; rw [e] at h; simp at h
      simp [this]
  rw [this]; simp

set_option maxHeartbeats 800000 in
theorem rword_any (s : ByteArray) (w : World) (hs : s.size ≤ maxLen) :
    Calls Tryz.prog 51 #[.string s] w fun e w' => e = .returned (.bool (wordOk s.data.toList)) ∧ w' = w := by
  have hs0 := hs
  unfold maxLen at hs
  by_cases h0 : s.size = 0
  · have he : s.toList.isEmpty = true := by rw [empty_eq]; simpa using h0
    have HF : Hid (wordOk s.data.toList = false) := wordOk_empty s h0
    clear h0
    go_enter Tryz.func51, Tryz.ntmps51
    go_wp2
    go_ret
    exact ⟨ret_bool HF.out.symm, rfl⟩
  have he : s.toList.isEmpty = false := by rw [empty_eq]; simpa using h0
  have hpos : 0 < s.size := by omega
  by_cases hz : digs s.data.toList = true ∧ 1 < s.size ∧ (((s[0]).toNat : Int) == 48) = true
  · obtain ⟨z1, z2, z3⟩ := hz
    have HF : Hid (wordOk s.data.toList = false) := wordOk_zero s z1 z2 z3
    have z4 : decide ((1 : Int) < s.size) = true := by simp; omega
    have Z1 : Hid (digs s.data.toList = true) := z1
    clear z1
    go_enter Tryz.func51, Tryz.ntmps51
    go_wp2_with (go_at_call 76; refine (rdigs_any _ _ hs0).mono ?_; rw [Z1.out]; rintro e w' ⟨rfl, rfl⟩)
    go_ret
    exact ⟨ret_bool HF.out.symm, rfl⟩
  have HE : Hid (wordOk s.data.toList = s.data.toList.all isWd) := wordOk_else s h0 (by
    by_cases q1 : digs s.data.toList = true
    · by_cases q2 : 1 < s.size
      · refine .inr (.inr ⟨hpos, ?_⟩)
        cases q3 : (((s[0]).toNat : Int) == 48) with
        | true => exact absurd ⟨q1, q2, q3⟩ hz
        | false => rfl
      · exact .inr (.inl q2)
    · exact .inl (by simpa using q1))
  have key : ∀ (b1 b2 b3 : Bool), Hid (digs s.data.toList = b1) → decide ((1 : Int) < s.size) = b2 → (((s[0]).toNat : Int) == 48) = b3 → (b1 && b2 && b3) = false →
      Calls Tryz.prog 51 #[.string s] w fun e w' => e = .returned (.bool (wordOk s.data.toList)) ∧ w' = w := by
    intro b1 b2 b3 Q1 q2 q3 q4
    clear hz
    cases b1 <;> cases b2 <;> cases b3 <;> (try cases q4) <;>
    ( go_enter Tryz.func51, Tryz.ntmps51
      go_wp2_with (go_at_call 76; refine (rdigs_any _ _ hs0).mono ?_; rw [Q1.out]; rintro e w' ⟨rfl, rfl⟩)
      go_loop [3] (fun i => ∃ k : Nat, k ≤ s.size ∧ i = .int .i64 k ∧ Hid ((s.data.toList.take k).all isWd = true)) (fun i => s.size - (RowKit.intOf i).toNat)
      case atStart => exact ⟨0, Nat.zero_le _, rfl, rfl⟩
      case round =>
        obtain ⟨k, hk, rfl, hp⟩ := hrel
        clear q3
        by_cases hlt : k < s.size
        · cases hd : digB ((s[k]).toNat : Int) with
          | true =>
            have HT : Hid ((s.data.toList.take (k + 1)).all isWd = true) := by
              show List.all _ _ = true
              rw [all_take_succ _ s k hlt, hp.out, isWd, isDig_eq, hd]; rfl
            have HD : Hid (digB ((s[k]).toNat : Int) = true) := hd
            clear hd
            go_wp2_with (go_at_call 20; refine (rdigit_any _ _).mono ?_; rw [HD.out]; rintro e w' ⟨rfl, rfl⟩)
            go_round
            case rel => exact ⟨k + 1, by omega, by go_num, HT⟩
            case measure => simp [RowKit.intOf]; omega
          | false =>
            have HD : Hid (digB ((s[k]).toNat : Int) = false) := hd
            cases hl : letB ((s[k]).toNat : Int) with
            | true =>
              have HT : Hid ((s.data.toList.take (k + 1)).all isWd = true) := by
                show List.all _ _ = true
                rw [all_take_succ _ s k hlt, hp.out, isWd, isDig_eq, isLet_eq, hd, hl]; rfl
              have HL : Hid (letB ((s[k]).toNat : Int) = true) := hl
              clear hd hl
              go_wp2_with (first | (go_at_call 20; refine (rdigit_any _ _).mono ?_; rw [HD.out]; rintro e w' ⟨rfl, rfl⟩) | (go_at_call 77; refine (rletter_any _ _).mono ?_; rw [HL.out]; rintro e w' ⟨rfl, rfl⟩))
              go_round
              case rel => exact ⟨k + 1, by omega, by go_num, HT⟩
              case measure => simp [RowKit.intOf]; omega
            | false =>
              have HF : Hid (s.data.toList.all isWd = false) := all_not _ s k hlt (by rw [isWd, isDig_eq, isLet_eq, hd, hl]; rfl)
              have HL : Hid (letB ((s[k]).toNat : Int) = false) := hl
              clear hd hl
              go_wp2_with (first | (go_at_call 20; refine (rdigit_any _ _).mono ?_; rw [HD.out]; rintro e w' ⟨rfl, rfl⟩) | (go_at_call 77; refine (rletter_any _ _).mono ?_; rw [HL.out]; rintro e w' ⟨rfl, rfl⟩))
              go_ret
              exact ⟨ret_bool (by rw [HE.out, HF.out]), rfl⟩
        · have HT : Hid (s.data.toList.all isWd = true) := by rw [← Tx.take_all s k (by omega)]; exact hp
          go_wp2
          go_ret
          exact ⟨ret_bool (by rw [HE.out, HT.out]), rfl⟩)
  refine key (digs s.data.toList) _ _ rfl rfl rfl ?_
  cases q1 : digs s.data.toList with
  | false => rfl
  | true =>
    cases q3 : (((s[0]).toNat : Int) == 48) with
    | false => simp
    | true =>
      simp only [Bool.and_true, Bool.true_and, decide_eq_false_iff_not]
      intro q2
      exact hz ⟨q1, by omega, q3⟩

end Go.Proofs.YthihnpjbdjmbhaaGreatDoor

set_option linter.unusedSimpArgs false
namespace Go.Proofs.YthihnpjbdjmbhaaGreatDoor
set_option linter.unusedVariables false
open Go.RowKit Go.Tx Go.Sort

theorem addr_add (b off i : Nat) : (⟨b, off, none⟩ : Addr).add i = ⟨b, off + i, none⟩ := by unfold Addr.add; split <;> simp_all
theorem cellLater {w wx : World} {a : Addr} {v : Value} (hb : Below w.heap.size w wx) (h : w.cell? a = some v) : wx.cell? a = some v := (hb.cell (World.block_lt_of_cell? _ _ h)).trans h
theorem step {w W v : World} (h : Below w.heap.size w W) (k : Below W.heap.size W v) : Below w.heap.size w v := h.trans (k.mono h.size)
theorem setCellDrewN (w : World) (n : Nat) (a : Addr) (v : Value) : (w.drewN n).setCell a v = (w.setCell a v).drewN n := rfl
theorem allocDrewN (w : World) (n : Nat) (o : Obj) : (w.drewN n).alloc o = (w.alloc o).drewN n := rfl
theorem belDrewN (w : World) : ∀ n, Below w.heap.size w (w.drewN n)
  | 0 => Below.refl _ _
  | n + 1 => (belDrewN w n).drew

/-- A slice of texts that is there. -/
structure SRow (w : World) (a : Option Addr) (len cap : Nat) (ss : List (List UInt8)) : Prop where
  n : ss.length = len
  nil : a = none → len = 0
  cell : ∀ x, a = some x → ∀ j v, (ss.map encStr)[j]? = some v → w.cell? (x.add j) = some v

theorem infoS : Tryz.prog.info? 9 = some Tryz.t9 := by kernel_rfl
theorem sizeS : (Tryz.prog.info? 9).map (·.size) = some 1 := by kernel_rfl

theorem enc_one (ss : List (List UInt8)) : ∀ u ∈ ss.map encStr, u.oneCell' = true := by
  intro u hu
  simp at hu
  obtain ⟨z, _, rfl⟩ := hu
  rfl

theorem SRow.at_ {w : World} {a : Option Addr} {len cap : Nat} {ss : List (List UInt8)} (h : SRow w a len cap ss) (h0 : 0 < len) : ∃ b off, a = some ⟨b, off, none⟩ ∧ ∀ (i : Nat) (hi : i < len), w.cell? ⟨b, off + i, none⟩ = some (.string (str (ss.getD i []))) := by
  cases a with
  | none => have := h.nil rfl; omega
  | some x =>
    obtain ⟨b, off, spot⟩ := x
    have hk : ∀ (i : Nat) (hi : i < len), w.cell? ((⟨b, off, spot⟩ : Addr).add i) = some (.string (str (ss.getD i []))) := by
      intro i hi
      have hl : i < ss.length := by rw [h.n]; exact hi
      have := h.cell _ rfl i (encStr ss[i]) (by simp [List.getElem?_eq_getElem hl])
      rw [this]
      simp [List.getD, List.getElem?_eq_getElem hl, encStr, str]
    have hspot : spot = none := by simpa [Addr.add] using World.cell?_spot (hk 0 h0)
    subst hspot
    exact ⟨b, off, rfl, fun i hi => by have := hk i hi; rw [addr_add] at this; exact this⟩

theorem SRow.later {w w' : World} {a : Option Addr} {len cap : Nat} {ss : List (List UInt8)} (h : SRow w a len cap ss) (hb : Below w.heap.size w w') : SRow w' a len cap ss :=
  ⟨h.n, h.nil, fun x e j v hj => cellLater hb (h.cell x e j v hj)⟩

theorem own_row {w : World} {B g n cap : Nat} {ts : List (List UInt8)} (h : w.ownsRow B 9 1 (.slice (some ⟨g, 0, none⟩) n cap) n (ts.map encStr)) : SRow w (some ⟨g, 0, none⟩) n cap ts :=
  ⟨by have := h.1; simpa using this, (fun e => nomatch e), fun x e j v hj => (show (⟨g, 0, none⟩ : Addr) = x by simpa using e) ▸ h.cells rfl j v hj⟩

theorem app_run {w : World} {B n : Nat} {v : Value} {ts : List (List UInt8)} (ty : TypeId) (hown : w.ownsRow B 9 1 v n (ts.map encStr)) (ad : Option Addr) (m c : Nat) (us : List (List UInt8)) (hs : SRow w ad m c us) (hn : n + m ≤ 10000) (hb : B ≤ w.heap.size) :
    ∃ v' w', (Builtin.append_ #[27, 27] ty #[v, .slice ad m c]).run Tryz.prog w = .ok v' w' ∧ w'.ownsRow B 9 1 v' (n + m) ((ts ++ us).map encStr) ∧ w.grownBy w' v.ownBlock ∧ (v'.ownBlock = v.ownBlock ∨ v'.ownBlock = some w.heap.size) := by
  have ht : Tryz.prog.underlying 27 = some (.slice 9) := Tryz.underlying27
  cases ad with
  | some x =>
    obtain ⟨v', w', h1, h2, h3, _, h5⟩ := run_append_own_at (P := Tryz.prog) w B 27 ty 9 Tryz.t9 (.string ⟨#[]⟩) 1 16 ht infoS rfl rfl rfl rfl (by decide) v n (ts.map encStr) hown x m c (us.map encStr) (by simp [hs.n]) (hs.cell x rfl) (enc_one us) (by unfold maxLen; omega) (by omega) hb
    exact ⟨v', w', h1, by rw [List.map_append]; exact h2, h3, h5⟩
  | none =>
    obtain rfl := hs.nil rfl
    have hu : us = [] := List.eq_nil_of_length_eq_zero hs.n
    subst hu
    refine ⟨v, w, ?_, by simpa using hown, ⟨rfl, rfl, rfl, Nat.le_refl _, fun _ _ _ => rfl⟩, .inl rfl⟩
    rcases hown.2 with ⟨rfl, rfl⟩ | ⟨g, cap, cur, rfl, _, hg, hnc, _, _, _⟩
    · simp [Builtin.append_, run_underlying ht, sizeOf, typeInfo, infoS, Builtin.lenOf, Builtin.firstCells, loadCells, loadCellsFrom]
    · simp [Builtin.append_, run_underlying ht, sizeOf, typeInfo, infoS, Builtin.lenOf, Builtin.firstCells, loadCells, loadCellsFrom, hnc, storeCells]

/-- At the operation. -/
theorem wp_app {w : World} {o : Oper} {a : Act} {K : Act → World → Prop} {Q : Exit → Act → World → Prop} (s x : Operand) (ho : o.op = .call { callee := .builtin .append, args := #[s, x], argTypes := #[27, 27] })
    (B n : Nat) (v : Value) (ts : List (List UInt8)) (ad : Option Addr) (m c : Nat) (us : List (List UInt8)) (hv : a.eval s = v) (hx : a.eval x = .slice ad m c) (hown : w.ownsRow B 9 1 v n (ts.map encStr)) (hs : SRow w ad m c us) (hn : n + m ≤ 10000) (hb : B ≤ w.heap.size)
    (h : ∀ v' w', w'.ownsRow B 9 1 v' (n + m) ((ts ++ us).map encStr) → w.grownBy w' v.ownBlock → (v'.ownBlock = v.ownBlock ∨ v'.ownBlock = some w.heap.size) → K (a.put o.dst v') w') : o.wp Tryz.prog a w K Q := by
  obtain ⟨v', w', hr, h2, h3, h4⟩ := app_run o.type hown ad m c us hs hn hb
  unfold Oper.wp execOp
  simp only [ho, resolve, invoke, builtin, Sem.run_bind, Sem.run_pure, Result.andThen_ok, List.map_toArray, List.map_cons, List.map_nil, hv, hx, hr]
  exact h v' w' h2 h3 h4

theorem step_app {w : World} {ops : Array Oper} {o : Oper} {a : Act} {K : Act → World → Prop} {Q : Exit → Act → World → Prop} {E : Prop} (hw : Region.wanted o (yielded ops a.tmps) = true) (s x : Operand) (ho : o.op = .call { callee := .builtin .append, args := #[s, x], argTypes := #[27, 27] })
    (B n : Nat) (v : Value) (ts : List (List UInt8)) (ad : Option Addr) (m c : Nat) (us : List (List UInt8)) (hv : a.eval s = v) (hx : a.eval x = .slice ad m c) (hown : w.ownsRow B 9 1 v n (ts.map encStr)) (hs : SRow w ad m c us) (hn : n + m ≤ 10000) (hb : B ≤ w.heap.size)
    (h : ∀ v' w', w'.ownsRow B 9 1 v' (n + m) ((ts ++ us).map encStr) → w.grownBy w' v.ownBlock → (v'.ownBlock = v.ownBlock ∨ v'.ownBlock = some w.heap.size) → K (a.put o.dst v') w') :
    if Region.wanted o (yielded ops a.tmps) = true then Oper.wp Tryz.prog o a w K Q else E := by
  rw [if_pos hw]
  exact wp_app s x ho B n v ts ad m c us hv hx hown hs hn hb h

theorem wpList_app {w : World} {ops : Array Oper} {rest : List Oper} {o : Oper} {a : Act} {Q : Exit → Act → World → Prop} (hw : Region.wanted o (yielded ops a.tmps) = true) (s x : Operand) (ho : o.op = .call { callee := .builtin .append, args := #[s, x], argTypes := #[27, 27] })
    (B n : Nat) (v : Value) (ts : List (List UInt8)) (ad : Option Addr) (m c : Nat) (us : List (List UInt8)) (hv : a.eval s = v) (hx : a.eval x = .slice ad m c) (hown : w.ownsRow B 9 1 v n (ts.map encStr)) (hs : SRow w ad m c us) (hn : n + m ≤ 10000) (hb : B ≤ w.heap.size)
    (h : ∀ v' w', w'.ownsRow B 9 1 v' (n + m) ((ts ++ us).map encStr) → w.grownBy w' v.ownBlock → (v'.ownBlock = v.ownBlock ∨ v'.ownBlock = some w.heap.size) → wpList Tryz.prog ops Q rest (a.put o.dst v') w') : wpList Tryz.prog ops Q (o :: rest) a w :=
  wpList_step fun K hK => step_app hw s x ho B n v ts ad m c us hv hx hown hs hn hb fun v' w' h1 h2 h3 => hK _ _ (h v' w' h1 h2 h3)

theorem own_at {w : World} {B n : Nat} {v : Value} {ts : List (List UInt8)} (h : w.ownsRow B 9 1 v n (ts.map encStr)) (h0 : 0 < n) : ∃ g cap, v = .slice (some ⟨g, 0, none⟩) n cap ∧ B ≤ g ∧ n ≤ cap ∧ cap ≤ maxLen ∧ ∀ i, i < n → w.cell? ⟨g, i, none⟩ = some (.string (str (ts.getD i []))) := by
  rcases h.2 with ⟨_, hn⟩ | ⟨g, cap, cur, rfl, hb, hg, hnc, hcm, _⟩
  · omega
  · obtain ⟨b, off, e, hc⟩ := (own_row h).at_ h0
    simp only [Option.some.injEq, Addr.mk.injEq, and_true] at e
    obtain ⟨rfl, rfl⟩ := e
    exact ⟨g, cap, rfl, hb, hnc, hcm, fun i hi => by have := hc i hi; rwa [Nat.zero_add] at this⟩

theorem fresh_own {w : World} {B g : Nat} (hg : w.heap[g]? = some (.cells #[] 9 (0, 0))) (hb : B ≤ g) : w.ownsRow B 9 1 (.slice (some ⟨g, 0, none⟩) 0 0) 0 (([] : List (List UInt8)).map encStr) :=
  ⟨rfl, .inr ⟨g, 0, #[], rfl, hb, hg, Nat.le_refl _, Nat.zero_le _, rfl, rfl⟩⟩

theorem one_row {w : World} {h c : Nat} {x : List UInt8} (hc : w.cell? ⟨h, 0, none⟩ = some (.string (str x))) : SRow w (some ⟨h, 0, none⟩) 1 c [x] := by
  refine ⟨rfl, (fun e => nomatch e), fun y e j v hj => ?_⟩
  obtain rfl : ⟨h, 0, none⟩ = y := by simpa using e
  cases j with
  | zero =>
    simp at hj
    subst hj
    rw [addr_add]
    exact hc
  | succ j => simp at hj

theorem own_pre {w : World} {B g n cap : Nat} {ts : List (List UInt8)} (h : w.ownsRow B 9 1 (.slice (some ⟨g, 0, none⟩) n cap) n (ts.map encStr)) (j c : Nat) (hj : j ≤ n) : SRow w (some ⟨g, 0, none⟩) j c (ts.take j) := by
  have hr := own_row h
  have hn := hr.n
  refine ⟨by rw [List.length_take, hn]; omega, (fun e => nomatch e), fun x e i v hi => hr.cell x e i v ?_⟩
  rw [List.map_take, List.getElem?_take] at hi
  split at hi
  · exact hi
  · cases hi

theorem own_suf {w : World} {B g n cap : Nat} {ts : List (List UInt8)} (h : w.ownsRow B 9 1 (.slice (some ⟨g, 0, none⟩) n cap) n (ts.map encStr)) (j c : Nat) (hj : j ≤ n) : SRow w (some ⟨g, j, none⟩) (n - j) c (ts.drop j) := by
  have hr := own_row h
  have hn := hr.n
  refine ⟨by rw [List.length_drop, hn], (fun e => nomatch e), fun x e i v hi => ?_⟩
  obtain rfl : ⟨g, j, none⟩ = x := by simpa using e
  rw [List.map_drop, List.getElem?_drop] at hi
  have := hr.cell _ rfl (j + i) v hi
  rw [addr_add] at this ⊢
  simpa using this

theorem bel_app {B : Nat} {a w w' : World} {T : TypeId} {v : Value} {n : Nat} {xs : List Value} (h : Below B a w) (ho : w.ownsRow B T 1 v n xs) (hg : w.grownBy w' v.ownBlock) (hB : B ≤ w.heap.size) : Below B a w' := h.grown hg hB (fun k e => (ho.lt k e).1)

theorem at_new (w : World) (o : Obj) (n : Nat) (h : n = w.heap.size) : (w.alloc o).heap[n]? = some o := by subst h; exact heap_alloc_new w o
theorem at_old (w : World) (o : Obj) (n : Nat) (h : n < w.heap.size) {r : Option Obj} (hr : w.heap[n]? = r) : (w.alloc o).heap[n]? = r := (Below.heap_alloc w o n h).trans hr

theorem own_form {w : World} {B n : Nat} {v : Value} {ts : List (List UInt8)} (h : w.ownsRow B 9 1 v n (ts.map encStr)) : (v = .slice none 0 0 ∧ n = 0) ∨ ∃ g cap, v = .slice (some ⟨g, 0, none⟩) n cap ∧ B ≤ g ∧ n ≤ cap ∧ cap ≤ maxLen ∧ ∀ i, i < n → w.cell? ⟨g, i, none⟩ = some (.string (str (ts.getD i []))) := by
  rcases h.2 with h' | ⟨g, cap, cur, rfl, hb, hg, hnc, hcm, _⟩
  · exact .inl h'
  · refine .inr ⟨g, cap, rfl, hb, hnc, hcm, fun i hi => ?_⟩
    obtain ⟨b, off, e, hc⟩ := (own_row h).at_ (by omega)
    simp only [Option.some.injEq, Addr.mk.injEq, and_true] at e
    obtain ⟨rfl, rfl⟩ := e
    have := hc i hi
    rwa [Nat.zero_add] at this

theorem own_tail {w : World} {B g n cap : Nat} {ts : List (List UInt8)} (h : w.ownsRow B 9 1 (.slice (some ⟨g, 0, none⟩) n cap) n (ts.map encStr)) (j c : Nat) (hj : j ≤ n) (hc : n ≤ cap) : SRow w (if cap = j then some ⟨g, 0, none⟩ else some ⟨g, j, none⟩) (n - j) c (ts.drop j) := by
  by_cases e : cap = j
  · rw [if_pos e]
    have hn := (own_row h).n
    have hd : ts.drop j = [] := List.drop_eq_nil_of_le (by omega)
    rw [hd]
    exact ⟨by simp; omega, (fun e => nomatch e), fun x _ i v hi => by simp at hi⟩
  · rw [if_neg e]
    exact own_suf h j c hj

theorem own_mono {w : World} {B B' n : Nat} {T : TypeId} {v : Value} {xs : List Value} (h : w.ownsRow B T 1 v n xs) (hb : B' ≤ B) : w.ownsRow B' T 1 v n xs := by
  refine ⟨h.1, ?_⟩
  rcases h.2 with h' | ⟨g, cap, cur, e, h1, h2⟩
  · exact .inl h'
  · exact .inr ⟨g, cap, cur, e, Nat.le_trans hb h1, h2⟩

theorem none_row (w : World) : SRow w none 0 0 [] := ⟨rfl, fun _ => rfl, fun _ e => nomatch e⟩

end Go.Proofs.YthihnpjbdjmbhaaGreatDoor

namespace Go.Proofs.YthihnpjbdjmbhaaGreatDoor
set_option linter.unusedVariables false
open Go.RowKit Go.Vr Go.Sort Go.Tx

theorem byte_eq (c : UInt8) (d : UInt8) (h : ((c.toNat : Int) == (d.toNat : Int)) = true) : c = d := UInt8.toNat_inj.1 (by have := beq_iff_eq.1 h; omega)
theorem byte_ne (c : UInt8) (d : UInt8) (h : ((c.toNat : Int) == (d.toNat : Int)) = false) : c ≠ d := by rintro rfl; simp at h

/-- How far the words of a text are told. -/
def WInv (s : ByteArray) (k f : Nat) (os : List Bs) : Prop := (k ≤ s.size ∧ words (s.data.toList.take k) = os ++ [(s.data.toList.take k).drop f]) ∨ (k = s.size + 1 ∧ words s.data.toList = os)
theorem WInv.start (s : ByteArray) : WInv s 0 0 [] := .inl ⟨Nat.zero_le _, rfl⟩
theorem piece_list (s : ByteArray) (f k : Nat) : (s.extract f k).data.toList = (s.data.toList.take k).drop f := by
  rw [Lib.extract_data, List.drop_take]
theorem WInv.dot {s : ByteArray} {k f : Nat} {os : List Bs} (h : WInv s k f os) (hlt : k < s.size) (hc : s[k] = 46) : WInv s (k + 1) (k + 1) (os ++ [(s.extract f k).data.toList]) := by
  rcases h with ⟨_, h⟩ | ⟨h, _⟩
  · refine .inl ⟨by omega, ?_⟩
    have e : (s.data.toList.take k ++ [46]).drop (k + 1) = [] := List.drop_of_length_le (by simp; omega)
    rw [take_snoc s k hlt, hc, words_app _ _, h, piece_list, e]
    rfl
  · omega
theorem WInv.last {s : ByteArray} {f : Nat} {os : List Bs} (h : WInv s s.size f os) : WInv s (s.size + 1) (s.size + 1) (os ++ [(s.extract f s.size).data.toList]) := by
  rcases h with ⟨_, h⟩ | ⟨h, _⟩
  · refine .inr ⟨rfl, ?_⟩
    rw [take_all s s.size (Nat.le_refl _)] at h
    rw [h, piece_list, take_all s s.size (Nat.le_refl _)]
  · omega
theorem WInv.more {s : ByteArray} {k f : Nat} {os : List Bs} (h : WInv s k f os) (hf : f ≤ k) (hlt : k < s.size) (hc : s[k] ≠ 46) : WInv s (k + 1) f os := by
  rcases h with ⟨_, h⟩ | ⟨h, _⟩
  · refine .inl ⟨by omega, ?_⟩
    rw [take_snoc s k hlt, words_snoc _ hc _ _ _ h]
    rw [List.drop_append_of_le_length (by simp; omega)]
  · omega
theorem WInv.done {s : ByteArray} {k f : Nat} {os : List Bs} (h : WInv s k f os) (hk : s.size < k) : words s.data.toList = os := by
  rcases h with ⟨h, _⟩ | ⟨_, h⟩
  · omega
  · exact h

set_option maxHeartbeats 800000 in
set_option maxRecDepth 100000 in
theorem rwords_any (s : ByteArray) (w : World) (hs : s.size ≤ 5000) :
    Calls Tryz.prog 50 #[.string s] w fun e w' => ∃ v, e = .returned v ∧ w'.ownsRow w.heap.size 9 1 v (words s.data.toList).length ((words s.data.toList).map encStr) ∧ Below w.heap.size w w' := by
  go_enter Tryz.func50, Tryz.ntmps50
  go_wp2_with fail
  go_loopw [3, 4, 5] (fun v fr i wr => ∃ (k f : Nat) (os : List Bs), k ≤ s.size + 1 ∧ f ≤ k ∧ os.length ≤ k ∧ i = .int .i64 k ∧ fr = .int .i64 f ∧ Hid (WInv s k f os) ∧ wr.ownsRow w.heap.size 9 1 v os.length (os.map encStr) ∧ Below w.heap.size w wr) (fun _ _ i _ => s.size + 1 - (RowKit.intOf i).toNat)
  case atStart => exact ⟨0, 0, [], by omega, by omega, by simp, rfl, rfl, WInv.start s, World.ownsRow_nil _ _ _ _, Below.refl _ _⟩
  case round =>
    obtain ⟨k, f, os, hk, hf, hol, rfl, rfl, hI, hown, hB⟩ := hrel
    by_cases hlt : k ≤ s.size
    · have hBs := hB.size
      by_cases he : k = s.size
      · subst he
        go_wp2_with (refine wpList_app rfl _ _ rfl w.heap.size os.length _ os (some _) 1 1 [(s.extract f s.size).data.toList] rfl rfl (hown.alloc _) (one_row (by rw [show Tx.str (s.extract f s.size).data.toList = s.extract f s.size from Tx.str_of _]; simp [go_sem])) (by omega) (by simp; omega) ?_; intro v' w' o1 g1 t1)
        go_roundw
        case rel => exact ⟨s.size + 1, s.size + 1, os ++ [(s.extract f s.size).data.toList], by omega, by omega, by simp; omega, by go_num, by go_num, hI.out.last, by rw [List.length_append]; exact o1, (bel_app (hB.alloc hBs _) (hown.alloc _) g1 (by simp; omega))⟩
        case measure => simp [RowKit.intOf]
      · have hlt2 : k < s.size := by omega
        have h1 : ((k : Int) == (s.size : Int)) = false := by simp; omega
        clear he
        cases hc : (((s[k]).toNat : Int) == 46) with
        | true =>
          have HI : Hid (WInv s (k + 1) (k + 1) (os ++ [(s.extract f k).data.toList])) := hI.out.dot hlt2 (byte_eq _ 46 hc)
          go_wp2_with (refine wpList_app rfl _ _ rfl w.heap.size os.length _ os (some _) 1 1 [(s.extract f k).data.toList] rfl rfl (hown.alloc _) (one_row (by rw [show Tx.str (s.extract f k).data.toList = s.extract f k from Tx.str_of _]; simp [go_sem])) (by omega) (by simp; omega) ?_; intro v' w' o1 g1 t1)
          go_roundw
          case rel => exact ⟨k + 1, k + 1, os ++ [(s.extract f k).data.toList], by omega, by omega, by simp; omega, by go_num, by go_num, HI, by rw [List.length_append]; exact o1, (bel_app (hB.alloc hBs _) (hown.alloc _) g1 (by simp; omega))⟩
          case measure => simp [RowKit.intOf]; omega
        | false =>
          have HI : Hid (WInv s (k + 1) f os) := hI.out.more hf hlt2 (byte_ne _ 46 hc)
          go_wp2_with fail
          go_roundw
          case rel => exact ⟨k + 1, f, os, by omega, by omega, by omega, by go_num, rfl, HI, hown, hB⟩
          case measure => simp [RowKit.intOf]; omega
    · have h1 : decide ((k : Int) ≤ (s.size : Int)) = false := by simp; omega
      have HD : Hid (words s.data.toList = os) := hI.out.done (by omega)
      go_wp2_with fail
      go_ret
      exact ⟨_, rfl, by rw [HD.out]; exact hown, hB⟩

end Go.Proofs.YthihnpjbdjmbhaaGreatDoor

namespace Go.Proofs.YthihnpjbdjmbhaaGreatDoor
set_option linter.unusedSimpArgs false
set_option linter.unusedVariables false
open Go.RowKit Go.Vr Go.Sort Go.Tx

/-- A version as a value. -/
abbrev ver (a b c : Int) (p : ByteArray) : Value := .agg #[.int .i64 a, .int .i64 b, .int .i64 c, .string p]

theorem words_short : ∀ (l : Bs), l.length ≤ 40 → ∀ x ∈ words l, x.length ≤ 40 := by
  have key : ∀ (l : Bs), ∀ x ∈ words l, x.length ≤ l.length := by
    intro l
    induction l with
    | nil => simp [words]
    | cons c l ih =>
      by_cases h : c = 46
      · subst h
        rw [words_dot]
        intro x hx
        rcases List.mem_cons.1 hx with rfl | hx
        · simp
        · have := ih x hx; simp; omega
      · cases e : words l with
        | nil => exact absurd e (words_ne l)
        | cons v vs =>
          rw [words_cons h e]
          rw [e] at ih
          intro x hx
          rcases List.mem_cons.1 hx with rfl | hx
          · have := ih v (by simp); simp; omega
          · have := ih x (by simp [hx]); simp; omega
  intro l hl x hx
  have := key l x hx
  omega
theorem words_count : ∀ (l : Bs), (words l).length ≤ l.length + 1 := by
  intro l
  induction l with
  | nil => simp [words]
  | cons c l ih =>
    by_cases h : c = 46
    · subst h
      rw [words_dot]; simp; omega
    · cases e : words l with
      | nil => exact absurd e (words_ne l)
      | cons v vs =>
        rw [words_cons h e]
        rw [e] at ih
        simp at ih ⊢; omega

set_option maxHeartbeats 800000 in
set_option maxRecDepth 100000 in
theorem rright_any (a b c : Int) (p : ByteArray) (w : World) (hs : p.size ≤ maxLen) :
    Calls Tryz.prog 22 #[ver a b c p] w fun e w' => e = .returned (.bool (verOk a b c p.data.toList)) ∧ Below w.heap.size w w' := by
  have hs0 := hs
  unfold maxLen at hs
  by_cases h1 : a < 0
  · have d1 : decide (a < 0) = true := by simpa using h1
    go_enter Tryz.func22, Tryz.ntmps22
    go_wp2
    go_ret
    exact ⟨ret_bool (by simp [verOk, partOk, h1]; omega), (Below.refl _ _).alloc (Nat.le_refl _) _⟩
  have d1 : decide (a < 0) = false := by simpa using h1
  by_cases h2 : b < 0
  · have d2 : decide (b < 0) = true := by simpa using h2
    go_enter Tryz.func22, Tryz.ntmps22
    go_wp2
    go_ret
    exact ⟨ret_bool (by simp [verOk, partOk, h2]; omega), (Below.refl _ _).alloc (Nat.le_refl _) _⟩
  have d2 : decide (b < 0) = false := by simpa using h2
  by_cases h3 : c < 0
  · have d3 : decide (c < 0) = true := by simpa using h3
    go_enter Tryz.func22, Tryz.ntmps22
    go_wp2
    go_ret
    exact ⟨ret_bool (by simp [verOk, partOk, h3]; omega), (Below.refl _ _).alloc (Nat.le_refl _) _⟩
  have d3 : decide (c < 0) = false := by simpa using h3
  by_cases h4 : p.size ≤ 40 ∧ a ≤ 999999 ∧ b ≤ 999999 ∧ c ≤ 999999
  · obtain ⟨hp, ha, hb, hc⟩ := h4
    have d4 : decide ((40 : Int) < (p.size : Int)) = false := by simp; omega
    have e1 : decide ((999999 : Int) < a) = false := by simp; omega
    have e2 : decide ((999999 : Int) < b) = false := by simp; omega
    have e3 : decide ((999999 : Int) < c) = false := by simp; omega
    have HP : Hid (verOk a b c p.data.toList = (p.data.toList.isEmpty || (words p.data.toList).all wordOk)) := by
      have hl : p.data.toList.length ≤ 40 := by rw [len_eq]; exact hp
      show verOk a b c p.data.toList = _
      have g1 : partOk a = true := by simp [partOk]; omega
      have g2 : partOk b = true := by simp [partOk]; omega
      have g3 : partOk c = true := by simp [partOk]; omega
      unfold verOk preOk
      rw [g1, g2, g3, decide_eq_true hl]; rfl
    by_cases h0 : p.size = 0
    · have he : p.toList.isEmpty = true := by rw [empty_eq]; simpa using h0
      have HT : Hid (verOk a b c p.data.toList = true) := by show verOk a b c p.data.toList = true; rw [HP.out, isEmpty_eq, decide_eq_true h0]; rfl
      clear h0
      go_enter Tryz.func22, Tryz.ntmps22
      go_wp2_with fail
      all_goals
        go_ret
        exact ⟨ret_bool HT.out.symm, (Below.refl _ _).alloc (Nat.le_refl _) _⟩
    · have he : p.toList.isEmpty = false := by rw [empty_eq]; simpa using h0
      have HT : Hid (verOk a b c p.data.toList = (words p.data.toList).all wordOk) := by show verOk a b c p.data.toList = _; rw [HP.out, isEmpty_eq, decide_eq_false h0]; rfl
      have hwl : ∀ x ∈ words p.data.toList, x.length ≤ 40 := words_short _ (by rw [len_eq]; exact hp)
      have hwn := words_count p.data.toList
      have hwn : (words p.data.toList).length ≤ 41 := by rw [len_eq] at hwn; omega
      clear h0 HP
      go_enter Tryz.func22, Tryz.ntmps22
      go_wp2_with fail
      all_goals
        refine (rwords_any p _ (by omega)).mono ?_
        rintro e w1 ⟨v, rfl, hown, hB⟩
        have hB1 := ((Below.refl w.heap.size w).alloc (Nat.le_refl _) (.cells #[.int .i64 a, .int .i64 b, .int .i64 c, .string p] 37)).trans (hB.mono (by simp))
        have hne := words_ne p.data.toList
        generalize words p.data.toList = ws at *
        have hpos : 0 < ws.length := by
          cases ws with
          | nil => exact absurd rfl hne
          | cons x y => simp
        obtain ⟨g, cap, rfl, hg, hnc, hcm, hcell⟩ := own_at hown hpos
        clear hown hne hB hg hcm
        go_wp2_with fail
        go_loop [4] (fun i => ∃ k : Nat, k ≤ ws.length ∧ i = .int .i64 k ∧ Hid ((ws.take k).all wordOk = true)) (fun i => ws.length - (RowKit.intOf i).toNat)
        case atStart => exact ⟨0, Nat.zero_le _, rfl, rfl⟩
        case round =>
          obtain ⟨k, hk, rfl, hq⟩ := hrel
          by_cases hlt : k < ws.length
          · have hc := hcell k hlt
            have hx : (ws.getD k []) ∈ ws := by
              rw [List.getD_eq_getElem?_getD, List.getElem?_eq_getElem hlt]; exact List.getElem_mem _
            have hxl := hwl _ hx
            have HSN : Hid (ws.take (k + 1) = ws.take k ++ [ws.getD k []]) := by
              show ws.take (k + 1) = _
              rw [List.take_add_one]
              simp [List.getD, List.getElem?_eq_getElem hlt]
            generalize ws.getD k [] = x at *
            have hi1 : (0 : Int) ≤ (k : Int) := by omega
            have hi2 : (k : Int) < (ws.length : Int) := by omega
            clear hcell hwl
            cases ho : wordOk x with
            | true =>
              have HT2 : Hid ((ws.take (k + 1)).all wordOk = true) := by show List.all _ _ = true; rw [HSN.out, List.all_append, hq.out]; simp [ho]
              have HO : Hid (wordOk (str x).data.toList = true) := ho
              clear ho
              go_wp2_with (go_at_call 51; refine (rword_any _ _ (by unfold maxLen; rw [str_size]; omega)).mono ?_; rw [HO.out]; rintro e w' ⟨rfl, rfl⟩)
              go_round
              case rel => exact ⟨k + 1, by omega, by go_num, HT2⟩
              case measure => simp [RowKit.intOf]; omega
            | false =>
              have HF2 : Hid (ws.all wordOk = false) := by
                show List.all _ _ = false
                rw [List.all_eq_false]
                exact ⟨x, hx, by simp [ho]⟩
              have HO : Hid (wordOk (str x).data.toList = false) := ho
              clear ho
              go_wp2_with (go_at_call 51; refine (rword_any _ _ (by unfold maxLen; rw [str_size]; omega)).mono ?_; rw [HO.out]; rintro e w' ⟨rfl, rfl⟩)
              go_ret
              exact ⟨ret_bool (by rw [HT.out, HF2.out]), hB1⟩
          · have hd : decide ((k : Int) < (ws.length : Int)) = false := by simp; omega
            have HT2 : Hid (ws.all wordOk = true) := by
              have := hq.out
              rw [List.take_of_length_le (by omega)] at this
              exact this
            go_wp2_with fail
            go_ret
            exact ⟨ret_bool (by rw [HT.out, HT2.out]), hB1⟩
  · have HF : Hid (verOk a b c p.data.toList = false) := by
      show verOk a b c p.data.toList = false
      have hl : p.data.toList.length = p.size := len_eq p
      simp only [verOk, preOk, partOk, hl]
      by_cases q1 : a ≤ 999999
      · by_cases q2 : b ≤ 999999
        · by_cases q3 : c ≤ 999999
          · have q4 : ¬ p.size ≤ 40 := fun q => h4 ⟨q, q1, q2, q3⟩
            simp [q4]
          · simp [q3]
        · simp [q2]
      · simp [q1]
    go_enter Tryz.func22, Tryz.ntmps22
    go_wp2_with fail
    all_goals first
      | (exfalso; omega)
      | (go_ret
         exact ⟨ret_bool HF.out.symm, (Below.refl _ _).alloc (Nat.le_refl _) _⟩)

end Go.Proofs.YthihnpjbdjmbhaaGreatDoor

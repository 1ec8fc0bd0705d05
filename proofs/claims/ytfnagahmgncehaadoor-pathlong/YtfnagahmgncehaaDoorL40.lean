/-
  The walk of PathLong.
-/
import Derived.Test.YtfnagahmgncehaaDoorH10
namespace Go.Proofs.YtfnagahmgncehaaDoor.pathLong
set_option linter.unusedSimpArgs false
set_option linter.unusedVariables false
open Go.RowKit Go.Vr Go.Sort Go.Tx Go.Pa Go.Lib
attribute [local go_sem] setCellDrewN allocDrewN

def al : ByteArray := ⟨#[97, 98, 99, 100, 101, 102, 103, 104, 105, 106, 107, 108, 109, 110, 111, 112, 113, 114, 115, 116, 117, 118, 119, 120, 121, 122, 97, 98, 99, 100, 101, 102, 103, 104, 105, 106, 107, 108, 109, 110, 111, 112, 113, 114, 115, 116, 117, 118, 119, 120, 121, 122]⟩
def isL (c : UInt8) : Bool := decide (97 ≤ c.toNat) && decide (c.toNat ≤ 122)
theorem isL_all : ∀ n : Fin 256, isL (UInt8.ofNat n.val) = true → sgn (UInt8.ofNat n.val) = true ∧ UInt8.ofNat n.val ≠ 47 ∧ UInt8.ofNat n.val ≠ 46 := by decide +kernel
theorem isL_is {c : UInt8} (h : isL c = true) : sgn c = true ∧ c ≠ 47 ∧ c ≠ 46 := by
  have := isL_all ⟨c.toNat, c.toNat_lt⟩
  simp only [show UInt8.ofNat c.toNat = c by simp] at this
  exact this h
theorem al_L : ∀ c ∈ al.data.toList, isL c = true := by
  have h : (al.data.toList.all isL) = true := by decide +kernel
  exact fun c hc => List.all_eq_true.1 h c hc
theorem wOk_L {w : Bs} (hw : w ≠ []) (h : ∀ c ∈ w, isL c = true) : wOk w = true ∧ ∀ c ∈ w, c ≠ 47 := by
  refine ⟨?_, fun c hc => (isL_is (h c hc)).2.1⟩
  unfold wOk
  rw [Bool.and_eq_true, List.all_eq_true]
  refine ⟨?_, fun c hc => (isL_is (h c hc)).1⟩
  cases w with
  | nil => exact absurd rfl hw
  | cons c d =>
    have h1 := (isL_is (h c (by simp))).2.2
    unfold badW
    simp [h1]
def pa (k : Nat) : ByteArray := al.extract 0 k
def pb (k j : Nat) : ByteArray := ((pa k).extract 0 j ++ ⟨#[47]⟩) ++ (pa k).extract (j + 1) (pa k).size
theorem pa_list (k : Nat) : (pa k).data.toList = al.data.toList.take k := by
  unfold pa; rw [Lib.extract_data]; simp
theorem pa_size (k : Nat) (h : k ≤ 52) : (pa k).size = k := by
  have e : al.size = 52 := rfl
  unfold pa; rw [ByteArray.size_extract, e]; omega
theorem pa_right (k : Nat) (h1 : 1 ≤ k) (h : k ≤ 52) : right (pa k).data.toList = decide ((k : Int) ≤ 40) := by
  have hl : (pa k).data.toList.length = k := by rw [len_eq, pa_size k h]
  obtain ⟨h2, h3⟩ := wOk_L (w := (pa k).data.toList) (by intro e; rw [e] at hl; simp at hl; omega) (fun c hc => al_L c (by rw [pa_list] at hc; exact List.mem_of_mem_take hc))
  unfold right
  rw [sw_one _ h3, hl, List.all_cons, h2, List.all_nil]
  simp only [Bool.and_true]
  rw [decide_eq_decide]; omega
theorem pb_list (k j : Nat) (h : k ≤ 52) : (pb k j).data.toList = (pa k).data.toList.take j ++ 47 :: (pa k).data.toList.drop (j + 1) := by
  unfold pb
  rw [ba_app, ba_app, Lib.extract_data, Lib.extract_data, List.take_of_length_le (l := (pa k).data.toList.drop (j + 1)) (by rw [List.length_drop, len_eq]; omega)]
  simp
theorem pb_right (k j : Nat) (h : k ≤ 52) (h1 : 1 ≤ j) (hj : j + 1 < k) : right (pb k j).data.toList = decide ((k : Int) ≤ 40) := by
  have hl : (pa k).data.toList.length = k := by rw [len_eq, pa_size k h]
  have hm : ∀ c ∈ (pa k).data.toList, isL c = true := fun c hc => al_L c (by rw [pa_list] at hc; exact List.mem_of_mem_take hc)
  obtain ⟨h2, h3⟩ := wOk_L (w := (pa k).data.toList.take j) (by intro e; have := congrArg List.length e; rw [List.length_take, hl] at this; simp at this; omega) (fun c hc => hm c (List.mem_of_mem_take hc))
  obtain ⟨h4, h5⟩ := wOk_L (w := (pa k).data.toList.drop (j + 1)) (by intro e; have := congrArg List.length e; rw [List.length_drop, hl] at this; simp at this; omega) (fun c hc => hm c (List.mem_of_mem_drop hc))
  have hlen : (pb k j).data.toList.length = k := by
    rw [pb_list k j h, List.length_append, List.length_cons, List.length_take, List.length_drop, hl]; omega
  unfold right
  rw [hlen, pb_list k j h, right_slash _ _ h5, sw_one _ h3, List.all_cons, h2, h4, List.all_nil]
  simp only [Bool.and_true]
  rw [decide_eq_decide]; omega

set_option maxHeartbeats 4000000 in
set_option maxRecDepth 100000 in
theorem walk (a0 a1 : Int) (w : World) (he : Env w) (h0 : -9223372036854775808 ≤ a0 ∧ a0 ≤ 9223372036854775807) (h1 : -9223372036854775808 ≤ a1 ∧ a1 ≤ 9223372036854775807) :
    Calls Tryd.prog 9 #[.int .i64 a0, .int .i64 a1] w fun e w' => e = .returned (.bool true) ∧ Below w.heap.size w w' := by
  have CK := hide (known4_any w he)
  have HE := hide he
  clear he
  go_enter Tryd.func9, Tryd.ntmps9
  go_wp2_with fail
  refine CK.out.mono ?_
  rintro e w1 ⟨rfl, b1⟩
  go_wp2_with fail
  refine (within4_nat _ _ _ (by omega) (by omega) (by omega) (by omega)).mono ?_
  rintro e w2 ⟨q, rfl, hq, -, rfl⟩
  have hq9 : q < 9 := by omega
  have hr1 := pa_right (36 + q) (by omega) (by omega)
  have hz1 := pa_size (36 + q) (by omega)
  have CR := hide (fun W hW => pright_any (pa (36 + q)) W (by omega) hW)
  rw [hr1] at CR
  have e36 : ((36 + q : Nat) : Int) = 36 + (q : Int) := by omega
  rw [e36] at CR
  have h44 : (ByteArray.mk #[97, 98, 99, 100, 101, 102, 103, 104, 105, 106, 107, 108, 109, 110, 111, 112, 113, 114, 115, 116, 117, 118, 119, 120, 121, 122, 97, 98, 99, 100, 101, 102, 103, 104, 105, 106, 107, 108, 109, 110, 111, 112, 113, 114, 115, 116, 117, 118, 119, 120, 121, 122]).extract 0 (36 + q) = pa (36 + q) := rfl
  have hzi : ((pa (36 + q)).size : Int) = 36 + (q : Int) := by omega
  have w1' : IntKind.i64.wrap (36 + (q : Int)) = 36 + (q : Int) := by rw [IntKind.wrap_i64]; omega
  have w2' : IntKind.i64.wrap (36 + (q : Int) - 2) = 34 + (q : Int) := by rw [IntKind.wrap_i64]; omega
  have HPB := hide (fun j (h1 : 1 ≤ j) (h2 : j + 1 < 36 + q) => pb_right (36 + q) j (by omega) h1 h2)
  rw [e36] at HPB
  unfold pb at HPB
  have hzn : (pa (36 + q)).size ≤ 52 := by omega
  have HZ := hide hz1
  clear hr1 hz1 e36 hq9
  have hqq : (36 : Int) + (q : Int) ≤ 52 := by omega
  have q0 : (0 : Int) ≤ 36 + (q : Int) := by omega
  go_wp2_with fail
  rw [h44]
  generalize pa (36 + q) = s at *
  refine (within4_nat _ _ _ (by omega) (by omega) (by omega) (by omega)).mono ?_
  rintro e w3 ⟨j, rfl, hj, -, rfl⟩
  have CT := hide (fun W hW => pright_any ((s.extract 0 (1 + j) ++ ⟨#[47]⟩) ++ s.extract (1 + j + 1) s.size) W (by rw [ByteArray.size_append, ByteArray.size_append, ByteArray.size_extract, ByteArray.size_extract]; have : (ByteArray.mk #[47]).size = 1 := rfl; omega) hW)
  rw [HPB.out (1 + j) (by omega) (by omega)] at CT
  have e1 : ((1 + j : Nat) : Int) = 1 + (j : Int) := by omega
  have x1 : IntKind.i64.wrap (1 + (j : Int)) = 1 + (j : Int) := by rw [IntKind.wrap_i64]; omega
  have x2 : IntKind.i64.wrap (1 + (j : Int) + 1) = 1 + (j : Int) + 1 := by rw [IntKind.wrap_i64]; omega
  have x3 : (0 : Int) ≤ 1 + (j : Int) := by omega
  have x4 : 1 + (j : Int) ≤ (s.size : Int) := by omega
  have x5 : (0 : Int) ≤ 1 + (j : Int) + 1 := by omega
  have x6 : 1 + (j : Int) + 1 ≤ (s.size : Int) := by omega
  have z1 : (s.extract 0 (1 + j)).size ≤ 52 := by rw [ByteArray.size_extract]; omega
  have z2 : (s.extract (1 + j + 1) s.size).size ≤ 52 := by rw [ByteArray.size_extract]; omega
  have z3 : (s.extract 0 (1 + j) ++ ⟨#[47]⟩).size ≤ 53 := by rw [ByteArray.size_append]; have : (ByteArray.mk #[47]).size = 1 := rfl; omega
  have n1 : ¬ 9223372036854775807 < (s.extract 0 (1 + j)).size + 1 := by omega
  have n2 : ¬ 9223372036854775807 < (s.extract 0 (1 + j) ++ ⟨#[47]⟩).size + (s.extract (1 + j + 1) s.size).size := by omega
  have t1 : (1 + (j : Int)).toNat = 1 + j := by omega
  have t2 : (1 + (j : Int) + 1).toNat = 1 + j + 1 := by omega
  have n3 : ¬ 9223372036854775807 < 1 + j + 1 := by omega
  have n4 : ¬ 9223372036854775807 < 1 + j + 1 + (s.size - (1 + j + 1)) := by omega
  have HI := hide hzi
  have b2 := b1
  clear hzi hzn z1 z2 z3 e1 hj h44 w1' w2' hqq q0
  generalize hD : decide (36 + (q : Int) ≤ 40) = D at *
  go_wp2_with fail
  go_region
  have B2 := b1.drew
  go_wp2_with fail
  refine (CR.out _ (HE.out.later B2)).mono ?_
  rintro e w4 ⟨rfl, b4⟩
  have B4 := step B2 b4
  go_wp2_with fail
  refine (CT.out _ (HE.out.later B4)).mono ?_
  rintro e w5 ⟨rfl, b5⟩
  have B5 := step B4 b5
  go_wp2_with fail
  go_ret
  exact ⟨by first | rfl | simp, B5⟩

end Go.Proofs.YtfnagahmgncehaaDoor.pathLong

/- recfile: take. -/
import Derived.Test.YtcclcecjidlojaaDoorRf2
import Derived.Test.YtcclcecjidlojaaDoorApZeros
import Derived.Test.YtcclcecjidlojaaDoorOpen
namespace Go.Proofs.YtcclcecjidlojaaDoor
open Go.RowKit
set_option linter.unusedVariables false
section
variable {S0 : Fp} {l : List Ass} {w0 w : World} {g : Nat} {K V S : Int} {R : List Nat} {lv lo : Int}

/-- as many zeros behind the records as there have to be -/
def growR (R : List Nat) (z : Nat) : List Nat := R ++ List.replicate (z - R.length) 0
theorem growR_len {z : Nat} : (growR R z).length = max R.length z := by
  unfold growR
  rw [List.length_append, List.length_replicate]
  omega
theorem growR_no {z : Nat} (h : z ≤ R.length) : growR R z = R := by
  unfold growR
  rw [Nat.sub_eq_zero_of_le h]
  simp

theorem rec_prod {id s k z : Nat} (hk : k = id * s) (hz : z = k + s) : (id : Int) * (s : Int) = (k : Int) ∧ ((id : Int) + 1) * (s : Int) = (z : Int) := by
  have m1 : (id : Int) * (s : Int) = (k : Int) := by rw [hk, Int.natCast_mul]
  refine ⟨m1, ?_⟩
  rw [Int.add_mul, m1, hz, Int.one_mul, Int.natCast_add]
theorem take_wraps {id z n : Nat} {lv : Int} (h1 : id ≤ 1099511627776) (h2 : z ≤ 1099511627776) (h3 : n ≤ 1099511627776) (h4 : 0 ≤ lv) (h5 : lv ≤ 1099511627776) :
    ∃ d : Int, d = (z : Int) - (n : Int) ∧ wrap64 ((id : Int) + 1) = (id : Int) + 1 ∧ wrap64 (z : Int) = (z : Int) ∧ wrap64 d = d ∧ wrap64 (lv + 1) = lv + 1 :=
  ⟨_, rfl, rfwrap (by omega) (by omega), rfwrap (by omega) (by omega), rfwrap (by omega) (by omega), rfwrap (by omega) (by omega)⟩
set_option maxRecDepth 100000 in
set_option maxHeartbeats 800000 in
theorem rfTake_any [Stable (Sep l)] {s id k z : Nat} (h : St S0 (RfA g K V (s : Int) R lv lo :: l) w0 w) (hk : k = id * s) (hz : z = k + s) (hs : 0 < s) (hm : R.length ≤ 1099511627776) (hzm : z ≤ 1099511627776) (hlv : 0 ≤ lv) (hlv2 : lv ≤ 1099511627776) :
    Calls Tryd.prog 56 #[.pointer (some ⟨g, 0, none⟩), .int .i64 (id : Int)] w fun e w' => e = .returned (.tuple #[]) ∧ St S0 (RfA g K V (s : Int) ((growR R z).set k 1) (lv + 1) lo :: l) w0 w' := by
  obtain ⟨j0, hj, hy0, hy1, hy2⟩ := info_parts u8_info
  obtain ⟨v, h1⟩ := rf_open h
  obtain ⟨c0, c1, c2, c3, c4, c5⟩ := rf_cells h1
  obtain ⟨A, cap, rfl, -, -, -, -⟩ := h1.swap.ob.form
  obtain ⟨m1, m2⟩ := rec_prod hk hz
  have hid : id ≤ k := by rw [hk]; exact Nat.le_mul_of_pos_right _ hs
  have HK := Lib.hid hk
  have HZ := Lib.hid hz
  clear hk
  have hik : id ≤ 1099511627776 := Nat.le_trans hid (Nat.le_trans (by rw [hz]; exact Nat.le_add_right _ _) hzm)
  obtain ⟨d, hd, w2, w3, w4, w5⟩ := take_wraps (lv := lv) hik hzm hm hlv hlv2
  have hd' := hd.symm
  have HD := Lib.hid hd
  have H1 := Lib.hid h1
  obtain ⟨bb, hbb⟩ : ∃ b, decide ((0 : Int) < d) = b := ⟨_, rfl⟩
  have hbb0 := Lib.hid hbb
  have HB := Lib.hid (And.intro hm (And.intro hzm (And.intro hs (And.intro hlv hlv2))))
  clear h h1 hz hd hid hik hm hzm hlv hlv2 hd'
  have hd' : (z : Int) - (R.length : Int) = d := HD.out.symm
  go_enter Tryd.func56, Tryd.ntmps56
  go_wp2
  go_quiet (fail)
  have hq := H1.out.drewN nq
  obtain ⟨wq, hwq⟩ : ∃ q, q = w.drewN nq := ⟨_, rfl⟩
  rw [← hwq] at hq ⊢
  rw [w4]
  have HQ := Lib.hid hq
  obtain ⟨d0, d1, d2, d3, d4, d5⟩ := rf_cells hq
  clear hwq hq c0 c1 c2 c3 c4 c5 H1 m1 m2 w2 w3 hd'
  go_upto_if 19 with fail
  clear hbb
  have hf3 := HQ.out.blk.frozen 3
  go_cut [] from 20 (fun w' => ∃ v, St S0 (BlkA g 72 #[.int .i64 K, .int .i64 V, .int .i64 (s : Int), v, .int .i64 lv, .int .i64 lo] :: ObA 5 v (growR R z) :: l) w0 w')
  case first =>
    cases bb
    · have hno : growR R z = R := by
        refine growR_no ?_
        have h1 := hbb0.out
        have h2 := HD.out
        have h3 : ¬ (0 : Int) < d := by simpa using h1
        omega
      have HNO := Lib.hid hno
      clear hno
      go_wp2
      go_meet
      exact ⟨_, by rw [HNO.out]; exact HQ.out⟩
    · obtain ⟨m, hm0, hmp, hmz⟩ : ∃ m : Nat, d = (m : Int) ∧ 0 < m ∧ m = z - R.length := by
        have h1 := hbb0.out
        have h2 := HD.out
        have h3 : (0 : Int) < d := by simpa using h1
        exact ⟨z - R.length, by omega, by omega, rfl⟩
      have hgl : R.length + m ≤ 140737488355328 := by have := HB.out; omega
      have HGL := Lib.hid hgl
      have HGR : Hid (R ++ List.replicate m 0 = growR R z) := Lib.hid (by rw [hmz]; rfl)
      subst hm0
      clear hgl hmz hbb0
      go_wp2_with (at_builtin; refine wpList_append_zeros8 _ rfl _ _ 34 3 rfl 0 5 j0 .i64 .i64 Tryd.underlying34 Tryd.underlying3 hj hy0 hy1 hy2 _ R (by rfl) HQ.out.swap.ob m (by rfl) hmp HGL.out (Nat.zero_le _) ?_; intro v7 w7 hown7 hg7 hat7; have h7 := HQ.out.swap.grewOb hown7 hg7 hat7 (Nat.le_refl _); obtain ⟨A7, c7, rfl, -, -, -, -⟩ := hown7.form; rw [List.length_append, List.length_replicate] at h7 ⊢; obtain ⟨e0, e1, e2, e3, e4, e5⟩ := rf_cells h7.swap; have f3 := h7.swap.blk.frozen 3; have H7 := Lib.hid h7; clear h7 hown7 hg7 hat7)
      go_meet
      have := (H7.out.swap).setBlk 3 (.slice A7 (R.length + m) c7)
      rw [HGR.out] at this
      exact ⟨_, this⟩
  case rest =>
    obtain ⟨v, hv⟩ := hcut
    obtain ⟨Z, hZ⟩ : ∃ Z, Z = growR R z := ⟨_, rfl⟩
    rw [← hZ] at hv
    have hzl : z ≤ Z.length := by rw [hZ, growR_len]; exact Nat.le_max_right _ _
    have hZm : Z.length ≤ 1099511627776 := by rw [hZ, growR_len]; exact Nat.max_le.2 ⟨HB.out.1, HB.out.2.1⟩
    have hle : k + s ≤ Z.length := by rw [← HZ.out]; exact hzl
    have hkl : k < Z.length := Nat.lt_of_lt_of_le (Nat.lt_add_of_pos_right hs) hle
    obtain ⟨A8, c8, rfl, -, -, -, -⟩ := hv.swap.ob.form
    obtain ⟨g8, hA8, -⟩ := hv.swap.storeObB rfl hkl 1 (by decide)
    subst hA8
    obtain ⟨A9, c9, hr9⟩ := rf_read (rf_shut hv)
    have h39 := hr9.2.1
    rw [(rf_cells hv).2.2.2.1] at h39
    simp only [Option.some.injEq, Value.slice.injEq, true_and] at h39
    obtain ⟨rfl, rfl⟩ := h39
    have HR9 := Lib.hid hr9
    have HLE := Lib.hid hle
    have HZM := Lib.hid hZm
    have HKL := Lib.hid hkl
    have HV := Lib.hid hv
    have HZZ := Lib.hid hZ
    have s0 : (0 : Int) < (s : Int) := by omega
    clear hv hr9 hle hZm hkl hZ hzl w4 HQ d0 d1 d2 d3 d4 d5 hf3
    go_upto_region 4 with (go_at_call 57; refine (rfRecord_any HR9.out HK.out HLE.out hs HZM.out).mono ?_; rintro e w2 ⟨rfl, q2, hw2⟩; have hv2 := HV.out.drewN q2; rw [← hw2] at hv2; clear hw2; obtain ⟨g', hg', ⟨u0, hu0⟩, hfz, hst⟩ := hv2.swap.storeObB rfl HKL.out 1 (by decide); simp only [Option.some.injEq, Addr.mk.injEq, and_true] at hg'; subst hg'; have HST := Lib.hid hst; clear hst hv2)
    obtain ⟨w9, hw9⟩ : ∃ q, q = w2.setCell ⟨g8, k, none⟩ (.int .u8 1) := ⟨_, rfl⟩
    have h9 := HST.out
    rw [show (Value.int .u8 ((1 : Nat) : Int)) = Value.int .u8 1 from rfl, ← hw9] at h9
    rw [← hw9]
    obtain ⟨e0, e1, e2, e3, e4, e5⟩ := rf_cells h9.swap
    have f4 := h9.swap.blk.frozen 4
    have H9 := Lib.hid h9
    clear hw9 HST h9
    go_wp2
    go_end0
    have := H9.out.swap.setBlk 4 (.int .i64 (lv + 1))
    rw [HZZ.out] at this
    exact ⟨rfl, rf_shut this⟩
end
end Go.Proofs.YtcclcecjidlojaaDoor

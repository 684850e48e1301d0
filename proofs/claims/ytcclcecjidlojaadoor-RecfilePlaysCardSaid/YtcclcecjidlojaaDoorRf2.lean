/- recfile: where a record stands. -/
import Derived.Test.YtcclcecjidlojaaDoorRf
namespace Go.Proofs.YtcclcecjidlojaaDoor
open Go.RowKit
set_option linter.unusedVariables false
section
variable {S0 : Fp} {l : List Ass} {w0 w : World} {g : Nat} {K V S : Int} {R : List Nat} {lv lo : Int}
theorem rec_bounds {k s z n cap : Nat} (hz : z = k + s) (h1 : z ≤ n) (h2 : n ≤ cap) (hs : 0 < s) : (0 : Int) ≤ (k : Int) ∧ (k : Int) ≤ (z : Int) ∧ (z : Int) ≤ (n : Int) ∧ (z : Int) ≤ (cap : Int) ∧ k ≠ cap ∧ z - k = s ∧ k < cap := by omega
set_option maxHeartbeats 400000 in
theorem rfRecord_any {s id k h o cap : Nat} (hr : RfR w g (s : Int) (some ⟨h, o, none⟩) cap R lv lo) (hk : k = id * s) (hle : k + s ≤ R.length) (hs : 0 < s) (hm : R.length ≤ 1099511627776) :
    Calls Tryd.prog 57 #[.pointer (some ⟨g, 0, none⟩), .int .i64 (id : Int)] w fun e w' => e = .returned (.slice (some ⟨h, o + k, none⟩) s (cap - k)) ∧ ∃ q, w' = w.drewN q := by
  obtain ⟨c2, c3, -, -, -, hc, hcm⟩ := hr
  have m1 : (id : Int) * (s : Int) = (k : Int) := by rw [hk, Int.natCast_mul]
  have m2 : ((id : Int) + 1) * (s : Int) = ((k + s : Nat) : Int) := by rw [Int.add_mul, m1]; omega
  have hid : id ≤ k := by rw [hk]; exact Nat.le_mul_of_pos_right _ hs
  have w1 : wrap64 (k : Int) = (k : Int) := rfwrap (by omega) (by omega)
  have w2 : wrap64 ((id : Int) + 1) = (id : Int) + 1 := rfwrap (by omega) (by omega)
  obtain ⟨z, hz⟩ : ∃ z, z = k + s := ⟨_, rfl⟩
  rw [← hz] at m2
  have w3 : wrap64 (z : Int) = (z : Int) := rfwrap (by omega) (by omega)
  obtain ⟨b0, b1, b2, b3, b4, b5, b6⟩ := rec_bounds hz (by rw [hz]; exact hle) hc hs
  clear hk hle hs hm hc hcm hid hz
  go_enter Tryd.func57, Tryd.ntmps57
  go_wp2
  go_quiet (fail)
  go_wp2
  go_ret
  exact ⟨rfl, nq, rfl⟩

/-- is the record in use? -/
def usedB (R : List Nat) (s n : Nat) (id : Int) : Bool := decide (0 ≤ id) && decide (id < (n : Int)) && decide (nth R (id.toNat * s) = 1)
set_option maxHeartbeats 400000 in
theorem rfUsed_any {s n cap : Nat} {A : Option Addr} (hr : RfR w g (s : Int) A cap R lv lo) (hs : 0 < s) (hR : R.length = n * s) (hm : R.length ≤ 1099511627776) (id : Int) :
    Calls Tryd.prog 51 #[.pointer (some ⟨g, 0, none⟩), .int .i64 id] w fun e w' => e = .returned (.bool (usedB R s n id)) ∧ ∃ q, w' = w.drewN q := by
  have hn : n ≤ R.length := by rw [hR]; exact Nat.le_mul_of_pos_right _ hs
  have hu : usedB R s n id = (decide (0 ≤ id) && decide (id < (n : Int)) && decide (nth R (id.toNat * s) = 1)) := rfl
  have HC := Lib.hid (rfCount_any hr hs hR (Nat.le_trans hn hm))
  rw [hu]
  by_cases h0 : 0 ≤ id
  · by_cases h1 : id < (n : Int)
    · obtain ⟨i, rfl⟩ : ∃ i : Nat, id = i := ⟨id.toNat, by omega⟩
      have hi : i < n := by omega
      have e0 : decide ((0 : Int) ≤ (i : Int)) = true := decide_eq_true h0
      have e1 : decide ((i : Int) < (n : Int)) = true := decide_eq_true h1
      have e1' : decide (i < n) = true := decide_eq_true hi
      obtain ⟨k, hk⟩ : ∃ k, k = i * s := ⟨_, rfl⟩
      have hle : k + s ≤ R.length := by rw [hk, hR, ← Nat.succ_mul]; exact Nat.mul_le_mul_right _ hi
      obtain ⟨b, off, rfl, hb, hcs⟩ := hr.2.2.2.2.1.all (by omega)
      have hc := hcs k (by omega)
      obtain ⟨y, hy⟩ : ∃ y, y = nth R k := ⟨_, rfl⟩
      rw [Int.toNat_natCast, ← hk, ← hy, e0, e1]
      rw [← hy] at hc
      obtain ⟨q, hq⟩ : ∃ q, ((y : Int) == 1) = q := ⟨_, rfl⟩
      have hq2 : decide (y = 1) = q := by
        rw [← hq]
        by_cases h : y = 1
        · simp [h]
        · rw [decide_eq_false h]
          exact (beq_eq_false_iff_ne.2 (by omega)).symm
      have hq3 : decide ((y : Int) = 1) = q := by rw [← hq]; by_cases h : (y : Int) = 1 <;> simp [h]
      rw [hq2]
      have s0 : (0 : Int) < (s : Int) := by omega
      have HRR := Lib.hid hr
      have HK := Lib.hid hk
      have HLE := Lib.hid hle
      have HC8 := Lib.hid hc
      clear hr hR hn hcs hk hy hu hle hc hq2 h0 h1 hi hb
      go_enter Tryd.func51, Tryd.ntmps51
      go_wp2_with (first
        | (go_at_call 26; refine (HC.out).mono ?_; rintro e w1 ⟨rfl, q1, hw1⟩; have HW1 := Lib.hid hw1; have hr1 : RfR w1 g (s : Int) (some ⟨b, off, none⟩) cap R lv lo := (by rw [hw1]; exact HRR.out.drewN q1); have HR1 := Lib.hid hr1; clear hw1 hr1)
        | (go_at_call 57; refine (rfRecord_any HR1.out HK.out HLE.out hs hm).mono ?_; rintro e w2 ⟨rfl, q2, hw2⟩; have HW2 := Lib.hid hw2; have hc2 : w2.cell? ⟨b, off + k, none⟩ = some (.int .u8 (y : Int)) := (by rw [hw2, HW1.out]; exact HC8.out); clear hw2))
      go_ret
      exact ⟨rfl, q1 + q2, by rw [HW2.out, HW1.out, World.drewN_drewN]⟩
    · have e0 : decide ((0 : Int) ≤ id) = true := decide_eq_true h0
      have e1 : decide (id < (n : Int)) = false := decide_eq_false h1
      rw [e0, e1]
      clear hr hR hu h0 h1
      go_enter Tryd.func51, Tryd.ntmps51
      go_wp2_with (go_at_call 26; refine (HC.out).mono ?_; rintro e w1 ⟨rfl, q1, hw1⟩; have HW1 := Lib.hid hw1; clear hw1)
      go_ret
      exact ⟨rfl, q1, HW1.out⟩
  · have e0 : decide ((0 : Int) ≤ id) = false := decide_eq_false h0
    rw [e0]
    clear hr hR hu h0
    go_enter Tryd.func51, Tryd.ntmps51
    go_wp2
    go_ret
    exact ⟨rfl, 0, rfl⟩
end
end Go.Proofs.YtcclcecjidlojaaDoor

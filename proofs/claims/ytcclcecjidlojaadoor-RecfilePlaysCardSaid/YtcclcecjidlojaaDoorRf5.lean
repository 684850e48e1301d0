/- recfile: Get, Free, Alloc. -/
import Derived.Test.YtcclcecjidlojaaDoorRf4
namespace Go.Proofs.YtcclcecjidlojaaDoor
open Go.RowKit
set_option linter.unusedVariables false
section
variable {S0 : Fp} {l : List Ass} {w0 w : World} {g : Nat} {K V S : Int} {R : List Nat} {lv lo : Int}

/-- what a record holds -/
def recD (R : List Nat) (s id : Nat) : List Nat := (R.take (id * s + s)).drop (id * s + 1)
theorem recD_len {s id : Nat} (h : id * s + s ≤ R.length) : (recD R s id).length = s - 1 := by
  unfold recD
  rw [List.length_drop, List.length_take]
  omega
theorem rec_in {s n id : Nat} (hR : R.length = n * s) (h : id < n) : id * s + s ≤ R.length := by
  rw [hR, ← Nat.succ_mul]; exact Nat.mul_le_mul_right _ h
theorem rf_big {s n : Nat} (hR : R.length = n * s) (hn : n ≤ 65536) (hs : s ≤ 255) : R.length ≤ 1099511627776 := by
  have : n * s ≤ 65536 * 255 := Nat.mul_le_mul hn hs
  omega
/-- the row behind what is read -/
theorem rf_rowAt {s : Int} {A : Option Addr} {cap : Nat} (h : St S0 (RfA g K V s R lv lo :: l) w0 w) (hr : RfR w g s A cap R lv lo) (hp : 0 < R.length) : ∃ b, A = some ⟨b, 0, none⟩ := by
  obtain ⟨v, h1⟩ := rf_open h
  have h3 := hr.2.1
  rw [(rf_cells h1).2.2.2.1] at h3
  simp only [Option.some.injEq] at h3
  subst h3
  rcases h1.swap.ob.2.2 with ⟨h4, h5⟩ | ⟨b, cap', cur, h4, _⟩
  · omega
  · simp only [Value.slice.injEq] at h4
    exact ⟨b, h4.1⟩
set_option maxRecDepth 100000 in
set_option maxHeartbeats 800000 in
theorem rfGet_ok [Stable (Sep l)] {s n id : Nat} (h : St S0 (RfA g K V (s : Int) R lv lo :: l) w0 w) (hs : 2 ≤ s) (hs2 : s ≤ 255) (hR : R.length = n * s) (hn : n ≤ 65536) (hu : usedB R s n (id : Int) = true) :
    Calls Tryd.prog 29 #[.pointer (some ⟨g, 0, none⟩), .int .i64 (id : Int)] w fun e w' => ∃ v, e = .returned (.tuple #[v, .int .i64 0]) ∧ St S0 (ObA 5 v (recD R s id) :: RfA g K V (s : Int) R lv lo :: l) w0 w' := by
  have hRm := rf_big hR hn hs2
  have hid := usedB_lt hu
  have hle := rec_in hR hid
  obtain ⟨A, cap, hr⟩ := rf_read h
  obtain ⟨b, rfl⟩ := rf_rowAt h hr (by omega)
  have hU := rfUsed_any hr (by omega) hR hRm (id : Int)
  rw [hu] at hU
  have hcut := hr.2.2.2.2.1.cut rfl (id * s + 1) (id * s + s) hle (by omega)
  have hlen := recD_len hle
  have hcap : R.length ≤ cap := hr.2.2.2.2.2.1
  rw [Nat.zero_add] at hcut
  change RB w w.heap.size _ (recD R s id) at hcut
  obtain ⟨D, hD⟩ : ∃ D, D = recD R s id := ⟨_, rfl⟩
  obtain ⟨k, hk⟩ : ∃ k, k = id * s := ⟨_, rfl⟩
  rw [← hD] at hcut hlen ⊢
  rw [← hk] at hcut hle
  have q0 : cap - k ≠ 1 := by omega
  have q1 : 1 ≠ cap - k := fun e => q0 e.symm
  have q2 : 1 < cap - k := by omega
  have s1 : (1 : Int) ≤ (s : Int) := by omega
  have s2 : s - 1 = D.length := hlen.symm
  have HH := Lib.hid h
  have HU := Lib.hid hU
  have HR := Lib.hid hr
  have HK := Lib.hid hk
  have HLE := Lib.hid hle
  have HRM := Lib.hid hRm
  have HCUT := Lib.hid hcut
  have HS := Lib.hid hs
  have HDL : Hid (D.length ≤ 140737488355328) := Lib.hid (by omega)
  clear h hU hr hk hle hRm hcut hs hs2 hR hn hu hlen hcap hid hD
  go_enter Tryd.func29, Tryd.ntmps29
  go_wp2_with (first
    | (go_at_call 51; refine (HU.out).mono ?_; rintro e w1 ⟨rfl, q1, hw1⟩; have HW1 := Lib.hid hw1; have hr1 : RfR w1 g (s : Int) (some ⟨b, 0, none⟩) cap R lv lo := (by rw [hw1]; exact HR.out.drewN q1); have HR1 := Lib.hid hr1; clear hw1 hr1)
    | (go_at_call 57; refine (rfRecord_any HR1.out HK.out HLE.out (by have := HS.out; omega) HRM.out).mono ?_; rintro e w2 ⟨rfl, q2, hw2⟩; have h2 : St S0 (RfA g K V (s : Int) R lv lo :: l) w0 w2 := (by rw [hw2, HW1.out]; exact (HH.out.drewN q1).drewN q2); have hc2 : RB w2 w2.heap.size (some ⟨b, k + 1, none⟩) D := (by rw [hw2, HW1.out]; exact HCUT.out); have H2 := Lib.hid h2; have HC2 := Lib.hid hc2; clear hw2 h2 hc2; rw [Nat.zero_add])
    | (go_at_call 49; refine (Clone_any (some ⟨b, k + 1, none⟩) (cap - k - 1) w2.heap.size D w2 HC2.out (Nat.le_refl _) HDL.out).mono ?_; rintro e w3 ⟨v3, rfl, ho, hb⟩; have H3 := Lib.hid (H2.out.newOb ho hb); obtain ⟨A3, c3, rfl, -, -, -, -⟩ := ho.form; clear ho hb))
  go_ret2
  exact ⟨_, rfl, H3.out⟩
set_option maxHeartbeats 400000 in
theorem rfGet_no [Stable (Sep l)] {s n : Nat} {id : Int} (h : St S0 (RfA g K V (s : Int) R lv lo :: l) w0 w) (hs : 2 ≤ s) (hs2 : s ≤ 255) (hR : R.length = n * s) (hn : n ≤ 65536) (hu : usedB R s n id = false) :
    Calls Tryd.prog 29 #[.pointer (some ⟨g, 0, none⟩), .int .i64 id] w fun e w' => e = .returned (.tuple #[.slice none 0 0, .int .i64 3]) ∧ St S0 (RfA g K V (s : Int) R lv lo :: l) w0 w' := by
  have hRm := rf_big hR hn hs2
  obtain ⟨A, cap, hr⟩ := rf_read h
  have hU := rfUsed_any hr (by omega) hR hRm id
  rw [hu] at hU
  have HH := Lib.hid h
  have HU := Lib.hid hU
  clear h hU hr hRm hs hs2 hR hn hu
  go_enter Tryd.func29, Tryd.ntmps29
  go_wp2_with (go_at_call 51; refine (HU.out).mono ?_; rintro e w1 ⟨rfl, q1, hw1⟩; have h2 : St S0 (RfA g K V (s : Int) R lv lo :: l) w0 w1 := (by rw [hw1]; exact HH.out.drewN q1); have H2 := Lib.hid h2; clear hw1 h2)
  go_ret2
  exact ⟨rfl, H2.out⟩
end
end Go.Proofs.YtcclcecjidlojaaDoor

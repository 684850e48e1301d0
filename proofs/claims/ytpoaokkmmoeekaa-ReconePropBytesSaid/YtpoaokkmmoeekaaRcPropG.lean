/- A prop's record: Read, Get of the program. Written by mkrc.py. -/
import Derived.Test.YtpoaokkmmoeekaaRcProp
namespace Go.Proofs.Ytpoaokkmmoeekaa
open Go.RowKit
set_option linter.unusedVariables false
/-- what GetProp finds -/
def getPropQ (bs : List Nat) : Cs × Bool := propQ (.r bs 0, false) ⟨0, 0, 0, (-1), 0, 0⟩
def getPropE (bs : List Nat) : Int := (getPropQ bs).1.endE (getPropQ bs).2
def getPropV (bs : List Nat) : PropC := propV (.r bs 0, false) ⟨0, 0, 0, (-1), 0, 0⟩
def PropReadB (y : PropC) (E : Int) (w : World) (e : Ending) (w' : World) : Prop :=
  e = .returned (.tuple #[if E = 0 then .agg #[.int .i64 y.ky, .int .i64 y.kd, .int .i64 y.nu, .int .i64 y.bl, .int .i64 y.pv, .int .i64 y.nx] else .agg #[.int .i64 0, .int .i64 0, .int .i64 0, .int .i64 0, .int .i64 0, .int .i64 0], .int .i64 E]) ∧ St Zf [] w w'
def PropRead (bs : List Nat) (w : World) (e : Ending) (w' : World) : Prop := PropReadB (getPropV bs) (getPropE bs) w e w'

set_option maxHeartbeats 4000000 in
theorem readProp_any (A : Option Addr) (cap B : Nat) (bs : List Nat) (w : World) (hr : RB w B A bs) (hB : B ≤ w.heap.size) (hl : bs.length ≤ 140737488355328) :
    Calls Try.prog 46 #[.slice A bs.length cap, .agg #[.int .i64 0, .int .i64 0, .int .i64 0, .int .i64 (-1), .int .i64 0, .int .i64 0], .func (.func 44) #[] #[]] w (PropRead bs w) := by
  obtain ⟨wo, hwo⟩ : ∃ wo, wo = (w.alloc (.cells #[.int .i64 0, .int .i64 0, .int .i64 0, .int .i64 (-1), .int .i64 0, .int .i64 0] 87)).alloc (.cells #[.int .i64 0, .int .i64 0, .int .i64 0, .int .i64 0, .int .i64 0, .int .i64 0] 87) := ⟨_, rfl⟩
  have h0 : St Zf [BlkA (w.heap.size + 1) 87 #[.int .i64 0, .int .i64 0, .int .i64 0, .int .i64 0, .int .i64 0, .int .i64 0], BlkA w.heap.size 87 #[.int .i64 0, .int .i64 0, .int .i64 0, .int .i64 (-1), .int .i64 0, .int .i64 0]] w wo := by
    have := ((St.start Zf w).newBlk 87 #[.int .i64 0, .int .i64 0, .int .i64 0, .int .i64 (-1), .int .i64 0, .int .i64 0]).newBlk 87 #[.int .i64 0, .int .i64 0, .int .i64 0, .int .i64 0, .int .i64 0, .int .i64 0]
    rw [hwo]
    simpa using this
  have HF : Hid (∀ W, St Zf [BlkA (w.heap.size + 1) 87 #[.int .i64 0, .int .i64 0, .int .i64 0, .int .i64 0, .int .i64 0, .int .i64 0], BlkA w.heap.size 87 #[.int .i64 0, .int .i64 0, .int .i64 0, .int .i64 (-1), .int .i64 0, .int .i64 0]] w W → (W.cell? ⟨w.heap.size, 0, none⟩ = some (.int .i64 0) ∧ W.cell? ⟨w.heap.size, 1, none⟩ = some (.int .i64 0) ∧ W.cell? ⟨w.heap.size, 2, none⟩ = some (.int .i64 0) ∧ W.cell? ⟨w.heap.size, 3, none⟩ = some (.int .i64 (-1)) ∧ W.cell? ⟨w.heap.size, 4, none⟩ = some (.int .i64 0) ∧ W.cell? ⟨w.heap.size, 5, none⟩ = some (.int .i64 0)) ∧ (W.cell? ⟨w.heap.size + 1, 0, none⟩ = some (.int .i64 0) ∧ W.cell? ⟨w.heap.size + 1, 1, none⟩ = some (.int .i64 0) ∧ W.cell? ⟨w.heap.size + 1, 2, none⟩ = some (.int .i64 0) ∧ W.cell? ⟨w.heap.size + 1, 3, none⟩ = some (.int .i64 0) ∧ W.cell? ⟨w.heap.size + 1, 4, none⟩ = some (.int .i64 0) ∧ W.cell? ⟨w.heap.size + 1, 5, none⟩ = some (.int .i64 0)) ∧ (W.frozen? ⟨w.heap.size + 1, 0, none⟩ = false ∧ W.frozen? ⟨w.heap.size + 1, 1, none⟩ = false ∧ W.frozen? ⟨w.heap.size + 1, 2, none⟩ = false ∧ W.frozen? ⟨w.heap.size + 1, 3, none⟩ = false ∧ W.frozen? ⟨w.heap.size + 1, 4, none⟩ = false ∧ W.frozen? ⟨w.heap.size + 1, 5, none⟩ = false)) := Lib.hid fun W h => ⟨cellsprop h.swap, cellsprop h, frozprop h⟩
  have HN : Hid (∀ W, Below wo.heap.size wo W → Calls Try.prog 53 #[.slice A bs.length cap] W fun e W' => ∃ g, e = .returned (.pointer (some ⟨g, 0, none⟩)) ∧ St Zf [RdA g bs 0, BlkA (w.heap.size + 1) 87 #[.int .i64 0, .int .i64 0, .int .i64 0, .int .i64 0, .int .i64 0, .int .i64 0], BlkA w.heap.size 87 #[.int .i64 0, .int .i64 0, .int .i64 0, .int .i64 (-1), .int .i64 0, .int .i64 0]] w W') := Lib.hid fun W hb => by
    have h1 := h0.below hb
    have hr1 := h1.rb hr hB
    refine (NewReader_any A cap B bs W hr1 (by have := h1.size; omega) hl).mono ?_
    rintro e W' ⟨g, q, rfl, hR, hb1⟩
    refine ⟨g, rfl, h1.add (F := fun k => k = g ∨ k = q) hb1 ⟨q, ?_, rfl⟩ ?_⟩
    · obtain ⟨A', c', k1, k2, k3, k4, k5, k6, k7, k8, k9⟩ := hR
      exact ⟨A', c', k1, k2, k3, k4, k5, Nat.zero_le _, Nat.zero_le _, k8, k9⟩
    · rintro k (rfl | rfl)
      · exact hR.lt.1
      · exact hR.lt.2.1
  unfold PropRead PropReadB
  obtain ⟨E, hE⟩ : ∃ E, E = getPropE bs := ⟨_, rfl⟩
  obtain ⟨y, hy⟩ : ∃ y, y = getPropV bs := ⟨_, rfl⟩
  have HC : Hid (∀ g w3, St Zf [RdA g bs 0, BlkA (w.heap.size + 1) 87 #[.int .i64 0, .int .i64 0, .int .i64 0, .int .i64 0, .int .i64 0, .int .i64 0], BlkA w.heap.size 87 #[.int .i64 0, .int .i64 0, .int .i64 0, .int .i64 (-1), .int .i64 0, .int .i64 0]] w w3 → Calls Try.prog 56 #[.pointer (some ⟨w3.heap.size, 0, none⟩), .agg #[.int .i64 0, .int .i64 0, .int .i64 0, .int .i64 (-1), .int .i64 0, .int .i64 0], .func (.func 44) #[] #[]] (w3.alloc (.cells #[.pointer none, .pointer (some ⟨g, 0, none⟩), .bool false] 100)) fun e W' => e = .returned (.tuple #[if E = 0 then .agg #[.int .i64 y.ky, .int .i64 y.kd, .int .i64 y.nu, .int .i64 y.bl, .int .i64 y.pv, .int .i64 y.nx] else .agg #[.int .i64 0, .int .i64 0, .int .i64 0, .int .i64 0, .int .i64 0, .int .i64 0], .int .i64 E]) ∧ St Zf [BlkA (w.heap.size + 1) 87 #[.int .i64 0, .int .i64 0, .int .i64 0, .int .i64 0, .int .i64 0, .int .i64 0], BlkA w.heap.size 87 #[.int .i64 0, .int .i64 0, .int .i64 0, .int .i64 (-1), .int .i64 0, .int .i64 0]] w W') := Lib.hid fun g w3 h3 => by
    have h4 := co_shutR (h3.newBlk 100 #[.pointer none, .pointer (some ⟨g, 0, none⟩), .bool false])
    subst hE hy
    refine (codeProp_any (q := (.r bs 0, false)) (x := ⟨0, 0, 0, (-1), 0, 0⟩) h4 (by simp [Cs.len])).mono ?_
    rintro e W' ⟨rfl, h5⟩
    exact ⟨rfl, h5.drop⟩
  have hb0 : Below wo.heap.size wo wo.drew := ⟨rfl, rfl, rfl, Nat.le_refl _, fun _ _ => rfl⟩
  obtain ⟨⟨c0, c1, c2, c3, c4, c5⟩, ⟨u0, u1, u2, u3, u4, u5⟩, ⟨f0, f1, f2, f3, f4, f5⟩⟩ := HF.out wo h0
  have Hwo := Lib.hid hwo
  rw [← hE, ← hy]
  clear hwo hr h0 hE hy
  by_cases h0 : E = 0
  · subst h0
    simp only at HC ⊢
    go_enter Try.func46, Try.ntmps46
    go_wp2
    rw [← Hwo.out]
    go_region_held3 (fun w' => w'.cell? ⟨w.heap.size, 0, none⟩ = some (.int .i64 0) ∧ w'.cell? ⟨w.heap.size, 1, none⟩ = some (.int .i64 0) ∧ w'.cell? ⟨w.heap.size, 2, none⟩ = some (.int .i64 0) ∧ w'.cell? ⟨w.heap.size, 3, none⟩ = some (.int .i64 (-1)) ∧ w'.cell? ⟨w.heap.size, 4, none⟩ = some (.int .i64 0) ∧ w'.cell? ⟨w.heap.size, 5, none⟩ = some (.int .i64 0)) (go_keep)
      ((first
        | (go_at_call 53; refine (HN.out _ hb0).mono ?_; rintro e w3 ⟨g, rfl, h3⟩; have kN := HF.out _ h3.drop; obtain ⟨⟨_, _, _, _, _, _⟩, ⟨_, _, _, _, _, _⟩, ⟨_, _, _, _, _, _⟩⟩ := kN)
        | (go_at_call 56; refine (HC.out _ _ h3).mono ?_; rintro e w4 ⟨rfl, h4⟩; have kC := HF.out _ h4; obtain ⟨⟨_, _, _, _, _, _⟩, ⟨_, _, _, _, _, _⟩, ⟨_, _, _, _, _, _⟩⟩ := kC)))
    have h5 := ((((((h4.setBlk 0 (.int .i64 y.ky)).setBlk 1 (.int .i64 y.kd)).setBlk 2 (.int .i64 y.nu)).setBlk 3 (.int .i64 y.bl)).setBlk 4 (.int .i64 y.pv)).setBlk 5 (.int .i64 y.nx))
    go_wp2
    try simp only [Exit.inBlock, Exit.then]
    refine bodyPost_ret (results_row_tmp rfl _ _ (w.heap.size + 1) 87 #[.int .i64 y.ky, .int .i64 y.kd, .int .i64 y.nu, .int .i64 y.bl, .int .i64 y.pv, .int .i64 y.nx] _ rfl h5.blk Try.underlying87 rfl (by kernel_rfl)) rfl ?_
    exact ⟨rfl, h5.drop.drop⟩
  · simp only [if_neg h0] at HC ⊢
    clear h0
    go_enter Try.func46, Try.ntmps46
    go_wp2
    rw [← Hwo.out]
    go_region_held3 (fun w' => w'.cell? ⟨w.heap.size, 0, none⟩ = some (.int .i64 0) ∧ w'.cell? ⟨w.heap.size, 1, none⟩ = some (.int .i64 0) ∧ w'.cell? ⟨w.heap.size, 2, none⟩ = some (.int .i64 0) ∧ w'.cell? ⟨w.heap.size, 3, none⟩ = some (.int .i64 (-1)) ∧ w'.cell? ⟨w.heap.size, 4, none⟩ = some (.int .i64 0) ∧ w'.cell? ⟨w.heap.size, 5, none⟩ = some (.int .i64 0)) (go_keep)
      ((first
        | (go_at_call 53; refine (HN.out _ hb0).mono ?_; rintro e w3 ⟨g, rfl, h3⟩; have kN := HF.out _ h3.drop; obtain ⟨⟨_, _, _, _, _, _⟩, ⟨_, _, _, _, _, _⟩, ⟨_, _, _, _, _, _⟩⟩ := kN)
        | (go_at_call 56; refine (HC.out _ _ h3).mono ?_; rintro e w4 ⟨rfl, h4⟩; have kC := HF.out _ h4; obtain ⟨⟨_, _, _, _, _, _⟩, ⟨_, _, _, _, _, _⟩, ⟨_, _, _, _, _, _⟩⟩ := kC)))
    have h5 := ((((((h4.setBlk 0 (.int .i64 0)).setBlk 1 (.int .i64 0)).setBlk 2 (.int .i64 0)).setBlk 3 (.int .i64 0)).setBlk 4 (.int .i64 0)).setBlk 5 (.int .i64 0))
    go_wp2
    try simp only [Exit.inBlock, Exit.then]
    refine bodyPost_ret (results_row_tmp rfl _ _ (w.heap.size + 1) 87 #[.int .i64 0, .int .i64 0, .int .i64 0, .int .i64 0, .int .i64 0, .int .i64 0] _ rfl h5.blk Try.underlying87 rfl (by kernel_rfl)) rfl ?_
    exact ⟨rfl, h5.drop.drop⟩

set_option maxHeartbeats 4000000 in
theorem GetProp_any (A : Option Addr) (cap B : Nat) (bs : List Nat) (w : World) (hr : RB w B A bs) (hB : B ≤ w.heap.size) (hl : bs.length ≤ 140737488355328) :
    Calls Try.prog 24 #[.slice A bs.length cap] w (PropRead bs w) := by
  have h0 : St Zf [BlkA w.heap.size 53 #[.int .i64 0, .int .i64 0, .int .i64 0, .int .i64 0, .int .i64 0, .int .i64 0]] w (w.alloc (.cells #[.int .i64 0, .int .i64 0, .int .i64 0, .int .i64 0, .int .i64 0, .int .i64 0] 53)) := (St.start Zf w).newBlk _ _
  obtain ⟨wo, hwo⟩ : ∃ wo, wo = (w.alloc (.cells #[.int .i64 0, .int .i64 0, .int .i64 0, .int .i64 0, .int .i64 0, .int .i64 0] 53)) := ⟨_, rfl⟩
  rw [← hwo] at h0
  have H := Lib.hid (readProp_any A cap B bs wo (h0.rb hr hB) (by have := h0.size; omega) hl)
  have H0 := Lib.hid h0
  have Hwo := Lib.hid hwo
  unfold PropRead PropReadB at H ⊢
  obtain ⟨E, hE⟩ : ∃ E, E = getPropE bs := ⟨_, rfl⟩
  obtain ⟨y, hy⟩ : ∃ y, y = getPropV bs := ⟨_, rfl⟩
  rw [← hE, ← hy] at H
  rw [← hE, ← hy]
  clear hwo hr h0 hE hy
  by_cases h0 : E = 0
  · subst h0
    simp only at H ⊢
    go_enter Try.func24, Try.ntmps24
    go_wp2_with (go_at_call 46; rw [← Hwo.out]; refine (H.out).mono ?_; rintro e w3 ⟨rfl, h3⟩; have h4 := (H0.out.below h3.bel).newBlk 87 #[.int .i64 y.ky, .int .i64 y.kd, .int .i64 y.nu, .int .i64 y.bl, .int .i64 y.pv, .int .i64 y.nx]; obtain ⟨u0, u1, u2, u3, u4, u5⟩ := cellsprop h4.swap; obtain ⟨f0, f1, f2, f3, f4, f5⟩ := frozprop h4.swap; have h5 := Lib.hid ((((((h4.swap.setBlk 0 (.int .i64 y.ky)).setBlk 1 (.int .i64 y.kd)).setBlk 2 (.int .i64 y.nu)).setBlk 3 (.int .i64 y.bl)).setBlk 4 (.int .i64 y.pv)).setBlk 5 (.int .i64 y.nx)); clear h3 h4)
    try simp only [Exit.inBlock, Exit.then]
    refine bodyPost_ret (results_row_tmp rfl _ _ w.heap.size 53 #[.int .i64 y.ky, .int .i64 y.kd, .int .i64 y.nu, .int .i64 y.bl, .int .i64 y.pv, .int .i64 y.nx] _ rfl h5.out.blk Try.underlying53 rfl (by kernel_rfl)) rfl ?_
    exact ⟨rfl, h5.out.drop.drop⟩
  · simp only [if_neg h0] at H ⊢
    clear h0
    go_enter Try.func24, Try.ntmps24
    go_wp2_with (go_at_call 46; rw [← Hwo.out]; refine (H.out).mono ?_; rintro e w3 ⟨rfl, h3⟩; have h4 := (H0.out.below h3.bel).newBlk 87 #[.int .i64 0, .int .i64 0, .int .i64 0, .int .i64 0, .int .i64 0, .int .i64 0]; obtain ⟨u0, u1, u2, u3, u4, u5⟩ := cellsprop h4.swap; obtain ⟨f0, f1, f2, f3, f4, f5⟩ := frozprop h4.swap; have h5 := Lib.hid ((((((h4.swap.setBlk 0 (.int .i64 0)).setBlk 1 (.int .i64 0)).setBlk 2 (.int .i64 0)).setBlk 3 (.int .i64 0)).setBlk 4 (.int .i64 0)).setBlk 5 (.int .i64 0)); clear h3 h4)
    try simp only [Exit.inBlock, Exit.then]
    refine bodyPost_ret (results_row_tmp rfl _ _ w.heap.size 53 #[.int .i64 0, .int .i64 0, .int .i64 0, .int .i64 0, .int .i64 0, .int .i64 0] _ rfl h5.out.blk Try.underlying53 rfl (by kernel_rfl)) rfl ?_
    exact ⟨rfl, h5.out.drop.drop⟩

end Go.Proofs.Ytpoaokkmmoeekaa

/- A rel's record of rectwo: Read, Get. Written by mkrd2.py. -/
import Derived.Test.YtmiiogailnjfpaaRdRelT
import Derived.Deep.RegionHeld3
namespace Go.Proofs.Ytmiiogailnjfpaa
open Go.RowKit
set_option linter.unusedVariables false

theorem cellsrelT {S : Fp} {l : List Ass} {w0 w : World} {g : Nat} {t : TypeId} {a0 a1 a2 a3 a4 a5 a6 a7 a8 a9 : Value} (h : St S (BlkA g t #[a0, a1, a2, a3, a4, a5, a6, a7, a8, a9] :: l) w0 w) : w.cell? ⟨g, 0, none⟩ = some a0 ∧ w.cell? ⟨g, 1, none⟩ = some a1 ∧ w.cell? ⟨g, 2, none⟩ = some a2 ∧ w.cell? ⟨g, 3, none⟩ = some a3 ∧ w.cell? ⟨g, 4, none⟩ = some a4 ∧ w.cell? ⟨g, 5, none⟩ = some a5 ∧ w.cell? ⟨g, 6, none⟩ = some a6 ∧ w.cell? ⟨g, 7, none⟩ = some a7 ∧ w.cell? ⟨g, 8, none⟩ = some a8 ∧ w.cell? ⟨g, 9, none⟩ = some a9 := by
  have hb := h.blk
  exact ⟨by rw [hb.cell 0]; rfl, by rw [hb.cell 1]; rfl, by rw [hb.cell 2]; rfl, by rw [hb.cell 3]; rfl, by rw [hb.cell 4]; rfl, by rw [hb.cell 5]; rfl, by rw [hb.cell 6]; rfl, by rw [hb.cell 7]; rfl, by rw [hb.cell 8]; rfl, by rw [hb.cell 9]; rfl⟩
theorem frozrelT {S : Fp} {l : List Ass} {w0 w : World} {g : Nat} {t : TypeId} {cs : Array Value} (h : St S (BlkA g t cs :: l) w0 w) : w.frozen? ⟨g, 0, none⟩ = false ∧ w.frozen? ⟨g, 1, none⟩ = false ∧ w.frozen? ⟨g, 2, none⟩ = false ∧ w.frozen? ⟨g, 3, none⟩ = false ∧ w.frozen? ⟨g, 4, none⟩ = false ∧ w.frozen? ⟨g, 5, none⟩ = false ∧ w.frozen? ⟨g, 6, none⟩ = false ∧ w.frozen? ⟨g, 7, none⟩ = false ∧ w.frozen? ⟨g, 8, none⟩ = false ∧ w.frozen? ⟨g, 9, none⟩ = false := by
  have hb := h.blk
  exact ⟨hb.frozen 0, hb.frozen 1, hb.frozen 2, hb.frozen 3, hb.frozen 4, hb.frozen 5, hb.frozen 6, hb.frozen 7, hb.frozen 8, hb.frozen 9⟩
theorem cs_r (s : Cs) (h : s.isw = false) : ∃ bs err, s = .r bs err := by
  cases s
  · cases h
  · exact ⟨_, _, rfl⟩

/-- what Get finds -/
def getRelTQ (bs : List Nat) : Cs × Bool := relTQ (.r bs 0, false) ⟨true, 0, 0, 0, 0, 0, 0, 0, 0⟩ []
def getRelTE (bs : List Nat) : Int := (getRelTQ bs).1.endE (getRelTQ bs).2
def getRelTV (bs : List Nat) : RelC := relV (.r bs 0, false) ⟨true, 0, 0, 0, 0, 0, 0, 0, 0⟩
def getRelTS (bs : List Nat) : List Nat := slB (relQ (.r bs 0, false) ⟨true, 0, 0, 0, 0, 0, 0, 0, 0⟩).1 32
def RelTReadB (y : RelC) (S : List Nat) (E : Int) (w : World) (e : Ending) (w' : World) : Prop :=
  ∃ (a : Option Addr) (b d : Nat), e = .returned (.tuple #[if E = 0 then .agg #[.bool true, .int .i64 y.fr, .int .i64 y.to, .int .i64 y.fp, .int .i64 y.tp, .int .i64 y.fn, .int .i64 y.tn, .int .i64 y.ty, .int .i64 y.pr, .slice a b d] else .agg #[.bool false, .int .i64 0, .int .i64 0, .int .i64 0, .int .i64 0, .int .i64 0, .int .i64 0, .int .i64 0, .int .i64 0, .slice none 0 0], .int .i64 E]) ∧ St Zf [ObA 5 (.slice a b d) S] w w'
def RelTRead (bs : List Nat) (w : World) (e : Ending) (w' : World) : Prop := RelTReadB (getRelTV bs) (getRelTS bs) (getRelTE bs) w e w'

set_option maxHeartbeats 4000000 in
theorem readRelT_any (A : Option Addr) (cap B : Nat) (bs : List Nat) (w : World) (hr : RB w B A bs) (hB : B ≤ w.heap.size) (hl : bs.length ≤ 140737488355328) :
    Calls Try.prog 46 #[.slice A bs.length cap, .agg #[.bool true, .int .i64 0, .int .i64 0, .int .i64 0, .int .i64 0, .int .i64 0, .int .i64 0, .int .i64 0, .int .i64 0, .slice none 0 0], .func (.func 43) #[] #[]] w (RelTRead bs w) := by
  obtain ⟨wo, hwo⟩ : ∃ wo, wo = (w.alloc (.cells #[.bool true, .int .i64 0, .int .i64 0, .int .i64 0, .int .i64 0, .int .i64 0, .int .i64 0, .int .i64 0, .int .i64 0, .slice none 0 0] 81)).alloc (.cells #[.bool false, .int .i64 0, .int .i64 0, .int .i64 0, .int .i64 0, .int .i64 0, .int .i64 0, .int .i64 0, .int .i64 0, .slice none 0 0] 81) := ⟨_, rfl⟩
  have h0 : St Zf [BlkA (w.heap.size + 1) 81 #[.bool false, .int .i64 0, .int .i64 0, .int .i64 0, .int .i64 0, .int .i64 0, .int .i64 0, .int .i64 0, .int .i64 0, .slice none 0 0], BlkA w.heap.size 81 #[.bool true, .int .i64 0, .int .i64 0, .int .i64 0, .int .i64 0, .int .i64 0, .int .i64 0, .int .i64 0, .int .i64 0, .slice none 0 0]] w wo := by
    have := ((St.start Zf w).newBlk 81 #[.bool true, .int .i64 0, .int .i64 0, .int .i64 0, .int .i64 0, .int .i64 0, .int .i64 0, .int .i64 0, .int .i64 0, .slice none 0 0]).newBlk 81 #[.bool false, .int .i64 0, .int .i64 0, .int .i64 0, .int .i64 0, .int .i64 0, .int .i64 0, .int .i64 0, .int .i64 0, .slice none 0 0]
    rw [hwo]
    simpa using this
  have HF : Hid (∀ W, St Zf [BlkA (w.heap.size + 1) 81 #[.bool false, .int .i64 0, .int .i64 0, .int .i64 0, .int .i64 0, .int .i64 0, .int .i64 0, .int .i64 0, .int .i64 0, .slice none 0 0], BlkA w.heap.size 81 #[.bool true, .int .i64 0, .int .i64 0, .int .i64 0, .int .i64 0, .int .i64 0, .int .i64 0, .int .i64 0, .int .i64 0, .slice none 0 0]] w W → (W.cell? ⟨w.heap.size, 0, none⟩ = some (.bool true) ∧ W.cell? ⟨w.heap.size, 1, none⟩ = some (.int .i64 0) ∧ W.cell? ⟨w.heap.size, 2, none⟩ = some (.int .i64 0) ∧ W.cell? ⟨w.heap.size, 3, none⟩ = some (.int .i64 0) ∧ W.cell? ⟨w.heap.size, 4, none⟩ = some (.int .i64 0) ∧ W.cell? ⟨w.heap.size, 5, none⟩ = some (.int .i64 0) ∧ W.cell? ⟨w.heap.size, 6, none⟩ = some (.int .i64 0) ∧ W.cell? ⟨w.heap.size, 7, none⟩ = some (.int .i64 0) ∧ W.cell? ⟨w.heap.size, 8, none⟩ = some (.int .i64 0) ∧ W.cell? ⟨w.heap.size, 9, none⟩ = some (.slice none 0 0)) ∧ (W.cell? ⟨w.heap.size + 1, 0, none⟩ = some (.bool false) ∧ W.cell? ⟨w.heap.size + 1, 1, none⟩ = some (.int .i64 0) ∧ W.cell? ⟨w.heap.size + 1, 2, none⟩ = some (.int .i64 0) ∧ W.cell? ⟨w.heap.size + 1, 3, none⟩ = some (.int .i64 0) ∧ W.cell? ⟨w.heap.size + 1, 4, none⟩ = some (.int .i64 0) ∧ W.cell? ⟨w.heap.size + 1, 5, none⟩ = some (.int .i64 0) ∧ W.cell? ⟨w.heap.size + 1, 6, none⟩ = some (.int .i64 0) ∧ W.cell? ⟨w.heap.size + 1, 7, none⟩ = some (.int .i64 0) ∧ W.cell? ⟨w.heap.size + 1, 8, none⟩ = some (.int .i64 0) ∧ W.cell? ⟨w.heap.size + 1, 9, none⟩ = some (.slice none 0 0)) ∧ (W.frozen? ⟨w.heap.size + 1, 0, none⟩ = false ∧ W.frozen? ⟨w.heap.size + 1, 1, none⟩ = false ∧ W.frozen? ⟨w.heap.size + 1, 2, none⟩ = false ∧ W.frozen? ⟨w.heap.size + 1, 3, none⟩ = false ∧ W.frozen? ⟨w.heap.size + 1, 4, none⟩ = false ∧ W.frozen? ⟨w.heap.size + 1, 5, none⟩ = false ∧ W.frozen? ⟨w.heap.size + 1, 6, none⟩ = false ∧ W.frozen? ⟨w.heap.size + 1, 7, none⟩ = false ∧ W.frozen? ⟨w.heap.size + 1, 8, none⟩ = false ∧ W.frozen? ⟨w.heap.size + 1, 9, none⟩ = false)) := Lib.hid fun W h => ⟨cellsrelT h.swap, cellsrelT h, frozrelT h⟩
  have HN : Hid (∀ W, Below wo.heap.size wo W → Calls Try.prog 60 #[.slice A bs.length cap] W fun e W' => ∃ g, e = .returned (.pointer (some ⟨g, 0, none⟩)) ∧ St Zf [RdA g bs 0, BlkA (w.heap.size + 1) 81 #[.bool false, .int .i64 0, .int .i64 0, .int .i64 0, .int .i64 0, .int .i64 0, .int .i64 0, .int .i64 0, .int .i64 0, .slice none 0 0], BlkA w.heap.size 81 #[.bool true, .int .i64 0, .int .i64 0, .int .i64 0, .int .i64 0, .int .i64 0, .int .i64 0, .int .i64 0, .int .i64 0, .slice none 0 0]] w W') := Lib.hid fun W hb => by
    have h1 := h0.below hb
    have hr1 := h1.rb hr hB
    refine (NewReader_any A cap B bs W hr1 (by have := h1.size; omega) hl).mono ?_
    rintro e W' ⟨g, q, rfl, hR, hb1⟩
    refine ⟨g, rfl, h1.add (F := fun k => k = g ∨ k = q) hb1 ⟨q, ?_, rfl⟩ ?_⟩
    · obtain ⟨A', c', k1, k2, k3, k4, k5, k6, k7, k8, k9⟩ := hR
      exact ⟨A', c', k1, k2, k3, k4, k5, Nat.zero_le _, Nat.zero_le _, k8, k9⟩
    · rintro k (rfl | rfl)
      · exact hR.lt.1
      · exact hR.lt.2.1
  unfold RelTRead RelTReadB
  obtain ⟨E, hE⟩ : ∃ E, E = getRelTE bs := ⟨_, rfl⟩
  have HC0 : ∀ g w3, St Zf [RdA g bs 0, BlkA (w.heap.size + 1) 81 #[.bool false, .int .i64 0, .int .i64 0, .int .i64 0, .int .i64 0, .int .i64 0, .int .i64 0, .int .i64 0, .int .i64 0, .slice none 0 0], BlkA w.heap.size 81 #[.bool true, .int .i64 0, .int .i64 0, .int .i64 0, .int .i64 0, .int .i64 0, .int .i64 0, .int .i64 0, .int .i64 0, .slice none 0 0]] w w3 → Calls Try.prog 62 #[.pointer (some ⟨w3.heap.size, 0, none⟩), .agg #[.bool true, .int .i64 0, .int .i64 0, .int .i64 0, .int .i64 0, .int .i64 0, .int .i64 0, .int .i64 0, .int .i64 0, .slice none 0 0], .func (.func 43) #[] #[]] (w3.alloc (.cells #[.pointer none, .pointer (some ⟨g, 0, none⟩), .bool false] 103)) fun e W' => ∃ (a : Option Addr) (b d : Nat), e = .returned (.tuple #[if getRelTE bs = 0 then .agg #[.bool true, .int .i64 (getRelTV bs).fr, .int .i64 (getRelTV bs).to, .int .i64 (getRelTV bs).fp, .int .i64 (getRelTV bs).tp, .int .i64 (getRelTV bs).fn, .int .i64 (getRelTV bs).tn, .int .i64 (getRelTV bs).ty, .int .i64 (getRelTV bs).pr, .slice a b d] else .agg #[.bool false, .int .i64 0, .int .i64 0, .int .i64 0, .int .i64 0, .int .i64 0, .int .i64 0, .int .i64 0, .int .i64 0, .slice none 0 0], .int .i64 (getRelTE bs)]) ∧ St Zf [ObA 5 (.slice a b d) (getRelTS bs), BlkA (w.heap.size + 1) 81 #[.bool false, .int .i64 0, .int .i64 0, .int .i64 0, .int .i64 0, .int .i64 0, .int .i64 0, .int .i64 0, .int .i64 0, .slice none 0 0], BlkA w.heap.size 81 #[.bool true, .int .i64 0, .int .i64 0, .int .i64 0, .int .i64 0, .int .i64 0, .int .i64 0, .int .i64 0, .int .i64 0, .slice none 0 0]] w W' := fun g w3 h3 => by
    have h4 := co_shutR (h3.newBlk 103 #[.pointer none, .pointer (some ⟨g, 0, none⟩), .bool false])
    refine (codeRelT_any (q := (.r bs 0, false)) (x := ⟨true, 0, 0, 0, 0, 0, 0, 0, 0⟩) (A := none) (cap := 0) (B := 0) (L := []) h4 (RB.empty _ _ _) (Nat.zero_le _) (Nat.zero_le _) (by simp [Cs.len]) hl).mono ?_
    rintro e W' ⟨cy, X, hF, rfl, h5⟩
    obtain ⟨a, b, d, hcy, hX⟩ := hF
    subst hcy hX
    have hS : SlA (relQ (.r bs 0, false) ⟨true, 0, 0, 0, 0, 0, 0, 0, 0⟩).1 32 (.slice none 0 0) (.slice a b d) = ObA 5 (.slice a b d) (getRelTS bs) := by
      obtain ⟨bs2, er2, hq⟩ := cs_r (relQ (.r bs 0, false) ⟨true, 0, 0, 0, 0, 0, 0, 0, 0⟩).1 (by rw [relQ_isw]; rfl)
      unfold getRelTS
      rw [hq]
      rfl
    simp only [List.length_nil] at h5
    rw [hS] at h5
    exact ⟨a, b, d, rfl, h5.drop⟩
  obtain ⟨y, hy⟩ : ∃ y, y = getRelTV bs := ⟨_, rfl⟩
  obtain ⟨S, hS⟩ : ∃ S, S = getRelTS bs := ⟨_, rfl⟩
  rw [← hE, ← hy, ← hS] at HC0
  have HC := Lib.hid HC0
  clear HC0
  have hb0 : Below wo.heap.size wo wo.drew := ⟨rfl, rfl, rfl, Nat.le_refl _, fun _ _ => rfl⟩
  obtain ⟨⟨c0, c1, c2, c3, c4, c5, c6, c7, c8, c9⟩, ⟨u0, u1, u2, u3, u4, u5, u6, u7, u8, u9⟩, ⟨f0, f1, f2, f3, f4, f5, f6, f7, f8, f9⟩⟩ := HF.out wo h0
  have Hwo := Lib.hid hwo
  rw [← hE, ← hy, ← hS]
  clear hwo hr h0 hE hy hS
  by_cases h0 : E = 0
  · subst h0
    simp only at HC ⊢
    go_enter Try.func46, Try.ntmps46
    go_wp2
    rw [← Hwo.out]
    go_region_held3 (fun w' => w'.cell? ⟨w.heap.size, 0, none⟩ = some (.bool true) ∧ w'.cell? ⟨w.heap.size, 1, none⟩ = some (.int .i64 0) ∧ w'.cell? ⟨w.heap.size, 2, none⟩ = some (.int .i64 0) ∧ w'.cell? ⟨w.heap.size, 3, none⟩ = some (.int .i64 0) ∧ w'.cell? ⟨w.heap.size, 4, none⟩ = some (.int .i64 0) ∧ w'.cell? ⟨w.heap.size, 5, none⟩ = some (.int .i64 0) ∧ w'.cell? ⟨w.heap.size, 6, none⟩ = some (.int .i64 0) ∧ w'.cell? ⟨w.heap.size, 7, none⟩ = some (.int .i64 0) ∧ w'.cell? ⟨w.heap.size, 8, none⟩ = some (.int .i64 0) ∧ w'.cell? ⟨w.heap.size, 9, none⟩ = some (.slice none 0 0)) (go_keep)
      ((first
        | (go_at_call 60; refine (HN.out _ hb0).mono ?_; rintro e w3 ⟨g, rfl, h3⟩; have kN := HF.out _ h3.drop; obtain ⟨⟨_, _, _, _, _, _, _, _, _, _⟩, ⟨_, _, _, _, _, _, _, _, _, _⟩, ⟨_, _, _, _, _, _, _, _, _, _⟩⟩ := kN)
        | (go_at_call 62; refine (HC.out _ _ h3).mono ?_; rintro e w4 ⟨a, b, d, rfl, h4⟩; have kC := HF.out _ h4.drop; obtain ⟨⟨_, _, _, _, _, _, _, _, _, _⟩, ⟨_, _, _, _, _, _, _, _, _, _⟩, ⟨_, _, _, _, _, _, _, _, _, _⟩⟩ := kC)))
    have h5 := ((((((((((h4.swap.setBlk 0 (.bool true)).setBlk 1 (.int .i64 y.fr)).setBlk 2 (.int .i64 y.to)).setBlk 3 (.int .i64 y.fp)).setBlk 4 (.int .i64 y.tp)).setBlk 5 (.int .i64 y.fn)).setBlk 6 (.int .i64 y.tn)).setBlk 7 (.int .i64 y.ty)).setBlk 8 (.int .i64 y.pr)).setBlk 9 (.slice a b d))
    simp only [List.setIfInBounds_toArray, List.set_cons_zero, List.set_cons_succ] at h5
    go_wp2
    try simp only [Exit.inBlock, Exit.then]
    refine bodyPost_ret (results_row_tmp rfl _ _ (w.heap.size + 1) 81 #[.bool true, .int .i64 y.fr, .int .i64 y.to, .int .i64 y.fp, .int .i64 y.tp, .int .i64 y.fn, .int .i64 y.tn, .int .i64 y.ty, .int .i64 y.pr, .slice a b d] _ rfl h5.blk Try.underlying81 rfl (by kernel_rfl)) rfl ?_
    exact ⟨a, b, d, rfl, h5.drop.swap.drop⟩
  · simp only [if_neg h0] at HC ⊢
    clear h0
    go_enter Try.func46, Try.ntmps46
    go_wp2
    rw [← Hwo.out]
    go_region_held3 (fun w' => w'.cell? ⟨w.heap.size, 0, none⟩ = some (.bool true) ∧ w'.cell? ⟨w.heap.size, 1, none⟩ = some (.int .i64 0) ∧ w'.cell? ⟨w.heap.size, 2, none⟩ = some (.int .i64 0) ∧ w'.cell? ⟨w.heap.size, 3, none⟩ = some (.int .i64 0) ∧ w'.cell? ⟨w.heap.size, 4, none⟩ = some (.int .i64 0) ∧ w'.cell? ⟨w.heap.size, 5, none⟩ = some (.int .i64 0) ∧ w'.cell? ⟨w.heap.size, 6, none⟩ = some (.int .i64 0) ∧ w'.cell? ⟨w.heap.size, 7, none⟩ = some (.int .i64 0) ∧ w'.cell? ⟨w.heap.size, 8, none⟩ = some (.int .i64 0) ∧ w'.cell? ⟨w.heap.size, 9, none⟩ = some (.slice none 0 0)) (go_keep)
      ((first
        | (go_at_call 60; refine (HN.out _ hb0).mono ?_; rintro e w3 ⟨g, rfl, h3⟩; have kN := HF.out _ h3.drop; obtain ⟨⟨_, _, _, _, _, _, _, _, _, _⟩, ⟨_, _, _, _, _, _, _, _, _, _⟩, ⟨_, _, _, _, _, _, _, _, _, _⟩⟩ := kN)
        | (go_at_call 62; refine (HC.out _ _ h3).mono ?_; rintro e w4 ⟨a, b, d, rfl, h4⟩; have kC := HF.out _ h4.drop; obtain ⟨⟨_, _, _, _, _, _, _, _, _, _⟩, ⟨_, _, _, _, _, _, _, _, _, _⟩, ⟨_, _, _, _, _, _, _, _, _, _⟩⟩ := kC)))
    have h5 := ((((((((((h4.swap.setBlk 0 (.bool false)).setBlk 1 (.int .i64 0)).setBlk 2 (.int .i64 0)).setBlk 3 (.int .i64 0)).setBlk 4 (.int .i64 0)).setBlk 5 (.int .i64 0)).setBlk 6 (.int .i64 0)).setBlk 7 (.int .i64 0)).setBlk 8 (.int .i64 0)).setBlk 9 (.slice none 0 0))
    simp only [List.setIfInBounds_toArray, List.set_cons_zero, List.set_cons_succ] at h5
    go_wp2
    try simp only [Exit.inBlock, Exit.then]
    refine bodyPost_ret (results_row_tmp rfl _ _ (w.heap.size + 1) 81 #[.bool false, .int .i64 0, .int .i64 0, .int .i64 0, .int .i64 0, .int .i64 0, .int .i64 0, .int .i64 0, .int .i64 0, .slice none 0 0] _ rfl h5.blk Try.underlying81 rfl (by kernel_rfl)) rfl ?_
    exact ⟨a, b, d, rfl, h5.drop.swap.drop⟩

set_option maxHeartbeats 4000000 in
theorem GetRelT_any (A : Option Addr) (cap B : Nat) (bs : List Nat) (w : World) (hr : RB w B A bs) (hB : B ≤ w.heap.size) (hl : bs.length ≤ 140737488355328) :
    Calls Try.prog 23 #[.slice A bs.length cap] w (RelTRead bs w) := by
  have h0 : St Zf [BlkA w.heap.size 45 #[.bool false, .int .i64 0, .int .i64 0, .int .i64 0, .int .i64 0, .int .i64 0, .int .i64 0, .int .i64 0, .int .i64 0, .slice none 0 0]] w (w.alloc (.cells #[.bool false, .int .i64 0, .int .i64 0, .int .i64 0, .int .i64 0, .int .i64 0, .int .i64 0, .int .i64 0, .int .i64 0, .slice none 0 0] 45)) := (St.start Zf w).newBlk _ _
  obtain ⟨wo, hwo⟩ : ∃ wo, wo = (w.alloc (.cells #[.bool false, .int .i64 0, .int .i64 0, .int .i64 0, .int .i64 0, .int .i64 0, .int .i64 0, .int .i64 0, .int .i64 0, .slice none 0 0] 45)) := ⟨_, rfl⟩
  rw [← hwo] at h0
  have H := Lib.hid (readRelT_any A cap B bs wo (h0.rb hr hB) (by have := h0.size; omega) hl)
  have H0 := Lib.hid h0
  have Hwo := Lib.hid hwo
  unfold RelTRead RelTReadB at H ⊢
  obtain ⟨E, hE⟩ : ∃ E, E = getRelTE bs := ⟨_, rfl⟩
  obtain ⟨y, hy⟩ : ∃ y, y = getRelTV bs := ⟨_, rfl⟩
  obtain ⟨S, hS⟩ : ∃ S, S = getRelTS bs := ⟨_, rfl⟩
  rw [← hE, ← hy, ← hS] at H
  rw [← hE, ← hy, ← hS]
  clear hwo hr h0 hE hy hS
  by_cases h0 : E = 0
  · subst h0
    simp only at H ⊢
    go_enter Try.func23, Try.ntmps23
    go_wp2_with (go_at_call 46; rw [← Hwo.out]; refine (H.out).mono ?_; rintro e w3 ⟨a, b, d, rfl, h3⟩; have h4 := (H0.out.addSt h3).newBlk 81 #[.bool true, .int .i64 y.fr, .int .i64 y.to, .int .i64 y.fp, .int .i64 y.tp, .int .i64 y.fn, .int .i64 y.tn, .int .i64 y.ty, .int .i64 y.pr, .slice a b d]; obtain ⟨u0, u1, u2, u3, u4, u5, u6, u7, u8, u9⟩ := cellsrelT h4.bring2; obtain ⟨f0, f1, f2, f3, f4, f5, f6, f7, f8, f9⟩ := frozrelT h4.bring2; have h5 := ((((((((((h4.bring2.setBlk 0 (.bool true)).setBlk 1 (.int .i64 y.fr)).setBlk 2 (.int .i64 y.to)).setBlk 3 (.int .i64 y.fp)).setBlk 4 (.int .i64 y.tp)).setBlk 5 (.int .i64 y.fn)).setBlk 6 (.int .i64 y.tn)).setBlk 7 (.int .i64 y.ty)).setBlk 8 (.int .i64 y.pr)).setBlk 9 (.slice a b d)); simp only [List.setIfInBounds_toArray, List.set_cons_zero, List.set_cons_succ] at h5; have h5 := Lib.hid h5; clear h3 h4)
    try simp only [Exit.inBlock, Exit.then]
    refine bodyPost_ret (results_row_tmp rfl _ _ w.heap.size 45 #[.bool true, .int .i64 y.fr, .int .i64 y.to, .int .i64 y.fp, .int .i64 y.tp, .int .i64 y.fn, .int .i64 y.tn, .int .i64 y.ty, .int .i64 y.pr, .slice a b d] _ rfl h5.out.blk Try.underlying45 rfl (by kernel_rfl)) rfl ?_
    exact ⟨a, b, d, rfl, h5.out.drop.drop⟩
  · simp only [if_neg h0] at H ⊢
    clear h0
    go_enter Try.func23, Try.ntmps23
    go_wp2_with (go_at_call 46; rw [← Hwo.out]; refine (H.out).mono ?_; rintro e w3 ⟨a, b, d, rfl, h3⟩; have h4 := (H0.out.addSt h3).newBlk 81 #[.bool false, .int .i64 0, .int .i64 0, .int .i64 0, .int .i64 0, .int .i64 0, .int .i64 0, .int .i64 0, .int .i64 0, .slice none 0 0]; obtain ⟨u0, u1, u2, u3, u4, u5, u6, u7, u8, u9⟩ := cellsrelT h4.bring2; obtain ⟨f0, f1, f2, f3, f4, f5, f6, f7, f8, f9⟩ := frozrelT h4.bring2; have h5 := ((((((((((h4.bring2.setBlk 0 (.bool false)).setBlk 1 (.int .i64 0)).setBlk 2 (.int .i64 0)).setBlk 3 (.int .i64 0)).setBlk 4 (.int .i64 0)).setBlk 5 (.int .i64 0)).setBlk 6 (.int .i64 0)).setBlk 7 (.int .i64 0)).setBlk 8 (.int .i64 0)).setBlk 9 (.slice none 0 0)); simp only [List.setIfInBounds_toArray, List.set_cons_zero, List.set_cons_succ] at h5; have h5 := Lib.hid h5; clear h3 h4)
    try simp only [Exit.inBlock, Exit.then]
    refine bodyPost_ret (results_row_tmp rfl _ _ w.heap.size 45 #[.bool false, .int .i64 0, .int .i64 0, .int .i64 0, .int .i64 0, .int .i64 0, .int .i64 0, .int .i64 0, .int .i64 0, .slice none 0 0] _ rfl h5.out.blk Try.underlying45 rfl (by kernel_rfl)) rfl ?_
    exact ⟨a, b, d, rfl, h5.out.drop.drop⟩

end Go.Proofs.Ytmiiogailnjfpaa

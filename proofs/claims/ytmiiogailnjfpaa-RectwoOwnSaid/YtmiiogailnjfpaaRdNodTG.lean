/- A node's record of rectwo: Read, Get. Written by mkrd2.py. -/
import Derived.Test.YtmiiogailnjfpaaRdNodT
import Derived.Deep.RegionHeld3
namespace Go.Proofs.Ytmiiogailnjfpaa
open Go.RowKit
set_option linter.unusedVariables false

theorem cellsnodT {S : Fp} {l : List Ass} {w0 w : World} {g : Nat} {t : TypeId} {a0 a1 a2 a3 a4 : Value} (h : St S (BlkA g t #[a0, a1, a2, a3, a4] :: l) w0 w) : w.cell? ⟨g, 0, none⟩ = some a0 ∧ w.cell? ⟨g, 1, none⟩ = some a1 ∧ w.cell? ⟨g, 2, none⟩ = some a2 ∧ w.cell? ⟨g, 3, none⟩ = some a3 ∧ w.cell? ⟨g, 4, none⟩ = some a4 := by
  have hb := h.blk
  exact ⟨by rw [hb.cell 0]; rfl, by rw [hb.cell 1]; rfl, by rw [hb.cell 2]; rfl, by rw [hb.cell 3]; rfl, by rw [hb.cell 4]; rfl⟩
theorem froznodT {S : Fp} {l : List Ass} {w0 w : World} {g : Nat} {t : TypeId} {cs : Array Value} (h : St S (BlkA g t cs :: l) w0 w) : w.frozen? ⟨g, 0, none⟩ = false ∧ w.frozen? ⟨g, 1, none⟩ = false ∧ w.frozen? ⟨g, 2, none⟩ = false ∧ w.frozen? ⟨g, 3, none⟩ = false ∧ w.frozen? ⟨g, 4, none⟩ = false := by
  have hb := h.blk
  exact ⟨hb.frozen 0, hb.frozen 1, hb.frozen 2, hb.frozen 3, hb.frozen 4⟩
theorem addSt2 {S : Fp} {l : List Ass} {w0 w w' : World} {P Q : Ass} (h : St S l w0 w) [Stable (Sep l)] (k : St Zf [P, Q] w w') : St S (P :: Q :: l) w0 w' := St.flat (l' := [_, _]) (h.addSt (P := Sep [P, Q]) (St.pack (l' := [P, Q]) (l := []) k))
theorem cs_r (s : Cs) (h : s.isw = false) : ∃ bs err, s = .r bs err := by
  cases s
  · cases h
  · exact ⟨_, _, rfl⟩

/-- what Get finds -/
def getNodTQ (bs : List Nat) : Cs × Bool := nodTQ (.r bs 0, false) ⟨false, 0, 0⟩ [] []
def getNodTE (bs : List Nat) : Int := (getNodTQ bs).1.endE (getNodTQ bs).2
def getNodTV (bs : List Nat) : NodC := nodV (.r bs 0, false) ⟨false, 0, 0⟩
def getNodTS (bs : List Nat) : List Nat := slB (nodQ4 (.r bs 0, false) ⟨false, 0, 0⟩ []).1 48
def getNodTP (bs : List Nat) : List Int := nodPl (.r bs 0, false) ⟨false, 0, 0⟩ []
def NodTReadB (y : NodC) (P : List Int) (S : List Nat) (E : Int) (w : World) (e : Ending) (w' : World) : Prop :=
  ∃ (g2 : Nat) (a : Option Addr) (b d : Nat), e = .returned (.tuple #[if E = 0 then .agg #[.bool y.d, .int .i64 y.f, .int .i64 y.o, .slice (some ⟨g2, 0, none⟩) (cutLen P 8) 8, .slice a b d] else .agg #[.bool false, .int .i64 0, .int .i64 0, .slice none 0 0, .slice none 0 0], .int .i64 E]) ∧ St Zf [BlkA g2 3 (icells P), ObA 5 (.slice a b d) S] w w'
def NodTRead (bs : List Nat) (w : World) (e : Ending) (w' : World) : Prop := NodTReadB (getNodTV bs) (getNodTP bs) (getNodTS bs) (getNodTE bs) w e w'

set_option maxHeartbeats 4000000 in
theorem readNodT_any (A : Option Addr) (cap B : Nat) (bs : List Nat) (w : World) (hr : RB w B A bs) (hB : B ≤ w.heap.size) (hl : bs.length ≤ 140737488355328) :
    Calls Try.prog 38 #[.slice A bs.length cap, .agg #[.bool false, .int .i64 0, .int .i64 0, .slice none 0 0, .slice none 0 0], .func (.func 31) #[] #[]] w (NodTRead bs w) := by
  obtain ⟨wo, hwo⟩ : ∃ wo, wo = (w.alloc (.cells #[.bool false, .int .i64 0, .int .i64 0, .slice none 0 0, .slice none 0 0] 66)).alloc (.cells #[.bool false, .int .i64 0, .int .i64 0, .slice none 0 0, .slice none 0 0] 66) := ⟨_, rfl⟩
  have h0 : St Zf [BlkA (w.heap.size + 1) 66 #[.bool false, .int .i64 0, .int .i64 0, .slice none 0 0, .slice none 0 0], BlkA w.heap.size 66 #[.bool false, .int .i64 0, .int .i64 0, .slice none 0 0, .slice none 0 0]] w wo := by
    have := ((St.start Zf w).newBlk 66 #[.bool false, .int .i64 0, .int .i64 0, .slice none 0 0, .slice none 0 0]).newBlk 66 #[.bool false, .int .i64 0, .int .i64 0, .slice none 0 0, .slice none 0 0]
    rw [hwo]
    simpa using this
  have HF : Hid (∀ W, St Zf [BlkA (w.heap.size + 1) 66 #[.bool false, .int .i64 0, .int .i64 0, .slice none 0 0, .slice none 0 0], BlkA w.heap.size 66 #[.bool false, .int .i64 0, .int .i64 0, .slice none 0 0, .slice none 0 0]] w W → (W.cell? ⟨w.heap.size, 0, none⟩ = some (.bool false) ∧ W.cell? ⟨w.heap.size, 1, none⟩ = some (.int .i64 0) ∧ W.cell? ⟨w.heap.size, 2, none⟩ = some (.int .i64 0) ∧ W.cell? ⟨w.heap.size, 3, none⟩ = some (.slice none 0 0) ∧ W.cell? ⟨w.heap.size, 4, none⟩ = some (.slice none 0 0)) ∧ (W.cell? ⟨w.heap.size + 1, 0, none⟩ = some (.bool false) ∧ W.cell? ⟨w.heap.size + 1, 1, none⟩ = some (.int .i64 0) ∧ W.cell? ⟨w.heap.size + 1, 2, none⟩ = some (.int .i64 0) ∧ W.cell? ⟨w.heap.size + 1, 3, none⟩ = some (.slice none 0 0) ∧ W.cell? ⟨w.heap.size + 1, 4, none⟩ = some (.slice none 0 0)) ∧ (W.frozen? ⟨w.heap.size + 1, 0, none⟩ = false ∧ W.frozen? ⟨w.heap.size + 1, 1, none⟩ = false ∧ W.frozen? ⟨w.heap.size + 1, 2, none⟩ = false ∧ W.frozen? ⟨w.heap.size + 1, 3, none⟩ = false ∧ W.frozen? ⟨w.heap.size + 1, 4, none⟩ = false)) := Lib.hid fun W h => ⟨cellsnodT h.swap, cellsnodT h, froznodT h⟩
  have HN : Hid (∀ W, Below wo.heap.size wo W → Calls Try.prog 60 #[.slice A bs.length cap] W fun e W' => ∃ g, e = .returned (.pointer (some ⟨g, 0, none⟩)) ∧ St Zf [RdA g bs 0, BlkA (w.heap.size + 1) 66 #[.bool false, .int .i64 0, .int .i64 0, .slice none 0 0, .slice none 0 0], BlkA w.heap.size 66 #[.bool false, .int .i64 0, .int .i64 0, .slice none 0 0, .slice none 0 0]] w W') := Lib.hid fun W hb => by
    have h1 := h0.below hb
    have hr1 := h1.rb hr hB
    refine (NewReader_any A cap B bs W hr1 (by have := h1.size; omega) hl).mono ?_
    rintro e W' ⟨g, q, rfl, hR, hb1⟩
    refine ⟨g, rfl, h1.add (F := fun k => k = g ∨ k = q) hb1 ⟨q, ?_, rfl⟩ ?_⟩
    · obtain ⟨A', c', k1, k2, k3, k4, k5, k6, k7, k8, k9⟩ := hR
      exact ⟨A', c', k1, k2, k3, k4, k5, Nat.zero_le _, Nat.zero_le _, k8, k9⟩
    · rintro k (rfl | rfl)
      · exact hR.lt.1
      · exact hR.lt.2.1
  unfold NodTRead NodTReadB
  obtain ⟨E, hE⟩ : ∃ E, E = getNodTE bs := ⟨_, rfl⟩
  have HC0 : ∀ g w3, St Zf [RdA g bs 0, BlkA (w.heap.size + 1) 66 #[.bool false, .int .i64 0, .int .i64 0, .slice none 0 0, .slice none 0 0], BlkA w.heap.size 66 #[.bool false, .int .i64 0, .int .i64 0, .slice none 0 0, .slice none 0 0]] w w3 → Calls Try.prog 53 #[.pointer (some ⟨w3.heap.size, 0, none⟩), .agg #[.bool false, .int .i64 0, .int .i64 0, .slice none 0 0, .slice none 0 0], .func (.func 31) #[] #[]] (w3.alloc (.cells #[.pointer none, .pointer (some ⟨g, 0, none⟩), .bool false] 103)) fun e W' => ∃ (g2 : Nat) (a : Option Addr) (b d : Nat), e = .returned (.tuple #[if getNodTE bs = 0 then .agg #[.bool (getNodTV bs).d, .int .i64 (getNodTV bs).f, .int .i64 (getNodTV bs).o, .slice (some ⟨g2, 0, none⟩) (cutLen (getNodTP bs) 8) 8, .slice a b d] else .agg #[.bool false, .int .i64 0, .int .i64 0, .slice none 0 0, .slice none 0 0], .int .i64 (getNodTE bs)]) ∧ St Zf [BlkA g2 3 (icells (getNodTP bs)), ObA 5 (.slice a b d) (getNodTS bs), BlkA (w.heap.size + 1) 66 #[.bool false, .int .i64 0, .int .i64 0, .slice none 0 0, .slice none 0 0], BlkA w.heap.size 66 #[.bool false, .int .i64 0, .int .i64 0, .slice none 0 0, .slice none 0 0]] w W' := fun g w3 h3 => by
    have h4 := co_shutR (h3.newBlk 103 #[.pointer none, .pointer (some ⟨g, 0, none⟩), .bool false])
    refine (codeNodT_any (q := (.r bs 0, false)) (x := ⟨false, 0, 0⟩) (A := none) (cap := 0) (B := 0) (L := []) (A2 := none) (cap2 := 0) (B2 := 0) (L2 := []) h4 (RL.empty ivl _ _ _) (Nat.zero_le _) (Nat.le_refl _) (Nat.zero_le _) (RB.empty _ _ _) (Nat.zero_le _) (Nat.zero_le _) (by simp [Cs.len]) hl).mono ?_
    rintro e W' ⟨cy, X, hF, rfl, h5⟩
    obtain ⟨g2, z1, z2, z3, a, b, d, hlab, hcy, hX⟩ := hF
    subst hcy hX
    have hS : SlA (nodQ4 (.r bs 0, false) ⟨false, 0, 0⟩ []).1 48 (.slice none 0 0) (.slice a b d) = ObA 5 (.slice a b d) (getNodTS bs) := by
      obtain ⟨bs2, er2, hq⟩ := cs_r (nodQ4 (.r bs 0, false) ⟨false, 0, 0⟩ []).1 (by rw [nodQ4_isw]; rfl)
      unfold getNodTS
      rw [hq]
      rfl
    rw [← hlab]
    simp only [List.length_nil] at h5
    rw [hS] at h5
    exact ⟨g2, a, b, d, rfl, St.flat (l' := [_, _]) h5.drop⟩
  obtain ⟨y, hy⟩ : ∃ y, y = getNodTV bs := ⟨_, rfl⟩
  obtain ⟨P, hP⟩ : ∃ P, P = getNodTP bs := ⟨_, rfl⟩
  obtain ⟨S, hS⟩ : ∃ S, S = getNodTS bs := ⟨_, rfl⟩
  rw [← hE, ← hy, ← hP, ← hS] at HC0
  have HC := Lib.hid HC0
  clear HC0
  have hb0 : Below wo.heap.size wo wo.drew := ⟨rfl, rfl, rfl, Nat.le_refl _, fun _ _ => rfl⟩
  obtain ⟨⟨c0, c1, c2, c3, c4⟩, ⟨u0, u1, u2, u3, u4⟩, ⟨f0, f1, f2, f3, f4⟩⟩ := HF.out wo h0
  have Hwo := Lib.hid hwo
  rw [← hE, ← hy, ← hP, ← hS]
  clear hwo hr h0 hE hy hP hS
  by_cases h0 : E = 0
  · subst h0
    simp only at HC ⊢
    go_enter Try.func38, Try.ntmps38
    go_wp2
    rw [← Hwo.out]
    go_region_held3 (fun w' => w'.cell? ⟨w.heap.size, 0, none⟩ = some (.bool false) ∧ w'.cell? ⟨w.heap.size, 1, none⟩ = some (.int .i64 0) ∧ w'.cell? ⟨w.heap.size, 2, none⟩ = some (.int .i64 0) ∧ w'.cell? ⟨w.heap.size, 3, none⟩ = some (.slice none 0 0) ∧ w'.cell? ⟨w.heap.size, 4, none⟩ = some (.slice none 0 0)) (go_keep)
      ((first
        | (go_at_call 60; refine (HN.out _ hb0).mono ?_; rintro e w3 ⟨g, rfl, h3⟩; have kN := HF.out _ h3.drop; obtain ⟨⟨_, _, _, _, _⟩, ⟨_, _, _, _, _⟩, ⟨_, _, _, _, _⟩⟩ := kN)
        | (go_at_call 53; refine (HC.out _ _ h3).mono ?_; rintro e w4 ⟨g2, a, b, d, rfl, h4⟩; have kC := HF.out _ h4.drop.drop; obtain ⟨⟨_, _, _, _, _⟩, ⟨_, _, _, _, _⟩, ⟨_, _, _, _, _⟩⟩ := kC)))
    have h5 := (((((h4.bring2.setBlk 0 (.bool y.d)).setBlk 1 (.int .i64 y.f)).setBlk 2 (.int .i64 y.o)).setBlk 3 (.slice (some ⟨g2, 0, none⟩) (cutLen P 8) 8)).setBlk 4 (.slice a b d))
    simp only [List.setIfInBounds_toArray, List.set_cons_zero, List.set_cons_succ] at h5
    go_wp2
    try simp only [Exit.inBlock, Exit.then]
    refine bodyPost_ret (results_row_tmp rfl _ _ (w.heap.size + 1) 66 #[.bool y.d, .int .i64 y.f, .int .i64 y.o, .slice (some ⟨g2, 0, none⟩) (cutLen P 8) 8, .slice a b d] _ rfl h5.blk Try.underlying66 rfl (by kernel_rfl)) rfl ?_
    exact ⟨g2, a, b, d, rfl, h5.drop.bring2.drop⟩
  · simp only [if_neg h0] at HC ⊢
    clear h0
    go_enter Try.func38, Try.ntmps38
    go_wp2
    rw [← Hwo.out]
    go_region_held3 (fun w' => w'.cell? ⟨w.heap.size, 0, none⟩ = some (.bool false) ∧ w'.cell? ⟨w.heap.size, 1, none⟩ = some (.int .i64 0) ∧ w'.cell? ⟨w.heap.size, 2, none⟩ = some (.int .i64 0) ∧ w'.cell? ⟨w.heap.size, 3, none⟩ = some (.slice none 0 0) ∧ w'.cell? ⟨w.heap.size, 4, none⟩ = some (.slice none 0 0)) (go_keep)
      ((first
        | (go_at_call 60; refine (HN.out _ hb0).mono ?_; rintro e w3 ⟨g, rfl, h3⟩; have kN := HF.out _ h3.drop; obtain ⟨⟨_, _, _, _, _⟩, ⟨_, _, _, _, _⟩, ⟨_, _, _, _, _⟩⟩ := kN)
        | (go_at_call 53; refine (HC.out _ _ h3).mono ?_; rintro e w4 ⟨g2, a, b, d, rfl, h4⟩; have kC := HF.out _ h4.drop.drop; obtain ⟨⟨_, _, _, _, _⟩, ⟨_, _, _, _, _⟩, ⟨_, _, _, _, _⟩⟩ := kC)))
    have h5 := (((((h4.bring2.setBlk 0 (.bool false)).setBlk 1 (.int .i64 0)).setBlk 2 (.int .i64 0)).setBlk 3 (.slice none 0 0)).setBlk 4 (.slice none 0 0))
    simp only [List.setIfInBounds_toArray, List.set_cons_zero, List.set_cons_succ] at h5
    go_wp2
    try simp only [Exit.inBlock, Exit.then]
    refine bodyPost_ret (results_row_tmp rfl _ _ (w.heap.size + 1) 66 #[.bool false, .int .i64 0, .int .i64 0, .slice none 0 0, .slice none 0 0] _ rfl h5.blk Try.underlying66 rfl (by kernel_rfl)) rfl ?_
    exact ⟨g2, a, b, d, rfl, h5.drop.bring2.drop⟩

set_option maxHeartbeats 4000000 in
theorem GetNodT_any (A : Option Addr) (cap B : Nat) (bs : List Nat) (w : World) (hr : RB w B A bs) (hB : B ≤ w.heap.size) (hl : bs.length ≤ 140737488355328) :
    Calls Try.prog 17 #[.slice A bs.length cap] w (NodTRead bs w) := by
  have h0 : St Zf [BlkA w.heap.size 26 #[.bool false, .int .i64 0, .int .i64 0, .slice none 0 0, .slice none 0 0]] w (w.alloc (.cells #[.bool false, .int .i64 0, .int .i64 0, .slice none 0 0, .slice none 0 0] 26)) := (St.start Zf w).newBlk _ _
  obtain ⟨wo, hwo⟩ : ∃ wo, wo = (w.alloc (.cells #[.bool false, .int .i64 0, .int .i64 0, .slice none 0 0, .slice none 0 0] 26)) := ⟨_, rfl⟩
  rw [← hwo] at h0
  have H := Lib.hid (readNodT_any A cap B bs wo (h0.rb hr hB) (by have := h0.size; omega) hl)
  have H0 := Lib.hid h0
  have Hwo := Lib.hid hwo
  unfold NodTRead NodTReadB at H ⊢
  obtain ⟨E, hE⟩ : ∃ E, E = getNodTE bs := ⟨_, rfl⟩
  obtain ⟨y, hy⟩ : ∃ y, y = getNodTV bs := ⟨_, rfl⟩
  obtain ⟨P, hP⟩ : ∃ P, P = getNodTP bs := ⟨_, rfl⟩
  obtain ⟨S, hS⟩ : ∃ S, S = getNodTS bs := ⟨_, rfl⟩
  rw [← hE, ← hy, ← hP, ← hS] at H
  rw [← hE, ← hy, ← hP, ← hS]
  clear hwo hr h0 hE hy hP hS
  by_cases h0 : E = 0
  · subst h0
    simp only at H ⊢
    go_enter Try.func17, Try.ntmps17
    go_wp2_with (go_at_call 38; rw [← Hwo.out]; refine (H.out).mono ?_; rintro e w3 ⟨g2, a, b, d, rfl, h3⟩; have h4 := (addSt2 H0.out h3).newBlk 66 #[.bool y.d, .int .i64 y.f, .int .i64 y.o, .slice (some ⟨g2, 0, none⟩) (cutLen P 8) 8, .slice a b d]; obtain ⟨u0, u1, u2, u3, u4⟩ := cellsnodT h4.bring3; obtain ⟨f0, f1, f2, f3, f4⟩ := froznodT h4.bring3; have h5 := (((((h4.bring3.setBlk 0 (.bool y.d)).setBlk 1 (.int .i64 y.f)).setBlk 2 (.int .i64 y.o)).setBlk 3 (.slice (some ⟨g2, 0, none⟩) (cutLen P 8) 8)).setBlk 4 (.slice a b d)); simp only [List.setIfInBounds_toArray, List.set_cons_zero, List.set_cons_succ] at h5; have h5 := Lib.hid h5; clear h3 h4)
    try simp only [Exit.inBlock, Exit.then]
    refine bodyPost_ret (results_row_tmp rfl _ _ w.heap.size 26 #[.bool y.d, .int .i64 y.f, .int .i64 y.o, .slice (some ⟨g2, 0, none⟩) (cutLen P 8) 8, .slice a b d] _ rfl h5.out.blk Try.underlying26 rfl (by kernel_rfl)) rfl ?_
    exact ⟨g2, a, b, d, rfl, h5.out.drop.drop⟩
  · simp only [if_neg h0] at H ⊢
    clear h0
    go_enter Try.func17, Try.ntmps17
    go_wp2_with (go_at_call 38; rw [← Hwo.out]; refine (H.out).mono ?_; rintro e w3 ⟨g2, a, b, d, rfl, h3⟩; have h4 := (addSt2 H0.out h3).newBlk 66 #[.bool false, .int .i64 0, .int .i64 0, .slice none 0 0, .slice none 0 0]; obtain ⟨u0, u1, u2, u3, u4⟩ := cellsnodT h4.bring3; obtain ⟨f0, f1, f2, f3, f4⟩ := froznodT h4.bring3; have h5 := (((((h4.bring3.setBlk 0 (.bool false)).setBlk 1 (.int .i64 0)).setBlk 2 (.int .i64 0)).setBlk 3 (.slice none 0 0)).setBlk 4 (.slice none 0 0)); simp only [List.setIfInBounds_toArray, List.set_cons_zero, List.set_cons_succ] at h5; have h5 := Lib.hid h5; clear h3 h4)
    try simp only [Exit.inBlock, Exit.then]
    refine bodyPost_ret (results_row_tmp rfl _ _ w.heap.size 26 #[.bool false, .int .i64 0, .int .i64 0, .slice none 0 0, .slice none 0 0] _ rfl h5.out.blk Try.underlying26 rfl (by kernel_rfl)) rfl ?_
    exact ⟨g2, a, b, d, rfl, h5.out.drop.drop⟩

end Go.Proofs.Ytmiiogailnjfpaa

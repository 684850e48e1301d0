/- recfile: bytes.Trim of zeros; checkRecord. -/
import Derived.Test.YtcclcecjidlojaaDoorRf8
namespace Go.Proofs.YtcclcecjidlojaaDoor
open Go.RowKit
set_option linter.unusedVariables false
def lenS : Value → Nat
  | .slice _ n _ => n
  | _ => 0
section
variable {S0 : Fp} {l : List Ass} {w0 w : World} {g : Nat} {K V S : Int} {R : List Nat} {lv lo : Int}

set_option maxHeartbeats 800000 in
theorem trimRight_any {b off cap B : Nat} {L : List Nat} (h : RB w B (some ⟨b, off, none⟩) L) (hl : L.length ≤ 1000) (hcap : L.length ≤ cap) :
    Calls Tryd.prog 76 #[.slice (some ⟨b, off, none⟩) L.length cap, .int .u8 0] w fun e w' => w = w' ∧ ∃ m, m ≤ L.length ∧ e = .returned (.slice (some ⟨b, off, none⟩) m cap) ∧ (m = 0 ∨ nth L (m - 1) ≠ 0) ∧ ∀ j, m ≤ j → nth L j = 0 := by
  have HR := Lib.hid h
  have HL := Lib.hid hl
  have HCP := Lib.hid hcap
  clear h hl hcap
  go_enter Tryd.func76, Tryd.ntmps76
  go_wp2_with fail
  go_loopw [0] (fun s wr => wr = w ∧ ∃ m, m ≤ L.length ∧ s = .slice (some ⟨b, off, none⟩) m cap ∧ ∀ j, m ≤ j → nth L j = 0) (fun s _ => lenS s)
  case atStart => exact ⟨rfl, L.length, Nat.le_refl _, rfl, fun j hj => nth_ge hj⟩
  case round =>
    obtain ⟨rfl, m, hm, rfl, hz⟩ := hrel
    by_cases h0 : m = 0
    · have f1 : decide ((0 : Int) < (m : Int)) = false := decide_eq_false (by omega)
      have f2 : decide (0 < m) = false := decide_eq_false (by omega)
      have HZ := Lib.hid hz
      have HM0 := Lib.hid h0
      clear hz h0
      go_wp2
      go_ret
      exact ⟨rfl, m, hm, rfl, .inl HM0.out, HZ.out⟩
    · obtain ⟨k, hk⟩ : ∃ k, m = k + 1 := ⟨m - 1, by omega⟩
      have f1 : decide ((0 : Int) < (m : Int)) = true := decide_eq_true (by omega)
      have f2 : decide (0 < m) = true := decide_eq_true (by omega)
      have f3 : (m : Int) - 1 = (k : Int) := by omega
      have f4 : wrap64 (k : Int) = (k : Int) := rfwrap (by omega) (by have := HL.out; omega)
      have f5 : (0 : Int) ≤ (k : Int) := by omega
      have f6 : (k : Int) < (m : Int) := by omega
      have f7 : (k : Int) ≤ (cap : Int) := by have := HCP.out; omega
      obtain ⟨b2, off2, hA2, -, hcs⟩ := HR.out.all (by omega)
      simp only [Option.some.injEq, Addr.mk.injEq, and_true] at hA2
      obtain ⟨rfl, rfl⟩ := hA2
      have hc := hcs k (by omega)
      obtain ⟨y, hy⟩ : ∃ y, y = nth L k := ⟨_, rfl⟩
      rw [← hy] at hc
      have HY := Lib.hid hy
      have HZ := Lib.hid hz
      have HK := Lib.hid hk
      have HM := Lib.hid hm
      clear hcs hy hz hk hm h0
      by_cases hy0 : y = 0
      · have e1 : ((y : Int) == 0) = true := by simp [hy0]
        have e2 : decide ((y : Int) = 0) = true := by simp [hy0]
        have HZ2 : Hid (∀ j, k ≤ j → nth L j = 0) := Lib.hid fun j hj => by
          rcases Nat.eq_or_lt_of_le hj with h | h
          · rw [← h, ← HY.out, hy0]
          · exact HZ.out j (by have := HK.out; omega)
        clear hy0
        go_wp2
        go_roundw
        case rel => exact ⟨by trivial, k, by have := HM.out; have := HK.out; omega, rfl, HZ2.out⟩
        case measure =>
          have := HK.out
          show k < m
          omega
      · have e1 : ((y : Int) == 0) = false := beq_eq_false_iff_ne.2 (by omega)
        have e2 : decide ((y : Int) = 0) = false := decide_eq_false (by omega)
        have HN : Hid (nth L (m - 1) ≠ 0) := Lib.hid (by rw [HK.out, Nat.add_sub_cancel, ← HY.out]; exact hy0)
        clear hy0
        go_wp2
        go_ret
        exact ⟨rfl, m, HM.out, rfl, .inr HN.out, HZ.out⟩
set_option maxHeartbeats 800000 in
theorem trimLeft_any {b off cap B : Nat} {M : List Nat} (h : RB w B (some ⟨b, off, none⟩) M) (hl : M.length ≤ 1000) (hcap : M.length ≤ cap) (hlast : M.length = 0 ∨ nth M (M.length - 1) ≠ 0) :
    Calls Tryd.prog 75 #[.slice (some ⟨b, off, none⟩) M.length cap, .int .u8 0] w fun e w' => w = w' ∧ ∃ A k c, e = .returned (.slice A k c) ∧ (k = 0 ↔ M.length = 0) := by
  have HR := Lib.hid h
  have HL := Lib.hid hl
  have HCP := Lib.hid hcap
  have HLA := Lib.hid hlast
  clear h hl hcap hlast
  go_enter Tryd.func75, Tryd.ntmps75
  go_wp2_with fail
  go_loopw [0] (fun s wr => wr = w ∧ ∃ p d c, d ≤ M.length ∧ p + d = off + M.length ∧ d ≤ c ∧ (d = 0 → M.length = 0) ∧ s = .slice (some ⟨b, p, none⟩) d c) (fun s _ => lenS s)
  case atStart => exact ⟨rfl, off, M.length, cap, Nat.le_refl _, rfl, HCP.out, fun h => h, rfl⟩
  case round =>
    obtain ⟨rfl, p, d, c, hd, hp, hdc, hz, rfl⟩ := hrel
    by_cases h0 : d = 0
    · have f1 : decide ((0 : Int) < (d : Int)) = false := decide_eq_false (by omega)
      have f2 : decide (0 < d) = false := decide_eq_false (by omega)
      have f3 : ((d : Int) == 0) = true := by simp [h0]
      have HZ := Lib.hid (hz h0)
      clear hz h0 hd hp hdc
      go_wp2
      go_ret
      exact ⟨rfl, _, _, _, rfl, fun _ => HZ.out, fun _ => rfl⟩
    · have f1 : decide ((0 : Int) < (d : Int)) = true := decide_eq_true (by omega)
      have f2 : decide (0 < d) = true := decide_eq_true (by omega)
      have f3 : ((d : Int) == 0) = false := beq_eq_false_iff_ne.2 (by omega)
      have f4 : decide ((d : Int) = 0) = false := decide_eq_false (by omega)
      have f5 : (0 : Int) < (d : Int) := by omega
      have f6 : (1 : Int) ≤ (d : Int) := by omega
      have f7 : (d : Int) ≤ (c : Int) := by omega
      obtain ⟨b2, off2, hA2, -, hcs⟩ := HR.out.all (by omega)
      simp only [Option.some.injEq, Addr.mk.injEq, and_true] at hA2
      obtain ⟨rfl, rfl⟩ := hA2
      have hc := hcs (M.length - d) (by omega)
      rw [show off + (M.length - d) = p from by omega] at hc
      obtain ⟨y, hy⟩ : ∃ y, y = nth M (M.length - d) := ⟨_, rfl⟩
      rw [← hy] at hc
      have HY := Lib.hid hy
      have HD := Lib.hid (And.intro hd (And.intro hp (And.intro hdc h0)))
      clear hcs hy hz hd hp hdc h0
      by_cases hy0 : y = 0
      · have e1 : ((y : Int) == 0) = true := by simp [hy0]
        have e2 : decide ((y : Int) = 0) = true := by simp [hy0]
        have hd1 : d ≠ 1 := fun e => by
          have h1 := HY.out
          rw [hy0, e] at h1
          rcases HLA.out with h2 | h2
          · have := HD.out.1; have := HD.out.2.2.2; omega
          · exact h2 h1.symm
        have hc1 : c ≠ 1 := by have h1 := HD.out.2.2.1; have h2 := HD.out.2.2.2; omega
        have hc2 : 1 ≠ c := fun e => hc1 e.symm
        have HD1 := Lib.hid hd1
        clear hy0 hd1
        go_wp2
        go_roundw
        case rel => exact ⟨by trivial, p + 1, d - 1, c - 1, by have := HD.out.1; omega, by have := HD.out.2.1; have := HD.out.2.2.2; omega, by have := HD.out.2.2.1; omega, fun h => by have := HD1.out; have := HD.out.2.2.2; omega, rfl⟩
        case measure =>
          have := HD.out.2.2.2
          show d - 1 < d
          omega
      · have e1 : ((y : Int) == 0) = false := beq_eq_false_iff_ne.2 (by omega)
        have e2 : decide ((y : Int) = 0) = false := decide_eq_false (by omega)
        clear hy0
        go_wp2
        go_ret
        exact ⟨rfl, _, _, _, rfl, fun h => absurd h HD.out.2.2.2, fun h => by have := HD.out.1; have := HD.out.2.2.2; omega⟩
theorem allzero_iff {L : List Nat} {m : Nat} (hm : m ≤ L.length) (h1 : m = 0 ∨ nth L (m - 1) ≠ 0) (h2 : ∀ j, m ≤ j → nth L j = 0) : m = 0 ↔ ∀ j, nth L j = 0 :=
  ⟨fun h j => h2 j (by omega), fun h => by
    rcases h1 with h3 | h3
    · exact h3
    · exact absurd (h _) h3⟩
set_option maxRecDepth 100000 in
set_option maxHeartbeats 800000 in
theorem trim_any {b off cap B : Nat} {L : List Nat} (h : RB w B (some ⟨b, off, none⟩) L) (hl : L.length ≤ 1000) (hcap : L.length ≤ cap) (hpos : 0 < L.length) :
    Calls Tryd.prog 70 #[.slice (some ⟨b, off, none⟩) L.length cap, .string ⟨#[0]⟩] w fun e w' => (∃ q, w' = w.drewN q) ∧ ∃ A k c, e = .returned (.slice A k c) ∧ (k = 0 ↔ ∀ j, nth L j = 0) := by
  have f1 : ((L.length : Int) == 0) = false := beq_eq_false_iff_ne.2 (by omega)
  have f2 : decide ((L.length : Int) = 0) = false := decide_eq_false (by omega)
  have HH := Lib.hid h
  have HL := Lib.hid hl
  have HCP := Lib.hid hcap
  clear h hl hcap hpos
  obtain ⟨cu, hcu⟩ : ∃ s : ByteArray, s = ⟨#[0]⟩ := ⟨_, rfl⟩
  rw [← hcu]
  have u1 : cu.size = 1 := by rw [hcu]; rfl
  have u2 : (cu.toList == ([] : List UInt8)) = false := by rw [hcu, Lib.toList_data]; rfl
  have u3 : ∀ h : 0 < cu.size, cu[0].toNat = 0 := fun _ => by subst hcu; rfl
  have u4 : (0 : Nat) < cu.size := by omega
  have u5 : (0 : Int) < (cu.size : Int) := by omega
  have HCU := Lib.hid hcu
  clear hcu
  go_enter Tryd.func70, Tryd.ntmps70
  go_upto_region 6 with fail
  have HLT : Hid (∀ m, m ≤ L.length → (m = 0 ∨ nth L (m - 1) ≠ 0) → Calls Tryd.prog 75 #[.slice (some ⟨b, off, none⟩) m cap, .int .u8 0] w.drew fun e w' => w.drew = w' ∧ ∃ A k c, e = .returned (.slice A k c) ∧ (k = 0 ↔ m = 0)) := Lib.hid fun m hm hla => by
    have hM : (L.take m).length = m := by rw [List.length_take]; omega
    have hr : RB w.drew B (some ⟨b, off, none⟩) (L.take m) := by
      have := HH.out.drew.cut rfl 0 m hm (Nat.zero_le _)
      rwa [List.drop_zero, Nat.add_zero] at this
    have := trimLeft_any (cap := cap) hr (by rw [hM]; exact Nat.le_trans hm HL.out) (by rw [hM]; exact Nat.le_trans hm HCP.out) (by
      rw [hM]
      rcases hla with h1 | h1
      · exact .inl h1
      · by_cases h2 : m = 0
        · exact .inl h2
        · refine .inr ?_
          have h3 : nth (L.take m) (m - 1) = nth L (m - 1) := by
            unfold nth
            rw [List.getD_eq_getElem?_getD, List.getD_eq_getElem?_getD, List.getElem?_take, if_pos (by omega)]
          rw [h3]
          exact h1)
    rwa [hM] at this
  go_region_held3 (fun _ => True) (exact trivial)
    ((first
      | (go_at_call 76; refine (trimRight_any (w := w.drew) HH.out.drew HL.out HCP.out).mono ?_; rintro e w1 ⟨rfl, m, hm, rfl, h1, h2⟩; have HM := Lib.hid (And.intro hm (And.intro h1 h2)); clear hm h1 h2)
      | (go_at_call 75; refine (HLT.out m HM.out.1 HM.out.2.1).mono ?_; rintro e w2 ⟨rfl, A2, k2, c2, rfl, h3⟩; have HK := Lib.hid h3; clear h3)))
  all_goals
    go_wp2
    go_ret
    exact ⟨⟨1, rfl⟩, _, _, _, rfl, HK.out.trans (allzero_iff HM.out.1 HM.out.2.1 HM.out.2.2)⟩
def zeroB (L : List Nat) : Bool := L.all fun x => x == 0
theorem zeroB_iff {L : List Nat} : (∀ j, nth L j = 0) ↔ zeroB L = true := by
  unfold zeroB
  rw [List.all_eq_true]
  constructor
  · intro h x hx
    obtain ⟨j, hj, rfl⟩ := List.mem_iff_getElem.1 hx
    have := h j
    rw [nth_lt hj] at this
    simp [this]
  · intro h j
    by_cases hj : j < L.length
    · rw [nth_lt hj]
      simpa using h _ (List.getElem_mem hj)
    · exact nth_ge (by omega)

/-- what is wrong with a record -/
def recErr (R : List Nat) (s id : Nat) : Int := if nth R (id * s) = 0 then (if zeroB ((R.take (id * s + s)).drop (id * s)) = true then 0 else 94) else if nth R (id * s) = 1 then 0 else 93
set_option maxRecDepth 100000 in
set_option maxHeartbeats 800000 in
theorem checkRecord_any {s n id cap : Nat} {A : Option Addr} (hr : RfR w g (s : Int) A cap R lv lo) (hs : 2 ≤ s) (hs2 : s ≤ 255) (hR : R.length = n * s) (hn : n ≤ 65536) (hid : id < n) :
    Calls Tryd.prog 50 #[.pointer (some ⟨g, 0, none⟩), .int .i64 (id : Int)] w fun e w' => e = .returned (.int .i64 (recErr R s id)) ∧ ∃ q, w' = w.drewN q := by
  have hRm := rf_big hR hn hs2
  have hle := rec_in hR hid
  obtain ⟨b, off, rfl, hbB, hcells⟩ := hr.2.2.2.2.1.all (by omega)
  have hcut := hr.2.2.2.2.1.cut rfl (id * s) (id * s + s) hle (by omega)
  have he : recErr R s id = if nth R (id * s) = 0 then (if zeroB ((R.take (id * s + s)).drop (id * s)) = true then 0 else 94) else if nth R (id * s) = 1 then 0 else 93 := rfl
  obtain ⟨D, hD⟩ : ∃ D, D = (R.take (id * s + s)).drop (id * s) := ⟨_, rfl⟩
  have hDl : D.length = s := by rw [hD, List.length_drop, List.length_take]; omega
  obtain ⟨k, hk⟩ : ∃ k, k = id * s := ⟨_, rfl⟩
  rw [← hD] at hcut he
  rw [← hk] at hcut he hle
  have hc := hcells k (by omega)
  obtain ⟨y, hy⟩ : ∃ y, y = nth R k := ⟨_, rfl⟩
  rw [← hy] at hc he
  have hcp : s ≤ cap - k := by have := hr.2.2.2.2.2.1; omega
  have HT := Lib.hid (fun q => trim_any (w := w.drewN q) (cap := cap - k) (hcut.drewN q) (by rw [hDl]; omega) (by rw [hDl]; exact hcp) (by rw [hDl]; omega))
  rw [hDl] at HT
  have s0 : (0 : Int) < (s : Int) := by omega
  have HR := Lib.hid hr
  have HK := Lib.hid hk
  have HLE := Lib.hid hle
  have HRM := Lib.hid hRm
  have HS := Lib.hid hs
  have HC := Lib.hid hc
  have HE := Lib.hid he
  rw [he]
  obtain ⟨zb, hzb⟩ : ∃ z, z = zeroB D := ⟨_, rfl⟩
  have HZ := Lib.hid (zeroB_iff (L := D))
  rw [← hzb] at HZ ⊢
  clear hr hs hs2 hR hn hid hRm hle hcells hcut he hD hDl hk hc hcp hbB hzb hy
  by_cases h0 : y = 0
  · have e1 : ((y : Int) != 0) = false := by simp [h0]
    have e2 : ((y : Int) == 0) = true := by simp [h0]
    have e3 : decide ((y : Int) = 0) = true := by simp [h0]
    rw [if_pos h0]
    clear h0
    cases zb
    · go_enter Tryd.func50, Tryd.ntmps50
      go_wp2_with (first
        | (go_at_call 57; refine (rfRecord_any HR.out HK.out HLE.out (by have := HS.out; omega) HRM.out).mono ?_; rintro e w2 ⟨rfl, q2, hw2⟩; have hc2 : w2.cell? ⟨b, off + k, none⟩ = some (.int .u8 (y : Int)) := (by rw [hw2]; exact HC.out); have HT2 := HT.out q2; rw [← hw2] at HT2; have HT3 := Lib.hid HT2; have HW2 := Lib.hid hw2; clear hw2 HT2)
        | (go_at_call 70; refine (HT3.out).mono ?_; rintro e w3 ⟨⟨q3, hw3⟩, A3, k3, c3, rfl, hk3⟩; have hpos : (0 : Int) < (k3 : Int) := (by have h1 : ¬ k3 = 0 := (fun h => absurd (HZ.out.1 (hk3.1 h)) (by decide)); omega); have g1 : decide ((0 : Int) < (k3 : Int)) = true := decide_eq_true hpos; have g2 : decide (0 < k3) = true := decide_eq_true (by omega); have HW3 := Lib.hid hw3; clear hk3 hw3))
      go_ret
      exact ⟨rfl, q2 + q3, by rw [HW3.out, HW2.out, World.drewN_drewN]⟩
    · go_enter Tryd.func50, Tryd.ntmps50
      go_wp2_with (first
        | (go_at_call 57; refine (rfRecord_any HR.out HK.out HLE.out (by have := HS.out; omega) HRM.out).mono ?_; rintro e w2 ⟨rfl, q2, hw2⟩; have hc2 : w2.cell? ⟨b, off + k, none⟩ = some (.int .u8 (y : Int)) := (by rw [hw2]; exact HC.out); have HT2 := HT.out q2; rw [← hw2] at HT2; have HT3 := Lib.hid HT2; have HW2 := Lib.hid hw2; clear hw2 HT2)
        | (go_at_call 70; refine (HT3.out).mono ?_; rintro e w3 ⟨⟨q3, hw3⟩, A3, k3, c3, rfl, hk3⟩; obtain rfl : k3 = 0 := hk3.2 (HZ.out.2 (by trivial)); have HW3 := Lib.hid hw3; clear hk3 hw3))
      go_ret
      exact ⟨rfl, q2 + q3, by rw [HW3.out, HW2.out, World.drewN_drewN]⟩
  · have e1 : ((y : Int) != 0) = true := by simpa using h0
    have e2 : ((y : Int) == 0) = false := beq_eq_false_iff_ne.2 (by omega)
    have e3 : decide ((y : Int) = 0) = false := decide_eq_false (by omega)
    rw [if_neg h0]
    by_cases h1 : y = 1
    · have e4 : ((y : Int) != 1) = false := by simp [h1]
      rw [if_pos h1]
      clear h0 h1
      go_enter Tryd.func50, Tryd.ntmps50
      go_wp2_with (go_at_call 57; refine (rfRecord_any HR.out HK.out HLE.out (by have := HS.out; omega) HRM.out).mono ?_; rintro e w2 ⟨rfl, q2, hw2⟩; have hc2 : w2.cell? ⟨b, off + k, none⟩ = some (.int .u8 (y : Int)) := (by rw [hw2]; exact HC.out); have HW2 := Lib.hid hw2; clear hw2)
      go_ret
      exact ⟨rfl, q2, HW2.out⟩
    · have e4 : ((y : Int) != 1) = true := bne_iff_ne.2 (by omega)
      rw [if_neg h1]
      clear h0 h1
      go_enter Tryd.func50, Tryd.ntmps50
      go_wp2_with (go_at_call 57; refine (rfRecord_any HR.out HK.out HLE.out (by have := HS.out; omega) HRM.out).mono ?_; rintro e w2 ⟨rfl, q2, hw2⟩; have hc2 : w2.cell? ⟨b, off + k, none⟩ = some (.int .u8 (y : Int)) := (by rw [hw2]; exact HC.out); have HW2 := Lib.hid hw2; clear hw2)
      go_ret
      exact ⟨rfl, q2, HW2.out⟩
end
end Go.Proofs.YtcclcecjidlojaaDoor

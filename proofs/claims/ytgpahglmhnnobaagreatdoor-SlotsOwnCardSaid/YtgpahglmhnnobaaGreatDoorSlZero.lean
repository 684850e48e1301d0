/- slots: bytes.TrimLeft of zeros; isZero. -/
import Derived.Test.YtgpahglmhnnobaaGreatDoorSlPack2
import Derived.Lib.Strings
namespace Go.Proofs.YtgpahglmhnnobaaGreatDoor
open Go.RowKit
set_option linter.unusedVariables false
set_option linter.unusedSimpArgs false
def lenS : Value → Nat
  | .slice _ n _ => n
  | _ => 0
def allZ (L : List Nat) : Bool := decide (∀ j, j < L.length → nth L j = 0)
theorem allZ_yes {L : List Nat} (h : ∀ j, j < L.length → nth L j = 0) : allZ L = true := decide_eq_true h
theorem allZ_no {L : List Nat} (h : ¬ ∀ j, j < L.length → nth L j = 0) : allZ L = false := decide_eq_false h
def TrimW (L : List Nat) (e : Ending) : Prop := ∃ A k c, e = .returned (.slice A k c) ∧ decide (k = 0) = allZ L
set_option maxHeartbeats 800000 in
theorem trimLeft_any {b off cap B : Nat} {w : World} {M : List Nat} (h : RB w B (some ⟨b, off, none⟩) M) (hl : M.length ≤ 1000) (hcap : M.length ≤ cap) :
    Calls Tryz.prog 91 #[.slice (some ⟨b, off, none⟩) M.length cap, .int .u8 0] w fun e w' => w = w' ∧ TrimW M e := by
  have HR := Lib.hid h
  have HL := Lib.hid hl
  have HCP := Lib.hid hcap
  clear h hl hcap
  go_enter Tryz.func91, Tryz.ntmps91
  go_wp2_with fail
  go_loopw [0] (fun s wr => wr = w ∧ ∃ p d c, d ≤ M.length ∧ (d = 0 ∨ p + d = off + M.length) ∧ d ≤ c ∧ (∀ j, j < M.length - d → nth M j = 0) ∧ s = .slice (some ⟨b, p, none⟩) d c) (fun s _ => lenS s)
  case atStart => exact ⟨rfl, off, M.length, cap, Nat.le_refl _, .inr rfl, HCP.out, fun j hj => absurd hj (by omega), rfl⟩
  case round =>
    obtain ⟨rfl, p, d, c, hd, hp, hdc, hz, rfl⟩ := hrel
    by_cases h0 : d = 0
    · have f1 : decide ((0 : Int) < (d : Int)) = false := decide_eq_false (by omega)
      have f2 : decide (0 < d) = false := decide_eq_false (by omega)
      have f3 : ((d : Int) == 0) = true := by simp [h0]
      have HZ : Hid (decide ((0 : Nat) = 0) = allZ M) := Lib.hid (by rw [allZ_yes (fun j hj => hz j (by omega))]; rfl)
      subst h0
      clear hz hd hp hdc
      go_wp2
      go_ret
      exact ⟨rfl, _, _, _, rfl, HZ.out⟩
    · have f1 : decide ((0 : Int) < (d : Int)) = true := decide_eq_true (by omega)
      have f2 : decide (0 < d) = true := decide_eq_true (by omega)
      have f3 : ((d : Int) == 0) = false := beq_eq_false_iff_ne.2 (by omega)
      have f4 : decide ((d : Int) = 0) = false := decide_eq_false (by omega)
      have f5 : (0 : Int) < (d : Int) := by omega
      have f6 : (1 : Int) ≤ (d : Int) := by omega
      have f7 : (d : Int) ≤ (c : Int) := by omega
      obtain ⟨b2, off2, hA2, -, hcs⟩ := HR.out.all (by omega)
      simp only [Option.some.injEq, Addr.mk.injEq, and_true] at hA2
      obtain ⟨rfl, rfl⟩ := hA2
      have hc := hcs (M.length - d) (by omega)
      rw [show off + (M.length - d) = p from by omega] at hc
      obtain ⟨y, hy⟩ : ∃ y, y = nth M (M.length - d) := ⟨_, rfl⟩
      rw [← hy] at hc
      have hd1 : 1 < d → off + 1 = off + 1 := fun _ => rfl
      have HD : Hid (d ≤ M.length ∧ p + d = off + M.length ∧ d ≤ c ∧ ¬ d = 0) := Lib.hid ⟨hd, by omega, hdc, h0⟩
      have HZ := Lib.hid hz
      have HY := Lib.hid hy
      clear hcs hy hz hp hdc h0 hd1
      by_cases hy0 : y = 0
      · have e1 : ((y : Int) == 0) = true := by simp [hy0]
        have e2 : decide ((y : Int) = 0) = true := by simp [hy0]
        have hq : d = 1 ∨ c ≠ 1 := by have := HD.out; omega
        have HZN : Hid (∀ j, j < M.length - (d - 1) → nth M j = 0) := Lib.hid fun j hj => by
          by_cases hq : j < M.length - d
          · exact HZ.out j hq
          · have e : j = M.length - d := by have := HD.out; omega
            rw [e, ← HY.out, hy0]
        clear hy0
        go_wp2
        go_roundw
        case rel => exact ⟨by trivial, (if c = 1 then p else p + 1), d - 1, c - 1, by have := HD.out.1; omega, by have := HD.out; have := hq; split <;> omega, by have := HD.out; omega, HZN.out, by split <;> rfl⟩
        case measure =>
          have := HD.out.2.2.2
          show d - 1 < d
          omega
      · have e1 : ((y : Int) == 0) = false := beq_eq_false_iff_ne.2 (by omega)
        have e2 : decide ((y : Int) = 0) = false := decide_eq_false (by omega)
        have HNZ : Hid (decide (d = 0) = allZ M) := Lib.hid (by
          rw [decide_eq_false HD.out.2.2.2, allZ_no]
          intro h
          exact hy0 (by rw [HY.out]; exact h _ (by have := HD.out; omega)))
        clear hy0
        go_wp2
        go_ret
        exact ⟨rfl, _, _, _, rfl, HNZ.out⟩
set_option maxRecDepth 100000 in
set_option maxHeartbeats 800000 in
theorem trimL_any {b off cap B : Nat} {w : World} {L : List Nat} (h : RB w B (some ⟨b, off, none⟩) L) (hl : L.length ≤ 1000) (hcap : L.length ≤ cap) :
    Calls Tryz.prog 71 #[.slice (some ⟨b, off, none⟩) L.length cap, .string ⟨#[0]⟩] w fun e w' => w = w' ∧ TrimW L e := by
  by_cases h0 : L.length = 0
  · have f1 : ((L.length : Int) == 0) = true := by simp [h0]
    have HZ : Hid (decide ((0 : Nat) = 0) = allZ L) := Lib.hid (by rw [allZ_yes (fun j hj => absurd hj (by omega))]; rfl)
    clear h h0 hcap
    go_enter Tryz.func71, Tryz.ntmps71
    go_wp2
    go_ret
    exact ⟨rfl, none, 0, 0, rfl, HZ.out⟩
  · have f1 : ((L.length : Int) == 0) = false := beq_eq_false_iff_ne.2 (by omega)
    have f2 : decide ((L.length : Int) = 0) = false := decide_eq_false (by omega)
    have HT := Lib.hid (trimLeft_any (cap := cap) h hl hcap)
    clear h hl hcap h0
    obtain ⟨cu, hcu⟩ : ∃ s : ByteArray, s = ⟨#[0]⟩ := ⟨_, rfl⟩
    rw [← hcu]
    have u1 : cu.size = 1 := by rw [hcu]; rfl
    have u2 : (cu.toList == ([] : List UInt8)) = false := by rw [hcu, Lib.toList_data]; rfl
    have u3 : ∀ h : 0 < cu.size, cu[0].toNat = 0 := fun _ => by subst hcu; rfl
    have u4 : (0 : Nat) < cu.size := by omega
    have u5 : (0 : Int) < (cu.size : Int) := by omega
    have HCU := Lib.hid hcu
    clear hcu
    go_enter Tryz.func71, Tryz.ntmps71
    go_wp2_with fail
    refine HT.out.mono ?_
    rintro e w1 ⟨rfl, A, k, c, rfl, hk⟩
    have HK := Lib.hid hk
    clear hk
    go_wp2
    go_ret
    exact ⟨rfl, _, _, _, rfl, HK.out⟩
set_option maxHeartbeats 400000 in
theorem isZero_any {b off cap B : Nat} {w : World} {L : List Nat} (h : RB w B (some ⟨b, off, none⟩) L) (hl : L.length ≤ 1000) (hcap : L.length ≤ cap) :
    Calls Tryz.prog 48 #[.slice (some ⟨b, off, none⟩) L.length cap] w fun e w' => e = .returned (.bool (allZ L)) ∧ w = w' := by
  have HT := Lib.hid (trimL_any (cap := cap) h hl hcap)
  clear h hl hcap
  go_enter Tryz.func48, Tryz.ntmps48
  go_wp2_with fail
  refine HT.out.mono ?_
  rintro e w1 ⟨rfl, A, k, c, rfl, hk⟩
  have hk2 : ((k : Int) == 0) = allZ L := by rw [← hk]; by_cases h : k = 0 <;> simp [h]
  go_wp2
  go_ret
  exact ⟨rfl, rfl⟩
end Go.Proofs.YtgpahglmhnnobaaGreatDoor

/- Contracts of the document's own functions over bytes: Copy, Val, Get; and of the law's 'same'. -/
import Derived.Test.YtgpahglmhnnobaaGreatDoorGet
namespace Go.Proofs.YtgpahglmhnnobaaGreatDoor
open Go.RowKit
set_option linter.unusedVariables false

theorem u8_info : (Tryz.prog.info? 5).map (fun i => (i.zero, i.size, i.bytes)) = some (some (.int .u8 0), 1, 1) := by kernel_rfl

/-- what Copy answers: a row of its own -/
def NewB (bs : List Nat) (w : World) (e : Ending) (w' : World) : Prop := ∃ v, e = .returned v ∧ OB w' w.heap.size 5 v bs ∧ Below w.heap.size w w'

/-! ### Val, Get -/
theorem beFrom_eq (bs : List Nat) (n : Nat) : beFrom n bs = n * 256 ^ bs.length + be bs := by
  unfold be
  induction bs generalizing n with
  | nil => simp [beFrom]
  | cons c l ih =>
    have h1 : beFrom n (c :: l) = beFrom (n * 256 + c) l := rfl
    have h2 : beFrom 0 (c :: l) = beFrom (0 * 256 + c) l := rfl
    rw [h1, h2, ih, ih (0 * 256 + c), List.length_cons, Nat.pow_succ, Nat.add_mul, Nat.zero_mul, Nat.zero_add, Nat.mul_assoc, Nat.mul_comm 256]
    omega
theorem be_cons (c : Nat) (l : List Nat) : be (c :: l) = c * 256 ^ l.length + be l := by
  have h2 : be (c :: l) = beFrom (0 * 256 + c) l := rfl
  rw [h2, beFrom_eq]; simp
theorem drop_nth (bs : List Nat) (k : Nat) (h : k < bs.length) : bs.drop k = nth bs k :: bs.drop (k + 1) := by
  rw [List.drop_eq_getElem_cons h, nth_lt h]
theorem be_all (bs : List Nat) (hb : IsBytes bs) : be bs < 256 ^ bs.length := by
  have := be_lt bs hb bs.length (Nat.le_refl _)
  rwa [List.take_length] at this
/-- 256^k in 64 bits -/
def p64 (k : Nat) : Int := IntKind.u64.wrap ((256 ^ k : Nat) : Int)
theorem p64_succ (k : Nat) : IntKind.u64.wrap (p64 k * 256) = p64 (k + 1) := by
  unfold p64
  have : ((256 ^ (k + 1) : Nat) : Int) = ((256 ^ k : Nat) : Int) * 256 := by rw [Nat.pow_succ]; simp
  rw [this]
  generalize ((256 ^ k : Nat) : Int) = x
  rw [wrapU64, wrapU64, wrapU64]
  omega
theorem p64_small (k : Nat) (h : k < 8) : p64 k = ((256 ^ k : Nat) : Int) := by
  have : (256 : Nat) ^ k ≤ 256 ^ 7 := Nat.pow_le_pow_right (by omega) (by omega)
  have h7 : (256 : Nat) ^ 7 = 72057594037927936 := rfl
  exact wrapU64_in _ (by omega)
theorem val_round (bs : List Nat) (hb : IsBytes bs) (hl : bs.length ≤ 8) (j : Nat) (hj : j < bs.length) :
    IntKind.u64.wrap (((be (bs.drop (j + 1)) : Nat) : Int) + IntKind.u64.wrap (p64 (bs.length - (j + 1)) * IntKind.u64.wrap ((nth bs j : Nat) : Int))) = ((be (bs.drop j) : Nat) : Int) := by
  have hlen : (bs.drop (j + 1)).length = bs.length - (j + 1) := by simp
  have h1 : be (bs.drop j) = nth bs j * 256 ^ (bs.length - (j + 1)) + be (bs.drop (j + 1)) := by rw [drop_nth bs j hj, be_cons, hlen]
  have h2 : be (bs.drop j) < 256 ^ 8 := Nat.lt_of_lt_of_le (be_all _ (hb.drop j)) (Nat.pow_le_pow_right (by omega) (by simp; omega))
  have h8 : (256 : Nat) ^ 8 = 18446744073709551616 := rfl
  rw [h8] at h2
  have hn := hb.nth j
  rw [p64_small _ (by omega), h1]
  rw [h1] at h2
  have e2 : IntKind.u64.wrap ((nth bs j : Nat) : Int) = (nth bs j : Int) := wrapU64_in _ (by omega)
  rw [e2, ← Int.natCast_mul, Nat.mul_comm]
  generalize nth bs j * 256 ^ (bs.length - (j + 1)) = x at *
  generalize be (bs.drop (j + 1)) = y at *
  rw [wrapU64_in x (by omega), wrapU64]
  omega

set_option maxHeartbeats 400000 in
theorem Val_any (A : Option Addr) (cap B : Nat) (bs : List Nat) (w : World) (h : RB w B A bs) (hl : bs.length ≤ 8) :
    Calls Tryz.prog 84 #[.slice A bs.length cap] w fun e w' => e = .returned (.int .u64 (be bs : Nat)) ∧ w = w' := by
  go_enter Tryz.func84, Tryz.ntmps84
  go_wp2
  go_loop [3, 4, 5] (fun v p i => ∃ k : Nat, k ≤ bs.length ∧ i = .int .i64 ((k : Int) - 1) ∧ v = .int .u64 (be (bs.drop k) : Nat) ∧ p = .int .u64 (p64 (bs.length - k))) (fun _ _ i => ((intOf i) + 1).toNat)
  case atStart => exact ⟨bs.length, Nat.le_refl _, rfl, by rw [List.drop_length]; rfl, by rw [Nat.sub_self]; rfl⟩
  case round =>
    obtain ⟨k, hk, rfl, rfl, rfl⟩ := hrel
    by_cases hlt : 0 < k
    · obtain ⟨j, rfl⟩ : ∃ j, k = j + 1 := ⟨k - 1, by omega⟩
      have hbytes := h.1
      obtain ⟨b, off, rfl, _, hc⟩ := h.at_ (k := j) (by omega)
      go_wp2
      go_round
      case rel => exact ⟨j, by omega, rfl, by rw [val_round bs hbytes hl j (by omega)], by rw [p64_succ, show bs.length - (j + 1) + 1 = bs.length - j from by omega]⟩
      case measure => simp [intOf]
    · obtain rfl : k = 0 := by omega
      go_wp2
      go_ret
      exact ⟨rfl, rfl⟩

/-! ### same -/
def SameB (b : Bool) (w : World) (e : Ending) (w' : World) : Prop := e = .returned (.bool b) ∧ ∃ n, w' = w.drewN n

end Go.Proofs.YtgpahglmhnnobaaGreatDoor

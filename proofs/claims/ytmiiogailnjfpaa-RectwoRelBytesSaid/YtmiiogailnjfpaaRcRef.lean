/- The document's side of recone: In, Ptr, Joined, LinkRight, LinkBytes, PutRel. -/
import Derived.Test.YtmiiogailnjfpaaRcRelF
import Derived.Test.YtmiiogailnjfpaaRefSet
import Derived.Deep.RegionHeld3
namespace Go.Proofs.Ytmiiogailnjfpaa
open Go.RowKit
set_option linter.unusedVariables false

set_option maxHeartbeats 400000 in
theorem In_any (n low most : Int) (w : World) : Calls Try.prog 32 #[.int .i64 n, .int .i64 low, .int .i64 most] w fun e w' => e = .returned (.bool (inR low most n)) ∧ w = w' := by
  unfold inR
  by_cases h1 : low ≤ n
  · by_cases h2 : n < most
    · rw [decide_eq_true h1, decide_eq_true h2]
      go_enter Try.func32, Try.ntmps32
      go_wp2
      go_ret
      exact ⟨rfl, rfl⟩
    · have hd : decide (n < most) = false := decide_eq_false h2
      rw [decide_eq_true h1, hd]
      go_enter Try.func32, Try.ntmps32
      go_wp2
      go_ret
      exact ⟨rfl, rfl⟩
  · have hd : decide (low ≤ n) = false := decide_eq_false h1
    rw [hd]
    go_enter Try.func32, Try.ntmps32
    go_wp2
    go_ret
    exact ⟨rfl, rfl⟩

section
variable {S : Fp} {l : List Ass} {w0 w w' : World}
theorem refNumA [Stable (Sep l)] (h : St S l w0 w) (width : Int) (n : Nat) (hn : n < 18446744073709551616) :
    Calls Try.prog 50 #[.int .i64 width, .int .u64 n] w fun e w' => ∃ v, e = .returned v ∧ St S (ObA 5 v (putNum width n) :: l) w0 w' := by
  refine (refNum_any width n w hn).mono ?_
  rintro e w' ⟨v, rfl, ho, hb⟩
  exact ⟨v, rfl, h.newOb ho hb⟩
/-- a pointer's bytes -/
def ptrB (n : Int) : List Nat := putNum 4 (uIn (wrap64 (n + 1)))
set_option maxHeartbeats 400000 in
theorem Ptr_any [Stable (Sep l)] (h : St S l w0 w) (n : Int) :
    Calls Try.prog 35 #[.int .i64 n] w fun e w' => ∃ v, e = .returned v ∧ St S (ObA 5 v (ptrB n) :: l) w0 w' := by
  have H := Lib.hid (refNumA h 4 (uIn (wrap64 (n + 1))) (uIn_lt _))
  have e1 := uIn_eq (wrap64 (n + 1))
  unfold ptrB
  obtain ⟨m, hm⟩ : ∃ m, m = uIn (wrap64 (n + 1)) := ⟨_, rfl⟩
  rw [← hm] at H e1 ⊢
  clear h hm
  go_enter Try.func35, Try.ntmps35
  go_wp2_with (go_at_call 50; refine (H.out).mono ?_; rintro e w1 ⟨v, rfl, h1⟩)
  go_ret
  exact ⟨v, rfl, h1⟩

set_option maxHeartbeats 1000000 in
theorem Joined_any [Stable (Sep l)] {v u : Value} {bs news : List Nat} (h : St S (ObA 5 v bs :: ObA 5 u news :: l) w0 w) (hl : bs.length + news.length ≤ 100000000) :
    Calls Try.prog 34 #[v, u] w fun e w' => ∃ v', e = .returned v' ∧ St S (ObA 5 v' (bs ++ news) :: ObA 5 u news :: l) w0 w' := by
  obtain ⟨i0, hi, hz0, hz1, hz2⟩ := info_parts u8_info
  obtain ⟨A2, c2, rfl, -, -, hr2, -⟩ := h.swap.ob.form
  have hby := hr2.1
  have H := Lib.hid h
  obtain ⟨A0, c0, rfl, -, -, -, -⟩ := h.ob.form
  clear h hr2
  go_enter Try.func34, Try.ntmps34
  go_wp2
  go_loopw [0, 5] (fun a i wr => ∃ k : Nat, k ≤ news.length ∧ i = .int .i64 k ∧ Hid (St S (ObA 5 a (bs ++ news.take k) :: ObA 5 (.slice A2 news.length c2) news :: l) w0 wr)) (fun _ i _ => news.length - (intOf i).toNat)
  case atStart => exact ⟨0, Nat.zero_le _, rfl, by simpa using H⟩
  case round =>
    obtain ⟨k, hk, rfl, Hk⟩ := hrel
    obtain ⟨Ak, ck, rfl, -, -, -, -⟩ := Hk.out.ob.form
    by_cases hlt : k < news.length
    · obtain ⟨b, off, rfl, hb, hc⟩ := (Hk.out.swap.ob.reads.2.1).at_ hlt
      have Hlen : Hid ((bs ++ news.take k).length + 1 ≤ 140737488355328) := Lib.hid (by rw [List.length_append, List.length_take]; omega)
      have Htk : Hid (bs ++ news.take k ++ [nth news k] = bs ++ news.take (k + 1)) := Lib.hid (by rw [take_succ_nth news k hlt, List.append_assoc])
      have Hby := Lib.hid (hby.nth k)
      go_wp2_with (at_builtin; refine wpList_append_lit8 _ rfl _ _ 24 rfl 0 5 i0 Try.underlying24 hi hz0 hz1 hz2 _ (bs ++ news.take k) (nth news k) (by rfl) Hk.out.ob (by rfl) _ rfl Hby.out Hlen.out (Nat.zero_le _) ?_; intro v1 w1 hown1 hg1 hat1; rw [Htk.out] at hown1; have H1 := Lib.hid (Hk.out.grewOb hown1 hg1 hat1 (by omega)); clear hown1 hg1 hat1)
      go_roundw
      case rel => exact ⟨k + 1, by omega, by go_num, H1⟩
      case measure => simp [intOf]; omega
    · have hk2 : k = news.length := by omega
      have H2 := Hk.out
      rw [List.take_of_length_le (by omega)] at H2
      clear Hk
      go_wp2
      go_ret
      have hm : min k news.length = news.length := by omega
      exact ⟨_, rfl, by simpa [hm] using H2⟩
end
end Go.Proofs.Ytmiiogailnjfpaa

/- 'speaks' and 'clone' of the value laws. -/
import Derived.Test.YtcopofdoelcgcaaValOpen
import Derived.Test.YtcopofdoelcgcaaValEnc2
import Derived.Test.YtcopofdoelcgcaaValSame2
import Derived.Test.YtcopofdoelcgcaaValPref
import Derived.Deep.Cut
import Derived.Deep.RegionHeld3
import Derived.Deep.RegionLaw
import Derived.BigRegion
import Derived.IntWalk
namespace Go.Proofs.Ytcopofdoelcgcaa
open Go.RowKit
set_option linter.unusedVariables false

set_option maxHeartbeats 400000 in
theorem clone_any (A : Option Addr) (cap B : Nat) (bs : List Nat) (w : World) (h : RB w B A bs) (hB : B ≤ w.heap.size) (hl : bs.length ≤ 140737488355328) :
    Calls Try.prog 23 #[.slice A bs.length cap] w (NewB bs w) := by
  obtain ⟨i0, hi, hz0, hz1, hz2⟩ := info_parts u8_info
  go_enter Try.func23, Try.ntmps23
  go_wp2_with (at_builtin; refine wpList_append_bytes _ rfl _ _ 33 rfl w.heap.size 5 i0 Try.underlying33 hi hz0 hz1 hz2 (.slice (some ⟨w.heap.size, 0, none⟩) 0 0) [] (by rfl) ⟨IsBytes.nil, World.ownsRow_lit w #[] 0 (Nat.le_refl _) (Nat.zero_le _) rfl⟩ A cap B bs bs.length rfl (by rfl) (h.alloc hB _) (by simpa using hl) (by simp) ?_; intro v1 w1 hown1 hg1 hat1)
  go_ret
  exact ⟨v1, rfl, by simpa using hown1, below_own ((Below.refl _ _).alloc (Nat.le_refl _) _) (World.ownsRow_lit (base := w.heap.size) (size := 1) w #[] 0 (Nat.le_refl _) (Nat.zero_le _) rfl) (Nat.le_refl _) hg1 (by simp)⟩

def strAB : ByteArray := ⟨#[97, 98]⟩
theorem encAB : chk ⟨4, 0, strAB, [], []⟩ = 0 ∧ encV ⟨4, 0, strAB, [], []⟩ = [4, 0, 2, 97, 98] := by
  constructor <;> kernel_rfl
theorem dec11 : decErr [1, 1] = 0 ∧ decV [1, 1] = ⟨1, 1, .empty, [], []⟩ := by
  constructor <;> kernel_rfl
theorem chk9 : chk ⟨9, 0, .empty, [], []⟩ = 40 := by kernel_rfl

theorem vok_small {k n : Int} {s : ByteArray} (h1 : -100 ≤ k) (h2 : k ≤ 100) (h3 : -100 ≤ n) (h4 : n ≤ 100) (h5 : s.size ≤ 100) : Vok ⟨k, n, s, [], []⟩ :=
  ⟨by show -9223372036854775808 ≤ k; omega, by show k ≤ _; omega, by show -9223372036854775808 ≤ n; omega, by show n ≤ _; omega, by show s.size ≤ _; omega, by simp, by simp, by simp, by simp⟩
theorem vr_small (w : World) {k n : Int} {s : ByteArray} (h : Vok ⟨k, n, s, [], []⟩) (A A' : Option Addr) (c c' : Nat) : VR w 0 ⟨k, n, s, [], []⟩ (.agg #[.int .i64 k, .int .i64 n, .string s, .slice A 0 c, .slice A' 0 c']) :=
  ⟨A, c, A', c', rfl, RL.empty _ _ _ _, RL.empty _ _ _ _, h⟩

set_option maxRecDepth 100000 in
set_option maxHeartbeats 1000000 in
theorem vspeaks_any (w : World) : Calls Try.prog 13 #[] w (Says true w) := by
  have HE := Encode_any ⟨4, 0, strAB, [], []⟩ _ 0 w (vr_small w (vok_small (by omega) (by omega) (by omega) (by omega) (by decide)) none none 0 0) (Nat.zero_le _)
  unfold EncPost at HE
  rw [encAB.1, encAB.2] at HE
  have HE := Lib.hid HE
  go_enter Try.func13, Try.ntmps13
  go_wp2_with fail
  refine (HE.out).mono ?_
  rintro e w1 ⟨y, rfl, hy, b1⟩
  obtain ⟨A1, c1, rfl, -, -, r1, -⟩ := hy.form
  go_wp2_with fail
  refine (same_yes A1 _ 5 c1 5 _ (w1.heap.size + 1) [4, 0, 2, 97, 98] _ (r1.alloc (Nat.le_refl _) _) (RB.lit w1 5 (by unfold IsBytes; decide) _ rfl) rfl (by decide)).mono ?_
  rintro e w2 ⟨rfl, n1, hw2⟩
  have b2 : Below w.heap.size w w2 := by subst hw2; exact below_drewN (b1.alloc b1.size _) _
  clear hw2 HE hy r1 b1
  have HD := Decode_any (some ⟨w2.heap.size, 0, none⟩) 2 (w2.heap.size + 1) [1, 1] (w2.alloc (.cells #[.int .u8 1, .int .u8 1] 5)) (RB.lit w2 5 (by unfold IsBytes; decide) _ rfl) (by simp) (by simp) (by decide)
  unfold DecPost at HD
  rw [dec11.1, dec11.2] at HD
  have HD := Lib.hid HD
  go_wp2_with fail
  refine (HD.out).mono ?_
  rintro e w3 ⟨A3, c3, A4, c4, rfl, -, -, b3⟩
  have hb3 := (b2.alloc b2.size (.cells #[.int .u8 1, .int .u8 1] 5)).trans (b3.mono (by have := b2.size; simp; omega))
  clear HD b2 b3
  obtain ⟨w4, hw4⟩ : ∃ x, x = w3.alloc (.cells #[.int .i64 1, .int .i64 1, .string .empty, .slice A3 0 c3, .slice A4 0 c4] 26) := ⟨_, rfl⟩
  have B4 : Blk w4 w3.heap.size 26 #[.int .i64 1, .int .i64 1, .string .empty, .slice A3 0 c3, .slice A4 0 c4] := by rw [hw4]; exact Blk.new _ _ _
  have hb4 : Below w.heap.size w w4 := by rw [hw4]; exact hb3.alloc hb3.size _
  have HC := Check_any ⟨9, 0, .empty, [], []⟩ _ 0 w4 (vr_small w4 (vok_small (by omega) (by omega) (by omega) (by omega) (by decide)) none none 0 0) (Nat.zero_le _)
  rw [chk9] at HC
  have HC := Lib.hid HC
  have HW4 := Lib.hid hw4
  clear hw4 hb3
  go_upto_region 5 with fail
  rw [← HW4.out]
  obtain ⟨x0, x1, x2, x3, x4⟩ := box_cells B4
  go_wp2_with fail
  refine (HC.out).mono ?_
  rintro e w5 ⟨rfl, b5⟩
  have B5 := B4.below b5 B4.lt
  have hb5 := hb4.trans (b5.mono hb4.size)
  clear x0 x1 x2 x3 x4 B4 b5 hb4 HC
  obtain ⟨x0, x1, x2, x3, x4⟩ := box_cells B5
  have hv := vr_small w5 (k := 1) (n := 1) (s := .empty) (vok_small (by omega) (by omega) (by omega) (by omega) (by decide)) A3 A4 c3 c4
  have HS := Same_any ⟨1, 1, .empty, [], []⟩ ⟨1, 1, .empty, [], []⟩ _ _ 0 w5 hv hv (Nat.zero_le _)
  rw [sameV_self] at HS
  have HS := Lib.hid HS
  clear hv
  go_wp2_with fail
  refine (HS.out).mono ?_
  rintro e w6 ⟨rfl, b6⟩
  go_wp2
  go_ret
  exact ⟨rfl, hb5.trans (b6.mono hb5.size)⟩

end Go.Proofs.Ytcopofdoelcgcaa

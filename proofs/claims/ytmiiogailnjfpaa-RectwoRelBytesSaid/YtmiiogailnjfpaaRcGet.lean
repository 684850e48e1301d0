/- The document's readings: at, Link; the law's clone. -/
import Derived.Test.YtmiiogailnjfpaaRcPure
import Derived.Test.YtmiiogailnjfpaaRcNode2
import Derived.Deep.Cut
namespace Go.Proofs.Ytmiiogailnjfpaa
open Go.RowKit
set_option linter.unusedVariables false

/-- the number that stands there -/
def atN (bs : List Nat) (f d : Nat) : Nat := be ((bs.take (f + d)).drop f)
theorem atN_lt (bs : List Nat) (hb : IsBytes bs) (f d : Nat) (h : f + d ≤ bs.length) (hd : d ≤ 4) : atN bs f d < 4294967296 := by
  unfold atN
  have h1 := be_all ((bs.take (f + d)).drop f) ((hb.take _).drop _)
  have h2 : ((bs.take (f + d)).drop f).length = d := by simp; omega
  rw [h2] at h1
  have h3 : 256 ^ d ≤ 256 ^ 4 := Nat.pow_le_pow_right (by omega) hd
  omega
set_option maxHeartbeats 1000000 in
theorem at_any (A : Option Addr) (cap B : Nat) (bs : List Nat) (f d : Nat) (w : World) (h : RB w B A bs) (hc : bs.length ≤ cap) (hm : cap ≤ maxLen) (hf : f + d ≤ bs.length) (hd : 1 ≤ d ∧ d ≤ 4) :
    Calls Try.prog 64 #[.slice A bs.length cap, .int .i64 (f : Int), .int .i64 (d : Int)] w fun e w' => e = .returned (.int .i64 ((atN bs f d : Nat) : Int)) ∧ w = w' := by
  unfold maxLen at hm
  obtain ⟨b, off, rfl, _, _⟩ := h.all (by omega)
  have hcut := h.cut rfl f (f + d) hf (by omega)
  have hlen : ((bs.take (f + d)).drop f).length = d := by simp; omega
  have hlt := atN_lt bs h.1 f d hf hd.2
  have hv := Val_any (some ⟨b, off + f, none⟩) (cap - f) B ((bs.take (f + d)).drop f) w hcut (by omega)
  have e1 : wrap64 ((atN bs f d : Nat) : Int) = ((atN bs f d : Nat) : Int) := by rw [wrap64_eq]; omega
  rw [hlen] at hv
  have hv : Calls Try.prog 61 #[.slice (some ⟨b, off + f, none⟩) d (cap - f)] w fun e w' => e = .returned (.int .u64 ((atN bs f d : Nat) : Int)) ∧ w = w' := hv
  obtain ⟨z, hz⟩ : ∃ z, z = atN bs f d := ⟨_, rfl⟩
  rw [← hz] at hv e1 ⊢
  have HV := Lib.hid hv
  have E1 := Lib.hid e1
  clear e1
  obtain ⟨m, hm2⟩ : ∃ m, m = f + d := ⟨_, rfl⟩
  have hfd : (f : Int) + (d : Int) = (m : Int) := by omega
  have g1 : f < cap := by omega
  have g2 : m ≤ cap := by omega
  have g3 : f ≤ m := by omega
  have g4 : m - f = d := by omega
  have g5 : f < m := by omega
  clear h hcut hv hz hlt hlen hm2 hf hd hc
  go_enter Try.func64, Try.ntmps64
  go_wp2_with (go_at_call 61; (try rw [g4]); refine (HV.out).mono ?_; rintro e w1 ⟨rfl, rfl⟩)
  go_ret
  exact ⟨ret_int E1.out, rfl⟩

set_option maxHeartbeats 1000000 in
theorem clone_any (A : Option Addr) (cap B : Nat) (bs : List Nat) (w : World) (h : RB w B A bs) (hB : B ≤ w.heap.size) (hl : bs.length ≤ 140737488355328) :
    Calls Try.prog 18 #[.slice A bs.length cap] w (NewB bs w) := by
  obtain ⟨i0, hi, hz0, hz1, hz2⟩ := info_parts u8_info
  have h1 := h.alloc hB (.cells #[] 5)
  go_enter Try.func18, Try.ntmps18
  go_wp2_with (at_builtin; refine wpList_append_bytes _ rfl _ _ 24 rfl w.heap.size 5 i0 Try.underlying24 hi hz0 hz1 hz2 (.slice (some ⟨w.heap.size, 0, none⟩) 0 0) [] (by rfl) ⟨IsBytes.nil, World.ownsRow_lit w #[] 0 (Nat.le_refl _) (Nat.zero_le _) rfl⟩ A cap B bs bs.length rfl (by rfl) h1 (by simpa using hl) (by simp) ?_; intro v1 w1 hown1 hg1 hat1)
  have hb1 : Below w.heap.size w w1 := below_own (((Below.refl _ _).alloc (Nat.le_refl _) _)) (World.ownsRow_lit (base := w.heap.size) (size := 1) w #[] 0 (Nat.le_refl _) (Nat.zero_le _) rfl) (Nat.le_refl _) hg1 (by simp)
  go_ret
  exact ⟨_, rfl, by simpa using hown1, hb1⟩

/-- the link that these bytes may be -/
def linkC (bs : List Nat) : RelC := ⟨true, (atN bs 0 4 : Nat), (atN bs 4 4 : Nat), (atN bs 10 4 : Nat) - 1, (atN bs 18 4 : Nat) - 1, (atN bs 14 4 : Nat) - 1, (atN bs 22 4 : Nat) - 1, (atN bs 8 2 : Nat), (atN bs 26 4 : Nat) - 1⟩
theorem sub_one {n : Nat} (h : n < 4294967296) : wrap64 ((n : Int) - 1) = (n : Int) - 1 := by rw [wrap64_eq]; omega

set_option maxRecDepth 100000 in
set_option maxHeartbeats 4000000 in
theorem Link_any (A : Option Addr) (cap B : Nat) (bs : List Nat) (w : World) (h : RB w B A bs) (hB : B ≤ w.heap.size) (hc : bs.length ≤ cap) (hm : cap ≤ maxLen) (hl : 30 ≤ bs.length) :
    Calls Try.prog 47 #[.slice A bs.length cap] w fun e w' => e = .returned (.tuple #[.agg #[.bool true, .int .i64 (linkC bs).fr, .int .i64 (linkC bs).to, .int .i64 (linkC bs).fp, .int .i64 (linkC bs).tp, .int .i64 (linkC bs).fn, .int .i64 (linkC bs).tn], .int .i64 (linkC bs).ty]) ∧ Below w.heap.size w w' := by
  have h0 := (St.start Zf w).newBlk 43 #[.bool false, .int .i64 0, .int .i64 0, .int .i64 0, .int .i64 0, .int .i64 0, .int .i64 0]
  obtain ⟨wo, hwo⟩ : ∃ wo, wo = w.alloc (.cells #[.bool false, .int .i64 0, .int .i64 0, .int .i64 0, .int .i64 0, .int .i64 0, .int .i64 0] 43) := ⟨_, rfl⟩
  rw [← hwo] at h0
  have hr := h0.rb h hB
  have hby := h.1
  have H0 : Hid (Calls Try.prog 64 #[.slice A bs.length cap, .int .i64 0, .int .i64 4] wo fun e w' => e = .returned (.int .i64 ((atN bs 0 4 : Nat) : Int)) ∧ wo = w') := Lib.hid (at_any A cap B bs 0 4 wo hr hc hm (by omega) (by omega))
  have l0 := atN_lt bs hby 0 4 (by omega) (by omega)
  have H4 : Hid (Calls Try.prog 64 #[.slice A bs.length cap, .int .i64 4, .int .i64 4] wo fun e w' => e = .returned (.int .i64 ((atN bs 4 4 : Nat) : Int)) ∧ wo = w') := Lib.hid (at_any A cap B bs 4 4 wo hr hc hm (by omega) (by omega))
  have l4 := atN_lt bs hby 4 4 (by omega) (by omega)
  have H10 : Hid (Calls Try.prog 64 #[.slice A bs.length cap, .int .i64 10, .int .i64 4] wo fun e w' => e = .returned (.int .i64 ((atN bs 10 4 : Nat) : Int)) ∧ wo = w') := Lib.hid (at_any A cap B bs 10 4 wo hr hc hm (by omega) (by omega))
  have l10 := atN_lt bs hby 10 4 (by omega) (by omega)
  have H14 : Hid (Calls Try.prog 64 #[.slice A bs.length cap, .int .i64 14, .int .i64 4] wo fun e w' => e = .returned (.int .i64 ((atN bs 14 4 : Nat) : Int)) ∧ wo = w') := Lib.hid (at_any A cap B bs 14 4 wo hr hc hm (by omega) (by omega))
  have l14 := atN_lt bs hby 14 4 (by omega) (by omega)
  have H18 : Hid (Calls Try.prog 64 #[.slice A bs.length cap, .int .i64 18, .int .i64 4] wo fun e w' => e = .returned (.int .i64 ((atN bs 18 4 : Nat) : Int)) ∧ wo = w') := Lib.hid (at_any A cap B bs 18 4 wo hr hc hm (by omega) (by omega))
  have l18 := atN_lt bs hby 18 4 (by omega) (by omega)
  have H22 : Hid (Calls Try.prog 64 #[.slice A bs.length cap, .int .i64 22, .int .i64 4] wo fun e w' => e = .returned (.int .i64 ((atN bs 22 4 : Nat) : Int)) ∧ wo = w') := Lib.hid (at_any A cap B bs 22 4 wo hr hc hm (by omega) (by omega))
  have l22 := atN_lt bs hby 22 4 (by omega) (by omega)
  have H8 : Hid (Calls Try.prog 64 #[.slice A bs.length cap, .int .i64 8, .int .i64 2] wo fun e w' => e = .returned (.int .i64 ((atN bs 8 2 : Nat) : Int)) ∧ wo = w') := Lib.hid (at_any A cap B bs 8 2 wo hr hc hm (by omega) (by omega))
  have l8 := atN_lt bs hby 8 2 (by omega) (by omega)
  have hC : linkC bs = ⟨true, (atN bs 0 4 : Nat), (atN bs 4 4 : Nat), (atN bs 10 4 : Nat) - 1, (atN bs 18 4 : Nat) - 1, (atN bs 14 4 : Nat) - 1, (atN bs 22 4 : Nat) - 1, (atN bs 8 2 : Nat), (atN bs 26 4 : Nat) - 1⟩ := rfl
  rw [hC]
  simp only
  obtain ⟨a0, ha0⟩ : ∃ a, a = atN bs 0 4 := ⟨_, rfl⟩
  rw [← ha0] at H0 l0 ⊢
  obtain ⟨a4, ha4⟩ : ∃ a, a = atN bs 4 4 := ⟨_, rfl⟩
  rw [← ha4] at H4 l4 ⊢
  obtain ⟨a10, ha10⟩ : ∃ a, a = atN bs 10 4 := ⟨_, rfl⟩
  rw [← ha10] at H10 l10 ⊢
  obtain ⟨a14, ha14⟩ : ∃ a, a = atN bs 14 4 := ⟨_, rfl⟩
  rw [← ha14] at H14 l14 ⊢
  obtain ⟨a18, ha18⟩ : ∃ a, a = atN bs 18 4 := ⟨_, rfl⟩
  rw [← ha18] at H18 l18 ⊢
  obtain ⟨a22, ha22⟩ : ∃ a, a = atN bs 22 4 := ⟨_, rfl⟩
  rw [← ha22] at H22 l22 ⊢
  obtain ⟨a8, ha8⟩ : ∃ a, a = atN bs 8 2 := ⟨_, rfl⟩
  rw [← ha8] at H8 l8 ⊢
  obtain ⟨z10, hz10⟩ : ∃ z, z = (a10 : Int) - 1 := ⟨_, rfl⟩
  have s10 : wrap64 ((a10 : Int) - 1) = z10 := (sub_one l10).trans hz10.symm
  rw [← hz10]
  clear hz10
  obtain ⟨z14, hz14⟩ : ∃ z, z = (a14 : Int) - 1 := ⟨_, rfl⟩
  have s14 : wrap64 ((a14 : Int) - 1) = z14 := (sub_one l14).trans hz14.symm
  rw [← hz14]
  clear hz14
  obtain ⟨z18, hz18⟩ : ∃ z, z = (a18 : Int) - 1 := ⟨_, rfl⟩
  have s18 : wrap64 ((a18 : Int) - 1) = z18 := (sub_one l18).trans hz18.symm
  rw [← hz18]
  clear hz18
  obtain ⟨z22, hz22⟩ : ∃ z, z = (a22 : Int) - 1 := ⟨_, rfl⟩
  have s22 : wrap64 ((a22 : Int) - 1) = z22 := (sub_one l22).trans hz22.symm
  rw [← hz22]
  clear hz22
  have h9 := Lib.hid (h0.setRow #[.bool true, .int .i64 (a0 : Int), .int .i64 (a4 : Int), .int .i64 z10, .int .i64 z18, .int .i64 z14, .int .i64 z22])
  have hr0 := h0.blk
  have hi0 : (Try.prog.info? 43).map (·.size) = some 7 := by kernel_rfl
  have oy : (#[.bool true, .int .i64 (a0 : Int), .int .i64 (a4 : Int), .int .i64 z10, .int .i64 z18, .int .i64 z14, .int .i64 z22] : Array Value).all (·.oneCell') = true := by rw [← Array.all_toList]; rfl
  have Hwo := Lib.hid hwo
  clear hC hwo h0 h hr hby ha0 l0 ha4 l4 ha10 l10 ha14 l14 ha18 l18 ha22 l22 ha8 l8
  have c0 := hl
  go_enter Try.func47, Try.ntmps47
  go_upto_region 1 with fail
  rw [← Hwo.out]
  go_wp2_with (first | (go_at_call 64; with_reducible refine (H0.out).mono ?_; rintro e w1 ⟨rfl, rfl⟩) | (go_at_call 64; with_reducible refine (H4.out).mono ?_; rintro e w1 ⟨rfl, rfl⟩) | (go_at_call 64; with_reducible refine (H10.out).mono ?_; rintro e w1 ⟨rfl, rfl⟩) | (go_at_call 64; with_reducible refine (H14.out).mono ?_; rintro e w1 ⟨rfl, rfl⟩) | (go_at_call 64; with_reducible refine (H18.out).mono ?_; rintro e w1 ⟨rfl, rfl⟩) | (go_at_call 64; with_reducible refine (H22.out).mono ?_; rintro e w1 ⟨rfl, rfl⟩) | (go_at_call 64; with_reducible refine (H8.out).mono ?_; rintro e w1 ⟨rfl, rfl⟩) | (refine wpList_store_row rfl 43 _ _ rfl w.heap.size #[.bool true, .int .i64 (a0 : Int), .int .i64 (a4 : Int), .int .i64 z10, .int .i64 z18, .int .i64 z14, .int .i64 z22] rfl rfl 43 #[.bool false, .int .i64 0, .int .i64 0, .int .i64 0, .int .i64 0, .int .i64 0, .int .i64 0] hr0 hi0 rfl oy ?_))
  refine bodyPost_ret (results_row_tmp rfl _ _ w.heap.size 43 #[.bool true, .int .i64 (a0 : Int), .int .i64 (a4 : Int), .int .i64 z10, .int .i64 z18, .int .i64 z14, .int .i64 z22] _ rfl h9.out.blk Try.underlying43 rfl (by kernel_rfl)) rfl ?_
  exact ⟨rfl, h9.out.bel⟩
end Go.Proofs.Ytmiiogailnjfpaa

/- Fields written and read: numbers alone. -/
import Derived.Test.YtpoaokkmmoeekaaRcRefA
import Derived.Test.YtpoaokkmmoeekaaRcNode2
import Derived.Deep.Cut
namespace Go.Proofs.Ytpoaokkmmoeekaa
open Go.RowKit
set_option linter.unusedVariables false

def isI (x : Int) : Prop := -9223372036854775808 ≤ x ∧ x < 9223372036854775808
theorem wrap64_eq (x : Int) : wrap64 x = (x + 9223372036854775808) % 18446744073709551616 - 9223372036854775808 := by unfold wrap64; rfl
theorem out_in (x least : Int) (h : isI x) (hl : least = 0 ∨ least = -1) : fOut (fIn x least) least = x := by
  unfold fOut fIn
  rw [wrapU64, wrap64_eq, wrap64_eq, wrap64_eq]
  obtain ⟨h1, h2⟩ := h
  rcases hl with rfl | rfl <;> omega
theorem fIn_zero (x : Int) (h : isI x) : fIn x 0 = uIn x := by
  unfold fIn uIn
  rw [wrapU64, wrapU64, wrap64_eq]
  obtain ⟨h1, h2⟩ := h
  omega
theorem fIn_one (x : Int) : fIn x (-1) = uIn (wrap64 (x + 1)) := by
  unfold fIn uIn
  rw [show x - (-1) = x + 1 from by omega]
theorem fld_w (bs : List Nat) (b : Bool) (width least limit x : Int) (h : isI x) (hl : least = 0 ∨ least = -1) : fld (.w bs, b) width least limit x = (.w (bs ++ putNum width (fIn x least)), b || !inR least limit x) := by
  unfold fld Cs.go Cs.val Cs.aft Cs.num
  simp only [out_in x least h hl]
theorem fval_w (bs : List Nat) (b : Bool) (width least x : Int) (h : isI x) (hl : least = 0 ∨ least = -1) : fval (.w bs, b) width least x = x := by
  unfold fval Cs.val Cs.num
  simp only [out_in x least h hl]

/-- what stands in n's lowest bytes -/
def lowN (d : Nat) (n : Nat) : Nat := n % 256 ^ d
theorem read_w (d : Nat) (hd : d = 1 ∨ d = 2 ∨ d = 4 ∨ d = 8) (n : Nat) (rest : List Nat) : getVal (putNum (d : Int) n ++ rest) 0 (d : Int) = lowN d n ∧ placeErr (putNum (d : Int) n ++ rest).length 0 (d : Int) = 0 ∧ (putNum (d : Int) n ++ rest).drop d = rest := by
  have hw : isW (d : Int) = true := by rcases hd with rfl | rfl | rfl | rfl <;> rfl
  have hp : putNum (d : Int) n = enc d n := by rw [putNum_yes hw, Int.toNat_natCast]
  rw [hp]
  have hlen : (enc d n ++ rest).length = d + rest.length := by rw [List.length_append, enc_length]
  have h0 : placeErr (enc d n ++ rest).length 0 (d : Int) = 0 := placeErr_ok (by rw [hw]; simp) (by rw [hlen]; omega)
  refine ⟨?_, h0, ?_⟩
  · rw [getVal_ok h0, show (0 : Int).toNat + ((d : Int)).toNat = d from by simp, Int.toNat_zero, List.drop_zero, List.take_append_of_le_length (by rw [enc_length]; omega), List.take_of_length_le (by rw [enc_length]; omega), be_enc]
    rfl
  · rw [List.drop_append_of_le_length (by rw [enc_length]; omega), List.drop_of_length_le (by rw [enc_length]; omega), List.nil_append]
theorem fld_r (d : Nat) (hd : d = 1 ∨ d = 2 ∨ d = 4 ∨ d = 8) (n : Nat) (rest : List Nat) (b : Bool) (least limit z : Int) : fld (.r (putNum (d : Int) n ++ rest) 0, b) (d : Int) least limit z = (.r rest 0, b || !inR least limit (fOut (lowN d n) least)) := by
  obtain ⟨h1, h2, h3⟩ := read_w d hd n rest
  unfold fld Cs.go Cs.val Cs.aft Cs.num
  simp only [h1, h2, restOf_ok rfl, errBy_ok rfl, Int.toNat_natCast, h3]
theorem fval_r (d : Nat) (hd : d = 1 ∨ d = 2 ∨ d = 4 ∨ d = 8) (n : Nat) (rest : List Nat) (b : Bool) (least z : Int) : fval (.r (putNum (d : Int) n ++ rest) 0, b) (d : Int) least z = fOut (lowN d n) least := by
  obtain ⟨h1, h2, h3⟩ := read_w d hd n rest
  unfold fval Cs.val Cs.num
  simp only [h1]
theorem inR_iff (least limit x : Int) : inR least limit x = true ↔ least ≤ x ∧ x < limit := by simp [inR]
/-- a field that is right comes back -/
theorem back (d : Nat) (hd : d = 1 ∨ d = 2 ∨ d = 4 ∨ d = 8) (least limit x : Int) (h : inR least limit x = true) (hl : least = 0 ∨ least = -1) (hlim : (limit - least).toNat ≤ 256 ^ d) (h4 : limit ≤ 4294967296) : fOut (lowN d (fIn x least)) least = x := by
  obtain ⟨h1, h2⟩ := (inR_iff _ _ _).1 h
  unfold fOut lowN fIn
  rw [wrapU64, wrap64_eq, wrap64_eq, wrap64_eq]
  have p1 : (256 : Nat) ^ 1 = 256 := rfl
  have p2 : (256 : Nat) ^ 2 = 65536 := rfl
  have p4 : (256 : Nat) ^ 4 = 4294967296 := rfl
  have p8 : (256 : Nat) ^ 8 = 18446744073709551616 := rfl
  rcases hd with rfl | rfl | rfl | rfl
  · rw [p1] at hlim ⊢
    rcases hl with rfl | rfl <;> omega
  · rw [p2] at hlim ⊢
    rcases hl with rfl | rfl <;> omega
  · rw [p4] at hlim ⊢
    rcases hl with rfl | rfl <;> omega
  · rw [p8] at hlim ⊢
    rcases hl with rfl | rfl <;> omega
theorem putNum_one (n : Nat) : putNum 1 n = [n % 256] := by
  have e1 : putNum 1 n = enc 1 n := putNum_yes (width := 1) rfl
  rw [e1]
  apply List.ext_getElem
  · rw [enc_length]; rfl
  · intro i h1 h2
    have hi : i = 0 := by simp at h2; omega
    subst hi
    rw [← nth_lt, enc_nth 1 n 0 (by omega)]
    simp
theorem aft_r (d : Nat) (hd : d = 1 ∨ d = 2 ∨ d = 4 ∨ d = 8) (n m : Nat) (rest : List Nat) : (Cs.r (putNum (d : Int) n ++ rest) 0).aft (d : Int) m = .r rest 0 := by
  obtain ⟨h1, h2, h3⟩ := read_w d hd n rest
  unfold Cs.aft
  simp only [h2, restOf_ok rfl, errBy_ok rfl, Int.toNat_natCast, h3]
theorem num_r (d : Nat) (hd : d = 1 ∨ d = 2 ∨ d = 4 ∨ d = 8) (n m : Nat) (rest : List Nat) : (Cs.r (putNum (d : Int) n ++ rest) 0).num (d : Int) m = lowN d n := by
  obtain ⟨h1, h2, h3⟩ := read_w d hd n rest
  unfold Cs.num
  simp only [h1]
end Go.Proofs.Ytpoaokkmmoeekaa

/- The document's readings: at, Link; the law's clone. -/
namespace Go.Proofs.Ytpoaokkmmoeekaa
open Go.RowKit
set_option linter.unusedVariables false

/-- the number that stands there -/
def atN (bs : List Nat) (f d : Nat) : Nat := be ((bs.take (f + d)).drop f)
theorem atN_lt (bs : List Nat) (hb : IsBytes bs) (f d : Nat) (h : f + d ≤ bs.length) (hd : d ≤ 4) : atN bs f d < 4294967296 := by
  unfold atN
  have h1 := be_all ((bs.take (f + d)).drop f) ((hb.take _).drop _)
  have h2 : ((bs.take (f + d)).drop f).length = d := by simp; omega
  rw [h2] at h1
  have h3 : 256 ^ d ≤ 256 ^ 4 := Nat.pow_le_pow_right (by omega) hd
  omega
set_option maxHeartbeats 1000000 in
theorem at_any (A : Option Addr) (cap B : Nat) (bs : List Nat) (f d : Nat) (w : World) (h : RB w B A bs) (hc : bs.length ≤ cap) (hm : cap ≤ maxLen) (hf : f + d ≤ bs.length) (hd : 1 ≤ d ∧ d ≤ 4) :
    Calls Try.prog 35 #[.slice A bs.length cap, .int .i64 (f : Int), .int .i64 (d : Int)] w fun e w' => e = .returned (.int .i64 ((atN bs f d : Nat) : Int)) ∧ w = w' := by
  unfold maxLen at hm
  obtain ⟨b, off, rfl, _, _⟩ := h.all (by omega)
  have hcut := h.cut rfl f (f + d) hf (by omega)
  have hlen : ((bs.take (f + d)).drop f).length = d := by simp; omega
  have hlt := atN_lt bs h.1 f d hf hd.2
  have hv := Val_any (some ⟨b, off + f, none⟩) (cap - f) B ((bs.take (f + d)).drop f) w hcut (by omega)
  have e1 : wrap64 ((atN bs f d : Nat) : Int) = ((atN bs f d : Nat) : Int) := by rw [wrap64_eq]; omega
  rw [hlen] at hv
  have hv : Calls Try.prog 47 #[.slice (some ⟨b, off + f, none⟩) d (cap - f)] w fun e w' => e = .returned (.int .u64 ((atN bs f d : Nat) : Int)) ∧ w = w' := hv
  obtain ⟨z, hz⟩ : ∃ z, z = atN bs f d := ⟨_, rfl⟩
  rw [← hz] at hv e1 ⊢
  have HV := Lib.hid hv
  have E1 := Lib.hid e1
  clear e1
  obtain ⟨m, hm2⟩ : ∃ m, m = f + d := ⟨_, rfl⟩
  have hfd : (f : Int) + (d : Int) = (m : Int) := by omega
  have g1 : f < cap := by omega
  have g2 : m ≤ cap := by omega
  have g3 : f ≤ m := by omega
  have g4 : m - f = d := by omega
  have g5 : f < m := by omega
  clear h hcut hv hz hlt hlen hm2 hf hd hc
  go_enter Try.func35, Try.ntmps35
  go_wp2_with (go_at_call 47; (try rw [g4]); refine (HV.out).mono ?_; rintro e w1 ⟨rfl, rfl⟩)
  go_ret
  exact ⟨ret_int E1.out, rfl⟩

set_option maxHeartbeats 1000000 in
theorem clone_any (A : Option Addr) (cap B : Nat) (bs : List Nat) (w : World) (h : RB w B A bs) (hB : B ≤ w.heap.size) (hl : bs.length ≤ 140737488355328) :
    Calls Try.prog 16 #[.slice A bs.length cap] w (NewB bs w) := by
  obtain ⟨i0, hi, hz0, hz1, hz2⟩ := info_parts u8_info
  have h1 := h.alloc hB (.cells #[] 5)
  go_enter Try.func16, Try.ntmps16
  go_wp2_with (at_builtin; refine wpList_append_bytes _ rfl _ _ 26 rfl w.heap.size 5 i0 Try.underlying26 hi hz0 hz1 hz2 (.slice (some ⟨w.heap.size, 0, none⟩) 0 0) [] (by rfl) ⟨IsBytes.nil, World.ownsRow_lit w #[] 0 (Nat.le_refl _) (Nat.zero_le _) rfl⟩ A cap B bs bs.length rfl (by rfl) h1 (by simpa using hl) (by simp) ?_; intro v1 w1 hown1 hg1 hat1)
  have hb1 : Below w.heap.size w w1 := below_own (((Below.refl _ _).alloc (Nat.le_refl _) _)) (World.ownsRow_lit (base := w.heap.size) (size := 1) w #[] 0 (Nat.le_refl _) (Nat.zero_le _) rfl) (Nat.le_refl _) hg1 (by simp)
  go_ret
  exact ⟨_, rfl, by simpa using hown1, hb1⟩

/-- the link that these bytes may be -/
def linkC (bs : List Nat) : RelC := ⟨true, (atN bs 0 4 : Nat), (atN bs 4 4 : Nat), (atN bs 10 4 : Nat) - 1, (atN bs 18 4 : Nat) - 1, (atN bs 14 4 : Nat) - 1, (atN bs 22 4 : Nat) - 1, (atN bs 8 2 : Nat), (atN bs 26 4 : Nat) - 1⟩
theorem sub_one {n : Nat} (h : n < 4294967296) : wrap64 ((n : Int) - 1) = (n : Int) - 1 := by rw [wrap64_eq]; omega

set_option maxRecDepth 100000 in
set_option maxHeartbeats 4000000 in
theorem Link_any (A : Option Addr) (cap B : Nat) (bs : List Nat) (w : World) (h : RB w B A bs) (hB : B ≤ w.heap.size) (hc : bs.length ≤ cap) (hm : cap ≤ maxLen) (hl : 30 ≤ bs.length) :
    Calls Try.prog 42 #[.slice A bs.length cap] w fun e w' => e = .returned (.tuple #[.agg #[.bool true, .int .i64 (linkC bs).fr, .int .i64 (linkC bs).to, .int .i64 (linkC bs).fp, .int .i64 (linkC bs).tp, .int .i64 (linkC bs).fn, .int .i64 (linkC bs).tn], .int .i64 (linkC bs).ty]) ∧ Below w.heap.size w w' := by
  have h0 := (St.start Zf w).newBlk 42 #[.bool false, .int .i64 0, .int .i64 0, .int .i64 0, .int .i64 0, .int .i64 0, .int .i64 0]
  obtain ⟨wo, hwo⟩ : ∃ wo, wo = w.alloc (.cells #[.bool false, .int .i64 0, .int .i64 0, .int .i64 0, .int .i64 0, .int .i64 0, .int .i64 0] 42) := ⟨_, rfl⟩
  rw [← hwo] at h0
  have hr := h0.rb h hB
  have hby := h.1
  have H0 : Hid (Calls Try.prog 35 #[.slice A bs.length cap, .int .i64 0, .int .i64 4] wo fun e w' => e = .returned (.int .i64 ((atN bs 0 4 : Nat) : Int)) ∧ wo = w') := Lib.hid (at_any A cap B bs 0 4 wo hr hc hm (by omega) (by omega))
  have l0 := atN_lt bs hby 0 4 (by omega) (by omega)
  have H4 : Hid (Calls Try.prog 35 #[.slice A bs.length cap, .int .i64 4, .int .i64 4] wo fun e w' => e = .returned (.int .i64 ((atN bs 4 4 : Nat) : Int)) ∧ wo = w') := Lib.hid (at_any A cap B bs 4 4 wo hr hc hm (by omega) (by omega))
  have l4 := atN_lt bs hby 4 4 (by omega) (by omega)
  have H10 : Hid (Calls Try.prog 35 #[.slice A bs.length cap, .int .i64 10, .int .i64 4] wo fun e w' => e = .returned (.int .i64 ((atN bs 10 4 : Nat) : Int)) ∧ wo = w') := Lib.hid (at_any A cap B bs 10 4 wo hr hc hm (by omega) (by omega))
  have l10 := atN_lt bs hby 10 4 (by omega) (by omega)
  have H14 : Hid (Calls Try.prog 35 #[.slice A bs.length cap, .int .i64 14, .int .i64 4] wo fun e w' => e = .returned (.int .i64 ((atN bs 14 4 : Nat) : Int)) ∧ wo = w') := Lib.hid (at_any A cap B bs 14 4 wo hr hc hm (by omega) (by omega))
  have l14 := atN_lt bs hby 14 4 (by omega) (by omega)
  have H18 : Hid (Calls Try.prog 35 #[.slice A bs.length cap, .int .i64 18, .int .i64 4] wo fun e w' => e = .returned (.int .i64 ((atN bs 18 4 : Nat) : Int)) ∧ wo = w') := Lib.hid (at_any A cap B bs 18 4 wo hr hc hm (by omega) (by omega))
  have l18 := atN_lt bs hby 18 4 (by omega) (by omega)
  have H22 : Hid (Calls Try.prog 35 #[.slice A bs.length cap, .int .i64 22, .int .i64 4] wo fun e w' => e = .returned (.int .i64 ((atN bs 22 4 : Nat) : Int)) ∧ wo = w') := Lib.hid (at_any A cap B bs 22 4 wo hr hc hm (by omega) (by omega))
  have l22 := atN_lt bs hby 22 4 (by omega) (by omega)
  have H8 : Hid (Calls Try.prog 35 #[.slice A bs.length cap, .int .i64 8, .int .i64 2] wo fun e w' => e = .returned (.int .i64 ((atN bs 8 2 : Nat) : Int)) ∧ wo = w') := Lib.hid (at_any A cap B bs 8 2 wo hr hc hm (by omega) (by omega))
  have l8 := atN_lt bs hby 8 2 (by omega) (by omega)
  have hC : linkC bs = ⟨true, (atN bs 0 4 : Nat), (atN bs 4 4 : Nat), (atN bs 10 4 : Nat) - 1, (atN bs 18 4 : Nat) - 1, (atN bs 14 4 : Nat) - 1, (atN bs 22 4 : Nat) - 1, (atN bs 8 2 : Nat), (atN bs 26 4 : Nat) - 1⟩ := rfl
  rw [hC]
  simp only
  obtain ⟨a0, ha0⟩ : ∃ a, a = atN bs 0 4 := ⟨_, rfl⟩
  rw [← ha0] at H0 l0 ⊢
  obtain ⟨a4, ha4⟩ : ∃ a, a = atN bs 4 4 := ⟨_, rfl⟩
  rw [← ha4] at H4 l4 ⊢
  obtain ⟨a10, ha10⟩ : ∃ a, a = atN bs 10 4 := ⟨_, rfl⟩
  rw [← ha10] at H10 l10 ⊢
  obtain ⟨a14, ha14⟩ : ∃ a, a = atN bs 14 4 := ⟨_, rfl⟩
  rw [← ha14] at H14 l14 ⊢
  obtain ⟨a18, ha18⟩ : ∃ a, a = atN bs 18 4 := ⟨_, rfl⟩
  rw [← ha18] at H18 l18 ⊢
  obtain ⟨a22, ha22⟩ : ∃ a, a = atN bs 22 4 := ⟨_, rfl⟩
  rw [← ha22] at H22 l22 ⊢
  obtain ⟨a8, ha8⟩ : ∃ a, a = atN bs 8 2 := ⟨_, rfl⟩
  rw [← ha8] at H8 l8 ⊢
  obtain ⟨z10, hz10⟩ : ∃ z, z = (a10 : Int) - 1 := ⟨_, rfl⟩
  have s10 : wrap64 ((a10 : Int) - 1) = z10 := (sub_one l10).trans hz10.symm
  rw [← hz10]
  clear hz10
  obtain ⟨z14, hz14⟩ : ∃ z, z = (a14 : Int) - 1 := ⟨_, rfl⟩
  have s14 : wrap64 ((a14 : Int) - 1) = z14 := (sub_one l14).trans hz14.symm
  rw [← hz14]
  clear hz14
  obtain ⟨z18, hz18⟩ : ∃ z, z = (a18 : Int) - 1 := ⟨_, rfl⟩
  have s18 : wrap64 ((a18 : Int) - 1) = z18 := (sub_one l18).trans hz18.symm
  rw [← hz18]
  clear hz18
  obtain ⟨z22, hz22⟩ : ∃ z, z = (a22 : Int) - 1 := ⟨_, rfl⟩
  have s22 : wrap64 ((a22 : Int) - 1) = z22 := (sub_one l22).trans hz22.symm
  rw [← hz22]
  clear hz22
  have h9 := Lib.hid (h0.setRow #[.bool true, .int .i64 (a0 : Int), .int .i64 (a4 : Int), .int .i64 z10, .int .i64 z18, .int .i64 z14, .int .i64 z22])
  have hr0 := h0.blk
  have hi0 : (Try.prog.info? 42).map (·.size) = some 7 := by kernel_rfl
  have oy : (#[.bool true, .int .i64 (a0 : Int), .int .i64 (a4 : Int), .int .i64 z10, .int .i64 z18, .int .i64 z14, .int .i64 z22] : Array Value).all (·.oneCell') = true := by rw [← Array.all_toList]; rfl
  have Hwo := Lib.hid hwo
  clear hC hwo h0 h hr hby ha0 l0 ha4 l4 ha10 l10 ha14 l14 ha18 l18 ha22 l22 ha8 l8
  have c0 := hl
  go_enter Try.func42, Try.ntmps42
  go_upto_region 1 with fail
  rw [← Hwo.out]
  go_wp2_with (first | (go_at_call 35; with_reducible refine (H0.out).mono ?_; rintro e w1 ⟨rfl, rfl⟩) | (go_at_call 35; with_reducible refine (H4.out).mono ?_; rintro e w1 ⟨rfl, rfl⟩) | (go_at_call 35; with_reducible refine (H10.out).mono ?_; rintro e w1 ⟨rfl, rfl⟩) | (go_at_call 35; with_reducible refine (H14.out).mono ?_; rintro e w1 ⟨rfl, rfl⟩) | (go_at_call 35; with_reducible refine (H18.out).mono ?_; rintro e w1 ⟨rfl, rfl⟩) | (go_at_call 35; with_reducible refine (H22.out).mono ?_; rintro e w1 ⟨rfl, rfl⟩) | (go_at_call 35; with_reducible refine (H8.out).mono ?_; rintro e w1 ⟨rfl, rfl⟩) | (refine wpList_store_row rfl 42 _ _ rfl w.heap.size #[.bool true, .int .i64 (a0 : Int), .int .i64 (a4 : Int), .int .i64 z10, .int .i64 z18, .int .i64 z14, .int .i64 z22] rfl rfl 42 #[.bool false, .int .i64 0, .int .i64 0, .int .i64 0, .int .i64 0, .int .i64 0, .int .i64 0] hr0 hi0 rfl oy ?_))
  refine bodyPost_ret (results_row_tmp rfl _ _ w.heap.size 42 #[.bool true, .int .i64 (a0 : Int), .int .i64 (a4 : Int), .int .i64 z10, .int .i64 z18, .int .i64 z14, .int .i64 z22] _ rfl h9.out.blk Try.underlying42 rfl (by kernel_rfl)) rfl ?_
  exact ⟨rfl, h9.out.bel⟩
end Go.Proofs.Ytpoaokkmmoeekaa

/- Bytes cut into numbers: pure. -/
namespace Go.Proofs.Ytpoaokkmmoeekaa
open Go.RowKit
set_option linter.unusedVariables false

theorem enc_add (d a n : Nat) : enc d (a * 256 ^ d + n) = enc d n := by
  apply List.ext_getElem
  · rw [enc_length, enc_length]
  · intro k h1 h2
    rw [enc_length] at h1
    have g : ∀ m, (enc d m)[k]'(by rw [enc_length]; exact h1) = m / 256 ^ (d - 1 - k) % 256 := fun m => by rw [← nth_lt, enc_nth d m k h1]
    rw [g, g]
    have e : a * 256 ^ d = (a * 256 ^ k * 256) * 256 ^ (d - 1 - k) := by
      rw [Nat.mul_assoc (a * 256 ^ k), show 256 * 256 ^ (d - 1 - k) = 256 ^ (d - k) from by rw [show d - k = (d - 1 - k) + 1 from by omega, Nat.pow_succ, Nat.mul_comm], Nat.mul_assoc, ← Nat.pow_add, show k + (d - k) = d from by omega]
    rw [e, Nat.add_comm, Nat.add_mul_div_right _ _ (Nat.pow_pos (by omega)), Nat.add_mul_mod_self_right]
theorem enc_be (l : List Nat) (hb : IsBytes l) : enc l.length (be l) = l := by
  induction l with
  | nil => rfl
  | cons c r ih =>
    have hr : IsBytes r := fun x hx => hb x (List.mem_cons_of_mem _ hx)
    have hc : c < 256 := hb c (List.mem_cons_self ..)
    have h1 : enc (r.length + 1) (be (c :: r)) = be (c :: r) / 256 ^ r.length % 256 :: enc r.length (be (c :: r)) := by
      have := enc_split (r.length + 1) (be (c :: r)) 0 (by omega)
      rw [List.drop_zero, enc_drop _ _ _ (by omega)] at this
      exact this
    have hlt := be_all r hr
    rw [List.length_cons, h1, be_cons, enc_add, ih hr]
    congr 1
    rw [Nat.add_comm, Nat.add_mul_div_right _ _ (Nat.pow_pos (by omega)), Nat.div_eq_of_lt hlt]
    omega
theorem putNum_at (bs : List Nat) (hb : IsBytes bs) (f d : Nat) (hd : d = 1 ∨ d = 2 ∨ d = 4 ∨ d = 8) (h : f + d ≤ bs.length) : putNum (d : Int) (atN bs f d) = (bs.take (f + d)).drop f := by
  have hw : isW (d : Int) = true := by rcases hd with rfl | rfl | rfl | rfl <;> rfl
  have hl : ((bs.take (f + d)).drop f).length = d := by simp; omega
  have := enc_be ((bs.take (f + d)).drop f) ((hb.take _).drop _)
  rw [hl] at this
  rw [putNum_yes hw, Int.toNat_natCast]
  exact this
theorem cut_step (bs : List Nat) (hb : IsBytes bs) (f d : Nat) (hd : d = 1 ∨ d = 2 ∨ d = 4 ∨ d = 8) (h : f + d ≤ bs.length) : bs.drop f = putNum (d : Int) (atN bs f d) ++ bs.drop (f + d) := by
  rw [putNum_at bs hb f d hd h]
  have e : (bs.take (f + d)).drop f = (bs.drop f).take d := by rw [List.drop_take]; congr 1; omega
  rw [e, ← List.drop_drop, List.take_append_drop]
theorem out_low (d n : Nat) (hd : d = 1 ∨ d = 2 ∨ d = 4) (least : Int) (hl : least = 0 ∨ least = -1) (hn : n < 256 ^ d) : fOut (lowN d n) least = least + n := by
  unfold fOut lowN
  rw [Nat.mod_eq_of_lt hn, wrap64_eq, wrap64_eq]
  have h4 : n < 4294967296 := by
    rcases hd with rfl | rfl | rfl
    · have : (256 : Nat) ^ 1 = 256 := rfl
      omega
    · have : (256 : Nat) ^ 2 = 65536 := rfl
      omega
    · have : (256 : Nat) ^ 4 = 4294967296 := rfl
      omega
  rcases hl with rfl | rfl <;> omega
theorem atN_pow (bs : List Nat) (hb : IsBytes bs) (f d : Nat) (h : f + d ≤ bs.length) : atN bs f d < 256 ^ d := by
  unfold atN
  have h1 := be_all ((bs.take (f + d)).drop f) ((hb.take _).drop _)
  have h2 : ((bs.take (f + d)).drop f).length = d := by simp; omega
  rwa [h2] at h1
theorem fIn_nat (n : Nat) (hn : n < 4294967296) : fIn (n : Int) 0 = n := by
  unfold fIn
  rw [wrapU64, wrap64_eq]
  omega
theorem fIn_pred (n : Nat) (hn : n < 4294967296) : fIn ((n : Int) - 1) (-1) = n := by
  unfold fIn
  rw [wrapU64, wrap64_eq]
  omega

/-! ### The whole length -/
/-- k bytes are left, and nothing went wrong -/
def Cs.left (s : Cs) (k : Nat) : Prop := match s with
  | .w _ => False
  | .r bs err => err = 0 ∧ bs.length = k
theorem aft_left (s : Cs) (hs : s.isw = false) (d : Nat) (hd : d = 1 ∨ d = 2 ∨ d = 4 ∨ d = 8) (n k : Nat) : (s.aft (d : Int) n).left k ↔ s.left (k + d) := by
  have hw : isW (d : Int) = true := by rcases hd with rfl | rfl | rfl | rfl <;> rfl
  cases s with
  | w bs => cases hs
  | r bs err =>
    unfold Cs.aft Cs.left
    simp only
    by_cases h : d ≤ bs.length
    · have h0 : placeErr bs.length 0 (d : Int) = 0 := placeErr_ok (by rw [hw]; simp) (by omega)
      rw [h0, restOf_ok rfl, errBy_ok rfl, Int.toNat_natCast, List.length_drop]
      constructor
      · rintro ⟨h1, h2⟩; exact ⟨h1, by omega⟩
      · rintro ⟨h1, h2⟩; exact ⟨h1, by omega⟩
    · have h0 : placeErr bs.length 0 (d : Int) = 10 := placeErr_short (by rw [hw]; simp) (by omega)
      rw [h0]
      constructor
      · rintro ⟨h1, h2⟩
        exfalso
        unfold errBy errOf at h1
        rw [if_neg (by decide)] at h1
        by_cases he : err = 0
        · rw [if_pos he] at h1; cases h1
        · rw [if_neg he] at h1; exact he h1
      · rintro ⟨h1, h2⟩; omega
theorem fld_left (q : Cs × Bool) (hs : q.1.isw = false) (d : Nat) (hd : d = 1 ∨ d = 2 ∨ d = 4 ∨ d = 8) (least limit z : Int) (k : Nat) : (fld q (d : Int) least limit z).1.left k ↔ q.1.left (k + d) := aft_left q.1 hs d hd _ k
theorem endE_left (s : Cs) (hs : s.isw = false) (wr : Bool) (h : ¬ s.left 0) : s.endE wr = 4 := by
  cases s with
  | w bs => cases hs
  | r bs err =>
    have e : endOf bs.length err ≠ 0 := by
      by_cases he : err = 0
      · have hn : 0 < bs.length := by
          rcases Nat.eq_zero_or_pos bs.length with h0 | h0
          · exact absurd (show (Cs.r bs err).left 0 from ⟨he, h0⟩) h
          · exact h0
        rw [endOf_yes ⟨he, hn⟩]
        decide
      · rw [endOf_no (fun h => he h.1)]
        exact he
    unfold Cs.endE
    simp only
    rw [if_neg e]
end Go.Proofs.Ytpoaokkmmoeekaa

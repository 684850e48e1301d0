/- recfile: Bytes. -/
import Derived.Test.YtcclcecjidlojaaDoorRf6
import Derived.Test.YtcclcecjidlojaaDoorCrc
import Derived.Test.YtcclcecjidlojaaDoorStr
namespace Go.Proofs.YtcclcecjidlojaaDoor
open Go.RowKit
set_option linter.unusedVariables false
section
variable {S0 : Fp} {l : List Ass} {w0 w : World} {g : Nat} {K V S : Int} {R : List Nat} {lv lo : Int}

def srec : ByteArray := ⟨#[83, 82, 69, 67]⟩
theorem srec_bytes : strBytes srec = [83, 82, 69, 67] := by decide
def rfHead (k v s n : Nat) : List Nat := [83, 82, 69, 67] ++ enc 1 k ++ enc 1 v ++ enc 2 s ++ enc 4 n
def rfBytes (k v s n : Nat) (R : List Nat) : List Nat := rfHead k v s n ++ enc 4 (crc (rfHead k v s n)) ++ R
theorem putNum_enc {d n : Nat} (h : d = 1 ∨ d = 2 ∨ d = 4 ∨ d = 8) : putNum (d : Int) n = enc d n := by
  rw [putNum_yes (isW_yes (by omega)), Int.toNat_natCast]
theorem rfHead_len (k v s n : Nat) : (rfHead k v s n).length = 12 := by
  unfold rfHead
  simp only [List.length_append, enc_length, List.length_cons, List.length_nil]
theorem rfHead_is {k v s n : Nat} (hk : k < 256) (hv : v < 256) (hs : s ≤ 255) : IsBytes (rfHead k v s n) := by
  unfold rfHead
  exact ((((show IsBytes [83, 82, 69, 67] from by unfold IsBytes; decide).append (enc_bytes _ _)).append (enc_bytes _ _)).append (enc_bytes _ _)).append (enc_bytes _ _)
theorem wrote_bel {N gw : Nat} {w w1 w2 : World} {v : Value} {bs : List Nat} (hb : Below N w w1) (hN : N ≤ w1.heap.size) (h : Wr w1 N gw v bs) (ho : Only (wfp gw v) w1 w2) : Below N w w2 :=
  hb.trans (ho.below hN fun k hk hS => (h.lt k hS).1)
/-- a Writer that the call made, above all that there was -/
def WS (N : Nat) (w w1 : World) (v : Value) (bs : List Nat) : Prop := Wr w1 N N v bs ∧ Below N w w1
theorem WS.size {N : Nat} {w w1 : World} {v : Value} {bs : List Nat} (h : WS N w w1 v bs) : N < w1.heap.size := (h.1.lt N (.inl rfl)).2
theorem WS.drewN {N : Nat} {w w1 : World} {v : Value} {bs : List Nat} (h : WS N w w1 v bs) (q : Nat) : WS N w (w1.drewN q) v bs :=
  ⟨h.1.below (below_of_drewN _ _), below_drewN h.2 q⟩
theorem ws_step {N : Nat} {w w1 w2 : World} {v : Value} {bs bs2 : List Nat} {e : Ending} (h : WS N w w1 v bs) (hw : Wrote N N v bs2 w1 e w2) : e = .returned (.tuple #[]) ∧ ∃ v', WS N w w2 v' bs2 := by
  obtain ⟨he, v', h1, h2, _⟩ := hw
  exact ⟨he, v', h1, wrote_bel h.2 (Nat.le_of_lt h.size) h.1 h2⟩
theorem ws_new (w : World) : WS w.heap.size w (w.alloc (.cells #[.slice none 0 0] 94)) (.slice none 0 0) [] :=
  ⟨⟨Blk.new _ _ _, Nat.le_refl _, OB.nil _ _ _⟩, (Below.refl _ _).alloc (Nat.le_refl _) _⟩
set_option maxRecDepth 100000 in
set_option maxHeartbeats 1000000 in
theorem rfBytes_any [Stable (Sep l)] {k v s n : Nat} (h : St S0 (RfA g (k : Int) (v : Int) (s : Int) R lv lo :: l) w0 w) (hs : 2 ≤ s) (hs2 : s ≤ 255) (hR : R.length = n * s) (hn : n ≤ 65536) (hk : k < 256) (hv : v < 256) (hT : TabW w) :
    Calls Tryd.prog 16 #[.pointer (some ⟨g, 0, none⟩)] w fun e w' => ∃ x, e = .returned x ∧ St S0 (ObA 5 x (rfBytes k v s n R) :: RfA g (k : Int) (v : Int) (s : Int) R lv lo :: l) w0 w' := by
  have hRm := rf_big hR hn hs2
  obtain ⟨N, hN⟩ : ∃ N, N = w.heap.size := ⟨_, rfl⟩
  have hfacts : ∀ w', Below N w w' → ∃ A cap, RfR w' g (s : Int) A cap R lv lo ∧ w'.cell? ⟨g, 0, none⟩ = some (.int .i64 (k : Int)) ∧ w'.cell? ⟨g, 1, none⟩ = some (.int .i64 (v : Int)) ∧ TabW w' := fun w' hb => by
    rw [hN] at hb
    have h' := h.below hb
    obtain ⟨A, cap, hr⟩ := rf_read h'
    obtain ⟨x, h1⟩ := rf_open h'
    obtain ⟨c0, c1, -⟩ := rf_cells h1
    exact ⟨A, cap, hr, c0, c1, hT.below hb hT.1⟩
  have u1 : IntKind.u64.wrap (k : Int) = (k : Int) := by rw [IntKind.wrap_u64]; omega
  have u2 : IntKind.u64.wrap (v : Int) = (v : Int) := by rw [IntKind.wrap_u64]; omega
  have u3 : IntKind.u64.wrap (s : Int) = (s : Int) := by rw [IntKind.wrap_u64]; omega
  have u4 : IntKind.u64.wrap (n : Int) = (n : Int) := by rw [IntKind.wrap_u64]; omega
  have hcl : crc (rfHead k v s n) < 4294967296 := crc_lt (rfHead_is hk hv hs2)
  obtain ⟨y, hy⟩ : ∃ y, y = crc (rfHead k v s n) := ⟨_, rfl⟩
  rw [← hy] at hcl
  have u5 : IntKind.u64.wrap (y : Int) = (y : Int) := by rw [IntKind.wrap_u64]; omega
  have HFC := Lib.hid hfacts
  have HH := Lib.hid h
  have HY := Lib.hid hy
  have HN := Lib.hid hN
  have HC := Lib.hid fun (w' : World) (A : Option Addr) (cap : Nat) (h' : RfR w' g (s : Int) A cap R lv lo) => rfCount_any h' (by omega) hR (by omega)
  have HNum := Lib.hid fun (w1 : World) (x : Value) (bs : List Nat) (d m : Nat) (h1 : WS N w w1 x bs) (hl : bs.length ≤ 1000) (hm : m < 18446744073709551616) => (WNum_any N N x bs (d : Int) m w1 h1.1 hm (by omega)).mono fun e w2 h2 => ws_step h1 h2
  have HRM : Hid ((rfHead k v s n ++ enc 4 y).length + R.length ≤ 140737488355328) := Lib.hid (by rw [List.length_append, rfHead_len, enc_length]; omega)
  have HK : Hid (k < 18446744073709551616 ∧ v < 18446744073709551616 ∧ s < 18446744073709551616 ∧ n < 18446744073709551616 ∧ y < 18446744073709551616) := Lib.hid (by omega)
  clear h hs hs2 hR hn hk hv hT hRm hfacts hcl hy
  have hws := ws_new w
  rw [← hN] at hws
  obtain ⟨w1, hw1⟩ : ∃ q, q = w.alloc (.cells #[.slice none 0 0] 94) := ⟨_, rfl⟩
  rw [← hw1] at hws
  have HWS := Lib.hid hws
  have HW1 := Lib.hid hw1
  clear hws hN hw1
  go_enter Tryd.func16, Tryd.ntmps16
  go_upto_region 3 with (first
    | (go_at_call 40; refine (NewWriter_any _).mono ?_; rintro e w2 ⟨rfl, hw2⟩; obtain rfl : w2 = w1 := (by rw [← hw2, HW1.out]); rw [← HN.out]; clear hw2)
    | (go_at_call 41; refine (Str_any N N _ [] srec _ HWS.out.1 (by decide)).mono ?_; rintro e w3 hw3; obtain ⟨rfl, x3, h3⟩ := ws_step HWS.out hw3; rw [srec_bytes, List.nil_append] at h3; have H3 := Lib.hid h3; clear hw3 h3))
  obtain ⟨A3, p3, r3, c30, c31, -⟩ := HFC.out w3 H3.out.2
  obtain ⟨c32, c33, -⟩ := r3
  go_upto_region 4 with (go_at_call 42; refine (HNum.out w3 x3 _ 1 k H3.out (by simp) HK.out.1).mono ?_; rintro e w4 ⟨rfl, x4, h4⟩; rw [putNum_enc (by decide)] at h4; have H4 := Lib.hid h4; clear h4)
  clear c30 c31 c32 c33 H3
  obtain ⟨A4, p4, r4, c40, c41, -⟩ := HFC.out w4 H4.out.2
  obtain ⟨c42, c43, -⟩ := r4
  go_upto_region 5 with (go_at_call 42; refine (HNum.out w4 x4 _ 1 v H4.out (by simp [enc_length]) HK.out.2.1).mono ?_; rintro e w5 ⟨rfl, x5, h5⟩; rw [putNum_enc (by decide)] at h5; have H5 := Lib.hid h5; clear h5)
  clear c40 c41 c42 c43 H4
  obtain ⟨A5, p5, r5, c50, c51, -⟩ := HFC.out w5 H5.out.2
  obtain ⟨c52, c53, -⟩ := r5
  go_upto_region 6 with (go_at_call 42; refine (HNum.out w5 x5 _ 2 s H5.out (by simp [enc_length]) HK.out.2.2.1).mono ?_; rintro e w6 ⟨rfl, x6, h6⟩; rw [putNum_enc (by decide)] at h6; have H6 := Lib.hid h6; clear h6)
  clear c50 c51 c52 c53 H5
  obtain ⟨A6, p6, r6, c60, c61, -⟩ := HFC.out w6 H6.out.2
  have R6 := Lib.hid r6
  clear r6 c60 c61
  go_upto_region 7 with (first
    | (go_at_call 26; refine (HC.out w6 A6 p6 R6.out).mono ?_; rintro e w7 ⟨rfl, q7, hw7⟩; have h7 := H6.out.drewN q7; rw [← hw7] at h7; have H7 := Lib.hid h7; clear hw7 h7)
    | (go_at_call 42; refine (HNum.out w7 x6 _ 4 n H7.out (by simp [enc_length]) HK.out.2.2.2.1).mono ?_; rintro e w8 ⟨rfl, x8, h8⟩; rw [putNum_enc (by decide)] at h8; have H8 := Lib.hid h8; clear h8))
  clear H6 H7 R6
  have h8 : WS N w w8 x8 (rfHead k v s n) := H8.out
  have H8' := Lib.hid h8
  clear h8 H8
  go_upto_region 8 with (first
    | (go_at_call 44; refine (Bytes_any N N x8 _ w8 H8'.out.1 (by rw [rfHead_len]; decide)).mono ?_; rintro e w9 ⟨v9, rfl, ho9, hb9⟩; have h9 : WS N w w9 x8 (rfHead k v s n) := ⟨H8'.out.1.below hb9, H8'.out.2.trans (hb9.mono (Nat.le_of_lt H8'.out.size))⟩; obtain ⟨A9, c9, rfl, -, -, hr9, -⟩ := ho9.form; have t9 := (HFC.out w9 h9.2); obtain ⟨_, _, _, _, _, t9⟩ := t9; have H9 := Lib.hid h9; have HR9 := Lib.hid hr9; have HT9 := Lib.hid t9; clear h9 ho9 hb9 hr9 t9)
    | (go_at_call 43; refine (Sum_any A9 c9 w9.heap.size _ w9 HT9.out HR9.out (by rw [rfHead_len]; decide)).mono ?_; rintro e w10 ⟨rfl, rfl⟩; rw [← HY.out])
    | (go_at_call 42; refine (HNum.out w9 x8 _ 4 y H9.out (by rw [rfHead_len]; decide) HK.out.2.2.2.2).mono ?_; rintro e w11 ⟨rfl, x11, h11⟩; rw [putNum_enc (by decide)] at h11; have H11 := Lib.hid h11; clear h11))
  obtain ⟨A11, p11, r11, -, -, -⟩ := HFC.out w11 H11.out.2
  obtain ⟨d2, d3, d4, d5, d6, -⟩ := r11
  have HRB := Lib.hid d6
  obtain ⟨F, hF⟩ : ∃ F, F = rfHead k v s n ++ enc 4 y ++ R := ⟨_, rfl⟩
  have HF := Lib.hid hF
  clear hF
  clear d2 d4 d5 d6 H8' H9 HR9 HT9
  go_wp2_with (first
    | (go_at_call 45; refine (Raw_any N N x11 _ A11 p11 w11.heap.size R w11 H11.out.1 HRB.out HRM.out).mono ?_; rintro e w12 hw12; obtain ⟨rfl, x12, h12⟩ := ws_step H11.out hw12; rw [← HF.out] at h12; have H12 := Lib.hid h12; clear hw12 h12)
    | (go_at_call 44; refine (Bytes_any N N x12 F w12 H12.out.1 (by rw [HF.out, List.length_append]; exact HRM.out)).mono ?_; rintro e w13 ⟨v13, rfl, ho13, hb13⟩; have hbb : Below N w w13 := H12.out.2.trans (hb13.mono (Nat.le_of_lt H12.out.size)); have ho : OB w13 N 5 v13 F := ho13.mono (Nat.le_of_lt H12.out.size); obtain ⟨A13, c13, rfl, -, -, -, -⟩ := ho13.form; have HB13 := Lib.hid hbb; have HO13 := Lib.hid ho; clear ho13 hb13 hbb ho))
  go_ret
  have h1 := HB13.out
  have h2 := HO13.out
  rw [HN.out] at h1 h2
  have h3 := HH.out.newOb h2 h1
  have hF : F = rfBytes k v s n R := by rw [HF.out, HY.out]; rfl
  rw [← hF]
  exact ⟨_, rfl, h3⟩
end
end Go.Proofs.YtcclcecjidlojaaDoor

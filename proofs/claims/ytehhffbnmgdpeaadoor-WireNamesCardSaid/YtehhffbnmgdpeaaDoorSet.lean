/- Contracts of the functions that write numbers into bytes. -/
import Derived.Test.YtehhffbnmgdpeaaDoorRef
namespace Go.Proofs.YtehhffbnmgdpeaaDoor
open Go.RowKit
set_option linter.unusedVariables false

/-- the bytes of n in d bytes, the greatest first -/
def enc : Nat → Nat → List Nat
  | 0, _ => []
  | d + 1, n => n / 256 ^ d % 256 :: enc d n
theorem enc_length (d n : Nat) : (enc d n).length = d := by
  induction d with
  | zero => rfl
  | succ d ih => simp [enc, ih]
theorem enc_bytes (d n : Nat) : IsBytes (enc d n) := by
  induction d with
  | zero => exact IsBytes.nil
  | succ d ih =>
    intro x hx
    simp only [enc, List.mem_cons] at hx
    rcases hx with rfl | h
    · omega
    · exact ih x h
theorem enc_drop (d n k : Nat) (h : k ≤ d) : (enc d n).drop k = enc (d - k) n := by
  induction k generalizing d with
  | zero => simp
  | succ k ih =>
    obtain ⟨d', rfl⟩ : ∃ d', d = d' + 1 := ⟨d - 1, by omega⟩
    simp only [enc, List.drop_succ_cons]
    rw [ih d' (by omega)]
    congr 1
    omega
theorem enc_nth (d n k : Nat) (h : k < d) : nth (enc d n) k = n / 256 ^ (d - 1 - k) % 256 := by
  have h1 := enc_drop d n k (by omega)
  rw [drop_nth _ _ (by rw [enc_length]; exact h)] at h1
  obtain ⟨d', hd⟩ : ∃ d', d - k = d' + 1 := ⟨d - k - 1, by omega⟩
  rw [hd] at h1
  simp only [enc, List.cons.injEq] at h1
  rw [h1.1, show d - 1 - k = d' from by omega]
theorem be_enc (d n : Nat) : be (enc d n) = n % 256 ^ d := by
  induction d with
  | zero => simp [enc, be, beFrom, Nat.mod_one]
  | succ d ih =>
    simp only [enc]
    rw [be_cons, ih, enc_length, Nat.pow_succ, Nat.mod_mul, Nat.mul_comm]
    omega

/-- what appends to v make: a row that holds bs -/
def Apps (base : Nat) (v : Value) (bs : List Nat) (w : World) (e : Ending) (w' : World) : Prop := ∃ v', e = .returned v' ∧ OB w' base 5 v' bs ∧ Grew w w' v v'

theorem shr_byte (n d i : Nat) (hn : n < 18446744073709551616) (hd : d ≤ 8) (hi : i < d) : n / 2 ^ (8 * i) % 256 = nth (enc d n) (d - 1 - i) := by
  rw [enc_nth d n _ (by omega), show d - 1 - (d - 1 - i) = i from by omega, Nat.pow_mul]

set_option maxHeartbeats 400000 in
theorem appendNum_any (base : Nat) (v : Value) (bs : List Nat) (d n : Nat) (w : World) (h : OB w base 5 v bs) (hB : base ≤ w.heap.size) (hl : bs.length + 8 ≤ 140737488355328) (hd : d ≤ 8) (hn : n < 18446744073709551616) :
    Calls Tryd.prog 12 #[v, .int .i64 d, .int .u64 n] w (Apps base v (bs ++ enc d n) w) := by
  obtain ⟨i0, hi, hz0, hz1, hz2⟩ := info_parts u8_info
  go_enter Tryd.func12, Tryd.ntmps12
  go_wp2
  go_loopw [0, 7] (fun u i wr => ∃ k : Nat, k ≤ d ∧ i = .int .i64 ((k : Int) - 1) ∧ OB wr base 5 u (bs ++ (enc d n).take (d - k)) ∧ Grew w wr v u) (fun _ i _ => (intOf i + 1).toNat)
  case atStart => 
    refine ⟨d, Nat.le_refl _, rfl, ?_, Grew.refl _ _⟩
    rw [Nat.sub_self]; simpa using h
  case round =>
    obtain ⟨k, hk, rfl, hown, hg⟩ := hrel
    have hs := hg.1.size
    by_cases hlt : 0 < k
    · obtain ⟨i, rfl⟩ : ∃ i, k = i + 1 := ⟨k - 1, by omega⟩
      have hb := shr_byte n d i hn hd (by omega)
      have hlt2 : nth (enc d n) (d - 1 - i) < 256 := (enc_bytes d n).nth _
      have hq : ((n : Int) / 2 ^ (8 * i) % 256) = ((nth (enc d n) (d - 1 - i) : Nat) : Int) := by rw [← hb]; simp
      have hlen : (bs ++ (enc d n).take (d - (i + 1))).length + 1 ≤ 140737488355328 := by simp [enc_length]; omega
      have htk := take_succ_nth (enc d n) (d - 1 - i) (by rw [enc_length]; omega)
      have Hq := Lib.hid hq
      have Htk := Lib.hid htk
      have Hb := Lib.hid hb
      clear hq htk hb
      go_wp2_with (at_builtin; refine wpList_append_lit8 _ rfl _ _ 28 rfl base 5 i0 Tryd.underlying28 hi hz0 hz1 hz2 _ _ _ (by rfl) hown (by rfl) _ Hq.out hlt2 hlen (by omega) ?_; intro v1 w1 hown1 hg1 hat1)
      have hg2 := hg.trans (Grew.of hg1 hat1 (Nat.le_succ _))
      go_roundw
      case rel => exact ⟨i, by omega, rfl, by rw [show d - i = d - 1 - i + 1 from by omega, Htk.out, ← List.append_assoc]; rw [show d - (i + 1) = d - 1 - i from by omega] at hown1; exact hown1, hg2⟩
      case measure => simp [intOf]
    · obtain rfl : k = 0 := by omega
      go_wp2
      go_ret
      exact ⟨_, rfl, by rw [List.take_of_length_le (by rw [enc_length]; omega)] at hown; exact hown, hg⟩

/-- b with n laid into it -/
def setVal (bs : List Nat) (at_ width : Int) (n : Nat) : List Nat :=
  if placeErr bs.length at_ width = 0 then bs.take at_.toNat ++ enc width.toNat n ++ bs.drop (at_.toNat + width.toNat) else []
theorem setVal_err {bs : List Nat} {at_ width : Int} {n : Nat} (h : placeErr bs.length at_ width ≠ 0) : setVal bs at_ width n = [] := if_neg h
theorem setVal_ok {bs : List Nat} {at_ width : Int} {n : Nat} (h : placeErr bs.length at_ width = 0) : setVal bs at_ width n = bs.take at_.toNat ++ enc width.toNat n ++ bs.drop (at_.toNat + width.toNat) := if_pos h

/-- what Set answers -/
def SetPost (bs : List Nat) (at_ width : Int) (n : Nat) (w : World) (e : Ending) (w' : World) : Prop :=
  ∃ v, e = .returned (.tuple #[v, .int .i64 (placeErr bs.length at_ width)]) ∧ OB w' w.heap.size 5 v (setVal bs at_ width n) ∧ Below w.heap.size w w'

set_option maxHeartbeats 400000 in
theorem Set_any (A : Option Addr) (cap B : Nat) (bs : List Nat) (at_ width : Int) (n : Nat) (w : World) (h : RB w B A bs) (hB : B ≤ w.heap.size) (hl : bs.length ≤ 140737488355000) (hcap : bs.length ≤ cap) (hcm : cap ≤ maxLen)
    (ha : -9223372036854775808 ≤ at_) (hw : at_ ≤ 9223372036854775807) (hn : n < 18446744073709551616) :
    Calls Tryd.prog 7 #[.slice A bs.length cap, .int .i64 at_, .int .i64 width, .int .u64 n] w (SetPost bs at_ width n w) := by
  obtain ⟨i0, hi, hz0, hz1, hz2⟩ := info_parts u8_info
  have hlm : bs.length ≤ maxLen := by unfold maxLen; omega
  by_cases h0 : placeErr bs.length at_ width = 0
  · obtain ⟨hwd, hat, hsum⟩ := placeErr_zero h0
    obtain ⟨a, rfl⟩ := Int.eq_ofNat_of_zero_le hat
    obtain ⟨d, rfl⟩ : ∃ d : Nat, width = d := ⟨width.toNat, by omega⟩
    have hd : 1 ≤ d ∧ d ≤ 8 := by omega
    have hcp := checkPlace_any A bs.length cap (a : Int) (d : Int) w hlm ha hw
    rw [h0] at hcp
    have hv := setVal_ok (n := n) h0
    simp only [Int.toNat_natCast] at hv
    have Hv := Lib.hid hv
    have Hcp := Lib.hid hcp
    have H0 := Lib.hid h0
    unfold maxLen at hcm
    clear hcp h0 hwd hv hlm
    obtain ⟨b, off, rfl, _, _⟩ := h.all (by omega)
    have c1 : RB w B (some ⟨b, off, none⟩) (bs.take a) := by
      have := h.cut rfl 0 a (by omega) (by omega)
      simpa using this
    have C1 : Hid (∀ w1, Below w.heap.size w w1 → RB w1 B (some ⟨b, off, none⟩) (bs.take a)) := Lib.hid fun w1 hb => c1.below' hb hB
    have e1 : Hid ((bs.take a).length = a) := Lib.hid (by simp; omega)
    have e2 : Hid ((bs.drop (a + d)).length = bs.length - (a + d)) := Lib.hid (by simp)
    have e3 : (bs.take a).length ≤ a := by simp; omega
    have e4 : (bs.take a ++ enc d n).length ≤ a + d := by simp [enc_length]; omega
    clear c1
    by_cases hce : cap = a + d
    · have C2 : Hid (∀ w1, Below w.heap.size w w1 → RB w1 B (some ⟨b, off, none⟩) (bs.drop (a + d))) := Lib.hid fun w1 hb => by
        rw [List.drop_of_length_le (by omega)]; exact RB.empty _ _ _
      subst hce
      go_enter Tryd.func7, Tryd.ntmps7
      go_wp2_with (first | (go_at_call 10; refine (Hcp.out).mono ?_; rintro e w' ⟨rfl, rfl⟩) | (at_make; refine wpList_make_own _ rfl _ _ 28 rfl w.heap.size 5 i0 (.int .u8 0) 1 Tryd.underlying28 hi hz0 hz1 _ _ _ bs.length (by rfl) (by rfl) (by omega) (by rw [hz2]; omega) (by unfold maxLen; omega) (Nat.le_refl _) ?_; intro w0 hown0 hgrow0; have hb0 : Below w.heap.size w w0 := (Below.refl _ _).grown hgrow0 (Nat.le_refl _) (fun k hk => by cases hk)) | (at_builtin; refine wpList_append_bytes _ rfl (.tmp 22) (.tmp 25) 28 rfl w.heap.size 5 i0 Tryd.underlying28 hi hz0 hz1 hz2 _ [] (by rfl) ⟨IsBytes.nil, hown0⟩ (some ⟨b, off, none⟩) _ B (bs.take a) a e1.out (by rfl) (C1.out _ hb0) (by simp; omega) hb0.size ?_; intro v1 w1 hown1 hg1 hat1; rw [List.nil_append] at hown1; have hb1 : Below w.heap.size w w1 := below_own hb0 hown0 (Nat.le_refl _) hg1 hb0.size) | (go_at_call 12; refine (appendNum_any w.heap.size v1 (bs.take a) d n _ hown1 hb1.size (by omega) (by omega) hn).mono ?_; rintro e w2 ⟨v2, rfl, hown2, hg2⟩; have hb2 : Below w.heap.size w w2 := below_own hb1 hown1.2 (Nat.le_refl _) hg2.1 hb1.size) | (at_builtin; refine wpList_append_bytes _ rfl (.tmp 31) (.tmp 36) 28 rfl w.heap.size 5 i0 Tryd.underlying28 hi hz0 hz1 hz2 v2 _ (by rfl) hown2 (some ⟨b, off, none⟩) _ B (bs.drop (a + d)) (bs.length - (a + d)) e2.out (by rfl) (C2.out _ hb2) (by omega) hb2.size ?_; intro v3 w3 hown3 hg3 hat3; have hb3 : Below w.heap.size w w3 := below_own hb2 hown2.2 (Nat.le_refl _) hg3 hb2.size))
      go_ret2
      exact ⟨v3, ret_two rfl (int_eq H0.out.symm), by rw [Hv.out]; exact hown3, hb3⟩
    · have C2 : Hid (∀ w1, Below w.heap.size w w1 → RB w1 B (some ⟨b, off + (a + d), none⟩) (bs.drop (a + d))) := Lib.hid fun w1 hb => by
        have := h.cut rfl (a + d) bs.length (Nat.le_refl _) (by omega)
        rw [List.take_length] at this
        exact this.below' hb hB
      go_enter Tryd.func7, Tryd.ntmps7
      go_wp2_with (first | (go_at_call 10; refine (Hcp.out).mono ?_; rintro e w' ⟨rfl, rfl⟩) | (at_make; refine wpList_make_own _ rfl _ _ 28 rfl w.heap.size 5 i0 (.int .u8 0) 1 Tryd.underlying28 hi hz0 hz1 _ _ _ bs.length (by rfl) (by rfl) (by omega) (by rw [hz2]; omega) (by unfold maxLen; omega) (Nat.le_refl _) ?_; intro w0 hown0 hgrow0; have hb0 : Below w.heap.size w w0 := (Below.refl _ _).grown hgrow0 (Nat.le_refl _) (fun k hk => by cases hk)) | (at_builtin; refine wpList_append_bytes _ rfl (.tmp 22) (.tmp 25) 28 rfl w.heap.size 5 i0 Tryd.underlying28 hi hz0 hz1 hz2 _ [] (by rfl) ⟨IsBytes.nil, hown0⟩ (some ⟨b, off, none⟩) _ B (bs.take a) a e1.out (by rfl) (C1.out _ hb0) (by simp; omega) hb0.size ?_; intro v1 w1 hown1 hg1 hat1; rw [List.nil_append] at hown1; have hb1 : Below w.heap.size w w1 := below_own hb0 hown0 (Nat.le_refl _) hg1 hb0.size) | (go_at_call 12; refine (appendNum_any w.heap.size v1 (bs.take a) d n _ hown1 hb1.size (by omega) (by omega) hn).mono ?_; rintro e w2 ⟨v2, rfl, hown2, hg2⟩; have hb2 : Below w.heap.size w w2 := below_own hb1 hown1.2 (Nat.le_refl _) hg2.1 hb1.size) | (at_builtin; refine wpList_append_bytes _ rfl (.tmp 31) (.tmp 36) 28 rfl w.heap.size 5 i0 Tryd.underlying28 hi hz0 hz1 hz2 v2 _ (by rfl) hown2 (some ⟨b, off + (a + d), none⟩) _ B (bs.drop (a + d)) (bs.length - (a + d)) e2.out (by rfl) (C2.out _ hb2) (by omega) hb2.size ?_; intro v3 w3 hown3 hg3 hat3; have hb3 : Below w.heap.size w w3 := below_own hb2 hown2.2 (Nat.le_refl _) hg3 hb2.size))
      go_ret2
      exact ⟨v3, ret_two rfl (int_eq H0.out.symm), by rw [Hv.out]; exact hown3, hb3⟩
  · have Hv := Lib.hid (setVal_err (n := n) h0)
    have hb : (placeErr bs.length at_ width != 0) = true := by simpa using h0
    have Hcp := Lib.hid (checkPlace_any A bs.length cap at_ width w hlm ha hw)
    clear h h0
    obtain ⟨p, hp⟩ : ∃ p, p = placeErr bs.length at_ width := ⟨_, rfl⟩
    rw [← hp] at hb Hcp
    have Hp := Lib.hid hp
    clear hp
    go_enter Tryd.func7, Tryd.ntmps7
    go_wp2_with (go_at_call 10; refine (Hcp.out).mono ?_; rintro e w' ⟨rfl, rfl⟩)
    go_ret2
    exact ⟨_, ret_two rfl (int_eq Hp.out), by rw [Hv.out]; exact OB.nil _ _ _, Below.refl _ _⟩

/-! ### speaks -/
theorem sp_get (w : World) : Calls Tryd.prog 6 #[.slice (some ⟨w.heap.size, 0, none⟩) 3 3, .int .i64 1, .int .i64 2] (w.alloc (.cells #[.int .u8 1, .int .u8 2, .int .u8 3] 5))
    fun e w' => e = .returned (.tuple #[.int .u64 515, .int .i64 0]) ∧ w.alloc (.cells #[.int .u8 1, .int .u8 2, .int .u8 3] 5) = w' :=
  Get_any (some ⟨w.heap.size, 0, none⟩) 3 (w.heap.size + 1) [1, 2, 3] 1 2 _ (RB.lit w 5 (by unfold IsBytes; decide) _ rfl) (by decide) (by decide) (by decide) (by decide) (by decide)
theorem sp_set (w : World) (H : Nat) (hH : w.heap.size = H) : Calls Tryd.prog 7 #[.slice (some ⟨H, 0, none⟩) 3 3, .int .i64 0, .int .i64 1, .int .u64 9] (w.alloc (.cells #[.int .u8 1, .int .u8 2, .int .u8 3] 5))
    fun e w' => ∃ A cap, e = .returned (.tuple #[.slice A 3 cap, .int .i64 0]) ∧ RB w' w'.heap.size A [9, 2, 3] ∧ Below w.heap.size w w' := by
  subst hH
  refine (Set_any (some ⟨w.heap.size, 0, none⟩) 3 (w.heap.size + 1) [1, 2, 3] 0 1 9 _ (RB.lit w 5 (by unfold IsBytes; decide) _ rfl) (by simp) (by decide) (by decide) (by decide) (by decide) (by decide) (by decide)).mono ?_
  rintro e w' ⟨v, rfl, hown, hb⟩
  obtain ⟨A, cap, rfl, _, _, hr, _⟩ := hown.form
  exact ⟨A, cap, rfl, hr, ((Below.refl _ _).alloc (Nat.le_refl _) _).trans (hb.mono (by simp))⟩

set_option maxHeartbeats 400000 in
theorem speaks_any (w : World) : Calls Tryd.prog 4 #[] w fun e w' => e = .returned (.bool true) ∧ Below w.heap.size w w' := by
  go_enter Tryd.func4, Tryd.ntmps4
  go_wp2_with fail
  refine (sp_get w).mono ?_
  rintro e w' ⟨rfl, rfl⟩
  go_wp2_with fail
  refine (sp_set _ _ (by simp)).mono ?_
  rintro e w1 ⟨A, cap, rfl, hr, hb⟩
  have hb1 : Below w.heap.size w w1 := ((Below.refl _ _).alloc (Nat.le_refl _) _).trans (hb.mono (by simp))
  go_wp2_with fail
  have hsame := same_any A (some ⟨w1.heap.size, 0, none⟩) cap 3 w1.heap.size (w1.heap.size + 1) [9, 2, 3] [9, 2, 3] (w1.alloc (.cells #[.int .u8 9, .int .u8 2, .int .u8 3] 5)) (hr.alloc (Nat.le_refl _) _) (RB.lit w1 5 (by unfold IsBytes; decide) _ rfl) (by decide) (by decide)
  refine hsame.mono ?_
  rintro e w2 ⟨rfl, n, rfl⟩
  go_wp2_with fail
  go_ret
  exact ⟨rfl, below_drewN (hb1.alloc hb1.size _) n⟩

end Go.Proofs.YtehhffbnmgdpeaaDoor

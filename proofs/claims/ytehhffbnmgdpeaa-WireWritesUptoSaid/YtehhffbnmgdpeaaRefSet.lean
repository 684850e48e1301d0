/- Contracts of the document's own Num and Set. -/
import Derived.Test.YtehhffbnmgdpeaaSpoil
namespace Go.Proofs.Ytehhffbnmgdpeaa
open Go.RowKit
set_option linter.unusedVariables false

/-- n without its last i bytes -/
def sh (n i : Nat) : Nat := n / 256 ^ i
theorem sh_zero (n : Nat) : sh n 0 = n := by simp [sh]
theorem sh_succ (n i : Nat) : sh n i / 256 = sh n (i + 1) := by unfold sh; rw [Nat.div_div_eq_div_mul, Nat.pow_succ]
theorem sh_le (n i : Nat) : sh n i ≤ n := Nat.div_le_self _ _
theorem enc_split (k n i : Nat) (h : i < k) : (enc k n).drop i = sh n (k - (i + 1)) % 256 :: (enc k n).drop (i + 1) := by
  rw [drop_nth _ _ (by rw [enc_length]; exact h), enc_nth k n i h, show k - 1 - i = k - (i + 1) from by omega]
  rfl
theorem num_set (k n i : Nat) (h : i < k) : (List.replicate (i + 1) 0 ++ (enc k n).drop (i + 1)).set i (sh n (k - (i + 1)) % 256) = List.replicate i 0 ++ (enc k n).drop i := by
  rw [enc_split k n i h, List.replicate_succ', List.append_assoc, List.set_append_right _ _ (by simp), List.length_replicate, Nat.sub_self]
  rfl

set_option maxRecDepth 100000 in
set_option maxHeartbeats 1000000 in
theorem refNum_any (width : Int) (n : Nat) (w : World) (hn : n < 18446744073709551616) :
    Calls Try.prog 16 #[.int .i64 width, .int .u64 n] w (NewB (if isW width = true then enc width.toNat n else []) w) := by
  obtain ⟨i0, hi, hz0, hz1, hz2⟩ := info_parts u8_info
  by_cases h1 : isW width = false
  · have Hwid := Lib.hid (refWidth_any width (w.alloc (.cells #[] 5)))
    rw [h1] at Hwid
    have hp : (if isW width = true then enc width.toNat n else []) = [] := by rw [h1]; rfl
    rw [hp]
    clear hp h1
    go_enter Try.func16, Try.ntmps16
    go_wp2_with (go_at_call 36; refine (Hwid.out).mono ?_; rintro e w' ⟨rfl, rfl⟩)
    go_ret
    exact ⟨_, rfl, ⟨IsBytes.nil, World.ownsRow_lit w #[] 0 (Nat.le_refl _) (Nat.zero_le _) rfl⟩, (Below.refl _ _).alloc (Nat.le_refl _) _⟩
  · have h1 : isW width = true := by simpa using h1
    have hwd : width = 1 ∨ width = 2 ∨ width = 4 ∨ width = 8 := of_decide_eq_true h1
    obtain ⟨d, rfl⟩ : ∃ d : Nat, width = d := ⟨width.toNat, by omega⟩
    have hd : 1 ≤ d ∧ d ≤ 8 := by omega
    rw [if_pos h1, Int.toNat_natCast]
    have Hwid := Lib.hid (refWidth_any (d : Int) (w.alloc (.cells #[] 5)))
    rw [h1] at Hwid
    clear hwd h1
    go_enter Try.func16, Try.ntmps16
    go_wp2_with (go_at_call 36; refine (Hwid.out).mono ?_; rintro e w' ⟨rfl, rfl⟩)
    go_loopw [5, 6] (fun v i wr => ∃ k : Nat, k ≤ d ∧ i = .int .i64 k ∧ OB wr w.heap.size 5 v (List.replicate k 0) ∧ Below w.heap.size w wr) (fun _ i _ => d - (intOf i).toNat)
    case atStart => exact ⟨0, Nat.zero_le _, rfl, ⟨IsBytes.nil, World.ownsRow_lit w #[] 0 (Nat.le_refl _) (Nat.zero_le _) rfl⟩, (Below.refl _ _).alloc (Nat.le_refl _) _⟩
    case round =>
      obtain ⟨k, hk, rfl, hown, hbw⟩ := hrel
      by_cases hlt : k < d
      · go_wp2_with (at_builtin; refine wpList_append_lit8 _ rfl _ _ 22 rfl w.heap.size 5 i0 Try.underlying22 hi hz0 hz1 hz2 _ (List.replicate k 0) 0 (by rfl) hown (by rfl) _ rfl (by omega) (by rw [List.length_replicate]; omega) hbw.size ?_; intro v1 w1 hown1 hg1 hat1)
        have hbw1 := hown.belowTo hbw (Nat.le_refl _) hg1 hbw.size
        rw [show [0] = List.replicate 1 0 from rfl, replicate_add'] at hown1
        go_roundw
        case rel => exact ⟨k + 1, by omega, by go_num, hown1, hbw1⟩
        case measure => simp [intOf]; omega
      · obtain rfl : k = d := by omega
        obtain ⟨wo, rfl⟩ : ∃ wo : World, wo = wr := ⟨_, rfl⟩
        obtain ⟨A, c, rfl, hc, hcm, -, -⟩ := hown.form
        rw [List.length_replicate] at hown hc
        simp only [List.length_replicate]
        go_wp2
        go_loopw [1, 7] (fun m i wr => ∃ j : Nat, j ≤ k ∧ i = .int .i64 ((j : Int) - 1) ∧ m = .int .u64 ((sh n (k - j) : Nat) : Int) ∧ OB wr w.heap.size 5 (.slice A k c) (List.replicate j 0 ++ (enc k n).drop j) ∧ Below w.heap.size w wr) (fun _ i _ => (intOf i + 1).toNat)
        case atStart => exact ⟨k, Nat.le_refl _, rfl, by rw [Nat.sub_self, sh_zero], by rw [List.drop_of_length_le (by rw [enc_length]; exact Nat.le_refl _), List.append_nil]; exact hown, hbw⟩
        case round =>
          obtain ⟨j, hj, rfl, rfl, hown2, hb2⟩ := hrel
          by_cases hj0 : 0 < j
          · obtain ⟨i, rfl⟩ : ∃ i, j = i + 1 := ⟨j - 1, by omega⟩
            have hln : (List.replicate (i + 1) 0 ++ (enc k n).drop (i + 1)).length = k := by simp [enc_length]; omega
            obtain ⟨g, c', hv, _, hgl⟩ := hown2.2.form (by rw [hln]; omega)
            simp only [Value.slice.injEq] at hv
            obtain ⟨rfl, -, -⟩ := hv
            have hfz : wr.frozen? ⟨g, i, none⟩ = false := by
              have := hown2.2
              rw [hln] at this
              exact this.frozenAt i
            obtain ⟨u, hu⟩ : ∃ u, wr.cell? ⟨g, i, none⟩ = some u := by
              have h1 : i < (cells8 (List.replicate (i + 1) 0 ++ (enc k n).drop (i + 1))).length := by rw [cells8_length, hln]; omega
              have := hown2.2.cells (g := g) rfl i _ (List.getElem?_eq_getElem h1)
              rw [add_none, Nat.zero_add] at this
              exact ⟨_, this⟩
            have hst := OB.stored (k := i) (m := sh n (k - (i + 1)) % 256) (by rw [hln]; exact hown2) (by omega)
            rw [num_set k n i (by omega), hln] at hst
            have hm := sh_le n (k - (i + 1))
            have hq : sh n (k - i) = sh n (k - (i + 1)) / 256 := by rw [sh_succ, show k - (i + 1) + 1 = k - i from by omega]
            rw [show ((sh n (k - (i + 1)) % 256 : Nat) : Int) = (sh n (k - (i + 1)) : Int) % 256 from by omega] at hst
            have Hst := Lib.hid hst
            have Hq := Lib.hid hq
            clear hst hln hq
            have hb3 : Hid (Below w.heap.size w (wr.setCell ⟨g, i, none⟩ (.int .u8 ((sh n (k - (i + 1)) : Int) % 256)))) := Lib.hid (hb2.setCell (by assumption) _)
            go_wp2
            go_roundw
            case rel => exact ⟨i, by omega, rfl, int_eq (by rw [Hq.out]; omega), Hst.out.1, hb3.out⟩
            case measure => simp [intOf]
          · obtain rfl : j = 0 := by omega
            go_wp2
            go_ret
            exact ⟨_, rfl, by simpa [OB, enc_length] using hown2, hb2⟩

set_option maxRecDepth 100000 in
set_option maxHeartbeats 1000000 in
theorem refSet_any (A : Option Addr) (cap B : Nat) (bs : List Nat) (at_ width : Int) (n : Nat) (w : World) (h : RB w B A bs) (hB : B ≤ w.heap.size) (hl : bs.length ≤ 140737488355000) (hcap : bs.length ≤ cap) (hcm : cap ≤ maxLen)
    (ha : -9223372036854775808 ≤ at_) (hw : at_ ≤ 9223372036854775807) (hn : n < 18446744073709551616) :
    Calls Try.prog 14 #[.slice A bs.length cap, .int .i64 at_, .int .i64 width, .int .u64 n] w (SetPost bs at_ width n w) := by
  obtain ⟨i0, hi, hz0, hz1, hz2⟩ := info_parts u8_info
  have hlm : bs.length ≤ maxLen := by unfold maxLen; omega
  have Hget := Lib.hid (refGet_any A cap B bs at_ width w h hlm hcap hcm ha hw)
  by_cases h0 : placeErr bs.length at_ width = 0
  · obtain ⟨hwd, hat, hsum⟩ := placeErr_zero h0
    have hW := isW_yes hwd
    obtain ⟨a, rfl⟩ := Int.eq_ofNat_of_zero_le hat
    obtain ⟨d, rfl⟩ : ∃ d : Nat, width = d := ⟨width.toNat, by omega⟩
    have hd : 1 ≤ d ∧ d ≤ 8 := by omega
    have hv := setVal_ok (n := n) h0
    simp only [Int.toNat_natCast] at hv
    have Hv := Lib.hid hv
    rw [h0] at Hget
    have H0 := Lib.hid h0
    have HW := Lib.hid hW
    unfold maxLen at hcm
    clear h0 hwd hv hlm hW
    obtain ⟨b, off, rfl, hbB, hcells⟩ := h.all (by omega)
    have c1 : RB w B (some ⟨b, off, none⟩) (bs.take a) := by
      have := h.cut rfl 0 a (by omega) (by omega)
      simpa using this
    have e1 : (bs.take a).length = a := by simp; omega
    have Hcopy := fun (w1 : World) (hb : Below w.heap.size w w1) => Copy_any (some ⟨b, off, none⟩) cap B (bs.take a) w1 (c1.below' hb hB) (by have := hb.size; omega) (by omega)
    rw [e1] at Hcopy
    have HC := Lib.hid Hcopy
    have E1 := Lib.hid e1
    have Hcells := Lib.hid hcells
    clear c1 e1 Hcopy hcells
    go_enter Try.func14, Try.ntmps14
    go_wp2_with fail
    refine (Hget.out).mono ?_
    rintro e w' ⟨rfl, rfl⟩
    go_wp2_with fail
    refine (HC.out w (Below.refl _ _)).mono ?_
    rintro e w1 ⟨u1, rfl, hu1, hb1⟩
    go_wp2_with fail
    have hnum := refNum_any (d : Int) n w1 hn
    rw [if_pos HW.out, Int.toNat_natCast] at hnum
    refine hnum.mono ?_
    rintro e w2 ⟨x, rfl, hx, hb2⟩
    obtain ⟨Ax, cx, rfl, hcx, hcxm, -, ux⟩ := hx.form
    have Ux := Lib.hid ux
    have hu2 := hu1.below' hb2
    have hB2 := hb1.trans (hb2.mono hb1.size)
    have hUu : Hid (∀ g, u1.ownBlock = some g → g < w1.heap.size ∨ w2.heap.size ≤ g) := Lib.hid fun g hg => .inl (hu1.2.lt g hg).2
    have hs1 := hb1.size
    have hs2 := hb2.size
    rw [enc_length] at Ux hx hcx
    clear hnum hu1 hb1 hb2 ux Hget
    simp only [enc_length]
    go_wp2
    go_loopw [12, 14] (fun u i wr => ∃ k : Nat, k ≤ d ∧ i = .int .i64 k ∧ OB wr w.heap.size 5 u (bs.take a ++ (enc d n).take k) ∧ OB wr w1.heap.size 5 (.slice Ax d cx) (enc d n) ∧ (∀ g, u.ownBlock = some g → g < w1.heap.size ∨ w2.heap.size ≤ g) ∧ Below w.heap.size w wr ∧ w2.heap.size ≤ wr.heap.size) (fun _ i _ => d - (intOf i).toNat)
    case atStart => exact ⟨0, Nat.zero_le _, rfl, by simpa using hu2, hx, hUu.out, hB2, Nat.le_refl _⟩
    case round =>
      obtain ⟨k, hk, rfl, hu3, hx3, hU3, hB3, hs3⟩ := hrel
      have HU3 := Lib.hid hU3
      clear hU3 hu2 hx hUu
      by_cases hlt : k < d
      · obtain ⟨bx, ox, rfl, -, hc⟩ := (hx3.reads.2.1).at_ (k := k) (by rw [enc_length]; exact hlt)
        have hby := (enc_bytes d n).nth k
        have htk := take_succ_nth (enc d n) k (by rw [enc_length]; exact hlt)
        have Htk := Lib.hid htk
        have hlen : (bs.take a ++ (enc d n).take k).length + 1 ≤ 140737488355328 := by simp [enc_length]; omega
        clear htk
        go_wp2_with (at_builtin; refine wpList_append_lit8 _ rfl _ _ 22 rfl w.heap.size 5 i0 Try.underlying22 hi hz0 hz1 hz2 _ _ _ (by rfl) hu3 (by rfl) _ rfl hby hlen hB3.size ?_; intro u4 w4 hu4 hg4 hat4)
        have hx4 : OB w4 w1.heap.size 5 (.slice (some ⟨bx, ox, none⟩) d cx) (enc d n) := hx3.only (Only.of_grown hg4) fun g hg e => by
          have := Ux.out g hg
          rcases HU3.out g e with h | h <;> omega
        have hU4 : Hid (∀ g, u4.ownBlock = some g → g < w1.heap.size ∨ w2.heap.size ≤ g) := Lib.hid fun g hg => by
          rcases hat4 with e | e
          · exact HU3.out g (e ▸ hg)
          · rw [e] at hg; injection hg with hg; omega
        have hb4 := hu3.belowTo hB3 (Nat.le_refl _) hg4 hB3.size
        have hs4 := hg4.size
        clear hat4
        go_roundw
        case rel => exact ⟨k + 1, by omega, by go_num, by rw [Htk.out, ← List.append_assoc]; exact hu4, hx4, hU4.out, hb4, by omega⟩
        case measure => simp [intOf]; omega
      · obtain rfl : k = d := by omega
        obtain ⟨wo, rfl⟩ : ∃ wo : World, wo = wr := ⟨_, rfl⟩
        rw [show (enc k n).take k = enc k n from List.take_of_length_le (by rw [enc_length]; exact Nat.le_refl _)] at hu3
        clear hx3 Hcells
        go_wp2
        go_loopw [12, 15] (fun u i wr => ∃ j : Nat, a + k + j ≤ bs.length ∧ i = .int .i64 ((a + k + j : Nat) : Int) ∧ OB wr w.heap.size 5 u (bs.take a ++ enc k n ++ (bs.drop (a + k)).take j) ∧ Below w.heap.size w wr) (fun _ i _ => bs.length - (intOf i).toNat)
        case atStart => exact ⟨0, by omega, by go_num, by simpa using hu3, hB3⟩
        case round =>
          obtain ⟨j, hj, rfl, hu5, hB5⟩ := hrel
          by_cases hlt : a + k + j < bs.length
          · obtain ⟨b', off', e, -, hc⟩ := (h.below' hB5 hB).at_ hlt
            injection e with e
            injection e with e1 e2
            subst e1 e2
            have hby := h.1.nth (a + k + j)
            have htk := take_succ_nth (bs.drop (a + k)) j (by simp; omega)
            rw [nth_drop] at htk
            have Htk := Lib.hid htk
            have hlen : (bs.take a ++ enc k n ++ (bs.drop (a + k)).take j).length + 1 ≤ 140737488355328 := by simp [enc_length]; omega
            clear htk
            go_wp2_with (at_builtin; refine wpList_append_lit8 _ rfl _ _ 22 rfl w.heap.size 5 i0 Try.underlying22 hi hz0 hz1 hz2 _ _ _ (by rfl) hu5 (by rfl) _ rfl hby hlen hB5.size ?_; intro u6 w6 hu6 hg6 hat6)
            have hb6 := hu5.belowTo hB5 (Nat.le_refl _) hg6 hB5.size
            go_roundw
            case rel => exact ⟨j + 1, by omega, by go_num, by rw [Htk.out, ← List.append_assoc]; exact hu6, hb6⟩
            case measure => simp [intOf]; omega
          · rw [show (bs.drop (a + k)).take j = bs.drop (a + k) from List.take_of_length_le (by simp; omega)] at hu5
            go_wp2
            go_ret2
            exact ⟨u12, ret_two rfl (int_eq H0.out.symm), by rw [Hv.out]; exact hu5, hB5⟩
  · have Hv := Lib.hid (setVal_err (n := n) h0)
    have hb : (placeErr bs.length at_ width != 0) = true := by simpa using h0
    clear h h0 hlm
    obtain ⟨p, hp⟩ : ∃ p, p = placeErr bs.length at_ width := ⟨_, rfl⟩
    rw [← hp] at hb Hget
    have Hp := Lib.hid hp
    clear hp
    go_enter Try.func14, Try.ntmps14
    go_wp2_with (go_at_call 12; refine (Hget.out).mono ?_; rintro e w' ⟨rfl, rfl⟩)
    go_ret2
    exact ⟨_, ret_two rfl (int_eq Hp.out), by rw [Hv.out]; exact ⟨IsBytes.nil, World.ownsRow_lit w #[] 0 (Nat.le_refl _) (Nat.zero_le _) rfl⟩, (Below.refl _ _).alloc (Nat.le_refl _) _⟩

end Go.Proofs.Ytehhffbnmgdpeaa

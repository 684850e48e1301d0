/- cell: formatNumber, formatNumbers. -/
import Derived.Test.YthfoffcfbfmajaaGreatDoorCeNum
import Derived.Test.YthfoffcfbfmajaaGreatDoorCeText
import Derived.Lib.ItoaLen
namespace Go.Proofs.YthfoffcfbfmajaaGreatDoor
open Go.RowKit
set_option linter.unusedVariables false

theorem wrap_bits (n : Int) : IntKind.u64.wrap n = ((bitsOf n : Nat) : Int) := by
  unfold bitsOf
  simp [IntKind.wrap, IntKind.bits, IntKind.signed]
  omega
set_option maxHeartbeats 1000000 in
theorem formatNumber_any (k n : Int) (w : World) (hT : Tabs w) (h0 : -9223372036854775808 ≤ n) (h1 : n ≤ 9223372036854775807) :
    Calls Tryz.prog 31 #[.int .i64 k, .int .i64 n] w fun e w' => e = .returned (.string (mkS (numF k n))) ∧ Below w.heap.size w w' := by
  by_cases h2 : k = 2
  · have HF : Hid (Calls Tryz.prog 49 #[.int .i64 n] w fun e w' => e = .returned (.string (mkS (numF k n))) ∧ Below w.heap.size w w') := Lib.hid (by
      unfold numF
      rw [if_pos h2]
      exact FormatInt_any n w hT h0 h1)
    generalize mkS (numF k n) = S at HF ⊢
    subst h2
    clear hT h0 h1
    go_enter Tryz.func31, Tryz.ntmps31
    go_wp2_with fail
    refine HF.out.mono ?_
    rintro e w1 ⟨rfl, hb⟩
    go_wp2
    go_ret
    exact ⟨rfl, hb⟩
  · by_cases h3 : k = 3
    · have HF : Hid (Calls Tryz.prog 50 #[.int .u64 (IntKind.u64.wrap n)] w fun e w' => e = .returned (.string (mkS (numF k n))) ∧ Below w.heap.size w w') := Lib.hid (by
        unfold numF
        rw [if_neg h2, if_pos h3, wrap_bits]
        exact FormatFloat_any (bitsOf n) w hT (bitsOf_lt n))
      generalize mkS (numF k n) = S at HF ⊢
      subst h3
      clear hT h0 h1 h2
      go_enter Tryz.func31, Tryz.ntmps31
      go_wp2_with fail
      refine HF.out.mono ?_
      rintro e w1 ⟨rfl, hb⟩
      go_wp2
      go_ret
      exact ⟨rfl, hb⟩
    · have HN : Hid (mkS (numF k n) = if n = 0 then ⟨#[102, 97, 108, 115, 101]⟩ else ⟨#[116, 114, 117, 101]⟩) := Lib.hid (by
        unfold numF
        rw [if_neg h2, if_neg h3]
        split <;> rfl)
      have hk2 : (k == 2) = false := beq_eq_false_iff_ne.2 h2
      have hk3 : (k == 3) = false := beq_eq_false_iff_ne.2 h3
      by_cases hn : n = 0
      · rw [if_pos hn] at HN
        rw [HN.out]
        subst hn
        clear hT h0 h1 HN
        go_enter Tryz.func31, Tryz.ntmps31
        go_wp2
        go_ret
        exact ⟨rfl, Below.refl _ _⟩
      · rw [if_neg hn] at HN
        rw [HN.out]
        have hn2 : (n == 0) = false := beq_eq_false_iff_ne.2 hn
        clear hT h0 h1 HN
        go_enter Tryz.func31, Tryz.ntmps31
        go_wp2
        go_ret
        exact ⟨rfl, Below.refl _ _⟩
theorem numF_len (k n : Int) (h0 : -9223372036854775808 ≤ n) (h1 : n ≤ 9223372036854775807) : (numF k n).length ≤ 64 := by
  unfold numF
  split
  · have := Lib.itoa_length_le n h0 h1
    omega
  · split
    · unfold formF
      split
      · decide
      · rename_i hm
        have h2 := magT_len (m := bitsOf n % 9223372036854775808) (by omega)
        split
        · rw [List.length_cons]; omega
        · omega
    · split <;> decide
theorem formsN_len (k : Int) (ns : List Int) (hb : ∀ n ∈ ns, -9223372036854775808 ≤ n ∧ n ≤ 9223372036854775807) : (formsN (numF k) ns).length ≤ 65 * ns.length := by
  unfold formsN
  induction ns with
  | nil => exact Nat.le_refl _
  | cons n ns ih =>
    have h1 := numF_len k n (hb n (List.mem_cons_self ..)).1 (hb n (List.mem_cons_self ..)).2
    have h2 := ih fun m hm => hb m (List.mem_cons_of_mem _ hm)
    simp only [List.flatMap_cons, List.length_append, List.length_cons, List.length_nil]
    omega
theorem formsN_snoc (g : Int → Bs) (a : List Int) (n : Int) : formsN g (a ++ [n]) = formsN g a ++ (g n ++ [59]) := by simp [formsN]
set_option maxHeartbeats 1000000 in
theorem formatNumbers_any (kd : Int) (A : Option Addr) (c B : Nat) (ns : List Int) (w : World) (hT : Tabs w) (hr : RL ivl w B A ns) (hB : B ≤ w.heap.size) (hb : ∀ n ∈ ns, -9223372036854775808 ≤ n ∧ n ≤ 9223372036854775807) (hsz : ns.length ≤ 1048576) :
    Calls Tryz.prog 30 #[.int .i64 kd, .slice A ns.length c] w fun e w' => e = .returned (.string (mkS (formsN (numF kd) ns))) ∧ Below w.heap.size w w' := by
  have HT := Lib.hid hT
  have HR := Lib.hid hr
  have HZ := Lib.hid hsz
  have HB := Lib.hid hB
  have HBD := Lib.hid hb
  have hbd := Bd.fresh w w.heap.size rfl
  have H0 : Hid (∃ W, W = w.alloc (.cells #[.pointer none, .slice none 0 0] 79) ∧ Bd w.heap.size w.heap.size [] W ∧ Below w.heap.size w W) := Lib.hid ⟨_, rfl, hbd, (Below.refl _ _).alloc (Nat.le_refl _) _⟩
  have hlm : ns.length ≤ 1048576 := hsz
  clear hT hr hsz hB hbd hb
  go_enter Tryz.func30, Tryz.ntmps30
  go_wp2
  go_loopw [10] (fun i wr => ∃ k : Nat, k ≤ ns.length ∧ i = .int .i64 k ∧ Hid (Bd w.heap.size w.heap.size (formsN (numF kd) (ns.take k)) wr) ∧ Hid (Below w.heap.size w wr)) (fun i _ => ns.length - (intOf i).toNat)
  case atStart =>
    obtain ⟨W, rfl, h1, h2⟩ := H0.out
    exact ⟨0, Nat.zero_le _, rfl, Lib.hid h1, Lib.hid h2⟩
  case round =>
    obtain ⟨k, hk, rfl, HD, HW⟩ := hrel
    clear H0
    by_cases hlt : k < ns.length
    · have hrs := HR.out.below' HW.out HB.out
      obtain ⟨g, off, rfl, hg, hcell⟩ := hrs.allD (by omega)
      have hc1 : wr.cell? ⟨g, off + k, none⟩ = some (.int .i64 (nthD ns k)) := hcell k hlt
      have HTK : Hid (ns.take (k + 1) = ns.take k ++ [nthD ns k]) := Lib.hid (by rw [takeD_succ hlt])
      have HTL : Hid ((formsN (numF kd) (ns.take k)).length ≤ 1073741824) := Lib.hid (by
        have h1 := formsN_len kd (ns.take k) fun n hn => HBD.out n (List.mem_of_mem_take hn)
        have h2 : (ns.take k).length ≤ ns.length := by rw [List.length_take]; omega
        have h3 := HZ.out
        omega)
      obtain ⟨hn0, hn1⟩ := HBD.out _ (nthD_mem hlt)
      clear hcell hrs
      generalize nthD ns k = n at *
      have hnl := numF_len kd n hn0 hn1
      have HFN : Hid (∀ w', Below w.heap.size w w' → Calls Tryz.prog 31 #[.int .i64 kd, .int .i64 n] w' fun e w2 => e = .returned (.string (mkS (numF kd n))) ∧ Below w'.heap.size w' w2) := Lib.hid fun w' hb => formatNumber_any kd n w' (HT.out.below hb (Nat.le_refl _)) hn0 hn1
      have HAP : Hid (∀ w1, Bd w.heap.size w.heap.size (formsN (numF kd) (ns.take k)) w1 → Calls Tryz.prog 47 #[.pointer (some ⟨w.heap.size, 0, none⟩), .string (mkS (numF kd n) ++ ⟨#[59]⟩)] w1 fun e w' => (∃ v, e = .returned v) ∧ Bd w.heap.size w.heap.size (formsN (numF kd) (ns.take (k + 1))) w' ∧ Below w.heap.size w1 w') := Lib.hid fun w1 h => by
        have e : mkS (numF kd n) ++ (⟨#[59]⟩ : ByteArray) = mkS (numF kd n ++ [59]) := str_cat _ [59]
        rw [e, HTK.out, formsN_snoc]
        refine (WriteString_any _ _ _ _ w1 h (by have := HTL.out; rw [mkS_size, List.length_append, List.length_singleton]; omega)).mono ?_
        rintro e w' ⟨rfl, h1, h2⟩
        rw [lS_mk] at h1
        exact ⟨⟨_, rfl⟩, h1, h2⟩
      have hsz : (mkS (numF kd n)).size ≤ 1073741824 := by rw [mkS_size]; omega
      generalize mkS (numF kd n) = D2 at HFN HAP hsz
      clear hnl hn0 hn1
      go_wp2_with fail
      refine (HFN.out _ HW.out).mono ?_
      rintro e w2 ⟨rfl, hb2⟩
      have HB2 := Lib.hid (HW.out.trans (hb2.mono HW.out.size))
      have HD2 := Lib.hid (HD.out.below hb2)
      clear hb2
      go_wp2_with fail
      refine (HAP.out _ HD2.out).mono ?_
      rintro e w3 ⟨⟨v, rfl⟩, h3, hb3⟩
      have HB3 := Lib.hid (HB2.out.trans hb3)
      have HD3 := Lib.hid h3
      clear hb3 h3
      go_wp2
      go_roundw
      case rel => exact ⟨k + 1, by omega, by go_num, HD3, HB3⟩
      case measure => simp [intOf]; omega
    · have HTK : Hid (ns.take k = ns) := Lib.hid (List.take_of_length_le (by omega))
      rw [HTK.out] at HD
      have HC := Lib.hid (BString_any _ _ _ wr HD.out)
      go_wp2_with fail
      refine HC.out.mono ?_
      rintro e w1 ⟨rfl, hb1⟩
      have HB1 := Lib.hid (HW.out.trans hb1)
      clear hb1
      go_wp2
      go_ret
      exact ⟨rfl, HB1.out⟩
end Go.Proofs.YthfoffcfbfmajaaGreatDoor

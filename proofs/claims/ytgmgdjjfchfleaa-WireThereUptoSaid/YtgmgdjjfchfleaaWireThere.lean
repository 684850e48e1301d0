/- For all scripts (of at most 1048576 values): what a Writer was told is read again, to the end. -/
import Derived.Test.YtgmgdjjfchfleaaOpen
import Derived.Test.YtgmgdjjfchfleaaRows
import Derived.Test.YtgmgdjjfchfleaaBulk
import Derived.Deep.CondSized
import Derived.Test.YtgmgdjjfchfleaaRNum
import Derived.Test.YtgmgdjjfchfleaaRRaw
import Derived.Test.YtgmgdjjfchfleaaOps
import Derived.Deep.RegionHeld3
namespace Go.Proofs.Ytgmgdjjfchfleaa.wireThere
open Go.ChangeShapes Go.WideShapes Go.ChangeAt Go.RowKit
open Go.ChangeMaps (open_string shut_string)
set_option linter.unusedVariables false

/-- what an Op puts -/
def opPut (o : Opv) : List Nat := if bits .and .i64 o.kind 1 = 0 then enc 8 o.num else enc 4 o.bs.length ++ o.bs
theorem opPut_even (kd wd : Int) (nm : Nat) (bs : List Nat) (h : bits .and .i64 kd 1 = 0) : opPut ⟨kd, wd, nm, bs⟩ = enc 8 nm := if_pos h
theorem opPut_odd (kd wd : Int) (nm : Nat) (bs : List Nat) (h : ¬ bits .and .i64 kd 1 = 0) : opPut ⟨kd, wd, nm, bs⟩ = enc 4 bs.length ++ bs := if_neg h
def puts (L : List Opv) : List Nat := L.flatMap opPut
theorem puts_step {L : List Opv} {k : Nat} (h : k < L.length) : puts (L.take (k + 1)) = puts (L.take k) ++ opPut (opAt L k) := by
  unfold puts; rw [take_opAt h, List.flatMap_append]; simp
theorem puts_drop {L : List Opv} {k : Nat} (h : k < L.length) : puts (L.drop k) = opPut (opAt L k) ++ puts (L.drop (k + 1)) := by
  unfold puts; rw [drop_opAt h, List.flatMap_cons]
theorem puts_len (L : List Opv) : (puts L).length ≤ 2 * opsBulk L := by
  induction L with
  | nil => simp [puts]
  | cons o r ih =>
    have h1 : puts (o :: r) = opPut o ++ puts r := by unfold puts; rw [List.flatMap_cons]
    have h2 : opsBulk (o :: r) = o.bs.length + 5 + opsBulk r := by simp [opsBulk]
    have h3 : (opPut o).length ≤ 2 * (o.bs.length + 5) := by
      unfold opPut
      split
      · rw [enc_length]; omega
      · rw [List.length_append, enc_length]; omega
    rw [h1, h2, List.length_append]
    omega

theorem put8 (n : Nat) : putNum 8 n = enc 8 n := by
  have h := putNum_yes (width := 8) (n := n) (by decide)
  rw [show (8 : Int).toNat = 8 from rfl] at h
  exact h
theorem put4 (n : Nat) : putNum 4 n = enc 4 n := by
  have h := putNum_yes (width := 4) (n := n) (by decide)
  rw [show (4 : Int).toNat = 4 from rfl] at h
  exact h
theorem isW_of {d : Nat} (hd : d = 4 ∨ d = 8) : isW (d : Int) = true := isW_yes (by omega)
/-- a number that stands first is read -/
theorem num_there (base g q d n : Nat) (rest : List Nat) (w : World) (h : Rd w base g q (enc d n ++ rest) 0) (hd : d = 4 ∨ d = 8) (hn : n < 256 ^ d) :
    Calls Try.prog 25 #[.pointer (some ⟨g, 0, none⟩), .int .i64 (d : Int)] w fun e w' => e = .returned (.int .u64 (n : Int)) ∧ Rd w' base g q rest 0 ∧ Only (fun k => k = g) w w' := by
  have hl : (enc d n ++ rest).length = d + rest.length := by rw [List.length_append, enc_length]
  have h0 : placeErr (enc d n ++ rest).length 0 (d : Int) = 0 := placeErr_ok (by rw [isW_of hd]; simp) (by rw [hl]; omega)
  have hv : getVal (enc d n ++ rest) 0 (d : Int) = n := by
    rw [getVal_ok h0]
    simp only [Int.toNat_zero, Int.toNat_natCast, Nat.zero_add, List.drop_zero]
    rw [List.take_left' (enc_length d n), be_enc, Nat.mod_eq_of_lt hn]
  refine (RNum_any base g q _ 0 (d : Int) w h).mono ?_
  rintro e w' ⟨rfl, hr, ho⟩
  rw [hv]
  refine ⟨rfl, ?_, ho⟩
  rw [restOf_ok h0, errBy_ok h0, Int.toNat_natCast, List.drop_left' (enc_length d n)] at hr
  exact hr
/-- a piece that stands first is read -/
theorem raw_there (base g q : Nat) (bs rest : List Nat) (w : World) (h : Rd w base g q (bs ++ rest) 0) (hl : (bs ++ rest).length ≤ 140737488355328) :
    Calls Try.prog 27 #[.pointer (some ⟨g, 0, none⟩), .int .i64 (bs.length : Int)] w fun e w' => ∃ v, e = .returned v ∧ OB w' w.heap.size 5 v bs ∧ Rd w' base g q rest 0 ∧ Only (fun k => k = g) w w' := by
  have h0 : rawErr (bs ++ rest).length (bs.length : Int) = 0 := rawErr_ok (by omega) (by rw [List.length_append]; omega)
  refine (RRaw_any base g q _ 0 (bs.length : Int) w h hl).mono ?_
  rintro e w' ⟨v, rfl, hv, hr, ho⟩
  rw [rawVal_ok h0, Int.toNat_natCast, List.take_left' rfl] at hv
  rw [restOf_ok h0, errBy_ok h0, Int.toNat_natCast, List.drop_left' rfl] at hr
  exact ⟨v, rfl, hv, hr, ho⟩

set_option maxRecDepth 100000 in
set_option maxHeartbeats 1000000 in
theorem walk (w : World) {A : Option Addr} {n c : Nat} (hx : ∃ L : List Opv, L.length = n ∧ Ops w w.heap.size A L ∧ n ≤ 140737488351232 ∧ opsBulk L + 1 ≤ 1048576) :
    Calls Try.prog 7 #[.slice A n c] w fun e w' => e = .returned (.bool true) ∧ Below w.heap.size w w' := by
  obtain ⟨i0, hi, hz0, hz1, hz2⟩ := info_parts u8_info
  obtain ⟨L, hL, ho, hn, hu⟩ := hx
  go_enter Try.func7, Try.ntmps7
  go_wp2_with fail
  refine (speaks_any w).mono ?_
  rintro e w1 ⟨rfl, hb1⟩
  go_wp2_with fail
  refine (NewWriter_any w1).mono ?_
  rintro e w2 ⟨rfl, hw2⟩
  have W2 : Wr w2 w.heap.size w1.heap.size (.slice none 0 0) [] := by
    subst hw2
    exact ⟨Blk.new _ _ _, hb1.size, OB.nil _ _ _⟩
  have hb2 : Below w.heap.size w w2 := by subst hw2; exact hb1.alloc hb1.size _
  clear hw2
  go_wp2_with fail
  go_loopw [17] (fun i wr => ∃ (k : Nat) (v : Value), k ≤ n ∧ i = .int .i64 k ∧ Wr wr w.heap.size w1.heap.size v (puts (L.take k)) ∧ Below w.heap.size w wr) (fun i _ => n - (intOf i).toNat)
  case atStart => exact ⟨0, _, Nat.zero_le _, rfl, W2, hb2⟩
  case round =>
    obtain ⟨k, v, hk, rfl, W3, hb3⟩ := hrel
    by_cases hlt : k < n
    · have hkL : k < L.length := by omega
      obtain ⟨b, off, rfl, hbB, A', c', q0, q1, q2, q3, hrb, hlc, hcm, hr0, hr1, hr2⟩ := ho k _ (opAt_get hkL)
      have hbk := opsBulk_at hkL
      have hst := puts_step hkL
      have hpl := Nat.le_trans (puts_len (L.take k)) (Nat.mul_le_mul_left 2 (opsBulk_take L k))
      obtain ⟨P, hP⟩ : ∃ x, x = puts (L.take k) := ⟨_, rfl⟩
      rw [← hP] at hst hpl W3
      clear hP
      generalize opAt L k = o at *
      obtain ⟨kd, wd, nm, bs⟩ := o
      simp only at q0 q1 q2 q3 hrb hlc hr0 hr1 hr2 hbk
      replace q0 := (hb3.cell (p := ⟨b, off + k * 4, none⟩) hbB).trans q0
      replace q1 := (hb3.cell (p := ⟨b, off + k * 4 + 1, none⟩) hbB).trans q1
      replace q2 := (hb3.cell (p := ⟨b, off + k * 4 + 2, none⟩) hbB).trans q2
      replace q3 := (hb3.cell (p := ⟨b, off + k * 4 + 3, none⟩) hbB).trans q3
      have Hrb := Lib.hid hrb
      have Hst := Lib.hid hst
      clear hrb hst
      by_cases hodd : bits .and .i64 kd 1 = 0
      · have HP : Hid (puts (L.take (k + 1)) = P ++ enc 8 nm) := Lib.hid (by rw [Hst.out, opPut_even _ _ _ _ hodd])
        go_wp2_with fail
        obtain ⟨wo, hwo⟩ : ∃ x, x = wr.alloc (.cells #[.int .i64 kd, .int .i64 wd, .int .u64 (nm : Int), .slice A' bs.length c'] 45) := ⟨_, rfl⟩
        rw [← hwo]
        have W4 : Wr wo w.heap.size w1.heap.size v P := by subst hwo; exact W3.below ((Below.refl _ _).alloc (Nat.le_refl _) _)
        have hb4 : Below w.heap.size w wo := by subst hwo; exact hb3.alloc hb3.size _
        clear hwo
        refine (WNum_any _ _ _ P 8 nm wo W4 hr2 (by omega)).mono ?_
        rintro e w5 ⟨rfl, v5, W5, ho5, -⟩
        rw [put8, ← HP.out] at W5
        have hb5 := ho5.belowTrans hb4 (Nat.le_refl _) fun k _ hk => (W4.lt k hk).1
        go_wp2
        go_roundw
        case rel => exact ⟨k + 1, v5, by omega, by go_num, W5, hb5⟩
        case measure => simp [intOf]; omega
      · have HP : Hid (puts (L.take (k + 1)) = P ++ enc 4 bs.length ++ bs) := Lib.hid (by rw [Hst.out, opPut_odd _ _ _ _ hodd, List.append_assoc])
        go_wp2_with fail
        obtain ⟨wo, hwo⟩ : ∃ x, x = wr.alloc (.cells #[.int .i64 kd, .int .i64 wd, .int .u64 (nm : Int), .slice A' bs.length c'] 45) := ⟨_, rfl⟩
        rw [← hwo]
        have W4 : Wr wo w.heap.size w1.heap.size v P := by subst hwo; exact W3.below ((Below.refl _ _).alloc (Nat.le_refl _) _)
        have hb4 : Below w.heap.size w wo := by subst hwo; exact hb3.alloc hb3.size _
        have Bo : Blk wo wr.heap.size 45 #[.int .i64 kd, .int .i64 wd, .int .u64 (nm : Int), .slice A' bs.length c'] := by subst hwo; exact Blk.new _ _ _
        have hlo := W3.lt
        clear hwo
        refine (WNum_any _ _ _ P 4 bs.length wo W4 (by omega) (by omega)).mono ?_
        rintro e w5 ⟨rfl, v5, W5, ho5, -⟩
        rw [put4] at W5
        have hb5 := ho5.belowTrans hb4 (Nat.le_refl _) fun k _ hk => (W4.lt k hk).1
        have B5 := Bo.only ho5 fun h => by have := (hlo _ h).2; omega
        have q5 : w5.cell? ⟨wr.heap.size, 3, none⟩ = some (.slice A' bs.length c') := by rw [B5.cell 3]; rfl
        have hs5 := B5.lt
        have hr5 := Hrb.out.below hb5
        have hl5 : (P ++ enc 4 bs.length).length ≤ 8388608 := by rw [List.length_append, enc_length]; omega
        obtain ⟨P5, hP5⟩ : ∃ x, x = P ++ enc 4 bs.length := ⟨_, rfl⟩
        rw [← hP5] at W5 hl5 HP
        clear hP5 W3 W4 hb4 hb3 ho5 B5 Bo hlo q0 q1 q2 q3
        go_wp2_with (at_builtin; refine wpList_append_bytes _ rfl _ _ 22 rfl w5.heap.size 5 i0 Try.underlying22 hi hz0 hz1 hz2 (.slice (some ⟨w5.heap.size, 0, none⟩) 0 0) [] (by rfl) ⟨IsBytes.nil, World.ownsRow_lit w5 #[] 0 (Nat.le_refl _) (Nat.zero_le _) rfl⟩ A' c' w.heap.size bs bs.length rfl (by rfl) (hr5.alloc hb5.size _) (by simp; omega) (by simp) ?_; intro v6 w6 hown6 hg6 hat6)
        obtain ⟨A6, c6, rfl, hc6, hm6, hr6, -⟩ := hown6.form
        have hb6 : Below w5.heap.size w5 w6 := below_own ((Below.refl _ _).alloc (Nat.le_refl _) _) (World.ownsRow_lit (base := w5.heap.size) (size := 1) w5 #[] 0 (Nat.le_refl _) (Nat.zero_le _) rfl) (Nat.le_refl _) hg6 (by simp)
        have W6 := W5.below hb6
        have hb7 := hb5.trans (hb6.mono hb5.size)
        simp only [List.nil_append] at hr6
        refine (Raw_any _ _ _ P5 A6 c6 _ bs w6 W6 hr6 (by omega)).mono ?_
        rintro e w8 ⟨rfl, v8, W8, ho8, -⟩
        have hb8 := ho8.belowTrans hb7 (Nat.le_refl _) fun k _ hk => (W6.lt k hk).1
        rw [← HP.out] at W8
        go_wp2
        go_roundw
        case rel => exact ⟨k + 1, v8, by omega, by go_num, W8, hb8⟩
        case measure => simp [intOf]; omega
    · obtain rfl : k = n := by omega
      obtain ⟨w3, rfl⟩ : ∃ x : World, x = wr := ⟨_, rfl⟩
      have hfull : L.take k = L := List.take_of_length_le (by omega)
      rw [hfull] at W3
      have hpl := puts_len L
      obtain ⟨P, hP⟩ : ∃ x, x = puts L := ⟨_, rfl⟩
      rw [← hP] at W3 hpl
      have HP := Lib.hid hP
      clear hP hfull
      go_wp2_with fail
      refine (Bytes_any _ _ _ P w3 W3 (by omega)).mono ?_
      rintro e w4 ⟨x4, rfl, hx4, hb4⟩
      obtain ⟨A4, c4, rfl, -, -, hr4, -⟩ := hx4.form
      have hB4 := hb3.trans (hb4.mono hb3.size)
      go_wp2_with fail
      refine (NewReader_any A4 c4 w4.heap.size P w4 hr4 (Nat.le_refl _) (by omega)).mono ?_
      rintro e w5 ⟨g, q, rfl, R5, hb5⟩
      have hB5 := hB4.trans (hb5.mono hB4.size)
      have hs4 := hB4.size
      have hlg := R5.lt
      rw [HP.out] at R5
      clear W2 W3 hb2 hb3 hb4 hx4 hr4 hB4 hb5
      go_wp2_with fail
      go_loopw [49] (fun i wr => ∃ (j : Nat), j ≤ k ∧ i = .int .i64 j ∧ Rd wr w4.heap.size g q (puts (L.drop j)) 0 ∧ Below w.heap.size w wr) (fun i _ => k - (intOf i).toNat)
      case atStart => exact ⟨0, Nat.zero_le _, rfl, R5, hB5⟩
      case round =>
        obtain ⟨j, hj, rfl, R6, hB6⟩ := hrel
        by_cases hlt : j < k
        · have hkL : j < L.length := by omega
          obtain ⟨b, off, rfl, hbB, A', c', q0, q1, q2, q3, hrb, hlc, hcm, hr0, hr1, hr2⟩ := ho j _ (opAt_get hkL)
          have hbk := opsBulk_at hkL
          have hst := puts_drop hkL
          have hpl2 : (puts (L.drop j)).length ≤ 2 * opsBulk L := by
            have h1 := puts_len (L.drop j)
            have h2 := opsBulk_append (L.take j) (L.drop j)
            rw [List.take_append_drop] at h2
            omega
          rw [hst] at R6
          obtain ⟨P6, hP6⟩ : ∃ x, x = puts (L.drop (j + 1)) := ⟨_, rfl⟩
          rw [← hP6] at R6
          have HP6 := Lib.hid hP6
          have Hst2 := Lib.hid hst
          clear hP6 hst
          generalize opAt L j = o at *
          obtain ⟨kd, wd, nm, bs⟩ := o
          simp only at q0 q1 q2 q3 hrb hlc hr0 hr1 hr2 hbk
          replace q0 := (hB6.cell (p := ⟨b, off + j * 4, none⟩) hbB).trans q0
          replace q1 := (hB6.cell (p := ⟨b, off + j * 4 + 1, none⟩) hbB).trans q1
          replace q2 := (hB6.cell (p := ⟨b, off + j * 4 + 2, none⟩) hbB).trans q2
          replace q3 := (hB6.cell (p := ⟨b, off + j * 4 + 3, none⟩) hbB).trans q3
          have Hrb := Lib.hid hrb
          clear hrb
          by_cases hodd : bits .and .i64 kd 1 = 0
          · rw [opPut_even _ _ _ _ hodd] at R6
            go_wp2_with fail
            obtain ⟨wo, hwo⟩ : ∃ x, x = wr.alloc (.cells #[.int .i64 kd, .int .i64 wd, .int .u64 (nm : Int), .slice A' bs.length c'] 45) := ⟨_, rfl⟩
            rw [← hwo]
            have hlg6 := R6.lt
            have R7 : Rd wo w4.heap.size g q (enc 8 nm ++ P6) 0 := by subst hwo; exact R6.below ((Below.refl _ _).alloc (Nat.le_refl _) _)
            have hB7 : Below w.heap.size w wo := by subst hwo; exact hB6.alloc hB6.size _
            have Bo : Blk wo wr.heap.size 45 #[.int .i64 kd, .int .i64 wd, .int .u64 (nm : Int), .slice A' bs.length c'] := by subst hwo; exact Blk.new _ _ _
            clear hwo R6 hB6 q0 q1 q2 q3
            have q2o : wo.cell? ⟨wr.heap.size, 2, none⟩ = some (.int .u64 (nm : Int)) := by rw [Bo.cell 2]; rfl
            have HN := Lib.hid (num_there w4.heap.size g q 8 nm P6 (wo.drewN 1) R7 (.inr rfl) (by have : (256 : Nat) ^ 8 = 18446744073709551616 := rfl; omega))
            have hne : ((nm : Int) != (nm : Int)) = false := by simp
            go_region_held3 (fun w' => w'.cell? ⟨wr.heap.size, 2, none⟩ = some (.int .u64 (nm : Int))) (go_keep)
              ((go_at_call 25; refine (HN.out).mono ?_; rintro e w8 ⟨rfl, R8, ho8⟩; have q2' : w8.cell? ⟨wr.heap.size, 2, none⟩ = some (.int .u64 (nm : Int)) := (by rw [((Blk.drewN Bo 1).only ho8 (fun (e : wr.heap.size = g) => by omega)).cell 2]; rfl); have hB8 : Below w.heap.size w w8 := ho8.belowTrans (below_drewN hB7 1) (Nat.le_refl _) (fun k _ (hk : k = g) => by omega)))
            go_wp2
            go_roundw
            case rel => exact ⟨j + 1, by omega, by go_num, by rw [← HP6.out]; exact R8, hB8⟩
            case measure => simp [intOf]; omega
          · rw [opPut_odd _ _ _ _ hodd, List.append_assoc] at R6
            go_wp2_with fail
            obtain ⟨wo, hwo⟩ : ∃ x, x = wr.alloc (.cells #[.int .i64 kd, .int .i64 wd, .int .u64 (nm : Int), .slice A' bs.length c'] 45) := ⟨_, rfl⟩
            rw [← hwo]
            have hlg6 := R6.lt
            have R7 : Rd wo w4.heap.size g q (enc 4 bs.length ++ (bs ++ P6)) 0 := by subst hwo; exact R6.below ((Below.refl _ _).alloc (Nat.le_refl _) _)
            have hB7 : Below w.heap.size w wo := by subst hwo; exact hB6.alloc hB6.size _
            have Bo : Blk wo wr.heap.size 45 #[.int .i64 kd, .int .i64 wd, .int .u64 (nm : Int), .slice A' bs.length c'] := by subst hwo; exact Blk.new _ _ _
            clear hwo R6 hB6 q0 q1 q2 q3
            have hl9 : (bs ++ P6).length ≤ 140737488355328 := by
              have h1 := congrArg List.length Hst2.out
              rw [opPut_odd _ _ _ _ hodd, ← HP6.out, List.length_append, List.length_append, enc_length] at h1
              rw [List.length_append]
              omega
            refine (num_there w4.heap.size g q 4 bs.length (bs ++ P6) wo R7 (.inl rfl) (by have : (256 : Nat) ^ 4 = 4294967296 := rfl; omega)).mono ?_
            rintro e w8 ⟨rfl, R8, ho8⟩
            have B8 := Bo.only ho8 (fun (e : wr.heap.size = g) => by omega)
            have hB8 : Below w.heap.size w w8 := ho8.belowTrans hB7 (Nat.le_refl _) (fun k _ (hk : k = g) => by omega)
            have q3o : w8.cell? ⟨wr.heap.size, 3, none⟩ = some (.slice A' bs.length c') := by rw [B8.cell 3]; rfl
            have hne : ((bs.length : Int) != (bs.length : Int)) = false := by simp
            have hwr : IntKind.u64.wrap (bs.length : Int) = (bs.length : Int) := wrapU64_in _ (by omega)
            have HR := Lib.hid (raw_there w4.heap.size g q bs P6 (w8.drewN 1) R8 hl9)
            have hlm : Hid (bs.length ≤ maxLen) := Lib.hid (by unfold maxLen; omega)
            clear R7 hB7 Bo ho8
            go_wp2_with fail
            go_region_held3 (fun w' => w'.cell? ⟨wr.heap.size, 3, none⟩ = some (.slice A' bs.length c')) (go_keep)
              (first
                | (go_at_call 27; refine (HR.out).mono ?_; rintro e w9 ⟨v9, rfl, ho9, R9, hc9⟩; obtain ⟨A9, c9, rfl, -, -, -, -⟩ := ho9.form; have q3' : w9.cell? ⟨wr.heap.size, 3, none⟩ = some (.slice A' bs.length c') := (by rw [((Blk.drewN B8 1).only hc9 (fun (e : wr.heap.size = g) => by omega)).cell 3]; rfl); have hB9 : Below w.heap.size w w9 := hc9.belowTrans (below_drewN hB8 1) (Nat.le_refl _) (fun k _ (hk : k = g) => by omega); have hr9 := Hrb.out.below hB9)
                | (go_at_call 15; refine (same_yes A9 A' bs.length c9 c' _ _ bs _ ho9.reads.2.1 hr9 rfl hlm.out).mono ?_; rintro e w10 ⟨rfl, n3, rfl⟩))
            go_wp2
            go_roundw
            case rel => exact ⟨j + 1, by omega, by go_num, by rw [← HP6.out]; exact R9.drewN n3, below_drewN hB9 n3⟩
            case measure => simp [intOf]; omega
        · obtain rfl : j = k := by omega
          obtain ⟨w6, rfl⟩ : ∃ x : World, x = wr := ⟨_, rfl⟩
          have hnil : L.drop j = [] := List.drop_of_length_le (by omega)
          rw [hnil, show puts [] = [] from rfl] at R6
          have hE := End_any w4.heap.size g q [] 0 w6 R6
          rw [show endOf ([] : List Nat).length 0 = 0 from rfl] at hE
          have HE := Lib.hid hE
          clear hE
          go_wp2_with fail
          refine (Left_any w4.heap.size g q [] 0 w6 R6).mono ?_
          rintro e w7 ⟨rfl, rfl⟩
          go_wp2_with fail
          refine (HE.out).mono ?_
          rintro e w8 ⟨rfl, m, rfl⟩
          go_wp2
          go_ret
          exact ⟨rfl, below_drewN hB6 m⟩

/-! ### THE ROW's STEP -/
theorem own : ownKnob Try.prog.godebug = none := by kernel_rfl
theorem laidOut : laidOutB Try.prog = true := by kernel_rfl

theorem contract (H : Type) (enc : TypeId × Value → H) (W : World) (base : Nat) (args : Array Value) (ds gs : List (DataW H)) (before : List MemPlace)
    (hval0 : ∀ (j : Nat) t v, Try.f7.params[j]? = some t → args[j]? = some v → Value.okWide Try.prog W .any base t v)
    (hW : DataW.Whole enc Try.prog Try.f7.params.toList Rows.wireThereSpec.vars false W args.toList ds gs before)
    (hk : Rows.uptoSmall H (ds ++ gs) = true)
    (hsz : (DataW.weightsEach Try.prog (Try.f7.params.toList ++ (Rows.OpenSpec.upto Rows.wireThereSpec).bare.plain.varTypes Try.prog) (ds ++ gs)).all (· ≤ reachBytes) = true) :
    Calls Try.prog 7 args W fun e W' => ∃ v, e = .returned v ∧ Rows.wireThereSpec.post enc Try.prog Try.f7 false true false false W args v W' := by
  have hval : ∀ (j : Nat) t v, Try.f7.params[j]? = some t → args[j]? = some v → Value.okWide Try.prog W .any base t v := hval0
  have hW' := hW
  obtain ⟨p, q, hA0, hV, rfl, hfz, hnd⟩ := hW
  have hA : DataW.TrodAll enc Try.prog W 0 (fun _ => true) true Try.f7.params.toList args.toList ds p := hA0
  rw [Try.params7] at hA hval
  obtain ⟨v0, vs0, d0, ds0, p0, q0, hargs, rfl, rfl, h0, r0⟩ := trodAll_cons hA
  obtain ⟨rfl, rfl, rfl⟩ := trodAll_nil r0
  obtain rfl : args = #[v0] := by cases args; simp_all
  obtain ⟨rfl, rfl⟩ := trodVars_none hV
  have k0 := h0
  have lt0 : ∀ x ∈ p0, x.block < W.heap.size := by obtain ⟨m, hm⟩ := k0; exact DataW.trod_lt m _ _ _ hm
  have w0 := reach_at hsz (j := 0) rfl rfl
  have u0 : Rows.uptoBulk d0 ≤ 1048576 := bulk_at hk (by simp)
  clear hA0 hval0 hsz
  obtain ⟨A0, n0, c0, rfl, hx0⟩ := open_opsU (hval 0 _ v0 rfl rfl) w0 h0 lt0 u0
  refine (walk W hx0).mono fun e W' ⟨he, bel⟩ => ?_
  subst he
  exact ⟨_, rfl, _, _, _, [], _, [], hW', trodAll_mk1 (shut_bool Try.underlying4 _), (trodAll_cons_mk (Below.trod laidOut (by kernel_rfl) (of_decide_eq_true (by kernel_rfl)) k0 bel lt0) trodAll_mk0), rfl, bel.frame _, fun h => by cases h⟩

set_option maxRecDepth 100000 in
theorem lifted (os : Os) (started : os.Started) (H : Type) (enc : TypeId × Value → H) (F : Stop.Interp) :
    ReturnsInHanded {} Try.checked os 7 .any ((Rows.OpenSpec.upto Rows.wireThereSpec).pre6 enc Try.prog Try.f7 Rows.wireThereUptoRow.domain false) (((Rows.OpenSpec.upto Rows.wireThereSpec).at F).post enc Try.prog Try.f7 false true false false) := by
  refine returnsInHanded_of_cond_sized (C := Try.checked) (s := (Rows.OpenSpec.upto Rows.wireThereSpec)) (k := Rows.uptoSmall) rfl own started (by kernel_rfl) Try.func7
    (OpenSpec.witness (enc := enc) (C := Try.checked) (s := (Rows.OpenSpec.upto Rows.wireThereSpec)) (k := Rows.uptoSmall) rfl false ⟨#[], #[.slice none 0 0], []⟩ 8 (by kernel_rfl) (by kernel_rfl) (by kernel_rfl)
      (x := ([.nil], [], [])) (by kernel_rfl) rfl (by kernel_rfl)) ?_
  intro W base args ds gs before hval hW _ hk hsz _
  exact contract H enc W base args ds gs before hval hW hk hsz

/-- THE STATEMENT -/
theorem proved : Rows.WireThereUptoSaid :=
  OpenClaim.holds_of_cond 7 Try.f7 rfl rfl rfl rfl rfl rfl rfl ⟨rfl, rfl, rfl, rfl, rfl⟩ rfl rfl rfl rfl rfl (by kernel_rfl) Try.func7 (by kernel_rfl)
    (of_decide_eq_true (by kernel_rfl)) (by unfold Func.isWrapper; rw [if_neg (of_decide_eq_false (by kernel_rfl))]; exact ⟨rfl, rfl⟩)
    (fun os started H enc _ F => lifted os started H enc F)
end Go.Proofs.Ytgmgdjjfchfleaa.wireThere

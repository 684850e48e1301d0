/- For all bytes and all scripts: the Reader answers every read, and tells what is left and its first error, exactly as the document's Reader does. -/
import Derived.Test.YtehhffbnmgdpeaaOpen
import Derived.Test.YtehhffbnmgdpeaaRows
import Derived.Test.YtehhffbnmgdpeaaRefRNum
import Derived.Test.YtehhffbnmgdpeaaSpoil
import Derived.Test.YtehhffbnmgdpeaaOps
import Derived.Deep.RegionHeld3
import Derived.Deep.Cut
namespace Go.Proofs.Ytehhffbnmgdpeaa.wireReads
open Go.ChangeShapes Go.WideShapes Go.ChangeAt Go.RowKit
open Go.ChangeMaps (open_string shut_string)
set_option linter.unusedVariables false

set_option maxRecDepth 100000 in
set_option maxHeartbeats 1000000 in
theorem walk (w : World) {A0 : Option Addr} {cap : Nat} {bs : List Nat} (r : RB w w.heap.size A0 bs) (hc : bs.length ≤ cap) (hm : cap ≤ 140737488351232)
    {A : Option Addr} {n c : Nat} (hx : ∃ L : List Opv, L.length = n ∧ Ops w w.heap.size A L ∧ n ≤ 140737488351232) :
    Calls Try.prog 6 #[.slice A0 bs.length cap, .slice A n c] w fun e w' => e = .returned (.bool true) ∧ Below w.heap.size w w' := by
  obtain ⟨L, hL, ho, hn⟩ := hx
  have hml : Hid (bs.length ≤ maxLen) := Lib.hid (by unfold maxLen; omega)
  go_enter Try.func6, Try.ntmps6
  go_wp2_with fail
  refine (speaks_any w).mono ?_
  rintro e w1 ⟨rfl, hb1⟩
  go_wp2_with fail
  refine (Copy_any A0 cap w.heap.size bs w1 (r.below hb1) hb1.size (by omega)).mono ?_
  rintro e w2 ⟨v2, rfl, hi2, hb2⟩
  obtain ⟨Ai, ci, rfl, -, -, hri, ui⟩ := hi2.form
  have Ui := Lib.hid ui
  have hB2 := hb1.trans (hb2.mono hb1.size)
  have hs1 := hb1.size
  have hs2 := hb2.size
  clear ui
  go_wp2_with fail
  refine (NewReader_any Ai ci w2.heap.size bs w2 hri (Nat.le_refl _) (by omega)).mono ?_
  rintro e w3 ⟨g, q, rfl, R3, hb3⟩
  have hB3 := hB2.trans (hb3.mono hB2.size)
  have hi3 := hi2.below' hb3
  have hs3 := hb3.size
  have hlg := R3.lt
  go_wp2_with fail
  refine (same_yes Ai A0 bs.length ci cap _ _ bs w3 hi3.reads.2.1 (r.below hB3) rfl hml.out).mono ?_
  rintro e w4 ⟨rfl, n1, hw4⟩
  obtain ⟨R4, hi4, hB4, hs4⟩ : Rd w4 w2.heap.size g q bs 0 ∧ OB w4 w1.heap.size 5 (.slice Ai bs.length ci) bs ∧ Below w.heap.size w w4 ∧ w3.heap.size ≤ w4.heap.size := by
    subst hw4
    exact ⟨R3, hi3, below_drewN hB3 n1, Nat.le_refl _⟩
  clear hw4 R3 hi3 hB3 hi2 hb2 hB2 hb3
  go_wp2_with fail
  refine (spoil_any w1.heap.size (.slice Ai bs.length ci) bs 238 w4 hi4 (by omega) (by omega) (by omega)).mono ?_
  rintro e w5 ⟨rfl, -, hg5⟩
  have hs5 := hg5.size
  have R5 : Rd w5 w2.heap.size g q bs 0 := R4.only (Only.of_grown hg5) (fun e => by have := (Ui.out g e).2; omega) (fun e => by have := (Ui.out q e).2; omega)
  have hB5 : Below w.heap.size w w5 := Only.belowTrans hB4 (Only.of_grown hg5) (Nat.le_refl _) fun k _ hk => by have := (Ui.out k hk).1; omega
  clear R4 hi4 hB4 hg5
  go_wp2_with fail
  have hs6 : Hid (w5.heap.size < (w5.alloc (.cells #[.slice A0 bs.length cap, .int .i64 0, .int .i64 0] 57)).heap.size) := Lib.hid (by simp)
  go_loopw [34] (fun i wr => ∃ (k j : Nat) (err : Int), k ≤ n ∧ i = .int .i64 k ∧ Rd wr w2.heap.size g q (lf bs j err) err ∧ Rf wr w2.heap.size w5.heap.size A0 cap bs j err ∧ Below w.heap.size w wr) (fun i _ => n - (intOf i).toNat)
  case atStart =>
    refine ⟨0, 0, 0, Nat.zero_le _, rfl, ?_, ⟨Blk.new _ _ _, by omega, Nat.zero_le _⟩, hB5.alloc hB5.size _⟩
    rw [lf_ok, List.drop_zero]
    exact R5.below ((Below.refl _ _).alloc (Nat.le_refl _) _)
  case round =>
    obtain ⟨k, j, err, hk, rfl, R6, F6, hB6⟩ := hrel
    by_cases hlt : k < n
    · have hkL : k < L.length := by omega
      obtain ⟨b, off, rfl, hbB, A', c', q0, q1, q2, q3, hrb, hlc, hcm, hr0, hr1, hr2⟩ := ho k _ (opAt_get hkL)
      generalize opAt L k = o at *
      obtain ⟨kd, wd, nm, ds⟩ := o
      simp only at q0 q1 q2 q3 hrb hlc hr0 hr1 hr2
      replace q0 := (hB6.cell (p := ⟨b, off + k * 4, none⟩) hbB).trans q0
      replace q1 := (hB6.cell (p := ⟨b, off + k * 4 + 1, none⟩) hbB).trans q1
      replace q2 := (hB6.cell (p := ⟨b, off + k * 4 + 2, none⟩) hbB).trans q2
      replace q3 := (hB6.cell (p := ⟨b, off + k * 4 + 3, none⟩) hbB).trans q3
      clear hrb
      have hlg6 := R6.lt
      have hgm := F6.1.lt
      have hlb : (lf bs j err).length ≤ bs.length := by
        unfold lf
        split
        · rw [List.length_drop]; omega
        · simp
      have hll : (lf bs j err).length ≤ 140737488355328 := by omega
      have hk4 : bits .and .i64 kd 3 = 0 ∨ bits .and .i64 kd 3 = 1 ∨ bits .and .i64 kd 3 = 2 ∨ (bits .and .i64 kd 3 ≠ 0 ∧ bits .and .i64 kd 3 ≠ 1 ∧ bits .and .i64 kd 3 ≠ 2) := by omega
      have hbl : bs.length ≤ 140737488355328 := by omega
      rcases hk4 with hk0 | hk1 | hk2 | hk4
      case' inl =>
        go_wp2_with fail
        obtain ⟨wo, hwo⟩ : ∃ x, x = wr.alloc (.cells #[.int .i64 kd, .int .i64 wd, .int .u64 (nm : Int), .slice A' ds.length c'] 45) := ⟨_, rfl⟩
        rw [← hwo]
        have R7 : Rd wo w2.heap.size g q (lf bs j err) err := by subst hwo; exact R6.below ((Below.refl _ _).alloc (Nat.le_refl _) _)
        have F7 : Rf wo w2.heap.size w5.heap.size A0 cap bs j err := by subst hwo; exact F6.below ((Below.refl _ _).alloc (Nat.le_refl _) _)
        have hB7 : Below w.heap.size w wo := by subst hwo; exact hB6.alloc hB6.size _
        have Bo : Blk wo wr.heap.size 45 #[.int .i64 kd, .int .i64 wd, .int .u64 (nm : Int), .slice A' ds.length c'] := by subst hwo; exact Blk.new _ _ _
        have hso : wr.heap.size < wo.heap.size := Bo.lt
        clear hwo R6 F6 hB6 q0 q1 q2 q3
        refine (RNum_any w2.heap.size g q (lf bs j err) err wd wo R7).mono ?_
        rintro e w8 ⟨rfl, R8, ho8⟩
        have hs8 := ho8.size
        have B8 := Bo.only ho8 (fun (e : wr.heap.size = g) => by omega)
        have F8 := F7.only ho8 (fun (e : w5.heap.size = g) => by omega)
        have hB8 : Below w.heap.size w w8 := ho8.belowTrans hB7 (Nat.le_refl _) (fun k _ (hk : k = g) => by omega)
        have q8 : w8.cell? ⟨wr.heap.size, 1, none⟩ = some (.int .i64 wd) := by rw [B8.cell 1]; rfl
        clear R7 F7 hB7 Bo ho8 B8
        have hg8 : w.heap.size ≤ w8.heap.size := hB8.size
        go_wp2_with fail
        refine (FNum_any w2.heap.size w5.heap.size A0 cap w.heap.size bs j err wd w8 F8 (r.below hB8) hg8 hc (by omega) hr1.1 hr1.2).mono ?_
        rintro e wt ⟨rfl, j', err', F9, hl9, he9, ho9⟩
        have R9 := Rd.only R8 ho9 (fun (e : g = w5.heap.size) => by omega) (fun (e : q = w5.heap.size) => by omega)
        rw [← hl9, ← he9] at R9
        have hB9 : Below w.heap.size w wt := ho9.belowTrans hB8 (Nat.le_refl _) (fun k _ (hk : k = w5.heap.size) => by omega)
        have hs9 := ho9.size
        clear hl9 he9 ho9 R8 F8 hB8 q8
        generalize getVal (lf bs j err) 0 wd = gv at *
        have hne : ((gv : Int) != (gv : Int)) = false := by simp
        go_upto_region 26 with fail
      case' inr.inl =>
        go_wp2_with fail
        obtain ⟨wo, hwo⟩ : ∃ x, x = wr.alloc (.cells #[.int .i64 kd, .int .i64 wd, .int .u64 (nm : Int), .slice A' ds.length c'] 45) := ⟨_, rfl⟩
        rw [← hwo]
        have R7 : Rd wo w2.heap.size g q (lf bs j err) err := by subst hwo; exact R6.below ((Below.refl _ _).alloc (Nat.le_refl _) _)
        have F7 : Rf wo w2.heap.size w5.heap.size A0 cap bs j err := by subst hwo; exact F6.below ((Below.refl _ _).alloc (Nat.le_refl _) _)
        have hB7 : Below w.heap.size w wo := by subst hwo; exact hB6.alloc hB6.size _
        have Bo : Blk wo wr.heap.size 45 #[.int .i64 kd, .int .i64 wd, .int .u64 (nm : Int), .slice A' ds.length c'] := by subst hwo; exact Blk.new _ _ _
        have hso : wr.heap.size < wo.heap.size := Bo.lt
        clear hwo R6 F6 hB6 q0 q1 q2 q3
        refine (RNum_any w2.heap.size g q (lf bs j err) err wd wo R7).mono ?_
        rintro e w8 ⟨rfl, R8, ho8⟩
        have hs8 := ho8.size
        have B8 := Bo.only ho8 (fun (e : wr.heap.size = g) => by omega)
        have F8 := F7.only ho8 (fun (e : w5.heap.size = g) => by omega)
        have hB8 : Below w.heap.size w w8 := ho8.belowTrans hB7 (Nat.le_refl _) (fun k _ (hk : k = g) => by omega)
        have q8 : w8.cell? ⟨wr.heap.size, 1, none⟩ = some (.int .i64 wd) := by rw [B8.cell 1]; rfl
        clear R7 F7 hB7 Bo ho8 B8
        have hg8 : w.heap.size ≤ w8.heap.size := hB8.size
        go_wp2_with fail
        refine (FNum_any w2.heap.size w5.heap.size A0 cap w.heap.size bs j err wd w8 F8 (r.below hB8) hg8 hc (by omega) hr1.1 hr1.2).mono ?_
        rintro e wt ⟨rfl, j', err', F9, hl9, he9, ho9⟩
        have R9 := Rd.only R8 ho9 (fun (e : g = w5.heap.size) => by omega) (fun (e : q = w5.heap.size) => by omega)
        rw [← hl9, ← he9] at R9
        have hB9 : Below w.heap.size w wt := ho9.belowTrans hB8 (Nat.le_refl _) (fun k _ (hk : k = w5.heap.size) => by omega)
        have hs9 := ho9.size
        clear hl9 he9 ho9 R8 F8 hB8 q8
        generalize getVal (lf bs j err) 0 wd = gv at *
        have hne : ((gv : Int) != (gv : Int)) = false := by simp
        go_upto_region 26 with fail
      case' inr.inr.inl =>
        go_wp2_with fail
        obtain ⟨wo, hwo⟩ : ∃ x, x = wr.alloc (.cells #[.int .i64 kd, .int .i64 wd, .int .u64 (nm : Int), .slice A' ds.length c'] 45) := ⟨_, rfl⟩
        rw [← hwo]
        have R7 : Rd wo w2.heap.size g q (lf bs j err) err := by subst hwo; exact R6.below ((Below.refl _ _).alloc (Nat.le_refl _) _)
        have F7 : Rf wo w2.heap.size w5.heap.size A0 cap bs j err := by subst hwo; exact F6.below ((Below.refl _ _).alloc (Nat.le_refl _) _)
        have hB7 : Below w.heap.size w wo := by subst hwo; exact hB6.alloc hB6.size _
        have Bo : Blk wo wr.heap.size 45 #[.int .i64 kd, .int .i64 wd, .int .u64 (nm : Int), .slice A' ds.length c'] := by subst hwo; exact Blk.new _ _ _
        have hso : wr.heap.size < wo.heap.size := Bo.lt
        clear hwo R6 F6 hB6 q0 q1 q2 q3
        refine (RRaw_any w2.heap.size g q (lf bs j err) err wd wo R7 hll).mono ?_
        rintro e w8 ⟨v8, rfl, x8, R8, ho8⟩
        have hs8 := ho8.size
        have B8 := Bo.only ho8 (fun (e : wr.heap.size = g) => by omega)
        have F8 := F7.only ho8 (fun (e : w5.heap.size = g) => by omega)
        have hB8 : Below w.heap.size w w8 := ho8.belowTrans hB7 (Nat.le_refl _) (fun k _ (hk : k = g) => by omega)
        have q8 : w8.cell? ⟨wr.heap.size, 1, none⟩ = some (.int .i64 wd) := by rw [B8.cell 1]; rfl
        clear R7 F7 hB7 Bo ho8 B8
        have hg8 : w.heap.size ≤ w8.heap.size := hB8.size
        go_wp2_with fail
        refine (FRaw_any w2.heap.size w5.heap.size A0 cap w.heap.size bs j err wd w8 F8 (r.below hB8) hg8 hc (by omega) hr1.1 hr1.2).mono ?_
        rintro e w9 ⟨v9, rfl, x9, j', err', F9, hl9, he9, ho9⟩
        have R9 := Rd.only R8 ho9 (fun (e : g = w5.heap.size) => by omega) (fun (e : q = w5.heap.size) => by omega)
        rw [← hl9, ← he9] at R9
        have hB9 : Below w.heap.size w w9 := ho9.belowTrans hB8 (Nat.le_refl _) (fun k _ (hk : k = w5.heap.size) => by omega)
        have hs9 := ho9.size
        have y8 : OB w9 wo.heap.size 5 v8 (rawVal (lf bs j err) wd) := x8.only ho9 (fun k hk (e : k = w5.heap.size) => by have := (x8.2.lt k hk).1; omega)
        have hvl : (rawVal (lf bs j err) wd).length ≤ bs.length := by
          unfold rawVal
          split
          · rw [List.length_take]; omega
          · simp
        clear hl9 he9 ho9 R8 F8 hB8 q8 x8
        generalize rawVal (lf bs j err) wd = rv at *
        obtain ⟨A8, c8, rfl, -, -, r8, -⟩ := y8.form
        obtain ⟨A9, c9, rfl, -, -, r9, -⟩ := x9.form
        have Y8 := Lib.hid y8
        have U8 := Lib.hid y8.2.lt
        have hml8 : Hid (rv.length ≤ maxLen) := Lib.hid (by unfold maxLen; omega)
        clear x9 y8
        go_wp2_with fail
        refine (same_yes A8 A9 rv.length c8 c9 _ _ rv w9 r8 r9 rfl hml8.out).mono ?_
        rintro e w10 ⟨rfl, n3, hw10⟩
        obtain ⟨R10, F10, Y10, hB10, hs10⟩ : Rd w10 w2.heap.size g q (lf bs j' err') err' ∧ Rf w10 w2.heap.size w5.heap.size A0 cap bs j' err' ∧ OB w10 wo.heap.size 5 (.slice A8 rv.length c8) rv ∧ Below w.heap.size w w10 ∧ w9.heap.size ≤ w10.heap.size := by
          subst hw10
          exact ⟨R9, F9, Y8.out, below_drewN hB9 n3, Nat.le_refl _⟩
        clear hw10 R9 F9 hB9 r8 r9 Y8
        go_wp2_with fail
        refine (spoil_any wo.heap.size (.slice A8 rv.length c8) rv 238 w10 Y10 (by omega) (by omega) (by omega)).mono ?_
        rintro e wt ⟨rfl, -, hg11⟩
        have F9 : Rf wt w2.heap.size w5.heap.size A0 cap bs j' err' := F10.only (Only.of_grown hg11) (fun e => by have := (U8.out _ e).1; omega)
        have R9 : Rd wt w2.heap.size g q (lf bs j' err') err' := R10.only (Only.of_grown hg11) (fun e => by have := (U8.out _ e).1; omega) (fun e => by have := (U8.out _ e).1; omega)
        have hB9 : Below w.heap.size w wt := Only.belowTrans hB10 (Only.of_grown hg11) (Nat.le_refl _) fun k _ hk => by have := (U8.out k hk).1; omega
        clear Y10 R10 F10 hB10 hg11 U8
        go_upto_region 26 with fail
      case' inr.inr.inr =>
        have hk0 : (bits .and .i64 kd 3 == 0) = false := by simpa using hk4.1
        have hk1 : (bits .and .i64 kd 3 == 1) = false := by simpa using hk4.2.1
        have hk2 : (bits .and .i64 kd 3 == 2) = false := by simpa using hk4.2.2
        clear hk4
        go_wp2_with fail
        obtain ⟨wo, hwo⟩ : ∃ x, x = wr.alloc (.cells #[.int .i64 kd, .int .i64 wd, .int .u64 (nm : Int), .slice A' ds.length c'] 45) := ⟨_, rfl⟩
        rw [← hwo]
        have R7 : Rd wo w2.heap.size g q (lf bs j err) err := by subst hwo; exact R6.below ((Below.refl _ _).alloc (Nat.le_refl _) _)
        have F7 : Rf wo w2.heap.size w5.heap.size A0 cap bs j err := by subst hwo; exact F6.below ((Below.refl _ _).alloc (Nat.le_refl _) _)
        have hB7 : Below w.heap.size w wo := by subst hwo; exact hB6.alloc hB6.size _
        have Bo : Blk wo wr.heap.size 45 #[.int .i64 kd, .int .i64 wd, .int .u64 (nm : Int), .slice A' ds.length c'] := by subst hwo; exact Blk.new _ _ _
        have hso : wr.heap.size < wo.heap.size := Bo.lt
        clear hwo R6 F6 hB6 q0 q1 q2 q3
        refine (End_any w2.heap.size g q (lf bs j err) err wo R7).mono ?_
        rintro e w8 ⟨rfl, n3, hw8⟩
        obtain ⟨R8, F8, hB8⟩ : Rd w8 w2.heap.size g q (lf bs j err) err ∧ Rf w8 w2.heap.size w5.heap.size A0 cap bs j err ∧ Below w.heap.size w w8 := by
          subst hw8
          exact ⟨R7, F7, below_drewN hB7 n3⟩
        clear hw8 R7 F7 hB7 Bo
        go_wp2_with fail
        refine (FEnd_any w2.heap.size w5.heap.size A0 cap bs j err w8 F8 hbl).mono ?_
        rintro e wt ⟨rfl, n4, hw9⟩
        obtain ⟨R9, F9, hB9⟩ : Rd wt w2.heap.size g q (lf bs j err) err ∧ Rf wt w2.heap.size w5.heap.size A0 cap bs j err ∧ Below w.heap.size w wt := by
          subst hw9
          exact ⟨R8, F8, below_drewN hB8 n4⟩
        clear hw9 R8 F8 hB8
        obtain ⟨j', hj'⟩ : ∃ x, x = j := ⟨_, rfl⟩
        obtain ⟨err', herr'⟩ : ∃ x, x = err := ⟨_, rfl⟩
        rw [← hj', ← herr'] at R9 F9 ⊢
        clear hj' herr'
        generalize endOf (lf bs j' err').length err' = gv at *
        have hne : (gv != gv) = false := by simp
        go_upto_region 26 with fail
      all_goals
        clear r ho hL hc hm hcm hlc hr0 hr1 hr2
        obtain ⟨ln, hln⟩ : ∃ x, x = (lf bs j' err').length := ⟨_, rfl⟩
        have hne2 : ((ln : Int) != (ln : Int)) = false := by simp
        have hne3 : (err' != err') = false := by simp
        have HL := Lib.hid (Left_any w2.heap.size g q (lf bs j' err') err' (wt.drewN 1) R9)
        have HF := Lib.hid (FLeft_any w2.heap.size w5.heap.size A0 cap bs j' err' (wt.drewN 1) F9 hbl)
        rw [← hln] at HL HF
        have q9 : wt.cell? ⟨w5.heap.size, 2, none⟩ = some (.int .i64 err') := by rw [F9.1.cell 2]; rfl
        go_region_held3 (fun w' => w'.cell? ⟨w5.heap.size, 2, none⟩ = some (.int .i64 err')) (go_keep)
          (first
            | (go_at_call 31; refine (HL.out).mono ?_; rintro e w' ⟨rfl, rfl⟩)
            | (go_at_call 32; refine (HF.out).mono ?_; rintro e w' ⟨rfl, n5, rfl⟩)
            | (go_at_call 33; refine (Err_any w2.heap.size g q (lf bs j' err') err' _ (Rd.drewN R9 (1 + n5))).mono ?_; rintro e w' ⟨rfl, rfl⟩))
        go_wp2
        go_roundw
        case rel => exact ⟨k + 1, j', err', by omega, by go_num, R9, F9, below_drewN hB9 _⟩
        case measure => simp [intOf]; omega
    · obtain rfl : k = n := by omega
      obtain ⟨w6, rfl⟩ : ∃ x : World, x = wr := ⟨_, rfl⟩
      have hbl : bs.length ≤ 140737488355328 := by omega
      go_wp2_with fail
      refine (End_any w2.heap.size g q (lf bs j err) err w6 R6).mono ?_
      rintro e w8 ⟨rfl, n3, hw8⟩
      obtain ⟨F8, hB8⟩ : Rf w8 w2.heap.size w5.heap.size A0 cap bs j err ∧ Below w.heap.size w w8 := by
        subst hw8
        exact ⟨F6, below_drewN hB6 n3⟩
      clear hw8
      go_wp2_with fail
      refine (FEnd_any w2.heap.size w5.heap.size A0 cap bs j err w8 F8 hbl).mono ?_
      rintro e wt ⟨rfl, n4, rfl⟩
      generalize endOf (lf bs j err).length err = gv at *
      have hne : (gv == gv) = true := by simp
      go_wp2
      go_ret
      exact ⟨rfl, below_drewN hB8 n4⟩

/-! ### THE ROW's STEP -/
theorem own : ownKnob Try.prog.godebug = none := by kernel_rfl
theorem laidOut : laidOutB Try.prog = true := by kernel_rfl

theorem contract (H : Type) (enc : TypeId × Value → H) (W : World) (base : Nat) (args : Array Value) (ds gs : List (DataW H)) (before : List MemPlace)
    (hval0 : ∀ (j : Nat) t v, Try.f6.params[j]? = some t → args[j]? = some v → Value.okWide Try.prog W .any base t v)
    (hW : DataW.Whole enc Try.prog Try.f6.params.toList Rows.wireReadsSpec.vars false W args.toList ds gs before)
    (hsz : (DataW.weightsEach Try.prog (Try.f6.params.toList ++ (OpenSpec.ofChange Rows.wireReadsSpec).bare.plain.varTypes Try.prog) (ds ++ gs)).all (· ≤ reachBytes) = true) :
    Calls Try.prog 6 args W fun e W' => ∃ v, e = .returned v ∧ Rows.wireReadsSpec.post enc Try.prog Try.f6 false true false false W args v W' := by
  have hval : ∀ (j : Nat) t v, Try.f6.params[j]? = some t → args[j]? = some v → Value.okWide Try.prog W .any base t v := hval0
  have hW' := hW
  obtain ⟨p, q, hA0, hV, rfl, hfz, hnd⟩ := hW
  have hA : DataW.TrodAll enc Try.prog W 0 (fun _ => true) true Try.f6.params.toList args.toList ds p := hA0
  rw [Try.params6] at hA hval
  obtain ⟨v0, vs0, d0, ds0, p0, q0, hargs, rfl, rfl, h0, r0⟩ := trodAll_cons hA
  obtain ⟨v1, vs1, d1, ds1, p1, q1, rfl, rfl, rfl, h1, r1⟩ := trodAll_cons r0
  obtain ⟨rfl, rfl, rfl⟩ := trodAll_nil r1
  obtain rfl : args = #[v0, v1] := by cases args; simp_all
  obtain ⟨rfl, rfl⟩ := trodVars_none hV
  have k0 := h0
  have lt0 : ∀ x ∈ p0, x.block < W.heap.size := by obtain ⟨m, hm⟩ := k0; exact DataW.trod_lt m _ _ _ hm
  have w0 := reach_at hsz (j := 0) rfl rfl
  have k1 := h1
  have lt1 : ∀ x ∈ p1, x.block < W.heap.size := by obtain ⟨m, hm⟩ := k1; exact DataW.trod_lt m _ _ _ hm
  have w1 := reach_at hsz (j := 1) rfl rfl
  clear hA0 hval0 hsz
  obtain ⟨A0, n0, c0, rfl⟩ := okWide_slice Try.underlying22 (hval 0 22 v0 rfl rfl)
  obtain ⟨b0, rfl, rb0, cb0, mb0⟩ := open_bytes Try.underlying22 Try.underlying5 (by kernel_rfl) (by kernel_rfl) w0 h0
  obtain ⟨A1, n1, c1, rfl, hx1⟩ := open_opsR (hval 1 _ v1 rfl rfl) w1 h1 lt1
  refine (walk W rb0 cb0 mb0 hx1).mono fun e W' ⟨he, bel⟩ => ?_
  subst he
  exact ⟨_, rfl, _, _, _, [], _, [], hW', trodAll_mk1 (shut_bool Try.underlying4 _), (trodAll_cons_mk (Below.trod laidOut (by kernel_rfl) (of_decide_eq_true (by kernel_rfl)) k0 bel lt0) (trodAll_cons_mk (Below.trod laidOut (by kernel_rfl) (of_decide_eq_true (by kernel_rfl)) k1 bel lt1) trodAll_mk0)), rfl, bel.frame _, fun h => by cases h⟩

set_option maxRecDepth 100000 in
theorem lifted (os : Os) (started : os.Started) (H : Type) (enc : TypeId × Value → H) :
    ReturnsInHanded {} Try.checked os 6 .any (Rows.wireReadsSpec.pre6 enc Try.prog Try.f6 Rows.wireReadsRow.domain false) (Rows.wireReadsSpec.post enc Try.prog Try.f6 false true false false) := by
  refine returnsInHanded_of_change_sized (C := Try.checked) own started (by kernel_rfl) Try.func6
    (ChangeSpec.witness6 (enc := enc) (C := Try.checked) false ⟨#[], #[.slice none 0 0, .slice none 0 0], []⟩ 8 (by kernel_rfl) (by kernel_rfl) (by kernel_rfl) (by kernel_rfl)) ?_
  intro W base args ds gs before hval hW _ hsz _
  exact contract H enc W base args ds gs before hval hW hsz

/-- THE STATEMENT -/
theorem proved : Rows.WireReadsSaid :=
  OpenClaim.holds_of_wide 6 Try.f6 rfl rfl rfl rfl rfl rfl rfl ⟨rfl, rfl, rfl, rfl, rfl⟩ rfl rfl rfl rfl rfl (by kernel_rfl) Try.func6 (by kernel_rfl)
    (of_decide_eq_true (by kernel_rfl)) (by unfold Func.isWrapper; rw [if_neg (of_decide_eq_false (by kernel_rfl))]; exact ⟨rfl, rfl⟩)
    (fun os started H enc _ => lifted os started H enc)
end Go.Proofs.Ytehhffbnmgdpeaa.wireReads

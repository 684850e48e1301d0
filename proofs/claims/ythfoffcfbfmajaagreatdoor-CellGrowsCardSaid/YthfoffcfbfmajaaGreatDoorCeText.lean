/- cell: strings.ReplaceAll of one byte, formatTexts. -/
import Derived.Test.YthfoffcfbfmajaaGreatDoorCePure
import Derived.Test.YthfoffcfbfmajaaGreatDoorCsMw
import Derived.Lib.SplitLaws
import Derived.Lib.CountLaws
import Derived.Test.YthfoffcfbfmajaaGreatDoorCsBuild
namespace Go.Proofs.YthfoffcfbfmajaaGreatDoor
open Go.RowKit
set_option linter.unusedVariables false

theorem ReplAll_any (c : UInt8) (new : Bs) (s : ByteArray) (w : World) (hM : MW w) (hs : s.size ≤ 1073741824) (hn : [c] ≠ new) (hl : new.length ≤ 2) :
    Calls Tryz.prog 46 #[.string s, .string (mkS [c]), .string (mkS new)] w fun e w' => e = .returned (.string (mkS (rep c new (lS s)))) ∧ Below w.heap.size w w' := by
  obtain ⟨m, hm⟩ := hM
  have hcl : Lib.countB s (mkS [c]) ≤ s.size := by
    have h1 : Lib.countB s (mkS [c]) = (lS s).count c := Lib.count_one c s.data.toList
    rw [h1, ← lS_len]
    exact List.count_le_length
  have hns : (mkS new).size ≤ 2 := by rw [mkS_size]; exact hl
  have hmul : Lib.countB s (mkS [c]) * (mkS new).size ≤ s.size * 2 := Nat.mul_le_mul hcl hns
  refine (Tryz.strings_ReplaceAll s (mkS [c]) (mkS new) m w (by omega) hm (by rw [mkS_size]; exact Nat.le_refl 1) (by omega)).mono ?_
  rintro e w2 ⟨rfl, h2⟩
  refine ⟨?_, h2⟩
  have e := replaceAll_rep c new (lS s) hn
  unfold lS at e
  show Ending.returned (.string ⟨(Lib.replaceAll s.data.toList [c] new).toArray⟩) = _
  rw [e]
  rfl
theorem rep_len (c : UInt8) (new : Bs) (h : new.length ≤ 2) (l : Bs) : (rep c new l).length ≤ 2 * l.length := by
  induction l with
  | nil => exact Nat.le_refl _
  | cons x l ih =>
    have e : rep c new (x :: l) = (if x = c then new else [x]) ++ rep c new l := rfl
    rw [e, List.length_append, List.length_cons]
    split <;> simp <;> omega
def textsW (ts : Rw) : Nat := (ts.map fun t => 2 * t.size + 1).sum
theorem formsT_len (ts : Rw) : (formsT (ts.map lS)).length ≤ textsW ts := by
  unfold formsT textsW
  induction ts with
  | nil => exact Nat.le_refl _
  | cons t ts ih =>
    have h1 := esc_len (lS t)
    rw [lS_len] at h1
    simp only [List.map_cons, List.flatMap_cons, List.length_append, List.sum_cons, List.length_cons, List.length_nil]
    omega
theorem textsW_take (ts : Rw) (k : Nat) : textsW (ts.take k) ≤ textsW ts := by
  have h : textsW ts = textsW (ts.take k) + textsW (ts.drop k) := by
    conv => lhs; rw [← List.take_append_drop k ts]
    unfold textsW
    rw [List.map_append, List.sum_append]
  omega
theorem textsW_mem {t : ByteArray} : ∀ {ts : Rw}, t ∈ ts → 2 * t.size + 1 ≤ textsW ts
  | g :: ts, h => by
    have e : textsW (g :: ts) = 2 * g.size + 1 + textsW ts := by simp [textsW]
    rcases List.mem_cons.1 h with rfl | h
    · omega
    · have := textsW_mem h
      omega
theorem textsW_len : ∀ ts : Rw, ts.length ≤ textsW ts
  | [] => Nat.le_refl _
  | t :: ts => by
    have e : textsW (t :: ts) = 2 * t.size + 1 + textsW ts := by simp [textsW]
    have := textsW_len ts
    rw [e, List.length_cons]
    omega
theorem formsT_snoc (a : List Bs) (t : Bs) : formsT (a ++ [t]) = formsT a ++ (esc t ++ [59]) := by simp [formsT]
set_option maxHeartbeats 1000000 in
theorem formatTexts_any (A : Option Addr) (c B : Nat) (ts : Rw) (w : World) (hM : MW w) (hr : RL svl w B A ts) (hB : B ≤ w.heap.size) (hsz : textsW ts ≤ 1073741824) :
    Calls Tryz.prog 29 #[.slice A ts.length c] w fun e w' => e = .returned (.string (mkS (formsT (ts.map lS)))) ∧ Below w.heap.size w w' := by
  have HM := Lib.hid hM
  have HR := Lib.hid hr
  have HZ := Lib.hid hsz
  have HB := Lib.hid hB
  have HP := Lib.hid hM.pos
  have hbd := Bd.fresh w w.heap.size rfl
  have H0 : Hid (∃ W, W = w.alloc (.cells #[.pointer none, .slice none 0 0] 79) ∧ Bd w.heap.size w.heap.size [] W ∧ Below w.heap.size w W) := Lib.hid ⟨_, rfl, hbd, (Below.refl _ _).alloc (Nat.le_refl _) _⟩
  have hlm : ts.length ≤ 1073741824 := by have := textsW_len ts; omega
  clear hM hr hsz hB hbd
  go_enter Tryz.func29, Tryz.ntmps29
  go_wp2
  go_loopw [8] (fun i wr => ∃ k : Nat, k ≤ ts.length ∧ i = .int .i64 k ∧ Hid (Bd w.heap.size w.heap.size (formsT ((ts.take k).map lS)) wr) ∧ Hid (Below w.heap.size w wr)) (fun i _ => ts.length - (intOf i).toNat)
  case atStart =>
    obtain ⟨W, rfl, h1, h2⟩ := H0.out
    exact ⟨0, Nat.zero_le _, rfl, Lib.hid h1, Lib.hid h2⟩
  case round =>
    obtain ⟨k, hk, rfl, HD, HW⟩ := hrel
    clear H0
    by_cases hlt : k < ts.length
    · have hrs := HR.out.below' HW.out HB.out
      obtain ⟨g, off, rfl, hg, hcell⟩ := hrs.allD (by omega)
      have hc1 : wr.cell? ⟨g, off + k, none⟩ = some (.string (nthD ts k)) := hcell k hlt
      have HTK : Hid ((ts.take (k + 1)).map lS = (ts.take k).map lS ++ [lS (nthD ts k)]) := Lib.hid (by rw [takeD_succ hlt]; simp)
      have hme := textsW_mem (nthD_mem hlt)
      have HTL : Hid ((formsT ((ts.take k).map lS)).length ≤ 1073741824) := Lib.hid (by
        have h1 := formsT_len (ts.take k)
        have h2 := textsW_take ts k
        have h3 := HZ.out
        omega)
      have hts : (nthD ts k).size ≤ 536870912 := by
        have := HZ.out
        omega
      clear hcell hrs hme
      generalize nthD ts k = t at *
      have hr1 : (rep 92 [92, 92] (lS t)).length ≤ 2 * t.size := by rw [← lS_len]; exact rep_len _ _ (by decide) _
      have HR1 : Hid (∀ w', Below w.heap.size w w' → Calls Tryz.prog 46 #[.string t, .string ⟨#[92]⟩, .string ⟨#[92, 92]⟩] w' fun e w2 => e = .returned (.string (mkS (rep 92 [92, 92] (lS t)))) ∧ Below w'.heap.size w' w2) := Lib.hid fun w' hb =>
        ReplAll_any 92 [92, 92] t w' (HM.out.below hb HP.out) (by omega) (by decide) (by decide)
      have HR2 : Hid (∀ w', Below w.heap.size w w' → Calls Tryz.prog 46 #[.string (mkS (rep 92 [92, 92] (lS t))), .string ⟨#[59]⟩, .string ⟨#[92, 59]⟩] w' fun e w2 => e = .returned (.string (mkS (esc (lS t)))) ∧ Below w'.heap.size w' w2) := Lib.hid fun w' hb => by
        have h := ReplAll_any 59 [92, 59] (mkS (rep 92 [92, 92] (lS t))) w' (HM.out.below hb HP.out) (by rw [mkS_size]; omega) (by decide) (by decide)
        rw [lS_mk, esc_rep] at h
        exact h
      generalize mkS (rep 92 [92, 92] (lS t)) = D1 at HR1 HR2
      have hes : (esc (lS t)).length ≤ 1073741824 := by have := esc_len (lS t); rw [lS_len] at this; omega
      have HAP : Hid (∀ w1, Bd w.heap.size w.heap.size (formsT ((ts.take k).map lS)) w1 → Calls Tryz.prog 47 #[.pointer (some ⟨w.heap.size, 0, none⟩), .string (mkS (esc (lS t)) ++ ⟨#[59]⟩)] w1 fun e w' => (∃ v, e = .returned v) ∧ Bd w.heap.size w.heap.size (formsT ((ts.take (k + 1)).map lS)) w' ∧ Below w.heap.size w1 w') := Lib.hid fun w1 h => by
        have e : mkS (esc (lS t)) ++ (⟨#[59]⟩ : ByteArray) = mkS (esc (lS t) ++ [59]) := str_cat _ [59]
        rw [e, HTK.out, formsT_snoc]
        refine (WriteString_any _ _ _ _ w1 h (by have := HTL.out; rw [mkS_size, List.length_append, List.length_singleton]; omega)).mono ?_
        rintro e w' ⟨rfl, h1, h2⟩
        rw [lS_mk] at h1
        exact ⟨⟨_, rfl⟩, h1, h2⟩
      have hsz : (mkS (esc (lS t))).size ≤ 1073741824 := by rw [mkS_size]; exact hes
      generalize mkS (esc (lS t)) = D2 at HR2 HAP hsz
      clear hr1 hes
      go_wp2_with fail
      refine (HR1.out _ HW.out).mono ?_
      rintro e w1 ⟨rfl, hb1⟩
      have HB1 := Lib.hid (HW.out.trans (hb1.mono HW.out.size))
      have HD1 := Lib.hid (HD.out.below hb1)
      clear hb1
      go_wp2_with fail
      refine (HR2.out _ HB1.out).mono ?_
      rintro e w2 ⟨rfl, hb2⟩
      have HB2 := Lib.hid (HB1.out.trans (hb2.mono HB1.out.size))
      have HD2 := Lib.hid (HD1.out.below hb2)
      clear hb2
      go_wp2_with fail
      refine (HAP.out _ HD2.out).mono ?_
      rintro e w3 ⟨⟨v, rfl⟩, h3, hb3⟩
      have HB3 := Lib.hid (HB2.out.trans hb3)
      have HD3 := Lib.hid h3
      clear hb3 h3
      go_wp2
      go_roundw
      case rel => exact ⟨k + 1, by omega, by go_num, HD3, HB3⟩
      case measure => simp [intOf]; omega
    · have HTK : Hid (ts.take k = ts) := Lib.hid (List.take_of_length_le (by omega))
      rw [HTK.out] at HD
      have HC := Lib.hid (BString_any _ _ _ wr HD.out)
      go_wp2_with fail
      refine HC.out.mono ?_
      rintro e w1 ⟨rfl, hb1⟩
      have HB1 := Lib.hid (HW.out.trans hb1)
      clear hb1
      go_wp2
      go_ret
      exact ⟨rfl, HB1.out⟩
end Go.Proofs.YthfoffcfbfmajaaGreatDoor

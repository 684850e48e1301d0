/- Layer 5: what a text may stand for: fraction, exponent, magnitude. -/
import Derived.Test.YtdjjdhkpffjnfaaDoorNumUint
import Derived.Test.YtdjjdhkpffjnfaaDoorNumIdx
namespace Go.Proofs.YtdjjdhkpffjnfaaDoor
open Go.RowKit
set_option linter.unusedVariables false

theorem ba_list (s : ByteArray) : ∃ l : List UInt8, s = ⟨l.toArray⟩ ∧ s.data.toList = l ∧ s.size = l.length := by
  obtain ⟨⟨l⟩⟩ := s
  exact ⟨l, rfl, rfl, by simp [ByteArray.size]⟩

/-- what is known of an answer of the library's ParseUint(.., 16, 52) -/
def PU (bs : List UInt8) (w : World) (e : Ending) (w' : World) : Prop :=
  ∃ (v : Int) (X : Value), 0 ≤ v ∧ v < 4503599627370496 ∧ e = .returned (.tuple #[.int .u64 v, X]) ∧
    (bs.all isHex = true → bs.length ≤ 13 → bs ≠ [] → v = ((valx 0 bs : Nat) : Int)) ∧ Below w.heap.size w w'

set_option maxRecDepth 100000 in
set_option maxHeartbeats 1000000 in
theorem uint16_some (t : ByteArray) (hne : t.size ≠ 0) (hmax : t.size ≤ 281474976710656) (w : World) (hT : Tabs w) :
    Calls Tryd.prog 64 #[.string t, .int .i64 16, .int .i64 52] w (PU t.data.toList w) := by
  have HI := Lib.hid (uint16In t hne (by omega) w)
  have HT := Lib.hid hT
  have HS : Hid (∀ w', Below w.heap.size w w' → Calls Tryd.prog 35 #[.string ⟨#[80, 97, 114, 115, 101, 85, 105, 110, 116]⟩, .string t, .int .i64 16, .int .i64 52, .iface 64 (.int .i64 2)] w' fun e w'' => (∃ X, e = .returned X) ∧ Below w'.heap.size w' w'') := Lib.hid fun w' hb => by
    obtain ⟨tp, p, hv⟩ := (HT.out.below hb (Nat.le_refl _)).es
    have hc : w'.cell? ⟨1, 0, none⟩ = some (.iface tp p) := by
      have h0 := World.var?_cell gnEs hv 0; simpa using h0
    exact (Tryd.strconv_toError_syntax _ t 16 52 _ w' hmax hc (Or.inr ⟨tp, p, rfl⟩)).mono fun e w'' ⟨N, he, _, _, hb⟩ => ⟨⟨_, he⟩, hb⟩
  have HR : Hid (∀ w', Below w.heap.size w w' → Calls Tryd.prog 35 #[.string ⟨#[80, 97, 114, 115, 101, 85, 105, 110, 116]⟩, .string t, .int .i64 16, .int .i64 52, .iface 64 (.int .i64 1)] w' fun e w'' => (∃ X, e = .returned X) ∧ Below w'.heap.size w' w'') := Lib.hid fun w' hb => by
    obtain ⟨tp, p, hv⟩ := (HT.out.below hb (Nat.le_refl _)).er
    have hc : w'.cell? ⟨2, 0, none⟩ = some (.iface tp p) := by
      have h0 := World.var?_cell gnEr hv 0; simpa using h0
    exact (Tryd.strconv_toError_range _ t 16 52 _ w' hmax hc (Or.inr ⟨tp, p, rfl⟩)).mono fun e w'' ⟨N, he, _, _, hb⟩ => ⟨⟨_, he⟩, hb⟩
  clear hT
  go_enter Tryd.func64, Tryd.ntmps64
  go_wp2_with fail
  refine HI.out.mono ?_
  rintro e w1 ⟨v, X, h0, h1, hX, rfl, hv, hb⟩
  have Hv := Lib.hid hv
  have Hb := Lib.hid hb
  clear hv hb
  rcases hX with rfl | rfl | rfl
  · go_wp2
    go_ret2
    exact ⟨v, _, h0, h1, rfl, Hv.out, Hb.out⟩
  · go_wp2_with fail
    refine (HR.out _ Hb.out).mono ?_
    rintro e w2 ⟨⟨X, rfl⟩, hb2⟩
    go_wp2
    go_ret2
    exact ⟨v, _, h0, h1, rfl, Hv.out, Hb.out.trans (hb2.mono Hb.out.size)⟩
  · go_wp2_with fail
    refine (HS.out _ Hb.out).mono ?_
    rintro e w2 ⟨⟨X, rfl⟩, hb2⟩
    go_wp2
    go_ret2
    exact ⟨v, _, h0, h1, rfl, Hv.out, Hb.out.trans (hb2.mono Hb.out.size)⟩

/-- what is known of guessFraction's answer -/
def GF (l : List UInt8) (w : World) (e : Ending) (w' : World) : Prop :=
  ∃ v : Nat, v < 4503599627370496 ∧ e = .returned (.int .u64 v) ∧ (∀ f, f < 4503599627370496 → l = fracT f → v = f) ∧ Below w.heap.size w w'
theorem trimDot (l : List UInt8) : Lib.trimPrefix l [46] = fracD l := by
  unfold Lib.trimPrefix fracD
  cases l with
  | nil => rfl
  | cons c r =>
    by_cases e : c.toNat = 46
    · obtain rfl : c = 46 := UInt8.toNat_inj.1 (by rw [e]; rfl)
      simp [Lib.hasPrefix]
    · have e' : c ≠ 46 := fun h => e (by rw [h]; rfl)
      simp [Lib.hasPrefix, e, Ne.symm e']
theorem fracD_len (l : List UInt8) : (fracD l).length ≤ l.length := by
  unfold fracD
  split
  · exact Nat.le_refl _
  · split
    · simp
    · exact Nat.le_refl _
theorem fracD_one {l : List UInt8} (h : fracD l = []) : l.length ≤ 1 := by
  unfold fracD at h
  split at h
  · simp
  · split at h
    · subst h; simp
    · cases h

set_option maxRecDepth 100000 in
set_option maxHeartbeats 1000000 in
theorem guessFraction_any (s : ByteArray) (w : World) (hT : Tabs w) (hs : s.size ≤ 140737488355328) :
    Calls Tryd.prog 43 #[.string s] w (GF s.data.toList w) := by
  obtain ⟨l, hl, hl2, hl3⟩ := ba_list s
  rw [hl2]
  obtain ⟨D, hD⟩ : ∃ D, D = fracD l := ⟨_, rfl⟩
  have hDl : D.length ≤ l.length := by rw [hD]; exact fracD_len l
  have HTP : Hid (∀ w, Calls Tryd.prog 25 #[.string s, .string ⟨#[46]⟩] w fun e w' => e = .returned (.string ⟨D.toArray⟩) ∧ w = w') := Lib.hid fun w =>
    (Tryd.strings_TrimPrefix s ⟨#[46]⟩ w).mono fun e w' ⟨he, hw⟩ => ⟨by rw [he, show (⟨#[46]⟩ : ByteArray).data.toList = [46] from rfl, hl2, trimDot, hD], hw.symm⟩
  obtain ⟨k, hk⟩ : ∃ k : Nat, k = 13 - D.length := ⟨_, rfl⟩
  have HRp : Hid (∀ w, Calls Tryd.prog 63 #[.string ⟨#[48]⟩, .int .i64 k] w fun e w' => e = .returned (.string ⟨(List.replicate k (48 : UInt8)).toArray⟩) ∧ Below w.heap.size w w') := Lib.hid fun w =>
    (Tryd.strings_Repeat ⟨#[48]⟩ k w (by omega) (by rw [show ByteArray.size ⟨#[48]⟩ = 1 from rfl]; omega)).mono fun e w' ⟨he, hb⟩ => ⟨by
      rw [he, show (⟨#[48]⟩ : ByteArray).data.toList = List.replicate 1 48 from rfl, Lib.repeatL_replicate, Nat.mul_one], hb⟩
  obtain ⟨T, hTT⟩ : ∃ T, T = D ++ List.replicate k (48 : UInt8) := ⟨_, rfl⟩
  have hTl : T.length = D.length + k := by rw [hTT]; simp
  have HP : Hid (∀ w', Tabs w' → Calls Tryd.prog 64 #[.string ⟨T.toArray⟩, .int .i64 16, .int .i64 52] w' (PU T w')) := Lib.hid fun w' hT =>
    uint16_some ⟨T.toArray⟩ (by rw [str_size]; omega) (by rw [str_size]; omega) w' hT
  have HV : Hid (∀ v : Int, (T.all isHex = true → T.length ≤ 13 → T ≠ [] → v = ((valx 0 T : Nat) : Int)) → ∀ f, f < 4503599627370496 → l = fracT f → v = f) := Lib.hid fun v hv f hf hlf => by
    obtain ⟨a, b⟩ := fracD_fracT f hf
    have hT2 : T = hexN f 13 := by rw [hTT, hD, hlf, hk, hD, hlf]; exact a
    rw [hT2] at hv
    rw [hv (hexN_hex 13 f) (by rw [hexN_len]; omega) (by intro h; have := hexN_len 13 f; rw [h] at this; simp at this), valx_frac f hf]
  have HT := Lib.hid hT
  have HA : Hid ((⟨D.toArray⟩ : ByteArray) ++ ⟨(List.replicate k (48 : UInt8)).toArray⟩ = ⟨T.toArray⟩) := Lib.hid (by rw [app_str, hTT])
  obtain ⟨S, hS⟩ : ∃ S : ByteArray, S = ⟨D.toArray⟩ := ⟨_, rfl⟩
  obtain ⟨Z, hZ⟩ : ∃ Z : ByteArray, Z = ⟨(List.replicate k (48 : UInt8)).toArray⟩ := ⟨_, rfl⟩
  have hSs : S.size ≤ 140737488355328 := by rw [hS, str_size]; omega
  have hZs : Z.size ≤ 13 := by rw [hZ, str_size, List.length_replicate]; omega
  have hmx : max (13 - (S.size : Int)) 0 = (k : Int) := by rw [hS, str_size]; omega
  rw [← hS] at HTP HA
  rw [← hZ] at HRp HA
  clear hT hl hl2 hl3 hD hDl hk hTT hTl hS hZ
  go_enter Tryd.func43, Tryd.ntmps43
  go_wp2_with fail
  refine (HTP.out _).mono ?_
  rintro e w1 ⟨rfl, rfl⟩
  go_wp2_with fail
  refine (HRp.out _).mono ?_
  rintro e w1 ⟨rfl, hb1⟩
  have Hb1 := Lib.hid hb1
  clear hb1
  go_wp2_with fail
  rw [HA.out]
  refine (HP.out _ (HT.out.below Hb1.out (Nat.le_refl _))).mono ?_
  rintro e w2 ⟨v, X, h0, h1, rfl, hv, hb2⟩
  obtain ⟨n, rfl⟩ := Int.eq_ofNat_of_zero_le h0
  have Hv := Lib.hid hv
  have Hb2 := Lib.hid hb2
  have hn : Hid (n < 4503599627370496) := Lib.hid (by omega)
  clear hv hb2 h0 h1
  go_wp2
  go_ret
  exact ⟨n, hn.out, rfl, fun f hf hl => Int.ofNat_inj.1 (HV.out _ Hv.out f hf hl), Hb1.out.trans (Hb2.out.mono Hb1.out.size)⟩
end Go.Proofs.YtdjjdhkpffjnfaaDoor

/- Layer 5: what a text may stand for: fraction, exponent, magnitude. -/
import Derived.Test.YthmgkjfohkadoaaGreatDoorNumUint
import Derived.Test.YthmgkjfohkadoaaGreatDoorNumIdx
import Derived.Lib.AtoiAll
namespace Go.Proofs.YthmgkjfohkadoaaGreatDoor
open Go.RowKit
set_option linter.unusedVariables false

theorem ba_list (s : ByteArray) : ∃ l : List UInt8, s = ⟨l.toArray⟩ ∧ s.data.toList = l ∧ s.size = l.length := by
  obtain ⟨⟨l⟩⟩ := s
  exact ⟨l, rfl, rfl, by simp [ByteArray.size]⟩

/-- what is known of an answer of the library's ParseUint(.., 16, 52) -/
def PU (bs : List UInt8) (w : World) (e : Ending) (w' : World) : Prop :=
  ∃ (v : Int) (X : Value), 0 ≤ v ∧ v < 4503599627370496 ∧ e = .returned (.tuple #[.int .u64 v, X]) ∧
    (bs.all isHex = true → bs.length ≤ 13 → bs ≠ [] → v = ((valx 0 bs : Nat) : Int)) ∧ Below w.heap.size w w'

set_option maxRecDepth 100000 in
set_option maxHeartbeats 1000000 in
theorem uint16_some (t : ByteArray) (hne : t.size ≠ 0) (hmax : t.size ≤ 281474976710656) (w : World) (hT : Tabs w) :
    Calls Tryz.prog 84 #[.string t, .int .i64 16, .int .i64 52] w (PU t.data.toList w) := by
  have HI := Lib.hid (uint16In t hne (by omega) w)
  have HT := Lib.hid hT
  have HS : Hid (∀ w', Below w.heap.size w w' → Calls Tryz.prog 74 #[.string ⟨#[80, 97, 114, 115, 101, 85, 105, 110, 116]⟩, .string t, .int .i64 16, .int .i64 52, .iface 114 (.int .i64 2)] w' fun e w'' => (∃ X, e = .returned X) ∧ Below w'.heap.size w' w'') := Lib.hid fun w' hb => by
    obtain ⟨tp, p, hv⟩ := (HT.out.below hb (Nat.le_refl _)).es
    have hc : w'.cell? ⟨2, 0, none⟩ = some (.iface tp p) := by
      have h0 := World.var?_cell gnEs hv 0; simpa using h0
    exact (Tryz.strconv_toError_syntax _ t 16 52 _ w' hmax hc (Or.inr ⟨tp, p, rfl⟩)).mono fun e w'' ⟨N, he, _, _, hb⟩ => ⟨⟨_, he⟩, hb⟩
  have HR : Hid (∀ w', Below w.heap.size w w' → Calls Tryz.prog 74 #[.string ⟨#[80, 97, 114, 115, 101, 85, 105, 110, 116]⟩, .string t, .int .i64 16, .int .i64 52, .iface 114 (.int .i64 1)] w' fun e w'' => (∃ X, e = .returned X) ∧ Below w'.heap.size w' w'') := Lib.hid fun w' hb => by
    obtain ⟨tp, p, hv⟩ := (HT.out.below hb (Nat.le_refl _)).er
    have hc : w'.cell? ⟨3, 0, none⟩ = some (.iface tp p) := by
      have h0 := World.var?_cell gnEr hv 0; simpa using h0
    exact (Tryz.strconv_toError_range _ t 16 52 _ w' hmax hc (Or.inr ⟨tp, p, rfl⟩)).mono fun e w'' ⟨N, he, _, _, hb⟩ => ⟨⟨_, he⟩, hb⟩
  clear hT
  go_enter Tryz.func84, Tryz.ntmps84
  go_wp2_with fail
  refine HI.out.mono ?_
  rintro e w1 ⟨v, X, h0, h1, hX, rfl, hv, hb⟩
  have Hv := Lib.hid hv
  have Hb := Lib.hid hb
  clear hv hb
  rcases hX with rfl | rfl | rfl
  · go_wp2
    go_ret2
    exact ⟨v, _, h0, h1, rfl, Hv.out, Hb.out⟩
  · go_wp2_with fail
    refine (HR.out _ Hb.out).mono ?_
    rintro e w2 ⟨⟨X, rfl⟩, hb2⟩
    go_wp2
    go_ret2
    exact ⟨v, _, h0, h1, rfl, Hv.out, Hb.out.trans (hb2.mono Hb.out.size)⟩
  · go_wp2_with fail
    refine (HS.out _ Hb.out).mono ?_
    rintro e w2 ⟨⟨X, rfl⟩, hb2⟩
    go_wp2
    go_ret2
    exact ⟨v, _, h0, h1, rfl, Hv.out, Hb.out.trans (hb2.mono Hb.out.size)⟩

/-- what is known of guessFraction's answer -/
def GF (l : List UInt8) (w : World) (e : Ending) (w' : World) : Prop :=
  ∃ v : Nat, v < 4503599627370496 ∧ e = .returned (.int .u64 v) ∧ (∀ f, f < 4503599627370496 → l = fracT f → v = f) ∧ Below w.heap.size w w'
theorem trimDot (l : List UInt8) : Lib.trimPrefix l [46] = fracD l := by
  unfold Lib.trimPrefix fracD
  cases l with
  | nil => rfl
  | cons c r =>
    by_cases e : c.toNat = 46
    · obtain rfl : c = 46 := UInt8.toNat_inj.1 (by rw [e]; rfl)
      simp [Lib.hasPrefix]
    · have e' : c ≠ 46 := fun h => e (by rw [h]; rfl)
      simp [Lib.hasPrefix, e, Ne.symm e']
theorem fracD_len (l : List UInt8) : (fracD l).length ≤ l.length := by
  unfold fracD
  split
  · exact Nat.le_refl _
  · split
    · simp
    · exact Nat.le_refl _
theorem fracD_one {l : List UInt8} (h : fracD l = []) : l.length ≤ 1 := by
  unfold fracD at h
  split at h
  · simp
  · split at h
    · subst h; simp
    · cases h

set_option maxRecDepth 100000 in
set_option maxHeartbeats 1000000 in
theorem guessFraction_any (s : ByteArray) (w : World) (hT : Tabs w) (hs : s.size ≤ 140737488355328) :
    Calls Tryz.prog 71 #[.string s] w (GF s.data.toList w) := by
  obtain ⟨l, hl, hl2, hl3⟩ := ba_list s
  rw [hl2]
  obtain ⟨D, hD⟩ : ∃ D, D = fracD l := ⟨_, rfl⟩
  have hDl : D.length ≤ l.length := by rw [hD]; exact fracD_len l
  have HTP : Hid (∀ w, Calls Tryz.prog 39 #[.string s, .string ⟨#[46]⟩] w fun e w' => e = .returned (.string ⟨D.toArray⟩) ∧ w = w') := Lib.hid fun w =>
    (Tryz.strings_TrimPrefix s ⟨#[46]⟩ w).mono fun e w' ⟨he, hw⟩ => ⟨by rw [he, show (⟨#[46]⟩ : ByteArray).data.toList = [46] from rfl, hl2, trimDot, hD], hw.symm⟩
  obtain ⟨k, hk⟩ : ∃ k : Nat, k = 13 - D.length := ⟨_, rfl⟩
  have HRp : Hid (∀ w, Calls Tryz.prog 83 #[.string ⟨#[48]⟩, .int .i64 k] w fun e w' => e = .returned (.string ⟨(List.replicate k (48 : UInt8)).toArray⟩) ∧ Below w.heap.size w w') := Lib.hid fun w =>
    (Tryz.strings_Repeat ⟨#[48]⟩ k w (by omega) (by rw [show ByteArray.size ⟨#[48]⟩ = 1 from rfl]; omega)).mono fun e w' ⟨he, hb⟩ => ⟨by
      rw [he, show (⟨#[48]⟩ : ByteArray).data.toList = List.replicate 1 48 from rfl, Lib.repeatL_replicate, Nat.mul_one], hb⟩
  obtain ⟨T, hTT⟩ : ∃ T, T = D ++ List.replicate k (48 : UInt8) := ⟨_, rfl⟩
  have hTl : T.length = D.length + k := by rw [hTT]; simp
  have HP : Hid (∀ w', Tabs w' → Calls Tryz.prog 84 #[.string ⟨T.toArray⟩, .int .i64 16, .int .i64 52] w' (PU T w')) := Lib.hid fun w' hT =>
    uint16_some ⟨T.toArray⟩ (by rw [str_size]; omega) (by rw [str_size]; omega) w' hT
  have HV : Hid (∀ v : Int, (T.all isHex = true → T.length ≤ 13 → T ≠ [] → v = ((valx 0 T : Nat) : Int)) → ∀ f, f < 4503599627370496 → l = fracT f → v = f) := Lib.hid fun v hv f hf hlf => by
    obtain ⟨a, b⟩ := fracD_fracT f hf
    have hT2 : T = hexN f 13 := by rw [hTT, hD, hlf, hk, hD, hlf]; exact a
    rw [hT2] at hv
    rw [hv (hexN_hex 13 f) (by rw [hexN_len]; omega) (by intro h; have := hexN_len 13 f; rw [h] at this; simp at this), valx_frac f hf]
  have HT := Lib.hid hT
  have HA : Hid ((⟨D.toArray⟩ : ByteArray) ++ ⟨(List.replicate k (48 : UInt8)).toArray⟩ = ⟨T.toArray⟩) := Lib.hid (by rw [app_str, hTT])
  obtain ⟨S, hS⟩ : ∃ S : ByteArray, S = ⟨D.toArray⟩ := ⟨_, rfl⟩
  obtain ⟨Z, hZ⟩ : ∃ Z : ByteArray, Z = ⟨(List.replicate k (48 : UInt8)).toArray⟩ := ⟨_, rfl⟩
  have hSs : S.size ≤ 140737488355328 := by rw [hS, str_size]; omega
  have hZs : Z.size ≤ 13 := by rw [hZ, str_size, List.length_replicate]; omega
  have hmx : max (13 - (S.size : Int)) 0 = (k : Int) := by rw [hS, str_size]; omega
  rw [← hS] at HTP HA
  rw [← hZ] at HRp HA
  clear hT hl hl2 hl3 hD hDl hk hTT hTl hS hZ
  go_enter Tryz.func71, Tryz.ntmps71
  go_wp2_with fail
  refine (HTP.out _).mono ?_
  rintro e w1 ⟨rfl, rfl⟩
  go_wp2_with fail
  refine (HRp.out _).mono ?_
  rintro e w1 ⟨rfl, hb1⟩
  have Hb1 := Lib.hid hb1
  clear hb1
  go_wp2_with fail
  rw [HA.out]
  refine (HP.out _ (HT.out.below Hb1.out (Nat.le_refl _))).mono ?_
  rintro e w2 ⟨v, X, h0, h1, rfl, hv, hb2⟩
  obtain ⟨n, rfl⟩ := Int.eq_ofNat_of_zero_le h0
  have Hv := Lib.hid hv
  have Hb2 := Lib.hid hb2
  have hn : Hid (n < 4503599627370496) := Lib.hid (by omega)
  clear hv hb2 h0 h1
  go_wp2
  go_ret
  exact ⟨n, hn.out, rfl, fun f hf hl => Int.ofNat_inj.1 (HV.out _ Hv.out f hf hl), Hb1.out.trans (Hb2.out.mono Hb1.out.size)⟩
end Go.Proofs.YthmgkjfohkadoaaGreatDoor

/- Layer 5: the exponent that a text may stand for. -/
namespace Go.Proofs.YthmgkjfohkadoaaGreatDoor
open Go.RowKit
set_option linter.unusedVariables false

theorem parseUint10_dig : ∀ (l : List UInt8) (a : Nat), l.all isDig = true → a < 18446744073709551616 →
    Lib.parseUint10 a l = if vald a l < 18446744073709551616 then .ok (vald a l) else .range
  | [], a, _, ha => by rw [vald_nil, if_pos ha, Lib.parseUint10]
  | c :: r, a, h, ha => by
    simp only [List.all_cons, Bool.and_eq_true] at h
    have hc : 48 ≤ c.toNat ∧ c.toNat ≤ 57 := of_decide_eq_true h.1
    have hge := vald_ge r (a * 10 + (c.toNat - 48))
    rw [vald_cons, Lib.parseUint10, if_pos hc]
    by_cases h1 : 1844674407370955162 ≤ a
    · rw [if_pos h1, if_neg (by omega)]
    · rw [if_neg h1]
      by_cases h2 : 18446744073709551616 ≤ a * 10 + (c.toNat - 48)
      · rw [if_pos h2, if_neg (by omega)]
      · rw [if_neg h2]
        exact parseUint10_dig r _ h.2 (by omega)
theorem atoi_dd {n : Nat} (h : n < 9223372036854775808) : Lib.atoiAll (Lib.decDigits n) = .ok (n : Int) := by
  have h1 := dd_all n
  have h2 := parseUint10_dig _ 0 h1 (by omega)
  rw [dd_val, if_pos (by omega)] at h2
  have h3 := dd_ne n
  generalize Lib.decDigits n = l at h1 h2 h3
  cases l with
  | nil => exact absurd rfl h3
  | cons c r =>
    simp only [List.all_cons, Bool.and_eq_true] at h1
    have hc : 48 ≤ c.toNat ∧ c.toNat ≤ 57 := of_decide_eq_true h1.1
    have e : (if c.toNat = 43 ∨ c.toNat = 45 then r else c :: r) = c :: r := if_neg (by omega)
    unfold Lib.atoiAll
    simp only [e, Lib.parseMag, if_neg h3, h2]
    rw [if_neg (by omega), if_neg (by omega), if_neg (by omega)]
theorem atoi_bd {l : List UInt8} {v : Int} (h : Lib.atoiAll l = .ok v) : -9223372036854775808 ≤ v ∧ v ≤ 9223372036854775807 := by
  unfold Lib.atoiAll at h
  cases l with
  | nil => cases h
  | cons c r =>
    simp only at h
    generalize Lib.parseMag (if c.toNat = 43 ∨ c.toNat = 45 then r else c :: r) = M at h
    cases M with
    | «syntax» => cases h
    | range => cases h
    | ok u =>
      simp only at h
      split at h
      · cases h
      · split at h
        · cases h
        · injection h with h
          subst h
          split <;> omega

/-- what is known of Atoi's answer -/
def AT (r : List UInt8) (w : World) (e : Ending) (w' : World) : Prop :=
  ∃ (v : Int) (X : Value), -9223372036854775808 ≤ v ∧ v ≤ 9223372036854775807 ∧ e = .returned (.tuple #[.int .i64 v, X]) ∧ (∀ n : Nat, n < 9223372036854775808 → r = Lib.decDigits n → v = n) ∧ Below w.heap.size w w'
theorem atoi_any (s : ByteArray) (w : World) (hT : Tabs w) (hs : s.size ≤ 281474976710656) :
    Calls Tryz.prog 82 #[.string s] w (AT s.data.toList w) := by
  cases h : Lib.atoiAll s.data.toList with
  | ok v =>
    obtain ⟨a, b⟩ := atoi_bd h
    refine (Tryz.strconv_Atoi_ok s (by omega) v h w).mono fun e w' ⟨he, hw⟩ => ⟨v, _, a, b, he, fun n hn hr => ?_, ?_⟩
    · rw [hr, atoi_dd hn] at h; injection h with h; exact h.symm
    · rcases hw with rfl | ⟨t, rfl⟩
      · exact Below.refl _ _
      · exact Lib.bytesWorld_below _ _ _
  | «syntax» =>
    obtain ⟨tp, p, hv⟩ := hT.es
    refine (Tryz.strconv_Atoi_syntax_var s hs h tp p w hv).mono fun e w' ⟨N, he, _, _, hb⟩ => ⟨0, _, by omega, by omega, he, fun n hn hr => ?_, hb⟩
    rw [hr, atoi_dd hn] at h; cases h
  | range =>
    obtain ⟨tp, p, hv⟩ := hT.er
    refine (Tryz.strconv_Atoi_range_var s hs h tp p w hv).mono fun e w' ⟨N, he, _, _, hb⟩ => ⟨_, _, ?_, ?_, he, fun n hn hr => ?_, hb⟩
    · unfold Lib.atoiSat; split <;> omega
    · unfold Lib.atoiSat; split <;> omega
    · rw [hr, atoi_dd hn] at h; cases h

/-- what is known of guessExponent's answer -/
def GE (l : List UInt8) (w : World) (e : Ending) (w' : World) : Prop :=
  ∃ x : Int, -1074 ≤ x ∧ x ≤ 1023 ∧ e = .returned (.int .i64 x) ∧ (∀ y : Int, -1074 ≤ y → y ≤ 1023 → l = expT y → x = y) ∧ Below w.heap.size w w'
theorem ge_m {r : List UInt8} {v : Int} {w w' : World} (hv : ∀ n : Nat, n < 9223372036854775808 → r = Lib.decDigits n → v = n) (hb : Below w.heap.size w w') {z : Int} (hz : z = -v ∨ v = -9223372036854775808) :
    GE (109 :: r) w (.returned (.int .i64 (min (max z (-1074)) 1023))) w' :=
  ⟨_, by omega, by omega, rfl, fun y h0 h1 hl => by
    by_cases hn : y < 0
    · rw [expT_neg hn] at hl
      injection hl with _ hl
      have := hv _ (by omega) hl
      omega
    · rw [expT_nn hn] at hl
      injection hl with hl _
      exact absurd hl (by decide), hb⟩
theorem ge_p {c : UInt8} {r : List UInt8} {v : Int} {w w' : World} (hc : c.toNat ≠ 109) (hv : ∀ n : Nat, n < 9223372036854775808 → r = Lib.decDigits n → v = n) (hb : Below w.heap.size w w') :
    GE (c :: r) w (.returned (.int .i64 (min (max v (-1074)) 1023))) w' :=
  ⟨_, by omega, by omega, rfl, fun y h0 h1 hl => by
    by_cases hn : y < 0
    · rw [expT_neg hn] at hl
      injection hl with hl _
      subst hl
      exact absurd rfl hc
    · rw [expT_nn hn] at hl
      injection hl with _ hl
      have := hv _ (by omega) hl
      omega, hb⟩

set_option maxRecDepth 100000 in
set_option maxHeartbeats 1000000 in
theorem guessExponent_any (c : UInt8) (r : List UInt8) (w : World) (hT : Tabs w) (hs : r.length ≤ 140737488355328) :
    Calls Tryz.prog 70 #[.string ⟨(c :: r).toArray⟩] w (GE (c :: r) w) := by
  have HA := Lib.hid (atoi_any ⟨r.toArray⟩ w hT (by rw [str_size]; omega))
  have HE := Lib.hid (ext_tail c r)
  obtain ⟨S, hS⟩ : ∃ S : ByteArray, S = ⟨(c :: r).toArray⟩ := ⟨_, rfl⟩
  have hsz : S.size = r.length + 1 := by rw [hS, str_size]; rfl
  have h1 : 1 ≤ S.size := by omega
  have h0 : 0 < S.size := by omega
  have h2 : S.size ≤ 140737488355329 := by omega
  have hc0 : S[0] = c := by subst hS; rfl
  have HE2 : Hid (S.extract 1 S.size = ⟨r.toArray⟩) := Lib.hid (by rw [hsz, hS]; exact HE.out)
  rw [← hS]
  clear hT hS HE hsz
  have hcb := c.toNat_lt
  by_cases hm : c.toNat = 109
  · obtain rfl : c = 109 := UInt8.toNat_inj.1 (by rw [hm]; rfl)
    have hm' : ((S[0].toNat : Int) == 109) = true := by rw [hc0]; rfl
    clear hm hcb hc0
    go_enter Tryz.func70, Tryz.ntmps70
    go_wp2_with fail
    rw [HE2.out]
    refine HA.out.mono ?_
    rintro e w1 ⟨v, X, a, b, rfl, hv, hb⟩
    have Hv := Lib.hid hv
    have Hb := Lib.hid hb
    clear hv hb
    go_wp2
    go_ret
    exact ge_m Hv.out Hb.out (by
      by_cases hmin : v = -9223372036854775808
      · exact .inr hmin
      · left; unfold wrap64; omega)
  · have hm' : ((S[0].toNat : Int) == 109) = false := by rw [hc0, beq_eq_false_iff_ne]; omega
    have Hm := Lib.hid hm
    clear hm hcb hc0
    go_enter Tryz.func70, Tryz.ntmps70
    go_wp2_with fail
    rw [HE2.out]
    refine HA.out.mono ?_
    rintro e w1 ⟨v, X, a, b, rfl, hv, hb⟩
    have Hv := Lib.hid hv
    have Hb := Lib.hid hb
    clear hv hb
    go_wp2
    go_ret
    exact ge_p Hm.out Hv.out Hb.out
end Go.Proofs.YthmgkjfohkadoaaGreatDoor

/- Layer 5: the magnitude that a text may stand for. -/
namespace Go.Proofs.YthmgkjfohkadoaaGreatDoor
open Go.RowKit
set_option linter.unusedVariables false

/-- what is known of guessMagnitude's answer -/
def GM (l : List UInt8) (w : World) (e : Ending) (w' : World) : Prop :=
  ∃ v : Nat, v ≤ 9221120237041090560 ∧ e = .returned (.int .u64 v) ∧ (∀ m, m ≤ 9218868437227405312 → l = magT m → v = m) ∧ (l = nanT → v = 9221120237041090560) ∧ Below w.heap.size w w'

theorem fracT_ascii (f : Nat) : ∀ c ∈ fracT f, c.toNat < 128 := by
  unfold fracT
  split
  · simp
  · intro c hc
    rcases List.mem_cons.1 hc with rfl | hc
    · decide
    · have := List.all_eq_true.1 (hexN_hex 13 f) c (strip0_mem hc)
      have := of_decide_eq_true this
      omega
theorem dd_ascii (n : Nat) : ∀ c ∈ Lib.decDigits n, c.toNat < 128 := fun c hc => by
  have := of_decide_eq_true (List.all_eq_true.1 (dd_all n) c hc)
  omega
theorem expT_shape (e : Int) : ∃ c n, expT e = c :: Lib.decDigits n ∧ (c.toNat = 112 ∨ c.toNat = 109) := by
  unfold expT
  split
  · exact ⟨_, _, rfl, .inr (by decide)⟩
  · exact ⟨_, _, rfl, .inl (by decide)⟩
theorem expT_ascii (e : Int) : ∀ c ∈ expT e, c.toNat < 128 := by
  obtain ⟨c, n, h, hc⟩ := expT_shape e
  rw [h]
  intro d hd
  rcases List.mem_cons.1 hd with rfl | hd
  · omega
  · exact dd_ascii n d hd
/-- a positive finite float's text, seen from outside -/
theorem mag_look {m : Nat} (h0 : 0 < m) (h : m < 9218868437227405312) {l : List UInt8} (hl : l = magT m) :
    (∀ c ∈ l, c.toNat < 128) ∧ fpm l = (3 + (fracT (fracF m)).length : Nat) ∧ l.drop (3 + (fracT (fracF m)).length) = expT (expoF m) ∧
      (l.drop 3).take (3 + (fracT (fracF m)).length - 3) = fracT (fracF m) := by
  rw [magT_pos h0 h] at hl
  subst hl
  refine ⟨?_, ?_, ?_, ?_⟩
  · intro c hc
    simp only [List.mem_cons, List.mem_append] at hc
    rcases hc with rfl | rfl | rfl | hc | hc
    · decide
    · decide
    · decide
    · exact fracT_ascii _ c hc
    · exact expT_ascii _ c hc
  · obtain ⟨c, n, he, hc⟩ := expT_shape (expoF m)
    rw [he]
    have := fpm_app ([48, 120, 49] ++ fracT (fracF m)) c (Lib.decDigits n) (by
      intro x hx
      rcases List.mem_append.1 hx with hx | hx
      · simp only [List.mem_cons, List.not_mem_nil, or_false] at hx
        rcases hx with rfl | rfl | rfl <;> (unfold noPM; decide)
      · exact fracT_noPM _ x hx) hc
    rw [List.append_assoc, List.length_append] at this
    exact this
  · rw [Nat.add_comm]; simp
  · simp
theorem mag_zero_look : fpm [48, 120, 48] = -1 := by decide

set_option maxRecDepth 100000 in
set_option maxHeartbeats 1000000 in
theorem guessMag_tail (s : ByteArray) (w : World) (hT : Tabs w) (hs : s.size ≤ 140737488355328) (hi : s.data.toList ≠ [48, 120, 105, 110, 102]) (hn : s.data.toList ≠ nanT) :
    Calls Tryz.prog 56 #[.string s] w (GM s.data.toList w) := by
  have e1 : (s.toList == [48, 120, 105, 110, 102]) = false := by rw [Lib.toList_data, beq_eq_false_iff_ne]; exact hi
  have e2 : (s.toList == [48, 120, 110, 97, 110]) = false := by rw [Lib.toList_data, beq_eq_false_iff_ne]; exact hn
  have HI := Lib.hid hi
  have HN := Lib.hid hn
  have HX := Lib.hid (IndexAny_any s w hs)
  have HT := Lib.hid hT
  clear hT hi hn
  go_enter Tryz.func56, Tryz.ntmps56
  go_wp2_with fail
  refine HX.out.mono ?_
  rintro e w1 ⟨i, i0, i1, rfl, hix, hb1⟩
  have Hix := Lib.hid hix
  have Hb1 := Lib.hid hb1
  clear hix hb1
  by_cases h3 : i < 3
  · go_wp2
    go_ret
    refine ⟨0, by omega, rfl, fun m hm hl => ?_, fun h => absurd h HN.out, Hb1.out⟩
    rcases Nat.eq_zero_or_pos m with rfl | h0
    · rfl
    · by_cases hinf : m = 9218868437227405312
      · subst hinf; rw [magT_inf] at hl; exact absurd hl HI.out
      · obtain ⟨a, b, _⟩ := mag_look h0 (show m < 9218868437227405312 by omega) hl
        have := Hix.out a
        omega
  · obtain ⟨n, rfl⟩ := Int.eq_ofNat_of_zero_le (show 0 ≤ i by omega)
    have n3 : 3 ≤ n := by omega
    have n1 : n < s.size := by omega
    have HB0 : Hid (∀ W, Below w.heap.size w W → Below w.heap.size w W.drew) := Lib.hid fun W h => below_drewN h 1
    have hsl : s.data.toList.length = s.size := (Lib.size_eq s).symm
    have HGE : Hid (∀ W, Below w.heap.size w W → Calls Tryz.prog 70 #[.string (s.extract n s.size)] W (GE (s.data.toList.drop n) w)) := Lib.hid fun W hb => by
      have hd := List.drop_eq_getElem_cons (l := s.data.toList) (i := n) (by rw [hsl]; exact n1)
      have hx : s.extract n s.size = ⟨(s.data.toList.drop n).toArray⟩ := by
        have h := Lib.extract_to_end s n
        generalize s.extract n s.size = t at h
        obtain ⟨⟨m⟩⟩ := t
        simp only at h
        rw [h]
      have hlen : (s.data.toList.drop n).length ≤ s.size := by rw [List.length_drop, hsl]; omega
      rw [hx]
      rw [hd] at hlen ⊢
      refine (guessExponent_any _ _ W (HT.out.below hb (Nat.le_refl _)) (by rw [List.length_cons] at hlen; omega)).mono fun e w' ⟨x, a, b, c, d, e⟩ => ⟨x, a, b, c, d, hb.trans (e.mono hb.size)⟩
    have HGF : Hid (∀ W, Below w.heap.size w W → Calls Tryz.prog 71 #[.string (s.extract 3 n)] W (GF ((s.data.toList.drop 3).take (n - 3)) w)) := Lib.hid fun W hb => by
      have hx := Lib.extract_data s 3 n
      have hlen : (s.extract 3 n).size ≤ s.size := by
        rw [Lib.size_eq, hx, List.length_take, List.length_drop, hsl]; omega
      have h := guessFraction_any (s.extract 3 n) W (HT.out.below hb (Nat.le_refl _)) (by omega)
      rw [hx] at h
      exact h.mono fun e w' ⟨x, a, b, c, e⟩ => ⟨x, a, b, c, hb.trans (e.mono hb.size)⟩
    have HJ := Lib.hid fun (e : Int) (f : Nat) (w : World) h0 h1 hf => join_any e f w h0 h1 hf
    have hjb : Hid (∀ (x : Int) (f : Nat), -1074 ≤ x → x ≤ 1023 → f < 4503599627370496 → joinF x f ≤ 9221120237041090560) := Lib.hid fun x f h0 h1 hf => by
      unfold joinF
      split
      · exact Nat.le_trans (Nat.div_le_self _ _) (by omega)
      · have : (x + 1023).toNat ≤ 2046 := by omega
        omega
    have HFin : Hid (∀ (x : Int) (f : Nat) (w' : World), -1074 ≤ x → x ≤ 1023 → Hid (f < 4503599627370496) → Hid (∀ y : Int, -1074 ≤ y → y ≤ 1023 → s.data.toList.drop n = expT y → x = y) →
        Hid (∀ g, g < 4503599627370496 → (s.data.toList.drop 3).take (n - 3) = fracT g → f = g) → Below w.heap.size w w' → GM s.data.toList w (.returned (.int .u64 (joinF x f))) w') := Lib.hid fun x f w' h0 h1 hf hx hg hb => by
      refine ⟨joinF x f, hjb.out x f h0 h1 hf.out, rfl, fun m hm hl => ?_, fun h => absurd h HN.out, hb⟩
      rcases Nat.eq_zero_or_pos m with rfl | hm0
      · rw [magT_zero] at hl
        have := Hix.out (by rw [hl]; decide)
        rw [hl, mag_zero_look] at this; omega
      · by_cases hinf : m = 9218868437227405312
        · subst hinf; rw [magT_inf] at hl; exact absurd hl HI.out
        · have hm1 : m < 9218868437227405312 := by omega
          obtain ⟨a, b, c, d⟩ := mag_look hm0 hm1 hl
          have hn := Hix.out a
          rw [b] at hn
          have hn' : n = 3 + (fracT (fracF m)).length := by omega
          obtain ⟨q0, q1⟩ := expoF_bd hm0 hm1
          rw [← hn'] at c d
          rw [hx.out _ q0 q1 c, hg.out _ (fracF_lt m) d, join_split hm0 hm1]
    have n2 : n ≤ s.size := by omega
    clear h3 i0 i1 hsl
    go_wp2
    have hb1 := Hb1.out
    go_region_with (first
      | (go_at_call 70; refine (HGE.out _ (by first | assumption | exact HB0.out _ (by assumption))).mono ?_; rintro e w2 ⟨x, x0, x1, rfl, hx, hb2⟩; have Hx := Lib.hid hx; clear hx)
      | (go_at_call 71; refine (HGF.out _ (by first | assumption | exact HB0.out _ (by assumption))).mono ?_; rintro e w3 ⟨f, f0, rfl, hf, hb3⟩; have Hf := Lib.hid hf; have hf0 := Lib.hid f0; have hf1 : (f : Int) < 4503599627370496 := (by omega); clear hf f0)
      | (go_at_call 69; refine (HJ.out _ _ _ (by omega) (by omega) (by omega)).mono ?_; rintro e w4 ⟨rfl, rfl⟩))
    all_goals
      go_wp2
      go_ret
      exact HFin.out _ _ _ (by omega) (by omega) (by assumption) (by assumption) (by assumption) (by first | assumption | exact HB0.out _ (by assumption))
end Go.Proofs.YthmgkjfohkadoaaGreatDoor

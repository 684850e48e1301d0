/- Layer 5, the document's own answer: floats written. -/
import Derived.Test.YthmgkjfohkadoaaGreatDoorNumRefA
namespace Go.Proofs.YthmgkjfohkadoaaGreatDoor
open Go.RowKit
set_option linter.unusedVariables false

set_option maxRecDepth 100000 in
set_option maxHeartbeats 4000000 in
theorem refFloatPS (bi mi : Int) (m : Nat) (w : World) (hm : mi = (m : Int)) (hbm : bi = mi) (h0 : 0 < mi) (h1 : mi < 4503599627370496) :
    Calls Tryz.prog 63 #[.int .u64 bi] w fun e w' => e = .returned (.string ⟨([] ++ magT m).toArray⟩) ∧ Below w.heap.size w w' := by
  have HM0 : Hid (0 < m) := Lib.hid (by omega)
  have hm1 : m < 9218868437227405312 := by omega
  have HM1 := Lib.hid hm1
  have hf := fracF_lt m
  obtain ⟨he0, he1⟩ := expoF_bd HM0.out hm1
  obtain ⟨E, hE⟩ : ∃ E, E = expoF m := ⟨_, rfl⟩
  obtain ⟨Fi, hFi⟩ : ∃ Fi : Int, Fi = (fracF m : Int) := ⟨_, rfl⟩
  have hxs : ∃ XS : ByteArray, XS = ⟨(hexN (fracF m) 13).toArray⟩ ∧ XS.size = 13 := ⟨_, rfl, by rw [str_size, hexN_len]⟩
  obtain ⟨XS, hXS, hXz⟩ := hxs
  have HXS : Hid (XS.data.toList = hexN (fracF m) 13) := Lib.hid (by rw [hXS])
  have HH : Hid (∀ w, Calls Tryz.prog 75 #[.int .u64 Fi, .int .i64 13] w fun e w' => e = .returned (.string XS) ∧ Below w.heap.size w w') := Lib.hid fun w => by
    rw [hFi, hXS]; exact refHex _ w hf
  have HDp : Hid (0 ≤ E → ∀ w, Calls Tryz.prog 76 #[.int .u64 E] w fun e w' => ∃ DS : ByteArray, e = .returned (.string DS) ∧ DS.size ≤ 20 ∧ (0 ≤ E → expT (expoF m) = 112 :: DS.data.toList) ∧ Below w.heap.size w w') := Lib.hid fun h w => by
    obtain ⟨a, ha⟩ := Int.eq_ofNat_of_zero_le h
    rw [ha]
    refine (refDigits a w (by omega)).mono fun e w' ⟨hr, hb⟩ => ⟨_, hr, ?_, fun _ => ?_, hb⟩
    · rw [str_size]; exact dd_len20 (by omega)
    · rw [← hE, expT_nn (by omega), ha]; rfl
  have HDm : Hid (E < 0 → ∀ w, Calls Tryz.prog 76 #[.int .u64 (-E)] w fun e w' => ∃ DS : ByteArray, e = .returned (.string DS) ∧ DS.size ≤ 20 ∧ (E < 0 → expT (expoF m) = 109 :: DS.data.toList) ∧ Below w.heap.size w w') := Lib.hid fun h w => by
    obtain ⟨a, ha⟩ := Int.eq_ofNat_of_zero_le (show 0 ≤ -E by omega)
    rw [ha]
    refine (refDigits a w (by omega)).mono fun e w' ⟨hr, hb⟩ => ⟨_, hr, ?_, fun _ => ?_, hb⟩
    · rw [str_size]; exact dd_len20 (by omega)
    · rw [← hE, expT_neg h, show E.natAbs = a by omega]
  rw [← hE] at he0 he1
  have z1 : 13 ≤ XS.size := by omega
  have z2 : XS.size ≤ 13 := by omega
  have e1 : (mi == 9218868437227405312) = false := by rw [beq_eq_false_iff_ne]; omega
  have e2 : (mi == 0) = false := by rw [beq_eq_false_iff_ne]; omega
  have h3 : mi < 9223372036854775808 := by omega
  have e3 : ((mi / 4503599627370496) == 0) = true := by rw [beq_iff_eq]; omega
  have HMI := Lib.hid hm
  have HE := Lib.hid hE
  have HFI := Lib.hid hFi
  subst hbm
  clear hm hm1 hf hE hFi hXS hXz
  go_enter Tryz.func63, Tryz.ntmps63
  go_wp2
  go_loop [4, 5] (fun x u => ∃ (j : Nat) (X V : Int), x = .int .i64 X ∧ u = .int .u64 V ∧ 0 < V ∧ V < 9007199254740992 ∧ -60 ≤ X ∧ X ≤ 1 ∧ Hid (X = 1 - (j : Int) ∧ V = ((m * 2 ^ j : Nat) : Int))) (fun x _ => (intOf x + 100).toNat)
  case atStart => exact ⟨0, 1, _, rfl, rfl, h0, by omega, by omega, by omega, Lib.hid ⟨by omega, by have := HMI.out; simpa using this⟩⟩
  case round =>
    obtain ⟨j, X, V, rfl, rfl, v0, v1, x0, x1, hr⟩ := hrel
    by_cases hlt : V < 4503599627370496
    · have hnx : Hid (X - 1 = 1 - ((j + 1 : Nat) : Int) ∧ V * 2 = ((m * 2 ^ (j + 1) : Nat) : Int)) := Lib.hid ⟨by have := hr.out.1; omega, by rw [hr.out.2, Nat.pow_succ, ← Nat.mul_assoc]; omega⟩
      have x2 : -60 ≤ X - 1 := by
        have h1 := hr.out.1
        have h2 := hr.out.2
        have hj : j < 52 := by
          rcases Nat.lt_or_ge j 52 with h | h
          · exact h
          · exfalso
            have h4 : 2 ^ 52 ≤ 2 ^ j := Nat.pow_le_pow_right (by omega) h
            have h5 : 1 * 2 ^ j ≤ m * 2 ^ j := Nat.mul_le_mul_right _ HM0.out
            generalize m * 2 ^ j = q at h2 h5
            generalize 2 ^ j = r at h4 h5
            omega
        omega
      go_wp2
      go_round
      case rel => exact ⟨j + 1, _, _, rfl, rfl, by omega, by omega, by omega, by omega, hnx⟩
      case measure => simp [intOf]; omega
    · have hge : 4503599627370496 ≤ V := by omega
      have hj : Hid (j = 52 - m.log2) := Lib.hid (by
        have h1 := HMI.out
        obtain ⟨a, b⟩ := sub_norm (m := m) HM0.out (by omega)
        have h2 := hr.out.2
        exact norm_one (m := m) (by omega) (by omega) a b)
      have hXE : X - 1023 = E := by
        have h1 := HMI.out
        have h2 := hr.out.1
        have h4 := hj.out
        have h5 := (log2_bd (m := m) HM0.out (by omega)).1
        rw [HE.out]; unfold expoF; rw [if_pos (by omega)]; omega
      have hVF : V - 4503599627370496 = Fi := by
        have h1 := HMI.out
        obtain ⟨a, b⟩ := sub_norm (m := m) HM0.out (by omega)
        have h2 := hr.out.2
        rw [hj.out] at h2
        rw [HFI.out]; unfold fracF; rw [if_pos (by omega)]
        generalize m * 2 ^ (52 - m.log2) = q at a b h2
        omega
      have f0 : 0 ≤ Fi := by omega
      have f1 : Fi < 4503599627370496 := by omega
      clear hlt hr hj
      go_wp2_with fail
      refine (HH.out _).mono ?_
      rintro e w1 ⟨rfl, hb1⟩
      have HB1 := Lib.hid hb1
      clear hb1
      go_wp2
      go_loopw [7] (fun n wr => ∃ k : Nat, k ≤ 13 ∧ n = .int .i64 k ∧ Hid ((hexN (fracF m) 13).drop k = List.replicate (13 - k) 48) ∧ wr = w1) (fun n _ => (intOf n).toNat)
      case atStart => exact ⟨13, by omega, rfl, Lib.hid (by rw [List.drop_eq_nil_of_le (by rw [hexN_len]; omega)]; rfl), rfl⟩
      case round =>
        obtain ⟨k, hk, rfl, hdr, rfl⟩ := hrel
        cases k with
        | zero =>
          have HFin : Hid (∀ S : ByteArray, S.data.toList = [] ++ [48, 120, 49] ++ [] ++ expT (expoF m) → S = ⟨([] ++ magT m).toArray⟩) := Lib.hid fun S hS => fin_mag HM0.out HM1.out (k := 0) (by omega) hdr.out (.inl rfl) (by rw [hS]; rfl)
          clear hdr
          have hE' : E < 0 := by omega
          go_wp2_with fail
          refine (HDm.out hE' _).mono ?_
          rintro e w2 ⟨DS, rfl, hds, hdd, hb2⟩
          have HD := Lib.hid hdd
          have HB2 := Lib.hid hb2
          clear hdd hb2
          go_wp2
          go_ret
          exact ⟨ret_str' (HFin.out _ (by simp only [Joins.data_append, HD.out hE']; simp)), HB1.out.trans (HB2.out.mono HB1.out.size)⟩
        | succ k =>
          have hat : Hid ((hexN (fracF m) 13)[k]? = some XS[k]) := Lib.hid (by
            have := byte_at XS k (by omega)
            rw [HXS.out] at this
            exact this)
          by_cases h48 : XS[k].toNat = 48
          · have e48 : ((XS[k].toNat : Int) == 48) = true := by rw [beq_iff_eq]; omega
            have hnx : Hid ((hexN (fracF m) 13).drop k = List.replicate (13 - k) 48) := Lib.hid (by
              have hlt : k < (hexN (fracF m) 13).length := by rw [hexN_len]; omega
              rw [List.drop_eq_getElem_cons hlt, hdr.out, show 13 - k = (13 - (k + 1)) + 1 by omega, List.replicate_succ]
              congr 1
              have h2 := hat.out
              rw [List.getElem?_eq_getElem hlt] at h2
              injection h2 with h2
              rw [h2]
              exact UInt8.toNat_inj.1 (by rw [h48]; rfl))
            clear h48
            go_wp2
            go_roundw
            case rel => exact ⟨k, by omega, by go_num, hnx, by first | rfl | trivial⟩
            case measure => simp [intOf]
          · have e48 : ((XS[k].toNat : Int) == 48) = false := by rw [beq_eq_false_iff_ne]; omega
            obtain ⟨T, hT⟩ : ∃ T, T = XS.extract 0 (k + 1) := ⟨_, rfl⟩
            have hTd : Hid (T.data.toList = (hexN (fracF m) 13).take (k + 1)) := Lib.hid (by rw [hT, Lib.extract_data, HXS.out]; simp)
            have hTs : T.size ≤ 13 := by rw [Lib.size_eq, hTd.out]; have := List.length_take_le (k + 1) (hexN (fracF m) 13); omega
            have hT' : XS.extract 0 (k + 1) = T := hT.symm
            have HFin : Hid (∀ S : ByteArray, S.data.toList = [] ++ [48, 120, 49] ++ (46 :: T.data.toList) ++ expT (expoF m) → S = ⟨([] ++ magT m).toArray⟩) := Lib.hid fun S hS => fin_mag HM0.out HM1.out (k := k + 1) (by omega) hdr.out (.inr ⟨_, hat.out, h48⟩) (by rw [hS, if_neg (by omega), hTd.out])
            clear h48 hT hdr hat
            have hE' : E < 0 := by omega
            go_wp2_with fail
            refine (HDm.out hE' _).mono ?_
            rintro e w2 ⟨DS, rfl, hds, hdd, hb2⟩
            have HD := Lib.hid hdd
            have HB2 := Lib.hid hb2
            clear hdd hb2
            go_wp2
            go_ret
            exact ⟨ret_str' (HFin.out _ (by simp only [Joins.data_append, HD.out hE']; simp)), HB1.out.trans (HB2.out.mono HB1.out.size)⟩

end Go.Proofs.YthmgkjfohkadoaaGreatDoor

/- Layer 5, the document's own answer: floats written. -/
namespace Go.Proofs.YthmgkjfohkadoaaGreatDoor
open Go.RowKit
set_option linter.unusedVariables false

set_option maxRecDepth 100000 in
set_option maxHeartbeats 4000000 in
theorem refFloatNB (bi mi : Int) (m : Nat) (w : World) (hm : mi = (m : Int)) (hbm : bi - 9223372036854775808 = mi) (h0 : 0 < mi) (h1 : 4503599627370496 ≤ mi) (h2 : mi < 9218868437227405312) :
    Calls Tryz.prog 63 #[.int .u64 bi] w fun e w' => e = .returned (.string ⟨([45] ++ magT m).toArray⟩) ∧ Below w.heap.size w w' := by
  have HM0 : Hid (0 < m) := Lib.hid (by omega)
  have hm1 : m < 9218868437227405312 := by omega
  have HM1 := Lib.hid hm1
  have hf := fracF_lt m
  obtain ⟨he0, he1⟩ := expoF_bd HM0.out hm1
  obtain ⟨E, hE⟩ : ∃ E, E = expoF m := ⟨_, rfl⟩
  obtain ⟨Fi, hFi⟩ : ∃ Fi : Int, Fi = (fracF m : Int) := ⟨_, rfl⟩
  have hxs : ∃ XS : ByteArray, XS = ⟨(hexN (fracF m) 13).toArray⟩ ∧ XS.size = 13 := ⟨_, rfl, by rw [str_size, hexN_len]⟩
  obtain ⟨XS, hXS, hXz⟩ := hxs
  have HXS : Hid (XS.data.toList = hexN (fracF m) 13) := Lib.hid (by rw [hXS])
  have HH : Hid (∀ w, Calls Tryz.prog 75 #[.int .u64 Fi, .int .i64 13] w fun e w' => e = .returned (.string XS) ∧ Below w.heap.size w w') := Lib.hid fun w => by
    rw [hFi, hXS]; exact refHex _ w hf
  have HDp : Hid (0 ≤ E → ∀ w, Calls Tryz.prog 76 #[.int .u64 E] w fun e w' => ∃ DS : ByteArray, e = .returned (.string DS) ∧ DS.size ≤ 20 ∧ (0 ≤ E → expT (expoF m) = 112 :: DS.data.toList) ∧ Below w.heap.size w w') := Lib.hid fun h w => by
    obtain ⟨a, ha⟩ := Int.eq_ofNat_of_zero_le h
    rw [ha]
    refine (refDigits a w (by omega)).mono fun e w' ⟨hr, hb⟩ => ⟨_, hr, ?_, fun _ => ?_, hb⟩
    · rw [str_size]; exact dd_len20 (by omega)
    · rw [← hE, expT_nn (by omega), ha]; rfl
  have HDm : Hid (E < 0 → ∀ w, Calls Tryz.prog 76 #[.int .u64 (-E)] w fun e w' => ∃ DS : ByteArray, e = .returned (.string DS) ∧ DS.size ≤ 20 ∧ (E < 0 → expT (expoF m) = 109 :: DS.data.toList) ∧ Below w.heap.size w w') := Lib.hid fun h w => by
    obtain ⟨a, ha⟩ := Int.eq_ofNat_of_zero_le (show 0 ≤ -E by omega)
    rw [ha]
    refine (refDigits a w (by omega)).mono fun e w' ⟨hr, hb⟩ => ⟨_, hr, ?_, fun _ => ?_, hb⟩
    · rw [str_size]; exact dd_len20 (by omega)
    · rw [← hE, expT_neg h, show E.natAbs = a by omega]
  rw [← hE] at he0 he1
  have z1 : 13 ≤ XS.size := by omega
  have z2 : XS.size ≤ 13 := by omega
  have e1 : (mi == 9218868437227405312) = false := by rw [beq_eq_false_iff_ne]; omega
  have e2 : (mi == 0) = false := by rw [beq_eq_false_iff_ne]; omega
  have h3 : mi < 9223372036854775808 := by omega
  obtain ⟨X, hX⟩ : ∃ X : Int, X = mi / 4503599627370496 := ⟨_, rfl⟩
  have x0 : 1 ≤ X := by omega
  have x1 : X ≤ 2046 := by omega
  have hX' : mi / 4503599627370496 = X := hX.symm
  have hXE : X - 1023 = E := by rw [hE]; unfold expoF; rw [if_neg (by omega)]; omega
  have hY' : mi % 4503599627370496 = Fi := by rw [hFi]; unfold fracF; rw [if_neg (by omega)]; omega
  have f0 : 0 ≤ Fi := by omega
  have f1 : Fi < 4503599627370496 := by omega
  have e3 : (X == 0) = false := by rw [beq_eq_false_iff_ne]; omega
  have hbb : 9223372036854775808 ≤ bi := by omega
  have hbb2 : bi ≤ 18446744073709551615 := by omega
  clear hm hm1 hf hE hFi hXS hX hXz
  go_enter Tryz.func63, Tryz.ntmps63
  go_wp2_with fail
  refine (HH.out _).mono ?_
  rintro e w1 ⟨rfl, hb1⟩
  have HB1 := Lib.hid hb1
  clear hb1
  go_wp2
  go_loopw [7] (fun n wr => ∃ k : Nat, k ≤ 13 ∧ n = .int .i64 k ∧ Hid ((hexN (fracF m) 13).drop k = List.replicate (13 - k) 48) ∧ wr = w1) (fun n _ => (intOf n).toNat)
  case atStart => exact ⟨13, by omega, rfl, Lib.hid (by rw [List.drop_eq_nil_of_le (by rw [hexN_len]; omega)]; rfl), rfl⟩
  case round =>
    obtain ⟨k, hk, rfl, hdr, rfl⟩ := hrel
    cases k with
    | zero =>
      have HFin : Hid (∀ S : ByteArray, S.data.toList = [45] ++ [48, 120, 49] ++ [] ++ expT (expoF m) → S = ⟨([45] ++ magT m).toArray⟩) := Lib.hid fun S hS => fin_mag HM0.out HM1.out (k := 0) (by omega) hdr.out (.inl rfl) (by rw [hS]; rfl)
      clear hdr
      by_cases hE : 0 ≤ E
      · go_wp2_with fail
        refine (HDp.out hE _).mono ?_
        rintro e w2 ⟨DS, rfl, hds, hdd, hb2⟩
        have HD := Lib.hid hdd
        have HB2 := Lib.hid hb2
        clear hdd hb2
        go_wp2
        go_ret
        exact ⟨ret_str' (HFin.out _ (by simp only [Joins.data_append, HD.out hE]; simp)), HB1.out.trans (HB2.out.mono HB1.out.size)⟩
      · have hE' : E < 0 := by omega
        clear hE
        go_wp2_with fail
        refine (HDm.out hE' _).mono ?_
        rintro e w2 ⟨DS, rfl, hds, hdd, hb2⟩
        have HD := Lib.hid hdd
        have HB2 := Lib.hid hb2
        clear hdd hb2
        go_wp2
        go_ret
        exact ⟨ret_str' (HFin.out _ (by simp only [Joins.data_append, HD.out hE']; simp)), HB1.out.trans (HB2.out.mono HB1.out.size)⟩
    | succ k =>
      have hat : Hid ((hexN (fracF m) 13)[k]? = some XS[k]) := Lib.hid (by
        have := byte_at XS k (by omega)
        rw [HXS.out] at this
        exact this)
      by_cases h48 : XS[k].toNat = 48
      · have e48 : ((XS[k].toNat : Int) == 48) = true := by rw [beq_iff_eq]; omega
        have hnx : Hid ((hexN (fracF m) 13).drop k = List.replicate (13 - k) 48) := Lib.hid (by
          have hlt : k < (hexN (fracF m) 13).length := by rw [hexN_len]; omega
          rw [List.drop_eq_getElem_cons hlt, hdr.out, show 13 - k = (13 - (k + 1)) + 1 by omega, List.replicate_succ]
          congr 1
          have h2 := hat.out
          rw [List.getElem?_eq_getElem hlt] at h2
          injection h2 with h2
          rw [h2]
          exact UInt8.toNat_inj.1 (by rw [h48]; rfl))
        clear h48
        go_wp2
        go_roundw
        case rel => exact ⟨k, by omega, by go_num, hnx, by first | rfl | trivial⟩
        case measure => simp [intOf]
      · have e48 : ((XS[k].toNat : Int) == 48) = false := by rw [beq_eq_false_iff_ne]; omega
        obtain ⟨T, hT⟩ : ∃ T, T = XS.extract 0 (k + 1) := ⟨_, rfl⟩
        have hTd : Hid (T.data.toList = (hexN (fracF m) 13).take (k + 1)) := Lib.hid (by rw [hT, Lib.extract_data, HXS.out]; simp)
        have hTs : T.size ≤ 13 := by rw [Lib.size_eq, hTd.out]; have := List.length_take_le (k + 1) (hexN (fracF m) 13); omega
        have hT' : XS.extract 0 (k + 1) = T := hT.symm
        have HFin : Hid (∀ S : ByteArray, S.data.toList = [45] ++ [48, 120, 49] ++ (46 :: T.data.toList) ++ expT (expoF m) → S = ⟨([45] ++ magT m).toArray⟩) := Lib.hid fun S hS => fin_mag HM0.out HM1.out (k := k + 1) (by omega) hdr.out (.inr ⟨_, hat.out, h48⟩) (by rw [hS, if_neg (by omega), hTd.out])
        clear h48 hT hdr hat
        by_cases hE : 0 ≤ E
        · go_wp2_with fail
          refine (HDp.out hE _).mono ?_
          rintro e w2 ⟨DS, rfl, hds, hdd, hb2⟩
          have HD := Lib.hid hdd
          have HB2 := Lib.hid hb2
          clear hdd hb2
          go_wp2
          go_ret
          exact ⟨ret_str' (HFin.out _ (by simp only [Joins.data_append, HD.out hE]; simp)), HB1.out.trans (HB2.out.mono HB1.out.size)⟩
        · have hE' : E < 0 := by omega
          clear hE
          go_wp2_with fail
          refine (HDm.out hE' _).mono ?_
          rintro e w2 ⟨DS, rfl, hds, hdd, hb2⟩
          have HD := Lib.hid hdd
          have HB2 := Lib.hid hb2
          clear hdd hb2
          go_wp2
          go_ret
          exact ⟨ret_str' (HFin.out _ (by simp only [Joins.data_append, HD.out hE']; simp)), HB1.out.trans (HB2.out.mono HB1.out.size)⟩

end Go.Proofs.YthmgkjfohkadoaaGreatDoor

/- Layer 5, the document's own answer: floats written. -/
namespace Go.Proofs.YthmgkjfohkadoaaGreatDoor
open Go.RowKit
set_option linter.unusedVariables false

set_option maxRecDepth 100000 in
set_option maxHeartbeats 4000000 in
theorem refFloatNS (bi mi : Int) (m : Nat) (w : World) (hm : mi = (m : Int)) (hbm : bi - 9223372036854775808 = mi) (h0 : 0 < mi) (h1 : mi < 4503599627370496) :
    Calls Tryz.prog 63 #[.int .u64 bi] w fun e w' => e = .returned (.string ⟨([45] ++ magT m).toArray⟩) ∧ Below w.heap.size w w' := by
  have HM0 : Hid (0 < m) := Lib.hid (by omega)
  have hm1 : m < 9218868437227405312 := by omega
  have HM1 := Lib.hid hm1
  have hf := fracF_lt m
  obtain ⟨he0, he1⟩ := expoF_bd HM0.out hm1
  obtain ⟨E, hE⟩ : ∃ E, E = expoF m := ⟨_, rfl⟩
  obtain ⟨Fi, hFi⟩ : ∃ Fi : Int, Fi = (fracF m : Int) := ⟨_, rfl⟩
  have hxs : ∃ XS : ByteArray, XS = ⟨(hexN (fracF m) 13).toArray⟩ ∧ XS.size = 13 := ⟨_, rfl, by rw [str_size, hexN_len]⟩
  obtain ⟨XS, hXS, hXz⟩ := hxs
  have HXS : Hid (XS.data.toList = hexN (fracF m) 13) := Lib.hid (by rw [hXS])
  have HH : Hid (∀ w, Calls Tryz.prog 75 #[.int .u64 Fi, .int .i64 13] w fun e w' => e = .returned (.string XS) ∧ Below w.heap.size w w') := Lib.hid fun w => by
    rw [hFi, hXS]; exact refHex _ w hf
  have HDp : Hid (0 ≤ E → ∀ w, Calls Tryz.prog 76 #[.int .u64 E] w fun e w' => ∃ DS : ByteArray, e = .returned (.string DS) ∧ DS.size ≤ 20 ∧ (0 ≤ E → expT (expoF m) = 112 :: DS.data.toList) ∧ Below w.heap.size w w') := Lib.hid fun h w => by
    obtain ⟨a, ha⟩ := Int.eq_ofNat_of_zero_le h
    rw [ha]
    refine (refDigits a w (by omega)).mono fun e w' ⟨hr, hb⟩ => ⟨_, hr, ?_, fun _ => ?_, hb⟩
    · rw [str_size]; exact dd_len20 (by omega)
    · rw [← hE, expT_nn (by omega), ha]; rfl
  have HDm : Hid (E < 0 → ∀ w, Calls Tryz.prog 76 #[.int .u64 (-E)] w fun e w' => ∃ DS : ByteArray, e = .returned (.string DS) ∧ DS.size ≤ 20 ∧ (E < 0 → expT (expoF m) = 109 :: DS.data.toList) ∧ Below w.heap.size w w') := Lib.hid fun h w => by
    obtain ⟨a, ha⟩ := Int.eq_ofNat_of_zero_le (show 0 ≤ -E by omega)
    rw [ha]
    refine (refDigits a w (by omega)).mono fun e w' ⟨hr, hb⟩ => ⟨_, hr, ?_, fun _ => ?_, hb⟩
    · rw [str_size]; exact dd_len20 (by omega)
    · rw [← hE, expT_neg h, show E.natAbs = a by omega]
  rw [← hE] at he0 he1
  have z1 : 13 ≤ XS.size := by omega
  have z2 : XS.size ≤ 13 := by omega
  have e1 : (mi == 9218868437227405312) = false := by rw [beq_eq_false_iff_ne]; omega
  have e2 : (mi == 0) = false := by rw [beq_eq_false_iff_ne]; omega
  have h3 : mi < 9223372036854775808 := by omega
  have e3 : ((mi / 4503599627370496) == 0) = true := by rw [beq_iff_eq]; omega
  have HMI := Lib.hid hm
  have HE := Lib.hid hE
  have HFI := Lib.hid hFi
  have hbb : 9223372036854775808 ≤ bi := by omega
  have hbb2 : bi ≤ 18446744073709551615 := by omega
  clear hm hm1 hf hE hFi hXS hXz
  go_enter Tryz.func63, Tryz.ntmps63
  go_wp2
  go_loop [4, 5] (fun x u => ∃ (j : Nat) (X V : Int), x = .int .i64 X ∧ u = .int .u64 V ∧ 0 < V ∧ V < 9007199254740992 ∧ -60 ≤ X ∧ X ≤ 1 ∧ Hid (X = 1 - (j : Int) ∧ V = ((m * 2 ^ j : Nat) : Int))) (fun x _ => (intOf x + 100).toNat)
  case atStart => exact ⟨0, 1, _, rfl, rfl, h0, by omega, by omega, by omega, Lib.hid ⟨by omega, by have := HMI.out; simpa using this⟩⟩
  case round =>
    obtain ⟨j, X, V, rfl, rfl, v0, v1, x0, x1, hr⟩ := hrel
    by_cases hlt : V < 4503599627370496
    · have hnx : Hid (X - 1 = 1 - ((j + 1 : Nat) : Int) ∧ V * 2 = ((m * 2 ^ (j + 1) : Nat) : Int)) := Lib.hid ⟨by have := hr.out.1; omega, by rw [hr.out.2, Nat.pow_succ, ← Nat.mul_assoc]; omega⟩
      have x2 : -60 ≤ X - 1 := by
        have h1 := hr.out.1
        have h2 := hr.out.2
        have hj : j < 52 := by
          rcases Nat.lt_or_ge j 52 with h | h
          · exact h
          · exfalso
            have h4 : 2 ^ 52 ≤ 2 ^ j := Nat.pow_le_pow_right (by omega) h
            have h5 : 1 * 2 ^ j ≤ m * 2 ^ j := Nat.mul_le_mul_right _ HM0.out
            generalize m * 2 ^ j = q at h2 h5
            generalize 2 ^ j = r at h4 h5
            omega
        omega
      go_wp2
      go_round
      case rel => exact ⟨j + 1, _, _, rfl, rfl, by omega, by omega, by omega, by omega, hnx⟩
      case measure => simp [intOf]; omega
    · have hge : 4503599627370496 ≤ V := by omega
      have hj : Hid (j = 52 - m.log2) := Lib.hid (by
        have h1 := HMI.out
        obtain ⟨a, b⟩ := sub_norm (m := m) HM0.out (by omega)
        have h2 := hr.out.2
        exact norm_one (m := m) (by omega) (by omega) a b)
      have hXE : X - 1023 = E := by
        have h1 := HMI.out
        have h2 := hr.out.1
        have h4 := hj.out
        have h5 := (log2_bd (m := m) HM0.out (by omega)).1
        rw [HE.out]; unfold expoF; rw [if_pos (by omega)]; omega
      have hVF : V - 4503599627370496 = Fi := by
        have h1 := HMI.out
        obtain ⟨a, b⟩ := sub_norm (m := m) HM0.out (by omega)
        have h2 := hr.out.2
        rw [hj.out] at h2
        rw [HFI.out]; unfold fracF; rw [if_pos (by omega)]
        generalize m * 2 ^ (52 - m.log2) = q at a b h2
        omega
      have f0 : 0 ≤ Fi := by omega
      have f1 : Fi < 4503599627370496 := by omega
      clear hlt hr hj
      go_wp2_with fail
      refine (HH.out _).mono ?_
      rintro e w1 ⟨rfl, hb1⟩
      have HB1 := Lib.hid hb1
      clear hb1
      go_wp2
      go_loopw [7] (fun n wr => ∃ k : Nat, k ≤ 13 ∧ n = .int .i64 k ∧ Hid ((hexN (fracF m) 13).drop k = List.replicate (13 - k) 48) ∧ wr = w1) (fun n _ => (intOf n).toNat)
      case atStart => exact ⟨13, by omega, rfl, Lib.hid (by rw [List.drop_eq_nil_of_le (by rw [hexN_len]; omega)]; rfl), rfl⟩
      case round =>
        obtain ⟨k, hk, rfl, hdr, rfl⟩ := hrel
        cases k with
        | zero =>
          have HFin : Hid (∀ S : ByteArray, S.data.toList = [45] ++ [48, 120, 49] ++ [] ++ expT (expoF m) → S = ⟨([45] ++ magT m).toArray⟩) := Lib.hid fun S hS => fin_mag HM0.out HM1.out (k := 0) (by omega) hdr.out (.inl rfl) (by rw [hS]; rfl)
          clear hdr
          have hE' : E < 0 := by omega
          go_wp2_with fail
          refine (HDm.out hE' _).mono ?_
          rintro e w2 ⟨DS, rfl, hds, hdd, hb2⟩
          have HD := Lib.hid hdd
          have HB2 := Lib.hid hb2
          clear hdd hb2
          go_wp2
          go_ret
          exact ⟨ret_str' (HFin.out _ (by simp only [Joins.data_append, HD.out hE']; simp)), HB1.out.trans (HB2.out.mono HB1.out.size)⟩
        | succ k =>
          have hat : Hid ((hexN (fracF m) 13)[k]? = some XS[k]) := Lib.hid (by
            have := byte_at XS k (by omega)
            rw [HXS.out] at this
            exact this)
          by_cases h48 : XS[k].toNat = 48
          · have e48 : ((XS[k].toNat : Int) == 48) = true := by rw [beq_iff_eq]; omega
            have hnx : Hid ((hexN (fracF m) 13).drop k = List.replicate (13 - k) 48) := Lib.hid (by
              have hlt : k < (hexN (fracF m) 13).length := by rw [hexN_len]; omega
              rw [List.drop_eq_getElem_cons hlt, hdr.out, show 13 - k = (13 - (k + 1)) + 1 by omega, List.replicate_succ]
              congr 1
              have h2 := hat.out
              rw [List.getElem?_eq_getElem hlt] at h2
              injection h2 with h2
              rw [h2]
              exact UInt8.toNat_inj.1 (by rw [h48]; rfl))
            clear h48
            go_wp2
            go_roundw
            case rel => exact ⟨k, by omega, by go_num, hnx, by first | rfl | trivial⟩
            case measure => simp [intOf]
          · have e48 : ((XS[k].toNat : Int) == 48) = false := by rw [beq_eq_false_iff_ne]; omega
            obtain ⟨T, hT⟩ : ∃ T, T = XS.extract 0 (k + 1) := ⟨_, rfl⟩
            have hTd : Hid (T.data.toList = (hexN (fracF m) 13).take (k + 1)) := Lib.hid (by rw [hT, Lib.extract_data, HXS.out]; simp)
            have hTs : T.size ≤ 13 := by rw [Lib.size_eq, hTd.out]; have := List.length_take_le (k + 1) (hexN (fracF m) 13); omega
            have hT' : XS.extract 0 (k + 1) = T := hT.symm
            have HFin : Hid (∀ S : ByteArray, S.data.toList = [45] ++ [48, 120, 49] ++ (46 :: T.data.toList) ++ expT (expoF m) → S = ⟨([45] ++ magT m).toArray⟩) := Lib.hid fun S hS => fin_mag HM0.out HM1.out (k := k + 1) (by omega) hdr.out (.inr ⟨_, hat.out, h48⟩) (by rw [hS, if_neg (by omega), hTd.out])
            clear h48 hT hdr hat
            have hE' : E < 0 := by omega
            go_wp2_with fail
            refine (HDm.out hE' _).mono ?_
            rintro e w2 ⟨DS, rfl, hds, hdd, hb2⟩
            have HD := Lib.hid hdd
            have HB2 := Lib.hid hb2
            clear hdd hb2
            go_wp2
            go_ret
            exact ⟨ret_str' (HFin.out _ (by simp only [Joins.data_append, HD.out hE']; simp)), HB1.out.trans (HB2.out.mono HB1.out.size)⟩

end Go.Proofs.YthmgkjfohkadoaaGreatDoor

/- Layer 5, the document's own answer: every float written. -/
namespace Go.Proofs.YthmgkjfohkadoaaGreatDoor
open Go.RowKit
set_option linter.unusedVariables false

set_option maxRecDepth 100000 in
set_option maxHeartbeats 1000000 in
theorem refNanP (bi mi : Int) (w : World) (hbm : bi = mi) (hbb : 0 ≤ mi) (h3 : mi < 9223372036854775808) (h : 9218868437227405312 < mi) :
    Calls Tryz.prog 63 #[.int .u64 bi] w fun e w' => e = .returned (.string ⟨#[48, 120, 110, 97, 110]⟩) ∧ w = w' := by
  subst hbm
  go_enter Tryz.func63, Tryz.ntmps63
  go_wp2
  go_ret
  exact ⟨rfl, rfl⟩

set_option maxRecDepth 100000 in
set_option maxHeartbeats 1000000 in
theorem refInfP (bi mi : Int) (w : World) (hbm : bi = mi) (hbb : 0 ≤ mi) (h3 : mi < 9223372036854775808) (h : mi ≤ 9218868437227405312) (h2 : 9218868437227405312 ≤ mi) :
    Calls Tryz.prog 63 #[.int .u64 bi] w fun e w' => e = .returned (.string ⟨#[48, 120, 105, 110, 102]⟩) ∧ w = w' := by
  have e1 : (mi == 9218868437227405312) = true := by rw [beq_iff_eq]; omega
  subst hbm
  go_enter Tryz.func63, Tryz.ntmps63
  go_wp2
  go_ret
  exact ⟨rfl, rfl⟩

set_option maxRecDepth 100000 in
set_option maxHeartbeats 1000000 in
theorem refZeroP (bi mi : Int) (w : World) (hbm : bi = mi) (hbb : 0 ≤ mi) (h3 : mi < 9223372036854775808) (h : mi ≤ 0) (h2 : 0 ≤ mi) :
    Calls Tryz.prog 63 #[.int .u64 bi] w fun e w' => e = .returned (.string ⟨#[48, 120, 48]⟩) ∧ w = w' := by
  have e1 : (mi == 9218868437227405312) = false := by rw [beq_eq_false_iff_ne]; omega
  have e2 : (mi == 0) = true := by rw [beq_iff_eq]; omega
  have e4 : mi ≤ 9218868437227405312 := by omega
  subst hbm
  go_enter Tryz.func63, Tryz.ntmps63
  go_wp2
  go_ret
  exact ⟨rfl, rfl⟩

set_option maxRecDepth 100000 in
set_option maxHeartbeats 1000000 in
theorem refNanN (bi mi : Int) (w : World) (hbm : bi - 9223372036854775808 = mi) (hbb : 9223372036854775808 ≤ bi) (hbb2 : bi ≤ 18446744073709551615) (h : 9218868437227405312 < mi) :
    Calls Tryz.prog 63 #[.int .u64 bi] w fun e w' => e = .returned (.string ⟨#[48, 120, 110, 97, 110]⟩) ∧ w = w' := by
  go_enter Tryz.func63, Tryz.ntmps63
  go_wp2
  go_ret
  exact ⟨rfl, rfl⟩

set_option maxRecDepth 100000 in
set_option maxHeartbeats 1000000 in
theorem refInfN (bi mi : Int) (w : World) (hbm : bi - 9223372036854775808 = mi) (hbb : 9223372036854775808 ≤ bi) (hbb2 : bi ≤ 18446744073709551615) (h : mi ≤ 9218868437227405312) (h2 : 9218868437227405312 ≤ mi) :
    Calls Tryz.prog 63 #[.int .u64 bi] w fun e w' => e = .returned (.string ⟨#[45, 48, 120, 105, 110, 102]⟩) ∧ w = w' := by
  have e1 : (mi == 9218868437227405312) = true := by rw [beq_iff_eq]; omega
  go_enter Tryz.func63, Tryz.ntmps63
  go_wp2
  go_ret
  exact ⟨rfl, rfl⟩

set_option maxRecDepth 100000 in
set_option maxHeartbeats 1000000 in
theorem refZeroN (bi mi : Int) (w : World) (hbm : bi - 9223372036854775808 = mi) (hbb : 9223372036854775808 ≤ bi) (hbb2 : bi ≤ 18446744073709551615) (h : mi ≤ 0) (h2 : 0 ≤ mi) :
    Calls Tryz.prog 63 #[.int .u64 bi] w fun e w' => e = .returned (.string ⟨#[45, 48, 120, 48]⟩) ∧ w = w' := by
  have e1 : (mi == 9218868437227405312) = false := by rw [beq_eq_false_iff_ne]; omega
  have e2 : (mi == 0) = true := by rw [beq_iff_eq]; omega
  have e4 : mi ≤ 9218868437227405312 := by omega
  go_enter Tryz.func63, Tryz.ntmps63
  go_wp2
  go_ret
  exact ⟨rfl, rfl⟩

theorem refFormatFloat (b : Nat) (w : World) (h : b < 18446744073709551616) :
    Calls Tryz.prog 63 #[.int .u64 b] w fun e w' => e = .returned (.string ⟨(formF b).toArray⟩) ∧ Below w.heap.size w w' := by
  by_cases hneg : 9223372036854775808 ≤ b
  · have hm : ((b : Int) - 9223372036854775808) = ((b % 9223372036854775808 : Nat) : Int) := by omega
    by_cases hnan : 9218868437227405312 < b % 9223372036854775808
    · exact (refNanN b _ w hm (by omega) (by omega) (by omega)).mono fun e w' ⟨he, hw⟩ => ⟨by rw [he, formF_nan hnan]; rfl, hw ▸ Below.refl _ _⟩
    · rw [formF_neg hnan hneg]
      by_cases hinf : b % 9223372036854775808 = 9218868437227405312
      · rw [hinf, magT_inf]
        exact (refInfN b _ w hm (by omega) (by omega) (by omega) (by omega)).mono fun e w' ⟨he, hw⟩ => ⟨he, hw ▸ Below.refl _ _⟩
      · by_cases hz : b % 9223372036854775808 = 0
        · rw [hz, magT_zero]
          exact (refZeroN b _ w hm (by omega) (by omega) (by omega) (by omega)).mono fun e w' ⟨he, hw⟩ => ⟨he, hw ▸ Below.refl _ _⟩
        · by_cases hs : b % 9223372036854775808 < 4503599627370496
          · exact refFloatNS b _ (b % 9223372036854775808) w rfl hm (by omega) (by omega)
          · exact refFloatNB b _ (b % 9223372036854775808) w rfl hm (by omega) (by omega) (by omega)
  · have hm : (b : Int) = ((b % 9223372036854775808 : Nat) : Int) := by omega
    by_cases hnan : 9218868437227405312 < b % 9223372036854775808
    · exact (refNanP b _ w hm (by omega) (by omega) (by omega)).mono fun e w' ⟨he, hw⟩ => ⟨by rw [he, formF_nan hnan]; rfl, hw ▸ Below.refl _ _⟩
    · rw [formF_pos hnan hneg]
      by_cases hinf : b % 9223372036854775808 = 9218868437227405312
      · rw [hinf, magT_inf]
        exact (refInfP b _ w hm (by omega) (by omega) (by omega) (by omega)).mono fun e w' ⟨he, hw⟩ => ⟨he, hw ▸ Below.refl _ _⟩
      · by_cases hz : b % 9223372036854775808 = 0
        · rw [hz, magT_zero]
          exact (refZeroP b _ w hm (by omega) (by omega) (by omega) (by omega)).mono fun e w' ⟨he, hw⟩ => ⟨he, hw ▸ Below.refl _ _⟩
        · by_cases hs : b % 9223372036854775808 < 4503599627370496
          · exact refFloatPS b _ (b % 9223372036854775808) w rfl hm (by omega) (by omega)
          · exact refFloatPB b _ (b % 9223372036854775808) w rfl hm (by omega) (by omega) (by omega)
end Go.Proofs.YthmgkjfohkadoaaGreatDoor

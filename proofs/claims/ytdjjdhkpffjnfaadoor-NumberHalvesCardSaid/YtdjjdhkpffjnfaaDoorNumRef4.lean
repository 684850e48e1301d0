/- Layer 5, the document's own answer: floats written. -/
import Derived.Test.YtdjjdhkpffjnfaaDoorNumRef3
namespace Go.Proofs.YtdjjdhkpffjnfaaDoor
open Go.RowKit
set_option linter.unusedVariables false

theorem ba_ext {a b : ByteArray} (h : a.data.toList = b.data.toList) : a = b := by
  obtain ⟨⟨l⟩⟩ := a
  obtain ⟨⟨m⟩⟩ := b
  simp only at h
  rw [h]
theorem norm_one {m i j : Nat} (h1 : 4503599627370496 ≤ m * 2 ^ i) (h2 : m * 2 ^ i < 9007199254740992) (h3 : 4503599627370496 ≤ m * 2 ^ j) (h4 : m * 2 ^ j < 9007199254740992) : i = j := by
  have key : ∀ a b : Nat, a < b → m * 2 ^ a * 2 ≤ m * 2 ^ b := fun a b h => by
    rw [Nat.mul_assoc, ← Nat.pow_succ]
    exact Nat.mul_le_mul_left _ (Nat.pow_le_pow_right (by omega) h)
  rcases Nat.lt_trichotomy i j with h | h | h
  · have := key i j h; omega
  · exact h
  · have := key j i h; omega
theorem drop48 {l : List UInt8} {k : Nat} (hk : k ≤ l.length) (h : l.drop k = List.replicate (l.length - k) 48) (h2 : k = 0 ∨ ∃ c, l[k - 1]? = some c ∧ c.toNat ≠ 48) : strip0 l = l.take k := by
  have e : l = l.take k ++ List.replicate (l.length - k) 48 := by rw [← h, List.take_append_drop]
  unfold strip0
  conv => lhs; rw [e]
  rw [List.reverse_append, List.reverse_replicate]
  have dr : ∀ (n : Nat) (r : List UInt8), (List.replicate n 48 ++ r).dropWhile (fun c => c.toNat == 48) = r.dropWhile (fun c => c.toNat == 48) := by
    intro n
    induction n with
    | zero => intro r; rfl
    | succ n ih => intro r; rw [List.replicate_succ, List.cons_append, List.dropWhile_cons]; rw [if_pos (by decide)]; exact ih r
  rw [dr]
  rcases h2 with rfl | ⟨c, hc, hne⟩
  · simp
  · have hk0 : 0 < k := by
      rcases Nat.eq_zero_or_pos k with h0 | h0
      · subst h0
        simp at h
        have hm : c ∈ l := List.mem_of_getElem? hc
        rw [h] at hm
        have := (List.mem_replicate.1 hm).2
        rw [this] at hne
        exact absurd rfl hne
      · exact h0
    have ht : l.take k = l.take (k - 1) ++ [c] := by
      have hlt : k - 1 < l.length := by omega
      have := List.take_succ_eq_append_getElem hlt
      rw [show k - 1 + 1 = k by omega] at this
      rw [this]
      congr 2
      rw [List.getElem?_eq_getElem hlt] at hc
      injection hc
    rw [ht, List.reverse_append]
    show List.reverse (List.dropWhile _ (c :: (l.take (k - 1)).reverse)) = _
    rw [List.dropWhile_cons, if_neg (by simpa using hne)]
    simp

/-- the text of a positive finite float behind what stands ahead -/
theorem fin_mag {P : List UInt8} {m k : Nat} {S : ByteArray} (h0 : 0 < m) (h1 : m < 9218868437227405312) (hk : k ≤ 13) (hd : (hexN (fracF m) 13).drop k = List.replicate (13 - k) 48) (h2 : k = 0 ∨ ∃ c, (hexN (fracF m) 13)[k - 1]? = some c ∧ c.toNat ≠ 48)
    (hS : S.data.toList = P ++ [48, 120, 49] ++ (if k = 0 then [] else 46 :: (hexN (fracF m) 13).take k) ++ expT (expoF m)) : S = ⟨(P ++ magT m).toArray⟩ := by
  apply ba_ext
  rw [hS]
  show _ = P ++ magT m
  rw [magT_pos h0 h1]
  have hl := hexN_len 13 (fracF m)
  have hs := drop48 (l := hexN (fracF m) 13) (k := k) (by omega) (by rw [hl]; exact hd) h2
  have hf : fracT (fracF m) = if k = 0 then [] else 46 :: (hexN (fracF m) 13).take k := by
    unfold fracT
    by_cases hz : fracF m = 0
    · rw [if_pos hz]
      rcases h2 with rfl | ⟨c, hc, hne⟩
      · rfl
      · rw [hz] at hc
        have hm := List.mem_of_getElem? hc
        have : c = 48 := by
          have : ∀ x ∈ hexN 0 13, x = 48 := by decide
          exact this c hm
        rw [this] at hne
        exact absurd rfl hne
    · rw [if_neg hz]
      by_cases hk0 : k = 0
      · subst hk0
        exfalso
        apply hz
        rw [List.drop_zero] at hd
        rw [← valx_frac _ (fracF_lt m), hd]
        decide
      · rw [if_neg hk0, hs]
  rw [hf]
  simp

set_option maxRecDepth 100000 in
set_option maxHeartbeats 4000000 in
theorem refFloatPB (bi mi : Int) (m : Nat) (w : World) (hm : mi = (m : Int)) (hbm : bi = mi) (h0 : 0 < mi) (h1 : 4503599627370496 ≤ mi) (h2 : mi < 9218868437227405312) :
    Calls Tryd.prog 18 #[.int .u64 bi] w fun e w' => e = .returned (.string ⟨([] ++ magT m).toArray⟩) ∧ Below w.heap.size w w' := by
  have HM0 : Hid (0 < m) := Lib.hid (by omega)
  have hm1 : m < 9218868437227405312 := by omega
  have HM1 := Lib.hid hm1
  have hf := fracF_lt m
  obtain ⟨he0, he1⟩ := expoF_bd HM0.out hm1
  obtain ⟨E, hE⟩ : ∃ E, E = expoF m := ⟨_, rfl⟩
  obtain ⟨Fi, hFi⟩ : ∃ Fi : Int, Fi = (fracF m : Int) := ⟨_, rfl⟩
  have hxs : ∃ XS : ByteArray, XS = ⟨(hexN (fracF m) 13).toArray⟩ ∧ XS.size = 13 := ⟨_, rfl, by rw [str_size, hexN_len]⟩
  obtain ⟨XS, hXS, hXz⟩ := hxs
  have HXS : Hid (XS.data.toList = hexN (fracF m) 13) := Lib.hid (by rw [hXS])
  have HH : Hid (∀ w, Calls Tryd.prog 28 #[.int .u64 Fi, .int .i64 13] w fun e w' => e = .returned (.string XS) ∧ Below w.heap.size w w') := Lib.hid fun w => by
    rw [hFi, hXS]; exact refHex _ w hf
  have HDp : Hid (0 ≤ E → ∀ w, Calls Tryd.prog 23 #[.int .u64 E] w fun e w' => ∃ DS : ByteArray, e = .returned (.string DS) ∧ DS.size ≤ 20 ∧ (0 ≤ E → expT (expoF m) = 112 :: DS.data.toList) ∧ Below w.heap.size w w') := Lib.hid fun h w => by
    obtain ⟨a, ha⟩ := Int.eq_ofNat_of_zero_le h
    rw [ha]
    refine (refDigits a w (by omega)).mono fun e w' ⟨hr, hb⟩ => ⟨_, hr, ?_, fun _ => ?_, hb⟩
    · rw [str_size]; exact dd_len20 (by omega)
    · rw [← hE, expT_nn (by omega), ha]; rfl
  have HDm : Hid (E < 0 → ∀ w, Calls Tryd.prog 23 #[.int .u64 (-E)] w fun e w' => ∃ DS : ByteArray, e = .returned (.string DS) ∧ DS.size ≤ 20 ∧ (E < 0 → expT (expoF m) = 109 :: DS.data.toList) ∧ Below w.heap.size w w') := Lib.hid fun h w => by
    obtain ⟨a, ha⟩ := Int.eq_ofNat_of_zero_le (show 0 ≤ -E by omega)
    rw [ha]
    refine (refDigits a w (by omega)).mono fun e w' ⟨hr, hb⟩ => ⟨_, hr, ?_, fun _ => ?_, hb⟩
    · rw [str_size]; exact dd_len20 (by omega)
    · rw [← hE, expT_neg h, show E.natAbs = a by omega]
  rw [← hE] at he0 he1
  have z1 : 13 ≤ XS.size := by omega
  have z2 : XS.size ≤ 13 := by omega
  have e1 : (mi == 9218868437227405312) = false := by rw [beq_eq_false_iff_ne]; omega
  have e2 : (mi == 0) = false := by rw [beq_eq_false_iff_ne]; omega
  have h3 : mi < 9223372036854775808 := by omega
  obtain ⟨X, hX⟩ : ∃ X : Int, X = mi / 4503599627370496 := ⟨_, rfl⟩
  have x0 : 1 ≤ X := by omega
  have x1 : X ≤ 2046 := by omega
  have hX' : mi / 4503599627370496 = X := hX.symm
  have hXE : X - 1023 = E := by rw [hE]; unfold expoF; rw [if_neg (by omega)]; omega
  have hY' : mi % 4503599627370496 = Fi := by rw [hFi]; unfold fracF; rw [if_neg (by omega)]; omega
  have f0 : 0 ≤ Fi := by omega
  have f1 : Fi < 4503599627370496 := by omega
  have e3 : (X == 0) = false := by rw [beq_eq_false_iff_ne]; omega
  subst hbm
  clear hm hm1 hf hE hFi hXS hX hXz
  go_enter Tryd.func18, Tryd.ntmps18
  go_wp2_with fail
  refine (HH.out _).mono ?_
  rintro e w1 ⟨rfl, hb1⟩
  have HB1 := Lib.hid hb1
  clear hb1
  go_wp2
  go_loopw [7] (fun n wr => ∃ k : Nat, k ≤ 13 ∧ n = .int .i64 k ∧ Hid ((hexN (fracF m) 13).drop k = List.replicate (13 - k) 48) ∧ wr = w1) (fun n _ => (intOf n).toNat)
  case atStart => exact ⟨13, by omega, rfl, Lib.hid (by rw [List.drop_eq_nil_of_le (by rw [hexN_len]; omega)]; rfl), rfl⟩
  case round =>
    obtain ⟨k, hk, rfl, hdr, rfl⟩ := hrel
    cases k with
    | zero =>
      have HFin : Hid (∀ S : ByteArray, S.data.toList = [] ++ [48, 120, 49] ++ [] ++ expT (expoF m) → S = ⟨([] ++ magT m).toArray⟩) := Lib.hid fun S hS => fin_mag HM0.out HM1.out (k := 0) (by omega) hdr.out (.inl rfl) (by rw [hS]; rfl)
      clear hdr
      by_cases hE : 0 ≤ E
      · go_wp2_with fail
        refine (HDp.out hE _).mono ?_
        rintro e w2 ⟨DS, rfl, hds, hdd, hb2⟩
        have HD := Lib.hid hdd
        have HB2 := Lib.hid hb2
        clear hdd hb2
        go_wp2
        go_ret
        exact ⟨ret_str' (HFin.out _ (by simp only [Joins.data_append, HD.out hE]; simp)), HB1.out.trans (HB2.out.mono HB1.out.size)⟩
      · have hE' : E < 0 := by omega
        clear hE
        go_wp2_with fail
        refine (HDm.out hE' _).mono ?_
        rintro e w2 ⟨DS, rfl, hds, hdd, hb2⟩
        have HD := Lib.hid hdd
        have HB2 := Lib.hid hb2
        clear hdd hb2
        go_wp2
        go_ret
        exact ⟨ret_str' (HFin.out _ (by simp only [Joins.data_append, HD.out hE']; simp)), HB1.out.trans (HB2.out.mono HB1.out.size)⟩
    | succ k =>
      have hat : Hid ((hexN (fracF m) 13)[k]? = some XS[k]) := Lib.hid (by
        have := byte_at XS k (by omega)
        rw [HXS.out] at this
        exact this)
      by_cases h48 : XS[k].toNat = 48
      · have e48 : ((XS[k].toNat : Int) == 48) = true := by rw [beq_iff_eq]; omega
        have hnx : Hid ((hexN (fracF m) 13).drop k = List.replicate (13 - k) 48) := Lib.hid (by
          have hlt : k < (hexN (fracF m) 13).length := by rw [hexN_len]; omega
          rw [List.drop_eq_getElem_cons hlt, hdr.out, show 13 - k = (13 - (k + 1)) + 1 by omega, List.replicate_succ]
          congr 1
          have h2 := hat.out
          rw [List.getElem?_eq_getElem hlt] at h2
          injection h2 with h2
          rw [h2]
          exact UInt8.toNat_inj.1 (by rw [h48]; rfl))
        clear h48
        go_wp2
        go_roundw
        case rel => exact ⟨k, by omega, by go_num, hnx, by first | rfl | trivial⟩
        case measure => simp [intOf]
      · have e48 : ((XS[k].toNat : Int) == 48) = false := by rw [beq_eq_false_iff_ne]; omega
        obtain ⟨T, hT⟩ : ∃ T, T = XS.extract 0 (k + 1) := ⟨_, rfl⟩
        have hTd : Hid (T.data.toList = (hexN (fracF m) 13).take (k + 1)) := Lib.hid (by rw [hT, Lib.extract_data, HXS.out]; simp)
        have hTs : T.size ≤ 13 := by rw [Lib.size_eq, hTd.out]; have := List.length_take_le (k + 1) (hexN (fracF m) 13); omega
        have hT' : XS.extract 0 (k + 1) = T := hT.symm
        have HFin : Hid (∀ S : ByteArray, S.data.toList = [] ++ [48, 120, 49] ++ (46 :: T.data.toList) ++ expT (expoF m) → S = ⟨([] ++ magT m).toArray⟩) := Lib.hid fun S hS => fin_mag HM0.out HM1.out (k := k + 1) (by omega) hdr.out (.inr ⟨_, hat.out, h48⟩) (by rw [hS, if_neg (by omega), hTd.out])
        clear h48 hT hdr hat
        by_cases hE : 0 ≤ E
        · go_wp2_with fail
          refine (HDp.out hE _).mono ?_
          rintro e w2 ⟨DS, rfl, hds, hdd, hb2⟩
          have HD := Lib.hid hdd
          have HB2 := Lib.hid hb2
          clear hdd hb2
          go_wp2
          go_ret
          exact ⟨ret_str' (HFin.out _ (by simp only [Joins.data_append, HD.out hE]; simp)), HB1.out.trans (HB2.out.mono HB1.out.size)⟩
        · have hE' : E < 0 := by omega
          clear hE
          go_wp2_with fail
          refine (HDm.out hE' _).mono ?_
          rintro e w2 ⟨DS, rfl, hds, hdd, hb2⟩
          have HD := Lib.hid hdd
          have HB2 := Lib.hid hb2
          clear hdd hb2
          go_wp2
          go_ret
          exact ⟨ret_str' (HFin.out _ (by simp only [Joins.data_append, HD.out hE']; simp)), HB1.out.trans (HB2.out.mono HB1.out.size)⟩

end Go.Proofs.YtdjjdhkpffjnfaaDoor

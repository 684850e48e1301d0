/- Layer 5: strconv.ParseUint at base 16 and 52 bits, any text. -/
import Derived.Test.YthmgkjfohkadoaaGreatDoorNumParse
import Derived.Lib.ConvBytes
import Derived.Lib.AtoiAllMem
import Derived.BigCall
import Derived.BigGuard
namespace Go.Proofs.YthmgkjfohkadoaaGreatDoor
open Go.RowKit
set_option linter.unusedVariables false

theorem valx_lt : ∀ (l : List UInt8) (a : Nat), l.all isHex = true → valx a l < (a + 1) * 16 ^ l.length
  | [], a, _ => by rw [valx_nil]; simp
  | c :: r, a, h => by
    simp only [List.all_cons, Bool.and_eq_true] at h
    have hc : (48 ≤ c.toNat ∧ c.toNat ≤ 57) ∨ (97 ≤ c.toNat ∧ c.toNat ≤ 102) := of_decide_eq_true h.1
    have hv : hval c < 16 := by unfold hval; split <;> omega
    have := valx_lt r (a * 16 + hval c) h.2
    rw [valx_cons, List.length_cons, Nat.pow_succ]
    refine Nat.lt_of_lt_of_le this ?_
    rw [Nat.mul_comm (16 ^ r.length) 16, ← Nat.mul_assoc]
    exact Nat.mul_le_mul_right _ (by omega)

/-- what is known of an answer of ParseUint(.., 16, 52) -/
def PU16 (bs : List UInt8) (w : World) (e : Ending) (w' : World) : Prop :=
  ∃ (v : Int) (X : Value), 0 ≤ v ∧ v < 4503599627370496 ∧ (X = .nilIface ∨ X = .iface 114 (.int .i64 1) ∨ X = .iface 114 (.int .i64 2)) ∧ e = .returned (.tuple #[.int .u64 v, X]) ∧
    (bs.all isHex = true → bs.length ≤ 13 → bs ≠ [] → v = ((valx 0 bs : Nat) : Int)) ∧ Below w.heap.size w w'

theorem take_hex {bs : List UInt8} {k : Nat} {c : UInt8} {r : List UInt8} (hd : bs.drop k = c :: r) : bs.take (k + 1) = bs.take k ++ [c] := by
  have h := List.take_append_drop k bs
  rw [hd] at h
  have hk : k < bs.length := by
    rcases Nat.lt_or_ge k bs.length with h1 | h1
    · exact h1
    · rw [List.drop_eq_nil_of_le h1] at hd; cases hd
  rw [List.take_succ_eq_append_getElem hk]
  congr 2
  have := List.drop_eq_getElem_cons hk
  rw [hd] at this
  injection this with h1 _
  exact h1.symm
/-- a text with a byte that is no digit is no hexadecimal one -/
theorem not_hex {bs : List UInt8} {k : Nat} {c : UInt8} {r : List UInt8} (hd : bs.drop k = c :: r) (h : isHex c = false) : bs.all isHex = false := by
  rw [List.all_eq_false]
  exact ⟨c, by rw [← List.take_append_drop k bs, hd]; simp, by simp [h]⟩
theorem or32 {c : UInt8} (h : isHex c = true) (h2 : 57 < c.toNat) : bits .or .u8 (c.toNat : Int) 32 = (c.toNat : Int) := by
  have := of_decide_eq_true h
  have hc : c.toNat = 97 ∨ c.toNat = 98 ∨ c.toNat = 99 ∨ c.toNat = 100 ∨ c.toNat = 101 ∨ c.toNat = 102 := by omega
  rcases hc with e | e | e | e | e | e <;> rw [e] <;> decide +kernel

section
variable {bs r : List UInt8} {w w' : World} {k : Nat} {c : UInt8} {a d : Int}
theorem pu_syn (h : bs.all isHex = false) (hb : Below w.heap.size w w') : PU16 bs w (.returned (.tuple #[.int .u64 0, .iface 114 (.int .i64 2)])) w' :=
  ⟨0, _, by omega, by omega, .inr (.inr rfl), rfl, fun h' _ _ => absurd (h.symm.trans h') (by decide), hb⟩
theorem pu_step (hd : bs.drop k = c :: r) (ha : (bs.take k).all isHex = true → a = ((valx 0 (bs.take k) : Nat) : Int)) (hdv : isHex c = true → d = ((hval c : Nat) : Int)) :
    (bs.take (k + 1)).all isHex = true → a * 16 + d = ((valx 0 (bs.take (k + 1)) : Nat) : Int) := by
  intro h
  rw [take_hex hd] at h ⊢
  rw [List.all_append] at h
  simp only [Bool.and_eq_true, List.all_cons, List.all_nil, Bool.and_true] at h
  rw [valx_snoc, ha h.1, hdv h.2]; omega
theorem pu_rng (hd : bs.drop k = c :: r) (ha : (bs.take k).all isHex = true → a = ((valx 0 (bs.take k) : Nat) : Int)) (hdv : isHex c = true → d = ((hval c : Nat) : Int)) (hov : 4503599627370495 < a * 16 + d)
    (hb : Below w.heap.size w w') : PU16 bs w (.returned (.tuple #[.int .u64 4503599627370495, .iface 114 (.int .i64 1)])) w' :=
  ⟨4503599627370495, _, by omega, by omega, .inr (.inl rfl), rfl, fun h1 h2 _ => by
    have ht : (bs.take (k + 1)).all isHex = true := by
      have h3 := List.take_append_drop (k + 1) bs
      rw [← h3, List.all_append] at h1
      simp only [Bool.and_eq_true] at h1
      exact h1.1
    have hs := pu_step hd ha hdv ht
    have hl := valx_lt _ 0 ht
    have hlen : (bs.take (k + 1)).length ≤ 13 := Nat.le_trans (List.length_take_le' _ _) h2
    have hp : 16 ^ (bs.take (k + 1)).length ≤ 16 ^ 13 := Nat.pow_le_pow_right (by omega) hlen
    exfalso
    generalize 16 ^ (bs.take (k + 1)).length = q at hl hp
    omega, hb⟩
theorem pu_end (hk : bs.length ≤ k) (h0 : 0 ≤ a) (h1 : a < 4503599627370496) (ha : (bs.take k).all isHex = true → a = ((valx 0 (bs.take k) : Nat) : Int)) (hb : Below w.heap.size w w') :
    PU16 bs w (.returned (.tuple #[.int .u64 a, .nilIface])) w' :=
  ⟨a, _, h0, h1, .inl rfl, rfl, fun h _ _ => by rw [List.take_of_length_le hk] at ha; exact ha h, hb⟩
end

set_option maxHeartbeats 4000000 in
set_option maxRecDepth 100000 in
theorem uint16In (t : ByteArray) (hne : t.size ≠ 0) (hmax : t.size ≤ 9223372036854775806) (w : World) :
    Calls Tryz.prog 88 #[.string t, .int .i64 16, .int .i64 52] w (PU16 t.data.toList w) := by
  have hemp : t.toList.isEmpty = false := by
    rw [Lib.toList_data]
    cases h : t.data.toList with
    | nil => exact absurd (by rw [Lib.size_eq, h]; rfl) hne
    | cons _ _ => rfl
  have hcv := Lib.run_convert_string_bytes (P := Tryz.prog) w 9 56 5 t (u := .string) Tryz.underlying9 Tryz.underlying56 Tryz.underlying5
  have hB : ∀ j, j < t.size → (Lib.bytesWorld w 5 t).cell? ⟨w.heap.size, j, none⟩ = some (.int .u8 (t.data.toList.getD j 0).toNat) := fun j hj => Lib.bytesWorld_cell w 5 t j hj
  have hbw := Lib.bytesWorld_below w 5 t
  obtain ⟨w1, hW1⟩ : ∃ w1, w1 = Lib.bytesWorld w 5 t := ⟨_, rfl⟩
  rw [← hW1] at hcv hB hbw
  clear hW1
  obtain ⟨bs, hL⟩ : ∃ bs, bs = t.data.toList := ⟨_, rfl⟩
  have hLn : bs.length = t.size := by rw [hL, Lib.size_eq]
  rw [← hL] at hB ⊢
  clear hL
  have HB := Lib.hid hB
  clear hB
  have hmv : IntKind.u64.wrap (IntKind.u64.wrap 4503599627370496 - 1) = 4503599627370495 := by
    rw [IntKind.wrap_u64, IntKind.wrap_u64]
    decide
  have HLn := Lib.hid hLn
  clear hLn
  go_enter Tryz.func88, Tryz.ntmps88
  go_wp2
  go_loop [12, 13, 101] (fun vu vn vi => ∃ (k : Nat) (a : Int), vu = .bool false ∧ vn = .int .u64 a ∧ vi = .int .i64 k ∧ k ≤ t.size ∧ 0 ≤ a ∧ a < 4503599627370496 ∧ Hid ((bs.take k).all isHex = true → a = ((valx 0 (bs.take k) : Nat) : Int)))
    (fun _ _ vi => t.size - (intOf vi).toNat)
  case atStart => exact ⟨0, 0, rfl, rfl, rfl, by omega, by omega, by omega, Lib.hid (fun _ => by rw [List.take_zero, valx_nil]; rfl)⟩
  case round =>
    obtain ⟨k, a, rfl, rfl, rfl, hk, a0, a1, ha⟩ := hrel
    by_cases hkn : k < t.size
    · have hc := HB.out k hkn
      obtain ⟨c, r, hdrop⟩ : ∃ c r, bs.drop k = c :: r := ⟨_, _, List.drop_eq_getElem_cons (by rw [HLn.out]; exact hkn)⟩
      have hget : bs.getD k 0 = c := by
        have h1 : bs[k]? = some c := by
          have := congrArg (fun l => l[0]?) hdrop
          simpa using this
        simp [List.getD, h1]
      rw [hget] at hc
      have HD := Lib.hid hdrop
      clear hget hdrop
      have hc256 : c.toNat < 256 := c.toNat_lt
      by_cases hdig : 48 ≤ c.toNat ∧ c.toNat ≤ 57
      · obtain ⟨hd0, hd1⟩ := hdig
        have hdv : Hid (isHex c = true → (c.toNat : Int) - 48 = ((hval c : Nat) : Int)) := Lib.hid fun _ => by unfold hval; rw [if_pos (by omega)]; omega
        by_cases hov : 4503599627370495 < a * 16 + ((c.toNat : Int) - 48)
        · go_wp2
          go_ret2
          exact pu_rng HD.out ha.out hdv.out hov hbw
        · have hov' : a * 16 + ((c.toNat : Int) - 48) ≤ 4503599627370495 := by omega
          clear hov
          go_wp2
          refine ⟨⟨k + 1, a * 16 + ((c.toNat : Int) - 48), rfl, rfl, (by first | rfl | (congr 1; omega)), by omega, by omega, by omega, Lib.hid (pu_step HD.out ha.out hdv.out)⟩, by simp [intOf]; omega⟩
      · by_cases h95 : c.toNat = 95
        · have hs : Hid (bs.all isHex = false) := Lib.hid (not_hex HD.out (decide_eq_false (by omega)))
          have HLow : Hid (∀ w, Calls Tryz.prog 103 #[.int .u8 95] w fun e w' => e = .returned (.int .u8 127) ∧ w = w') := Lib.hid fun w =>
            (Tryz.internal_strconv_lower _ w).mono fun e w' ⟨he, hw⟩ => ⟨by rw [he]; exact ret_int' (by decide +kernel), hw.symm⟩
          have hc' : w1.cell? ⟨w.heap.size, k, none⟩ = some (.int .u8 95) := by rw [hc, h95]; rfl
          clear hc hdig h95 hc256
          go_wp2_with (go_at_call 103; refine (HLow.out _).mono ?_; rintro e w' ⟨rfl, rfl⟩)
          go_ret2
          exact pu_syn hs.out hbw
        have e95 : ((c.toNat : Int) == 95) = false := by rw [beq_eq_false_iff_ne]; omega
        obtain ⟨L, hL⟩ : ∃ L, L = bits .or .u8 (c.toNat : Int) 32 := ⟨_, rfl⟩
        have hv0 := bits_lo_u8 .or (c.toNat : Int) 32
        have hv1 := bits_hi_u8 .or (c.toNat : Int) 32
        rw [← hL] at hv0 hv1
        have HLow : Hid (∀ w, Calls Tryz.prog 103 #[.int .u8 (c.toNat : Int)] w fun e w' => e = .returned (.int .u8 L) ∧ w = w') := Lib.hid fun w =>
          (Tryz.internal_strconv_lower _ w).mono fun e w' ⟨he, hw⟩ => ⟨by rw [he, hL], hw.symm⟩
        have hdv : Hid (isHex c = true → L - 97 + 10 = ((hval c : Nat) : Int)) := Lib.hid fun h => by
          have h2 := of_decide_eq_true h
          rw [hL, or32 h (by omega)]; unfold hval; rw [if_neg (by omega)]; omega
        have hsyn : Hid ((L < 97 ∨ 102 < L) → bs.all isHex = false) := Lib.hid fun h => by
          refine not_hex HD.out ?_
          cases hx : isHex c with
          | false => rfl
          | true =>
            exfalso
            have h2 := of_decide_eq_true hx
            rw [hL, or32 hx (by omega)] at h
            omega
        clear hL
        by_cases hL1 : 97 ≤ L ∧ L ≤ 102
        · obtain ⟨hl1, hl2⟩ := hL1
          by_cases hov : 4503599627370495 < a * 16 + (L - 97 + 10)
          · go_wp2_with (go_at_call 103; refine (HLow.out _).mono ?_; rintro e w' ⟨rfl, rfl⟩)
            all_goals go_ret2
            all_goals exact pu_rng HD.out ha.out hdv.out hov hbw
          · have hov' : a * 16 + (L - 97 + 10) ≤ 4503599627370495 := by omega
            clear hov
            go_wp2_with (go_at_call 103; refine (HLow.out _).mono ?_; rintro e w' ⟨rfl, rfl⟩)
            all_goals refine ⟨⟨k + 1, a * 16 + (L - 97 + 10), rfl, (by first | rfl | (congr 1; omega)), (by first | rfl | (congr 1; omega)), by omega, by omega, by omega, Lib.hid (pu_step HD.out ha.out hdv.out)⟩, by simp [intOf]; omega⟩
        · have hs := hsyn.out (by omega)
          have HS := Lib.hid hs
          clear hs hsyn
          go_wp2_with (go_at_call 103; refine (HLow.out _).mono ?_; rintro e w' ⟨rfl, rfl⟩)
          all_goals go_ret2
          all_goals exact pu_syn HS.out hbw
    · have hge : t.size ≤ k := by omega
      clear hkn
      go_wp2
      go_ret2
      exact pu_end (by rw [HLn.out]; exact hge) a0 a1 ha.out hbw
end Go.Proofs.YthmgkjfohkadoaaGreatDoor

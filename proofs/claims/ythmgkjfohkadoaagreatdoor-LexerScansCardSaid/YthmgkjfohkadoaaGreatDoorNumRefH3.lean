/- Layer 5, the document's own answer: the bits that a text may stand for, walked. -/
import Derived.Test.YthmgkjfohkadoaaGreatDoorNumRefC
namespace Go.Proofs.YthmgkjfohkadoaaGreatDoor
open Go.RowKit
set_option linter.unusedVariables false

set_option maxRecDepth 100000 in
set_option maxHeartbeats 16000000 in
theorem refGuess3 (s : ByteArray) (w : World) (hs : s.size ≤ 140737488355328) (h5 : 5 ≤ s.size) (hdot : ¬ (s[3]'(by omega)).toNat = 46) :
    Calls Tryz.prog 62 #[.string s] w (GS s.data.toList w) := by
  have hsl : Hid (s.data.toList.length = s.size) := Lib.hid (Lib.size_eq s).symm
  have AT : Hid (∀ k (h : k < s.size), s.data.toList[k]? = some s[k]) := Lib.hid fun k h => byte_at s k h
  obtain ⟨l, hl⟩ : ∃ l, l = s.data.toList := ⟨_, rfl⟩
  rw [← hl] at hsl AT ⊢
  have HST : Hid (3 = if l[3]? = some 46 then 4 else 3) := Lib.hid (by
    rw [AT.out 3 (by omega)]
    rw [if_neg]; intro h2; injection h2 with h2; exact hdot (by rw [h2]; rfl))
  have e46 : (((s[3]'(by omega)).toNat : Int) == 46) = false := by
    rw [beq_eq_false_iff_ne]; omega
  clear hl hdot
  have h35 : 3 < s.size := by omega
  have hB : Hid (∀ k A (h : A < s.size), A = 3 + k → (l.drop 3)[k]? = some s[A]) := Lib.hid fun k A h hA => by rw [List.getElem?_drop, ← hA]; exact AT.out A h
  have hp13 : Hid (∀ k, k ≤ 13 → 16 ^ k ≤ 16 ^ 13) := Lib.hid fun k hk => Nat.pow_le_pow_right (by omega) hk
  go_enter Tryz.func62, Tryz.ntmps62
  go_wp2
  go_loop [3, 4, 5] (fun v p a => ∃ (k A : Nat) (V : Int), k ≤ 13 ∧ A ≤ s.size ∧ v = .int .u64 V ∧ 1 ≤ V ∧ V < 9007199254740992 ∧ p = .int .i64 k ∧ a = .int .i64 A ∧ Hid (A = 3 + k) ∧ Hid (V < ((2 * 16 ^ k : Nat) : Int)) ∧ Hid (∀ x ∈ (l.drop 3).take k, noPM x) ∧
      Hid (((l.drop 3).take k).all isHex = true → V = ((valx 1 ((l.drop 3).take k) : Nat) : Int))) (fun _ p _ => 13 - (intOf p).toNat)
  case atStart => exact ⟨0, 3, 1, by omega, by omega, rfl, by omega, by omega, rfl, rfl, Lib.hid rfl, Lib.hid (by decide), Lib.hid (by simp), Lib.hid (by simp [valx_nil])⟩
  case round =>
    obtain ⟨k, A, V, hk, hAs, rfl, v0, v1, rfl, rfl, hA, hV2, hno, hval⟩ := hrel
    by_cases hlt : A < s.size
    case neg =>
      have hge : s.size ≤ A := by omega
      have hbad : Hid (∀ m, 0 < m → m < 9218868437227405312 → l = magT m → False) := Lib.hid fun m h0 h1 hl => by
        obtain ⟨st', D, E, c, n, hst', hBd, _, _, hDn, hc, _, _, _, _, _⟩ := mag_parts h0 h1 hl
        have e := HST.out.trans hst'.symm
        rw [← e] at hBd
        have hm : c ∈ (l.drop 3).take k := by
          rw [List.take_of_length_le (by rw [List.length_drop, hsl.out]; have := hA.out; omega), hBd]
          simp
        have := hno.out c hm
        unfold noPM at this; omega
      clear hlt
      go_wp2
      go_loop [3, 4] (fun v p => ∃ (q : Nat) (U : Int), q ≤ 13 ∧ v = .int .u64 U ∧ 1 ≤ U ∧ U < 9007199254740992 ∧ p = .int .i64 q ∧ Hid (k ≤ q) ∧ Hid (U < ((2 * 16 ^ q : Nat) : Int)) ∧ Hid (U = V * ((16 ^ (q - k) : Nat) : Int))) (fun _ p => 13 - (intOf p).toNat)
      case atStart => exact ⟨k, V, hk, rfl, v0, v1, rfl, Lib.hid (Nat.le_refl _), hV2, Lib.hid (by rw [Nat.sub_self]; simp)⟩
      case round =>
        obtain ⟨q, U, hq, rfl, u0, u1, rfl, hkq, hU2, hUV⟩ := hrel
        by_cases hq13 : q < 13
        · have hnb : Hid (U * 16 < ((2 * 16 ^ (q + 1) : Nat) : Int)) := Lib.hid (by have := hU2.out; rw [Nat.pow_succ]; omega)
          have hnb2 : U * 16 < 9007199254740992 := by
            have h1 := hnb.out
            have h2 := hp13.out (q + 1) (by omega)
            generalize 16 ^ (q + 1) = z at h1 h2
            omega
          have hnu : Hid (U * 16 = V * ((16 ^ (q + 1 - k) : Nat) : Int)) := Lib.hid (by
            have h1 := hkq.out
            rw [hUV.out, show q + 1 - k = (q - k) + 1 by omega, Nat.pow_succ, Int.natCast_mul, Int.mul_assoc]; rfl)
          go_wp2
          go_round
          case rel => exact ⟨q + 1, _, by omega, rfl, by omega, hnb2, by go_num, Lib.hid (by have := hkq.out; omega), hnb, hnu⟩
          case measure => simp [intOf]; omega
        · obtain rfl : q = 13 := by omega
          clear hq13
          go_wp2
          go_ret
          exact ⟨0, by omega, rfl, fun m h0 h1 hl => (hbad.out m h0 h1 hl).elim, rfl⟩
    case pos =>
      have hb := s[A].toNat_lt
      have hat := Lib.hid (hB.out k A hlt hA.out)
      by_cases hgo : (s[A].toNat ≠ 112 ∧ s[A].toNat ≠ 109) ∧ k < 13
      · obtain ⟨⟨g1, g2⟩, g3⟩ := hgo
        have ne1 : ((s[A].toNat : Int) != 112) = true := by rw [bne_iff_ne]; omega
        have ne2 : ((s[A].toNat : Int) != 109) = true := by rw [bne_iff_ne]; omega
        have hno' : Hid (∀ x ∈ (l.drop 3).take (k + 1), noPM x) := Lib.hid (take_step hat.out hno.out (by unfold noPM; omega))
        have hbd : Hid (∀ d : Int, 0 ≤ d → d < 16 → V * 16 + d < ((2 * 16 ^ (k + 1) : Nat) : Int) ∧ V * 16 + d < 9007199254740992) := Lib.hid fun d d0 d1 => by
          have h1 := hV2.out
          have h2 := hp13.out (k + 1) (by omega)
          rw [Nat.pow_succ] at h2 ⊢
          generalize 16 ^ k = z at h1 h2 ⊢
          omega
        have hvl : Hid (∀ d : Int, d = ((gd s[A] : Nat) : Int) → ((l.drop 3).take (k + 1)).all isHex = true → V * 16 + d = ((valx 1 ((l.drop 3).take (k + 1)) : Nat) : Int)) := Lib.hid fun d hd h => by
          obtain ⟨a, b⟩ := valx_take 1 hat.out
          rw [b, Bool.and_eq_true] at h
          rw [a, hval.out h.1, hd, gd_hex h.2]; omega
        clear g1 g2 hno hV2 hval
        by_cases h97 : 97 ≤ (s[A].toNat : Int) ∧ (s[A].toNat : Int) ≤ 102
        · obtain ⟨c1, c2⟩ := h97
          obtain ⟨b1, b2⟩ := hbd.out ((s[A].toNat : Int) - 97 + 10) (by omega) (by omega)
          have B1 := Lib.hid b1
          have hvd := Lib.hid (hvl.out ((s[A].toNat : Int) - 97 + 10) (by unfold gd; rw [if_pos (by omega)]; omega))
          clear b1
          go_wp2
          go_round
          case rel => exact ⟨k + 1, A + 1, _, by omega, by omega, rfl, by omega, b2, by go_num, by go_num, Lib.hid (by have := hA.out; omega), B1, hno', hvd⟩
          case measure => simp [intOf]; omega
        · obtain ⟨b1, b2⟩ := hbd.out ((s[A].toNat : Int) % 16) (by omega) (by omega)
          have B1 := Lib.hid b1
          have hvd := Lib.hid (hvl.out ((s[A].toNat : Int) % 16) (by unfold gd; rw [if_neg (by omega)]; omega))
          have hcc : (s[A].toNat : Int) < 97 ∨ 102 < (s[A].toNat : Int) := by omega
          clear b1 h97
          rcases hcc with hcc | hcc
          all_goals
            go_wp2
            all_goals go_round
            case rel => exact ⟨k + 1, A + 1, _, by omega, by omega, rfl, by omega, b2, by go_num, by go_num, Lib.hid (by have := hA.out; omega), B1, hno', hvd⟩
            case measure => simp [intOf]; omega
      · have hex : Hid ((s[A].toNat = 112 ∨ s[A].toNat = 109) ∨ k = 13) := Lib.hid (by omega)
        have hway : ((((s[A].toNat : Int) != 112) = false) ∨ ((((s[A].toNat : Int) != 112) = true) ∧ (((s[A].toNat : Int) != 109) = false))) ∨ ((((s[A].toNat : Int) != 112) = true) ∧ (((s[A].toNat : Int) != 109) = true) ∧ k = 13) := by
          by_cases a1 : s[A].toNat = 112
          · left; left; rw [bne_eq_false_iff_eq]; omega
          · by_cases a2 : s[A].toNat = 109
            · left; right; exact ⟨by rw [bne_iff_ne]; omega, by rw [bne_eq_false_iff_eq]; omega⟩
            · right; exact ⟨by rw [bne_iff_ne]; omega, by rw [bne_iff_ne]; omega, by omega⟩
        clear hgo
        rcases hway with (ne1 | ⟨ne1, ne2⟩) | ⟨ne1, ne2, h13⟩
        · go_wp2
          go_loop [3, 4] (fun v p => ∃ (q : Nat) (U : Int), q ≤ 13 ∧ v = .int .u64 U ∧ 1 ≤ U ∧ U < 9007199254740992 ∧ p = .int .i64 q ∧ Hid (k ≤ q) ∧ Hid (U < ((2 * 16 ^ q : Nat) : Int)) ∧ Hid (U = V * ((16 ^ (q - k) : Nat) : Int))) (fun _ p => 13 - (intOf p).toNat)
          case atStart => exact ⟨k, V, hk, rfl, v0, v1, rfl, Lib.hid (Nat.le_refl _), hV2, Lib.hid (by rw [Nat.sub_self]; simp)⟩
          case round =>
            obtain ⟨q, U, hq, rfl, u0, u1, rfl, hkq, hU2, hUV⟩ := hrel
            by_cases hq13 : q < 13
            · have hnb : Hid (U * 16 < ((2 * 16 ^ (q + 1) : Nat) : Int)) := Lib.hid (by have := hU2.out; rw [Nat.pow_succ]; omega)
              have hnb2 : U * 16 < 9007199254740992 := by
                have h1 := hnb.out
                have h2 := hp13.out (q + 1) (by omega)
                generalize 16 ^ (q + 1) = z at h1 h2
                omega
              have hnu : Hid (U * 16 = V * ((16 ^ (q + 1 - k) : Nat) : Int)) := Lib.hid (by
                have h1 := hkq.out
                rw [hUV.out, show q + 1 - k = (q - k) + 1 by omega, Nat.pow_succ, Int.natCast_mul, Int.mul_assoc]; rfl)
              go_wp2
              go_round
              case rel => exact ⟨q + 1, _, by omega, rfl, by omega, hnb2, by go_num, Lib.hid (by have := hkq.out; omega), hnb, hnu⟩
              case measure => simp [intOf]; omega
            · obtain rfl : q = 13 := by omega
              clear hq13
              have hUV' : Hid (U = V * ((16 ^ (13 - k) : Nat) : Int)) := hUV
              go_wp2
              go_loop [7, 8] (fun x i => ∃ (j I : Nat) (X : Int), j ≤ 4 ∧ I ≤ s.size ∧ i = .int .i64 I ∧ x = .int .i64 X ∧ 0 ≤ X ∧ X ≤ 19998 ∧ Hid (I = A + 1 + j) ∧ Hid (X + 2 ≤ ((2 * 10 ^ j : Nat) : Int)) ∧ Hid (((l.drop (A + 1)).take j).all isDig = true → X = ((vald 0 ((l.drop (A + 1)).take j) : Nat) : Int))) (fun _ i => s.size - (intOf i).toNat)
              case atStart => exact ⟨0, A + 1, 0, by omega, by omega, by go_num, rfl, by omega, by omega, Lib.hid rfl, Lib.hid (by decide), Lib.hid (by simp [vald_nil])⟩
              case round =>
                obtain ⟨j, I, X, hj, hI, rfl, rfl, x0, x1, hIj, hX2, hX⟩ := hrel
                by_cases hgo : I < s.size ∧ j < 4
                · obtain ⟨hg1, hg2⟩ := hgo
                  have hb := s[I].toNat_lt
                  have hat : Hid ((l.drop (A + 1))[j]? = some s[I]) := Lib.hid (by rw [List.getElem?_drop, ← hIj.out]; exact AT.out I hg1)
                  have hnx2 : Hid (X * 10 + (s[I].toNat : Int) % 16 + 2 ≤ ((2 * 10 ^ (j + 1) : Nat) : Int)) := Lib.hid (by have := hX2.out; rw [Nat.pow_succ]; omega)
                  have hnx3 : X * 10 + (s[I].toNat : Int) % 16 ≤ 19998 := by
                    have h1 := hnx2.out
                    have h2 : 10 ^ (j + 1) ≤ 10 ^ 4 := Nat.pow_le_pow_right (by omega) (by omega)
                    generalize 10 ^ (j + 1) = z at h1 h2
                    omega
                  have hnx : Hid (((l.drop (A + 1)).take (j + 1)).all isDig = true → X * 10 + (s[I].toNat : Int) % 16 = ((vald 0 ((l.drop (A + 1)).take (j + 1)) : Nat) : Int)) := Lib.hid fun h => by
                    have hlt : j < (l.drop (A + 1)).length := by
                      rcases Nat.lt_or_ge j (l.drop (A + 1)).length with h | h
                      · exact h
                      · have := hat.out; rw [List.getElem?_eq_none h] at this; cases this
                    rw [all_take hlt, Bool.and_eq_true] at h
                    have h2 := hat.out
                    rw [List.getElem?_eq_getElem hlt] at h2
                    injection h2 with h2
                    rw [h2] at h
                    rw [vald_take hat.out, hX.out h.1]
                    have := gd_dig h.2
                    omega
                  have hIA : (I : Int) < (A : Int) + 5 := by have := hIj.out; omega
                  go_wp2
                  go_round
                  case rel => exact ⟨j + 1, I + 1, _, by omega, by omega, by go_num, rfl, by omega, hnx3, Lib.hid (by have := hIj.out; omega), hnx2, hnx⟩
                  case measure => simp [intOf]; omega
                · have hUY : Hid (∀ Y0 : Int, (Y0 = if s[A].toNat = 109 then -X else X) → ∀ m, 0 < m → m < 9218868437227405312 → l = magT m → U = ((4503599627370496 + fracF m : Nat) : Int) ∧ Y0 = expoF m) := Lib.hid fun Y0 hY m h0 h1 hl =>
                    gs_exact HST.out hA.out hno.out hk hval.out hUV'.out (AT.out A hlt) hex.out hX.out (by rw [List.length_drop, hsl.out]; have := hIj.out; omega) hY h0 h1 hl
                  have hnotI : Hid (¬ (I < s.size ∧ j < 4)) := Lib.hid hgo
                  have hstop : (s.size : Int) ≤ (I : Int) ∨ ((I : Int) < (s.size : Int) ∧ (A : Int) + 5 ≤ (I : Int)) := by have := hIj.out; omega
                  clear hgo hIj hX hX2 hno hval hV2 hUV hUV' hU2 hkq
                  by_cases hm : s[A].toNat = 109
                  · have e109 : ((s[A].toNat : Int) == 109) = true := by rw [beq_iff_eq]; omega
                    have hUY2 := Lib.hid (hUY.out (-X) (by rw [if_pos hm]))
                    clear hm hex
                    rcases hstop with hs1 | ⟨hs1, hs2⟩
                    all_goals
                      go_wp2
                      go_loop [3, 7] (fun v y => ∃ (i : Nat) (P Y : Int), v = .int .u64 P ∧ y = .int .i64 Y ∧ 0 ≤ P ∧ P < 9007199254740992 ∧ -20000 ≤ Y ∧ Y ≤ 20000 ∧ Hid (P = U / ((2 ^ i : Nat) : Int)) ∧ Hid (Y = (-X) + i) ∧ Hid (0 < i → Y ≤ -1022)) (fun _ y => (-1022 - intOf y).toNat)
                      case atStart => exact ⟨0, U, (-X), rfl, rfl, by omega, u1, by omega, by omega, Lib.hid (by simp), Lib.hid (by omega), Lib.hid (by omega)⟩
                      case round =>
                        obtain ⟨i, P, Y, rfl, rfl, p0, p1, y0, y1, hP, hY, hi⟩ := hrel
                        by_cases hgo4 : Y < -1022 ∧ 0 < P
                        · obtain ⟨g1, g2⟩ := hgo4
                          have hP' : Hid (P / 2 = U / ((2 ^ (i + 1) : Nat) : Int)) := Lib.hid (by
                            rw [hP.out, Nat.pow_succ, Int.natCast_mul, Int.ediv_ediv_of_nonneg (Int.natCast_nonneg _)]; rfl)
                          have hY' : Hid (Y + 1 = (-X) + ((i + 1 : Nat) : Int)) := Lib.hid (by have := hY.out; omega)
                          have hi' : Hid (0 < i + 1 → Y + 1 ≤ -1022) := Lib.hid (by omega)
                          go_wp2
                          go_round
                          case rel => exact ⟨i + 1, _, _, rfl, rfl, by omega, by omega, by omega, by omega, hP', hY', hi'⟩
                          case measure => simp [intOf]; omega
                        · have hfin : Hid (∀ m, 0 < m → m < 9218868437227405312 → l = magT m → (P < 4503599627370496 → P = (m : Int)) ∧ (4503599627370496 ≤ P → Y ≤ 1023 ∧ (Y + 1022) * 4503599627370496 + P = (m : Int))) := Lib.hid fun m h0 h1 hl =>
                            gs_fin hUY2.out hP.out hY.out hi.out (by omega) p0 p1 h0 h1 hl
                          have hex4 : -1022 ≤ Y ∨ P ≤ 0 := by omega
                          clear hgo4 hP hY hi
                          by_cases hPs : P < 4503599627370496
                          · have hmod : P % 4503599627370496 = P := by omega
                            have hres : Hid (GS l w (.returned (.int .u64 P)) w) := Lib.hid (by
                              obtain ⟨v, hv⟩ := Int.eq_ofNat_of_zero_le p0
                              refine ⟨v, by omega, by rw [hv], fun m h0 h1 hl => ?_, rfl⟩
                              have := (hfin.out m h0 h1 hl).1 hPs
                              omega)
                            rcases hex4 with hex4 | hex4
                            all_goals
                              go_wp2
                              all_goals go_ret
                              all_goals exact hres.out
                          · have hPb : 4503599627370496 ≤ P := by omega
                            have hYl : -1022 ≤ Y := by omega
                            have hPp : 0 < P := by omega
                            clear hPs hex4
                            by_cases hYb : 1023 < Y
                            · have hres : Hid (GS l w (.returned (.int .u64 (P % 4503599627370496))) w) := Lib.hid (by
                                obtain ⟨v, hv⟩ := Int.eq_ofNat_of_zero_le (show 0 ≤ P % 4503599627370496 by omega)
                                refine ⟨v, by omega, by rw [hv], fun m h0 h1 hl => ?_, rfl⟩
                                have := ((hfin.out m h0 h1 hl).2 hPb).1
                                omega)
                              go_wp2
                              go_ret
                              exact hres.out
                            · have hYs : Y ≤ 1023 := by omega
                              clear hYb
                              have hres : Hid (GS l w (.returned (.int .u64 ((Y + 1022) * 4503599627370496 + P))) w) := Lib.hid (by
                                obtain ⟨v, hv⟩ := Int.eq_ofNat_of_zero_le (show 0 ≤ (Y + 1022) * 4503599627370496 + P by omega)
                                refine ⟨v, by omega, by rw [hv], fun m h0 h1 hl => ?_, rfl⟩
                                have := ((hfin.out m h0 h1 hl).2 hPb).2
                                omega)
                              go_wp2
                              go_ret
                              exact hres.out
                  · have e109 : ((s[A].toNat : Int) == 109) = false := by rw [beq_eq_false_iff_ne]; omega
                    have hUY2 := Lib.hid (hUY.out X (by rw [if_neg hm]))
                    clear hm hex
                    rcases hstop with hs1 | ⟨hs1, hs2⟩
                    all_goals
                      go_wp2
                      go_loop [3, 7] (fun v y => ∃ (i : Nat) (P Y : Int), v = .int .u64 P ∧ y = .int .i64 Y ∧ 0 ≤ P ∧ P < 9007199254740992 ∧ -20000 ≤ Y ∧ Y ≤ 20000 ∧ Hid (P = U / ((2 ^ i : Nat) : Int)) ∧ Hid (Y = X + i) ∧ Hid (0 < i → Y ≤ -1022)) (fun _ y => (-1022 - intOf y).toNat)
                      case atStart => exact ⟨0, U, X, rfl, rfl, by omega, u1, by omega, by omega, Lib.hid (by simp), Lib.hid (by omega), Lib.hid (by omega)⟩
                      case round =>
                        obtain ⟨i, P, Y, rfl, rfl, p0, p1, y0, y1, hP, hY, hi⟩ := hrel
                        by_cases hgo4 : Y < -1022 ∧ 0 < P
                        · obtain ⟨g1, g2⟩ := hgo4
                          have hP' : Hid (P / 2 = U / ((2 ^ (i + 1) : Nat) : Int)) := Lib.hid (by
                            rw [hP.out, Nat.pow_succ, Int.natCast_mul, Int.ediv_ediv_of_nonneg (Int.natCast_nonneg _)]; rfl)
                          have hY' : Hid (Y + 1 = X + ((i + 1 : Nat) : Int)) := Lib.hid (by have := hY.out; omega)
                          have hi' : Hid (0 < i + 1 → Y + 1 ≤ -1022) := Lib.hid (by omega)
                          go_wp2
                          go_round
                          case rel => exact ⟨i + 1, _, _, rfl, rfl, by omega, by omega, by omega, by omega, hP', hY', hi'⟩
                          case measure => simp [intOf]; omega
                        · have hfin : Hid (∀ m, 0 < m → m < 9218868437227405312 → l = magT m → (P < 4503599627370496 → P = (m : Int)) ∧ (4503599627370496 ≤ P → Y ≤ 1023 ∧ (Y + 1022) * 4503599627370496 + P = (m : Int))) := Lib.hid fun m h0 h1 hl =>
                            gs_fin hUY2.out hP.out hY.out hi.out (by omega) p0 p1 h0 h1 hl
                          have hex4 : -1022 ≤ Y ∨ P ≤ 0 := by omega
                          clear hgo4 hP hY hi
                          by_cases hPs : P < 4503599627370496
                          · have hmod : P % 4503599627370496 = P := by omega
                            have hres : Hid (GS l w (.returned (.int .u64 P)) w) := Lib.hid (by
                              obtain ⟨v, hv⟩ := Int.eq_ofNat_of_zero_le p0
                              refine ⟨v, by omega, by rw [hv], fun m h0 h1 hl => ?_, rfl⟩
                              have := (hfin.out m h0 h1 hl).1 hPs
                              omega)
                            rcases hex4 with hex4 | hex4
                            all_goals
                              go_wp2
                              all_goals go_ret
                              all_goals exact hres.out
                          · have hPb : 4503599627370496 ≤ P := by omega
                            have hYl : -1022 ≤ Y := by omega
                            have hPp : 0 < P := by omega
                            clear hPs hex4
                            by_cases hYb : 1023 < Y
                            · have hres : Hid (GS l w (.returned (.int .u64 (P % 4503599627370496))) w) := Lib.hid (by
                                obtain ⟨v, hv⟩ := Int.eq_ofNat_of_zero_le (show 0 ≤ P % 4503599627370496 by omega)
                                refine ⟨v, by omega, by rw [hv], fun m h0 h1 hl => ?_, rfl⟩
                                have := ((hfin.out m h0 h1 hl).2 hPb).1
                                omega)
                              go_wp2
                              go_ret
                              exact hres.out
                            · have hYs : Y ≤ 1023 := by omega
                              clear hYb
                              have hres : Hid (GS l w (.returned (.int .u64 ((Y + 1022) * 4503599627370496 + P))) w) := Lib.hid (by
                                obtain ⟨v, hv⟩ := Int.eq_ofNat_of_zero_le (show 0 ≤ (Y + 1022) * 4503599627370496 + P by omega)
                                refine ⟨v, by omega, by rw [hv], fun m h0 h1 hl => ?_, rfl⟩
                                have := ((hfin.out m h0 h1 hl).2 hPb).2
                                omega)
                              go_wp2
                              go_ret
                              exact hres.out

        · go_wp2
          go_loop [3, 4] (fun v p => ∃ (q : Nat) (U : Int), q ≤ 13 ∧ v = .int .u64 U ∧ 1 ≤ U ∧ U < 9007199254740992 ∧ p = .int .i64 q ∧ Hid (k ≤ q) ∧ Hid (U < ((2 * 16 ^ q : Nat) : Int)) ∧ Hid (U = V * ((16 ^ (q - k) : Nat) : Int))) (fun _ p => 13 - (intOf p).toNat)
          case atStart => exact ⟨k, V, hk, rfl, v0, v1, rfl, Lib.hid (Nat.le_refl _), hV2, Lib.hid (by rw [Nat.sub_self]; simp)⟩
          case round =>
            obtain ⟨q, U, hq, rfl, u0, u1, rfl, hkq, hU2, hUV⟩ := hrel
            by_cases hq13 : q < 13
            · have hnb : Hid (U * 16 < ((2 * 16 ^ (q + 1) : Nat) : Int)) := Lib.hid (by have := hU2.out; rw [Nat.pow_succ]; omega)
              have hnb2 : U * 16 < 9007199254740992 := by
                have h1 := hnb.out
                have h2 := hp13.out (q + 1) (by omega)
                generalize 16 ^ (q + 1) = z at h1 h2
                omega
              have hnu : Hid (U * 16 = V * ((16 ^ (q + 1 - k) : Nat) : Int)) := Lib.hid (by
                have h1 := hkq.out
                rw [hUV.out, show q + 1 - k = (q - k) + 1 by omega, Nat.pow_succ, Int.natCast_mul, Int.mul_assoc]; rfl)
              go_wp2
              go_round
              case rel => exact ⟨q + 1, _, by omega, rfl, by omega, hnb2, by go_num, Lib.hid (by have := hkq.out; omega), hnb, hnu⟩
              case measure => simp [intOf]; omega
            · obtain rfl : q = 13 := by omega
              clear hq13
              have hUV' : Hid (U = V * ((16 ^ (13 - k) : Nat) : Int)) := hUV
              go_wp2
              go_loop [7, 8] (fun x i => ∃ (j I : Nat) (X : Int), j ≤ 4 ∧ I ≤ s.size ∧ i = .int .i64 I ∧ x = .int .i64 X ∧ 0 ≤ X ∧ X ≤ 19998 ∧ Hid (I = A + 1 + j) ∧ Hid (X + 2 ≤ ((2 * 10 ^ j : Nat) : Int)) ∧ Hid (((l.drop (A + 1)).take j).all isDig = true → X = ((vald 0 ((l.drop (A + 1)).take j) : Nat) : Int))) (fun _ i => s.size - (intOf i).toNat)
              case atStart => exact ⟨0, A + 1, 0, by omega, by omega, by go_num, rfl, by omega, by omega, Lib.hid rfl, Lib.hid (by decide), Lib.hid (by simp [vald_nil])⟩
              case round =>
                obtain ⟨j, I, X, hj, hI, rfl, rfl, x0, x1, hIj, hX2, hX⟩ := hrel
                by_cases hgo : I < s.size ∧ j < 4
                · obtain ⟨hg1, hg2⟩ := hgo
                  have hb := s[I].toNat_lt
                  have hat : Hid ((l.drop (A + 1))[j]? = some s[I]) := Lib.hid (by rw [List.getElem?_drop, ← hIj.out]; exact AT.out I hg1)
                  have hnx2 : Hid (X * 10 + (s[I].toNat : Int) % 16 + 2 ≤ ((2 * 10 ^ (j + 1) : Nat) : Int)) := Lib.hid (by have := hX2.out; rw [Nat.pow_succ]; omega)
                  have hnx3 : X * 10 + (s[I].toNat : Int) % 16 ≤ 19998 := by
                    have h1 := hnx2.out
                    have h2 : 10 ^ (j + 1) ≤ 10 ^ 4 := Nat.pow_le_pow_right (by omega) (by omega)
                    generalize 10 ^ (j + 1) = z at h1 h2
                    omega
                  have hnx : Hid (((l.drop (A + 1)).take (j + 1)).all isDig = true → X * 10 + (s[I].toNat : Int) % 16 = ((vald 0 ((l.drop (A + 1)).take (j + 1)) : Nat) : Int)) := Lib.hid fun h => by
                    have hlt : j < (l.drop (A + 1)).length := by
                      rcases Nat.lt_or_ge j (l.drop (A + 1)).length with h | h
                      · exact h
                      · have := hat.out; rw [List.getElem?_eq_none h] at this; cases this
                    rw [all_take hlt, Bool.and_eq_true] at h
                    have h2 := hat.out
                    rw [List.getElem?_eq_getElem hlt] at h2
                    injection h2 with h2
                    rw [h2] at h
                    rw [vald_take hat.out, hX.out h.1]
                    have := gd_dig h.2
                    omega
                  have hIA : (I : Int) < (A : Int) + 5 := by have := hIj.out; omega
                  go_wp2
                  go_round
                  case rel => exact ⟨j + 1, I + 1, _, by omega, by omega, by go_num, rfl, by omega, hnx3, Lib.hid (by have := hIj.out; omega), hnx2, hnx⟩
                  case measure => simp [intOf]; omega
                · have hUY : Hid (∀ Y0 : Int, (Y0 = if s[A].toNat = 109 then -X else X) → ∀ m, 0 < m → m < 9218868437227405312 → l = magT m → U = ((4503599627370496 + fracF m : Nat) : Int) ∧ Y0 = expoF m) := Lib.hid fun Y0 hY m h0 h1 hl =>
                    gs_exact HST.out hA.out hno.out hk hval.out hUV'.out (AT.out A hlt) hex.out hX.out (by rw [List.length_drop, hsl.out]; have := hIj.out; omega) hY h0 h1 hl
                  have hnotI : Hid (¬ (I < s.size ∧ j < 4)) := Lib.hid hgo
                  have hstop : (s.size : Int) ≤ (I : Int) ∨ ((I : Int) < (s.size : Int) ∧ (A : Int) + 5 ≤ (I : Int)) := by have := hIj.out; omega
                  clear hgo hIj hX hX2 hno hval hV2 hUV hUV' hU2 hkq
                  by_cases hm : s[A].toNat = 109
                  · have e109 : ((s[A].toNat : Int) == 109) = true := by rw [beq_iff_eq]; omega
                    have hUY2 := Lib.hid (hUY.out (-X) (by rw [if_pos hm]))
                    clear hm hex
                    rcases hstop with hs1 | ⟨hs1, hs2⟩
                    all_goals
                      go_wp2
                      go_loop [3, 7] (fun v y => ∃ (i : Nat) (P Y : Int), v = .int .u64 P ∧ y = .int .i64 Y ∧ 0 ≤ P ∧ P < 9007199254740992 ∧ -20000 ≤ Y ∧ Y ≤ 20000 ∧ Hid (P = U / ((2 ^ i : Nat) : Int)) ∧ Hid (Y = (-X) + i) ∧ Hid (0 < i → Y ≤ -1022)) (fun _ y => (-1022 - intOf y).toNat)
                      case atStart => exact ⟨0, U, (-X), rfl, rfl, by omega, u1, by omega, by omega, Lib.hid (by simp), Lib.hid (by omega), Lib.hid (by omega)⟩
                      case round =>
                        obtain ⟨i, P, Y, rfl, rfl, p0, p1, y0, y1, hP, hY, hi⟩ := hrel
                        by_cases hgo4 : Y < -1022 ∧ 0 < P
                        · obtain ⟨g1, g2⟩ := hgo4
                          have hP' : Hid (P / 2 = U / ((2 ^ (i + 1) : Nat) : Int)) := Lib.hid (by
                            rw [hP.out, Nat.pow_succ, Int.natCast_mul, Int.ediv_ediv_of_nonneg (Int.natCast_nonneg _)]; rfl)
                          have hY' : Hid (Y + 1 = (-X) + ((i + 1 : Nat) : Int)) := Lib.hid (by have := hY.out; omega)
                          have hi' : Hid (0 < i + 1 → Y + 1 ≤ -1022) := Lib.hid (by omega)
                          go_wp2
                          go_round
                          case rel => exact ⟨i + 1, _, _, rfl, rfl, by omega, by omega, by omega, by omega, hP', hY', hi'⟩
                          case measure => simp [intOf]; omega
                        · have hfin : Hid (∀ m, 0 < m → m < 9218868437227405312 → l = magT m → (P < 4503599627370496 → P = (m : Int)) ∧ (4503599627370496 ≤ P → Y ≤ 1023 ∧ (Y + 1022) * 4503599627370496 + P = (m : Int))) := Lib.hid fun m h0 h1 hl =>
                            gs_fin hUY2.out hP.out hY.out hi.out (by omega) p0 p1 h0 h1 hl
                          have hex4 : -1022 ≤ Y ∨ P ≤ 0 := by omega
                          clear hgo4 hP hY hi
                          by_cases hPs : P < 4503599627370496
                          · have hmod : P % 4503599627370496 = P := by omega
                            have hres : Hid (GS l w (.returned (.int .u64 P)) w) := Lib.hid (by
                              obtain ⟨v, hv⟩ := Int.eq_ofNat_of_zero_le p0
                              refine ⟨v, by omega, by rw [hv], fun m h0 h1 hl => ?_, rfl⟩
                              have := (hfin.out m h0 h1 hl).1 hPs
                              omega)
                            rcases hex4 with hex4 | hex4
                            all_goals
                              go_wp2
                              all_goals go_ret
                              all_goals exact hres.out
                          · have hPb : 4503599627370496 ≤ P := by omega
                            have hYl : -1022 ≤ Y := by omega
                            have hPp : 0 < P := by omega
                            clear hPs hex4
                            by_cases hYb : 1023 < Y
                            · have hres : Hid (GS l w (.returned (.int .u64 (P % 4503599627370496))) w) := Lib.hid (by
                                obtain ⟨v, hv⟩ := Int.eq_ofNat_of_zero_le (show 0 ≤ P % 4503599627370496 by omega)
                                refine ⟨v, by omega, by rw [hv], fun m h0 h1 hl => ?_, rfl⟩
                                have := ((hfin.out m h0 h1 hl).2 hPb).1
                                omega)
                              go_wp2
                              go_ret
                              exact hres.out
                            · have hYs : Y ≤ 1023 := by omega
                              clear hYb
                              have hres : Hid (GS l w (.returned (.int .u64 ((Y + 1022) * 4503599627370496 + P))) w) := Lib.hid (by
                                obtain ⟨v, hv⟩ := Int.eq_ofNat_of_zero_le (show 0 ≤ (Y + 1022) * 4503599627370496 + P by omega)
                                refine ⟨v, by omega, by rw [hv], fun m h0 h1 hl => ?_, rfl⟩
                                have := ((hfin.out m h0 h1 hl).2 hPb).2
                                omega)
                              go_wp2
                              go_ret
                              exact hres.out
                  · have e109 : ((s[A].toNat : Int) == 109) = false := by rw [beq_eq_false_iff_ne]; omega
                    have hUY2 := Lib.hid (hUY.out X (by rw [if_neg hm]))
                    clear hm hex
                    rcases hstop with hs1 | ⟨hs1, hs2⟩
                    all_goals
                      go_wp2
                      go_loop [3, 7] (fun v y => ∃ (i : Nat) (P Y : Int), v = .int .u64 P ∧ y = .int .i64 Y ∧ 0 ≤ P ∧ P < 9007199254740992 ∧ -20000 ≤ Y ∧ Y ≤ 20000 ∧ Hid (P = U / ((2 ^ i : Nat) : Int)) ∧ Hid (Y = X + i) ∧ Hid (0 < i → Y ≤ -1022)) (fun _ y => (-1022 - intOf y).toNat)
                      case atStart => exact ⟨0, U, X, rfl, rfl, by omega, u1, by omega, by omega, Lib.hid (by simp), Lib.hid (by omega), Lib.hid (by omega)⟩
                      case round =>
                        obtain ⟨i, P, Y, rfl, rfl, p0, p1, y0, y1, hP, hY, hi⟩ := hrel
                        by_cases hgo4 : Y < -1022 ∧ 0 < P
                        · obtain ⟨g1, g2⟩ := hgo4
                          have hP' : Hid (P / 2 = U / ((2 ^ (i + 1) : Nat) : Int)) := Lib.hid (by
                            rw [hP.out, Nat.pow_succ, Int.natCast_mul, Int.ediv_ediv_of_nonneg (Int.natCast_nonneg _)]; rfl)
                          have hY' : Hid (Y + 1 = X + ((i + 1 : Nat) : Int)) := Lib.hid (by have := hY.out; omega)
                          have hi' : Hid (0 < i + 1 → Y + 1 ≤ -1022) := Lib.hid (by omega)
                          go_wp2
                          go_round
                          case rel => exact ⟨i + 1, _, _, rfl, rfl, by omega, by omega, by omega, by omega, hP', hY', hi'⟩
                          case measure => simp [intOf]; omega
                        · have hfin : Hid (∀ m, 0 < m → m < 9218868437227405312 → l = magT m → (P < 4503599627370496 → P = (m : Int)) ∧ (4503599627370496 ≤ P → Y ≤ 1023 ∧ (Y + 1022) * 4503599627370496 + P = (m : Int))) := Lib.hid fun m h0 h1 hl =>
                            gs_fin hUY2.out hP.out hY.out hi.out (by omega) p0 p1 h0 h1 hl
                          have hex4 : -1022 ≤ Y ∨ P ≤ 0 := by omega
                          clear hgo4 hP hY hi
                          by_cases hPs : P < 4503599627370496
                          · have hmod : P % 4503599627370496 = P := by omega
                            have hres : Hid (GS l w (.returned (.int .u64 P)) w) := Lib.hid (by
                              obtain ⟨v, hv⟩ := Int.eq_ofNat_of_zero_le p0
                              refine ⟨v, by omega, by rw [hv], fun m h0 h1 hl => ?_, rfl⟩
                              have := (hfin.out m h0 h1 hl).1 hPs
                              omega)
                            rcases hex4 with hex4 | hex4
                            all_goals
                              go_wp2
                              all_goals go_ret
                              all_goals exact hres.out
                          · have hPb : 4503599627370496 ≤ P := by omega
                            have hYl : -1022 ≤ Y := by omega
                            have hPp : 0 < P := by omega
                            clear hPs hex4
                            by_cases hYb : 1023 < Y
                            · have hres : Hid (GS l w (.returned (.int .u64 (P % 4503599627370496))) w) := Lib.hid (by
                                obtain ⟨v, hv⟩ := Int.eq_ofNat_of_zero_le (show 0 ≤ P % 4503599627370496 by omega)
                                refine ⟨v, by omega, by rw [hv], fun m h0 h1 hl => ?_, rfl⟩
                                have := ((hfin.out m h0 h1 hl).2 hPb).1
                                omega)
                              go_wp2
                              go_ret
                              exact hres.out
                            · have hYs : Y ≤ 1023 := by omega
                              clear hYb
                              have hres : Hid (GS l w (.returned (.int .u64 ((Y + 1022) * 4503599627370496 + P))) w) := Lib.hid (by
                                obtain ⟨v, hv⟩ := Int.eq_ofNat_of_zero_le (show 0 ≤ (Y + 1022) * 4503599627370496 + P by omega)
                                refine ⟨v, by omega, by rw [hv], fun m h0 h1 hl => ?_, rfl⟩
                                have := ((hfin.out m h0 h1 hl).2 hPb).2
                                omega)
                              go_wp2
                              go_ret
                              exact hres.out

        · have hk13 : (13 : Int) ≤ (k : Int) := by omega
          clear h13
          go_wp2
          go_loop [3, 4] (fun v p => ∃ (q : Nat) (U : Int), q ≤ 13 ∧ v = .int .u64 U ∧ 1 ≤ U ∧ U < 9007199254740992 ∧ p = .int .i64 q ∧ Hid (k ≤ q) ∧ Hid (U < ((2 * 16 ^ q : Nat) : Int)) ∧ Hid (U = V * ((16 ^ (q - k) : Nat) : Int))) (fun _ p => 13 - (intOf p).toNat)
          case atStart => exact ⟨k, V, hk, rfl, v0, v1, rfl, Lib.hid (Nat.le_refl _), hV2, Lib.hid (by rw [Nat.sub_self]; simp)⟩
          case round =>
            obtain ⟨q, U, hq, rfl, u0, u1, rfl, hkq, hU2, hUV⟩ := hrel
            by_cases hq13 : q < 13
            · have hnb : Hid (U * 16 < ((2 * 16 ^ (q + 1) : Nat) : Int)) := Lib.hid (by have := hU2.out; rw [Nat.pow_succ]; omega)
              have hnb2 : U * 16 < 9007199254740992 := by
                have h1 := hnb.out
                have h2 := hp13.out (q + 1) (by omega)
                generalize 16 ^ (q + 1) = z at h1 h2
                omega
              have hnu : Hid (U * 16 = V * ((16 ^ (q + 1 - k) : Nat) : Int)) := Lib.hid (by
                have h1 := hkq.out
                rw [hUV.out, show q + 1 - k = (q - k) + 1 by omega, Nat.pow_succ, Int.natCast_mul, Int.mul_assoc]; rfl)
              go_wp2
              go_round
              case rel => exact ⟨q + 1, _, by omega, rfl, by omega, hnb2, by go_num, Lib.hid (by have := hkq.out; omega), hnb, hnu⟩
              case measure => simp [intOf]; omega
            · obtain rfl : q = 13 := by omega
              clear hq13
              have hUV' : Hid (U = V * ((16 ^ (13 - k) : Nat) : Int)) := hUV
              go_wp2
              go_loop [7, 8] (fun x i => ∃ (j I : Nat) (X : Int), j ≤ 4 ∧ I ≤ s.size ∧ i = .int .i64 I ∧ x = .int .i64 X ∧ 0 ≤ X ∧ X ≤ 19998 ∧ Hid (I = A + 1 + j) ∧ Hid (X + 2 ≤ ((2 * 10 ^ j : Nat) : Int)) ∧ Hid (((l.drop (A + 1)).take j).all isDig = true → X = ((vald 0 ((l.drop (A + 1)).take j) : Nat) : Int))) (fun _ i => s.size - (intOf i).toNat)
              case atStart => exact ⟨0, A + 1, 0, by omega, by omega, by go_num, rfl, by omega, by omega, Lib.hid rfl, Lib.hid (by decide), Lib.hid (by simp [vald_nil])⟩
              case round =>
                obtain ⟨j, I, X, hj, hI, rfl, rfl, x0, x1, hIj, hX2, hX⟩ := hrel
                by_cases hgo : I < s.size ∧ j < 4
                · obtain ⟨hg1, hg2⟩ := hgo
                  have hb := s[I].toNat_lt
                  have hat : Hid ((l.drop (A + 1))[j]? = some s[I]) := Lib.hid (by rw [List.getElem?_drop, ← hIj.out]; exact AT.out I hg1)
                  have hnx2 : Hid (X * 10 + (s[I].toNat : Int) % 16 + 2 ≤ ((2 * 10 ^ (j + 1) : Nat) : Int)) := Lib.hid (by have := hX2.out; rw [Nat.pow_succ]; omega)
                  have hnx3 : X * 10 + (s[I].toNat : Int) % 16 ≤ 19998 := by
                    have h1 := hnx2.out
                    have h2 : 10 ^ (j + 1) ≤ 10 ^ 4 := Nat.pow_le_pow_right (by omega) (by omega)
                    generalize 10 ^ (j + 1) = z at h1 h2
                    omega
                  have hnx : Hid (((l.drop (A + 1)).take (j + 1)).all isDig = true → X * 10 + (s[I].toNat : Int) % 16 = ((vald 0 ((l.drop (A + 1)).take (j + 1)) : Nat) : Int)) := Lib.hid fun h => by
                    have hlt : j < (l.drop (A + 1)).length := by
                      rcases Nat.lt_or_ge j (l.drop (A + 1)).length with h | h
                      · exact h
                      · have := hat.out; rw [List.getElem?_eq_none h] at this; cases this
                    rw [all_take hlt, Bool.and_eq_true] at h
                    have h2 := hat.out
                    rw [List.getElem?_eq_getElem hlt] at h2
                    injection h2 with h2
                    rw [h2] at h
                    rw [vald_take hat.out, hX.out h.1]
                    have := gd_dig h.2
                    omega
                  have hIA : (I : Int) < (A : Int) + 5 := by have := hIj.out; omega
                  go_wp2
                  go_round
                  case rel => exact ⟨j + 1, I + 1, _, by omega, by omega, by go_num, rfl, by omega, hnx3, Lib.hid (by have := hIj.out; omega), hnx2, hnx⟩
                  case measure => simp [intOf]; omega
                · have hUY : Hid (∀ Y0 : Int, (Y0 = if s[A].toNat = 109 then -X else X) → ∀ m, 0 < m → m < 9218868437227405312 → l = magT m → U = ((4503599627370496 + fracF m : Nat) : Int) ∧ Y0 = expoF m) := Lib.hid fun Y0 hY m h0 h1 hl =>
                    gs_exact HST.out hA.out hno.out hk hval.out hUV'.out (AT.out A hlt) hex.out hX.out (by rw [List.length_drop, hsl.out]; have := hIj.out; omega) hY h0 h1 hl
                  have hnotI : Hid (¬ (I < s.size ∧ j < 4)) := Lib.hid hgo
                  have hstop : (s.size : Int) ≤ (I : Int) ∨ ((I : Int) < (s.size : Int) ∧ (A : Int) + 5 ≤ (I : Int)) := by have := hIj.out; omega
                  clear hgo hIj hX hX2 hno hval hV2 hUV hUV' hU2 hkq
                  by_cases hm : s[A].toNat = 109
                  · have e109 : ((s[A].toNat : Int) == 109) = true := by rw [beq_iff_eq]; omega
                    have hUY2 := Lib.hid (hUY.out (-X) (by rw [if_pos hm]))
                    clear hm hex
                    rcases hstop with hs1 | ⟨hs1, hs2⟩
                    all_goals
                      go_wp2
                      go_loop [3, 7] (fun v y => ∃ (i : Nat) (P Y : Int), v = .int .u64 P ∧ y = .int .i64 Y ∧ 0 ≤ P ∧ P < 9007199254740992 ∧ -20000 ≤ Y ∧ Y ≤ 20000 ∧ Hid (P = U / ((2 ^ i : Nat) : Int)) ∧ Hid (Y = (-X) + i) ∧ Hid (0 < i → Y ≤ -1022)) (fun _ y => (-1022 - intOf y).toNat)
                      case atStart => exact ⟨0, U, (-X), rfl, rfl, by omega, u1, by omega, by omega, Lib.hid (by simp), Lib.hid (by omega), Lib.hid (by omega)⟩
                      case round =>
                        obtain ⟨i, P, Y, rfl, rfl, p0, p1, y0, y1, hP, hY, hi⟩ := hrel
                        by_cases hgo4 : Y < -1022 ∧ 0 < P
                        · obtain ⟨g1, g2⟩ := hgo4
                          have hP' : Hid (P / 2 = U / ((2 ^ (i + 1) : Nat) : Int)) := Lib.hid (by
                            rw [hP.out, Nat.pow_succ, Int.natCast_mul, Int.ediv_ediv_of_nonneg (Int.natCast_nonneg _)]; rfl)
                          have hY' : Hid (Y + 1 = (-X) + ((i + 1 : Nat) : Int)) := Lib.hid (by have := hY.out; omega)
                          have hi' : Hid (0 < i + 1 → Y + 1 ≤ -1022) := Lib.hid (by omega)
                          go_wp2
                          go_round
                          case rel => exact ⟨i + 1, _, _, rfl, rfl, by omega, by omega, by omega, by omega, hP', hY', hi'⟩
                          case measure => simp [intOf]; omega
                        · have hfin : Hid (∀ m, 0 < m → m < 9218868437227405312 → l = magT m → (P < 4503599627370496 → P = (m : Int)) ∧ (4503599627370496 ≤ P → Y ≤ 1023 ∧ (Y + 1022) * 4503599627370496 + P = (m : Int))) := Lib.hid fun m h0 h1 hl =>
                            gs_fin hUY2.out hP.out hY.out hi.out (by omega) p0 p1 h0 h1 hl
                          have hex4 : -1022 ≤ Y ∨ P ≤ 0 := by omega
                          clear hgo4 hP hY hi
                          by_cases hPs : P < 4503599627370496
                          · have hmod : P % 4503599627370496 = P := by omega
                            have hres : Hid (GS l w (.returned (.int .u64 P)) w) := Lib.hid (by
                              obtain ⟨v, hv⟩ := Int.eq_ofNat_of_zero_le p0
                              refine ⟨v, by omega, by rw [hv], fun m h0 h1 hl => ?_, rfl⟩
                              have := (hfin.out m h0 h1 hl).1 hPs
                              omega)
                            rcases hex4 with hex4 | hex4
                            all_goals
                              go_wp2
                              all_goals go_ret
                              all_goals exact hres.out
                          · have hPb : 4503599627370496 ≤ P := by omega
                            have hYl : -1022 ≤ Y := by omega
                            have hPp : 0 < P := by omega
                            clear hPs hex4
                            by_cases hYb : 1023 < Y
                            · have hres : Hid (GS l w (.returned (.int .u64 (P % 4503599627370496))) w) := Lib.hid (by
                                obtain ⟨v, hv⟩ := Int.eq_ofNat_of_zero_le (show 0 ≤ P % 4503599627370496 by omega)
                                refine ⟨v, by omega, by rw [hv], fun m h0 h1 hl => ?_, rfl⟩
                                have := ((hfin.out m h0 h1 hl).2 hPb).1
                                omega)
                              go_wp2
                              go_ret
                              exact hres.out
                            · have hYs : Y ≤ 1023 := by omega
                              clear hYb
                              have hres : Hid (GS l w (.returned (.int .u64 ((Y + 1022) * 4503599627370496 + P))) w) := Lib.hid (by
                                obtain ⟨v, hv⟩ := Int.eq_ofNat_of_zero_le (show 0 ≤ (Y + 1022) * 4503599627370496 + P by omega)
                                refine ⟨v, by omega, by rw [hv], fun m h0 h1 hl => ?_, rfl⟩
                                have := ((hfin.out m h0 h1 hl).2 hPb).2
                                omega)
                              go_wp2
                              go_ret
                              exact hres.out
                  · have e109 : ((s[A].toNat : Int) == 109) = false := by rw [beq_eq_false_iff_ne]; omega
                    have hUY2 := Lib.hid (hUY.out X (by rw [if_neg hm]))
                    clear hm hex
                    rcases hstop with hs1 | ⟨hs1, hs2⟩
                    all_goals
                      go_wp2
                      go_loop [3, 7] (fun v y => ∃ (i : Nat) (P Y : Int), v = .int .u64 P ∧ y = .int .i64 Y ∧ 0 ≤ P ∧ P < 9007199254740992 ∧ -20000 ≤ Y ∧ Y ≤ 20000 ∧ Hid (P = U / ((2 ^ i : Nat) : Int)) ∧ Hid (Y = X + i) ∧ Hid (0 < i → Y ≤ -1022)) (fun _ y => (-1022 - intOf y).toNat)
                      case atStart => exact ⟨0, U, X, rfl, rfl, by omega, u1, by omega, by omega, Lib.hid (by simp), Lib.hid (by omega), Lib.hid (by omega)⟩
                      case round =>
                        obtain ⟨i, P, Y, rfl, rfl, p0, p1, y0, y1, hP, hY, hi⟩ := hrel
                        by_cases hgo4 : Y < -1022 ∧ 0 < P
                        · obtain ⟨g1, g2⟩ := hgo4
                          have hP' : Hid (P / 2 = U / ((2 ^ (i + 1) : Nat) : Int)) := Lib.hid (by
                            rw [hP.out, Nat.pow_succ, Int.natCast_mul, Int.ediv_ediv_of_nonneg (Int.natCast_nonneg _)]; rfl)
                          have hY' : Hid (Y + 1 = X + ((i + 1 : Nat) : Int)) := Lib.hid (by have := hY.out; omega)
                          have hi' : Hid (0 < i + 1 → Y + 1 ≤ -1022) := Lib.hid (by omega)
                          go_wp2
                          go_round
                          case rel => exact ⟨i + 1, _, _, rfl, rfl, by omega, by omega, by omega, by omega, hP', hY', hi'⟩
                          case measure => simp [intOf]; omega
                        · have hfin : Hid (∀ m, 0 < m → m < 9218868437227405312 → l = magT m → (P < 4503599627370496 → P = (m : Int)) ∧ (4503599627370496 ≤ P → Y ≤ 1023 ∧ (Y + 1022) * 4503599627370496 + P = (m : Int))) := Lib.hid fun m h0 h1 hl =>
                            gs_fin hUY2.out hP.out hY.out hi.out (by omega) p0 p1 h0 h1 hl
                          have hex4 : -1022 ≤ Y ∨ P ≤ 0 := by omega
                          clear hgo4 hP hY hi
                          by_cases hPs : P < 4503599627370496
                          · have hmod : P % 4503599627370496 = P := by omega
                            have hres : Hid (GS l w (.returned (.int .u64 P)) w) := Lib.hid (by
                              obtain ⟨v, hv⟩ := Int.eq_ofNat_of_zero_le p0
                              refine ⟨v, by omega, by rw [hv], fun m h0 h1 hl => ?_, rfl⟩
                              have := (hfin.out m h0 h1 hl).1 hPs
                              omega)
                            rcases hex4 with hex4 | hex4
                            all_goals
                              go_wp2
                              all_goals go_ret
                              all_goals exact hres.out
                          · have hPb : 4503599627370496 ≤ P := by omega
                            have hYl : -1022 ≤ Y := by omega
                            have hPp : 0 < P := by omega
                            clear hPs hex4
                            by_cases hYb : 1023 < Y
                            · have hres : Hid (GS l w (.returned (.int .u64 (P % 4503599627370496))) w) := Lib.hid (by
                                obtain ⟨v, hv⟩ := Int.eq_ofNat_of_zero_le (show 0 ≤ P % 4503599627370496 by omega)
                                refine ⟨v, by omega, by rw [hv], fun m h0 h1 hl => ?_, rfl⟩
                                have := ((hfin.out m h0 h1 hl).2 hPb).1
                                omega)
                              go_wp2
                              go_ret
                              exact hres.out
                            · have hYs : Y ≤ 1023 := by omega
                              clear hYb
                              have hres : Hid (GS l w (.returned (.int .u64 ((Y + 1022) * 4503599627370496 + P))) w) := Lib.hid (by
                                obtain ⟨v, hv⟩ := Int.eq_ofNat_of_zero_le (show 0 ≤ (Y + 1022) * 4503599627370496 + P by omega)
                                refine ⟨v, by omega, by rw [hv], fun m h0 h1 hl => ?_, rfl⟩
                                have := ((hfin.out m h0 h1 hl).2 hPb).2
                                omega)
                              go_wp2
                              go_ret
                              exact hres.out

end Go.Proofs.YthmgkjfohkadoaaGreatDoor

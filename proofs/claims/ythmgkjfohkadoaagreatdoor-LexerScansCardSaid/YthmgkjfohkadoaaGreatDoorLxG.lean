/- lexer: unescape. -/
import Derived.Test.YthmgkjfohkadoaaGreatDoorLxF
namespace Go.Proofs.YthmgkjfohkadoaaGreatDoor
open Go.RowKit
set_option linter.unusedVariables false

abbrev hexL : Bs := [48, 49, 50, 51, 52, 53, 54, 55, 56, 57, 97, 98, 99, 100, 101, 102]
def hxI (a : UInt8) : Int := match hxV a with
  | some i => (i : Int)
  | none => -1
theorem hex_idx (a : UInt8) : Lib.indexByte hexL a = hxI a := by
  have key : ∀ k : Fin 256, Lib.indexByte hexL (UInt8.ofNat k.val) = hxI (UInt8.ofNat k.val) := by decide +kernel
  have := key ⟨a.toNat, a.toNat_lt⟩
  simpa using this
theorem hxI_some {a : UInt8} {i : Nat} (h : hxV a = some i) : hxI a = (i : Int) := by unfold hxI; rw [h]
theorem hxI_none {a : UInt8} (h : hxV a = none) : hxI a = -1 := by unfold hxI; rw [h]
theorem hxV_lt {a : UInt8} {i : Nat} (h : hxV a = some i) : i < 16 := by
  have key : ∀ k : Fin 256, ∀ i, hxV (UInt8.ofNat k.val) = some i → i < 16 := by
    intro k i
    have h2 : (hxV (UInt8.ofNat k.val)).all (fun i => decide (i < 16)) = true := by revert k; decide +kernel
    intro h3
    rw [h3] at h2
    simpa using h2
  exact key ⟨a.toNat, a.toNat_lt⟩ i (by simpa using h)
theorem letter_idx (c : UInt8) : (c = 92 ∨ c = 39 ∨ c = 110 ∨ c = 114 ∨ c = 116) ∨ Lib.indexByte [92, 39, 110, 114, 116] c = -1 := by
  by_cases h1 : c = 92
  · exact .inl (.inl h1)
  · by_cases h2 : c = 39
    · exact .inl (.inr (.inl h2))
    · by_cases h3 : c = 110
      · exact .inl (.inr (.inr (.inl h3)))
      · by_cases h4 : c = 114
        · exact .inl (.inr (.inr (.inr (.inl h4))))
        · by_cases h5 : c = 116
          · exact .inl (.inr (.inr (.inr (.inr h5))))
          · have e1 : ((92 : UInt8) == c) = false := by rw [beq_eq_false_iff_ne]; exact fun h => h1 h.symm
            have e2 : ((39 : UInt8) == c) = false := by rw [beq_eq_false_iff_ne]; exact fun h => h2 h.symm
            have e3 : ((110 : UInt8) == c) = false := by rw [beq_eq_false_iff_ne]; exact fun h => h3 h.symm
            have e4 : ((114 : UInt8) == c) = false := by rw [beq_eq_false_iff_ne]; exact fun h => h4 h.symm
            have e5 : ((116 : UInt8) == c) = false := by rw [beq_eq_false_iff_ne]; exact fun h => h5 h.symm
            exact .inr (by simp [Lib.indexByte, e1, e2, e3, e4, e5])
def EscW (l : Bs) (w : World) (e : Ending) (w' : World) : Prop := e = .returned (.tuple #[.int .u8 ((escR l).1.toNat : Int), .int .i64 ((escR l).2 : Int)]) ∧ ∃ q, w' = w.drewN q
set_option maxHeartbeats 1000000 in
theorem un_nil (w : World) : Calls Tryz.prog 45 #[.string ⟨#[]⟩] w (EscW [] w) := by
  unfold EscW
  go_enter Tryz.func45, Tryz.ntmps45
  go_wp2
  go_ret2
  exact ⟨rfl, 0, rfl⟩
set_option maxHeartbeats 1000000 in
theorem un_short {c x : UInt8} {r : Bs} (i : Nat) (w : World) (hi : Lib.indexByte [92, 39, 110, 114, 116] c = (i : Int)) (hi5 : i < 5) (hx : ∃ h' : i < (⟨#[92, 39, 10, 13, 9]⟩ : ByteArray).size, (⟨#[92, 39, 10, 13, 9]⟩ : ByteArray)[i]'h' = x) (he : escR (c :: r) = (x, 1)) :
    Calls Tryz.prog 45 #[.string (mkS (c :: r))] w (EscW (c :: r) w) := by
  unfold EscW
  rw [he]
  have HI : Hid (∀ w, Calls Tryz.prog 14 #[.string ⟨#[92, 39, 110, 114, 116]⟩, .int .u8 (c.toNat : Int)] w fun e w' => e = .returned (.int .i64 (i : Int)) ∧ w = w') := Lib.hid fun w => by
    have h := idx_any [92, 39, 110, 114, 116] c w
    rw [hi] at h
    exact h
  obtain ⟨hx1, hx2⟩ := hx
  have hsz : (⟨#[92, 39, 10, 13, 9]⟩ : ByteArray).size = 5 := rfl
  have hs0 : 0 < (mkS (c :: r)).size := by rw [mkS_size]; simp
  have hc : (mkS (c :: r))[0]'hs0 = c := mkS_at (c :: r) 0 (by simp) hs0
  have hne : (mkS (c :: r)).toList.isEmpty = false := by rw [Lib.toList_data]; rfl
  generalize mkS (c :: r) = s at hs0 hc hne ⊢
  clear hi he
  go_enter Tryz.func45, Tryz.ntmps45
  go_wp2_with fail
  refine (HI.out _).mono ?_
  rintro e w' ⟨rfl, rfl⟩
  go_wp2
  go_ret2
  exact ⟨rfl, 0, rfl⟩
set_option maxHeartbeats 1000000 in
theorem un_none {c : UInt8} {r : Bs} (w : World) (hi : Lib.indexByte [92, 39, 110, 114, 116] c = -1) (h2 : c ≠ 120 ∨ r.length < 2) (he : escR (c :: r) = (0, 0)) :
    Calls Tryz.prog 45 #[.string (mkS (c :: r))] w (EscW (c :: r) w) := by
  unfold EscW
  rw [he]
  have HI : Hid (∀ w, Calls Tryz.prog 14 #[.string ⟨#[92, 39, 110, 114, 116]⟩, .int .u8 (c.toNat : Int)] w fun e w' => e = .returned (.int .i64 (-1)) ∧ w = w') := Lib.hid fun w => by
    have h := idx_any [92, 39, 110, 114, 116] c w
    rw [hi] at h
    exact h
  have hs0 : 0 < (mkS (c :: r)).size := by rw [mkS_size]; simp
  have hc : (mkS (c :: r))[0]'hs0 = c := mkS_at (c :: r) 0 (by simp) hs0
  have hsl : (mkS (c :: r)).size = r.length + 1 := mkS_size (c :: r)
  have hne : (mkS (c :: r)).toList.isEmpty = false := by rw [Lib.toList_data]; rfl
  generalize mkS (c :: r) = s at hs0 hc hne hsl ⊢
  by_cases hcx : c = 120
  · have e1 : ((c.toNat : Int) != 120) = false := by rw [hcx]; decide
    have h3 : r.length < 2 := h2.resolve_left fun h => h hcx
    have e2 : (s.size : Int) < 3 := by omega
    clear hi he h2 hcx
    go_enter Tryz.func45, Tryz.ntmps45
    go_wp2_with fail
    refine (HI.out _).mono ?_
    rintro e w' ⟨rfl, rfl⟩
    go_wp2
    go_ret2
    exact ⟨rfl, 0, rfl⟩
  · have e1 : ((c.toNat : Int) != 120) = true := by
      rw [bne_iff_ne]
      intro e
      exact hcx (UInt8.toNat_inj.1 (by show c.toNat = 120; omega))
    clear hi he h2 hcx
    go_enter Tryz.func45, Tryz.ntmps45
    go_wp2_with fail
    refine (HI.out _).mono ?_
    rintro e w' ⟨rfl, rfl⟩
    go_wp2
    go_ret2
    exact ⟨rfl, 0, rfl⟩
theorem hex_or {i j : Nat} (hi : i < 16) (hj : j < 16) : bits .or .i64 ((i : Int) * 16) (j : Int) % 256 = ((UInt8.ofNat (i * 16 + j)).toNat : Int) := by
  have key : ∀ a b : Fin 16, bits .or .i64 ((a.val : Int) * 16) (b.val : Int) % 256 = ((UInt8.ofNat (a.val * 16 + b.val)).toNat : Int) := by decide +kernel
  exact key ⟨i, hi⟩ ⟨j, hj⟩
theorem esc_hex {a b : UInt8} {r : Bs} : escR (120 :: a :: b :: r) = (match hxV a, hxV b with | some i, some j => (UInt8.ofNat (i * 16 + j), 3) | _, _ => (0, 0)) := rfl
set_option maxRecDepth 100000 in
set_option maxHeartbeats 1000000 in
theorem un_hex {a b : UInt8} {r : Bs} (w : World) (hl : r.length ≤ 1073741824) :
    Calls Tryz.prog 45 #[.string (mkS (120 :: a :: b :: r))] w (EscW (120 :: a :: b :: r) w) := by
  unfold EscW
  have HI : Hid (∀ w, Calls Tryz.prog 14 #[.string ⟨#[92, 39, 110, 114, 116]⟩, .int .u8 120] w fun e w' => e = .returned (.int .i64 (-1)) ∧ w = w') := Lib.hid fun w => by
    have h := idx_any [92, 39, 110, 114, 116] 120 w
    exact h
  have HA : Hid (∀ w, Calls Tryz.prog 14 #[.string ⟨#[48, 49, 50, 51, 52, 53, 54, 55, 56, 57, 97, 98, 99, 100, 101, 102]⟩, .int .u8 (a.toNat : Int)] w fun e w' => e = .returned (.int .i64 (hxI a)) ∧ w' = w) := Lib.hid fun w => by
    refine (idx_any hexL a w).mono ?_
    rintro e w' ⟨h1, h2⟩
    exact ⟨by rw [h1, hex_idx], h2.symm⟩
  have HB : Hid (∀ w, Calls Tryz.prog 14 #[.string ⟨#[48, 49, 50, 51, 52, 53, 54, 55, 56, 57, 97, 98, 99, 100, 101, 102]⟩, .int .u8 (b.toNat : Int)] w fun e w' => e = .returned (.int .i64 (hxI b)) ∧ w' = w) := Lib.hid fun w => by
    refine (idx_any hexL b w).mono ?_
    rintro e w' ⟨h1, h2⟩
    exact ⟨by rw [h1, hex_idx], h2.symm⟩
  have hsl : (mkS (120 :: a :: b :: r)).size = r.length + 3 := mkS_size _
  have hs0 : 0 < (mkS (120 :: a :: b :: r)).size := by omega
  have hs1 : 1 < (mkS (120 :: a :: b :: r)).size := by omega
  have hs2 : 2 < (mkS (120 :: a :: b :: r)).size := by omega
  have hc : (mkS (120 :: a :: b :: r))[0]'hs0 = 120 := mkS_at _ 0 (by simp) hs0
  have ha : (mkS (120 :: a :: b :: r))[1]'hs1 = a := mkS_at _ 1 (by simp) hs1
  have hb : (mkS (120 :: a :: b :: r))[2]'hs2 = b := mkS_at _ 2 (by simp) hs2
  have hne : (mkS (120 :: a :: b :: r)).toList.isEmpty = false := by rw [Lib.toList_data]; rfl
  have HE : Hid (escR (120 :: a :: b :: r) = _) := Lib.hid esc_hex
  rw [HE.out]
  generalize mkS (120 :: a :: b :: r) = s at hs0 hs1 hs2 hc ha hb hne hsl ⊢
  have e3 : ¬ ((s.size : Int) < 3) := by omega
  have e120 : ((120 : UInt8).toNat : Int) = 120 := by decide
  clear HE
  cases hva : hxV a with
  | none =>
    have hia := hxI_none hva
    rw [hia] at HA
    generalize hxI b = B at HB
    clear hia hva
    go_enter Tryz.func45, Tryz.ntmps45
    go_wp2_with fail
    refine (HI.out _).mono ?_
    rintro e w' ⟨rfl, rfl⟩
    go_wp2
    go_quiet (first | (go_at_call 14; exact Calls.quiet_of_same (HA.out _)) | (go_at_call 14; exact Calls.quiet_of_same (HB.out _)))
    go_wp2
    go_ret2
    exact ⟨rfl, _, rfl⟩
  | some i =>
    have hia := hxI_some hva
    rw [hia] at HA
    have hi := hxV_lt hva
    clear hia hva
    cases hvb : hxV b with
    | none =>
      have hib := hxI_none hvb
      rw [hib] at HB
      clear hib hvb
      go_enter Tryz.func45, Tryz.ntmps45
      go_wp2_with fail
      refine (HI.out _).mono ?_
      rintro e w' ⟨rfl, rfl⟩
      go_wp2
      go_quiet (first | (go_at_call 14; exact Calls.quiet_of_same (HA.out _)) | (go_at_call 14; exact Calls.quiet_of_same (HB.out _)))
      go_wp2
      go_ret2
      exact ⟨rfl, _, rfl⟩
    | some j =>
      have hib := hxI_some hvb
      rw [hib] at HB
      have hj := hxV_lt hvb
      clear hib hvb
      go_enter Tryz.func45, Tryz.ntmps45
      go_wp2_with fail
      refine (HI.out _).mono ?_
      rintro e w' ⟨rfl, rfl⟩
      go_wp2
      go_quiet (first | (go_at_call 14; exact Calls.quiet_of_same (HA.out _)) | (go_at_call 14; exact Calls.quiet_of_same (HB.out _)))
      go_wp2
      go_ret2
      refine ⟨?_, _, rfl⟩
      have h := hex_or hi hj
      show Ending.returned (.tuple #[.int .u8 (bits .or .i64 ((i : Int) * 16) (j : Int) % 256), .int .i64 3]) = _
      rw [h]
      rfl
theorem unescape_any (l : Bs) (w : World) (hl : l.length ≤ 1073741824) : Calls Tryz.prog 45 #[.string (mkS l)] w (EscW l w) := by
  cases l with
  | nil => exact un_nil w
  | cons c r =>
    rcases letter_idx c with (rfl | rfl | rfl | rfl | rfl) | hi
    · exact un_short 0 w (by decide) (by decide) ⟨by decide, rfl⟩ rfl
    · exact un_short 1 w (by decide) (by decide) ⟨by decide, rfl⟩ rfl
    · exact un_short 2 w (by decide) (by decide) ⟨by decide, rfl⟩ rfl
    · exact un_short 3 w (by decide) (by decide) ⟨by decide, rfl⟩ rfl
    · exact un_short 4 w (by decide) (by decide) ⟨by decide, rfl⟩ rfl
    · by_cases hc : c = 120
      · subst hc
        match r with
        | [] => exact un_none w hi (.inr (by simp)) rfl
        | [a] => exact un_none w hi (.inr (by simp)) rfl
        | a :: b :: r => exact un_hex w (by simp only [List.length_cons] at hl; omega)
      · refine un_none w hi (.inl hc) ?_
        have n92 : ¬ c = 92 := fun h => by rw [h] at hi; exact absurd hi (by decide)
        have n39 : ¬ c = 39 := fun h => by rw [h] at hi; exact absurd hi (by decide)
        have n110 : ¬ c = 110 := fun h => by rw [h] at hi; exact absurd hi (by decide)
        have n114 : ¬ c = 114 := fun h => by rw [h] at hi; exact absurd hi (by decide)
        have n116 : ¬ c = 116 := fun h => by rw [h] at hi; exact absurd hi (by decide)
        simp only [escR]
        rw [if_neg (fun h => h.elim n92 n39), if_neg n110, if_neg n114, if_neg n116, if_neg hc]
end Go.Proofs.YthmgkjfohkadoaaGreatDoor

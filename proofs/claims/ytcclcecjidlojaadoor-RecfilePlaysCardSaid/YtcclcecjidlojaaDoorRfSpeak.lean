/- recfile: the law's speaks. -/
import Derived.Test.YtcclcecjidlojaaDoorRf10
import Derived.Test.YtcclcecjidlojaaDoorSameS
namespace Go.Proofs.YtcclcecjidlojaaDoor
open Go.RowKit
set_option linter.unusedVariables false

def sR1 : List Nat := [0, 0, 0, 1, 7, 8]
def sR2 : List Nat := [1, 0, 0, 1, 7, 8]
def sBS : List Nat := rfBytes 4 1 3 2 sR1
theorem sp_put : layB (takenR [] 3 0 1) (1 * 3 + 1) [7, 8] = sR1 := by decide
theorem sp_putL : takenL [] 3 0 1 0 = 1 := by decide
theorem sp_rec : recD sR1 3 1 = [7, 8] := by decide
theorem sp_len : sBS.length = 22 := by decide
theorem sp_take : sBS.take 12 = [83, 82, 69, 67, 4, 1, 0, 3, 0, 0, 0, 2] := by decide
theorem sp_drop : sBS.drop 16 = [0, 0, 0, 1, 7, 8] := by decide
theorem sp_err : openErr sBS = 0 := by kernel_rfl
theorem sp_hd : hdErr sBS = 0 := by kernel_rfl
theorem sp_n : hd sBS 8 4 = 2 := by kernel_rfl
theorem sp_s : hd sBS 6 2 = 3 := by kernel_rfl
theorem sp_alloc : (growR sR1 (0 * 3 + 3)).set (0 * 3) 1 = sR2 := by decide
theorem sp_bytesB (L : List Nat) (h : L.all (· < 256) = true) : IsBytes L := by
  intro x hx
  simpa using (List.all_eq_true.1 h) x hx
theorem sp_F {F : Nat} (h : ∀ j : Nat, 0 ≤ j → j < F → usedB sR1 3 2 (j : Int) = true) : F = 0 := by
  rcases Nat.eq_zero_or_pos F with h0 | h0
  · exact h0
  · have h1 := h 0 (Nat.le_refl _) h0
    exact absurd h1 (by decide)
/-- a literal of bytes as an object -/
theorem St.litB {S : Fp} {l : List Ass} {w0 w : World} [Stable (Sep l)] (h : St S l w0 w) (e : TypeId) (L : List Nat) (hL : IsBytes L) (n : Nat) (hn : L.length = n) (hm : n ≤ maxLen) (cs : Array Value) (hcs : cs.toList = cells8 L) (N : Nat) (hN : w.heap.size = N) :
    St S (ObA e (.slice (some ⟨N, 0, none⟩) n n) L :: l) w0 (w.alloc (.cells cs e)) := by
  subst hN hn
  have hl : cs.size = L.length * 1 := by rw [← Array.length_toList, hcs, cells8_length, Nat.mul_one]
  have ho := World.ownsRow_lit (base := w.heap.size) (e := e) (size := 1) w cs L.length (Nat.le_refl _) hm hl
  rw [hcs] at ho
  exact h.newOb ⟨hL, ho⟩ ((Below.refl _ _).alloc (Nat.le_refl _) _)
set_option maxRecDepth 100000 in
set_option maxHeartbeats 2000000 in
theorem speaks9_any (w : World) (hT : TabW w) : Calls Tryd.prog 11 #[] w fun e w' => e = .returned (.bool true) ∧ Below w.heap.size w w' := by
  have HT := Lib.hid hT
  have HNW := Lib.hid (rfNew_ok (St.start Zf w) 4 1 3 (by decide))
  clear hT
  go_enter Tryd.func11, Tryd.ntmps11
  go_upto_region 4 with (first
    | (go_at_call 12; refine (HNW.out).mono ?_; rintro e w1 ⟨g, rfl, h1⟩; have h1 : St Zf [RfA g ((4 : Nat) : Int) ((1 : Nat) : Int) ((3 : Nat) : Int) [] 0 ((0 : Nat) : Int)] w w1 := h1; have h2 := (h1.litB 5 [7, 8] (sp_bytesB _ (by decide)) 2 rfl (by decide) #[.int .u8 7, .int .u8 8] rfl _ rfl).swap; have H2 := Lib.hid h2; clear h1 h2)
    | (go_at_call 23; refine (rfPut_ok (n := 0) (id := 1) (D := [7, 8]) H2.out (by decide) (by decide) rfl (by decide) (by decide) (by decide) (by decide) H2.out.swap.ob.reads.2.1 (Nat.le_refl _) rfl (fun w' h' => h'.swap.ob.reads.2.1)).mono ?_; rintro e w3 ⟨rfl, h3⟩; rw [sp_put, sp_putL] at h3; have H3 := Lib.hid h3.swap.drop; clear h3))
  clear HNW H2
  go_upto_region 8 with (first
    | (go_at_call 29; refine (rfGet_ok (n := 2) (id := 1) H3.out (by decide) (by decide) rfl (by decide) (by decide)).mono ?_; rintro e w4 ⟨v4, rfl, h4⟩; rw [sp_rec] at h4; obtain ⟨A4, c4, hv4, -, -, -, -⟩ := h4.ob.form; rw [show ([7, 8] : List Nat).length = 2 from rfl] at hv4; subst hv4; have h5 := h4.litB 5 [7, 8] (sp_bytesB _ (by decide)) 2 rfl (by decide) #[.int .u8 7, .int .u8 8] rfl _ rfl; have H5 := Lib.hid h5; clear h4 h5)
    | (go_at_call 15; refine (same_yes A4 _ 2 c4 2 _ _ [7, 8] _ H5.out.swap.ob.reads.2.1 H5.out.ob.reads.2.1 rfl (by decide)).mono ?_; rintro e w6 ⟨rfl, q6, hw6⟩; have h6 := (H5.out.drop.drop).drewN q6; rw [← hw6] at h6; have H6 := Lib.hid h6; obtain ⟨A6, p6, r6⟩ := rf_read h6; have R6 := Lib.hid r6; clear h6 hw6 r6)
    | (go_at_call 26; refine (rfCount_any (n := 2) R6.out (by decide) rfl (by decide)).mono ?_; rintro e w7 ⟨rfl, q7, hw7⟩; have h7 := H6.out.drewN q7; rw [← hw7] at h7; have H7 := Lib.hid h7; clear h7 hw7)
    | (go_at_call 27; refine (rfLive_any H7.out).mono ?_; rintro e w8 ⟨rfl, rfl⟩)
    | (go_at_call 16; refine (rfBytes_any (k := 4) (v := 1) (s := 3) (n := 2) H7.out (by decide) (by decide) rfl (by decide) (by decide) (by decide) (HT.out.below H7.out.bel HT.out.1)).mono ?_; rintro e w9 ⟨v9, rfl, h9⟩; have h9 : St Zf [ObA 5 v9 sBS, RfA g ((4 : Nat) : Int) ((1 : Nat) : Int) ((3 : Nat) : Int) sR1 1 ((0 : Nat) : Int)] w w9 := h9; obtain ⟨A9, c9, hv9, hc9, -, -, -⟩ := h9.ob.form; rw [sp_len] at hv9 hc9; subst hv9; have H9 := Lib.hid h9.swap; clear h9))
  clear H3 H5 H6 H7 R6
  obtain ⟨b9, rfl⟩ : ∃ b, A9 = some ⟨b, 0, none⟩ := by
    rcases H9.out.swap.ob.2.2 with ⟨h4, h5⟩ | ⟨b, cap', cur, h4, _⟩
    · exact absurd h5 (by rw [sp_len]; decide)
    · simp only [Value.slice.injEq] at h4
      exact ⟨b, h4.1⟩
  have i1 : (12 : Int) ≤ (c9 : Int) := by omega
  have i2 : (22 : Int) ≤ (c9 : Int) := by omega
  have i3 : c9 ≠ 16 := by omega
  have i4 : 16 ≠ c9 := by omega
  have HC9 := Lib.hid hc9
  have HAL := Lib.hid (rfAlloc_ok (n := 2) (lw := 0) H9.out (by decide) (by decide) rfl (by decide) (by decide) (by decide) (by decide))
  clear hc9
  go_upto_region 9 with (go_at_call 24; refine (HAL.out).mono ?_; rintro e w10 ⟨F, -, hF2, hFa, hFu, rfl, h10⟩; obtain rfl : F = 0 := sp_F hFa; rw [sp_alloc] at h10; have h10 : St Zf [RfA g ((4 : Nat) : Int) ((1 : Nat) : Int) ((3 : Nat) : Int) sR2 2 ((1 : Nat) : Int), ObA 5 (.slice (some ⟨b9, 0, none⟩) 22 c9) sBS] w w10 := h10; have H10 := Lib.hid h10; clear h10 hFa hFu hF2)
  clear HAL H9
  have h11 := H10.out.litB 5 [83, 82, 69, 67, 4, 1, 0, 3, 0, 0, 0, 2] (sp_bytesB _ (by decide)) 12 rfl (by decide) #[.int .u8 83, .int .u8 82, .int .u8 69, .int .u8 67, .int .u8 4, .int .u8 1, .int .u8 0, .int .u8 3, .int .u8 0, .int .u8 0, .int .u8 0, .int .u8 2] rfl _ rfl
  have r12 := (h11.drop.swap.ob.reads.2.1).cut (b := b9) (off := 0) rfl 0 12 (by rw [sp_len]; decide) (by decide)
  rw [List.drop_zero, Nat.add_zero, sp_take] at r12
  have HS1 := Lib.hid (same_yes (some ⟨b9, 0, none⟩) _ 12 c9 12 _ _ [83, 82, 69, 67, 4, 1, 0, 3, 0, 0, 0, 2] _ r12 h11.ob.reads.2.1 rfl (by decide))
  have H11 := Lib.hid h11.drop
  clear h11 r12
  go_upto_region 11 with (first
    | (go_at_call 15; (with_reducible refine (HS1.out).mono ?_); rintro e w12 ⟨rfl, q12, hw12⟩; have h12 := H11.out.drewN q12; rw [← hw12] at h12; have h13 := h12.litB 5 [0, 0, 0, 1, 7, 8] (sp_bytesB _ (by decide)) 6 rfl (by decide) #[.int .u8 0, .int .u8 0, .int .u8 0, .int .u8 1, .int .u8 7, .int .u8 8] rfl _ rfl; have r13 := (h13.drop.swap.ob.reads.2.1).cut (b := b9) (off := 0) rfl 16 22 (by rw [sp_len]; decide) (by decide); rw [show sBS.take 22 = sBS from List.take_of_length_le (by rw [sp_len]; decide), sp_drop, Nat.zero_add] at r13; have HS2 := Lib.hid (same_yes (some ⟨b9, 16, none⟩) _ 6 (c9 - 16) 6 _ _ [0, 0, 0, 1, 7, 8] _ r13 h13.ob.reads.2.1 rfl (by decide)); have H13 := Lib.hid h13.drop; clear h12 h13 r13 hw12)
    | (go_at_call 15; (with_reducible refine (HS2.out).mono ?_); rintro e w14 ⟨rfl, q14, hw14⟩; have h14 := H13.out.drewN q14; rw [← hw14] at h14; have H14 := Lib.hid h14; clear h14 hw14))
  have hop := rfOpen_body (cap := c9) H14.out H14.out.swap.ob.reads.2.1 (Nat.le_refl _) (HT.out.below H14.out.bel HT.out.1) (by rw [sp_len]; decide) (by rw [sp_len]; decide) (by rw [sp_len]; exact HC9.out) sp_hd
  rw [sp_len, sp_err, sp_drop, sp_n, sp_s] at hop
  have hop2 := hop.mono (R' := fun e w' => ∃ g2, e = .returned (.tuple #[.pointer (some ⟨g2, 0, none⟩), .int .i64 0]) ∧ St Zf [RfA g2 (hd sBS 4 1 : Nat) (hd sBS 5 1 : Nat) ((3 : Nat) : Int) [0, 0, 0, 1, 7, 8] (liveN [0, 0, 0, 1, 7, 8] 3 2 : Nat) 0, RfA g ((4 : Nat) : Int) ((1 : Nat) : Int) ((3 : Nat) : Int) sR2 2 ((1 : Nat) : Int), ObA 5 (.slice (some ⟨b9, 0, none⟩) 22 c9) sBS] w w') (fun e w' h => by
    rcases h with ⟨h1, _⟩ | ⟨_, h2⟩
    · exact absurd rfl h1
    · exact h2)
  have HOP := Lib.hid hop2
  clear hop hop2 H10 H11 H13 HS1 HS2 i1 i2 i3 i4
  go_wp2_with (first
    | (go_at_call 19; refine (HOP.out).mono ?_; rintro e w15 ⟨g2, rfl, h15⟩; have H15 := Lib.hid h15; obtain ⟨A15, p15, r15⟩ := rf_read h15; have R15 := Lib.hid r15; clear h15 r15)
    | (go_at_call 26; refine (rfCount_any (n := 2) R15.out (by decide) rfl (by decide)).mono ?_; rintro e w16 ⟨rfl, q16, hw16⟩; have h16 := H15.out.drewN q16; rw [← hw16] at h16; have H16 := Lib.hid h16.drop; clear h16 hw16)
    | (go_at_call 25; refine (rfFree_ok (n := 2) (id := 0) (lw := 1) H16.out (by decide) (by decide) rfl (by decide) (by decide) (by decide) (by decide)).mono ?_; rintro e w17 ⟨rfl, h17⟩; have H17 := Lib.hid h17.bel; clear h17))
  go_ret
  exact ⟨rfl, H17.out⟩
end Go.Proofs.YtcclcecjidlojaaDoor

/- rectwo: the law's speaks. -/
import Derived.Test.YtmiiogailnjfpaaRcGrp
import Derived.Test.YtmiiogailnjfpaaRdRelTG
import Derived.Test.YtmiiogailnjfpaaRdNodTG
import Derived.Test.YtmiiogailnjfpaaApZeros
import Derived.Test.YtmiiogailnjfpaaSameS
namespace Go.Proofs.Ytmiiogailnjfpaa
open Go.RowKit
set_option linter.unusedVariables false

def sG : List Nat := [0, 3, 0, 0, 0, 1, 0, 0, 0, 8, 0, 0, 0, 0, 0, 0, 0, 1, 0, 0, 0, 0]
def sSl : List Nat := (List.replicate 48 0).set 5 9
def sN : List Nat := [1, 0, 0, 8, 1, 0, 0, 0, 0, 5, 0, 0, 0, 0, 0, 0, 0] ++ sSl
def sRl : List Nat := [0, 0, 0, 3, 0, 0, 0, 4, 0, 5, 0, 0, 0, 0, 0, 0, 0, 2, 0, 0, 0, 0, 0, 0, 0, 0, 0, 0, 0, 7]
def sRb : List Nat := sRl ++ List.replicate 32 0
theorem sp_ge : putGroupE ⟨false, 3, 1, 7, -1, 0, -1⟩ = 0 := by kernel_rfl
theorem sp_gb : (putGroupQ ⟨false, 3, 1, 7, -1, 0, -1⟩).1.bytes = sG := by kernel_rfl
theorem sp_ne : putNodTE ⟨true, 2048, -1⟩ [4] sSl = 0 := by kernel_rfl
theorem sp_nb : (putNodTQ ⟨true, 2048, -1⟩ [4] sSl).1.bytes = sN := by kernel_rfl
theorem sp_re : getRelTE sRb = 0 := by kernel_rfl
theorem sp_rv : getRelTV sRb = ⟨true, 3, 4, -1, -1, 1, -1, 5, 6⟩ := by kernel_rfl
theorem sp_rs : (getRelTS sRb).length = 32 := by kernel_rfl
theorem sp_bytesB (L : List Nat) (h : L.all (· < 256) = true) : IsBytes L := by
  intro x hx
  simpa using (List.all_eq_true.1 h) x hx
/-- a literal of bytes as an object -/
theorem St.litB {S : Fp} {l : List Ass} {w0 w : World} [Stable (Sep l)] (h : St S l w0 w) (e : TypeId) (L : List Nat) (hL : IsBytes L) (n : Nat) (hn : L.length = n) (hm : n ≤ maxLen) (cs : Array Value) (hcs : cs.toList = cells8 L) (N : Nat) (hN : w.heap.size = N) :
    St S (ObA e (.slice (some ⟨N, 0, none⟩) n n) L :: l) w0 (w.alloc (.cells cs e)) := by
  subst hN hn
  have hl : cs.size = L.length * 1 := by rw [← Array.length_toList, hcs, cells8_length, Nat.mul_one]
  have ho := World.ownsRow_lit (base := w.heap.size) (e := e) (size := 1) w cs L.length (Nat.le_refl _) hm hl
  rw [hcs] at ho
  exact h.newOb ⟨hL, ho⟩ ((Below.refl _ _).alloc (Nat.le_refl _) _)
theorem sp_grp (w : World) : Calls Try.prog 26 #[.agg #[.bool false, .int .i64 3, .int .i64 1, .int .i64 7, .int .i64 (-1), .int .i64 0, .int .i64 (-1)]] w fun e w' => ∃ A c, e = .returned (.tuple #[.slice A 22 c, .int .i64 0]) ∧ St Zf [ObA 5 (.slice A 22 c) sG] w w' := by
  have := PutGroup_any ⟨false, 3, 1, 7, -1, 0, -1⟩ w
  rw [sp_ge, if_pos rfl, sp_gb] at this
  refine this.mono ?_
  rintro e w' ⟨v, rfl, ho, hb⟩
  have h1 := (St.start Zf w).newOb ho hb
  obtain ⟨A, c, rfl, -, -, -, -⟩ := ho.form
  exact ⟨A, c, rfl, h1⟩

def sZc : Array Value := madeCells #[Value.int .u8 0] 48
theorem sZc_list : sZc.toList = cells8 (List.replicate 48 0) := by kernel_rfl
theorem sZc_set : (sZc.setIfInBounds 5 (.int .u8 9)).toList = cells8 sSl := by kernel_rfl
theorem sp_make (W : World) : (Instr.makeSlice 24 (.int .i64 48) (.int .i64 48)).run Try.prog W = .ok (.slice (some ⟨W.heap.size, 0, none⟩) 48 48) (W.alloc (.cells sZc 5)) := by
  have h := run_make_row' (P := Try.prog) 24 5 (.int .u8 0) 1 Try.underlying24 (by kernel_rfl) rfl .i64 .i64 48 (by omega) (by omega) W
  exact h
theorem sp_nod (N M : Nat) (w0 w : World) (l : List Ass) [Stable (Sep l)] (h : St Zf (BlkA M 3 #[.int .i64 4] :: ObA 5 (.slice (some ⟨N, 0, none⟩) 48 48) sSl :: l) w0 w) : Calls Try.prog 13 #[.agg #[.bool true, .int .i64 2048, .int .i64 (-1), .slice (some ⟨M, 0, none⟩) 1 1, .slice (some ⟨N, 0, none⟩) 48 48]] w fun e w' => ∃ b c, e = .returned (.tuple #[.slice (some ⟨b, 0, none⟩) 65 c, .int .i64 0]) ∧ 65 ≤ c ∧ St Zf (ObA 5 (.slice (some ⟨b, 0, none⟩) 65 c) sN :: l) w0 w' := by
  have hL : Blk w M 3 (icells [4]) := h.blk
  have := PutNodT_any ⟨true, 2048, -1⟩ (some ⟨M, 0, none⟩) 1 _ [4] (some ⟨N, 0, none⟩) 48 _ sSl w hL.rl (Nat.le_refl _) (by simp) (by decide) h.swap.ob.reads.2.1 (Nat.le_refl _) (by decide)
  rw [sp_ne, if_pos rfl, sp_nb] at this
  refine this.mono ?_
  rintro e w' ⟨v, rfl, ho, hb⟩
  have h1 := (h.drop.drop).newOb ho hb
  obtain ⟨A, c, rfl, hc, -, -, -⟩ := ho.form
  obtain ⟨b, rfl⟩ : ∃ b, A = some ⟨b, 0, none⟩ := by
    rcases ho.2.2 with ⟨h4, h5⟩ | ⟨b, cap', cur, h4, _⟩
    · exact absurd h5 (by decide)
    · simp only [Value.slice.injEq] at h4
      exact ⟨b, h4.1⟩
  exact ⟨b, c, rfl, hc, h1⟩
theorem sp_d9 {l : List Ass} {b c : Nat} {w0 w : World} (h : St Zf (ObA 5 (.slice (some ⟨b, 0, none⟩) 65 c) sN :: l) w0 w) : w.cell? ⟨b, 22, none⟩ = some (.int .u8 9) := by
  have hl : 22 < sN.length := by decide
  obtain ⟨b', off, hA, _, hc⟩ := (h.ob.reads.2.1).at_ hl
  cases hA
  rw [show nth sN 22 = 9 from by decide] at hc
  simpa using hc
theorem sp_rel (A : Option Addr) (c : Nat) (w0 w : World) (l : List Ass) [Stable (Sep l)] (h : St Zf (ObA 5 (.slice A 62 c) sRb :: l) w0 w) : Calls Try.prog 23 #[.slice A 62 c] w fun e w' => ∃ (a : Option Addr) (d : Nat), e = .returned (.tuple #[.agg #[.bool true, .int .i64 3, .int .i64 4, .int .i64 (-1), .int .i64 (-1), .int .i64 1, .int .i64 (-1), .int .i64 5, .int .i64 6, .slice a 32 d], .int .i64 0]) ∧ St Zf l w0 w' := by
  have := GetRelT_any A c _ sRb w h.ob.reads.2.1 (Nat.le_refl _) (by decide)
  refine this.mono ?_
  rintro e w' ⟨a, b, d, rfl, h1⟩
  have e1 := h1.ob.reads.1
  rw [sp_rs] at e1
  rw [sp_re, if_pos rfl, sp_rv, e1]
  exact ⟨a, d, rfl, h.drop.below h1.bel⟩
set_option maxRecDepth 100000 in
set_option maxHeartbeats 2000000 in
theorem speaks_any (w : World) : Calls Try.prog 11 #[] w fun e w' => e = .returned (.bool true) ∧ Below w.heap.size w w' := by
  have HG := Lib.hid (sp_grp w)
  go_enter Try.func11, Try.ntmps11
  go_upto_region 4 with (first
    | (go_at_call 26; refine (HG.out).mono ?_; rintro e w1 ⟨A1, c1, rfl, h1⟩; have h2 := h1.litB 5 sG (sp_bytesB _ (by decide)) 22 rfl (by decide) #[.int .u8 0, .int .u8 3, .int .u8 0, .int .u8 0, .int .u8 0, .int .u8 1, .int .u8 0, .int .u8 0, .int .u8 0, .int .u8 8, .int .u8 0, .int .u8 0, .int .u8 0, .int .u8 0, .int .u8 0, .int .u8 0, .int .u8 0, .int .u8 1, .int .u8 0, .int .u8 0, .int .u8 0, .int .u8 0] rfl _ rfl; have H2 := Lib.hid h2; clear h1 h2)
    | (go_at_call 15; refine (same_yes A1 _ 22 c1 22 _ _ sG _ H2.out.swap.ob.reads.2.1 H2.out.ob.reads.2.1 rfl (by decide)).mono ?_; rintro e w3 ⟨rfl, q3, hw3⟩; have h3 := H2.out.drop.drop.drewN q3; rw [← hw3] at h3; have H3 := Lib.hid h3; have hmk := sp_make w3; obtain ⟨gm, hgm, ⟨u0, hc0⟩, hf0, hs0⟩ := (h3.litB 5 (List.replicate 48 0) (sp_bytesB _ (by decide)) 48 rfl (by decide) sZc sZc_list _ rfl).storeObB (k := 5) rfl (by decide) 9 (by decide); obtain rfl : w3.heap.size = gm := (by simpa using hgm); clear h3 hw3 hgm hs0))
  clear HG H2
  go_upto_region 6 with fail
  obtain ⟨w5, hw5⟩ : ∃ w5, w5 = w3.alloc (.cells (sZc.setIfInBounds 5 (.int .u8 9)) 5) := ⟨_, rfl⟩
  rw [← hw5]
  have h5 : St Zf [ObA 5 (.slice (some ⟨w3.heap.size, 0, none⟩) 48 48) sSl] w w5 := by rw [hw5]; exact H3.out.litB 5 sSl (sp_bytesB _ (by decide)) 48 rfl (by decide) _ sZc_set _ rfl
  have HPN := Lib.hid (sp_nod w3.heap.size w5.heap.size w _ [] (h5.newBlk 3 #[.int .i64 4]))
  clear hmk hw5 h5 hc0 hf0
  go_upto_region 7 with (go_at_call 13; refine (HPN.out).mono ?_; rintro e w7 ⟨b7, c7, rfl, hc7, h7⟩; have H7 := Lib.hid h7; clear h7)
  have h8 := H7.out.litB 5 [1, 0, 0, 8, 1, 0, 0, 0, 0, 5] (sp_bytesB _ (by decide)) 10 rfl (by decide) #[.int .u8 1, .int .u8 0, .int .u8 0, .int .u8 8, .int .u8 1, .int .u8 0, .int .u8 0, .int .u8 0, .int .u8 0, .int .u8 5] rfl _ rfl
  have r8 := (h8.swap.ob.reads.2.1).cut (b := b7) (off := 0) rfl 0 10 (by decide) (by decide)
  rw [List.drop_zero, Nat.add_zero, show sN.take 10 = [1, 0, 0, 8, 1, 0, 0, 0, 0, 5] from by decide] at r8
  have HS1 := Lib.hid (same_yes (some ⟨b7, 0, none⟩) _ 10 c7 10 _ _ [1, 0, 0, 8, 1, 0, 0, 0, 0, 5] _ r8 h8.ob.reads.2.1 rfl (by decide))
  have H8 := Lib.hid h8.drop
  have i1 : (10 : Int) ≤ (c7 : Int) := by omega
  clear h8 r8 HPN
  go_upto_region 9 with (go_at_call 15; refine (HS1.out).mono ?_; rintro e w9 ⟨rfl, q9, hw9⟩; have h9 := H8.out.drewN q9; rw [← hw9] at h9; have H9 := Lib.hid h9; have d9 : w9.cell? ⟨b7, 22, none⟩ = some (.int .u8 9) := sp_d9 h9; clear h9 hw9)
  clear HS1 H8
  have h10 := H9.out.drop.litB 5 sRl (sp_bytesB _ (by decide)) 30 rfl (by decide) #[.int .u8 0, .int .u8 0, .int .u8 0, .int .u8 3, .int .u8 0, .int .u8 0, .int .u8 0, .int .u8 4, .int .u8 0, .int .u8 5, .int .u8 0, .int .u8 0, .int .u8 0, .int .u8 0, .int .u8 0, .int .u8 0, .int .u8 0, .int .u8 2, .int .u8 0, .int .u8 0, .int .u8 0, .int .u8 0, .int .u8 0, .int .u8 0, .int .u8 0, .int .u8 0, .int .u8 0, .int .u8 0, .int .u8 0, .int .u8 7] rfl _ rfl
  have H10 := Lib.hid h10
  obtain ⟨j0, hj, hy0, hy1, hy2⟩ := info_parts u8_info
  clear d9 h10 i1 hc7
  go_upto_region 10 with (first
    | (at_builtin; refine wpList_append_zeros8 _ rfl _ _ 24 3 rfl 0 5 j0 .i64 .i64 Try.underlying24 Try.underlying3 hj hy0 hy1 hy2 _ sRl (by rfl) H10.out.ob 32 (by rfl) (by decide) (by decide) (Nat.zero_le _) ?_; intro v11 w11 hown11 hg11 hat11; have h11 := H10.out.grewOb hown11 hg11 hat11 (Nat.le_refl _); obtain ⟨A11, c11, rfl, -, -, -, -⟩ := hown11.form; have HR := Lib.hid (sp_rel A11 c11 w w11 [] h11); clear h11 hown11 hg11 hat11)
    | (go_at_call 23; refine (HR.out).mono ?_; rintro e w12 ⟨a, d, rfl, h12⟩; have H12 := Lib.hid h12; clear h12))
  have h13 := H12.out.newBlk 45 #[.bool true, .int .i64 3, .int .i64 4, .int .i64 (-1), .int .i64 (-1), .int .i64 1, .int .i64 (-1), .int .i64 5, .int .i64 6, .slice a 32 d]
  obtain ⟨w13, hw13⟩ : ∃ w13, w13 = w12.alloc (.cells #[.bool true, .int .i64 3, .int .i64 4, .int .i64 (-1), .int .i64 (-1), .int .i64 1, .int .i64 (-1), .int .i64 5, .int .i64 6, .slice a 32 d] 45) := ⟨_, rfl⟩
  rw [← hw13] at h13 ⊢
  obtain ⟨e0, e1, e2, e3, e4, e5, e6, e7, e8, e9⟩ := cellsrelT h13
  have H13 := Lib.hid h13
  clear h13 hw13 H12 H9
  go_wp2
  go_ret
  exact ⟨rfl, H13.out.bel⟩
end Go.Proofs.Ytmiiogailnjfpaa

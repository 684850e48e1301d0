/- The document's GetRel of version 2. Written by mkrdreft.py. -/
import Derived.Test.YtmiiogailnjfpaaRdGet
import Derived.Test.YtmiiogailnjfpaaRdRefRelT
import Derived.Test.YtmiiogailnjfpaaRcGroup
import Derived.Test.YtmiiogailnjfpaaStr
namespace Go.Proofs.Ytmiiogailnjfpaa
open Go.RowKit
set_option linter.unusedVariables false

theorem wrapI64T (n : Int) : IntKind.i64.wrap n = wrap64 n := by
  rw [wrap64_eq]
  simp only [IntKind.wrap, IntKind.bits, IntKind.signed, Bool.true_and, decide_eq_true_eq, show (2 : Int) ^ 64 = 18446744073709551616 from rfl, show (2 : Int) ^ (64 - 1) = 9223372036854775808 from rfl]
  split <;> omega
theorem St.name {S : Fp} {l : List Ass} {w0 w : World} (h : St S l w0 w) : ∃ W, w = W ∧ St S l w0 W := ⟨w, rfl, h⟩
/-- what the document's GetRel leaves -/
def RelTGet (y : RelC) (D : List Nat) (E : Int) (w : World) (e : Ending) (w' : World) : Prop :=
  ∃ (a : Option Addr) (b d : Nat) (S : List Nat), (E = 0 → S = D) ∧ e = .returned (.tuple #[if E = 0 then .agg #[.bool true, .int .i64 y.fr, .int .i64 y.to, .int .i64 y.fp, .int .i64 y.tp, .int .i64 y.fn, .int .i64 y.tn, .int .i64 y.ty, .int .i64 y.pr, .slice a b d] else .agg #[.bool false, .int .i64 0, .int .i64 0, .int .i64 0, .int .i64 0, .int .i64 0, .int .i64 0, .int .i64 0, .int .i64 0, .slice none 0 0], .int .i64 E]) ∧ St Zf [ObA 5 (.slice a b d) S] w w'

set_option maxRecDepth 100000 in
set_option maxHeartbeats 4000000 in
theorem refGetRelT_any (A : Option Addr) (cap B : Nat) (bs : List Nat) (w : World) (h : RB w B A bs) (hB : B ≤ w.heap.size) (hc : bs.length ≤ cap) (hm : cap ≤ maxLen) :
    Calls Try.prog 25 #[.slice A bs.length cap] w (RelTGet (linkC bs) (bs.drop 30) (refRelTGE bs) w) := by
  have h0 := ((St.start Zf w).newBlk 45 #[.bool false, .int .i64 0, .int .i64 0, .int .i64 0, .int .i64 0, .int .i64 0, .int .i64 0, .int .i64 0, .int .i64 0, .slice none 0 0]).newBlk 45 #[.bool false, .int .i64 0, .int .i64 0, .int .i64 0, .int .i64 0, .int .i64 0, .int .i64 0, .int .i64 0, .int .i64 0, .slice none 0 0]
  have e0 : (w.alloc (.cells #[.bool false, .int .i64 0, .int .i64 0, .int .i64 0, .int .i64 0, .int .i64 0, .int .i64 0, .int .i64 0, .int .i64 0, .slice none 0 0] 45)).heap.size = w.heap.size + 1 := by simp
  rw [e0] at h0
  obtain ⟨wo, hwo⟩ : ∃ wo, wo = (w.alloc (.cells #[.bool false, .int .i64 0, .int .i64 0, .int .i64 0, .int .i64 0, .int .i64 0, .int .i64 0, .int .i64 0, .int .i64 0, .slice none 0 0] 45)).alloc (.cells #[.bool false, .int .i64 0, .int .i64 0, .int .i64 0, .int .i64 0, .int .i64 0, .int .i64 0, .int .i64 0, .int .i64 0, .slice none 0 0] 45) := ⟨_, rfl⟩
  rw [← hwo] at h0
  have hi10 : (Try.prog.info? 45).map (·.size) = some 10 := by kernel_rfl
  have oz : (#[.bool false, .int .i64 0, .int .i64 0, .int .i64 0, .int .i64 0, .int .i64 0, .int .i64 0, .int .i64 0, .int .i64 0, .slice none 0 0] : Array Value).all (·.oneCell') = true := by rw [← Array.all_toList]; rfl
  have Hwo := Lib.hid hwo
  have H0 := Lib.hid h0
  unfold RelTGet refRelTGE
  by_cases hl : bs.length = 62
  · rw [if_pos hl]
    obtain ⟨b0, off, rfl, -, -⟩ := h.all (by omega)
    have hrr := h0.rb h hB
    have HL : Hid (Calls Try.prog 47 #[.slice (some ⟨b0, off, none⟩) 62 cap] wo _) := Lib.hid (by have := Link_any _ cap wo.heap.size bs wo (hrr.more (by have := h0.size; omega)) (Nat.le_refl _) hc hm (by omega); rw [hl] at this; exact this)
    have hby := h.1
    have hd : (bs.drop 30).length = 32 := by rw [List.length_drop]; omega
    have hcut := h.cut rfl 30 62 (by omega) (by omega)
    rw [show bs.take 62 = bs from List.take_of_length_le (by omega)] at hcut
    have l26 := atN_lt bs hby 26 4 (by omega) (by omega)
    have s26 : IntKind.i64.wrap (((atN bs 26 4 : Nat) : Int) - 1) = (linkC bs).pr := (wrapI64T _).trans (sub_one l26)
    have hP : ∀ (a : Option Addr) (d : Nat) (W : World), RB W W.heap.size a (bs.drop 30) → Calls Try.prog 22 #[.agg #[.bool true, .int .i64 (linkC bs).fr, .int .i64 (linkC bs).to, .int .i64 (linkC bs).fp, .int .i64 (linkC bs).tp, .int .i64 (linkC bs).fn, .int .i64 (linkC bs).tn, .int .i64 (linkC bs).ty, .int .i64 (linkC bs).pr, .slice a 32 d]] W (RefPut (refRelOk (linkC bs)) bs W) := fun a d W hW => by
      have := refPutRelT_any (linkC bs) a d _ (bs.drop 30) W hW (Nat.le_refl _)
      rw [relB_backT bs hby (by omega), hd] at this
      have e : relTok (linkC bs) (bs.drop 30) = refRelOk (linkC bs) := by unfold relTok; rw [hd]; simp
      rw [e] at this
      exact this
    unfold RefPut at hP
    obtain ⟨ok, hok⟩ : ∃ ok, ok = refRelOk (linkC bs) := ⟨_, rfl⟩
    rw [← hok] at hP ⊢
    obtain ⟨a26, h26⟩ : ∃ a, a = atN bs 26 4 := ⟨_, rfl⟩
    rw [← h26] at s26
    have HA : ∀ W, RB W B (some ⟨b0, off, none⟩) bs → Hid (Calls Try.prog 39 #[.slice (some ⟨b0, off, none⟩) 62 cap, .int .i64 26, .int .i64 4] W fun e w' => e = .returned (.int .i64 (a26 : Int)) ∧ W = w') := fun W hW => Lib.hid (by have := at15_any _ cap B bs 26 4 W hW hc hm (by omega) (by omega); rw [hl] at this; rw [h26]; exact this)
    have HCP : ∀ (l : List Ass) (W : World), Stable (Sep l) → St Zf l w W → Hid (Calls Try.prog 41 #[.slice (some ⟨b0, off + 30, none⟩) 32 (cap - 30)] W fun e w' => ∃ a d, e = .returned (.slice a 32 d) ∧ St Zf (ObA 5 (.slice a 32 d) (bs.drop 30) :: l) w w') := fun l W hst hW => Lib.hid (by
      have := Copy_any (some ⟨b0, off + 30, none⟩) (cap - 30) B (bs.drop 30) W (hW.rb hcut hB) (by have := hW.size; omega) (by omega)
      rw [hd] at this
      refine this.mono ?_
      rintro e w' ⟨v, rfl, ho, hb⟩
      have h1 := hW.newOb ho hb
      obtain ⟨a, d, rfl, -, -, -, -⟩ := ho.form
      rw [hd] at h1 ⊢
      exact ⟨a, d, rfl, h1⟩)
    have HS := fun (W : World) (l : List Ass) (hs : St Zf l w W) => hs.rb h hB
    have i1 : (62 : Int) ≤ (cap : Int) := by omega
    have i2 : cap ≠ 30 := by omega
    have i3 : 30 ≠ cap := by omega
    have i4 : 30 < cap := by omega
    have i5 : (30 : Int) ≤ (cap : Int) := by omega
    rw [hl]
    obtain ⟨z0, hz0⟩ : ∃ z, z = (linkC bs).fr := ⟨_, rfl⟩
    obtain ⟨z1, hz1⟩ : ∃ z, z = (linkC bs).to := ⟨_, rfl⟩
    obtain ⟨z2, hz2⟩ : ∃ z, z = (linkC bs).fp := ⟨_, rfl⟩
    obtain ⟨z3, hz3⟩ : ∃ z, z = (linkC bs).tp := ⟨_, rfl⟩
    obtain ⟨z4, hz4⟩ : ∃ z, z = (linkC bs).fn := ⟨_, rfl⟩
    obtain ⟨z5, hz5⟩ : ∃ z, z = (linkC bs).tn := ⟨_, rfl⟩
    obtain ⟨z6, hz6⟩ : ∃ z, z = (linkC bs).ty := ⟨_, rfl⟩
    obtain ⟨z7, hz7⟩ : ∃ z, z = (linkC bs).pr := ⟨_, rfl⟩
    rw [← hz0, ← hz1, ← hz2, ← hz3, ← hz4, ← hz5, ← hz6] at HL
    rw [← hz7] at s26
    rw [← hz0, ← hz1, ← hz2, ← hz3, ← hz4, ← hz5, ← hz6, ← hz7] at hP ⊢
    have HLEN := Lib.hid hl
    clear hok h26 hrr l26 hz0 hz1 hz2 hz3 hz4 hz5 hz6 hz7 h0 hwo e0 hcut
    have hdr : ∀ {W : World} {l : List Ass} [Stable (Sep l)], St Zf l w W → St Zf l w W.drew := fun h => h.drew
    have HD := Lib.hid hd
    have HH := Lib.hid h
    have HHC := Lib.hid hc
    clear hl hd h hc
    cases ok
    · simp only [Bool.false_eq_true, if_false] at hP
      rw [if_neg (by decide : ¬ (false = true))]
      have HP := fun a d W hW => Lib.hid (hP a d W hW)
      clear hP
      go_enter Try.func25, Try.ntmps25
      go_upto_region 2 with fail
      rw [← Hwo.out]
      go_upto_region 5 with (go_at_call 47; refine (HL.out).mono ?_; rintro e w3 ⟨rfl, hb3⟩; have h4 := Lib.hid ((H0.out.below hb3).newBlk 43 #[.bool true, .int .i64 z0, .int .i64 z1, .int .i64 z2, .int .i64 z3, .int .i64 z4, .int .i64 z5]); clear hb3)
      obtain ⟨w4, hw4⟩ : ∃ w4, w4 = w3.alloc (.cells #[.bool true, .int .i64 z0, .int .i64 z1, .int .i64 z2, .int .i64 z3, .int .i64 z4, .int .i64 z5] 43) := ⟨_, rfl⟩
      have hne1 : w3.heap.size ≠ w4.heap.size := by rw [hw4]; simp
      have hne2 : w4.heap.size ≠ w3.heap.size := fun h => hne1 h.symm
      rw [← hw4] at h4 ⊢
      obtain ⟨d0, d1, d2, d3, d4, d5, d6⟩ := cellsgroup h4.out
      have qA := hdr (h4.out.newBlk 45 #[.bool false, .int .i64 0, .int .i64 0, .int .i64 0, .int .i64 0, .int .i64 0, .int .i64 0, .int .i64 0, .int .i64 0, .slice none 0 0])
      have qC := hdr h4.out
      have qB := qC.newBlk 45 #[.bool false, .int .i64 0, .int .i64 0, .int .i64 0, .int .i64 0, .int .i64 0, .int .i64 0, .int .i64 0, .int .i64 0, .slice none 0 0]
      have aA := HA _ (HS _ _ qA)
      have aC := HA w4.drew (HS w4.drew _ qC)
      have cA := HCP _ _ inferInstance qA
      have cB := HCP _ _ inferInstance qB
      have cC := HCP _ _ inferInstance qC
      clear hw4 qA qB qC HA HCP
      go_region_held3 (fun w' => w'.cell? ⟨w3.heap.size, 0, none⟩ = some (.bool true) ∧ w'.cell? ⟨w3.heap.size, 1, none⟩ = some (.int .i64 z0) ∧ w'.cell? ⟨w3.heap.size, 2, none⟩ = some (.int .i64 z1) ∧ w'.cell? ⟨w3.heap.size, 3, none⟩ = some (.int .i64 z2) ∧ w'.cell? ⟨w3.heap.size, 4, none⟩ = some (.int .i64 z3) ∧ w'.cell? ⟨w3.heap.size, 5, none⟩ = some (.int .i64 z4) ∧ w'.cell? ⟨w3.heap.size, 6, none⟩ = some (.int .i64 z5)) (go_keep)
        ((first
          | (go_at_call 39; with_reducible refine (aA.out).mono ?_; rintro e w5 ⟨rfl, rfl⟩)
          | (go_at_call 39; with_reducible refine (aC.out).mono ?_; rintro e w5 ⟨rfl, rfl⟩)
          | (go_at_call 41; with_reducible refine (cA.out).mono ?_; rintro e w6 ⟨a, d, rfl, h6⟩; obtain ⟨_, _, _, _, _, _, _⟩ := cellsgroup h6.bring2; obtain ⟨_, _, _, _, _, _, _, _, _, _⟩ := cellsrelT h6.swap; obtain ⟨_, _, _, _, _, _, _, _, _, _⟩ := frozrelT h6.swap)
          | (go_at_call 41; with_reducible refine (cB.out).mono ?_; rintro e w6 ⟨a, d, rfl, h6⟩; obtain ⟨_, _, _, _, _, _, _⟩ := cellsgroup h6.bring2; obtain ⟨_, _, _, _, _, _, _, _, _, _⟩ := cellsrelT h6.swap; obtain ⟨_, _, _, _, _, _, _, _, _, _⟩ := frozrelT h6.swap)
          | (go_at_call 41; with_reducible refine (cC.out).mono ?_; rintro e w6 ⟨a, d, rfl, h6⟩; obtain ⟨_, _, _, _, _, _, _⟩ := cellsgroup h6.swap)))
      all_goals first
        | (have h7 := ((((((((((h6.swap.setBlk 0 (.bool true)).setBlk 1 (.int .i64 z0)).setBlk 2 (.int .i64 z1)).setBlk 3 (.int .i64 z2)).setBlk 4 (.int .i64 z3)).setBlk 5 (.int .i64 z4)).setBlk 6 (.int .i64 z5)).setBlk 7 (.int .i64 z6)).setBlk 8 (.int .i64 z7)).setBlk 9 (.slice a 32 d))
           simp only [List.setIfInBounds_toArray, List.set_cons_zero, List.set_cons_succ] at h7
           obtain ⟨w7, hw7, h7⟩ := h7.name
           rw [hw7]
           obtain ⟨N7, hN7⟩ : ∃ n, n = w4.heap.size := ⟨_, rfl⟩
           rw [← hN7] at h7 ⊢)
        | (have h7 := h6.newBlk 45 #[.bool true, .int .i64 z0, .int .i64 z1, .int .i64 z2, .int .i64 z3, .int .i64 z4, .int .i64 z5, .int .i64 z6, .int .i64 z7, .slice a 32 d]
           obtain ⟨w7, hw7, h7⟩ := h7.name
           rw [hw7]
           obtain ⟨N7, hN7⟩ : ∃ n, n = w6.heap.size := ⟨_, rfl⟩
           rw [← hN7] at h7 ⊢)
      all_goals
        have H7 := Lib.hid h7
        have r7 := h7.blk
        have HPX := HP a d w7 h7.swap.ob.reads.2.1
        clear h7 h6 hw7 hN7 d0 d1 d2 d3 d4 d5 d6 aA aC cA cB cC hne1 hne2
        go_upto_region 7 with (first
          | (refine wpList_load_row rfl 45 _ rfl N7 rfl 45 #[.bool true, .int .i64 z0, .int .i64 z1, .int .i64 z2, .int .i64 z3, .int .i64 z4, .int .i64 z5, .int .i64 z6, .int .i64 z7, .slice a 32 d] (0, 0) _ r7 Try.underlying45 rfl hi10 ?_)
          | (go_at_call 22; refine (HPX.out).mono ?_; rintro e w8 ⟨v8, rfl, ho8, hb8⟩; have h8 := Lib.hid (H7.out.newOb ho8 hb8); obtain ⟨A8, c8, rfl, -, -, hr8, -⟩ := ho8.form; clear ho8 hb8))
        have rb8 := HS w8 _ h8.out
        have r9 := h8.out.bring5.blk
        have r8 := h8.out.bring4.blk
        have H9 := Lib.hid (h8.out.bring5.setRow #[.bool false, .int .i64 0, .int .i64 0, .int .i64 0, .int .i64 0, .int .i64 0, .int .i64 0, .int .i64 0, .int .i64 0, .slice none 0 0])
        clear rb8 r7 hr8
        go_wp2_with (first
          | (refine wpList_load_row rfl 45 _ rfl (w.heap.size + 1) rfl 45 #[.bool false, .int .i64 0, .int .i64 0, .int .i64 0, .int .i64 0, .int .i64 0, .int .i64 0, .int .i64 0, .int .i64 0, .slice none 0 0] (0, 0) _ r8 Try.underlying45 rfl hi10 ?_)
          | (refine wpList_store_row rfl 45 _ _ rfl w.heap.size #[.bool false, .int .i64 0, .int .i64 0, .int .i64 0, .int .i64 0, .int .i64 0, .int .i64 0, .int .i64 0, .int .i64 0, .slice none 0 0] rfl rfl 45 #[.bool false, .int .i64 0, .int .i64 0, .int .i64 0, .int .i64 0, .int .i64 0, .int .i64 0, .int .i64 0, .int .i64 0, .slice none 0 0] r9 hi10 rfl oz ?_))
        refine bodyPost_ret (results_row_tmp rfl _ _ w.heap.size 45 #[.bool false, .int .i64 0, .int .i64 0, .int .i64 0, .int .i64 0, .int .i64 0, .int .i64 0, .int .i64 0, .int .i64 0, .slice none 0 0] _ rfl H9.out.blk Try.underlying45 rfl hi10) rfl ?_
        first
          | exact ⟨rfl, a, 32, d, bs.drop 30, H9.out.drop.drop.drop.swap.drop.swap.drop⟩
          | exact ⟨a, 32, d, bs.drop 30, fun _ => rfl, rfl, H9.out.drop.drop.drop.swap.drop.swap.drop⟩
    · simp only [if_true] at hP
      simp only [if_true]
      have HP := fun a d W hW => Lib.hid (hP a d W hW)
      clear hP
      go_enter Try.func25, Try.ntmps25
      go_upto_region 2 with fail
      rw [← Hwo.out]
      go_upto_region 5 with (go_at_call 47; refine (HL.out).mono ?_; rintro e w3 ⟨rfl, hb3⟩; have h4 := Lib.hid ((H0.out.below hb3).newBlk 43 #[.bool true, .int .i64 z0, .int .i64 z1, .int .i64 z2, .int .i64 z3, .int .i64 z4, .int .i64 z5]); clear hb3)
      obtain ⟨w4, hw4⟩ : ∃ w4, w4 = w3.alloc (.cells #[.bool true, .int .i64 z0, .int .i64 z1, .int .i64 z2, .int .i64 z3, .int .i64 z4, .int .i64 z5] 43) := ⟨_, rfl⟩
      have hne1 : w3.heap.size ≠ w4.heap.size := by rw [hw4]; simp
      have hne2 : w4.heap.size ≠ w3.heap.size := fun h => hne1 h.symm
      rw [← hw4] at h4 ⊢
      obtain ⟨d0, d1, d2, d3, d4, d5, d6⟩ := cellsgroup h4.out
      have qA := hdr (h4.out.newBlk 45 #[.bool false, .int .i64 0, .int .i64 0, .int .i64 0, .int .i64 0, .int .i64 0, .int .i64 0, .int .i64 0, .int .i64 0, .slice none 0 0])
      have qC := hdr h4.out
      have qB := qC.newBlk 45 #[.bool false, .int .i64 0, .int .i64 0, .int .i64 0, .int .i64 0, .int .i64 0, .int .i64 0, .int .i64 0, .int .i64 0, .slice none 0 0]
      have aA := HA _ (HS _ _ qA)
      have aC := HA w4.drew (HS w4.drew _ qC)
      have cA := HCP _ _ inferInstance qA
      have cB := HCP _ _ inferInstance qB
      have cC := HCP _ _ inferInstance qC
      clear hw4 qA qB qC HA HCP
      go_region_held3 (fun w' => w'.cell? ⟨w3.heap.size, 0, none⟩ = some (.bool true) ∧ w'.cell? ⟨w3.heap.size, 1, none⟩ = some (.int .i64 z0) ∧ w'.cell? ⟨w3.heap.size, 2, none⟩ = some (.int .i64 z1) ∧ w'.cell? ⟨w3.heap.size, 3, none⟩ = some (.int .i64 z2) ∧ w'.cell? ⟨w3.heap.size, 4, none⟩ = some (.int .i64 z3) ∧ w'.cell? ⟨w3.heap.size, 5, none⟩ = some (.int .i64 z4) ∧ w'.cell? ⟨w3.heap.size, 6, none⟩ = some (.int .i64 z5)) (go_keep)
        ((first
          | (go_at_call 39; with_reducible refine (aA.out).mono ?_; rintro e w5 ⟨rfl, rfl⟩)
          | (go_at_call 39; with_reducible refine (aC.out).mono ?_; rintro e w5 ⟨rfl, rfl⟩)
          | (go_at_call 41; with_reducible refine (cA.out).mono ?_; rintro e w6 ⟨a, d, rfl, h6⟩; obtain ⟨_, _, _, _, _, _, _⟩ := cellsgroup h6.bring2; obtain ⟨_, _, _, _, _, _, _, _, _, _⟩ := cellsrelT h6.swap; obtain ⟨_, _, _, _, _, _, _, _, _, _⟩ := frozrelT h6.swap)
          | (go_at_call 41; with_reducible refine (cB.out).mono ?_; rintro e w6 ⟨a, d, rfl, h6⟩; obtain ⟨_, _, _, _, _, _, _⟩ := cellsgroup h6.bring2; obtain ⟨_, _, _, _, _, _, _, _, _, _⟩ := cellsrelT h6.swap; obtain ⟨_, _, _, _, _, _, _, _, _, _⟩ := frozrelT h6.swap)
          | (go_at_call 41; with_reducible refine (cC.out).mono ?_; rintro e w6 ⟨a, d, rfl, h6⟩; obtain ⟨_, _, _, _, _, _, _⟩ := cellsgroup h6.swap)))
      all_goals first
        | (have h7 := ((((((((((h6.swap.setBlk 0 (.bool true)).setBlk 1 (.int .i64 z0)).setBlk 2 (.int .i64 z1)).setBlk 3 (.int .i64 z2)).setBlk 4 (.int .i64 z3)).setBlk 5 (.int .i64 z4)).setBlk 6 (.int .i64 z5)).setBlk 7 (.int .i64 z6)).setBlk 8 (.int .i64 z7)).setBlk 9 (.slice a 32 d))
           simp only [List.setIfInBounds_toArray, List.set_cons_zero, List.set_cons_succ] at h7
           obtain ⟨w7, hw7, h7⟩ := h7.name
           rw [hw7]
           obtain ⟨N7, hN7⟩ : ∃ n, n = w4.heap.size := ⟨_, rfl⟩
           rw [← hN7] at h7 ⊢)
        | (have h7 := h6.newBlk 45 #[.bool true, .int .i64 z0, .int .i64 z1, .int .i64 z2, .int .i64 z3, .int .i64 z4, .int .i64 z5, .int .i64 z6, .int .i64 z7, .slice a 32 d]
           obtain ⟨w7, hw7, h7⟩ := h7.name
           rw [hw7]
           obtain ⟨N7, hN7⟩ : ∃ n, n = w6.heap.size := ⟨_, rfl⟩
           rw [← hN7] at h7 ⊢)
      all_goals
        have H7 := Lib.hid h7
        have r7 := h7.blk
        have HPX := HP a d w7 h7.swap.ob.reads.2.1
        clear h7 h6 hw7 hN7 d0 d1 d2 d3 d4 d5 d6 aA aC cA cB cC hne1 hne2
        go_upto_region 7 with (first
          | (refine wpList_load_row rfl 45 _ rfl N7 rfl 45 #[.bool true, .int .i64 z0, .int .i64 z1, .int .i64 z2, .int .i64 z3, .int .i64 z4, .int .i64 z5, .int .i64 z6, .int .i64 z7, .slice a 32 d] (0, 0) _ r7 Try.underlying45 rfl hi10 ?_)
          | (go_at_call 22; refine (HPX.out).mono ?_; rintro e w8 ⟨v8, rfl, ho8, hb8⟩; have h8 := Lib.hid (H7.out.newOb ho8 hb8); obtain ⟨A8, c8, rfl, -, -, hr8, -⟩ := ho8.form; clear ho8 hb8))
        have rb8 := HS w8 _ h8.out
        have r9 := h8.out.bring5.blk
        have q1 := run_bytes_str (P := Try.prog) w8 24 9 5 c8 Try.underlying24 Try.underlying5 Try.underlying9 hr8
        have q2 := run_bytes_str (P := Try.prog) w8 24 9 5 cap Try.underlying24 Try.underlying5 Try.underlying9 rb8
        rw [HLEN.out] at q1 q2 ⊢
        have r8 := h8.out.swap.blk
        have H9 := Lib.hid (h8.out.bring5.setRow #[.bool true, .int .i64 z0, .int .i64 z1, .int .i64 z2, .int .i64 z3, .int .i64 z4, .int .i64 z5, .int .i64 z6, .int .i64 z7, .slice a 32 d])
        clear rb8 r7 hr8
        go_wp2_with (first
          | (refine wpList_load_row rfl 45 _ rfl N7 rfl 45 #[.bool true, .int .i64 z0, .int .i64 z1, .int .i64 z2, .int .i64 z3, .int .i64 z4, .int .i64 z5, .int .i64 z6, .int .i64 z7, .slice a 32 d] (0, 0) _ r8 Try.underlying45 rfl hi10 ?_)
          | (refine wpList_store_row rfl 45 _ _ rfl w.heap.size #[.bool true, .int .i64 z0, .int .i64 z1, .int .i64 z2, .int .i64 z3, .int .i64 z4, .int .i64 z5, .int .i64 z6, .int .i64 z7, .slice a 32 d] rfl rfl 45 #[.bool false, .int .i64 0, .int .i64 0, .int .i64 0, .int .i64 0, .int .i64 0, .int .i64 0, .int .i64 0, .int .i64 0, .slice none 0 0] r9 hi10 rfl (by rw [← Array.all_toList]; rfl) ?_))
        refine bodyPost_ret (results_row_tmp rfl _ _ w.heap.size 45 #[.bool true, .int .i64 z0, .int .i64 z1, .int .i64 z2, .int .i64 z3, .int .i64 z4, .int .i64 z5, .int .i64 z6, .int .i64 z7, .slice a 32 d] _ rfl H9.out.blk Try.underlying45 rfl hi10) rfl ?_
        exact ⟨a, 32, d, bs.drop 30, fun _ => rfl, rfl, H9.out.drop.drop.drop.swap.drop.swap.drop⟩
  · rw [if_neg hl]
    have hl' : ((bs.length : Int) != 62) = true := by rw [bne_iff_ne]; omega
    have hb1 := h0.blk
    have hb2 := h0.swap.blk
    have H9 := Lib.hid (h0.swap.setRow #[.bool false, .int .i64 0, .int .i64 0, .int .i64 0, .int .i64 0, .int .i64 0, .int .i64 0, .int .i64 0, .int .i64 0, .slice none 0 0])
    clear hl hwo e0 h0
    go_enter Try.func25, Try.ntmps25
    go_upto_region 2 with fail
    rw [← Hwo.out]
    go_wp2_with (first
      | (refine wpList_load_row rfl 45 _ rfl (w.heap.size + 1) rfl 45 #[.bool false, .int .i64 0, .int .i64 0, .int .i64 0, .int .i64 0, .int .i64 0, .int .i64 0, .int .i64 0, .int .i64 0, .slice none 0 0] (0, 0) _ hb1 Try.underlying45 rfl hi10 ?_)
      | (refine wpList_store_row rfl 45 _ _ rfl w.heap.size #[.bool false, .int .i64 0, .int .i64 0, .int .i64 0, .int .i64 0, .int .i64 0, .int .i64 0, .int .i64 0, .int .i64 0, .slice none 0 0] rfl rfl 45 #[.bool false, .int .i64 0, .int .i64 0, .int .i64 0, .int .i64 0, .int .i64 0, .int .i64 0, .int .i64 0, .int .i64 0, .slice none 0 0] hb2 hi10 rfl oz ?_))
    refine bodyPost_ret (results_row_tmp rfl _ _ w.heap.size 45 #[.bool false, .int .i64 0, .int .i64 0, .int .i64 0, .int .i64 0, .int .i64 0, .int .i64 0, .int .i64 0, .int .i64 0, .slice none 0 0] _ rfl H9.out.blk Try.underlying45 rfl hi10) rfl ?_
    first
      | exact ⟨rfl, none, 0, 0, [], H9.out.drop.drop.nilOb _⟩
      | exact ⟨none, 0, 0, [], fun h => absurd h (by decide), rfl, H9.out.drop.drop.nilOb _⟩
end Go.Proofs.Ytmiiogailnjfpaa

/- The document's GetNode of version 2. Written by mkrdrefng.py. -/
import Derived.Test.YtmiiogailnjfpaaRdGet
import Derived.Test.YtmiiogailnjfpaaRcLabD
import Derived.Test.YtmiiogailnjfpaaRdRefNodT
import Derived.Test.YtmiiogailnjfpaaRdPureNodB
import Derived.Test.YtmiiogailnjfpaaRdSameRel
namespace Go.Proofs.Ytmiiogailnjfpaa
open Go.RowKit
set_option linter.unusedVariables false

theorem wrapI64N (n : Int) : IntKind.i64.wrap n = wrap64 n := by
  rw [wrap64_eq]
  simp only [IntKind.wrap, IntKind.bits, IntKind.signed, Bool.true_and, decide_eq_true_eq, show (2 : Int) ^ 64 = 18446744073709551616 from rfl, show (2 : Int) ^ (64 - 1) = 9223372036854775808 from rfl]
  split <;> omega
theorem St.nameN {S : Fp} {l : List Ass} {w0 w : World} (h : St S l w0 w) : ∃ W, w = W ∧ St S l w0 W := ⟨w, rfl, h⟩
/-- what the document's GetNode leaves -/
def NodTGet (y : NodC) (D : List Int) (S : List Nat) (E : Int) (w : World) (e : Ending) (w' : World) : Prop :=
  ∃ (a5 : Option Addr) (n5 d5 : Nat) (a : Option Addr) (b d : Nat), (E = 0 → n5 = D.length ∧ b = S.length ∧ D.length ≤ d5 ∧ d5 ≤ maxLen ∧ St Zf [ObA 5 (.slice a b d) S, OlA ivl 3 (.slice a5 n5 d5) D] w w') ∧ e = .returned (.tuple #[if E = 0 then .agg #[.bool y.d, .int .i64 y.f, .int .i64 y.o, .slice a5 n5 d5, .slice a b d] else .agg #[.bool false, .int .i64 0, .int .i64 0, .slice none 0 0, .slice none 0 0], .int .i64 E]) ∧ Below w.heap.size w w'

set_option maxRecDepth 100000 in
set_option maxHeartbeats 4000000 in
theorem refGetNodT_any (A : Option Addr) (cap B : Nat) (bs : List Nat) (w : World) (h : RB w B A bs) (hB : B ≤ w.heap.size) (hc : bs.length ≤ cap) (hm : cap ≤ maxLen) :
    Calls Try.prog 19 #[.slice A bs.length cap] w (NodTGet (nodC bs) (firstP (nodQb bs)) (bs.drop 17) (refNodTGE bs) w) := by
  have h0 := ((St.start Zf w).newBlk 26 #[.bool false, .int .i64 0, .int .i64 0, .slice none 0 0, .slice none 0 0]).newBlk 26 #[.bool false, .int .i64 0, .int .i64 0, .slice none 0 0, .slice none 0 0]
  have e0 : (w.alloc (.cells #[.bool false, .int .i64 0, .int .i64 0, .slice none 0 0, .slice none 0 0] 26)).heap.size = w.heap.size + 1 := by simp
  rw [e0] at h0
  obtain ⟨wo, hwo⟩ : ∃ wo, wo = (w.alloc (.cells #[.bool false, .int .i64 0, .int .i64 0, .slice none 0 0, .slice none 0 0] 26)).alloc (.cells #[.bool false, .int .i64 0, .int .i64 0, .slice none 0 0, .slice none 0 0] 26) := ⟨_, rfl⟩
  rw [← hwo] at h0
  have hi5 : (Try.prog.info? 26).map (·.size) = some 5 := by kernel_rfl
  have oz : (#[.bool false, .int .i64 0, .int .i64 0, .slice none 0 0, .slice none 0 0] : Array Value).all (·.oneCell') = true := by rw [← Array.all_toList]; rfl
  have Hwo := Lib.hid hwo
  have H0 := Lib.hid h0
  unfold NodTGet refNodTGE
  by_cases hl : bs.length = 65
  · rw [if_pos hl]
    obtain ⟨b0, off, rfl, -, -⟩ := h.all (by omega)
    have hby := h.1
    obtain ⟨q1, q2⟩ := nodQb_ok bs hby hl
    have hd : (bs.drop 17).length = 48 := by rw [List.length_drop]; omega
    have hcut := h.cut rfl 17 65 (by omega) (by omega)
    rw [show bs.take 65 = bs from List.take_of_length_le (by omega)] at hcut
    have hcutQ : RB w B (some ⟨b0, off + 9, none⟩) (nodQb bs) := h.cut rfl 9 17 (by omega) (by omega)
    have l1 := atN_lt bs hby 1 4 (by omega) (by omega)
    have l2 := atN_lt bs hby 5 4 (by omega) (by omega)
    have s1 : IntKind.i64.wrap (((atN bs 1 4 : Nat) : Int) - 1) = (nodC bs).f := (wrapI64N _).trans (sub_one l1)
    have s2 : IntKind.i64.wrap (((atN bs 5 4 : Nat) : Int) - 1) = (nodC bs).o := (wrapI64N _).trans (sub_one l2)
    obtain ⟨D, hD⟩ : ∃ D, D = firstP (nodQb bs) := ⟨_, rfl⟩
    obtain ⟨ok, hok⟩ : ∃ ok, ok = nodOkB bs := ⟨_, rfl⟩
    obtain ⟨c, hcd⟩ : ∃ c, c = refNodB (nodC bs) D ++ bs.drop 17 := ⟨_, rfl⟩
    obtain ⟨pk, hpk⟩ : ∃ p, p = refNodTok (nodC bs) D (bs.drop 17) := ⟨_, rfl⟩
    have hkk : (pk && decide (c = bs)) = ok := by rw [hpk, hcd, hok, hD]; exact nodOkB_eq bs hby hl
    have hP : ∀ (a5 : Option Addr) (d5 : Nat) (a : Option Addr) (d : Nat) (W : World), RL ivl W W.heap.size a5 D → D.length ≤ d5 → d5 ≤ maxLen → RB W W.heap.size a (bs.drop 17) → Calls Try.prog 14 #[.agg #[.bool (nodC bs).d, .int .i64 (nodC bs).f, .int .i64 (nodC bs).o, .slice a5 D.length d5, .slice a 48 d]] W (RefPut pk c W) := fun a5 d5 a d W hW h5 h6 hW2 => by
      have := refPutNodT_any (nodC bs) a5 d5 _ D a d _ (bs.drop 17) W hW (Nat.le_refl _) h5 h6 hW2 (Nat.le_refl _)
      rw [hd, ← hpk, ← hcd] at this
      exact this
    unfold RefPut at hP
    obtain ⟨t1, ht1⟩ : ∃ t : Int, t = ((atN bs 1 4 : Nat) : Int) := ⟨_, rfl⟩
    obtain ⟨t2, ht2⟩ : ∃ t : Int, t = ((atN bs 5 4 : Nat) : Int) := ⟨_, rfl⟩
    rw [← ht1] at s1
    rw [← ht2] at s2
    have HA1 : ∀ W, RB W B (some ⟨b0, off, none⟩) bs → Hid (Calls Try.prog 39 #[.slice (some ⟨b0, off, none⟩) 65 cap, .int .i64 1, .int .i64 4] W fun e w' => e = .returned (.int .i64 t1) ∧ W = w') := fun W hW => Lib.hid (by have := at15_any _ cap B bs 1 4 W hW hc hm (by omega) (by omega); rw [hl] at this; rw [ht1]; exact this)
    have HA2 : ∀ W, RB W B (some ⟨b0, off, none⟩) bs → Hid (Calls Try.prog 39 #[.slice (some ⟨b0, off, none⟩) 65 cap, .int .i64 5, .int .i64 4] W fun e w' => e = .returned (.int .i64 t2) ∧ W = w') := fun W hW => Lib.hid (by have := at15_any _ cap B bs 5 4 W hW hc hm (by omega) (by omega); rw [hl] at this; rw [ht2]; exact this)
    have HLB : ∀ (l : List Ass) (W : World), Stable (Sep l) → St Zf l w W → Hid (Calls Try.prog 40 #[.slice (some ⟨b0, off + 9, none⟩) 8 (cap - 9)] W fun e w' => ∃ a5 d5, e = .returned (.slice a5 D.length d5) ∧ Hid (D.length ≤ d5 ∧ d5 ≤ maxLen) ∧ St Zf (OlA ivl 3 (.slice a5 D.length d5) D :: l) w w') := fun l W hst hW => Lib.hid (by
      have := LabelsD_any hW (some ⟨b0, off + 9, none⟩) (cap - 9) B (nodQb bs) hcutQ hB (by omega)
      rw [q2, ← hD] at this
      refine this.mono ?_
      rintro e w' ⟨a, d, rfl, h1, h2, h3⟩
      exact ⟨a, d, rfl, Lib.hid ⟨h1, h2⟩, h3⟩)
    have HCP : ∀ (l : List Ass) (W : World), Stable (Sep l) → St Zf l w W → Hid (Calls Try.prog 41 #[.slice (some ⟨b0, off + 17, none⟩) 48 (cap - 17)] W fun e w' => ∃ a d, e = .returned (.slice a 48 d) ∧ St Zf (ObA 5 (.slice a 48 d) (bs.drop 17) :: l) w w') := fun l W hst hW => Lib.hid (by
      have := Copy_any (some ⟨b0, off + 17, none⟩) (cap - 17) B (bs.drop 17) W (hW.rb hcut hB) (by have := hW.size; omega) (by omega)
      rw [hd] at this
      refine this.mono ?_
      rintro e w' ⟨v, rfl, ho, hb⟩
      have h1 := hW.newOb ho hb
      obtain ⟨a, d, rfl, -, -, -, -⟩ := ho.form
      rw [hd] at h1 ⊢
      exact ⟨a, d, rfl, h1⟩)
    have HS := fun (W : World) (l : List Ass) (hs : St Zf l w W) => hs.rb h hB
    have HN0 := fun (W : World) (l : List Ass) (hs : St Zf l w W) => (show W.cell? ⟨b0, off, none⟩ = some (.int .u8 (nth bs 0 : Nat)) from by
      obtain ⟨b', off', hA, _, hcc⟩ := (hs.rb h hB).at_ (show 0 < bs.length by omega)
      cases hA
      simpa using hcc)
    obtain ⟨u0, hu0⟩ : ∃ u : Int, u = (nth bs 0 : Nat) := ⟨_, rfl⟩
    rw [← hu0] at HN0
    obtain ⟨dd, hdd⟩ : ∃ b, b = (nodC bs).d := ⟨_, rfl⟩
    have hne : (u0 != 0) = dd := by
      rw [hdd, hu0]
      show _ = decide (nth bs 0 ≠ 0)
      by_cases h0 : nth bs 0 = 0
      · rw [h0]; rfl
      · rw [decide_eq_true h0, bne_iff_ne]; omega
    obtain ⟨zf, hzf⟩ : ∃ z, z = (nodC bs).f := ⟨_, rfl⟩
    obtain ⟨zo, hzo⟩ : ∃ z, z = (nodC bs).o := ⟨_, rfl⟩
    rw [← hzf] at s1
    rw [← hzo] at s2
    rw [← hdd, ← hzf, ← hzo] at hP ⊢
    rw [← hD]
    have i1 : (65 : Int) ≤ (cap : Int) := by omega
    have i2 : (17 : Int) ≤ (cap : Int) := by omega
    have i3 : (9 : Int) ≤ (cap : Int) := by omega
    have i4 : cap ≠ 17 := by omega
    have i5 : 17 ≠ cap := by omega
    have i6 : 17 < cap := by omega
    have i7 : cap ≠ 9 := by omega
    have i8 : 9 ≠ cap := by omega
    have i9 : 9 < cap := by omega
    rw [hl]
    have HLEN := Lib.hid hl
    have hdr : ∀ {W : World} {l : List Ass} [Stable (Sep l)], St Zf l w W → St Zf l w W.drew := fun h => h.drew
    have HD := Lib.hid hd
    have HKK := Lib.hid hkk
    have HBY := Lib.hid hby
    have hne0 : ∀ W : World, w.heap.size ≤ W.heap.size → ¬ (b0 = W.heap.size) := fun W hW he => by
      have := (h.all (by omega : 0 < bs.length))
      obtain ⟨b', off', hA, hlt, -⟩ := this
      cases hA
      omega
    rw [← hok]
    have qA := hdr (h0.newBlk 26 #[.bool false, .int .i64 0, .int .i64 0, .slice none 0 0, .slice none 0 0])
    have qC := hdr h0
    have qB := qC.newBlk 26 #[.bool false, .int .i64 0, .int .i64 0, .slice none 0 0, .slice none 0 0]
    have aA1 := HA1 _ (HS _ _ qA)
    have aA2 := HA2 _ (HS _ _ qA)
    have aC1 := HA1 wo.drew (HS wo.drew _ qC)
    have aC2 := HA2 wo.drew (HS wo.drew _ qC)
    have aB2 := HA2 _ (HS _ _ qB)
    have bA := HLB _ _ inferInstance qA
    have bB := HLB _ _ inferInstance qB
    have bC := HLB _ _ inferInstance qC
    have n0 := HN0 wo _ h0
    have nE := hne0 wo h0.size
    have nE2 : b0 ≠ wo.heap.size := nE
    have nE3 : wo.heap.size ≠ b0 := fun h => nE h.symm
    have HNE : Hid (∀ W : World, w.heap.size ≤ W.heap.size → b0 ≠ W.heap.size ∧ W.heap.size ≠ b0 ∧ ¬ (b0 = W.heap.size)) := Lib.hid fun W hW => ⟨hne0 W hW, fun h => hne0 W hW h.symm, hne0 W hW⟩
    have HN0 := Lib.hid HN0
    have HP := fun a5 d5 a d W h1 h2 h3 h4 => Lib.hid (hP a5 d5 a d W h1 h2 h3 h4)
    clear hP
    clear hl hd h hc h0 hwo e0 hcut hcutQ hby q1 q2 l1 l2 hpk hcd hok hkk hD ht1 ht2 hu0 hdd hzf hzo qA qB qC HA1 HA2 HLB hne0
    suffices HH : ∀ Pst : Ending → World → Prop, Hid (ok = false → ∀ w', Below w.heap.size w w' → Pst (.returned (.tuple #[.agg #[.bool false, .int .i64 0, .int .i64 0, .slice none 0 0, .slice none 0 0], .int .i64 41])) w') → Hid (ok = true → ∀ (a5 : Option Addr) (d5 : Nat) (a : Option Addr) (d : Nat) (w' : World), Hid (D.length ≤ d5 ∧ d5 ≤ maxLen) → St Zf [ObA 5 (.slice a 48 d) (bs.drop 17), OlA ivl 3 (.slice a5 D.length d5) D] w w' → Pst (.returned (.tuple #[.agg #[.bool dd, .int .i64 zf, .int .i64 zo, .slice a5 D.length d5, .slice a 48 d], .int .i64 0])) w') → Calls Try.prog 19 #[.slice (some ⟨b0, off, none⟩) 65 cap] w Pst from HH _ (Lib.hid (fun h w' hb => by
        rw [h]
        exact ⟨none, 0, 0, none, 0, 0, fun h => absurd h (by decide), rfl, hb⟩)) (Lib.hid (fun h a5 d5 a d w' hdd hst => by
        rw [h]
        exact ⟨a5, D.length, d5, a, 48, d, fun _ => ⟨rfl, HD.out.symm, hdd.out.1, hdd.out.2, hst⟩, rfl, hst.bel⟩))
    intro Pst P1 P2
    go_enter Try.func19, Try.ntmps19
    go_upto_region 2 with fail
    rw [← Hwo.out]
    go_upto_region 4 with fail
    go_region_held3 (fun w' => w'.cell? ⟨b0, off, none⟩ = some (.int .u8 u0)) (go_keep)
      ((first
        | (go_at_call 39; with_reducible refine (aA1.out).mono ?_; rintro e w3 ⟨rfl, rfl⟩)
        | (go_at_call 39; with_reducible refine (aC1.out).mono ?_; rintro e w3 ⟨rfl, rfl⟩)
        | (go_at_call 39; with_reducible refine (aA2.out).mono ?_; rintro e w3 ⟨rfl, rfl⟩)
        | (go_at_call 39; with_reducible refine (aC2.out).mono ?_; rintro e w3 ⟨rfl, rfl⟩)
        | (go_at_call 39; with_reducible refine (aB2.out).mono ?_; rintro e w3 ⟨rfl, rfl⟩)
        | (go_at_call 40; with_reducible refine (bA.out).mono ?_; rintro e w5 ⟨a5, d5, rfl, Hd5, h5⟩; have h5 : St Zf (OlA ivl 3 (.slice a5 D.length d5) D :: BlkA wo.heap.size 26 #[.bool false, .int .i64 0, .int .i64 0, .slice none 0 0, .slice none 0 0] :: [BlkA (w.heap.size + 1) 26 #[.bool false, .int .i64 0, .int .i64 0, .slice none 0 0, .slice none 0 0], BlkA w.heap.size 26 #[.bool false, .int .i64 0, .int .i64 0, .slice none 0 0, .slice none 0 0]]) w w5 := h5; have := HN0.out w5 _ h5; have c5 := HCP _ _ inferInstance h5)
        | (go_at_call 40; with_reducible refine (bB.out).mono ?_; rintro e w5 ⟨a5, d5, rfl, Hd5, h5⟩; have h5 : St Zf (OlA ivl 3 (.slice a5 D.length d5) D :: BlkA wo.heap.size 26 #[.bool false, .int .i64 0, .int .i64 0, .slice none 0 0, .slice none 0 0] :: [BlkA (w.heap.size + 1) 26 #[.bool false, .int .i64 0, .int .i64 0, .slice none 0 0, .slice none 0 0], BlkA w.heap.size 26 #[.bool false, .int .i64 0, .int .i64 0, .slice none 0 0, .slice none 0 0]]) w w5 := h5; have := HN0.out w5 _ h5; have c5 := HCP _ _ inferInstance h5)
        | (go_at_call 40; with_reducible refine (bC.out).mono ?_; rintro e w5 ⟨a5, d5, rfl, Hd5, h5⟩; have := HN0.out w5 _ h5; obtain ⟨nE5, nE6, nE7⟩ := HNE.out w5 h5.size; have c5 := HCP _ _ inferInstance h5; have c5n := HCP _ _ inferInstance (h5.newBlk 26 #[.bool false, .int .i64 0, .int .i64 0, .slice none 0 0, .slice none 0 0]))
        | (go_at_call 41; with_reducible refine (c5.out).mono ?_; rintro e w6 ⟨a, d, rfl, h6⟩; have := HN0.out w6 _ h6; (try (obtain ⟨_, _, _, _, _⟩ := cellsnodT h6.bring2; obtain ⟨_, _, _, _, _⟩ := froznodT h6.bring2)))
        | (go_at_call 41; with_reducible refine (c5n.out).mono ?_; rintro e w6 ⟨a, d, rfl, h6⟩; have := HN0.out w6 _ h6; obtain ⟨_, _, _, _, _⟩ := cellsnodT h6.swap; obtain ⟨_, _, _, _, _⟩ := froznodT h6.swap)))
    all_goals first
      | (have h7 := (((((h6.bring2.setBlk 0 (.bool dd)).setBlk 1 (.int .i64 zf)).setBlk 2 (.int .i64 zo)).setBlk 3 (.slice a5 D.length d5)).setBlk 4 (.slice a 48 d))
         simp only [List.setIfInBounds_toArray, List.set_cons_zero, List.set_cons_succ] at h7
         obtain ⟨w7, hw7, h7⟩ := h7.nameN
         rw [hw7]
         obtain ⟨N7, hN7⟩ : ∃ n, n = wo.heap.size := ⟨_, rfl⟩
         rw [← hN7] at h7 ⊢)
      | (have h7 := (((((h6.swap.setBlk 0 (.bool dd)).setBlk 1 (.int .i64 zf)).setBlk 2 (.int .i64 zo)).setBlk 3 (.slice a5 D.length d5)).setBlk 4 (.slice a 48 d))
         simp only [List.setIfInBounds_toArray, List.set_cons_zero, List.set_cons_succ] at h7
         obtain ⟨w7, hw7, h7⟩ := h7.nameN
         rw [hw7]
         obtain ⟨N7, hN7⟩ : ∃ n, n = w5.heap.size := ⟨_, rfl⟩
         rw [← hN7] at h7 ⊢)
      | (have h7 := h6.newBlk 26 #[.bool dd, .int .i64 zf, .int .i64 zo, .slice a5 D.length d5, .slice a 48 d]
         obtain ⟨w7, hw7, h7⟩ := h7.nameN
         rw [hw7]
         obtain ⟨N7, hN7⟩ : ∃ n, n = w6.heap.size := ⟨_, rfl⟩
         rw [← hN7] at h7 ⊢)
    all_goals
      have H7 : Hid (St Zf [BlkA N7 26 #[.bool dd, .int .i64 zf, .int .i64 zo, .slice a5 D.length d5, .slice a 48 d], ObA 5 (.slice a 48 d) (bs.drop 17), OlA ivl 3 (.slice a5 D.length d5) D, BlkA (w.heap.size + 1) 26 #[.bool false, .int .i64 0, .int .i64 0, .slice none 0 0, .slice none 0 0], BlkA w.heap.size 26 #[.bool false, .int .i64 0, .int .i64 0, .slice none 0 0, .slice none 0 0]] w w7) := Lib.hid h7
      have r7 := h7.blk
      have HPX := HP a5 d5 a d w7 h7.bring2.ol.reads.2.1 Hd5.out.1 Hd5.out.2 h7.swap.ob.reads.2.1
      clear h7 h6 h5 hw7 hN7
      go_upto_region 6 with (first
        | (refine wpList_load_row rfl 26 _ rfl N7 rfl 26 #[.bool dd, .int .i64 zf, .int .i64 zo, .slice a5 D.length d5, .slice a 48 d] (0, 0) _ r7 Try.underlying26 rfl hi5 ?_)
        | (go_at_call 14; refine (HPX.out).mono ?_; rintro e w8 ⟨v8, rfl, ho8, hb8⟩; have h8 := Lib.hid (H7.out.newOb ho8 hb8); obtain ⟨A8, c8, rfl, -, -, hr8, -⟩ := ho8.form; clear ho8 hb8))
      have rb8 := HS w8 _ h8.out
      have r8y := h8.out.swap.blk
      have r8n := h8.out.bring4.blk
      have r9 := h8.out.bring5.blk
      have HY9 := Lib.hid (h8.out.bring5.setRow #[.bool dd, .int .i64 zf, .int .i64 zo, .slice a5 D.length d5, .slice a 48 d])
      have HN9 := Lib.hid (h8.out.bring5.setRow #[.bool false, .int .i64 0, .int .i64 0, .slice none 0 0, .slice none 0 0])
      have q2 := bytes_str_n cap 65 HLEN.out rb8
      clear rb8 r7
      cases pk
      · have hok : ok = false := by simpa using HKK.out.symm
        clear hr8 q2
        go_wp2_with (first
          | (refine wpList_load_row rfl 26 _ rfl (w.heap.size + 1) rfl 26 #[.bool false, .int .i64 0, .int .i64 0, .slice none 0 0, .slice none 0 0] (0, 0) _ r8n Try.underlying26 rfl hi5 ?_)
          | (refine wpList_store_row rfl 26 _ _ rfl w.heap.size #[.bool false, .int .i64 0, .int .i64 0, .slice none 0 0, .slice none 0 0] rfl rfl 26 #[.bool false, .int .i64 0, .int .i64 0, .slice none 0 0, .slice none 0 0] r9 hi5 rfl oz ?_))
        refine bodyPost_ret (results_row_tmp rfl _ _ w.heap.size 26 #[.bool false, .int .i64 0, .int .i64 0, .slice none 0 0, .slice none 0 0] _ rfl HN9.out.blk Try.underlying26 rfl hi5) rfl ?_
        exact P1.out hok _ HN9.out.bel
      · have q1 := run_bytes_str (P := Try.prog) w8 24 9 5 c8 Try.underlying24 Try.underlying5 Try.underlying9 hr8
        by_cases hcb : c = bs
        · have hok : ok = true := by
            have := HKK.out
            rw [decide_eq_true hcb] at this
            simpa using this.symm
          have hse : ((strOf c).toList == (strOf bs).toList) = true := by rw [hcb]; simp
          have hsn : ((strOf c).toList != (strOf bs).toList) = false := by rw [hcb]; simp
          clear hcb hr8
          simp only [if_true] at q1 ⊢
          go_wp2_with (first
            | (refine wpList_load_row rfl 26 _ rfl N7 rfl 26 #[.bool dd, .int .i64 zf, .int .i64 zo, .slice a5 D.length d5, .slice a 48 d] (0, 0) _ r8y Try.underlying26 rfl hi5 ?_)
            | (refine wpList_store_row rfl 26 _ _ rfl w.heap.size #[.bool dd, .int .i64 zf, .int .i64 zo, .slice a5 D.length d5, .slice a 48 d] rfl rfl 26 #[.bool false, .int .i64 0, .int .i64 0, .slice none 0 0, .slice none 0 0] r9 hi5 rfl (by rw [← Array.all_toList]; rfl) ?_))
          refine bodyPost_ret (results_row_tmp rfl _ _ w.heap.size 26 #[.bool dd, .int .i64 zf, .int .i64 zo, .slice a5 D.length d5, .slice a 48 d] _ rfl HY9.out.blk Try.underlying26 rfl hi5) rfl ?_
          exact P2.out hok a5 d5 a d _ Hd5 ((HY9.out.drop.drop.drop.bring2).drop)
        · have hok : ok = false := by
            have := HKK.out
            rw [decide_eq_false hcb] at this
            simpa using this.symm
          simp only [if_true] at q1 hr8 ⊢
          have hse : ((strOf c).toList == (strOf bs).toList) = false := by
            rw [Bool.eq_false_iff]
            intro hh
            exact hcb ((strOf_inj hr8.1 HBY.out).1 (str_eq_of_list (by simpa using hh)))
          have hsn : ((strOf c).toList != (strOf bs).toList) = true := by rw [bne, hse]; rfl
          clear hcb hr8
          go_wp2_with (first
            | (refine wpList_load_row rfl 26 _ rfl (w.heap.size + 1) rfl 26 #[.bool false, .int .i64 0, .int .i64 0, .slice none 0 0, .slice none 0 0] (0, 0) _ r8n Try.underlying26 rfl hi5 ?_)
            | (refine wpList_store_row rfl 26 _ _ rfl w.heap.size #[.bool false, .int .i64 0, .int .i64 0, .slice none 0 0, .slice none 0 0] rfl rfl 26 #[.bool false, .int .i64 0, .int .i64 0, .slice none 0 0, .slice none 0 0] r9 hi5 rfl oz ?_))
          refine bodyPost_ret (results_row_tmp rfl _ _ w.heap.size 26 #[.bool false, .int .i64 0, .int .i64 0, .slice none 0 0, .slice none 0 0] _ rfl HN9.out.blk Try.underlying26 rfl hi5) rfl ?_
          exact P1.out hok _ HN9.out.bel
  · rw [if_neg hl]
    have hl' : ((bs.length : Int) != 65) = true := by rw [bne_iff_ne]; omega
    have hb1 := h0.blk
    have hb2 := h0.swap.blk
    have H9 := Lib.hid (h0.swap.setRow #[.bool false, .int .i64 0, .int .i64 0, .slice none 0 0, .slice none 0 0])
    suffices HH : ∀ Pst : Ending → World → Prop, Hid (∀ w', Below w.heap.size w w' → Pst (.returned (.tuple #[.agg #[.bool false, .int .i64 0, .int .i64 0, .slice none 0 0, .slice none 0 0], .int .i64 4])) w') → Calls Try.prog 19 #[.slice A bs.length cap] w Pst from HH _ (Lib.hid (fun w' hb => ⟨none, 0, 0, none, 0, 0, fun h => absurd h (by decide), rfl, hb⟩))
    intro Pst P1
    clear hl hwo e0 h0
    go_enter Try.func19, Try.ntmps19
    go_upto_region 2 with fail
    rw [← Hwo.out]
    go_wp2_with (first
      | (refine wpList_load_row rfl 26 _ rfl (w.heap.size + 1) rfl 26 #[.bool false, .int .i64 0, .int .i64 0, .slice none 0 0, .slice none 0 0] (0, 0) _ hb1 Try.underlying26 rfl hi5 ?_)
      | (refine wpList_store_row rfl 26 _ _ rfl w.heap.size #[.bool false, .int .i64 0, .int .i64 0, .slice none 0 0, .slice none 0 0] rfl rfl 26 #[.bool false, .int .i64 0, .int .i64 0, .slice none 0 0, .slice none 0 0] hb2 hi5 rfl oz ?_))
    refine bodyPost_ret (results_row_tmp rfl _ _ w.heap.size 26 #[.bool false, .int .i64 0, .int .i64 0, .slice none 0 0, .slice none 0 0] _ rfl H9.out.blk Try.underlying26 rfl hi5) rfl ?_
    exact P1.out _ H9.out.bel
end Go.Proofs.Ytmiiogailnjfpaa

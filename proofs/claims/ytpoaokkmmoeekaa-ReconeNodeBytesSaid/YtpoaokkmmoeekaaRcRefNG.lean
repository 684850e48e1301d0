/- The document's GetNode of version 1. Written by mkrcrefng.py. -/
import Derived.Test.YtpoaokkmmoeekaaRcLabD
import Derived.Test.YtpoaokkmmoeekaaRcRefN3
import Derived.Test.YtpoaokkmmoeekaaRcPureGetNode
import Derived.Test.YtpoaokkmmoeekaaSameS
namespace Go.Proofs.Ytpoaokkmmoeekaa
open Go.RowKit
set_option linter.unusedVariables false

theorem wrapI64N (n : Int) : IntKind.i64.wrap n = wrap64 n := by
  rw [wrap64_eq]
  simp only [IntKind.wrap, IntKind.bits, IntKind.signed, Bool.true_and, decide_eq_true_eq, show (2 : Int) ^ 64 = 18446744073709551616 from rfl, show (2 : Int) ^ (64 - 1) = 9223372036854775808 from rfl]
  split <;> omega
theorem St.nameN {S : Fp} {l : List Ass} {w0 w : World} (h : St S l w0 w) : ∃ W, w = W ∧ St S l w0 W := ⟨w, rfl, h⟩
theorem bytes_str_n1 {w : World} {B : Nat} {A : Option Addr} {bs : List Nat} (c n : Nat) (hn : bs.length = n) (h : RB w B A bs) : (convert 26 9 (.slice A n c)).run Try.prog w = .ok (.string (strOf bs)) w := by
  subst hn
  exact run_bytes_str w 26 9 5 c Try.underlying26 Try.underlying5 Try.underlying9 h
/-- what the document's GetNode leaves -/
def Nod1Get (r p : Int) (D : List Int) (E : Int) (w : World) (e : Ending) (w' : World) : Prop :=
  ∃ (a5 : Option Addr) (n5 d5 : Nat), (E = 0 → n5 = D.length ∧ D.length ≤ d5 ∧ d5 ≤ maxLen ∧ St Zf [OlA ivl 3 (.slice a5 n5 d5) D] w w') ∧ e = .returned (.tuple #[if E = 0 then .agg #[.int .i64 r, .int .i64 p, .slice a5 n5 d5] else .agg #[.int .i64 0, .int .i64 0, .slice none 0 0], .int .i64 E]) ∧ Below w.heap.size w w'

set_option maxRecDepth 100000 in
set_option maxHeartbeats 4000000 in
theorem refGetNode_any (A : Option Addr) (cap B : Nat) (bs : List Nat) (w : World) (h : RB w B A bs) (hB : B ≤ w.heap.size) (hc : bs.length ≤ cap) (hm : cap ≤ maxLen) :
    Calls Try.prog 17 #[.slice A bs.length cap] w (Nod1Get (nod1R bs) (nod1P bs) (firstP (bs.drop 8)) (refNod1GE bs) w) := by
  have h0 := ((St.start Zf w).newBlk 24 #[.int .i64 0, .int .i64 0, .slice none 0 0]).newBlk 24 #[.int .i64 0, .int .i64 0, .slice none 0 0]
  have e0 : (w.alloc (.cells #[.int .i64 0, .int .i64 0, .slice none 0 0] 24)).heap.size = w.heap.size + 1 := by simp
  rw [e0] at h0
  obtain ⟨wo, hwo⟩ : ∃ wo, wo = (w.alloc (.cells #[.int .i64 0, .int .i64 0, .slice none 0 0] 24)).alloc (.cells #[.int .i64 0, .int .i64 0, .slice none 0 0] 24) := ⟨_, rfl⟩
  rw [← hwo] at h0
  have hi3 : (Try.prog.info? 24).map (·.size) = some 3 := by kernel_rfl
  have oz : (#[.int .i64 0, .int .i64 0, .slice none 0 0] : Array Value).all (·.oneCell') = true := by rw [← Array.all_toList]; rfl
  have Hwo := Lib.hid hwo
  have H0 := Lib.hid h0
  unfold Nod1Get refNod1GE
  by_cases hl : bs.length = 16
  · rw [if_pos hl]
    obtain ⟨b0, off, rfl, -, -⟩ := h.all (by omega)
    have hby := h.1
    have q2 : (bs.drop 8).length = 8 := by rw [List.length_drop]; omega
    have hcut := h.cut rfl 8 16 (by omega) (by omega)
    rw [show bs.take 16 = bs from List.take_of_length_le (by omega)] at hcut
    have l1 := atN_lt bs hby 0 4 (by omega) (by omega)
    have l2 := atN_lt bs hby 4 4 (by omega) (by omega)
    have s1 : IntKind.i64.wrap (((atN bs 0 4 : Nat) : Int) - 1) = nod1R bs := (wrapI64N _).trans (sub_one l1)
    have s2 : IntKind.i64.wrap (((atN bs 4 4 : Nat) : Int) - 1) = nod1P bs := (wrapI64N _).trans (sub_one l2)
    obtain ⟨D, hD⟩ : ∃ D, D = firstP (bs.drop 8) := ⟨_, rfl⟩
    obtain ⟨ok, hok⟩ : ∃ ok, ok = nod1Ok bs := ⟨_, rfl⟩
    obtain ⟨c, hcd⟩ : ∃ c, c = refNodeB (nod1R bs) (nod1P bs) D := ⟨_, rfl⟩
    obtain ⟨pk, hpk⟩ : ∃ p, p = refNodeOk (nod1R bs) (nod1P bs) D := ⟨_, rfl⟩
    have hkk : (pk && decide (c = bs)) = ok := by rw [hpk, hcd, hok, hD]; exact nod1Ok_eq bs hby hl
    have hP : ∀ (a5 : Option Addr) (d5 : Nat) (W : World), RL ivl W W.heap.size a5 D → D.length ≤ d5 → d5 ≤ maxLen → Calls Try.prog 12 #[.agg #[.int .i64 (nod1R bs), .int .i64 (nod1P bs), .slice a5 D.length d5]] W (RefPut pk c W) := fun a5 d5 W hW h5 h6 => by
      have := refPutNode_any a5 d5 _ (nod1R bs) (nod1P bs) D W hW (Nat.le_refl _) h5 h6
      rw [← hpk, ← hcd] at this
      exact this
    unfold RefPut at hP
    obtain ⟨t1, ht1⟩ : ∃ t : Int, t = ((atN bs 0 4 : Nat) : Int) := ⟨_, rfl⟩
    obtain ⟨t2, ht2⟩ : ∃ t : Int, t = ((atN bs 4 4 : Nat) : Int) := ⟨_, rfl⟩
    rw [← ht1] at s1
    rw [← ht2] at s2
    have HA1 : ∀ W, RB W B (some ⟨b0, off, none⟩) bs → Hid (Calls Try.prog 35 #[.slice (some ⟨b0, off, none⟩) 16 cap, .int .i64 0, .int .i64 4] W fun e w' => e = .returned (.int .i64 t1) ∧ W = w') := fun W hW => Lib.hid (by have := at_any _ cap B bs 0 4 W hW hc hm (by omega) (by omega); rw [hl] at this; rw [ht1]; exact this)
    have HA2 : ∀ W, RB W B (some ⟨b0, off, none⟩) bs → Hid (Calls Try.prog 35 #[.slice (some ⟨b0, off, none⟩) 16 cap, .int .i64 4, .int .i64 4] W fun e w' => e = .returned (.int .i64 t2) ∧ W = w') := fun W hW => Lib.hid (by have := at_any _ cap B bs 4 4 W hW hc hm (by omega) (by omega); rw [hl] at this; rw [ht2]; exact this)
    have HLB : ∀ (l : List Ass) (W : World), Stable (Sep l) → St Zf l w W → Hid (Calls Try.prog 36 #[.slice (some ⟨b0, off + 8, none⟩) 8 (cap - 8)] W fun e w' => ∃ a5 d5, e = .returned (.slice a5 D.length d5) ∧ Hid (D.length ≤ d5 ∧ d5 ≤ maxLen) ∧ St Zf (OlA ivl 3 (.slice a5 D.length d5) D :: l) w w') := fun l W hst hW => Lib.hid (by
      have := LabelsD_any hW (some ⟨b0, off + 8, none⟩) (cap - 8) B (bs.drop 8) hcut hB (by omega)
      rw [q2, ← hD] at this
      refine this.mono ?_
      rintro e w' ⟨a, d, rfl, h1, h2, h3⟩
      exact ⟨a, d, rfl, Lib.hid ⟨h1, h2⟩, h3⟩)
    have HS := fun (W : World) (l : List Ass) (hs : St Zf l w W) => hs.rb h hB
    obtain ⟨zr, hzr⟩ : ∃ z, z = nod1R bs := ⟨_, rfl⟩
    obtain ⟨zp, hzp⟩ : ∃ z, z = nod1P bs := ⟨_, rfl⟩
    rw [← hzr] at s1
    rw [← hzp] at s2
    rw [← hzr, ← hzp] at hP ⊢
    rw [← hD]
    have i1 : (16 : Int) ≤ (cap : Int) := by omega
    have i3 : (8 : Int) ≤ (cap : Int) := by omega
    have i7 : cap ≠ 8 := by omega
    have i8 : 8 ≠ cap := by omega
    have i9 : 8 < cap := by omega
    rw [hl]
    have HLEN := Lib.hid hl
    have hdr : ∀ {W : World} {l : List Ass} [Stable (Sep l)], St Zf l w W → St Zf l w W.drew := fun h => h.drew
    have HKK := Lib.hid hkk
    have HBY := Lib.hid hby
    rw [← hok]
    have qA := hdr (h0.newBlk 24 #[.int .i64 0, .int .i64 0, .slice none 0 0])
    have qC := hdr h0
    have qB := qC.newBlk 24 #[.int .i64 0, .int .i64 0, .slice none 0 0]
    have aA1 := HA1 _ (HS _ _ qA)
    have aA2 := HA2 _ (HS _ _ qA)
    have aC1 := HA1 wo.drew (HS wo.drew _ qC)
    have aC2 := HA2 wo.drew (HS wo.drew _ qC)
    have aB2 := HA2 _ (HS _ _ qB)
    have bA := HLB _ _ inferInstance qA
    have bB := HLB _ _ inferInstance qB
    have bC := HLB _ _ inferInstance qC
    have HP := fun a5 d5 W h1 h2 h3 => Lib.hid (hP a5 d5 W h1 h2 h3)
    clear hP hl h hc h0 hwo e0 hcut hby q2 l1 l2 hpk hcd hok hkk hD ht1 ht2 hzr hzp qA qB qC HA1 HA2 HLB
    suffices HH : ∀ Pst : Ending → World → Prop, Hid (ok = false → ∀ w', Below w.heap.size w w' → Pst (.returned (.tuple #[.agg #[.int .i64 0, .int .i64 0, .slice none 0 0], .int .i64 41])) w') → Hid (ok = true → ∀ (a5 : Option Addr) (d5 : Nat) (w' : World), Hid (D.length ≤ d5 ∧ d5 ≤ maxLen) → St Zf [OlA ivl 3 (.slice a5 D.length d5) D] w w' → Pst (.returned (.tuple #[.agg #[.int .i64 zr, .int .i64 zp, .slice a5 D.length d5], .int .i64 0])) w') → Calls Try.prog 17 #[.slice (some ⟨b0, off, none⟩) 16 cap] w Pst from HH _ (Lib.hid (fun h w' hb => by
        rw [h]
        exact ⟨none, 0, 0, fun h => absurd h (by decide), rfl, hb⟩)) (Lib.hid (fun h a5 d5 w' hdd hst => by
        rw [h]
        exact ⟨a5, D.length, d5, fun _ => ⟨rfl, hdd.out.1, hdd.out.2, hst⟩, rfl, hst.bel⟩))
    intro Pst P1 P2
    go_enter Try.func17, Try.ntmps17
    go_upto_region 2 with fail
    rw [← Hwo.out]
    go_upto_region 4 with fail
    go_region_held3 (fun w' => True) (go_keep)
      ((first
        | (go_at_call 35; with_reducible refine (aA1.out).mono ?_; rintro e w3 ⟨rfl, rfl⟩)
        | (go_at_call 35; with_reducible refine (aC1.out).mono ?_; rintro e w3 ⟨rfl, rfl⟩)
        | (go_at_call 35; with_reducible refine (aA2.out).mono ?_; rintro e w3 ⟨rfl, rfl⟩)
        | (go_at_call 35; with_reducible refine (aC2.out).mono ?_; rintro e w3 ⟨rfl, rfl⟩)
        | (go_at_call 35; with_reducible refine (aB2.out).mono ?_; rintro e w3 ⟨rfl, rfl⟩)
        | (go_at_call 36; with_reducible refine (bA.out).mono ?_; rintro e w5 ⟨a5, d5, rfl, Hd5, h5⟩; obtain ⟨_, _, _⟩ := cells3 h5.swap; have _ := h5.swap.blk.frozen 0; have _ := h5.swap.blk.frozen 1; have _ := h5.swap.blk.frozen 2)
        | (go_at_call 36; with_reducible refine (bB.out).mono ?_; rintro e w5 ⟨a5, d5, rfl, Hd5, h5⟩; obtain ⟨_, _, _⟩ := cells3 h5.swap; have _ := h5.swap.blk.frozen 0; have _ := h5.swap.blk.frozen 1; have _ := h5.swap.blk.frozen 2)
        | (go_at_call 36; with_reducible refine (bC.out).mono ?_; rintro e w5 ⟨a5, d5, rfl, Hd5, h5⟩)))
    all_goals first
      | (have h7 := (((h5.swap.setBlk 0 (.int .i64 zr)).setBlk 1 (.int .i64 zp)).setBlk 2 (.slice a5 D.length d5))
         simp only [List.setIfInBounds_toArray, List.set_cons_zero, List.set_cons_succ] at h7
         obtain ⟨w7, hw7, h7⟩ := h7.nameN
         rw [hw7]
         obtain ⟨N7, hN7⟩ : ∃ n, n = wo.heap.size := ⟨_, rfl⟩
         rw [← hN7] at h7 ⊢)
      | (have h7 := h5.newBlk 24 #[.int .i64 zr, .int .i64 zp, .slice a5 D.length d5]
         obtain ⟨w7, hw7, h7⟩ := h7.nameN
         rw [hw7]
         obtain ⟨N7, hN7⟩ : ∃ n, n = w5.heap.size := ⟨_, rfl⟩
         rw [← hN7] at h7 ⊢)
    all_goals
      have H7 : Hid (St Zf [BlkA N7 24 #[.int .i64 zr, .int .i64 zp, .slice a5 D.length d5], OlA ivl 3 (.slice a5 D.length d5) D, BlkA (w.heap.size + 1) 24 #[.int .i64 0, .int .i64 0, .slice none 0 0], BlkA w.heap.size 24 #[.int .i64 0, .int .i64 0, .slice none 0 0]] w w7) := Lib.hid h7
      have r7 := h7.blk
      have HPX := HP a5 d5 w7 h7.swap.ol.reads.2.1 Hd5.out.1 Hd5.out.2
      clear h7 h5 hw7 hN7
      go_upto_region 6 with (first
        | (refine wpList_load_row rfl 24 _ rfl N7 rfl 24 #[.int .i64 zr, .int .i64 zp, .slice a5 D.length d5] (0, 0) _ r7 Try.underlying24 rfl hi3 ?_)
        | (go_at_call 12; refine (HPX.out).mono ?_; rintro e w8 ⟨v8, rfl, ho8, hb8⟩; have h8 := Lib.hid (H7.out.newOb ho8 hb8); obtain ⟨A8, c8, rfl, -, -, hr8, -⟩ := ho8.form; clear ho8 hb8))
      have rb8 := HS w8 _ h8.out
      have r8y := h8.out.swap.blk
      have r8n := h8.out.bring3.blk
      have r9 := h8.out.bring4.blk
      have HY9 := Lib.hid (h8.out.bring4.setRow #[.int .i64 zr, .int .i64 zp, .slice a5 D.length d5])
      have HN9 := Lib.hid (h8.out.bring4.setRow #[.int .i64 0, .int .i64 0, .slice none 0 0])
      have q2 := bytes_str_n1 cap 16 HLEN.out rb8
      clear rb8 r7
      cases pk
      · have hok : ok = false := by simpa using HKK.out.symm
        clear hr8 q2
        go_wp2_with (first
          | (refine wpList_load_row rfl 24 _ rfl (w.heap.size + 1) rfl 24 #[.int .i64 0, .int .i64 0, .slice none 0 0] (0, 0) _ r8n Try.underlying24 rfl hi3 ?_)
          | (refine wpList_store_row rfl 24 _ _ rfl w.heap.size #[.int .i64 0, .int .i64 0, .slice none 0 0] rfl rfl 24 #[.int .i64 0, .int .i64 0, .slice none 0 0] r9 hi3 rfl oz ?_))
        refine bodyPost_ret (results_row_tmp rfl _ _ w.heap.size 24 #[.int .i64 0, .int .i64 0, .slice none 0 0] _ rfl HN9.out.blk Try.underlying24 rfl hi3) rfl ?_
        exact P1.out hok _ HN9.out.bel
      · have q1 := run_bytes_str (P := Try.prog) w8 26 9 5 c8 Try.underlying26 Try.underlying5 Try.underlying9 hr8
        by_cases hcb : c = bs
        · have hok : ok = true := by
            have := HKK.out
            rw [decide_eq_true hcb] at this
            simpa using this.symm
          have hse : ((strOf c).toList == (strOf bs).toList) = true := by rw [hcb]; simp
          have hsn : ((strOf c).toList != (strOf bs).toList) = false := by rw [hcb]; simp
          clear hcb hr8
          simp only [if_true] at q1 ⊢
          go_wp2_with (first
            | (refine wpList_load_row rfl 24 _ rfl N7 rfl 24 #[.int .i64 zr, .int .i64 zp, .slice a5 D.length d5] (0, 0) _ r8y Try.underlying24 rfl hi3 ?_)
            | (refine wpList_store_row rfl 24 _ _ rfl w.heap.size #[.int .i64 zr, .int .i64 zp, .slice a5 D.length d5] rfl rfl 24 #[.int .i64 0, .int .i64 0, .slice none 0 0] r9 hi3 rfl (by rw [← Array.all_toList]; rfl) ?_))
          refine bodyPost_ret (results_row_tmp rfl _ _ w.heap.size 24 #[.int .i64 zr, .int .i64 zp, .slice a5 D.length d5] _ rfl HY9.out.blk Try.underlying24 rfl hi3) rfl ?_
          exact P2.out hok a5 d5 _ Hd5 ((HY9.out.drop.drop.drop.swap).drop)
        · have hok : ok = false := by
            have := HKK.out
            rw [decide_eq_false hcb] at this
            simpa using this.symm
          simp only [if_true] at q1 hr8 ⊢
          have hse : ((strOf c).toList == (strOf bs).toList) = false := by
            rw [Bool.eq_false_iff]
            intro hh
            exact hcb ((strOf_inj hr8.1 HBY.out).1 (str_eq_of_list (by simpa using hh)))
          have hsn : ((strOf c).toList != (strOf bs).toList) = true := by rw [bne, hse]; rfl
          clear hcb hr8
          go_wp2_with (first
            | (refine wpList_load_row rfl 24 _ rfl (w.heap.size + 1) rfl 24 #[.int .i64 0, .int .i64 0, .slice none 0 0] (0, 0) _ r8n Try.underlying24 rfl hi3 ?_)
            | (refine wpList_store_row rfl 24 _ _ rfl w.heap.size #[.int .i64 0, .int .i64 0, .slice none 0 0] rfl rfl 24 #[.int .i64 0, .int .i64 0, .slice none 0 0] r9 hi3 rfl oz ?_))
          refine bodyPost_ret (results_row_tmp rfl _ _ w.heap.size 24 #[.int .i64 0, .int .i64 0, .slice none 0 0] _ rfl HN9.out.blk Try.underlying24 rfl hi3) rfl ?_
          exact P1.out hok _ HN9.out.bel
  · rw [if_neg hl]
    have hl' : ((bs.length : Int) != 16) = true := by rw [bne_iff_ne]; omega
    have hb1 := h0.blk
    have hb2 := h0.swap.blk
    have H9 := Lib.hid (h0.swap.setRow #[.int .i64 0, .int .i64 0, .slice none 0 0])
    suffices HH : ∀ Pst : Ending → World → Prop, Hid (∀ w', Below w.heap.size w w' → Pst (.returned (.tuple #[.agg #[.int .i64 0, .int .i64 0, .slice none 0 0], .int .i64 4])) w') → Calls Try.prog 17 #[.slice A bs.length cap] w Pst from HH _ (Lib.hid (fun w' hb => ⟨none, 0, 0, fun h => absurd h (by decide), rfl, hb⟩))
    intro Pst P1
    clear hl hwo e0 h0
    go_enter Try.func17, Try.ntmps17
    go_upto_region 2 with fail
    rw [← Hwo.out]
    go_wp2_with (first
      | (refine wpList_load_row rfl 24 _ rfl (w.heap.size + 1) rfl 24 #[.int .i64 0, .int .i64 0, .slice none 0 0] (0, 0) _ hb1 Try.underlying24 rfl hi3 ?_)
      | (refine wpList_store_row rfl 24 _ _ rfl w.heap.size #[.int .i64 0, .int .i64 0, .slice none 0 0] rfl rfl 24 #[.int .i64 0, .int .i64 0, .slice none 0 0] hb2 hi3 rfl oz ?_))
    refine bodyPost_ret (results_row_tmp rfl _ _ w.heap.size 24 #[.int .i64 0, .int .i64 0, .slice none 0 0] _ rfl H9.out.blk Try.underlying24 rfl hi3) rfl ?_
    exact P1.out _ H9.out.bel
end Go.Proofs.Ytpoaokkmmoeekaa

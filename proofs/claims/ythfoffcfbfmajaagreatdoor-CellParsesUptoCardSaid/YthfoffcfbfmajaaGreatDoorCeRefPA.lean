/- cell: the document's letter, Num. -/
import Derived.Test.YthfoffcfbfmajaaGreatDoorCeFmtA
import Derived.Test.YthfoffcfbfmajaaGreatDoorNumRefB
import Derived.Test.YthfoffcfbfmajaaGreatDoorValRefA
import Derived.Test.YthfoffcfbfmajaaGreatDoorOm
import Derived.Laws.Concat
import Derived.Test.YthfoffcfbfmajaaGreatDoorCeParseA
import Derived.Deep.QuietTactic
import Derived.BigQuiet
import Derived.IntWalk
import Derived.Deep.RegionHeld3
namespace Go.Proofs.YthfoffcfbfmajaaGreatDoor
open Go.RowKit
set_option linter.unusedVariables false

def letB (k : Int) : Bs := if k = 1 then [98] else if k = 2 then [105] else if k = 3 then [102] else if k = 4 then [115] else if k = 5 then [98, 91, 93] else if k = 6 then [105, 91, 93] else if k = 7 then [102, 91, 93] else if k = 8 then [115, 91, 93] else []
theorem letB_beg {k : Int} (h : 1 ≤ k ∧ k ≤ 8) : letB k ++ [58] = begB k := by
  rcases kinds8 h.1 h.2 with rfl | rfl | rfl | rfl | rfl | rfl | rfl | rfl <;> rfl
set_option maxHeartbeats 1000000 in
theorem letter_lo (k : Int) (w : World) (h : 1 ≤ k ∧ k ≤ 4) : Calls Tryz.prog 19 #[.int .i64 k] w fun e w' => e = .returned (.string (mkS (letB k))) ∧ Below w.heap.size w w' := by
  have e1 : (⟨#[98, 105, 102, 115]⟩ : ByteArray).extract 0 1 = mkS (letB 1) := rfl
  have e2 : (⟨#[98, 105, 102, 115]⟩ : ByteArray).extract 1 2 = mkS (letB 2) := rfl
  have e3 : (⟨#[98, 105, 102, 115]⟩ : ByteArray).extract 2 3 = mkS (letB 3) := rfl
  have e4 : (⟨#[98, 105, 102, 115]⟩ : ByteArray).extract 3 4 = mkS (letB 4) := rfl
  rcases (show k = 1 ∨ k = 2 ∨ k = 3 ∨ k = 4 by omega) with rfl | rfl | rfl | rfl
  all_goals
    clear h
    go_enter Tryz.func19, Tryz.ntmps19
    go_wp2
    go_ret
    exact ⟨rfl, Below.refl _ _⟩
set_option maxHeartbeats 1000000 in
theorem letter_any (k : Int) (w : World) (h : 1 ≤ k ∧ k ≤ 8) : Calls Tryz.prog 19 #[.int .i64 k] w fun e w' => e = .returned (.string (mkS (letB k))) ∧ Below w.heap.size w w' := by
  by_cases h4 : k ≤ 4
  · exact letter_lo k w ⟨h.1, h4⟩
  · have HL := Lib.hid (letter_lo (k - 4) w ⟨by omega, by omega⟩)
    have hsz1 : ((mkS (letB (k - 4))).size : Int) ≤ 8388608 := by
      rcases (show k = 5 ∨ k = 6 ∨ k = 7 ∨ k = 8 by omega) with rfl | rfl | rfl | rfl <;> decide
    have hcat : mkS (letB (k - 4)) ++ (⟨#[91, 93]⟩ : ByteArray) = mkS (letB k) := by
      rcases (show k = 5 ∨ k = 6 ∨ k = 7 ∨ k = 8 by omega) with rfl | rfl | rfl | rfl <;> rfl
    generalize mkS (letB (k - 4)) = S1 at HL hsz1 hcat
    generalize mkS (letB k) = S2 at hcat ⊢
    have HCat := Lib.hid hcat
    have hno : ¬ (9223372036854775807 < S1.size + (⟨#[91, 93]⟩ : ByteArray).size) := by
      have : (⟨#[91, 93]⟩ : ByteArray).size = 2 := rfl
      omega
    clear hcat
    rcases (show k = 5 ∨ k = 6 ∨ k = 7 ∨ k = 8 by omega) with rfl | rfl | rfl | rfl
    all_goals
      clear h h4
      go_enter Tryz.func19, Tryz.ntmps19
      go_wp2_with fail
      refine HL.out.mono ?_
      rintro e w1 ⟨rfl, hb1⟩
      go_wp2
      go_ret
      exact ⟨by rw [HCat.out]; rfl, hb1⟩
set_option maxHeartbeats 1000000 in
theorem refNum_any (k n : Int) (w : World) (h0 : -9223372036854775808 ≤ n) (h1 : n ≤ 9223372036854775807) :
    Calls Tryz.prog 20 #[.int .i64 k, .int .i64 n] w fun e w' => e = .returned (.string (mkS (numF k n))) ∧ Below w.heap.size w w' := by
  by_cases h2 : k = 2
  · have HF : Hid (Calls Tryz.prog 32 #[.int .i64 n] w fun e w' => e = .returned (.string (mkS (numF k n))) ∧ Below w.heap.size w w') := Lib.hid (by
      unfold numF
      rw [if_pos h2]
      exact refFormatInt n w h0 h1)
    generalize mkS (numF k n) = S at HF ⊢
    subst h2
    clear h0 h1
    go_enter Tryz.func20, Tryz.ntmps20
    go_wp2_with fail
    refine HF.out.mono ?_
    rintro e w1 ⟨rfl, hb⟩
    go_wp2
    go_ret
    exact ⟨rfl, hb⟩
  · by_cases h3 : k = 3
    · have HF : Hid (Calls Tryz.prog 33 #[.int .u64 (IntKind.u64.wrap n)] w fun e w' => e = .returned (.string (mkS (numF k n))) ∧ Below w.heap.size w w') := Lib.hid (by
        unfold numF
        rw [if_neg h2, if_pos h3, wrap_bits]
        exact refFormatFloat (bitsOf n) w (bitsOf_lt n))
      generalize mkS (numF k n) = S at HF ⊢
      subst h3
      clear h0 h1 h2
      go_enter Tryz.func20, Tryz.ntmps20
      go_wp2_with fail
      refine HF.out.mono ?_
      rintro e w1 ⟨rfl, hb⟩
      go_wp2
      go_ret
      exact ⟨rfl, hb⟩
    · have HN : Hid (mkS (numF k n) = if n = 0 then ⟨#[102, 97, 108, 115, 101]⟩ else ⟨#[116, 114, 117, 101]⟩) := Lib.hid (by
        unfold numF
        rw [if_neg h2, if_neg h3]
        split <;> rfl)
      have hk2 : (k == 2) = false := beq_eq_false_iff_ne.2 h2
      have hk3 : (k == 3) = false := beq_eq_false_iff_ne.2 h3
      by_cases hn : n = 0
      · rw [if_pos hn] at HN
        rw [HN.out]
        subst hn
        clear h0 h1 HN
        go_enter Tryz.func20, Tryz.ntmps20
        go_wp2
        go_ret
        exact ⟨rfl, Below.refl _ _⟩
      · rw [if_neg hn] at HN
        rw [HN.out]
        have hn2 : (n == 0) = false := beq_eq_false_iff_ne.2 hn
        clear h0 h1 HN
        go_enter Tryz.func20, Tryz.ntmps20
        go_wp2
        go_ret
        exact ⟨rfl, Below.refl _ _⟩
end Go.Proofs.YthfoffcfbfmajaaGreatDoor

/- cell: the document's Print. -/
namespace Go.Proofs.YthfoffcfbfmajaaGreatDoor
open Go.RowKit
set_option linter.unusedVariables false

def nbC (l : Bs) : List Nat := l.map UInt8.toNat
theorem nbC_app (a b : Bs) : nbC (a ++ b) = nbC a ++ nbC b := by simp [nbC]
theorem nbC_len (a : Bs) : (nbC a).length = a.length := by simp [nbC]
theorem strBytes_mk (l : Bs) : strBytes (mkS l) = nbC l := rfl
theorem strBytes_lS (s : ByteArray) : strBytes s = nbC (lS s) := rfl
theorem strOf_nbC (l : Bs) : strOf (nbC l) = mkS l := by
  rw [← strBytes_mk, strOf_strBytes]
/-- what the document's Print answers -/
def RfP (v : Vv) (w : World) (e : Ending) (w' : World) : Prop := e = .returned (.tuple #[.string (mkS (printV v).1), .int .i64 (printV v).2]) ∧ Below w.heap.size w w'
theorem formsN_take (f : Int → Bs) {ns : List Int} {i : Nat} (h : i < ns.length) : formsN f (ns.take (i + 1)) = formsN f (ns.take i) ++ f (nthD ns i) ++ [59] := by
  rw [takeD_succ h, formsN_snoc]
  simp
set_option maxRecDepth 100000 in
set_option maxHeartbeats 1000000 in
theorem refPrint_no (v : Vv) (x : Value) (B : Nat) (w : World) (h : VR w B v x) (hB : B ≤ w.heap.size) (hc : chk v ≠ 0) : Calls Tryz.prog 12 #[x] w (RfP v w) := by
  unfold RfP
  rw [printV_no hc]
  obtain ⟨E, hE⟩ : ∃ E, E = chk v := ⟨_, rfl⟩
  have HC := Lib.hid fun w' h1 h2 => refCheck_any v x B w' h1 h2
  unfold Told at HC
  rw [← hE] at HC hc ⊢
  have hne : (E != 0) = true := by simpa using hc
  have hV := h
  obtain ⟨A, c, A', c', rfl, -, -, -⟩ := h
  obtain ⟨k, n, s, ns, ts⟩ := v
  unfold vagg at hV HC ⊢
  simp only at hV HC ⊢
  obtain ⟨wo, hwo⟩ : ∃ x, x = w.alloc (.cells #[.int .i64 k, .int .i64 n, .string s, .slice A ns.length c, .slice A' ts.length c'] 25) := ⟨_, rfl⟩
  have hb0 : Below w.heap.size w wo := by rw [hwo]; exact (Below.refl _ _).alloc (Nat.le_refl _) _
  have hV1 := Lib.hid (hV.below (hb0.mono hB))
  have hB1 : B ≤ wo.heap.size := by have := hb0.size; omega
  clear hV hc hE
  go_enter Tryz.func12, Tryz.ntmps12
  go_wp2_with fail
  rw [← hwo]
  clear hwo
  refine (HC.out wo hV1.out hB1).mono ?_
  rintro e w1 ⟨rfl, b1⟩
  have hb1 := hb0.trans (b1.mono hb0.size)
  clear b1 hb0
  go_wp2
  go_ret2
  exact ⟨rfl, hb1⟩
theorem conv_at (L1 : ByteArray) (w : World) : (convert 9 45 (.string (L1 ++ ⟨#[58]⟩))).run Tryz.prog w = .ok (.slice (some ⟨w.heap.size, 0, none⟩) (L1.size + 1) (grownCap w (L1.size + 1) 0 5)) (Lib.bytesWorld w 5 (L1 ++ ⟨#[58]⟩)) := by
  have h := Lib.run_convert_string_bytes (P := Tryz.prog) w 9 45 5 (L1 ++ ⟨#[58]⟩) Tryz.underlying9 Tryz.underlying45 Tryz.underlying5
  have e : (L1 ++ (⟨#[58]⟩ : ByteArray)).size = L1.size + 1 := by rw [ByteArray.size_append]; rfl
  rw [e] at h
  exact h
theorem conv_beg {L1 : ByteArray} {O : Bs} (h : L1 ++ (⟨#[58]⟩ : ByteArray) = mkS O) (hl : O.length ≤ 140737488355328) (w : World) : OM (Lib.bytesWorld w 5 (L1 ++ ⟨#[58]⟩)) w.heap.size 5 (.slice (some ⟨w.heap.size, 0, none⟩) (L1.size + 1) (grownCap w (L1.size + 1) 0 5)) (nbC O) := by
  have e : (L1 ++ (⟨#[58]⟩ : ByteArray)).size = L1.size + 1 := by rw [ByteArray.size_append]; rfl
  have h2 := OM.conv w 5 (L1 ++ ⟨#[58]⟩) (by rw [h, mkS_size]; simp only [maxLen]; omega)
  rw [e] at h2
  have h3 : strBytes (L1 ++ ⟨#[58]⟩) = nbC O := by rw [h]; rfl
  rw [h3] at h2
  exact h2
/-- the state at the loops: what is laid so far, the value's box -/
def PrSt (w : World) (o : Value) (O : Bs) (k n : Int) (s : ByteArray) (x y : Value) (wr : World) : Prop := St Zf [OmA 5 o (nbC O), BlkA w.heap.size 25 #[.int .i64 k, .int .i64 n, .string s, x, y]] w wr
theorem PrSt.form {w wr : World} {o : Value} {O : Bs} {k n : Int} {s : ByteArray} {x y : Value} (h : PrSt w o O k n s x y wr) : ∃ g c, o = .slice (some ⟨g, 0, none⟩) O.length c := by
  obtain ⟨g, c, e, _⟩ := (St.om h).form
  rw [nbC_len] at e
  exact ⟨g, c, e⟩
theorem PrSt.om {w wr : World} {o : Value} {O : Bs} {k n : Int} {s : ByteArray} {x y : Value} (h : PrSt w o O k n s x y wr) : OM wr 0 5 o (nbC O) := St.om h
theorem PrSt.str {w wr : World} {o : Value} {O : Bs} {k n : Int} {s : ByteArray} {x y : Value} (h : PrSt w o O k n s x y wr) : (convert 45 9 o).run Tryz.prog wr = .ok (.string (mkS O)) wr := by
  obtain ⟨g2, c2, he, -, -, hr⟩ := h.om.form
  rw [he]
  have := run_bytes_str (P := Tryz.prog) wr 45 9 5 c2 Tryz.underlying45 Tryz.underlying5 Tryz.underlying9 hr
  rw [this, strOf_nbC]
theorem PrSt.cells {w wr : World} {o : Value} {O : Bs} {k n : Int} {s : ByteArray} {x y : Value} (h : PrSt w o O k n s x y wr) : wr.cell? ⟨w.heap.size, 0, none⟩ = some (.int .i64 k) ∧ wr.cell? ⟨w.heap.size, 1, none⟩ = some (.int .i64 n) ∧ wr.cell? ⟨w.heap.size, 2, none⟩ = some (.string s) ∧ wr.cell? ⟨w.heap.size, 3, none⟩ = some x ∧ wr.cell? ⟨w.heap.size, 4, none⟩ = some y :=
  (blk_facts (St.swap h)).1
theorem PrSt.below {w wr w' : World} {o : Value} {O : Bs} {k n : Int} {s : ByteArray} {x y : Value} (h : PrSt w o O k n s x y wr) (hb : Below wr.heap.size wr w') : PrSt w o O k n s x y w' := St.below h hb
theorem PrSt.bel {w wr : World} {o : Value} {O : Bs} {k n : Int} {s : ByteArray} {x y : Value} (h : PrSt w o O k n s x y wr) : Below w.heap.size w wr := St.bel h
theorem PrSt.grew {w wr w' : World} {o o' : Value} {O O' : Bs} {bs : List Nat} {k n : Int} {s : ByteArray} {x y : Value} (h : PrSt w o O k n s x y wr) (ho : OM w' 0 5 o' bs) (hO : bs = nbC O') (hg : wr.grownBy w' o.ownBlock) {m : Nat} (ha : o'.ownBlock = o.ownBlock ∨ o'.ownBlock = some m) (hn : wr.heap.size ≤ m) : PrSt w o' O' k n s x y w' := by
  subst hO
  exact St.grewOm h ho hg ha hn
set_option maxRecDepth 100000 in
set_option maxHeartbeats 2000000 in
theorem refPrint_lo (v : Vv) (x : Value) (B : Nat) (w : World) (h : VR w B v x) (hB : B ≤ w.heap.size) (hc : chk v = 0) (hk : v.k < 4) : Calls Tryz.prog 12 #[x] w (RfP v w) := by
  unfold RfP
  rw [printV_ok hc]
  obtain ⟨i0, hi, hz0, hz1, hz2⟩ := info_parts u8_info
  have HC := Lib.hid fun w' h1 h2 => refCheck_any v x B w' h1 h2
  unfold Told at HC
  rw [hc] at HC
  have hfl := fmtV_len h.ok hc
  have hn1 := h.ok.n1
  have hn2 := h.ok.n2
  obtain ⟨⟨k1, k2⟩, ho, -, -⟩ := el_of hc
  obtain ⟨o1, o2, o3, o4⟩ := own_true ho
  have hV := h
  obtain ⟨A, c, A', c', rfl, -, -, -⟩ := h
  obtain ⟨k, n, s, ns, ts⟩ := v
  simp only at hk k1 k2 o2 o3 o4 hn1 hn2
  obtain rfl := o3 (.inl (by omega))
  obtain rfl := o4 (by omega)
  obtain rfl := empty_of (o2 (by omega))
  unfold vagg at hV HC ⊢
  simp only [List.length_nil] at hV HC ⊢
  rw [fmtV_lo hk] at hfl ⊢
  have HL := Lib.hid fun w => letter_any k w ⟨k1, k2⟩
  have HN := Lib.hid fun w => refNum_any k n w hn1 hn2
  have hsl : ((mkS (letB k)).size : Int) ≤ 8388608 := by
    rcases kinds8 k1 k2 with rfl | rfl | rfl | rfl | rfl | rfl | rfl | rfl <;> decide
  have hcat : mkS (letB k) ++ (⟨#[58]⟩ : ByteArray) = mkS (begB k) := by
    have := str_cat (letB k) [58]
    rw [letB_beg ⟨k1, k2⟩] at this
    exact this
  have hbl := begB_len k
  have HSX := Lib.hid (conv_beg hcat (by omega))
  generalize mkS (letB k) = L1 at HL hsl HSX
  have HCV : Hid (∀ w, (convert 9 45 (.string (L1 ++ ⟨#[58]⟩))).run Tryz.prog w = .ok (.slice (some ⟨w.heap.size, 0, none⟩) (L1.size + 1) (grownCap w (L1.size + 1) 0 5)) (Lib.bytesWorld w 5 (L1 ++ ⟨#[58]⟩))) := Lib.hid fun w => conv_at L1 w
  obtain ⟨wo, hwo⟩ : ∃ x, x = w.alloc (.cells #[.int .i64 k, .int .i64 n, .string (mkS []), .slice A 0 c, .slice A' 0 c'] 25) := ⟨_, rfl⟩
  have HB0 : Hid (St Zf [BlkA w.heap.size 25 #[.int .i64 k, .int .i64 n, .string (mkS []), .slice A 0 c, .slice A' 0 c']] w wo) := Lib.hid (by rw [hwo]; exact (St.start Zf w).newBlk _ _)
  have hV1 := Lib.hid (hV.below (HB0.out.bel.mono hB))
  have hB1 : B ≤ wo.heap.size := by have := HB0.out.bel.size; omega
  have hno : ¬ (9223372036854775807 < L1.size + (⟨#[58]⟩ : ByteArray).size) := by
    have : (⟨#[58]⟩ : ByteArray).size = 1 := rfl
    omega
  obtain ⟨F1, hF1⟩ : ∃ F1, F1 = numF k n := ⟨_, rfl⟩
  obtain ⟨O0, hO0⟩ : ∃ O0, O0 = begB k := ⟨_, rfl⟩
  rw [← hF1] at HN hfl ⊢
  rw [← hO0] at HSX hbl ⊢
  obtain ⟨O1, hO1⟩ : ∃ O1, O1 = O0 ++ F1 := ⟨_, rfl⟩
  rw [← hO1]
  have HO1 := Lib.hid hO1
  have HNL : Hid (O0.length + F1.length ≤ 140737488355328) := Lib.hid (by omega)
  have HL1 : Hid (O1.length ≤ 140737488355328) := Lib.hid (by rw [hO1, List.length_append]; omega)
  have HE1 : Hid (nbC O0 ++ strBytes (mkS F1) = nbC O1) := Lib.hid (by rw [hO1, nbC_app]; rfl)
  have HE2 : Hid (nbC O1 ++ strBytes (mkS []) = nbC O1) := Lib.hid (List.append_nil _)
  have HZF : Hid ((mkS F1).size = F1.length) := Lib.hid (mkS_size _)
  clear hV hc ho o1 o2 o3 o4 hfl hbl hn1 hn2 hF1 hO0 hO1 hcat
  go_enter Tryz.func12, Tryz.ntmps12
  go_wp2_with fail
  rw [← hwo]
  clear hwo
  refine (HC.out wo hV1.out hB1).mono ?_
  rintro e w1 ⟨rfl, b1⟩
  have HB1 := Lib.hid (HB0.out.below b1)
  obtain ⟨⟨c0, c1, c2, c3, c4⟩, -, -⟩ := blk_facts HB1.out
  clear b1
  go_wp2_with fail
  refine (HL.out w1).mono ?_
  rintro e w2 ⟨rfl, b2⟩
  have HB2 := Lib.hid (HB1.out.below b2)
  have hcv := HCV.out w2
  have HS3 : Hid (PrSt w (.slice (some ⟨w2.heap.size, 0, none⟩) (L1.size + 1) (grownCap w2 (L1.size + 1) 0 5)) O0 k n (mkS []) (.slice A 0 c) (.slice A' 0 c') (Lib.bytesWorld w2 5 (L1 ++ ⟨#[58]⟩))) := Lib.hid (HB2.out.newOm (HSX.out w2) (bytesWorld_below w2 _ _))
  clear b2 c0 c1 c2 c3 c4
  obtain ⟨c0, c1, c2, c3, c4⟩ := HS3.out.cells
  go_wp2_with fail
  refine (HN.out _).mono ?_
  rintro e w3 ⟨rfl, b3⟩
  have HS4 := Lib.hid (HS3.out.below b3)
  clear b3 c0 c1 c2 c3 c4 hcv HS3
  generalize grownCap w2 (L1.size + 1) 0 5 = cp at HS4 ⊢
  generalize w2.heap.size = gb at HS4 ⊢
  go_wp2_with (first
    | (at_builtin; refine wpList_append_om_str _ rfl _ _ 45 9 rfl 0 5 i0 Tryz.underlying45 Tryz.underlying9 hi hz0 hz1 hz2 _ (nbC O0) (by rfl) HS4.out.om (mkS F1) (by rfl) (by rw [nbC_len, HZF.out]; exact HNL.out) (Nat.zero_le _) ?_; intro v7 w7 hown7 hg7 hat7; have h7 := PrSt.grew HS4.out hown7 (O' := O1) HE1.out hg7 hat7 (Nat.le_refl _); obtain ⟨g7, c7, rfl⟩ := h7.form; obtain ⟨c0, c1, c2, c3, c4⟩ := h7.cells; have HS5 := Lib.hid h7; clear hown7 hg7 hat7 h7)
    | (at_builtin; refine wpList_append_om_str _ rfl _ _ 45 9 rfl 0 5 i0 Tryz.underlying45 Tryz.underlying9 hi hz0 hz1 hz2 _ (nbC O1) (by rfl) HS5.out.om (mkS []) (by rfl) (by rw [nbC_len]; exact HL1.out) (Nat.zero_le _) ?_; intro v7 w7 hown7 hg7 hat7; have h7 := PrSt.grew HS5.out hown7 (O' := O1) HE2.out hg7 hat7 (Nat.le_refl _); obtain ⟨g7, c7, rfl⟩ := h7.form; obtain ⟨c0, c1, c2, c3, c4⟩ := h7.cells; have HS6 := Lib.hid h7; clear hown7 hg7 hat7 h7))
  clear HS4 HS5 c0 c1 c2 c3 c4 HN HL HC HCV HSX HB2 HB1
  go_loopw [5, 6] (fun o i wr => o = .slice (some ⟨g7, 0, none⟩) O1.length c7 ∧ i = .int .i64 0 ∧ Hid (PrSt w (.slice (some ⟨g7, 0, none⟩) O1.length c7) O1 k n (mkS []) (.slice A 0 c) (.slice A' 0 c') wr)) (fun _ _ _ => 0)
  case atStart => exact ⟨rfl, rfl, HS6⟩
  case round =>
    obtain ⟨rfl, rfl, HS7⟩ := hrel
    clear HS6
    obtain ⟨c0, c1, c2, c3, c4⟩ := HS7.out.cells
    go_wp2
    go_loopw [5, 7] (fun o i wq => o = .slice (some ⟨g7, 0, none⟩) O1.length c7 ∧ i = .int .i64 0 ∧ Hid (PrSt w (.slice (some ⟨g7, 0, none⟩) O1.length c7) O1 k n (mkS []) (.slice A 0 c) (.slice A' 0 c') wq)) (fun _ _ _ => 0)
    case atStart => exact ⟨rfl, rfl, HS7⟩
    case round =>
      obtain ⟨rfl, rfl, HS8⟩ := hrel
      clear HS7 c0 c1 c2 c3 c4
      obtain ⟨c0, c1, c2, c3, c4⟩ := HS8.out.cells
      have hcs := HS8.out.str
      go_wp2
      go_ret2
      exact ⟨rfl, HS8.out.bel⟩
end Go.Proofs.YthfoffcfbfmajaaGreatDoor

/- cell: the document's Print, of texts and lists. -/
namespace Go.Proofs.YthfoffcfbfmajaaGreatDoor
open Go.RowKit
set_option linter.unusedVariables false
set_option linter.unusedSimpArgs false

theorem esc_snoc (a : Bs) (x : UInt8) : esc (a ++ [x]) = esc a ++ (if x = 92 ∨ x = 59 then [92, x] else [x]) := by simp [esc]
theorem formsT_take {ts : List ByteArray} {j : Nat} (h : j < ts.length) : formsT ((ts.take (j + 1)).map lS) = formsT ((ts.take j).map lS) ++ (esc (lS (nthD ts j)) ++ [59]) := by
  rw [takeD_succ h, List.map_append, List.map_singleton, formsT_snoc]
theorem esc_take {l : Bs} {p : Nat} (h : p < l.length) {x : UInt8} (hx : l.drop p = x :: l.drop (p + 1)) : esc (l.take (p + 1)) = esc (l.take p) ++ (if x = 92 ∨ x = 59 then [92, x] else [x]) := by
  have h2 : l.take (p + 1) = l.take p ++ [x] := by
    rw [List.take_succ_eq_append_getElem h]
    have h3 := List.drop_eq_getElem_cons h
    rw [hx] at h3
    injection h3 with h3
    rw [h3]
  rw [h2, esc_snoc]
/-- bounds of a right value of kinds 4 to 8, and its form -/
theorem hi_small {k n : Int} {s : ByteArray} {ns : List Int} {ts : List ByteArray} (hc : chk ⟨k, n, s, ns, ts⟩ = 0) (hk : 4 ≤ k) : s.size ≤ 1000 ∧ ns.length ≤ 40 ∧ textsW ts ≤ 80040 ∧ ts.length ≤ 40 ∧ (0 < ns.length → 4 < k ∧ k < 8) ∧ fmtV ⟨k, n, s, ns, ts⟩ = lS s ++ formsN (numF (k - 4)) ns ++ formsT (ts.map lS) := by
  obtain ⟨⟨k1, k2⟩, ho, hl, he⟩ := el_of hc
  obtain ⟨o1, o2, o3, o4⟩ := own_true ho
  simp only at *
  rcases (show k = 4 ∨ (4 < k ∧ k < 8) ∨ k = 8 by omega) with hk4 | ⟨hk4, hk5⟩ | hk4
  · subst hk4
    obtain rfl := o3 (.inl (by omega))
    obtain rfl := o4 (by omega)
    have he2 : txtW s = 0 := by rw [el_four (v := ⟨4, n, s, [], []⟩) rfl] at he; exact he
    have hs : s.size ≤ 1000 := by
      unfold txtW at he2
      by_cases h4 : 1000 < s.size
      · exfalso
        revert he2
        simp [h4]
      · omega
    refine ⟨hs, by simp, by decide, by simp, fun h => absurd h (by simp), ?_⟩
    show lS s = lS s ++ [] ++ []
    simp
  · obtain rfl := o4 (by omega)
    obtain rfl := empty_of (o2 (by omega))
    refine ⟨by decide, by simp at hl; omega, by decide, by simp, fun _ => ⟨hk4, hk5⟩, ?_⟩
    rw [fmtV_mid hk4 hk5]
    show _ = [] ++ formsN (numF (k - 4)) ns ++ []
    simp
  · subst hk4
    obtain rfl := o3 (.inr rfl)
    obtain rfl := empty_of (o2 (by omega))
    rw [el_eight (v := ⟨8, n, mkS [], [], ts⟩) rfl rfl] at he
    refine ⟨by decide, by simp, el_texts_small he (by simpa using hl), by simpa using hl, fun h => absurd h (by simp), ?_⟩
    show formsT (ts.map lS) = [] ++ [] ++ formsT (ts.map lS)
    simp
set_option maxRecDepth 100000 in
set_option maxHeartbeats 4000000 in
theorem refPrint_hi (v : Vv) (x : Value) (B : Nat) (w : World) (h : VR w B v x) (hB : B ≤ w.heap.size) (hc : chk v = 0) (hk : 4 ≤ v.k) : Calls Tryz.prog 12 #[x] w (RfP v w) := by
  unfold RfP
  rw [printV_ok hc]
  obtain ⟨i0, hi, hz0, hz1, hz2⟩ := info_parts u8_info
  have HC := Lib.hid fun w' h1 h2 => refCheck_any v x B w' h1 h2
  unfold Told at HC
  rw [hc] at HC
  obtain ⟨⟨k1, k2⟩, -, -, -⟩ := el_of hc
  have hnsb := h.ok.ns1
  have hV := h
  obtain ⟨A, c, A', c', rfl, r1, r2, -⟩ := h
  obtain ⟨k, n, s, ns, ts⟩ := v
  simp only at hk k1 k2 hnsb r1 r2
  obtain ⟨b1, b2, b3, b4, b5, b6⟩ := hi_small hc hk
  unfold vagg at hV HC ⊢
  simp only at hV HC ⊢
  rw [b6]
  have HL := Lib.hid fun w => letter_any k w ⟨k1, k2⟩
  have HNM : Hid (∀ m w, m ∈ ns → Calls Tryz.prog 20 #[.int .i64 (k - 4), .int .i64 m] w fun e w' => e = .returned (.string (mkS (numF (k - 4) m))) ∧ Below w.heap.size w w') := Lib.hid fun m w hm => refNum_any (k - 4) m w (hnsb m hm).1 (hnsb m hm).2
  have HNF : Hid (∀ m, m ∈ ns → (numF (k - 4) m).length ≤ 64) := Lib.hid fun m hm => numF_len _ _ (hnsb m hm).1 (hnsb m hm).2
  have HFN : Hid (∀ j, (formsN (numF (k - 4)) (ns.take j)).length ≤ 2600) := Lib.hid fun j => by
    have h1 := formsN_len (k - 4) (ns.take j) fun m hm => hnsb m (List.mem_of_mem_take hm)
    have h2 : (ns.take j).length ≤ 40 := by rw [List.length_take]; omega
    omega
  have HFT : Hid (∀ j, (formsT ((ts.take j).map lS)).length ≤ 80040) := Lib.hid fun j => by
    have h1 := formsT_len (ts.take j)
    have h2 := textsW_take ts j
    omega
  have HTW : Hid (∀ t, t ∈ ts → 2 * t.size + 1 ≤ 80040) := Lib.hid fun t ht => Nat.le_trans (textsW_mem ht) b3
  have hsl : ((mkS (letB k)).size : Int) ≤ 8388608 := by
    rcases kinds8 k1 k2 with rfl | rfl | rfl | rfl | rfl | rfl | rfl | rfl <;> decide
  have hcat : mkS (letB k) ++ (⟨#[58]⟩ : ByteArray) = mkS (begB k) := by
    have := str_cat (letB k) [58]
    rw [letB_beg ⟨k1, k2⟩] at this
    exact this
  have hbl := begB_len k
  have HSX := Lib.hid (conv_beg hcat (by omega))
  generalize mkS (letB k) = L1 at HL hsl HSX
  have HCV : Hid (∀ w, (convert 9 45 (.string (L1 ++ ⟨#[58]⟩))).run Tryz.prog w = .ok (.slice (some ⟨w.heap.size, 0, none⟩) (L1.size + 1) (grownCap w (L1.size + 1) 0 5)) (Lib.bytesWorld w 5 (L1 ++ ⟨#[58]⟩))) := Lib.hid fun w => conv_at L1 w
  obtain ⟨wo, hwo⟩ : ∃ x, x = w.alloc (.cells #[.int .i64 k, .int .i64 n, .string s, .slice A ns.length c, .slice A' ts.length c'] 25) := ⟨_, rfl⟩
  have HB0 : Hid (St Zf [BlkA w.heap.size 25 #[.int .i64 k, .int .i64 n, .string s, .slice A ns.length c, .slice A' ts.length c']] w wo) := Lib.hid (by rw [hwo]; exact (St.start Zf w).newBlk _ _)
  have hV1 := Lib.hid (hV.below (HB0.out.bel.mono hB))
  have hB1 : B ≤ wo.heap.size := by have := HB0.out.bel.size; omega
  have hno : ¬ (9223372036854775807 < L1.size + (⟨#[58]⟩ : ByteArray).size) := by
    have : (⟨#[58]⟩ : ByteArray).size = 1 := rfl
    omega
  obtain ⟨O0, hO0⟩ : ∃ O0, O0 = begB k := ⟨_, rfl⟩
  rw [← hO0] at HSX hbl ⊢
  obtain ⟨O1, hO1⟩ : ∃ O1, O1 = O0 ++ lS s := ⟨_, rfl⟩
  have HO1 := Lib.hid hO1
  have hl1 : O1.length ≤ 1004 := by rw [hO1, List.length_append, lS_len]; omega
  have HL1 := Lib.hid hl1
  have HNL : Hid (O0.length + s.size ≤ 140737488355328) := Lib.hid (by omega)
  have HE1 : Hid (nbC O0 ++ strBytes s = nbC O1) := Lib.hid (by rw [hO1, nbC_app]; rfl)
  obtain ⟨OE, hOE⟩ : ∃ OE, OE = O0 ++ (lS s ++ formsN (numF (k - 4)) ns ++ formsT (ts.map lS)) := ⟨_, rfl⟩
  rw [← hOE]
  have HOE : Hid (OE = O1 ++ formsN (numF (k - 4)) ns ++ formsT (ts.map lS)) := Lib.hid (by rw [hOE, hO1]; simp)
  have HR1 := Lib.hid r1
  have HR2 := Lib.hid r2
  have HBB := Lib.hid hB
  have HK := Lib.hid b5
  have hnl : ns.length ≤ 40 := b2
  have htl : ts.length ≤ 40 := b4
  have hk4 : ¬ (k < 4) := by omega
  have hk4' : decide (k < 4) = false := decide_eq_false hk4
  have hkw : IntKind.i64.wrap (k - 4) = k - 4 := by rw [IntKind.wrap_i64]; omega
  clear hV hc hbl hO0 hO1 hOE hcat b1 b2 b3 b4 b5 b6 r1 r2 hl1 hnsb
  go_enter Tryz.func12, Tryz.ntmps12
  go_wp2_with fail
  rw [← hwo]
  clear hwo
  refine (HC.out wo hV1.out hB1).mono ?_
  rintro e w1 ⟨rfl, b1⟩
  have HB1 := Lib.hid (HB0.out.below b1)
  obtain ⟨⟨c0, c1, c2, c3, c4⟩, -, -⟩ := blk_facts HB1.out
  clear b1
  go_wp2_with fail
  refine (HL.out w1).mono ?_
  rintro e w2 ⟨rfl, b2⟩
  have HB2 := Lib.hid (HB1.out.below b2)
  have hcv := HCV.out w2
  have HS4 : Hid (PrSt w (.slice (some ⟨w2.heap.size, 0, none⟩) (L1.size + 1) (grownCap w2 (L1.size + 1) 0 5)) O0 k n s (.slice A ns.length c) (.slice A' ts.length c') (Lib.bytesWorld w2 5 (L1 ++ ⟨#[58]⟩))) := Lib.hid (HB2.out.newOm (HSX.out w2) (bytesWorld_below w2 _ _))
  clear b2 c0 c1 c2 c3 c4
  obtain ⟨c0, c1, c2, c3, c4⟩ := HS4.out.cells
  go_wp2_with (at_builtin; refine wpList_append_om_str _ rfl _ _ 45 9 rfl 0 5 i0 Tryz.underlying45 Tryz.underlying9 hi hz0 hz1 hz2 _ (nbC O0) (by rfl) HS4.out.om s (by rfl) (by rw [nbC_len]; exact HNL.out) (Nat.zero_le _) ?_; intro v7 w7 hown7 hg7 hat7; have h7 := PrSt.grew HS4.out hown7 (O' := O1) HE1.out hg7 hat7 (Nat.le_refl _); obtain ⟨g7, c7, rfl⟩ := h7.form; obtain ⟨c0, c1, c2, c3, c4⟩ := h7.cells; have HS5 := Lib.hid h7; clear hown7 hg7 hat7 h7)
  clear HS4 c0 c1 c2 c3 c4 HL HC HCV HSX HB2 HB1 HB0 hV1 hcv hno hsl
  go_loopw [5, 6] (fun o i wr => ∃ (j : Nat) (O : Bs) (g cp : Nat), j ≤ ns.length ∧ o = .slice (some ⟨g, 0, none⟩) O.length cp ∧ i = .int .i64 j ∧ Hid (O = O1 ++ formsN (numF (k - 4)) (ns.take j)) ∧ Hid (PrSt w (.slice (some ⟨g, 0, none⟩) O.length cp) O k n s (.slice A ns.length c) (.slice A' ts.length c') wr)) (fun _ i _ => ns.length - (intOf i).toNat)
  case atStart => exact ⟨0, O1, g7, c7, Nat.zero_le _, rfl, rfl, Lib.hid (by simp [formsN]), HS5⟩
  case round =>
    obtain ⟨j, O, g, cp, hj, rfl, rfl, HO, HS⟩ := hrel
    clear HS5
    obtain ⟨c0, c1, c2, c3, c4⟩ := HS.out.cells
    by_cases hlt : j < ns.length
    · obtain ⟨k3, k4⟩ := HK.out (by omega)
      obtain ⟨g1, off, rfl, hg1, hcell⟩ := (HR1.out.below' HS.out.bel HBB.out).allD (by omega)
      have ce : wr.cell? ⟨g1, off + j, none⟩ = some (.int .i64 (nthD ns j)) := hcell j hlt
      have HEL : Hid (∀ w', Below w.heap.size w w' → w'.cell? ⟨g1, off + j, none⟩ = some (.int .i64 (nthD ns j))) := Lib.hid fun w' hb => by
        obtain ⟨g2, off2, e, -, hcell2⟩ := (HR1.out.below' hb HBB.out).allD (by omega)
        injection e with e
        injection e with e1 e2 e3
        subst e1 e2
        exact hcell2 j hlt
      have HSN : Hid (formsN (numF (k - 4)) (ns.take (j + 1)) = formsN (numF (k - 4)) (ns.take j) ++ numF (k - 4) (nthD ns j) ++ [59]) := Lib.hid (formsN_take _ hlt)
      have HNU := Lib.hid fun w => HNM.out (nthD ns j) w (nthD_mem hlt)
      have HNB := Lib.hid (HNF.out (nthD ns j) (nthD_mem hlt))
      generalize nthD ns j = m at *
      obtain ⟨F, hF⟩ : ∃ F, F = numF (k - 4) m := ⟨_, rfl⟩
      rw [← hF] at HSN HNU HNB
      obtain ⟨Oa, hOa⟩ : ∃ Oa, Oa = O ++ F := ⟨_, rfl⟩
      obtain ⟨Ob, hOb⟩ : ∃ Ob, Ob = Oa ++ [59] := ⟨_, rfl⟩
      have HOl : Hid (O.length ≤ 3604) := Lib.hid (by rw [HO.out, List.length_append]; have := HL1.out; have := HFN.out j; omega)
      have HEa : Hid (nbC O ++ strBytes (mkS F) = nbC Oa) := Lib.hid (by rw [hOa, nbC_app]; rfl)
      have HEb : Hid (nbC Oa ++ [59] = nbC Ob) := Lib.hid (by rw [hOb, nbC_app]; rfl)
      have HLa : Hid (O.length + (mkS F).size ≤ 140737488355328) := Lib.hid (by rw [mkS_size]; have := HOl.out; have := HNB.out; omega)
      have HLb : Hid (Oa.length + 1 ≤ 140737488355328) := Lib.hid (by rw [hOa, List.length_append]; have := HOl.out; have := HNB.out; omega)
      have HO2 : Hid (Ob = O1 ++ formsN (numF (k - 4)) (ns.take (j + 1))) := Lib.hid (by rw [hOb, hOa, HO.out, HSN.out]; simp)
      have hjl : (j : Int) < (ns.length : Int) := by omega
      clear hF hOa hOb hcell
      go_wp2_with fail
      refine wp_region_held_drew (S := (fun w' => w'.cell? ⟨w.heap.size, 0, none⟩ = some (.int .i64 k) ∧ w'.cell? ⟨w.heap.size, 3, none⟩ = some (.slice (some ⟨g1, off, none⟩) ns.length c) ∧ w'.cell? ⟨g1, off + j, none⟩ = some (.int .i64 m))) (by kernel_rfl) (by (try dsimp only); go_keep) (fun hHeld => ?_)
      refine wpAnyH_take (i := 0) (v := ?_) rfl (by kernel_rfl) (by kernel_rfl) (by kernel_rfl) (fun _ _ _ h => h) (Or.inl ⟨by rfl, ?_⟩) (by assumption) ?_
      rotate_left
      · (intro w hSw; (try dsimp only at hSw); go_simp; try with_reducible rfl)
      try simp only [Act.put, List.getElem_toArray, List.getElem_cons_zero, List.getElem_cons_succ, List.setIfInBounds_toArray, List.set_cons_zero, List.set_cons_succ]
      refine wpAnyH_take (i := 1) (v := ?_) rfl (by kernel_rfl) (by kernel_rfl) (by kernel_rfl) (fun _ _ _ h => h) (Or.inl ⟨by rfl, ?_⟩) (by assumption) ?_
      rotate_left
      · (intro w hSw; (try dsimp only at hSw); go_simp; try with_reducible rfl)
      try simp only [Act.put, List.getElem_toArray, List.getElem_cons_zero, List.getElem_cons_succ, List.setIfInBounds_toArray, List.set_cons_zero, List.set_cons_succ]
      refine wpAnyH_take (i := 2) (v := ?_) rfl (by kernel_rfl) (by kernel_rfl) (by kernel_rfl) (fun _ _ _ h => h) (Or.inl ⟨by rfl, ?_⟩) (by assumption) ?_
      rotate_left
      · (intro w hSw; (try dsimp only at hSw); go_simp; try with_reducible rfl)
      try simp only [Act.put, List.getElem_toArray, List.getElem_cons_zero, List.getElem_cons_succ, List.setIfInBounds_toArray, List.set_cons_zero, List.set_cons_succ]
      refine wpAnyH_take (i := 3) (v := ?_) rfl (by kernel_rfl) (by kernel_rfl) (by kernel_rfl) (fun _ _ _ h => h) (Or.inl ⟨by rfl, ?_⟩) (by assumption) ?_
      rotate_left
      · (intro w hSw; (try dsimp only at hSw); go_simp; try with_reducible rfl)
      try simp only [Act.put, List.getElem_toArray, List.getElem_cons_zero, List.getElem_cons_succ, List.setIfInBounds_toArray, List.set_cons_zero, List.set_cons_succ]
      refine wpAnyH_take (i := 4) (v := ?_) rfl (by kernel_rfl) (by kernel_rfl) (by kernel_rfl) (fun _ _ _ h => h) (Or.inl ⟨by rfl, ?_⟩) (by assumption) ?_
      rotate_left
      · (intro w hSw; (try dsimp only at hSw); go_simp; try with_reducible rfl)
      try simp only [Act.put, List.getElem_toArray, List.getElem_cons_zero, List.getElem_cons_succ, List.setIfInBounds_toArray, List.set_cons_zero, List.set_cons_succ]
      refine wpAnyH_take (i := 5) (v := ?_) rfl (by kernel_rfl) (by kernel_rfl) (by kernel_rfl) (fun _ _ _ h => h) (Or.inl ⟨by rfl, ?_⟩) (by assumption) ?_
      rotate_left
      · (intro w hSw; (try dsimp only at hSw); go_simp; try with_reducible rfl)
      try simp only [Act.put, List.getElem_toArray, List.getElem_cons_zero, List.getElem_cons_succ, List.setIfInBounds_toArray, List.set_cons_zero, List.set_cons_succ]
      refine wpAnyH_take (i := 6) (v := ?_) rfl (by kernel_rfl) (by kernel_rfl) (by kernel_rfl) (fun _ _ _ h => h) (Or.inl ⟨by rfl, ?_⟩) (by assumption) ?_
      rotate_left
      · (intro w hSw; (try dsimp only at hSw); go_simp; try with_reducible rfl)
      try simp only [Act.put, List.getElem_toArray, List.getElem_cons_zero, List.getElem_cons_succ, List.setIfInBounds_toArray, List.set_cons_zero, List.set_cons_succ]
      refine wpAnyH_take (i := 7) (v := ?_) rfl (by kernel_rfl) (by kernel_rfl) (by kernel_rfl) (fun _ _ _ h => h) (Or.inl ⟨by rfl, ?_⟩) (by assumption) ?_
      rotate_left
      · (intro w hSw; (try dsimp only at hSw); go_simp; try with_reducible rfl)
      try simp only [Act.put, List.getElem_toArray, List.getElem_cons_zero, List.getElem_cons_succ, List.setIfInBounds_toArray, List.set_cons_zero, List.set_cons_succ]
      refine wpAnyH_take (i := 8) (v := ?_) rfl (by kernel_rfl) (by kernel_rfl) (by kernel_rfl) (fun _ _ _ h => h) (Or.inl ⟨by rfl, ?_⟩) (by assumption) ?_
      rotate_left
      · (intro w hSw; (try dsimp only at hSw); go_simp; try with_reducible rfl)
      try simp only [Act.put, List.getElem_toArray, List.getElem_cons_zero, List.getElem_cons_succ, List.setIfInBounds_toArray, List.set_cons_zero, List.set_cons_succ]
      refine wpAnyH_ready (rs := [9]) (by kernel_rfl) (by simp) ?_
      refine AllReadyH.cons rfl (fun K hK => ?_) AllReadyH.nil
      go_simp
      go_at_call 20
      refine (HNU.out _).mono ?_
      rintro e w3 ⟨rfl, hb3⟩
      have H3 := Lib.hid ((HS.out.below ((Below.refl _ _).drew)).below hb3)
      obtain ⟨y0, y1, y2, y3, y4⟩ := H3.out.cells
      have ye := HEL.out w3 H3.out.bel
      clear hb3
      refine hK.out _ _ (by (try dsimp only); go_keep) (fun hHeld => ?_)
      clear hK K
      try simp only [Act.put, List.getElem_toArray, List.getElem_cons_zero, List.getElem_cons_succ, List.setIfInBounds_toArray, List.set_cons_zero, List.set_cons_succ]
      refine wpAnyH_ready (rs := [10]) (by kernel_rfl) (by simp) ?_
      refine AllReadyH.cons rfl (fun K hK => ?_) AllReadyH.nil
      refine step_append_om_str w3 (by rfl) _ _ _ _ (by rfl) 0 5 i0 Tryz.underlying45 Tryz.underlying9 hi hz0 hz1 hz2 _ (nbC O) (by rfl) H3.out.om (mkS F) (by rfl) (by rw [nbC_len]; exact HLa.out) (Nat.zero_le _) ?_
      intro v7 w7 hown7 hg7 hat7
      have h7 := PrSt.grew H3.out hown7 (O' := Oa) HEa.out hg7 hat7 (Nat.le_refl _)
      obtain ⟨g7, c7, rfl⟩ := h7.form
      obtain ⟨z0, z1, z2, z3, z4⟩ := h7.cells
      have ze := HEL.out w7 h7.bel
      have H7 := Lib.hid h7
      clear hown7 hg7 hat7 h7
      refine hK.out _ _ (by (try dsimp only); go_keep) (fun hHeld => ?_)
      clear hK K
      try simp only [Act.put, List.getElem_toArray, List.getElem_cons_zero, List.getElem_cons_succ, List.setIfInBounds_toArray, List.set_cons_zero, List.set_cons_succ]
      refine wpAnyH_take (i := 11) (v := ?_) rfl (by kernel_rfl) (by kernel_rfl) (by kernel_rfl) (fun _ _ _ h => h) (Or.inl ⟨by rfl, ?_⟩) (by assumption) ?_
      rotate_left
      · (intro w hSw; (try dsimp only at hSw); go_simp; try with_reducible rfl)
      try simp only [Act.put, List.getElem_toArray, List.getElem_cons_zero, List.getElem_cons_succ, List.setIfInBounds_toArray, List.set_cons_zero, List.set_cons_succ]
      refine wpAnyH_done (by kernel_rfl) ?_ _
      go_wp2_with (at_builtin; refine wpList_append_om_lit _ rfl _ _ 45 rfl 0 5 i0 Tryz.underlying45 hi hz0 hz1 hz2 _ (nbC Oa) 59 (by rfl) H7.out.om (by rfl) 59 rfl (by decide) (by rw [nbC_len]; exact HLb.out) (Nat.zero_le _) ?_; intro vb wb hownb hgb hatb; have hb := PrSt.grew H7.out hownb (O' := Ob) HEb.out hgb hatb (Nat.le_succ _); obtain ⟨gb, cb, rfl⟩ := hb.form; obtain ⟨z0, z1, z2, z3, z4⟩ := hb.cells; have HB := Lib.hid hb; clear hownb hgb hatb hb)
      go_roundw
      case rel => exact ⟨j + 1, Ob, gb, cb, by omega, rfl, by go_num, HO2, HB⟩
      case measure => simp [intOf]; omega
    · have HO2 : Hid (O = O1 ++ formsN (numF (k - 4)) ns) := Lib.hid (by rw [HO.out, List.take_of_length_le (by omega)])
      have HOl : Hid (O.length ≤ 3604) := Lib.hid (by rw [HO.out, List.length_append]; have := HL1.out; have := HFN.out j; omega)
      obtain ⟨O2, hO2⟩ : ∃ O2, O2 = O := ⟨_, rfl⟩
      rw [← hO2] at HO2 HOl HS ⊢
      clear hO2 HO
      go_wp2
      go_loopw [5, 7] (fun o i wq => ∃ (q : Nat) (P : Bs) (g cp : Nat), q ≤ ts.length ∧ o = .slice (some ⟨g, 0, none⟩) P.length cp ∧ i = .int .i64 q ∧ Hid (P = O2 ++ formsT ((ts.take q).map lS)) ∧ Hid (PrSt w (.slice (some ⟨g, 0, none⟩) P.length cp) P k n s (.slice A ns.length c) (.slice A' ts.length c') wq)) (fun _ i _ => ts.length - (intOf i).toNat)
      case atStart => exact ⟨0, O2, g, cp, Nat.zero_le _, rfl, rfl, Lib.hid (by simp [formsT]), HS⟩
      case round =>
        obtain ⟨q, P, g, cp, hq, rfl, rfl, HP, HS8⟩ := hrel
        clear HS c0 c1 c2 c3 c4
        obtain ⟨c0, c1, c2, c3, c4⟩ := HS8.out.cells
        have HPl : Hid (P.length ≤ 83644) := Lib.hid (by rw [HP.out, List.length_append]; have := HOl.out; have := HFT.out q; omega)
        by_cases hqt : q < ts.length
        · obtain ⟨g1, off, rfl, hg1, hcell⟩ := (HR2.out.below' HS8.out.bel HBB.out).allD (by omega)
          have ce := hcell q hqt
          have HEL : Hid (∀ w', Below w.heap.size w w' → w'.cell? ⟨g1, off + q, none⟩ = some (.string (nthD ts q))) := Lib.hid fun w' hb => by
            obtain ⟨g2, off2, e, -, hcell2⟩ := (HR2.out.below' hb HBB.out).allD (by omega)
            injection e with e
            injection e with e1 e2 e3
            subst e1 e2
            exact hcell2 q hqt
          have HSN : Hid (formsT ((ts.take (q + 1)).map lS) = formsT ((ts.take q).map lS) ++ (esc (lS (nthD ts q)) ++ [59])) := Lib.hid (formsT_take hqt)
          have HTB := Lib.hid (HTW.out (nthD ts q) (nthD_mem hqt))
          generalize nthD ts q = t at *
          have HX : Hid (∀ p (hp : p < t.size), ∃ x, t[p]'hp = x ∧ (lS t).drop p = x :: (lS t).drop (p + 1)) := Lib.hid (by
            intro p hp
            have h1 : p < (lS t).length := by rw [lS_len]; exact hp
            have h2 := mkS_at (lS t) p h1 (by rw [mk_lS]; exact hp)
            exact ⟨(lS t)[p], h2, drop_cons h1⟩)
          have hql : (q : Int) < (ts.length : Int) := by omega
          have hts : t.size ≤ 80040 := by have := HTB.out; omega
          clear hcell
          go_wp2
          go_loopw [5, 8] (fun o i wp => ∃ (p : Nat) (R : Bs) (g cp : Nat), p ≤ t.size ∧ o = .slice (some ⟨g, 0, none⟩) R.length cp ∧ i = .int .i64 p ∧ Hid (R = P ++ esc ((lS t).take p)) ∧ Hid (PrSt w (.slice (some ⟨g, 0, none⟩) R.length cp) R k n s (.slice A ns.length c) (.slice (some ⟨g1, off, none⟩) ts.length c') wp)) (fun _ i _ => t.size - (intOf i).toNat)
          case atStart => exact ⟨0, P, g, cp, Nat.zero_le _, rfl, rfl, Lib.hid (by simp [esc]), HS8⟩
          case round =>
            obtain ⟨p, R, g, cp, hp, rfl, rfl, HR, HS9⟩ := hrel
            clear HS8 c0 c1 c2 c3 c4 ce
            obtain ⟨c0, c1, c2, c3, c4⟩ := HS9.out.cells
            have ce := HEL.out _ HS9.out.bel
            have HRl : Hid (R.length ≤ 243724) := Lib.hid (by
              rw [HR.out, List.length_append]
              have h1 := HPl.out
              have h2 := esc_len ((lS t).take p)
              have h3 : ((lS t).take p).length ≤ t.size := by rw [List.length_take, lS_len]; omega
              omega)
            by_cases hpt : p < t.size
            · obtain ⟨x, hx, hdr⟩ := HX.out p hpt
              have HEK := Lib.hid (esc_take (by rw [lS_len]; exact hpt) hdr)
              have hxlt : x.toNat < 256 := x.toNat_lt
              have hpl : (p : Int) < (t.size : Int) := by omega
              clear hdr
              by_cases hs2 : x = 92 ∨ x = 59
              · obtain ⟨Ra, hRa⟩ : ∃ Ra, Ra = R ++ [92] := ⟨_, rfl⟩
                obtain ⟨Rb, hRb⟩ : ∃ Rb, Rb = Ra ++ [x] := ⟨_, rfl⟩
                have HEa : Hid (nbC R ++ [92] = nbC Ra) := Lib.hid (by rw [hRa, nbC_app]; rfl)
                have HEb : Hid (nbC Ra ++ [x.toNat] = nbC Rb) := Lib.hid (by rw [hRb, nbC_app]; rfl)
                have HLa : Hid (R.length + 1 ≤ 140737488355328) := Lib.hid (by have := HRl.out; omega)
                have HLb : Hid (Ra.length + 1 ≤ 140737488355328) := Lib.hid (by rw [hRa, List.length_append, List.length_singleton]; have := HRl.out; omega)
                have HR2 : Hid (Rb = P ++ esc ((lS t).take (p + 1))) := Lib.hid (by rw [hRb, hRa, HR.out, HEK.out, if_pos hs2]; simp)
                clear hRa hRb
                rcases hs2 with hx2 | hx2
                · have b92 : ((x.toNat : Int) == 92) = true := by rw [hx2]; decide
                  clear hx2
                  go_wp2_with (first
                    | (at_builtin; refine wpList_append_om_lit _ rfl _ _ 45 rfl 0 5 i0 Tryz.underlying45 hi hz0 hz1 hz2 _ (nbC R) 92 (by rfl) HS9.out.om (by rfl) 92 rfl (by decide) (by rw [nbC_len]; exact HLa.out) (Nat.zero_le _) ?_; intro va wa howna hga hata; have ha := PrSt.grew HS9.out howna (O' := Ra) HEa.out hga hata (Nat.le_succ _); obtain ⟨ga, ca, rfl⟩ := ha.form; obtain ⟨z0, z1, z2, z3, z4⟩ := ha.cells; have HA := Lib.hid ha; clear howna hga hata ha)
                    | (at_builtin; refine wpList_append_om_lit _ rfl _ _ 45 rfl 0 5 i0 Tryz.underlying45 hi hz0 hz1 hz2 _ (nbC Ra) x.toNat (by rfl) HA.out.om (by rfl) x.toNat rfl (hxlt) (by rw [nbC_len]; exact HLb.out) (Nat.zero_le _) ?_; intro vb wb hownb hgb hatb; have hb := PrSt.grew HA.out hownb (O' := Rb) HEb.out hgb hatb (Nat.le_succ _); obtain ⟨gb, cb, rfl⟩ := hb.form; obtain ⟨z0, z1, z2, z3, z4⟩ := hb.cells; have HB := Lib.hid hb; clear hownb hgb hatb hb))
                  go_roundw
                  case rel => exact ⟨p + 1, Rb, gb, cb, by omega, rfl, by go_num, HR2, HB⟩
                  case measure => simp [intOf]; omega
                · have b92 : ((x.toNat : Int) == 92) = false := by rw [hx2]; decide
                  have b59 : ((x.toNat : Int) == 59) = true := by rw [hx2]; decide
                  clear hx2
                  go_wp2_with (first
                    | (at_builtin; refine wpList_append_om_lit _ rfl _ _ 45 rfl 0 5 i0 Tryz.underlying45 hi hz0 hz1 hz2 _ (nbC R) 92 (by rfl) HS9.out.om (by rfl) 92 rfl (by decide) (by rw [nbC_len]; exact HLa.out) (Nat.zero_le _) ?_; intro va wa howna hga hata; have ha := PrSt.grew HS9.out howna (O' := Ra) HEa.out hga hata (Nat.le_succ _); obtain ⟨ga, ca, rfl⟩ := ha.form; obtain ⟨z0, z1, z2, z3, z4⟩ := ha.cells; have HA := Lib.hid ha; clear howna hga hata ha)
                    | (at_builtin; refine wpList_append_om_lit _ rfl _ _ 45 rfl 0 5 i0 Tryz.underlying45 hi hz0 hz1 hz2 _ (nbC Ra) x.toNat (by rfl) HA.out.om (by rfl) x.toNat rfl (hxlt) (by rw [nbC_len]; exact HLb.out) (Nat.zero_le _) ?_; intro vb wb hownb hgb hatb; have hb := PrSt.grew HA.out hownb (O' := Rb) HEb.out hgb hatb (Nat.le_succ _); obtain ⟨gb, cb, rfl⟩ := hb.form; obtain ⟨z0, z1, z2, z3, z4⟩ := hb.cells; have HB := Lib.hid hb; clear hownb hgb hatb hb))
                  go_roundw
                  case rel => exact ⟨p + 1, Rb, gb, cb, by omega, rfl, by go_num, HR2, HB⟩
                  case measure => simp [intOf]; omega
              · obtain ⟨Rb, hRb⟩ : ∃ Rb, Rb = R ++ [x] := ⟨_, rfl⟩
                have HEb : Hid (nbC R ++ [x.toNat] = nbC Rb) := Lib.hid (by rw [hRb, nbC_app]; rfl)
                have HLb : Hid (R.length + 1 ≤ 140737488355328) := Lib.hid (by have := HRl.out; omega)
                have HR2 : Hid (Rb = P ++ esc ((lS t).take (p + 1))) := Lib.hid (by rw [hRb, HR.out, HEK.out, if_neg hs2]; simp)
                have b92 : ((x.toNat : Int) == 92) = false := byte_ne fun h => hs2 (.inl h)
                have b59 : ((x.toNat : Int) == 59) = false := byte_ne fun h => hs2 (.inr h)
                clear hRb hs2
                go_wp2_with (at_builtin; refine wpList_append_om_lit _ rfl _ _ 45 rfl 0 5 i0 Tryz.underlying45 hi hz0 hz1 hz2 _ (nbC R) x.toNat (by rfl) HS9.out.om (by rfl) x.toNat rfl (hxlt) (by rw [nbC_len]; exact HLb.out) (Nat.zero_le _) ?_; intro vb wb hownb hgb hatb; have hb := PrSt.grew HS9.out hownb (O' := Rb) HEb.out hgb hatb (Nat.le_succ _); obtain ⟨gb, cb, rfl⟩ := hb.form; obtain ⟨z0, z1, z2, z3, z4⟩ := hb.cells; have HB := Lib.hid hb; clear hownb hgb hatb hb)
                go_roundw
                case rel => exact ⟨p + 1, Rb, gb, cb, by omega, rfl, by go_num, HR2, HB⟩
                case measure => simp [intOf]; omega
            · obtain ⟨Rb, hRb⟩ : ∃ Rb, Rb = R ++ [59] := ⟨_, rfl⟩
              have HEb : Hid (nbC R ++ [59] = nbC Rb) := Lib.hid (by rw [hRb, nbC_app]; rfl)
              have HLb : Hid (R.length + 1 ≤ 140737488355328) := Lib.hid (by have := HRl.out; omega)
              have HP2 : Hid (Rb = O2 ++ formsT ((ts.take (q + 1)).map lS)) := Lib.hid (by
                have h1 : (lS t).take p = lS t := List.take_of_length_le (by rw [lS_len]; omega)
                rw [hRb, HR.out, h1, HP.out, HSN.out]
                simp)
              clear hRb
              go_wp2_with (at_builtin; refine wpList_append_om_lit _ rfl _ _ 45 rfl 0 5 i0 Tryz.underlying45 hi hz0 hz1 hz2 _ (nbC R) 59 (by rfl) HS9.out.om (by rfl) 59 rfl (by decide) (by rw [nbC_len]; exact HLb.out) (Nat.zero_le _) ?_; intro vb wb hownb hgb hatb; have hb := PrSt.grew HS9.out hownb (O' := Rb) HEb.out hgb hatb (Nat.le_succ _); obtain ⟨gb, cb, rfl⟩ := hb.form; obtain ⟨z0, z1, z2, z3, z4⟩ := hb.cells; have HB := Lib.hid hb; clear hownb hgb hatb hb)
              go_roundw
              case rel => exact ⟨q + 1, Rb, gb, cb, by omega, rfl, by go_num, HP2, HB⟩
              case measure => simp [intOf]; omega
        · have HE : Hid (P = OE) := Lib.hid (by rw [HP.out, List.take_of_length_le (by omega), HO2.out, HOE.out])
          have hcs := HS8.out.str
          have HS8b := Lib.hid HS8.out.bel
          rw [HE.out] at hcs HS8 ⊢
          go_wp2
          go_ret2
          exact ⟨rfl, HS8b.out⟩
theorem refPrint_any (v : Vv) (x : Value) (B : Nat) (w : World) (h : VR w B v x) (hB : B ≤ w.heap.size) : Calls Tryz.prog 12 #[x] w (RfP v w) := by
  by_cases hc : chk v = 0
  · by_cases hk : v.k < 4
    · exact refPrint_lo v x B w h hB hc hk
    · exact refPrint_hi v x B w h hB hc (by omega)
  · exact refPrint_no v x B w h hB hc
end Go.Proofs.YthfoffcfbfmajaaGreatDoor

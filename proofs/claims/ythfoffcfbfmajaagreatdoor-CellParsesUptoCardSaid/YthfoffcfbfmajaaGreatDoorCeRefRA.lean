/- cell: the document's num. -/
import Derived.Test.YthfoffcfbfmajaaGreatDoorCeParseA
import Derived.Test.YthfoffcfbfmajaaGreatDoorCeRefPA
import Derived.Test.YthfoffcfbfmajaaGreatDoorNumRefA
import Derived.Test.YthfoffcfbfmajaaGreatDoorNumRefD
import Derived.Test.YthfoffcfbfmajaaGreatDoorNumRefH3
import Derived.Test.YthfoffcfbfmajaaGreatDoorNumRefH4
import Derived.Test.YthfoffcfbfmajaaGreatDoorValRefA
import Derived.Laws.Concat
namespace Go.Proofs.YthfoffcfbfmajaaGreatDoor
open Go.RowKit
set_option linter.unusedVariables false

set_option maxHeartbeats 1000000 in
theorem refnum_any (k : Int) (s : ByteArray) (w : World) (hk : 1 ≤ k ∧ k ≤ 3) (hs : s.size ≤ 140737488355328) :
    Calls Tryz.prog 23 #[.int .i64 k, .string s] w (RdN (numR k (lS s)) w) := by
  unfold RdN
  rcases (show k = 1 ∨ k = 2 ∨ k = 3 by omega) with rfl | rfl | rfl
  · have key : ∀ t : Bs, (s.toList == t) = decide (lS s = t) := fun t => by
      rw [Lib.toList_data]
      show (lS s == t) = decide (lS s = t)
      by_cases h : lS s = t <;> simp [h]
    have h4 := key [116, 114, 117, 101]
    have h5 := key [102, 97, 108, 115, 101]
    have HN : Hid (numR 1 (lS s) = if lS s = [116, 114, 117, 101] then (1, 0) else if lS s = [102, 97, 108, 115, 101] then (0, 0) else (0, 220)) := Lib.hid (by unfold numR; rw [if_neg (by decide), if_neg (by decide)])
    rw [HN.out]
    clear HN key hs hk
    by_cases ht : lS s = [116, 114, 117, 101]
    · rw [if_pos ht]
      rw [decide_eq_true ht] at h4
      clear h5 ht
      go_enter Tryz.func23, Tryz.ntmps23
      go_wp2
      go_ret2
      exact ⟨rfl, Below.refl _ _⟩
    · rw [if_neg ht]
      rw [decide_eq_false ht] at h4
      by_cases hf : lS s = [102, 97, 108, 115, 101]
      · rw [if_pos hf]
        rw [decide_eq_true hf] at h5
        clear ht hf
        go_enter Tryz.func23, Tryz.ntmps23
        go_wp2
        go_ret2
        exact ⟨rfl, Below.refl _ _⟩
      · rw [if_neg hf]
        rw [decide_eq_false hf] at h5
        clear ht hf
        go_enter Tryz.func23, Tryz.ntmps23
        go_wp2
        go_ret2
        exact ⟨rfl, Below.refl _ _⟩
  · have HF := Lib.hid (refParse_any s w hs)
    unfold PI at HF
    have e : numR 2 (lS s) = parseI s.data.toList := by unfold numR; rw [if_pos rfl]; rfl
    rw [e]
    generalize (parseI s.data.toList).1 = n at HF ⊢
    generalize (parseI s.data.toList).2 = c at HF ⊢
    clear hs hk e
    go_enter Tryz.func23, Tryz.ntmps23
    go_wp2_with fail
    refine HF.out.mono ?_
    rintro e w1 ⟨rfl, rfl⟩
    go_wp2
    go_ret2
    exact ⟨rfl, Below.refl _ _⟩
  · have HF : Hid (Calls Tryz.prog 40 #[.string s] w fun e w' => ∃ v c : Int, e = .returned (.tuple #[.int .u64 v, .int .i64 c]) ∧ Hid (numR 3 (lS s) = (wrap64 v, c)) ∧ Below w.heap.size w w') := Lib.hid ((refParseFloat s w hs).mono (by
      rintro e w' ⟨v, c, rfl, hr, hb⟩
      refine ⟨v, c, rfl, Lib.hid ?_, hb⟩
      unfold numR
      rw [if_neg (by decide), if_pos rfl]
      have hr2 : ReadF (lS s) v c := hr
      rw [rdF_eq hr2, i64Of_wrap hr.lt]))
    clear hs hk
    go_enter Tryz.func23, Tryz.ntmps23
    go_wp2_with fail
    refine HF.out.mono ?_
    rintro e w1 ⟨v, c, rfl, HR, hb⟩
    go_wp2
    go_ret2
    refine ⟨?_, hb⟩
    rw [HR.out]
    rfl
end Go.Proofs.YthfoffcfbfmajaaGreatDoor

/- cell: the document's Parse: what it wants; no kind, numbers, a text. -/
namespace Go.Proofs.YthfoffcfbfmajaaGreatDoor
open Go.RowKit
set_option linter.unusedVariables false

/-- the first bytes compared with a beginning, as the document does it -/
theorem pref_str (l : Bs) (q : Int) {b : Prop} [Decidable b] (h : Lib.hasPrefix l (begB q) = decide b) (hq1 : 1 ≤ q) (hq8 : q ≤ 8) : ∃ L1 : ByteArray, mkS (letB q) = L1 ∧ L1.size + 1 = (begB q).length ∧
    (b → (L1.size : Int) + 1 ≤ (l.length : Int) ∧ (((mkS l).extract 0 (L1.size + 1)).toList == (L1 ++ (⟨#[58]⟩ : ByteArray)).toList) = true) ∧
    (¬ b → L1.size + 1 ≤ l.length → (((mkS l).extract 0 (L1.size + 1)).toList == (L1 ++ (⟨#[58]⟩ : ByteArray)).toList) = false) := by
  have hcat : mkS (letB q) ++ (⟨#[58]⟩ : ByteArray) = mkS (begB q) := by
    have := str_cat (letB q) [58]
    rw [letB_beg ⟨hq1, hq8⟩] at this
    exact this
  have hl : (mkS (letB q)).size + 1 = (begB q).length := by
    have := congrArg ByteArray.size hcat
    rw [ByteArray.size_append, mkS_size (begB q)] at this
    exact this
  have key : (((mkS l).extract 0 ((mkS (letB q)).size + 1)).toList == (mkS (letB q) ++ (⟨#[58]⟩ : ByteArray)).toList) = decide (l.take (begB q).length = begB q) := by
    rw [hcat, hl, mkS_take, Lib.toList_data, Lib.toList_data]
    show (l.take (begB q).length == begB q) = _
    by_cases h : l.take (begB q).length = begB q <;> simp [h]
  refine ⟨_, rfl, hl, fun hb => ?_, fun hb _ => ?_⟩
  · rw [decide_eq_true hb] at h
    have he := hasPrefix_app h
    refine ⟨?_, ?_⟩
    · have : (begB q).length ≤ l.length := by rw [he, List.length_append]; omega
      omega
    · rw [key]
      refine decide_eq_true ?_
      rw [he, List.take_left' rfl]
  · rw [decide_eq_false hb] at h
    rw [key]
    refine decide_eq_false fun ht => ?_
    have h2 : Lib.hasPrefix l (begB q) = true := by
      have h3 : l = begB q ++ l.drop (begB q).length := by
        conv => lhs; rw [← List.take_append_drop (begB q).length l]
        rw [ht]
      rw [h3]
      exact hasPrefix_self _ _
    rw [h2] at h
    exact absurd h (by decide)
set_option maxRecDepth 100000 in
set_option maxHeartbeats 4000000 in
theorem refParse_miss (l r : Bs) (k0 : Int) (w : World) (hk : k0 = 0) (hl : l.length ≤ 1073741824) (he : l = begB k0 ++ r) (hP : ∀ q : Int, 1 ≤ q → q ≤ 8 → Lib.hasPrefix l (begB q) = decide (q = k0)) : Calls Tryz.prog 15 #[.string (mkS l)] w (NewP (parseV l) w) := by
  have HPV : Hid (parseV l = (noneV, 220)) := Lib.hid (parseV_miss (cutK_miss fun q h1 h2 => by rw [hP q h1 h2]; exact decide_eq_false (by omega)))
  have hk0 : 0 ≤ k0 ∧ k0 ≤ 8 := by omega
  obtain ⟨m, hm⟩ : ∃ m, m = (begB k0).length := ⟨_, rfl⟩
  have hml : m ≤ l.length := by rw [he, hm, List.length_append]; omega
  have hdr0 : l.drop m = r := by rw [he, hm, List.drop_left' rfl]
  obtain ⟨N, hN⟩ : ∃ N, N = w.heap.size := ⟨_, rfl⟩
  have HS0 : Hid (St Zf [BlkA N 25 #[.int .i64 0, .int .i64 0, .string ⟨#[]⟩, .slice none 0 0, .slice none 0 0], BlkA (N + 1) 25 #[.int .i64 0, .int .i64 0, .string ⟨#[]⟩, .slice none 0 0, .slice none 0 0]] w ((w.alloc (.cells #[.int .i64 0, .int .i64 0, .string ⟨#[]⟩, .slice none 0 0, .slice none 0 0] 25)).alloc (.cells #[.int .i64 0, .int .i64 0, .string ⟨#[]⟩, .slice none 0 0, .slice none 0 0] 25))) := Lib.hid (by rw [hN]; exact (boxes2 w 0).swap)
  have HLT := Lib.hid fun q w h => letter_any q w h
  have HPQ := Lib.hid fun q h1 h2 => pref_str l q (hP q h1 h2) h1 h2
  have hsz : (mkS l).size = l.length := mkS_size l
  have HDR : Hid (∀ p, (mkS l).extract p l.length = mkS (l.drop p)) := Lib.hid fun p => by rw [← mkS_size l]; exact mkS_drop l p
  obtain ⟨s, hs⟩ : ∃ s, s = mkS l := ⟨_, rfl⟩
  rw [← hs] at HPQ hsz
  simp only [← hs] at HDR
  rw [← hs]
  obtain ⟨n, hn⟩ : ∃ n, n = l.length := ⟨_, rfl⟩
  rw [← hn] at hsz hl hml
  simp only [← hn] at HDR
  have HX : Hid (∀ p (hp : p < n) (h' : p < s.size), ∃ x, s[p]'h' = x ∧ l.drop p = x :: l.drop (p + 1)) := Lib.hid (by
    intro p hp h'
    subst hs
    rw [hn] at hp
    exact ⟨l[p], mkS_at l p hp h', drop_cons hp⟩)
  have HNL := Lib.hid hn
  have HHN := Lib.hid hN
  have HD0 := Lib.hid hdr0
  have HM4 : m ≤ 4 := by rw [hm]; exact begB_len k0
  have HMQ := Lib.hid hm
  clear he hP hs hn hN hdr0 hm
  go_enter Tryz.func15, Tryz.ntmps15
  go_wp2_with fail
  rw [← HHN.out]
  go_loopw [5, 6, 7] (fun a b i wr => ∃ q : Nat, 1 ≤ q ∧ q ≤ 9 ∧ i = .int .i64 q ∧ Hid (a = .int .i64 (if k0 < q then k0 else 0)) ∧ Hid (b = .int .i64 (if k0 < q then (m : Int) else 0)) ∧ Hid (St Zf [BlkA N 25 #[.int .i64 0, .int .i64 0, .string ⟨#[]⟩, .slice none 0 0, .slice none 0 0], BlkA (N + 1) 25 #[.int .i64 0, .int .i64 0, .string ⟨#[]⟩, .slice none 0 0, .slice none 0 0]] w wr)) (fun _ _ i _ => 9 - (intOf i).toNat)
  case atStart => exact ⟨1, Nat.le_refl _, by decide, rfl, Lib.hid (by rw [hk]; rfl), Lib.hid (by rw [if_pos (by omega), show m = 0 from by rw [HMQ.out, hk]; rfl]; rfl), HS0⟩
  case round =>
    obtain ⟨q, hq1, hq9, rfl, HA, HB, HS⟩ := hrel
    clear HS0
    by_cases hq : q ≤ 8
    · obtain ⟨L1, hL1, hz1, hyes, hnope⟩ := HPQ.out (q : Int) (by omega) (by omega)
      have HL := Lib.hid fun w => HLT.out (q : Int) w ⟨by omega, by omega⟩
      have hq9' : (q : Int) < 9 := by omega
      have hz4 := begB_len (q : Int)
      have hno : ¬ (9223372036854775807 < L1.size + (⟨#[58]⟩ : ByteArray).size) := by
        have : (⟨#[58]⟩ : ByteArray).size = 1 := rfl
        omega
      rw [hL1] at HL
      have hz2 : (L1.size : Int) ≤ 8388608 := by omega
      by_cases hqk : (q : Int) = k0
      · obtain ⟨f1, f2⟩ := hyes hqk
        rw [← HNL.out] at f1
        have HA2 : Hid (Value.int .i64 (q : Int) = .int .i64 (if k0 < ((q + 1 : Nat) : Int) then k0 else 0)) := Lib.hid (by rw [if_pos (by omega), hqk])
        have HB2 : Hid (Value.int .i64 ((L1.size : Int) + 1) = .int .i64 (if k0 < ((q + 1 : Nat) : Int) then (m : Int) else 0)) := Lib.hid (by
          rw [if_pos (by omega), HMQ.out, ← hqk]
          have := hz1
          congr 1
          omega)
        have hcap : (0 : Int) ≤ (L1.size : Int) + 1 := by omega
        clear hyes hnope hqk HA HB hL1 hz1 hz4
        go_wp2_with fail
        refine (HL.out _).mono ?_
        rintro e w1 ⟨rfl, b1⟩
        have HS1 := Lib.hid (HS.out.below b1)
        clear b1
        go_wp2
        go_roundw
        case rel => exact ⟨q + 1, by omega, by omega, by go_num, HA2, HB2, HS1⟩
        case measure => simp [intOf]; omega
      · have HA2 : Hid (u5 = .int .i64 (if k0 < ((q + 1 : Nat) : Int) then k0 else 0)) := Lib.hid (by
          rw [HA.out]
          by_cases h : k0 < (q : Int)
          · rw [if_pos h, if_pos (by omega)]
          · rw [if_neg h, if_neg (by omega)])
        have HB2 : Hid (u6 = .int .i64 (if k0 < ((q + 1 : Nat) : Int) then (m : Int) else 0)) := Lib.hid (by
          rw [HB.out]
          by_cases h : k0 < (q : Int)
          · rw [if_pos h, if_pos (by omega)]
          · rw [if_neg h, if_neg (by omega)])
        have hcap : (0 : Int) ≤ (L1.size : Int) + 1 := by omega
        by_cases hsz3 : (L1.size : Int) + 1 ≤ (n : Int)
        · have f2 := hnope hqk (by rw [← HNL.out]; omega)
          clear hyes hnope hqk HA HB hL1 hz1 hz4
          go_wp2_with fail
          refine (HL.out _).mono ?_
          rintro e w1 ⟨rfl, b1⟩
          have HS1 := Lib.hid (HS.out.below b1)
          clear b1
          go_wp2
          go_roundw
          case rel => exact ⟨q + 1, by omega, by omega, by go_num, HA2, HB2, HS1⟩
          case measure => simp [intOf]; omega
        · have hlt : (n : Int) < (L1.size : Int) + 1 := by omega
          clear hyes hnope hqk HA HB hL1 hz1 hz4
          go_wp2_with fail
          refine (HL.out _).mono ?_
          rintro e w1 ⟨rfl, b1⟩
          have HS1 := Lib.hid (HS.out.below b1)
          clear b1
          go_wp2
          go_roundw
          case rel => exact ⟨q + 1, by omega, by omega, by go_num, HA2, HB2, HS1⟩
          case measure => simp [intOf]; omega
    · have hq0 : q = 9 := by omega
      subst hq0
      have ha := HA.out
      have hb := HB.out
      rw [if_pos (by omega)] at ha hb
      subst ha hb
      clear HA HB HPQ HLT hq hq1 hq9
      subst hk
      obtain ⟨⟨n0, n1, n2, n3, n4⟩, -, -⟩ := blk_facts (St.swap HS.out)
      obtain ⟨⟨d0, d1, d2, d3, d4⟩, g0, l1⟩ := blk_facts HS.out
      have G0 := g0 0
      have G1 := g0 1
      have G2 := g0 2
      have G3 := g0 3
      have G4 := g0 4
      clear g0

      go_wp2_with fail
      have H9 := ((((HS.out.setBlk 0 (.int .i64 0)).setBlk 1 (.int .i64 0)).setBlk 2 (.string ⟨#[]⟩)).setBlk 3 (.slice none 0 0)).setBlk 4 (.slice none 0 0)
      simp only [List.setIfInBounds_toArray, List.set_cons_zero, List.set_cons_succ] at H9
      refine bodyPost_ret (results_agg_tmp rfl _ _ N 25 _ _ rfl H9.blk Tryz.underlying25 rfl (by kernel_rfl)) rfl ?_
      rw [HPV.out]
      exact NewP.nought H9
set_option maxRecDepth 100000 in
set_option maxHeartbeats 4000000 in
theorem refParse_num (l r : Bs) (k0 : Int) (w : World) (hk1 : 1 ≤ k0) (hk2 : k0 < 4) (hl : l.length ≤ 1073741824) (he : l = begB k0 ++ r) (hP : ∀ q : Int, 1 ≤ q → q ≤ 8 → Lib.hasPrefix l (begB q) = decide (q = k0)) : Calls Tryz.prog 15 #[.string (mkS l)] w (NewP (parseV l) w) := by
  have hcut : cutK l = (k0, r, 0) := by rw [he]; exact cutK_back ⟨by omega, by omega⟩ r
  have hpv := parseV_at hcut
  have hok := readV_ok (k := k0) ⟨by omega, by omega⟩ r (by rw [he, List.length_append] at hl; omega)
  have HPV0 := Lib.hid hpv
  have HOK := Lib.hid hok
  have HRL : Hid ((mkS r).size ≤ 140737488355328) := Lib.hid (by rw [mkS_size]; rw [he, List.length_append] at hl; omega)
  clear hpv hok hcut
  have hk0 : 0 ≤ k0 ∧ k0 ≤ 8 := by omega
  obtain ⟨m, hm⟩ : ∃ m, m = (begB k0).length := ⟨_, rfl⟩
  have hml : m ≤ l.length := by rw [he, hm, List.length_append]; omega
  have hdr0 : l.drop m = r := by rw [he, hm, List.drop_left' rfl]
  obtain ⟨N, hN⟩ : ∃ N, N = w.heap.size := ⟨_, rfl⟩
  have HS0 : Hid (St Zf [BlkA N 25 #[.int .i64 0, .int .i64 0, .string ⟨#[]⟩, .slice none 0 0, .slice none 0 0], BlkA (N + 1) 25 #[.int .i64 0, .int .i64 0, .string ⟨#[]⟩, .slice none 0 0, .slice none 0 0]] w ((w.alloc (.cells #[.int .i64 0, .int .i64 0, .string ⟨#[]⟩, .slice none 0 0, .slice none 0 0] 25)).alloc (.cells #[.int .i64 0, .int .i64 0, .string ⟨#[]⟩, .slice none 0 0, .slice none 0 0] 25))) := Lib.hid (by rw [hN]; exact (boxes2 w 0).swap)
  have HLT := Lib.hid fun q w h => letter_any q w h
  have HPQ := Lib.hid fun q h1 h2 => pref_str l q (hP q h1 h2) h1 h2
  have hsz : (mkS l).size = l.length := mkS_size l
  have HDR : Hid (∀ p, (mkS l).extract p l.length = mkS (l.drop p)) := Lib.hid fun p => by rw [← mkS_size l]; exact mkS_drop l p
  obtain ⟨s, hs⟩ : ∃ s, s = mkS l := ⟨_, rfl⟩
  rw [← hs] at HPQ hsz
  simp only [← hs] at HDR
  rw [← hs]
  obtain ⟨n, hn⟩ : ∃ n, n = l.length := ⟨_, rfl⟩
  rw [← hn] at hsz hl hml
  simp only [← hn] at HDR
  have HX : Hid (∀ p (hp : p < n) (h' : p < s.size), ∃ x, s[p]'h' = x ∧ l.drop p = x :: l.drop (p + 1)) := Lib.hid (by
    intro p hp h'
    subst hs
    rw [hn] at hp
    exact ⟨l[p], mkS_at l p hp h', drop_cons hp⟩)
  have HNL := Lib.hid hn
  have HHN := Lib.hid hN
  have HD0 := Lib.hid hdr0
  have HM4 : m ≤ 4 := by rw [hm]; exact begB_len k0
  have HMQ := Lib.hid hm
  clear he hP hs hn hN hdr0 hm
  go_enter Tryz.func15, Tryz.ntmps15
  go_wp2_with fail
  rw [← HHN.out]
  go_loopw [5, 6, 7] (fun a b i wr => ∃ q : Nat, 1 ≤ q ∧ q ≤ 9 ∧ i = .int .i64 q ∧ Hid (a = .int .i64 (if k0 < q then k0 else 0)) ∧ Hid (b = .int .i64 (if k0 < q then (m : Int) else 0)) ∧ Hid (St Zf [BlkA N 25 #[.int .i64 0, .int .i64 0, .string ⟨#[]⟩, .slice none 0 0, .slice none 0 0], BlkA (N + 1) 25 #[.int .i64 0, .int .i64 0, .string ⟨#[]⟩, .slice none 0 0, .slice none 0 0]] w wr)) (fun _ _ i _ => 9 - (intOf i).toNat)
  case atStart => exact ⟨1, Nat.le_refl _, by decide, rfl, Lib.hid (by rw [if_neg (by omega)]), Lib.hid (by rw [if_neg (by omega)]), HS0⟩
  case round =>
    obtain ⟨q, hq1, hq9, rfl, HA, HB, HS⟩ := hrel
    clear HS0
    by_cases hq : q ≤ 8
    · obtain ⟨L1, hL1, hz1, hyes, hnope⟩ := HPQ.out (q : Int) (by omega) (by omega)
      have HL := Lib.hid fun w => HLT.out (q : Int) w ⟨by omega, by omega⟩
      have hq9' : (q : Int) < 9 := by omega
      have hz4 := begB_len (q : Int)
      have hno : ¬ (9223372036854775807 < L1.size + (⟨#[58]⟩ : ByteArray).size) := by
        have : (⟨#[58]⟩ : ByteArray).size = 1 := rfl
        omega
      rw [hL1] at HL
      have hz2 : (L1.size : Int) ≤ 8388608 := by omega
      by_cases hqk : (q : Int) = k0
      · obtain ⟨f1, f2⟩ := hyes hqk
        rw [← HNL.out] at f1
        have HA2 : Hid (Value.int .i64 (q : Int) = .int .i64 (if k0 < ((q + 1 : Nat) : Int) then k0 else 0)) := Lib.hid (by rw [if_pos (by omega), hqk])
        have HB2 : Hid (Value.int .i64 ((L1.size : Int) + 1) = .int .i64 (if k0 < ((q + 1 : Nat) : Int) then (m : Int) else 0)) := Lib.hid (by
          rw [if_pos (by omega), HMQ.out, ← hqk]
          have := hz1
          congr 1
          omega)
        have hcap : (0 : Int) ≤ (L1.size : Int) + 1 := by omega
        clear hyes hnope hqk HA HB hL1 hz1 hz4
        go_wp2_with fail
        refine (HL.out _).mono ?_
        rintro e w1 ⟨rfl, b1⟩
        have HS1 := Lib.hid (HS.out.below b1)
        clear b1
        go_wp2
        go_roundw
        case rel => exact ⟨q + 1, by omega, by omega, by go_num, HA2, HB2, HS1⟩
        case measure => simp [intOf]; omega
      · have HA2 : Hid (u5 = .int .i64 (if k0 < ((q + 1 : Nat) : Int) then k0 else 0)) := Lib.hid (by
          rw [HA.out]
          by_cases h : k0 < (q : Int)
          · rw [if_pos h, if_pos (by omega)]
          · rw [if_neg h, if_neg (by omega)])
        have HB2 : Hid (u6 = .int .i64 (if k0 < ((q + 1 : Nat) : Int) then (m : Int) else 0)) := Lib.hid (by
          rw [HB.out]
          by_cases h : k0 < (q : Int)
          · rw [if_pos h, if_pos (by omega)]
          · rw [if_neg h, if_neg (by omega)])
        have hcap : (0 : Int) ≤ (L1.size : Int) + 1 := by omega
        by_cases hsz3 : (L1.size : Int) + 1 ≤ (n : Int)
        · have f2 := hnope hqk (by rw [← HNL.out]; omega)
          clear hyes hnope hqk HA HB hL1 hz1 hz4
          go_wp2_with fail
          refine (HL.out _).mono ?_
          rintro e w1 ⟨rfl, b1⟩
          have HS1 := Lib.hid (HS.out.below b1)
          clear b1
          go_wp2
          go_roundw
          case rel => exact ⟨q + 1, by omega, by omega, by go_num, HA2, HB2, HS1⟩
          case measure => simp [intOf]; omega
        · have hlt : (n : Int) < (L1.size : Int) + 1 := by omega
          clear hyes hnope hqk HA HB hL1 hz1 hz4
          go_wp2_with fail
          refine (HL.out _).mono ?_
          rintro e w1 ⟨rfl, b1⟩
          have HS1 := Lib.hid (HS.out.below b1)
          clear b1
          go_wp2
          go_roundw
          case rel => exact ⟨q + 1, by omega, by omega, by go_num, HA2, HB2, HS1⟩
          case measure => simp [intOf]; omega
    · have hq0 : q = 9 := by omega
      subst hq0
      have ha := HA.out
      have hb := HB.out
      rw [if_pos (by omega)] at ha hb
      subst ha hb
      clear HA HB HPQ HLT hq hq1 hq9
      have e0 : (k0 == 0) = false := by rw [beq_eq_false_iff_ne]; omega
      have e4 : (k0 == 4) = false := by rw [beq_eq_false_iff_ne]; omega
      have hdx := HDR.out m
      rw [HD0.out] at hdx
      have HNM := Lib.hid fun w => refnum_any k0 (mkS r) w ⟨hk1, by omega⟩ HRL.out
      unfold RdN at HNM
      rw [lS_mk] at HNM
      have HRV := Lib.hid (readV_num hk2 r)
      rw [HRV.out] at HPV0 HOK
      obtain ⟨nn, hnn⟩ : ∃ nn, nn = (numR k0 r).1 := ⟨_, rfl⟩
      obtain ⟨ee, hee⟩ : ∃ ee, ee = (numR k0 r).2 := ⟨_, rfl⟩
      rw [← hnn, ← hee] at HPV0
      rw [← hnn] at HOK
      simp only [← hnn, ← hee] at HNM
      have HV5 := Lib.hid (HS.out.newBlk 25 #[.int .i64 k0, .int .i64 0, .string ⟨#[]⟩, .slice none 0 0, .slice none 0 0])
      obtain ⟨pv, hpv⟩ : ∃ pv, pv = wr.heap.size := ⟨_, rfl⟩
      rw [← hpv] at HV5
      have HPVE := Lib.hid hpv
      clear HS hpv hnn hee HRV
      by_cases hE : ee = 0
      · subst hE
        have HPV : Hid (chk ⟨k0, nn, mkS [], [], []⟩ = 0 → parseV l = (⟨k0, nn, mkS [], [], []⟩, 0)) := Lib.hid fun h => by rw [HPV0.out, if_pos rfl, if_pos h]
        have HPW : Hid (chk ⟨k0, nn, mkS [], [], []⟩ ≠ 0 → parseV l = (noneV, chk ⟨k0, nn, mkS [], [], []⟩)) := Lib.hid fun h => by rw [HPV0.out, if_pos rfl, if_neg h]
        go_wp2_with fail
        refine (HNM.out _).mono ?_
        rintro e w1 ⟨rfl, b1⟩
        have HS6 := Lib.hid (HV5.out.below b1)
        rw [← HPVE.out]
        clear b1 HV5
        obtain ⟨⟨p0, p1, p2, p3, p4⟩, pf, pl⟩ := blk_facts HS6.out
        have PF1 := pf 1
        have hs7 := HS6.out.setBlk 1 (.int .i64 nn)
        simp only [List.setIfInBounds_toArray, List.set_cons_zero, List.set_cons_succ] at hs7
        have HS7 := Lib.hid hs7
        clear pf hs7
        go_wp2_with fail
        go_loopw [6] (fun i wr => i = .int .i64 (m : Int) ∧ Hid (St Zf [BlkA pv 25 #[.int .i64 k0, .int .i64 nn, .string ⟨#[]⟩, .slice none 0 0, .slice none 0 0], BlkA N 25 #[.int .i64 0, .int .i64 0, .string ⟨#[]⟩, .slice none 0 0, .slice none 0 0], BlkA (N + 1) 25 #[.int .i64 0, .int .i64 0, .string ⟨#[]⟩, .slice none 0 0, .slice none 0 0]] w wr)) (fun _ _ => 0)
        case atStart => exact ⟨rfl, HS7⟩
        case round =>
          obtain ⟨rfl, HS8⟩ := hrel
          clear HS7
          obtain ⟨⟨p0, p1, p2, p3, p4⟩, -, -⟩ := blk_facts HS8.out
          have HCK := Lib.hid fun w' h => refCheck_any ⟨k0, nn, mkS [], [], []⟩ (.agg #[.int .i64 k0, .int .i64 nn, .string ⟨#[]⟩, .slice none 0 0, .slice none 0 0]) w'.heap.size w' h (Nat.le_refl _)
          unfold Told at HCK
          obtain ⟨C, hC⟩ : ∃ C, C = chk ⟨k0, nn, mkS [], [], []⟩ := ⟨_, rfl⟩
          rw [← hC] at HCK
          by_cases hC0 : C = 0
          · have HPE : Hid (parseV l = (⟨k0, nn, mkS [], [], []⟩, 0)) := Lib.hid (HPV.out (by rw [← hC]; exact hC0))
            subst hC0
            clear hC
            go_wp2_with fail
            refine (HCK.out _ ⟨none, 0, none, 0, rfl, RL.empty _ _ _ _, RL.empty _ _ _ _, HOK.out⟩).mono ?_
            rintro e w3 ⟨rfl, b3⟩
            have HS9 := Lib.hid (HS8.out.below b3)
            clear b3
            obtain ⟨⟨p0, p1, p2, p3, p4⟩, -, -⟩ := blk_facts HS9.out
            obtain ⟨⟨d0, d1, d2, d3, d4⟩, g0, l1⟩ := blk_facts HS9.out.swap
            have G0 := g0 0
            have G1 := g0 1
            have G2 := g0 2
            have G3 := g0 3
            have G4 := g0 4
            clear g0
            go_wp2_with fail
            have H9 := ((((HS9.out.swap.setBlk 0 (.int .i64 k0)).setBlk 1 (.int .i64 nn)).setBlk 2 (.string ⟨#[]⟩)).setBlk 3 (.slice none 0 0)).setBlk 4 (.slice none 0 0)
            simp only [List.setIfInBounds_toArray, List.set_cons_zero, List.set_cons_succ] at H9
            refine bodyPost_ret (results_agg_tmp rfl _ _ N 25 _ _ rfl H9.blk Tryz.underlying25 rfl (by kernel_rfl)) rfl ?_
            rw [HPE.out]
            exact ⟨none, 0, none, 0, rfl, St.nilOl (l := [_]) (St.nilOl (l := []) H9.none_of svl 9) ivl 2⟩
          · have HPE : Hid (parseV l = (noneV, C)) := Lib.hid (by rw [hC] at hC0 ⊢; exact HPW.out hC0)
            have hne : (C != 0) = true := by simpa using hC0
            clear hC hC0
            go_wp2_with fail
            refine (HCK.out _ ⟨none, 0, none, 0, rfl, RL.empty _ _ _ _, RL.empty _ _ _ _, HOK.out⟩).mono ?_
            rintro e w3 ⟨rfl, b3⟩
            have HS9 := Lib.hid (HS8.out.below b3)
            clear b3
            obtain ⟨⟨n0, n1, n2, n3, n4⟩, -, -⟩ := blk_facts HS9.out.bring2
            obtain ⟨⟨d0, d1, d2, d3, d4⟩, g0, l1⟩ := blk_facts HS9.out.swap
            have G0 := g0 0
            have G1 := g0 1
            have G2 := g0 2
            have G3 := g0 3
            have G4 := g0 4
            clear g0
            go_wp2_with fail
            have H9 := ((((HS9.out.swap.setBlk 0 (.int .i64 0)).setBlk 1 (.int .i64 0)).setBlk 2 (.string ⟨#[]⟩)).setBlk 3 (.slice none 0 0)).setBlk 4 (.slice none 0 0)
            simp only [List.setIfInBounds_toArray, List.set_cons_zero, List.set_cons_succ] at H9
            refine bodyPost_ret (results_agg_tmp rfl _ _ N 25 _ _ rfl H9.blk Tryz.underlying25 rfl (by kernel_rfl)) rfl ?_
            rw [HPE.out]
            exact NewP.nought H9
      · have HPE : Hid (parseV l = (noneV, ee)) := Lib.hid (by rw [HPV0.out, if_neg hE])
        have hne : (ee != 0) = true := by simpa using hE
        clear hE
        go_wp2_with fail
        refine (HNM.out _).mono ?_
        rintro e w1 ⟨rfl, b1⟩
        have HS6 := Lib.hid (HV5.out.below b1).drop
        clear b1 HV5
        obtain ⟨⟨n0, n1, n2, n3, n4⟩, -, -⟩ := blk_facts (St.swap HS6.out)
        obtain ⟨⟨d0, d1, d2, d3, d4⟩, g0, l1⟩ := blk_facts HS6.out
        have G0 := g0 0
        have G1 := g0 1
        have G2 := g0 2
        have G3 := g0 3
        have G4 := g0 4
        clear g0
        go_wp2_with fail
        have H9 := ((((HS6.out.setBlk 0 (.int .i64 0)).setBlk 1 (.int .i64 0)).setBlk 2 (.string ⟨#[]⟩)).setBlk 3 (.slice none 0 0)).setBlk 4 (.slice none 0 0)
        simp only [List.setIfInBounds_toArray, List.set_cons_zero, List.set_cons_succ] at H9
        refine bodyPost_ret (results_agg_tmp rfl _ _ N 25 _ _ rfl H9.blk Tryz.underlying25 rfl (by kernel_rfl)) rfl ?_
        rw [HPE.out]
        exact NewP.nought H9
end Go.Proofs.YthfoffcfbfmajaaGreatDoor

/- cell: the document's Parse: lists. -/
namespace Go.Proofs.YthfoffcfbfmajaaGreatDoor
open Go.RowKit
set_option linter.unusedVariables false

theorem ob_form {w : World} {e : TypeId} {v : Value} {B : Bs} (h : OB w 0 e v (nbC B)) : ∃ A c, v = .slice A B.length c := by
  obtain ⟨A, c, e, -⟩ := h.form
  rw [nbC_len] at e
  exact ⟨A, c, e⟩
theorem ob_str {w : World} {v : Value} {B : Bs} (h : OB w 0 5 v (nbC B)) : (convert 45 9 v).run Tryz.prog w = .ok (.string (mkS B)) w := by
  obtain ⟨A, c, e, -, -, hr, -⟩ := h.form
  rw [e]
  have := run_bytes_str (P := Tryz.prog) w 45 9 5 c Tryz.underlying45 Tryz.underlying5 Tryz.underlying9 hr
  rw [this, strOf_nbC]
theorem obApp {S : Fp} {l : List Ass} {w0 w : World} {e : TypeId} {v : Value} {B : Bs} {x : UInt8} (h : St S (ObA e v (nbC B ++ [x.toNat]) :: l) w0 w) : St S (ObA e v (nbC (B ++ [x])) :: l) w0 w := by
  have e : nbC (B ++ [x]) = nbC B ++ [x.toNat] := by rw [nbC_app]; rfl
  rw [e]
  exact h
/-- the list alone -/
theorem onlyOl {P Q R U : Ass} {w0 w : World} (h : St Zf [P, Q, R, U] w0 w) : St Zf [Q] w0 w := by
  have h1 := h.drop
  obtain ⟨F, ⟨G, H, g1, g2, g3, rfl⟩, h4, h5⟩ := h1
  exact ⟨_, ⟨G, fun _ => False, g1, rfl, fun _ _ h => h, rfl⟩, h4, fun k hk => by
    rcases hk with hk | hk
    · exact h5 k (.inl hk)
    · exact hk.elim⟩
set_option maxRecDepth 100000 in
set_option maxHeartbeats 4000000 in
theorem refParse_nums (l r : Bs) (k0 : Int) (w : World) (hk1 : 4 < k0) (hk2 : k0 < 8) (hl : l.length ≤ 1073741824) (he : l = begB k0 ++ r) (hP : ∀ q : Int, 1 ≤ q → q ≤ 8 → Lib.hasPrefix l (begB q) = decide (q = k0)) : Calls Tryz.prog 15 #[.string (mkS l)] w (NewP (parseV l) w) := by
  have hcut : cutK l = (k0, r, 0) := by rw [he]; exact cutK_back ⟨by omega, by omega⟩ r
  have hpv := parseV_at hcut
  have hok := readV_ok (k := k0) ⟨by omega, by omega⟩ r (by rw [he, List.length_append] at hl; omega)
  have HPV0 := Lib.hid hpv
  have HOK0 := Lib.hid hok
  have HRL : Hid (r.length ≤ 1073741824) := Lib.hid (by rw [he, List.length_append] at hl; omega)
  clear hpv hok hcut
  have hk0 : 0 ≤ k0 ∧ k0 ≤ 8 := by omega
  obtain ⟨m, hm⟩ : ∃ m, m = (begB k0).length := ⟨_, rfl⟩
  have hml : m ≤ l.length := by rw [he, hm, List.length_append]; omega
  have hdr0 : l.drop m = r := by rw [he, hm, List.drop_left' rfl]
  obtain ⟨N, hN⟩ : ∃ N, N = w.heap.size := ⟨_, rfl⟩
  have HS0 : Hid (St Zf [BlkA N 25 #[.int .i64 0, .int .i64 0, .string ⟨#[]⟩, .slice none 0 0, .slice none 0 0], BlkA (N + 1) 25 #[.int .i64 0, .int .i64 0, .string ⟨#[]⟩, .slice none 0 0, .slice none 0 0]] w ((w.alloc (.cells #[.int .i64 0, .int .i64 0, .string ⟨#[]⟩, .slice none 0 0, .slice none 0 0] 25)).alloc (.cells #[.int .i64 0, .int .i64 0, .string ⟨#[]⟩, .slice none 0 0, .slice none 0 0] 25))) := Lib.hid (by rw [hN]; exact (boxes2 w 0).swap)
  have HLT := Lib.hid fun q w h => letter_any q w h
  have HPQ := Lib.hid fun q h1 h2 => pref_str l q (hP q h1 h2) h1 h2
  have hsz : (mkS l).size = l.length := mkS_size l
  have HDR : Hid (∀ p, (mkS l).extract p l.length = mkS (l.drop p)) := Lib.hid fun p => by rw [← mkS_size l]; exact mkS_drop l p
  obtain ⟨s, hs⟩ : ∃ s, s = mkS l := ⟨_, rfl⟩
  rw [← hs] at HPQ hsz
  simp only [← hs] at HDR
  rw [← hs]
  obtain ⟨n, hn⟩ : ∃ n, n = l.length := ⟨_, rfl⟩
  rw [← hn] at hsz hl hml
  simp only [← hn] at HDR
  have HX : Hid (∀ p (hp : p < n) (h' : p < s.size), ∃ x, s[p]'h' = x ∧ l.drop p = x :: l.drop (p + 1)) := Lib.hid (by
    intro p hp h'
    subst hs
    rw [hn] at hp
    exact ⟨l[p], mkS_at l p hp h', drop_cons hp⟩)
  have HNL := Lib.hid hn
  have HHN := Lib.hid hN
  have HD0 := Lib.hid hdr0
  have HM4 : m ≤ 4 := by rw [hm]; exact begB_len k0
  have HMQ := Lib.hid hm
  clear he hP hs hn hN hdr0 hm
  go_enter Tryz.func15, Tryz.ntmps15
  go_wp2_with fail
  rw [← HHN.out]
  go_loopw [5, 6, 7] (fun a b i wr => ∃ q : Nat, 1 ≤ q ∧ q ≤ 9 ∧ i = .int .i64 q ∧ Hid (a = .int .i64 (if k0 < q then k0 else 0)) ∧ Hid (b = .int .i64 (if k0 < q then (m : Int) else 0)) ∧ Hid (St Zf [BlkA N 25 #[.int .i64 0, .int .i64 0, .string ⟨#[]⟩, .slice none 0 0, .slice none 0 0], BlkA (N + 1) 25 #[.int .i64 0, .int .i64 0, .string ⟨#[]⟩, .slice none 0 0, .slice none 0 0]] w wr)) (fun _ _ i _ => 9 - (intOf i).toNat)
  case atStart => exact ⟨1, Nat.le_refl _, by decide, rfl, Lib.hid (by rw [if_neg (by omega)]), Lib.hid (by rw [if_neg (by omega)]), HS0⟩
  case round =>
    obtain ⟨q, hq1, hq9, rfl, HA, HB, HS⟩ := hrel
    clear HS0
    by_cases hq : q ≤ 8
    · obtain ⟨L1, hL1, hz1, hyes, hnope⟩ := HPQ.out (q : Int) (by omega) (by omega)
      have HL := Lib.hid fun w => HLT.out (q : Int) w ⟨by omega, by omega⟩
      have hq9' : (q : Int) < 9 := by omega
      have hz4 := begB_len (q : Int)
      have hno : ¬ (9223372036854775807 < L1.size + (⟨#[58]⟩ : ByteArray).size) := by
        have : (⟨#[58]⟩ : ByteArray).size = 1 := rfl
        omega
      rw [hL1] at HL
      have hz2 : (L1.size : Int) ≤ 8388608 := by omega
      by_cases hqk : (q : Int) = k0
      · obtain ⟨f1, f2⟩ := hyes hqk
        rw [← HNL.out] at f1
        have HA2 : Hid (Value.int .i64 (q : Int) = .int .i64 (if k0 < ((q + 1 : Nat) : Int) then k0 else 0)) := Lib.hid (by rw [if_pos (by omega), hqk])
        have HB2 : Hid (Value.int .i64 ((L1.size : Int) + 1) = .int .i64 (if k0 < ((q + 1 : Nat) : Int) then (m : Int) else 0)) := Lib.hid (by
          rw [if_pos (by omega), HMQ.out, ← hqk]
          have := hz1
          congr 1
          omega)
        have hcap : (0 : Int) ≤ (L1.size : Int) + 1 := by omega
        clear hyes hnope hqk HA HB hL1 hz1 hz4
        go_wp2_with fail
        refine (HL.out _).mono ?_
        rintro e w1 ⟨rfl, b1⟩
        have HS1 := Lib.hid (HS.out.below b1)
        clear b1
        go_wp2
        go_roundw
        case rel => exact ⟨q + 1, by omega, by omega, by go_num, HA2, HB2, HS1⟩
        case measure => simp [intOf]; omega
      · have HA2 : Hid (u5 = .int .i64 (if k0 < ((q + 1 : Nat) : Int) then k0 else 0)) := Lib.hid (by
          rw [HA.out]
          by_cases h : k0 < (q : Int)
          · rw [if_pos h, if_pos (by omega)]
          · rw [if_neg h, if_neg (by omega)])
        have HB2 : Hid (u6 = .int .i64 (if k0 < ((q + 1 : Nat) : Int) then (m : Int) else 0)) := Lib.hid (by
          rw [HB.out]
          by_cases h : k0 < (q : Int)
          · rw [if_pos h, if_pos (by omega)]
          · rw [if_neg h, if_neg (by omega)])
        have hcap : (0 : Int) ≤ (L1.size : Int) + 1 := by omega
        by_cases hsz3 : (L1.size : Int) + 1 ≤ (n : Int)
        · have f2 := hnope hqk (by rw [← HNL.out]; omega)
          clear hyes hnope hqk HA HB hL1 hz1 hz4
          go_wp2_with fail
          refine (HL.out _).mono ?_
          rintro e w1 ⟨rfl, b1⟩
          have HS1 := Lib.hid (HS.out.below b1)
          clear b1
          go_wp2
          go_roundw
          case rel => exact ⟨q + 1, by omega, by omega, by go_num, HA2, HB2, HS1⟩
          case measure => simp [intOf]; omega
        · have hlt : (n : Int) < (L1.size : Int) + 1 := by omega
          clear hyes hnope hqk HA HB hL1 hz1 hz4
          go_wp2_with fail
          refine (HL.out _).mono ?_
          rintro e w1 ⟨rfl, b1⟩
          have HS1 := Lib.hid (HS.out.below b1)
          clear b1
          go_wp2
          go_roundw
          case rel => exact ⟨q + 1, by omega, by omega, by go_num, HA2, HB2, HS1⟩
          case measure => simp [intOf]; omega
    · have hq0 : q = 9 := by omega
      subst hq0
      have ha := HA.out
      have hb := HB.out
      rw [if_pos (by omega)] at ha hb
      subst ha hb
      clear HA HB HPQ HLT hq hq1 hq9
      obtain ⟨i0, hi, hz0, hz1, hz2⟩ := info_parts u8_info
      obtain ⟨j0, hj, hy0, hy1, hy2⟩ := info_parts i64_info
      have e0 : (k0 == 0) = false := by rw [beq_eq_false_iff_ne]; omega
      have e4 : (k0 == 4) = false := by rw [beq_eq_false_iff_ne]; omega
      have e8 : (k0 == 8) = false := by rw [beq_eq_false_iff_ne]; omega
      have hn4 : ¬ k0 < 4 := by omega
      have hkw : IntKind.i64.wrap (k0 - 4) = k0 - 4 := by rw [IntKind.wrap_i64]; omega
      have hkw2 : wrap64 (k0 - 4) = k0 - 4 := by unfold wrap64; omega
      have HRV := Lib.hid (readV_nums hk1 hk2 r)
      rw [HRV.out] at HPV0 HOK0
      have HERR : Hid (∀ e, readN (numR (k0 - 4)) r = ([], e) → e ≠ 0 → parseV l = (noneV, e)) := Lib.hid fun e h h2 => by rw [HPV0.out, h, if_neg h2]
      have HGOOD : Hid (∀ L, readN (numR (k0 - 4)) r = (L, 0) → Vok ⟨k0, 0, mkS [], L, []⟩ ∧ (chk ⟨k0, 0, mkS [], L, []⟩ = 0 → parseV l = (⟨k0, 0, mkS [], L, []⟩, 0)) ∧ (chk ⟨k0, 0, mkS [], L, []⟩ ≠ 0 → parseV l = (noneV, chk ⟨k0, 0, mkS [], L, []⟩))) := Lib.hid fun L h => by
        have h1 := HOK0.out
        have h2 := HPV0.out
        rw [h] at h1 h2
        exact ⟨h1, fun h3 => by rw [h2, if_pos rfl, if_pos h3], fun h3 => by rw [h2, if_pos rfl, if_neg h3]⟩
      have HNM : Hid (∀ B w, B.length ≤ 1073741824 → Calls Tryz.prog 23 #[.int .i64 (k0 - 4), .string (mkS B)] w (RdN (numR (k0 - 4) B) w)) := Lib.hid fun B w h => refnum_any (k0 - 4) (mkS B) w ⟨by omega, by omega⟩ (by rw [mkS_size]; omega)
      unfold RdN at HNM
      have HV5 := Lib.hid (St.nilOl (HS.out.newBlk 25 #[.int .i64 k0, .int .i64 0, .string ⟨#[]⟩, .slice none 0 0, .slice none 0 0]) ivl 2)
      obtain ⟨pv, hpv⟩ : ∃ pv, pv = wr.heap.size := ⟨_, rfl⟩
      rw [← hpv] at HV5
      have HPVE := Lib.hid hpv
      clear HS hpv HRV HPV0 HOK0
      go_wp2_with fail
      rw [← HPVE.out]
      go_loopw [6] (fun i wr => ∃ (t : Nat) (L : List Int) (A : Option Addr) (c : Nat), t ≤ n ∧ i = .int .i64 t ∧ Hid (NumsAt (numR (k0 - 4)) r L (l.drop t)) ∧ Hid (St Zf [OlA ivl 2 (.slice A L.length c) L, BlkA pv 25 #[.int .i64 k0, .int .i64 0, .string ⟨#[]⟩, .slice A L.length c, .slice none 0 0], BlkA N 25 #[.int .i64 0, .int .i64 0, .string ⟨#[]⟩, .slice none 0 0, .slice none 0 0], BlkA (N + 1) 25 #[.int .i64 0, .int .i64 0, .string ⟨#[]⟩, .slice none 0 0, .slice none 0 0]] w wr)) (fun i _ => n - (intOf i).toNat)
      case atStart => exact ⟨m, [], none, 0, hml, rfl, Lib.hid (by rw [HD0.out]; exact NumsAt.start _ _), HV5⟩
      case round =>
        obtain ⟨t, L, A, c, ht, rfl, HN, HS⟩ := hrel
        clear HV5
        obtain ⟨⟨p0, p1, p2, p3, p4⟩, -, -⟩ := blk_facts HS.out.swap
        by_cases htn : t < n
        · have htn' : (t : Int) < (n : Int) := by omega
          have HSb := Lib.hid (HS.out.newNilB 5 (rfl : wr.heap.size = wr.heap.size))
          have HRL2 : Hid (L.length ≤ 1073741824) := Lib.hid (by have h1 := HN.out.2; have h2 := HRL.out; omega)
          go_wp2_with fail
          go_loopw [6, 12] (fun i b wq => ∃ (q : Nat) (B : Bs) (Ab : Option Addr) (cb : Nat), q ≤ n ∧ i = .int .i64 q ∧ b = .slice Ab B.length cb ∧ Hid (l.drop t = B ++ l.drop q ∧ (59 : UInt8) ∉ B ∧ t + B.length = q) ∧ Hid (St Zf [ObA 5 (.slice Ab B.length cb) (nbC B), OlA ivl 2 (.slice A L.length c) L, BlkA pv 25 #[.int .i64 k0, .int .i64 0, .string ⟨#[]⟩, .slice A L.length c, .slice none 0 0], BlkA N 25 #[.int .i64 0, .int .i64 0, .string ⟨#[]⟩, .slice none 0 0, .slice none 0 0], BlkA (N + 1) 25 #[.int .i64 0, .int .i64 0, .string ⟨#[]⟩, .slice none 0 0, .slice none 0 0]] w wq)) (fun i _ _ => n - (intOf i).toNat)
          case atStart => exact ⟨t, [], some ⟨wr.heap.size, 0, none⟩, 0, ht, rfl, rfl, Lib.hid ⟨rfl, by simp, rfl⟩, HSb⟩
          case round =>
            obtain ⟨q, B, Ab, cb, hq, rfl, rfl, HQ, HSI⟩ := hrel
            clear HSb HS p0 p1 p2 p3 p4
            obtain ⟨⟨p0, p1, p2, p3, p4⟩, pf, -⟩ := blk_facts HSI.out.bring2
            have hBl : B.length ≤ n := by have := HQ.out.2.2; omega
            have HLB : Hid ((nbC B).length + 1 ≤ 140737488355328) := Lib.hid (by rw [nbC_len]; omega)
            by_cases hqn : q < n
            · have hqs : q < s.size := by omega
              have hqn' : (q : Int) < (n : Int) := by omega
              obtain ⟨x, hx, hdr⟩ := HX.out q hqn hqs
              by_cases h59 : x = 59
              · have b59 : ((x.toNat : Int) != 59) = false := by rw [h59]; decide
                have htq : t ≤ q := by have := HQ.out.2.2; omega
                have bqn : ((q : Int) == (n : Int)) = false := by rw [beq_eq_false_iff_ne]; omega
                have hcs := ob_str HSI.out.ob
                have hN2 : NumsAt (numR (k0 - 4)) r L (B ++ 59 :: l.drop (q + 1)) := by
                  have h1 := HQ.out.1
                  rw [hdr, h59] at h1
                  rw [← h1]
                  exact HN.out
                have HNX := Lib.hid fun h => hN2.next HQ.out.2.1 h
                have HBD := Lib.hid fun h => hN2.bad HQ.out.2.1 h
                have HNB := Lib.hid fun w => HNM.out B w (by omega)
                obtain ⟨nn, hnn⟩ : ∃ nn, nn = (numR (k0 - 4) B).1 := ⟨_, rfl⟩
                obtain ⟨ee, hee⟩ : ∃ ee, ee = (numR (k0 - 4) B).2 := ⟨_, rfl⟩
                rw [← hee] at HBD
                simp only [← hnn, ← hee] at HNB HNX
                clear hnn hee hN2 h59 hdr
                by_cases hE : ee = 0
                · subst hE
                  have HN3 := Lib.hid (HNX.out rfl)
                  have hby : (L.length + 1) * 8 ≤ 140737488355328 := by have := HRL2.out; omega
                  clear HNX HBD HN HQ
                  go_wp2_with fail
                  refine (HNB.out _).mono ?_
                  rintro e w1 ⟨rfl, b1⟩
                  have HS6 := Lib.hid (HSI.out.below b1).drop
                  clear b1 HSI p0 p1 p2 p3 p4 pf hcs
                  obtain ⟨⟨p0, p1, p2, p3, p4⟩, pf, -⟩ := blk_facts HS6.out.swap
                  have PF3 := pf 3
                  clear pf
                  go_wp2_with (at_builtin; refine wpList_append_elemN _ rfl _ _ 22 rfl 0 2 j0 _ 8 Tryz.underlying22 hj hy0 hy1 hy2 rfl _ L (by rfl) HS6.out.ol nn (ivl_ok nn) _ rfl (by rfl) hby (by omega) (Nat.zero_le _) ?_; intro v7 w7 hown7 hg7 hat7; have h7 := HS6.out.grewOl hown7 hg7 hat7 (by simp); obtain ⟨O, hO⟩ : ∃ O, O = L ++ [nn] := ⟨_, rfl⟩; rw [← hO] at hown7 h7 HN3; obtain ⟨A7, c7, rfl, -, -, -, -⟩ := hown7.form; obtain ⟨⟨p0, p1, p2, p3, p4⟩, pf, -⟩ := blk_facts h7.swap; have PF3 := pf 3; have h8 := (h7.swap.setBlk 3 (.slice A7 O.length c7)).swap; simp only [List.setIfInBounds_toArray, List.set_cons_zero, List.set_cons_succ] at h8; have H8 := Lib.hid h8; clear hown7 hg7 hat7 h7 h8 hO pf)
                  go_roundw
                  case rel => exact ⟨q + 1, O, A7, c7, by omega, by go_num, HN3, H8⟩
                  case measure => simp [intOf]; omega
                · have HPE : Hid (parseV l = (noneV, ee)) := Lib.hid (HERR.out ee (HBD.out hE) hE)
                  have hne : (ee != 0) = true := by simpa using hE
                  clear hE HNX HBD HN HQ
                  go_wp2_with fail
                  refine (HNB.out _).mono ?_
                  rintro e w1 ⟨rfl, b1⟩
                  have HS6 := Lib.hid (HSI.out.below b1).drop.drop.drop
                  clear b1 HSI p0 p1 p2 p3 p4 pf hcs
                  obtain ⟨⟨n0, n1, n2, n3, n4⟩, -, -⟩ := blk_facts (St.swap HS6.out)
                  obtain ⟨⟨d0, d1, d2, d3, d4⟩, g0, l1⟩ := blk_facts HS6.out
                  have G0 := g0 0
                  have G1 := g0 1
                  have G2 := g0 2
                  have G3 := g0 3
                  have G4 := g0 4
                  clear g0
                  go_wp2_with fail
                  have H9 := ((((HS6.out.setBlk 0 (.int .i64 0)).setBlk 1 (.int .i64 0)).setBlk 2 (.string ⟨#[]⟩)).setBlk 3 (.slice none 0 0)).setBlk 4 (.slice none 0 0)
                  simp only [List.setIfInBounds_toArray, List.set_cons_zero, List.set_cons_succ] at H9
                  refine bodyPost_ret (results_agg_tmp rfl _ _ N 25 _ _ rfl H9.blk Tryz.underlying25 rfl (by kernel_rfl)) rfl ?_
                  rw [HPE.out]
                  exact NewP.nought H9
              · have b59 : ((x.toNat : Int) != 59) = true := byte_bne h59
                have HQ2 : Hid (l.drop t = (B ++ [x]) ++ l.drop (q + 1) ∧ (59 : UInt8) ∉ B ++ [x] ∧ t + (B ++ [x]).length = q + 1) := Lib.hid (by
                  obtain ⟨h1, h2, h3⟩ := HQ.out
                  refine ⟨by rw [h1, hdr]; simp, ?_, by rw [List.length_append, List.length_singleton]; omega⟩
                  intro hm
                  rcases List.mem_append.1 hm with hm | hm
                  · exact h2 hm
                  · rw [List.mem_singleton] at hm
                    exact h59 hm.symm)
                clear h59 hdr HQ pf
                go_wp2_with (at_builtin; refine wpList_append_lit8 _ rfl _ _ 45 rfl 0 5 i0 Tryz.underlying45 hi hz0 hz1 hz2 _ (nbC B) x.toNat (by rfl) HSI.out.ob (by rfl) x.toNat rfl (UInt8.toNat_lt _) HLB.out (Nat.zero_le _) ?_; intro vb wb hownb hgb hatb; have hb := HSI.out.grewOb hownb hgb hatb (Nat.le_succ _); have hb2 := obApp hb; obtain ⟨Ab2, cb2, rfl⟩ := ob_form hb2.ob; have HB2 := Lib.hid hb2; clear hownb hgb hatb hb hb2)
                go_roundw
                case rel => exact ⟨q + 1, B ++ [x], Ab2, cb2, by omega, by go_num, by simp, HQ2, HB2⟩
                case measure => simp [intOf]; omega
            · have hqe : q = n := by omega
              subst hqe
              have HPE : Hid (parseV l = (noneV, 220)) := Lib.hid (HERR.out 220 (by
                obtain ⟨h1, h2, h3⟩ := HQ.out
                have h4 : l.drop q = [] := by rw [HNL.out, List.drop_length]
                rw [h4, List.append_nil] at h1
                refine HN.out.lost ?_ (by rw [h1]; exact h2)
                rw [h1]
                intro h5
                rw [h5] at h3
                simp at h3
                omega) (by decide))
              have HS6 := Lib.hid HSI.out.drop.drop.drop
              clear HSI p0 p1 p2 p3 p4 pf HN HQ
              obtain ⟨⟨n0, n1, n2, n3, n4⟩, -, -⟩ := blk_facts (St.swap HS6.out)
              obtain ⟨⟨d0, d1, d2, d3, d4⟩, g0, l1⟩ := blk_facts HS6.out
              have G0 := g0 0
              have G1 := g0 1
              have G2 := g0 2
              have G3 := g0 3
              have G4 := g0 4
              clear g0
              go_wp2_with fail
              have H9 := ((((HS6.out.setBlk 0 (.int .i64 0)).setBlk 1 (.int .i64 0)).setBlk 2 (.string ⟨#[]⟩)).setBlk 3 (.slice none 0 0)).setBlk 4 (.slice none 0 0)
              simp only [List.setIfInBounds_toArray, List.set_cons_zero, List.set_cons_succ] at H9
              refine bodyPost_ret (results_agg_tmp rfl _ _ N 25 _ _ rfl H9.blk Tryz.underlying25 rfl (by kernel_rfl)) rfl ?_
              rw [HPE.out]
              exact NewP.nought H9
        · have hte : t = n := by omega
          subst hte
          obtain ⟨HOK, HPV, HPW⟩ := HGOOD.out L (by
            have h1 := HN.out
            rw [show l.drop t = [] from by rw [HNL.out, List.drop_length]] at h1
            exact h1.done)
          have HOK := Lib.hid HOK
          have HPV := Lib.hid HPV
          have HPW := Lib.hid HPW
          have HS8 := HS
          clear HS HN
          have HCK := Lib.hid fun w' h => refCheck_any ⟨k0, 0, mkS [], L, []⟩ (.agg #[.int .i64 k0, .int .i64 0, .string ⟨#[]⟩, .slice A L.length c, .slice none 0 0]) w'.heap.size w' h (Nat.le_refl _)
          unfold Told at HCK
          obtain ⟨C, hC⟩ : ∃ C, C = chk ⟨k0, 0, mkS [], L, []⟩ := ⟨_, rfl⟩
          rw [← hC] at HCK
          by_cases hC0 : C = 0
          · have HPE : Hid (parseV l = (⟨k0, 0, mkS [], L, []⟩, 0)) := Lib.hid (HPV.out (by rw [← hC]; exact hC0))
            subst hC0
            clear hC
            go_wp2_with fail
            refine (HCK.out _ ⟨A, c, none, 0, rfl, HS8.out.ol.reads.2.1, RL.empty _ _ _ _, HOK.out⟩).mono ?_
            rintro e w3 ⟨rfl, b3⟩
            have HS9 := Lib.hid (HS8.out.below b3)
            clear b3
            obtain ⟨⟨p0, p1, p2, p3, p4⟩, -, -⟩ := blk_facts HS9.out.swap
            obtain ⟨⟨d0, d1, d2, d3, d4⟩, g0, l1⟩ := blk_facts HS9.out.bring2
            have G0 := g0 0
            have G1 := g0 1
            have G2 := g0 2
            have G3 := g0 3
            have G4 := g0 4
            clear g0
            go_wp2_with fail
            have H9 := ((((HS9.out.bring2.setBlk 0 (.int .i64 k0)).setBlk 1 (.int .i64 0)).setBlk 2 (.string ⟨#[]⟩)).setBlk 3 (.slice A L.length c)).setBlk 4 (.slice none 0 0)
            simp only [List.setIfInBounds_toArray, List.set_cons_zero, List.set_cons_succ] at H9
            refine bodyPost_ret (results_agg_tmp rfl _ _ N 25 _ _ rfl H9.blk Tryz.underlying25 rfl (by kernel_rfl)) rfl ?_
            rw [HPE.out]
            exact ⟨A, c, none, 0, rfl, (St.nilOl (l := [_]) (onlyOl H9) svl 9).swap⟩
          · have HPE : Hid (parseV l = (noneV, C)) := Lib.hid (by rw [hC] at hC0 ⊢; exact HPW.out hC0)
            have hne : (C != 0) = true := by simpa using hC0
            clear hC hC0
            go_wp2_with fail
            refine (HCK.out _ ⟨A, c, none, 0, rfl, HS8.out.ol.reads.2.1, RL.empty _ _ _ _, HOK.out⟩).mono ?_
            rintro e w3 ⟨rfl, b3⟩
            have HS9 := Lib.hid (HS8.out.below b3)
            clear b3
            obtain ⟨⟨n0, n1, n2, n3, n4⟩, -, -⟩ := blk_facts HS9.out.bring3
            obtain ⟨⟨d0, d1, d2, d3, d4⟩, g0, l1⟩ := blk_facts HS9.out.bring2
            have G0 := g0 0
            have G1 := g0 1
            have G2 := g0 2
            have G3 := g0 3
            have G4 := g0 4
            clear g0
            go_wp2_with fail
            have H9 := ((((HS9.out.bring2.setBlk 0 (.int .i64 0)).setBlk 1 (.int .i64 0)).setBlk 2 (.string ⟨#[]⟩)).setBlk 3 (.slice none 0 0)).setBlk 4 (.slice none 0 0)
            simp only [List.setIfInBounds_toArray, List.set_cons_zero, List.set_cons_succ] at H9
            refine bodyPost_ret (results_agg_tmp rfl _ _ N 25 _ _ rfl H9.blk Tryz.underlying25 rfl (by kernel_rfl)) rfl ?_
            rw [HPE.out]
            exact NewP.nought H9
end Go.Proofs.YthfoffcfbfmajaaGreatDoor

/- cell: the document's Parse: a text. -/
namespace Go.Proofs.YthfoffcfbfmajaaGreatDoor
open Go.RowKit
set_option linter.unusedVariables false

set_option maxRecDepth 100000 in
set_option maxHeartbeats 4000000 in
theorem refParse_text (l r : Bs) (k0 : Int) (w : World) (hk : k0 = 4) (hl : l.length ≤ 1073741824) (he : l = begB k0 ++ r) (hP : ∀ q : Int, 1 ≤ q → q ≤ 8 → Lib.hasPrefix l (begB q) = decide (q = k0)) : Calls Tryz.prog 15 #[.string (mkS l)] w (NewP (parseV l) w) := by
  have hcut : cutK l = (k0, r, 0) := by rw [he]; exact cutK_back ⟨by omega, by omega⟩ r
  have hpv := parseV_at hcut
  have hok := readV_ok (k := k0) ⟨by omega, by omega⟩ r (by rw [he, List.length_append] at hl; omega)
  have HPV0 := Lib.hid hpv
  have HOK0 := Lib.hid hok
  have HRL : Hid (r.length ≤ 1073741824) := Lib.hid (by rw [he, List.length_append] at hl; omega)
  clear hpv hok hcut
  have hk0 : 0 ≤ k0 ∧ k0 ≤ 8 := by omega
  obtain ⟨m, hm⟩ : ∃ m, m = (begB k0).length := ⟨_, rfl⟩
  have hml : m ≤ l.length := by rw [he, hm, List.length_append]; omega
  have hdr0 : l.drop m = r := by rw [he, hm, List.drop_left' rfl]
  obtain ⟨N, hN⟩ : ∃ N, N = w.heap.size := ⟨_, rfl⟩
  have HS0 : Hid (St Zf [BlkA N 25 #[.int .i64 0, .int .i64 0, .string ⟨#[]⟩, .slice none 0 0, .slice none 0 0], BlkA (N + 1) 25 #[.int .i64 0, .int .i64 0, .string ⟨#[]⟩, .slice none 0 0, .slice none 0 0]] w ((w.alloc (.cells #[.int .i64 0, .int .i64 0, .string ⟨#[]⟩, .slice none 0 0, .slice none 0 0] 25)).alloc (.cells #[.int .i64 0, .int .i64 0, .string ⟨#[]⟩, .slice none 0 0, .slice none 0 0] 25))) := Lib.hid (by rw [hN]; exact (boxes2 w 0).swap)
  have HLT := Lib.hid fun q w h => letter_any q w h
  have HPQ := Lib.hid fun q h1 h2 => pref_str l q (hP q h1 h2) h1 h2
  have hsz : (mkS l).size = l.length := mkS_size l
  have HDR : Hid (∀ p, (mkS l).extract p l.length = mkS (l.drop p)) := Lib.hid fun p => by rw [← mkS_size l]; exact mkS_drop l p
  obtain ⟨s, hs⟩ : ∃ s, s = mkS l := ⟨_, rfl⟩
  rw [← hs] at HPQ hsz
  simp only [← hs] at HDR
  rw [← hs]
  obtain ⟨n, hn⟩ : ∃ n, n = l.length := ⟨_, rfl⟩
  rw [← hn] at hsz hl hml
  simp only [← hn] at HDR
  have HX : Hid (∀ p (hp : p < n) (h' : p < s.size), ∃ x, s[p]'h' = x ∧ l.drop p = x :: l.drop (p + 1)) := Lib.hid (by
    intro p hp h'
    subst hs
    rw [hn] at hp
    exact ⟨l[p], mkS_at l p hp h', drop_cons hp⟩)
  have HNL := Lib.hid hn
  have HHN := Lib.hid hN
  have HD0 := Lib.hid hdr0
  have HM4 : m ≤ 4 := by rw [hm]; exact begB_len k0
  have HMQ := Lib.hid hm
  clear he hP hs hn hN hdr0 hm
  go_enter Tryz.func15, Tryz.ntmps15
  go_wp2_with fail
  rw [← HHN.out]
  go_loopw [5, 6, 7] (fun a b i wr => ∃ q : Nat, 1 ≤ q ∧ q ≤ 9 ∧ i = .int .i64 q ∧ Hid (a = .int .i64 (if k0 < q then k0 else 0)) ∧ Hid (b = .int .i64 (if k0 < q then (m : Int) else 0)) ∧ Hid (St Zf [BlkA N 25 #[.int .i64 0, .int .i64 0, .string ⟨#[]⟩, .slice none 0 0, .slice none 0 0], BlkA (N + 1) 25 #[.int .i64 0, .int .i64 0, .string ⟨#[]⟩, .slice none 0 0, .slice none 0 0]] w wr)) (fun _ _ i _ => 9 - (intOf i).toNat)
  case atStart => exact ⟨1, Nat.le_refl _, by decide, rfl, Lib.hid (by rw [if_neg (by omega)]), Lib.hid (by rw [if_neg (by omega)]), HS0⟩
  case round =>
    obtain ⟨q, hq1, hq9, rfl, HA, HB, HS⟩ := hrel
    clear HS0
    by_cases hq : q ≤ 8
    · obtain ⟨L1, hL1, hz1, hyes, hnope⟩ := HPQ.out (q : Int) (by omega) (by omega)
      have HL := Lib.hid fun w => HLT.out (q : Int) w ⟨by omega, by omega⟩
      have hq9' : (q : Int) < 9 := by omega
      have hz4 := begB_len (q : Int)
      have hno : ¬ (9223372036854775807 < L1.size + (⟨#[58]⟩ : ByteArray).size) := by
        have : (⟨#[58]⟩ : ByteArray).size = 1 := rfl
        omega
      rw [hL1] at HL
      have hz2 : (L1.size : Int) ≤ 8388608 := by omega
      by_cases hqk : (q : Int) = k0
      · obtain ⟨f1, f2⟩ := hyes hqk
        rw [← HNL.out] at f1
        have HA2 : Hid (Value.int .i64 (q : Int) = .int .i64 (if k0 < ((q + 1 : Nat) : Int) then k0 else 0)) := Lib.hid (by rw [if_pos (by omega), hqk])
        have HB2 : Hid (Value.int .i64 ((L1.size : Int) + 1) = .int .i64 (if k0 < ((q + 1 : Nat) : Int) then (m : Int) else 0)) := Lib.hid (by
          rw [if_pos (by omega), HMQ.out, ← hqk]
          have := hz1
          congr 1
          omega)
        have hcap : (0 : Int) ≤ (L1.size : Int) + 1 := by omega
        clear hyes hnope hqk HA HB hL1 hz1 hz4
        go_wp2_with fail
        refine (HL.out _).mono ?_
        rintro e w1 ⟨rfl, b1⟩
        have HS1 := Lib.hid (HS.out.below b1)
        clear b1
        go_wp2
        go_roundw
        case rel => exact ⟨q + 1, by omega, by omega, by go_num, HA2, HB2, HS1⟩
        case measure => simp [intOf]; omega
      · have HA2 : Hid (u5 = .int .i64 (if k0 < ((q + 1 : Nat) : Int) then k0 else 0)) := Lib.hid (by
          rw [HA.out]
          by_cases h : k0 < (q : Int)
          · rw [if_pos h, if_pos (by omega)]
          · rw [if_neg h, if_neg (by omega)])
        have HB2 : Hid (u6 = .int .i64 (if k0 < ((q + 1 : Nat) : Int) then (m : Int) else 0)) := Lib.hid (by
          rw [HB.out]
          by_cases h : k0 < (q : Int)
          · rw [if_pos h, if_pos (by omega)]
          · rw [if_neg h, if_neg (by omega)])
        have hcap : (0 : Int) ≤ (L1.size : Int) + 1 := by omega
        by_cases hsz3 : (L1.size : Int) + 1 ≤ (n : Int)
        · have f2 := hnope hqk (by rw [← HNL.out]; omega)
          clear hyes hnope hqk HA HB hL1 hz1 hz4
          go_wp2_with fail
          refine (HL.out _).mono ?_
          rintro e w1 ⟨rfl, b1⟩
          have HS1 := Lib.hid (HS.out.below b1)
          clear b1
          go_wp2
          go_roundw
          case rel => exact ⟨q + 1, by omega, by omega, by go_num, HA2, HB2, HS1⟩
          case measure => simp [intOf]; omega
        · have hlt : (n : Int) < (L1.size : Int) + 1 := by omega
          clear hyes hnope hqk HA HB hL1 hz1 hz4
          go_wp2_with fail
          refine (HL.out _).mono ?_
          rintro e w1 ⟨rfl, b1⟩
          have HS1 := Lib.hid (HS.out.below b1)
          clear b1
          go_wp2
          go_roundw
          case rel => exact ⟨q + 1, by omega, by omega, by go_num, HA2, HB2, HS1⟩
          case measure => simp [intOf]; omega
    · have hq0 : q = 9 := by omega
      subst hq0
      have ha := HA.out
      have hb := HB.out
      rw [if_pos (by omega)] at ha hb
      subst ha hb
      clear HA HB HPQ HLT hq hq1 hq9
      have e0 : (k0 == 0) = false := by rw [beq_eq_false_iff_ne]; omega
      have e4 : (k0 == 4) = true := by rw [beq_iff_eq]; exact hk
      have hn4 : ¬ k0 < 4 := by omega
      have hng : ¬ 4 < k0 := by omega
      have hdx := HDR.out m
      rw [HD0.out] at hdx
      have HRV : Hid (readV k0 r = (⟨k0, 0, mkS r, [], []⟩, 0)) := Lib.hid (by rw [hk]; rfl)
      rw [HRV.out] at HPV0 HOK0
      have HOK := Lib.hid HOK0.out
      have HV5 := Lib.hid (HS.out.newBlk 25 #[.int .i64 k0, .int .i64 0, .string ⟨#[]⟩, .slice none 0 0, .slice none 0 0])
      obtain ⟨pv, hpv⟩ : ∃ pv, pv = wr.heap.size := ⟨_, rfl⟩
      rw [← hpv] at HV5
      have HPVE := Lib.hid hpv
      have HPV : Hid (chk ⟨k0, 0, mkS r, [], []⟩ = 0 → parseV l = (⟨k0, 0, mkS r, [], []⟩, 0)) := Lib.hid fun h => by rw [HPV0.out, if_pos rfl, if_pos h]
      have HPW : Hid (chk ⟨k0, 0, mkS r, [], []⟩ ≠ 0 → parseV l = (noneV, chk ⟨k0, 0, mkS r, [], []⟩)) := Lib.hid fun h => by rw [HPV0.out, if_pos rfl, if_neg h]
      generalize mkS r = S at *
      have hs7 := HV5.out.setBlk 2 (.string S)
      simp only [List.setIfInBounds_toArray, List.set_cons_zero, List.set_cons_succ] at hs7
      have HS7 := Lib.hid hs7
      have HS7b := Lib.hid (HS.out.newBlk 25 #[.int .i64 k0, .int .i64 0, .string S, .slice none 0 0, .slice none 0 0])
      rw [← hpv] at HS7b
      clear HS hpv hk HPV0 HOK0 HRV hs7
      go_wp2_with fail
      rw [← HPVE.out]
      go_loopw [6] (fun i wr => i = .int .i64 (m : Int) ∧ Hid (St Zf [BlkA pv 25 #[.int .i64 k0, .int .i64 0, .string S, .slice none 0 0, .slice none 0 0], BlkA N 25 #[.int .i64 0, .int .i64 0, .string ⟨#[]⟩, .slice none 0 0, .slice none 0 0], BlkA (N + 1) 25 #[.int .i64 0, .int .i64 0, .string ⟨#[]⟩, .slice none 0 0, .slice none 0 0]] w wr)) (fun _ _ => 0)
      case atStart => first | exact ⟨rfl, HS7⟩ | exact ⟨rfl, HS7b⟩
      case round =>
        obtain ⟨rfl, HS8⟩ := hrel
        clear HS7 HS7b HV5
        obtain ⟨⟨p0, p1, p2, p3, p4⟩, -, -⟩ := blk_facts HS8.out
        have HCK := Lib.hid fun w' h => refCheck_any ⟨k0, 0, S, [], []⟩ (.agg #[.int .i64 k0, .int .i64 0, .string S, .slice none 0 0, .slice none 0 0]) w'.heap.size w' h (Nat.le_refl _)
        unfold Told at HCK
        obtain ⟨C, hC⟩ : ∃ C, C = chk ⟨k0, 0, S, [], []⟩ := ⟨_, rfl⟩
        rw [← hC] at HCK
        by_cases hC0 : C = 0
        · have HPE : Hid (parseV l = (⟨k0, 0, S, [], []⟩, 0)) := Lib.hid (HPV.out (by rw [← hC]; exact hC0))
          subst hC0
          clear hC
          go_wp2_with fail
          refine (HCK.out _ ⟨none, 0, none, 0, rfl, RL.empty _ _ _ _, RL.empty _ _ _ _, HOK.out⟩).mono ?_
          rintro e w3 ⟨rfl, b3⟩
          have HS9 := Lib.hid (HS8.out.below b3)
          clear b3
          obtain ⟨⟨p0, p1, p2, p3, p4⟩, -, -⟩ := blk_facts HS9.out
          obtain ⟨⟨d0, d1, d2, d3, d4⟩, g0, l1⟩ := blk_facts HS9.out.swap
          have G0 := g0 0
          have G1 := g0 1
          have G2 := g0 2
          have G3 := g0 3
          have G4 := g0 4
          clear g0
          go_wp2_with fail
          have H9 := ((((HS9.out.swap.setBlk 0 (.int .i64 k0)).setBlk 1 (.int .i64 0)).setBlk 2 (.string S)).setBlk 3 (.slice none 0 0)).setBlk 4 (.slice none 0 0)
          simp only [List.setIfInBounds_toArray, List.set_cons_zero, List.set_cons_succ] at H9
          refine bodyPost_ret (results_agg_tmp rfl _ _ N 25 _ _ rfl H9.blk Tryz.underlying25 rfl (by kernel_rfl)) rfl ?_
          rw [HPE.out]
          exact ⟨none, 0, none, 0, rfl, St.nilOl (l := [_]) (St.nilOl (l := []) H9.none_of svl 9) ivl 2⟩
        · have HPE : Hid (parseV l = (noneV, C)) := Lib.hid (by rw [hC] at hC0 ⊢; exact HPW.out hC0)
          have hne : (C != 0) = true := by simpa using hC0
          clear hC hC0
          go_wp2_with fail
          refine (HCK.out _ ⟨none, 0, none, 0, rfl, RL.empty _ _ _ _, RL.empty _ _ _ _, HOK.out⟩).mono ?_
          rintro e w3 ⟨rfl, b3⟩
          have HS9 := Lib.hid (HS8.out.below b3)
          clear b3
          obtain ⟨⟨n0, n1, n2, n3, n4⟩, -, -⟩ := blk_facts HS9.out.bring2
          obtain ⟨⟨d0, d1, d2, d3, d4⟩, g0, l1⟩ := blk_facts HS9.out.swap
          have G0 := g0 0
          have G1 := g0 1
          have G2 := g0 2
          have G3 := g0 3
          have G4 := g0 4
          clear g0
          go_wp2_with fail
          have H9 := ((((HS9.out.swap.setBlk 0 (.int .i64 0)).setBlk 1 (.int .i64 0)).setBlk 2 (.string ⟨#[]⟩)).setBlk 3 (.slice none 0 0)).setBlk 4 (.slice none 0 0)
          simp only [List.setIfInBounds_toArray, List.set_cons_zero, List.set_cons_succ] at H9
          refine bodyPost_ret (results_agg_tmp rfl _ _ N 25 _ _ rfl H9.blk Tryz.underlying25 rfl (by kernel_rfl)) rfl ?_
          rw [HPE.out]
          exact NewP.nought H9
end Go.Proofs.YthfoffcfbfmajaaGreatDoor

/- cell: the document's Parse: lists of texts; all of it. -/
namespace Go.Proofs.YthfoffcfbfmajaaGreatDoor
open Go.RowKit
set_option linter.unusedVariables false

set_option maxRecDepth 100000 in
set_option maxHeartbeats 4000000 in
theorem refParse_texts (l r : Bs) (k0 : Int) (w : World) (hk : k0 = 8) (hl : l.length ≤ 1073741824) (he : l = begB k0 ++ r) (hP : ∀ q : Int, 1 ≤ q → q ≤ 8 → Lib.hasPrefix l (begB q) = decide (q = k0)) : Calls Tryz.prog 15 #[.string (mkS l)] w (NewP (parseV l) w) := by
  have hcut : cutK l = (k0, r, 0) := by rw [he]; exact cutK_back ⟨by omega, by omega⟩ r
  have hpv := parseV_at hcut
  have hok := readV_ok (k := k0) ⟨by omega, by omega⟩ r (by rw [he, List.length_append] at hl; omega)
  have HPV0 := Lib.hid hpv
  have HOK0 := Lib.hid hok
  have HRL : Hid (r.length ≤ 1073741824) := Lib.hid (by rw [he, List.length_append] at hl; omega)
  clear hpv hok hcut
  have hk0 : 0 ≤ k0 ∧ k0 ≤ 8 := by omega
  obtain ⟨m, hm⟩ : ∃ m, m = (begB k0).length := ⟨_, rfl⟩
  have hml : m ≤ l.length := by rw [he, hm, List.length_append]; omega
  have hdr0 : l.drop m = r := by rw [he, hm, List.drop_left' rfl]
  obtain ⟨N, hN⟩ : ∃ N, N = w.heap.size := ⟨_, rfl⟩
  have HS0 : Hid (St Zf [BlkA N 25 #[.int .i64 0, .int .i64 0, .string ⟨#[]⟩, .slice none 0 0, .slice none 0 0], BlkA (N + 1) 25 #[.int .i64 0, .int .i64 0, .string ⟨#[]⟩, .slice none 0 0, .slice none 0 0]] w ((w.alloc (.cells #[.int .i64 0, .int .i64 0, .string ⟨#[]⟩, .slice none 0 0, .slice none 0 0] 25)).alloc (.cells #[.int .i64 0, .int .i64 0, .string ⟨#[]⟩, .slice none 0 0, .slice none 0 0] 25))) := Lib.hid (by rw [hN]; exact (boxes2 w 0).swap)
  have HLT := Lib.hid fun q w h => letter_any q w h
  have HPQ := Lib.hid fun q h1 h2 => pref_str l q (hP q h1 h2) h1 h2
  have hsz : (mkS l).size = l.length := mkS_size l
  have HDR : Hid (∀ p, (mkS l).extract p l.length = mkS (l.drop p)) := Lib.hid fun p => by rw [← mkS_size l]; exact mkS_drop l p
  obtain ⟨s, hs⟩ : ∃ s, s = mkS l := ⟨_, rfl⟩
  rw [← hs] at HPQ hsz
  simp only [← hs] at HDR
  rw [← hs]
  obtain ⟨n, hn⟩ : ∃ n, n = l.length := ⟨_, rfl⟩
  rw [← hn] at hsz hl hml
  simp only [← hn] at HDR
  have HX : Hid (∀ p (hp : p < n) (h' : p < s.size), ∃ x, s[p]'h' = x ∧ l.drop p = x :: l.drop (p + 1)) := Lib.hid (by
    intro p hp h'
    subst hs
    rw [hn] at hp
    exact ⟨l[p], mkS_at l p hp h', drop_cons hp⟩)
  have HNL := Lib.hid hn
  have HHN := Lib.hid hN
  have HD0 := Lib.hid hdr0
  have HM4 : m ≤ 4 := by rw [hm]; exact begB_len k0
  have HMQ := Lib.hid hm
  clear he hP hs hn hN hdr0 hm
  go_enter Tryz.func15, Tryz.ntmps15
  go_wp2_with fail
  rw [← HHN.out]
  go_loopw [5, 6, 7] (fun a b i wr => ∃ q : Nat, 1 ≤ q ∧ q ≤ 9 ∧ i = .int .i64 q ∧ Hid (a = .int .i64 (if k0 < q then k0 else 0)) ∧ Hid (b = .int .i64 (if k0 < q then (m : Int) else 0)) ∧ Hid (St Zf [BlkA N 25 #[.int .i64 0, .int .i64 0, .string ⟨#[]⟩, .slice none 0 0, .slice none 0 0], BlkA (N + 1) 25 #[.int .i64 0, .int .i64 0, .string ⟨#[]⟩, .slice none 0 0, .slice none 0 0]] w wr)) (fun _ _ i _ => 9 - (intOf i).toNat)
  case atStart => exact ⟨1, Nat.le_refl _, by decide, rfl, Lib.hid (by rw [if_neg (by omega)]), Lib.hid (by rw [if_neg (by omega)]), HS0⟩
  case round =>
    obtain ⟨q, hq1, hq9, rfl, HA, HB, HS⟩ := hrel
    clear HS0
    by_cases hq : q ≤ 8
    · obtain ⟨L1, hL1, hz1, hyes, hnope⟩ := HPQ.out (q : Int) (by omega) (by omega)
      have HL := Lib.hid fun w => HLT.out (q : Int) w ⟨by omega, by omega⟩
      have hq9' : (q : Int) < 9 := by omega
      have hz4 := begB_len (q : Int)
      have hno : ¬ (9223372036854775807 < L1.size + (⟨#[58]⟩ : ByteArray).size) := by
        have : (⟨#[58]⟩ : ByteArray).size = 1 := rfl
        omega
      rw [hL1] at HL
      have hz2 : (L1.size : Int) ≤ 8388608 := by omega
      by_cases hqk : (q : Int) = k0
      · obtain ⟨f1, f2⟩ := hyes hqk
        rw [← HNL.out] at f1
        have HA2 : Hid (Value.int .i64 (q : Int) = .int .i64 (if k0 < ((q + 1 : Nat) : Int) then k0 else 0)) := Lib.hid (by rw [if_pos (by omega), hqk])
        have HB2 : Hid (Value.int .i64 ((L1.size : Int) + 1) = .int .i64 (if k0 < ((q + 1 : Nat) : Int) then (m : Int) else 0)) := Lib.hid (by
          rw [if_pos (by omega), HMQ.out, ← hqk]
          have := hz1
          congr 1
          omega)
        have hcap : (0 : Int) ≤ (L1.size : Int) + 1 := by omega
        clear hyes hnope hqk HA HB hL1 hz1 hz4
        go_wp2_with fail
        refine (HL.out _).mono ?_
        rintro e w1 ⟨rfl, b1⟩
        have HS1 := Lib.hid (HS.out.below b1)
        clear b1
        go_wp2
        go_roundw
        case rel => exact ⟨q + 1, by omega, by omega, by go_num, HA2, HB2, HS1⟩
        case measure => simp [intOf]; omega
      · have HA2 : Hid (u5 = .int .i64 (if k0 < ((q + 1 : Nat) : Int) then k0 else 0)) := Lib.hid (by
          rw [HA.out]
          by_cases h : k0 < (q : Int)
          · rw [if_pos h, if_pos (by omega)]
          · rw [if_neg h, if_neg (by omega)])
        have HB2 : Hid (u6 = .int .i64 (if k0 < ((q + 1 : Nat) : Int) then (m : Int) else 0)) := Lib.hid (by
          rw [HB.out]
          by_cases h : k0 < (q : Int)
          · rw [if_pos h, if_pos (by omega)]
          · rw [if_neg h, if_neg (by omega)])
        have hcap : (0 : Int) ≤ (L1.size : Int) + 1 := by omega
        by_cases hsz3 : (L1.size : Int) + 1 ≤ (n : Int)
        · have f2 := hnope hqk (by rw [← HNL.out]; omega)
          clear hyes hnope hqk HA HB hL1 hz1 hz4
          go_wp2_with fail
          refine (HL.out _).mono ?_
          rintro e w1 ⟨rfl, b1⟩
          have HS1 := Lib.hid (HS.out.below b1)
          clear b1
          go_wp2
          go_roundw
          case rel => exact ⟨q + 1, by omega, by omega, by go_num, HA2, HB2, HS1⟩
          case measure => simp [intOf]; omega
        · have hlt : (n : Int) < (L1.size : Int) + 1 := by omega
          clear hyes hnope hqk HA HB hL1 hz1 hz4
          go_wp2_with fail
          refine (HL.out _).mono ?_
          rintro e w1 ⟨rfl, b1⟩
          have HS1 := Lib.hid (HS.out.below b1)
          clear b1
          go_wp2
          go_roundw
          case rel => exact ⟨q + 1, by omega, by omega, by go_num, HA2, HB2, HS1⟩
          case measure => simp [intOf]; omega
    · have hq0 : q = 9 := by omega
      subst hq0
      have ha := HA.out
      have hb := HB.out
      rw [if_pos (by omega)] at ha hb
      subst ha hb
      clear HA HB HPQ HLT hq hq1 hq9
      obtain ⟨i0, hi, hz0, hz1, hz2⟩ := info_parts u8_info
      obtain ⟨j0, hj, hy0, hy1, hy2⟩ := info_parts str_info
      have e0 : (k0 == 0) = false := by rw [beq_eq_false_iff_ne]; omega
      have e4 : (k0 == 4) = false := by rw [beq_eq_false_iff_ne]; omega
      have e8 : (k0 == 8) = true := by rw [beq_iff_eq]; exact hk
      have hn4 : ¬ k0 < 4 := by omega
      have hk1 : 4 < k0 := by omega
      have HRN : Hid (readT r = none → parseV l = (noneV, 220)) := Lib.hid fun h => by
        have h1 : readV k0 r = (⟨8, 0, mkS [], [], []⟩, 220) := by rw [hk]; exact readV_texts_no h
        rw [HPV0.out, h1, if_neg (by decide)]
      have HGOOD : Hid (∀ X : Rw, readV 8 r = (⟨8, 0, mkS [], [], X⟩, 0) → Vok ⟨k0, 0, mkS [], [], X⟩ ∧ (chk ⟨k0, 0, mkS [], [], X⟩ = 0 → parseV l = (⟨k0, 0, mkS [], [], X⟩, 0)) ∧ (chk ⟨k0, 0, mkS [], [], X⟩ ≠ 0 → parseV l = (noneV, chk ⟨k0, 0, mkS [], [], X⟩))) := Lib.hid fun X h => by
        have h1 := HOK0.out
        have h2 := HPV0.out
        have h0 : readV k0 r = (⟨k0, 0, mkS [], [], X⟩, 0) := by rw [hk]; exact h
        rw [h0] at h1 h2
        exact ⟨h1, fun h3 => by rw [h2, if_pos rfl, if_pos h3], fun h3 => by rw [h2, if_pos rfl, if_neg h3]⟩
      have HV5 := Lib.hid (St.nilOl (HS.out.newBlk 25 #[.int .i64 k0, .int .i64 0, .string ⟨#[]⟩, .slice none 0 0, .slice none 0 0]) svl 9)
      obtain ⟨pv, hpv⟩ : ∃ pv, pv = wr.heap.size := ⟨_, rfl⟩
      rw [← hpv] at HV5
      have HPVE := Lib.hid hpv
      clear HS hpv HPV0 HOK0 hk
      go_wp2_with fail
      rw [← HPVE.out]
      go_loopw [6] (fun i wr => ∃ (t : Nat) (X : Rw) (A : Option Addr) (c : Nat), t ≤ n ∧ i = .int .i64 t ∧ Hid (TextsAt r X (l.drop t)) ∧ Hid (St Zf [OlA svl 9 (.slice A X.length c) X, BlkA pv 25 #[.int .i64 k0, .int .i64 0, .string ⟨#[]⟩, .slice none 0 0, .slice A X.length c], BlkA N 25 #[.int .i64 0, .int .i64 0, .string ⟨#[]⟩, .slice none 0 0, .slice none 0 0], BlkA (N + 1) 25 #[.int .i64 0, .int .i64 0, .string ⟨#[]⟩, .slice none 0 0, .slice none 0 0]] w wr)) (fun i _ => n - (intOf i).toNat)
      case atStart => exact ⟨m, [], none, 0, hml, rfl, Lib.hid (by rw [HD0.out]; exact TextsAt.start _), HV5⟩
      case round =>
        obtain ⟨t, X, A, c, ht, rfl, HN, HS⟩ := hrel
        clear HV5
        obtain ⟨⟨p0, p1, p2, p3, p4⟩, -, -⟩ := blk_facts HS.out.swap
        by_cases htn : t < n
        · have htn' : (t : Int) < (n : Int) := by omega
          have HSb := Lib.hid (HS.out.newNilB 5 (rfl : wr.heap.size = wr.heap.size))
          have HRL2 : Hid (X.length ≤ 1073741824) := Lib.hid (by have h1 := HN.out.2; have h2 := HRL.out; omega)
          have HBAD : Hid (cutT (l.drop t) = none → parseV l = (noneV, 220)) := Lib.hid fun h => HRN.out (HN.out.bad (by
            intro h5
            have h6 := congrArg List.length h5
            rw [List.length_drop, ← HNL.out] at h6
            simp at h6
            omega) h)
          go_wp2_with fail
          go_loopw [6, 12] (fun i b wq => ∃ (q : Nat) (B : Bs) (Ab : Option Addr) (cb : Nat), q ≤ n ∧ i = .int .i64 q ∧ b = .slice Ab B.length cb ∧ Hid (CutAt (l.drop t) B (l.drop q)) ∧ t + B.length ≤ q ∧ Hid (St Zf [ObA 5 (.slice Ab B.length cb) (nbC B), OlA svl 9 (.slice A X.length c) X, BlkA pv 25 #[.int .i64 k0, .int .i64 0, .string ⟨#[]⟩, .slice none 0 0, .slice A X.length c], BlkA N 25 #[.int .i64 0, .int .i64 0, .string ⟨#[]⟩, .slice none 0 0, .slice none 0 0], BlkA (N + 1) 25 #[.int .i64 0, .int .i64 0, .string ⟨#[]⟩, .slice none 0 0, .slice none 0 0]] w wq)) (fun i _ _ => n - (intOf i).toNat)
          case atStart => exact ⟨t, [], some ⟨wr.heap.size, 0, none⟩, 0, ht, rfl, rfl, Lib.hid (CutAt.start _), Nat.le_refl _, HSb⟩
          case round =>
            obtain ⟨q, B, Ab, cb, hq, rfl, rfl, HQ, htq, HSI⟩ := hrel
            clear HSb HS p0 p1 p2 p3 p4
            obtain ⟨⟨p0, p1, p2, p3, p4⟩, pf, -⟩ := blk_facts HSI.out.bring2
            have HLB : Hid ((nbC B).length + 1 ≤ 140737488355328) := Lib.hid (by rw [nbC_len]; omega)
            by_cases hqn : q < n
            · have hqs : q < s.size := by omega
              have hqn' : (q : Int) < (n : Int) := by omega
              obtain ⟨x, hx, hdr⟩ := HX.out q hqn hqs
              by_cases h59 : x = 59
              · have b59 : ((x.toNat : Int) != 59) = false := by rw [h59]; decide
                have bqn : ((q : Int) == (n : Int)) = false := by rw [beq_eq_false_iff_ne]; omega
                have hcs := ob_str HSI.out.ob
                have HN3 := Lib.hid (HN.out.next (CutAt.done (by rw [← h59, ← hdr]; exact HQ.out)))
                have hby : (X.length + 1) * 16 ≤ 140737488355328 := by have := HRL2.out; omega
                obtain ⟨S1, hS1⟩ : ∃ S1, S1 = mkS B := ⟨_, rfl⟩
                rw [← hS1] at hcs HN3
                have HS6 := Lib.hid HSI.out.drop
                clear HN HQ HSI p0 p1 p2 p3 p4 pf hS1 h59 hdr HBAD HLB
                obtain ⟨⟨p0, p1, p2, p3, p4⟩, pf, -⟩ := blk_facts HS6.out.swap
                have PF4 := pf 4
                clear pf
                go_wp2_with (at_builtin; refine wpList_append_elemN _ rfl _ _ 23 rfl 0 9 j0 _ 16 Tryz.underlying23 hj hy0 hy1 hy2 rfl _ X (by rfl) HS6.out.ol S1 (svl_ok S1) _ rfl (by rfl) hby (by omega) (Nat.zero_le _) ?_; intro v7 w7 hown7 hg7 hat7; have h7 := HS6.out.grewOl hown7 hg7 hat7 (by simp); obtain ⟨O, hO⟩ : ∃ O, O = X ++ [S1] := ⟨_, rfl⟩; rw [← hO] at hown7 h7 HN3; obtain ⟨A7, c7, rfl, -, -, -, -⟩ := hown7.form; obtain ⟨⟨p0, p1, p2, p3, p4⟩, pf, -⟩ := blk_facts h7.swap; have PF4 := pf 4; have h8 := (h7.swap.setBlk 4 (.slice A7 O.length c7)).swap; simp only [List.setIfInBounds_toArray, List.set_cons_zero, List.set_cons_succ] at h8; have H8 := Lib.hid h8; clear hown7 hg7 hat7 h7 h8 hO pf)
                go_roundw
                case rel => exact ⟨q + 1, O, A7, c7, by omega, by go_num, HN3, H8⟩
                case measure => simp [intOf]; omega
              · have b59 : ((x.toNat : Int) != 59) = true := byte_bne h59
                by_cases h92 : x = 92
                · have b92 : ((x.toNat : Int) == 92) = true := by rw [h92]; decide
                  have HDR1 : Hid (l.drop q = 92 :: l.drop (q + 1)) := Lib.hid (by rw [hdr, h92])
                  clear h59 h92 hdr
                  by_cases hq2 : q + 1 = n
                  · have bqn : ((q : Int) + 1 == (n : Int)) = true := by rw [beq_iff_eq]; omega
                    have HPE : Hid (parseV l = (noneV, 220)) := Lib.hid (HBAD.out (HQ.out.none (by rw [HDR1.out, hq2, HNL.out, List.drop_length]; rfl)))
                    have HS6 := Lib.hid HSI.out.drop.drop.drop
                    clear HSI p0 p1 p2 p3 p4 pf HN HQ hq2
                    obtain ⟨⟨n0, n1, n2, n3, n4⟩, -, -⟩ := blk_facts (St.swap HS6.out)
                    obtain ⟨⟨d0, d1, d2, d3, d4⟩, g0, l1⟩ := blk_facts HS6.out
                    have G0 := g0 0
                    have G1 := g0 1
                    have G2 := g0 2
                    have G3 := g0 3
                    have G4 := g0 4
                    clear g0
                    go_wp2_with fail
                    have H9 := ((((HS6.out.setBlk 0 (.int .i64 0)).setBlk 1 (.int .i64 0)).setBlk 2 (.string ⟨#[]⟩)).setBlk 3 (.slice none 0 0)).setBlk 4 (.slice none 0 0)
                    simp only [List.setIfInBounds_toArray, List.set_cons_zero, List.set_cons_succ] at H9
                    refine bodyPost_ret (results_agg_tmp rfl _ _ N 25 _ _ rfl H9.blk Tryz.underlying25 rfl (by kernel_rfl)) rfl ?_
                    rw [HPE.out]
                    exact NewP.nought H9
                  · have bqn : ((q : Int) + 1 == (n : Int)) = false := by rw [beq_eq_false_iff_ne]; omega
                    have hq3 : q + 1 < n := by omega
                    have hq3s : q + 1 < s.size := by omega
                    have hq3' : (q : Int) + 1 < (n : Int) := by omega
                    obtain ⟨y, hy, hdr2⟩ := HX.out (q + 1) hq3 hq3s
                    by_cases hye : y = 92 ∨ y = 59
                    · have HQ2 : Hid (CutAt (l.drop t) (B ++ [y]) (l.drop (q + 1 + 1))) := Lib.hid (CutAt.esc (by rw [← hdr2, ← HDR1.out]; exact HQ.out) hye)
                      clear hdr2 HQ pf HDR1 HBAD
                      rcases hye with hy9 | hy9
                      · have c92 : ((y.toNat : Int) != 92) = false := by rw [hy9]; decide
                        clear hy9
                        go_wp2_with (at_builtin; refine wpList_append_lit8 _ rfl _ _ 45 rfl 0 5 i0 Tryz.underlying45 hi hz0 hz1 hz2 _ (nbC B) y.toNat (by rfl) HSI.out.ob (by rfl) y.toNat rfl (UInt8.toNat_lt _) HLB.out (Nat.zero_le _) ?_; intro vb wb hownb hgb hatb; have hb := HSI.out.grewOb hownb hgb hatb (Nat.le_succ _); have hb2 := obApp hb; obtain ⟨Ab2, cb2, rfl⟩ := ob_form hb2.ob; have HB2 := Lib.hid hb2; clear hownb hgb hatb hb hb2)
                        go_roundw
                        case rel => exact ⟨q + 1 + 1, B ++ [y], Ab2, cb2, by omega, by go_num, by simp, HQ2, by simp; omega, HB2⟩
                        case measure => simp [intOf]; omega
                      · have c92 : ((y.toNat : Int) != 92) = true := by rw [hy9]; decide
                        have c59 : ((y.toNat : Int) != 59) = false := by rw [hy9]; decide
                        clear hy9
                        go_wp2_with (at_builtin; refine wpList_append_lit8 _ rfl _ _ 45 rfl 0 5 i0 Tryz.underlying45 hi hz0 hz1 hz2 _ (nbC B) y.toNat (by rfl) HSI.out.ob (by rfl) y.toNat rfl (UInt8.toNat_lt _) HLB.out (Nat.zero_le _) ?_; intro vb wb hownb hgb hatb; have hb := HSI.out.grewOb hownb hgb hatb (Nat.le_succ _); have hb2 := obApp hb; obtain ⟨Ab2, cb2, rfl⟩ := ob_form hb2.ob; have HB2 := Lib.hid hb2; clear hownb hgb hatb hb hb2)
                        go_roundw
                        case rel => exact ⟨q + 1 + 1, B ++ [y], Ab2, cb2, by omega, by go_num, by simp, HQ2, by simp; omega, HB2⟩
                        case measure => simp [intOf]; omega
                    · have HPE : Hid (parseV l = (noneV, 220)) := Lib.hid (HBAD.out (HQ.out.none (by rw [HDR1.out, hdr2]; exact cutT_bad _ _ hye)))
                      have c92 : ((y.toNat : Int) != 92) = true := byte_bne fun h => hye (.inl h)
                      have c59 : ((y.toNat : Int) != 59) = true := byte_bne fun h => hye (.inr h)
                      have HS6 := Lib.hid HSI.out.drop.drop.drop
                      clear HSI p0 p1 p2 p3 p4 pf HN HQ hye hdr2
                      obtain ⟨⟨n0, n1, n2, n3, n4⟩, -, -⟩ := blk_facts (St.swap HS6.out)
                      obtain ⟨⟨d0, d1, d2, d3, d4⟩, g0, l1⟩ := blk_facts HS6.out
                      have G0 := g0 0
                      have G1 := g0 1
                      have G2 := g0 2
                      have G3 := g0 3
                      have G4 := g0 4
                      clear g0
                      go_wp2_with fail
                      have H9 := ((((HS6.out.setBlk 0 (.int .i64 0)).setBlk 1 (.int .i64 0)).setBlk 2 (.string ⟨#[]⟩)).setBlk 3 (.slice none 0 0)).setBlk 4 (.slice none 0 0)
                      simp only [List.setIfInBounds_toArray, List.set_cons_zero, List.set_cons_succ] at H9
                      refine bodyPost_ret (results_agg_tmp rfl _ _ N 25 _ _ rfl H9.blk Tryz.underlying25 rfl (by kernel_rfl)) rfl ?_
                      rw [HPE.out]
                      exact NewP.nought H9
                · have b92 : ((x.toNat : Int) == 92) = false := byte_ne h92
                  have HQ2 : Hid (CutAt (l.drop t) (B ++ [x]) (l.drop (q + 1))) := Lib.hid (CutAt.plain (by rw [← hdr]; exact HQ.out) h92 h59)
                  clear h59 h92 hdr HQ pf
                  go_wp2_with (at_builtin; refine wpList_append_lit8 _ rfl _ _ 45 rfl 0 5 i0 Tryz.underlying45 hi hz0 hz1 hz2 _ (nbC B) x.toNat (by rfl) HSI.out.ob (by rfl) x.toNat rfl (UInt8.toNat_lt _) HLB.out (Nat.zero_le _) ?_; intro vb wb hownb hgb hatb; have hb := HSI.out.grewOb hownb hgb hatb (Nat.le_succ _); have hb2 := obApp hb; obtain ⟨Ab2, cb2, rfl⟩ := ob_form hb2.ob; have HB2 := Lib.hid hb2; clear hownb hgb hatb hb hb2)
                  go_roundw
                  case rel => exact ⟨q + 1, B ++ [x], Ab2, cb2, by omega, by go_num, by simp, HQ2, by simp; omega, HB2⟩
                  case measure => simp [intOf]; omega
            · have hqe : q = n := by omega
              subst hqe
              have HPE : Hid (parseV l = (noneV, 220)) := Lib.hid (HBAD.out (HQ.out.none (by rw [HNL.out, List.drop_length]; rfl)))
              have HS6 := Lib.hid HSI.out.drop.drop.drop
              clear HSI p0 p1 p2 p3 p4 pf HN HQ
              obtain ⟨⟨n0, n1, n2, n3, n4⟩, -, -⟩ := blk_facts (St.swap HS6.out)
              obtain ⟨⟨d0, d1, d2, d3, d4⟩, g0, l1⟩ := blk_facts HS6.out
              have G0 := g0 0
              have G1 := g0 1
              have G2 := g0 2
              have G3 := g0 3
              have G4 := g0 4
              clear g0
              go_wp2_with fail
              have H9 := ((((HS6.out.setBlk 0 (.int .i64 0)).setBlk 1 (.int .i64 0)).setBlk 2 (.string ⟨#[]⟩)).setBlk 3 (.slice none 0 0)).setBlk 4 (.slice none 0 0)
              simp only [List.setIfInBounds_toArray, List.set_cons_zero, List.set_cons_succ] at H9
              refine bodyPost_ret (results_agg_tmp rfl _ _ N 25 _ _ rfl H9.blk Tryz.underlying25 rfl (by kernel_rfl)) rfl ?_
              rw [HPE.out]
              exact NewP.nought H9
        · have hte : t = n := by omega
          subst hte
          obtain ⟨HOK, HPV, HPW⟩ := HGOOD.out X (by
            have h1 := HN.out
            rw [show l.drop t = [] from by rw [HNL.out, List.drop_length]] at h1
            exact h1.done)
          have HOK := Lib.hid HOK
          have HPV := Lib.hid HPV
          have HPW := Lib.hid HPW
          have HS8 := HS
          clear HS HN
          have HCK := Lib.hid fun w' h => refCheck_any ⟨k0, 0, mkS [], [], X⟩ (.agg #[.int .i64 k0, .int .i64 0, .string ⟨#[]⟩, .slice none 0 0, .slice A X.length c]) w'.heap.size w' h (Nat.le_refl _)
          unfold Told at HCK
          obtain ⟨C, hC⟩ : ∃ C, C = chk ⟨k0, 0, mkS [], [], X⟩ := ⟨_, rfl⟩
          rw [← hC] at HCK
          by_cases hC0 : C = 0
          · have HPE : Hid (parseV l = (⟨k0, 0, mkS [], [], X⟩, 0)) := Lib.hid (HPV.out (by rw [← hC]; exact hC0))
            subst hC0
            clear hC
            go_wp2_with fail
            refine (HCK.out _ ⟨none, 0, A, c, rfl, RL.empty _ _ _ _, HS8.out.ol.reads.2.1, HOK.out⟩).mono ?_
            rintro e w3 ⟨rfl, b3⟩
            have HS9 := Lib.hid (HS8.out.below b3)
            clear b3
            obtain ⟨⟨p0, p1, p2, p3, p4⟩, -, -⟩ := blk_facts HS9.out.swap
            obtain ⟨⟨d0, d1, d2, d3, d4⟩, g0, l1⟩ := blk_facts HS9.out.bring2
            have G0 := g0 0
            have G1 := g0 1
            have G2 := g0 2
            have G3 := g0 3
            have G4 := g0 4
            clear g0
            go_wp2_with fail
            have H9 := ((((HS9.out.bring2.setBlk 0 (.int .i64 k0)).setBlk 1 (.int .i64 0)).setBlk 2 (.string ⟨#[]⟩)).setBlk 3 (.slice none 0 0)).setBlk 4 (.slice A X.length c)
            simp only [List.setIfInBounds_toArray, List.set_cons_zero, List.set_cons_succ] at H9
            refine bodyPost_ret (results_agg_tmp rfl _ _ N 25 _ _ rfl H9.blk Tryz.underlying25 rfl (by kernel_rfl)) rfl ?_
            rw [HPE.out]
            exact ⟨none, 0, A, c, rfl, St.nilOl (l := [_]) (onlyOl H9) ivl 2⟩
          · have HPE : Hid (parseV l = (noneV, C)) := Lib.hid (by rw [hC] at hC0 ⊢; exact HPW.out hC0)
            have hne : (C != 0) = true := by simpa using hC0
            clear hC hC0
            go_wp2_with fail
            refine (HCK.out _ ⟨none, 0, A, c, rfl, RL.empty _ _ _ _, HS8.out.ol.reads.2.1, HOK.out⟩).mono ?_
            rintro e w3 ⟨rfl, b3⟩
            have HS9 := Lib.hid (HS8.out.below b3)
            clear b3
            obtain ⟨⟨n0, n1, n2, n3, n4⟩, -, -⟩ := blk_facts HS9.out.bring3
            obtain ⟨⟨d0, d1, d2, d3, d4⟩, g0, l1⟩ := blk_facts HS9.out.bring2
            have G0 := g0 0
            have G1 := g0 1
            have G2 := g0 2
            have G3 := g0 3
            have G4 := g0 4
            clear g0
            go_wp2_with fail
            have H9 := ((((HS9.out.bring2.setBlk 0 (.int .i64 0)).setBlk 1 (.int .i64 0)).setBlk 2 (.string ⟨#[]⟩)).setBlk 3 (.slice none 0 0)).setBlk 4 (.slice none 0 0)
            simp only [List.setIfInBounds_toArray, List.set_cons_zero, List.set_cons_succ] at H9
            refine bodyPost_ret (results_agg_tmp rfl _ _ N 25 _ _ rfl H9.blk Tryz.underlying25 rfl (by kernel_rfl)) rfl ?_
            rw [HPE.out]
            exact NewP.nought H9
theorem Rparse_any (l : Bs) (w : World) (hl : l.length ≤ 1073741824) : Calls Tryz.prog 15 #[.string (mkS l)] w (NewP (parseV l) w) := by
  rcases cutK_cases l with ⟨k, r, hk, he, hc⟩ | ⟨hm, hc⟩
  · have hP : ∀ q : Int, 1 ≤ q → q ≤ 8 → Lib.hasPrefix l (begB q) = decide (q = k) := fun q h1 h2 => by
      by_cases hq : q = k
      · rw [decide_eq_true hq, hq, he]
        exact hasPrefix_self _ _
      · rw [decide_eq_false hq]
        cases h : Lib.hasPrefix l (begB q) with
        | false => rfl
        | true => rw [he] at h; exact absurd (begB_one ⟨h1, h2⟩ hk r h) hq
    rcases (show k < 4 ∨ k = 4 ∨ (4 < k ∧ k < 8) ∨ k = 8 by omega) with h | h | ⟨h, h2⟩ | h
    · exact refParse_num l r k w hk.1 h hl he hP
    · exact refParse_text l r k w h hl he hP
    · exact refParse_nums l r k w h h2 hl he hP
    · exact refParse_texts l r k w h hl he hP
  · exact refParse_miss l l 0 w rfl hl rfl fun q h1 h2 => by rw [hm q h1 h2]; exact (decide_eq_false (by omega)).symm
end Go.Proofs.YthfoffcfbfmajaaGreatDoor

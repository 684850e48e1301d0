/- Prefix and Decode of the program. -/
import Derived.Test.YtgpahglmhnnobaaGreatDoorValRead3
import Derived.Deep.Cut
import Derived.Deep.RegionHeld3
import Derived.Deep.RegionLaw
import Derived.BigRegion
import Derived.IntWalk
namespace Go.Proofs.YtgpahglmhnnobaaGreatDoor
open Go.RowKit
set_option linter.unusedVariables false

theorem RB.take {w : World} {B : Nat} {A : Option Addr} {bs : List Nat} (h : RB w B A bs) (n : Nat) : RB w B A (bs.take n) := by
  refine ⟨h.1.take n, by simp [cells8], fun hn => ?_⟩
  have hl : (bs.take n).length ≤ bs.length := by rw [List.length_take]; omega
  obtain ⟨ad, e, hb, hc⟩ := h.2.2 (by omega)
  refine ⟨ad, e, hb, fun j u hu => hc j u ?_⟩
  have e1 : cells8 (bs.take n) = (cells8 bs).take n := by simp [cells8, List.map_take]
  rw [e1, List.getElem?_take] at hu
  split at hu
  · exact hu
  · cases hu

/-- what Prefix leaves -/
def PrefPost (bs : List Nat) (w : World) (e : Ending) (w' : World) : Prop :=
  ∃ A c A' c', e = .returned (.tuple #[.agg #[.int .i64 (prefV bs).k, .int .i64 (prefV bs).n, .string (prefV bs).s, .slice A (prefV bs).ns.length c, .slice A' (prefV bs).ts.length c'], .int .i64 (prefN bs : Nat), .int .i64 (prefErr bs)]) ∧
    OL ivl w' w.heap.size 2 (.slice A (prefV bs).ns.length c) (prefV bs).ns ∧ OL svl w' w.heap.size 9 (.slice A' (prefV bs).ts.length c') (prefV bs).ts ∧ Below w.heap.size w w'

theorem pref_take (bs : List Nat) (N : Nat) (h : N = 40082 ∨ bs.length ≤ N) : prefixE (bs.take N) = prefixE bs := by
  rcases h with rfl | h
  · exact prefixE_take bs 40082 (by omega)
  · rw [List.take_of_length_le h]

set_option maxRecDepth 100000 in
set_option maxHeartbeats 2000000 in
theorem Prefix_any (A : Option Addr) (cap B : Nat) (bs : List Nat) (w : World) (h : RB w B A bs) (hB : B ≤ w.heap.size) (hc : bs.length ≤ cap) (hm : cap ≤ maxLen) :
    Calls Tryz.prog 49 #[.slice A bs.length cap] w (PrefPost bs w) := by
  unfold maxLen at hm
  obtain ⟨T, hT⟩ : ∃ T, T = bs.take (min bs.length 40082) := ⟨_, rfl⟩
  have hTl : min (bs.length : Int) 40082 = (T.length : Int) := by rw [hT, List.length_take]; omega
  have hTle : T.length ≤ bs.length := by rw [hT, List.length_take]; omega
  have hT4 : T.length ≤ 40082 := by rw [hT, List.length_take]; omega
  have hPE : prefixE T = prefixE bs := by rw [hT]; exact pref_take bs _ (by omega)
  have rT : RB w B A T := by rw [hT]; exact h.take _
  have HOK := Lib.hid (pref_ok rT.1)
  have hE : prefErr bs = (prefixE bs).q.e := rfl
  have hV0 : (prefixE bs).q.e = 0 → prefV bs = mkV (prefixE bs).k (prefixE bs).q.xs (prefixE bs).q.ts := fun h => if_pos h
  have hV1 : (prefixE bs).q.e ≠ 0 → prefV bs = vnone := fun h => if_neg h
  have hN0 : (prefixE bs).q.e = 0 → prefN bs = (prefixE bs).h + (prefixE bs).q.c := fun h => if_pos h
  have hN1 : (prefixE bs).q.e ≠ 0 → prefN bs = 0 := fun h => if_neg h
  have hNT : prefN T = prefN bs := by unfold prefN; rw [hPE]
  have hET : prefErr T = prefErr bs := by unfold prefErr; rw [hPE]
  obtain ⟨wo, hwo⟩ : ∃ x, x = w.alloc (.cells #[.int .i64 0, .int .i64 0, .string ⟨#[]⟩, .slice none 0 0, .slice none 0 0] 42) := ⟨_, rfl⟩
  have B1 : Blk wo w.heap.size 42 #[.int .i64 0, .int .i64 0, .string ⟨#[]⟩, .slice none 0 0, .slice none 0 0] := by subst hwo; exact Blk.new _ _ _
  have hb0 : Below w.heap.size w wo := by subst hwo; exact (Below.refl _ _).alloc (Nat.le_refl _) _
  have ro : RB wo B A T := by subst hwo; exact rT.alloc hB _
  have hso := B1.lt
  have HR0 := NewReader_any A cap B T wo ro (by omega) (by omega)
  have HW := Lib.hid hwo
  unfold PrefPost
  rw [hE]
  have HNT := Lib.hid hNT
  have HET := Lib.hid hET
  have HR := Lib.hid fun g q w => read_any wo.heap.size g q T w
  unfold ReadPost RdPost at HR
  rw [hPE] at HR
  have HV0 := Lib.hid hV0
  have HV1 := Lib.hid hV1
  have HN0 := Lib.hid hN0
  have HN1 := Lib.hid hN1
  have HEE := Lib.hid hE
  obtain ⟨P, hP⟩ : ∃ P, P = prefixE bs := ⟨_, rfl⟩
  rw [← hP] at HV0 HV1 HN0 HN1 HEE HR ⊢
  clear hT hPE hE hV0 hV1 hN0 hN1 hNT hET hwo h ro rT hP
  by_cases hbig : bs.length ≤ 40082
  case' pos =>
    have hTb : T.length = bs.length := by omega
    rw [hTb] at HR0
    have HSUB : Hid (∀ c, c ≤ T.length → (bs.length : Int) - ((T.drop c).length : Int) = (c : Int)) := Lib.hid fun c hc => by rw [List.length_drop]; omega
    have HN := Lib.hid HR0
    clear HR0 hTb hTl hTle
    go_enter Tryz.func49, Tryz.ntmps49
    go_wp2_with fail
  case' neg =>
    have hTb : T.length = 40082 := by omega
    rw [hTb] at HR0
    have HSUB : Hid (∀ c, c ≤ T.length → (40082 : Int) - ((T.drop c).length : Int) = (c : Int)) := Lib.hid fun c hc => by rw [List.length_drop]; omega
    have HN := Lib.hid HR0
    clear HR0 hTb hTl hTle
    go_enter Tryz.func49, Tryz.ntmps49
    go_wp2_with fail
  all_goals
    rw [← HW.out]
    refine (HN.out).mono ?_
    rintro e w1 ⟨g, q, rfl, R1, b1⟩
    have C1 := B1.below b1 B1.lt
    have hb1 := hb0.trans (b1.mono hb0.size)
    have hs1 := b1.size
    have hg1 := R1.lt
    clear B1 b1 hb0
    go_wp2_with fail
    refine (HR.out g q w1 R1 (by omega)).mono ?_
    rintro e w2 ⟨v', A3, c3, A4, c4, rfl, hv, hc2⟩
    have hlo := C1.lt
    have D1 := C1.only hc2 (by omega)
    have hb2 : Below w.heap.size w w2 := hc2.belowTrans hb1 (Nat.le_refl _) fun k _ hk => by omega
    have hs2 := hc2.size
    obtain ⟨z0, z1, z2, z3, z4⟩ := box_cells D1
    have f0 := D1.frozen 0
    have f1 := D1.frozen 1
    have f3 := D1.frozen 2
    have f4 := D1.frozen 3
    have f5 := D1.frozen 4
    have hl2 := D1.lt
    have HD1 := Lib.hid D1
    have hb2' := Lib.hid hb2
    have Hv := Lib.hid hv
    obtain ⟨v1, v2, v3, v4, v5⟩ := v'
    clear C1 hb1 D1 hv hb2 hc2 R1
    by_cases h0 : P.q.e = 0
    case neg =>
      have hne : (P.q.e != 0) = true := by simpa using h0
      have HVV := Lib.hid (HV1.out h0)
      have HNN := Lib.hid (HN1.out h0)
      clear h0
      go_wp2
      refine bodyPost_ret (v := .tuple #[.agg #[.int .i64 0, .int .i64 0, .string ⟨#[]⟩, .slice none 0 0, .slice none 0 0], .int .i64 0, .int .i64 P.q.e]) (by simp [results, Tryz.results49, go_sem, *]) rfl ⟨none, 0, none, 0, ?_, ?_, ?_, ?_⟩
      · rw [HVV.out, HNN.out]; rfl
      · rw [HVV.out]; exact OL.nil _ _ _ _
      · rw [HVV.out]; exact OL.nil _ _ _ _
      · exact Below.alloc (set5_below hb2'.out (Nat.le_refl _)) (set5_below hb2'.out (Nat.le_refl _)).size _
    have hq : (P.q.e == 0) = true := by simpa using h0
    have hq' : (P.q.e != 0) = false := by simpa using h0
    obtain ⟨hvv, o1, o2, R2⟩ := Hv.out h0
    have HVV := Lib.hid (HV0.out h0)
    have HNN := Lib.hid (HN0.out h0)
    have hle := (HOK.out (by rw [HET.out, HEE.out]; exact h0)).len
    rw [HNT.out, HNN.out] at hle
    obtain ⟨w3, hw3⟩ : ∃ x, x = w2.alloc (.cells #[.int .i64 v1, .int .i64 v2, .string v3, .slice A3 v4.length c3, .slice A4 v5.length c4] 42) := ⟨_, rfl⟩
    have E1 : Blk w3 w.heap.size 42 #[.int .i64 0, .int .i64 0, .string ⟨#[]⟩, .slice none 0 0, .slice none 0 0] := by rw [hw3]; exact HD1.out.alloc _
    have E3 : Blk w3 w2.heap.size 42 #[.int .i64 v1, .int .i64 v2, .string v3, .slice A3 v4.length c3, .slice A4 v5.length c4] := by rw [hw3]; exact Blk.new _ _ _
    have R3 : Rd w3 wo.heap.size g q (T.drop (P.h + P.q.c)) 0 := by rw [hw3]; exact R2.below ((Below.refl _ _).alloc (Nat.le_refl _) _)
    have hb3 : Below w.heap.size w w3 := by rw [hw3]; exact hb2'.out.alloc hb2'.out.size _
    have HW3 := Lib.hid hw3
    have hsub := HSUB.out (P.h + P.q.c) hle
    have HL := Lib.hid (Left_any wo.heap.size g q (T.drop (P.h + P.q.c)) 0 (w3.drewN 1) R3)
    have Q1 : OL ivl w3 w.heap.size 2 (.slice A3 v4.length c3) v4 := by
      rw [hw3]
      have e4 : v4 = (mkV P.k P.q.xs P.q.ts).ns := by rw [← hvv]
      rw [← e4] at o1
      exact (o1.mono (by omega)).alloc _
    have Q2 : OL svl w3 w.heap.size 9 (.slice A4 v5.length c4) v5 := by
      rw [hw3]
      have e4 : v5 = (mkV P.k P.q.xs P.q.ts).ts := by rw [← hvv]
      rw [← e4] at o2
      exact (o2.mono (by omega)).alloc _
    have n1 := own_blk_ne Q1.2 E1 (by decide)
    have n2 := own_blk_ne Q2.2 E1 (by decide)
    have HQ1 := Lib.hid Q1
    have HQ2 := Lib.hid Q2
    have HVN := Lib.hid (HVV.out.trans hvv.symm)
    have hb3' := Lib.hid hb3
    obtain ⟨X, hX⟩ : ∃ X, X = T.drop (P.h + P.q.c) := ⟨_, rfl⟩
    rw [← hX] at HL hsub
    obtain ⟨y0, y1, y2, y3, y4⟩ := box_cells E3
    clear z0 z1 z2 z3 z4 f0 f1 f3 f4 f5
    obtain ⟨z0, z1, z2, z3, z4⟩ := box_cells E1
    have f0 := E1.frozen 0
    have f1 := E1.frozen 1
    have f3 := E1.frozen 2
    have f4 := E1.frozen 3
    have f5 := E1.frozen 4
    have hl1 := E1.lt
    have hl3 := E3.lt
    have hneq : w2.heap.size ≠ w.heap.size := by omega
    have hneq2 : w.heap.size ≠ w2.heap.size := by omega
    obtain ⟨Np, hNp⟩ : ∃ N, N = P.h + P.q.c := ⟨_, rfl⟩
    rw [← hNp] at hsub HNN
    have hwn : IntKind.i64.wrap (Np : Int) = (Np : Int) := by rw [IntKind.wrap_i64]; omega
    have H0 := Lib.hid h0
    clear hw3 E1 E3 R3 hb3 Q1 Q2 hvv o1 o2 R2 hX hle hNp h0 hq
    go_upto_region 6 with fail
    rw [← HW3.out, H0.out]
    go_region_held3 (fun w' => w'.cell? ⟨w2.heap.size, 0, none⟩ = some (.int .i64 v1) ∧ w'.cell? ⟨w2.heap.size, 1, none⟩ = some (.int .i64 v2) ∧ w'.cell? ⟨w2.heap.size, 2, none⟩ = some (.string v3) ∧ w'.cell? ⟨w2.heap.size, 3, none⟩ = some (.slice A3 v4.length c3) ∧ w'.cell? ⟨w2.heap.size, 4, none⟩ = some (.slice A4 v5.length c4)) (go_keep)
      ((go_at_call 51; refine (HL.out).mono ?_; rintro e w' ⟨rfl, rfl⟩))
    go_wp2
    refine bodyPost_ret (v := .tuple #[.agg #[.int .i64 v1, .int .i64 v2, .string v3, .slice A3 v4.length c3, .slice A4 v5.length c4], .int .i64 (Np : Int), .int .i64 0]) (by simp [results, Tryz.results49, go_sem, *]) rfl ⟨A3, c3, A4, c4, ?_, ?_, ?_, ?_⟩
    · rw [HVN.out, HNN.out, H0.out]
    · rw [HVN.out]; exact OL.set5 (HQ1.out.drewN 1) n1 _ _ _ _ _
    · rw [HVN.out]; exact OL.set5 (HQ2.out.drewN 1) n2 _ _ _ _ _
    · exact set5_below (below_drewN hb3'.out 1) (Nat.le_refl _)

/-- what Decode leaves -/
def decErr (bs : List Nat) : Int := if prefErr bs = 0 ∧ prefN bs < bs.length then 11 else prefErr bs
def decV (bs : List Nat) : Vv := if decErr bs = 0 then prefV bs else vnone
theorem dec_bad {bs : List Nat} (h : prefErr bs ≠ 0) : decErr bs = prefErr bs ∧ decV bs = vnone := by
  have e : decErr bs = prefErr bs := if_neg (fun x => h x.1)
  exact ⟨e, by unfold decV; rw [e, if_neg h]⟩
theorem dec_tail {bs : List Nat} (h : prefErr bs = 0) (h2 : prefN bs < bs.length) : decErr bs = 11 ∧ decV bs = vnone := by
  have e : decErr bs = 11 := if_pos ⟨h, h2⟩
  exact ⟨e, by unfold decV; rw [e]; rfl⟩
theorem dec_ok {bs : List Nat} (h : prefErr bs = 0) (h2 : ¬ prefN bs < bs.length) : decErr bs = 0 ∧ decV bs = prefV bs := by
  have e : decErr bs = 0 := by unfold decErr; rw [if_neg (fun x => h2 x.2), h]
  exact ⟨e, by unfold decV; rw [if_pos e]⟩
def DecPost (bs : List Nat) (w : World) (e : Ending) (w' : World) : Prop :=
  ∃ A c A' c', e = .returned (.tuple #[.agg #[.int .i64 (decV bs).k, .int .i64 (decV bs).n, .string (decV bs).s, .slice A (decV bs).ns.length c, .slice A' (decV bs).ts.length c'], .int .i64 (decErr bs)]) ∧
    OL ivl w' w.heap.size 2 (.slice A (decV bs).ns.length c) (decV bs).ns ∧ OL svl w' w.heap.size 9 (.slice A' (decV bs).ts.length c') (decV bs).ts ∧ Below w.heap.size w w'

set_option maxRecDepth 100000 in
set_option maxHeartbeats 2000000 in
theorem Decode_any (A : Option Addr) (cap B : Nat) (bs : List Nat) (w : World) (h : RB w B A bs) (hB : B ≤ w.heap.size) (hc : bs.length ≤ cap) (hm : cap ≤ maxLen) :
    Calls Tryz.prog 53 #[.slice A bs.length cap] w (DecPost bs w) := by
  obtain ⟨wo, hwo⟩ : ∃ x, x = w.alloc (.cells #[.int .i64 0, .int .i64 0, .string ⟨#[]⟩, .slice none 0 0, .slice none 0 0] 42) := ⟨_, rfl⟩
  have B1 : Blk wo w.heap.size 42 #[.int .i64 0, .int .i64 0, .string ⟨#[]⟩, .slice none 0 0, .slice none 0 0] := by subst hwo; exact Blk.new _ _ _
  have hb0 : Below w.heap.size w wo := by subst hwo; exact (Below.refl _ _).alloc (Nat.le_refl _) _
  have hso := B1.lt
  have HP := Lib.hid (Prefix_any A cap B bs wo (by subst hwo; exact h.alloc hB _) (by omega) hc hm)
  have HW := Lib.hid hwo
  have HD1 := Lib.hid (@dec_bad bs)
  have HD2 := Lib.hid (@dec_tail bs)
  have HD3 := Lib.hid (@dec_ok bs)
  unfold maxLen at hm
  unfold DecPost
  unfold PrefPost at HP
  obtain ⟨E, hE⟩ : ∃ x, x = prefErr bs := ⟨_, rfl⟩
  obtain ⟨N, hN⟩ : ∃ x, x = prefN bs := ⟨_, rfl⟩
  obtain ⟨V, hV⟩ : ∃ x, x = prefV bs := ⟨_, rfl⟩
  rw [← hE, ← hN, ← hV] at HP
  rw [← hE] at HD1 HD2 HD3
  rw [← hN] at HD2 HD3
  rw [← hV] at HD3
  obtain ⟨v1, v2, v3, v4, v5⟩ := V
  clear hwo h hE hN hV
  go_enter Tryz.func53, Tryz.ntmps53
  go_wp2_with fail
  rw [← HW.out]
  refine (HP.out).mono ?_
  rintro e w2 ⟨A3, c3, A4, c4, rfl, o1, o2, b2⟩
  simp only at o1 o2 ⊢
  have D1 := B1.below b2 B1.lt
  have hb2 := hb0.trans (b2.mono hb0.size)
  obtain ⟨z0, z1, z2, z3, z4⟩ := box_cells D1
  have f0 := D1.frozen 0
  have f1 := D1.frozen 1
  have f3 := D1.frozen 2
  have f4 := D1.frozen 3
  have f5 := D1.frozen 4
  have hl2 := D1.lt
  have n1 := own_blk_ne o1.2 D1 (by decide)
  have n2 := own_blk_ne o2.2 D1 (by decide)
  have HO1 := Lib.hid (o1.mono (Nat.le_of_lt hso))
  have HO2 := Lib.hid (o2.mono (Nat.le_of_lt hso))
  have hb2' := Lib.hid hb2
  clear B1 D1 b2 hb2 o1 o2 hb0
  by_cases h0 : E = 0
  case neg =>
    have hne : (E != 0) = true := by simpa using h0
    obtain ⟨e1, e2⟩ := HD1.out h0
    have HE1 := Lib.hid e1
    have HE2 := Lib.hid e2
    clear h0 e1 e2
    go_wp2
    refine bodyPost_ret (v := .tuple #[.agg #[.int .i64 0, .int .i64 0, .string ⟨#[]⟩, .slice none 0 0, .slice none 0 0], .int .i64 E]) (by simp [results, Tryz.results53, go_sem, *]) rfl ⟨none, 0, none, 0, ?_, ?_, ?_, ?_⟩
    · rw [HE1.out, HE2.out]; rfl
    · rw [HE2.out]; exact OL.nil _ _ _ _
    · rw [HE2.out]; exact OL.nil _ _ _ _
    · exact Below.alloc (set5_below hb2'.out (Nat.le_refl _)) (set5_below hb2'.out (Nat.le_refl _)).size _
  subst h0
  by_cases hlt : N < bs.length
  · have hd : decide ((N : Int) < (bs.length : Int)) = true := decide_eq_true (by omega)
    obtain ⟨e1, e2⟩ := HD2.out rfl hlt
    have HE1 := Lib.hid e1
    have HE2 := Lib.hid e2
    clear e1 e2
    go_wp2
    refine bodyPost_ret (v := .tuple #[.agg #[.int .i64 0, .int .i64 0, .string ⟨#[]⟩, .slice none 0 0, .slice none 0 0], .int .i64 11]) (by simp [results, Tryz.results53, go_sem, *]) rfl ⟨none, 0, none, 0, ?_, ?_, ?_, ?_⟩
    · rw [HE1.out, HE2.out]; rfl
    · rw [HE2.out]; exact OL.nil _ _ _ _
    · rw [HE2.out]; exact OL.nil _ _ _ _
    · exact Below.alloc (set5_below hb2'.out (Nat.le_refl _)) (set5_below hb2'.out (Nat.le_refl _)).size _
  · have hd : decide ((N : Int) < (bs.length : Int)) = false := decide_eq_false (by omega)
    obtain ⟨e1, e2⟩ := HD3.out rfl hlt
    have HE1 := Lib.hid e1
    have HE2 := Lib.hid e2
    clear e1 e2
    go_wp2
    refine bodyPost_ret (v := .tuple #[.agg #[.int .i64 v1, .int .i64 v2, .string v3, .slice A3 v4.length c3, .slice A4 v5.length c4], .int .i64 0]) (by simp [results, Tryz.results53, go_sem, *]) rfl ⟨A3, c3, A4, c4, ?_, ?_, ?_, ?_⟩
    · rw [HE1.out, HE2.out]
    · rw [HE2.out]; exact (OL.set5 HO1.out n1 _ _ _ _ _).alloc _
    · rw [HE2.out]; exact (OL.set5 HO2.out n2 _ _ _ _ _).alloc _
    · exact Below.alloc (set5_below hb2'.out (Nat.le_refl _)) (set5_below hb2'.out (Nat.le_refl _)).size _

end Go.Proofs.YtgpahglmhnnobaaGreatDoor

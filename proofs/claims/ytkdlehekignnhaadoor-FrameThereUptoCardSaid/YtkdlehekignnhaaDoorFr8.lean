/- frame: a frame's bytes are read as it; the law's example. -/
import Derived.Test.YtkdlehekignnhaaDoorFr7
import Derived.Test.YtkdlehekignnhaaDoorSameS
namespace Go.Proofs.YtkdlehekignnhaaDoor
open Go.RowKit Go.Shelf
set_option linter.unusedVariables false

theorem first_fbytes {t : Nat} {d : List Nat} (r : List Nat) (ht : t < 256) (hd : d.length ≤ 1048576) (hi : IsBytes d) :
    firstErr (fbytes t d ++ r) = 0 ∧ frT (fbytes t d ++ r) = t ∧ frD (fbytes t d ++ r) = d ∧ frN (fbytes t d ++ r) = d.length := by
  have hb : fbytes t d ++ r = enc 1 t ++ (enc 4 d.length ++ (d ++ (enc 4 (crc (fbody t d)) ++ r))) := by
    unfold fbytes
    conv => lhs; arg 1; arg 1; unfold fbody
    simp only [List.append_assoc]
  have hlen : (fbytes t d ++ r).length = 9 + d.length + r.length := by rw [List.length_append, fbytes_len]
  have h5 : (fbytes t d ++ r).take 5 = enc 1 t ++ enc 4 d.length := by
    rw [hb, ← List.append_assoc]
    exact List.take_left' (by rw [List.length_append, enc_length, enc_length])
  have hN : frN (fbytes t d ++ r) = d.length := by
    unfold frN
    rw [h5, List.drop_left' (enc_length 1 t), be_enc]
    exact Nat.mod_eq_of_lt (by omega)
  have hbody : (fbytes t d ++ r).take (5 + d.length) = fbody t d := by
    unfold fbytes
    rw [List.append_assoc]
    exact List.take_left' (fbody_len t d)
  have hsum : ((fbytes t d ++ r).take (9 + d.length)).drop (5 + d.length) = enc 4 (crc (fbody t d)) := by
    rw [List.take_left' (fbytes_len t d)]
    unfold fbytes
    exact List.drop_left' (fbody_len t d)
  have hc : crc (fbody t d) < 4294967296 := crc_lt (fbody_is t hi)
  have he : firstErr (fbytes t d ++ r) = 0 := by
    unfold firstErr
    rw [hN, hsum, hbody, be_enc, if_neg (by omega), if_neg (by omega), if_neg (by omega), if_neg]
    rw [Nat.mod_eq_of_lt (by omega)]
    simp
  refine ⟨he, ?_, ?_, hN⟩
  · unfold frT
    rw [if_pos he, hb]
    have h1 : nth (enc 1 t ++ (enc 4 d.length ++ (d ++ (enc 4 (crc (fbody t d)) ++ r)))) 0 = nth (enc 1 t) 0 := by
      unfold nth
      simp only [List.getD_eq_getElem?_getD]
      rw [List.getElem?_append_left (by rw [enc_length]; omega)]
    rw [h1, enc_nth 1 t 0 (by omega)]
    simp
    omega
  · unfold frD
    rw [if_pos he, hN, hbody]
    unfold fbody
    rw [List.drop_left' (by rw [List.length_append, enc_length, enc_length])]
theorem frs_fbytes {t : Nat} {d : List Nat} (r : List Nat) (ht : t < 256) (hd : d.length ≤ 1048576) (hi : IsBytes d) : frs (fbytes t d ++ r) = ((t, d) :: (frs r).1, (frs r).2) := by
  obtain ⟨he, h1, h2, h3⟩ := first_fbytes r ht hd hi
  have hlen : (fbytes t d ++ r).length = 9 + d.length + r.length := by rw [List.length_append, fbytes_len]
  rw [frs, if_neg (by omega), if_neg (by simpa using he), h1, h2, h3, List.drop_left' (fbytes_len t d)]
theorem evs_fbytes {t : Nat} {d : List Nat} (r : List Nat) (ht : t < 256) (hd : d.length ≤ 1048576) (hi : IsBytes d) : evs (fbytes t d ++ r) = ⟨t, d, 0⟩ :: evs r := by
  unfold evs
  rw [frs_fbytes r ht hd hi]
  rfl
theorem frs_nil : frs [] = ([], 0) := by
  rw [frs]
  exact if_pos rfl
theorem evs_nil' : evs [] = [] := evs_nil rfl

/-! ### the example -/
def sB : List Nat := fbytes 2 [9]
theorem sB_is : IsBytes [9] := IsBytes.single (by decide)
theorem sB_pack : packErr 2 [9] = 0 ∧ packB 2 [9] = sB := ⟨by decide, rfl⟩
theorem sB_len : sB.length = 10 := fbytes_len 2 [9]
theorem sB_take : sB.take 6 = [2, 0, 0, 0, 1, 9] := by
  unfold sB fbytes
  rw [List.take_left' (by rw [fbody_len]; rfl)]
  decide
theorem sB_frs : frs sB = ([(2, [9])], 0) := by
  have h := frs_fbytes (t := 2) (d := [9]) [] (by decide) (by decide) sB_is
  rw [List.append_nil, frs_nil] at h
  exact h
theorem sB_evs : evs sB = [⟨2, [9], 0⟩] := by
  have h := evs_fbytes (t := 2) (d := [9]) [] (by decide) (by decide) sB_is
  rw [List.append_nil, evs_nil'] at h
  exact h
theorem sB_fed : fedE 0 [] sB = 0 ∧ fedB 0 [] sB = [] ∧ fedF 0 [] sB [] = [(2, [9])] := by
  unfold fedE fedB fedF
  rw [if_pos rfl, if_pos rfl, if_pos rfl, List.nil_append, sB_evs]
  have hE : gotE 0 [⟨2, [9], 0⟩] = 0 := rfl
  refine ⟨hE, ?_, rfl⟩
  rw [if_pos hE]
  exact List.length_eq_zero_iff.1 (by rw [List.length_drop, sB_len]; rfl)
/-- a literal of bytes as an object -/
theorem St.litB {S : Fp} {l : List Ass} {w0 w : World} [Stable (Sep l)] (h : St S l w0 w) (e : TypeId) (L : List Nat) (hL : IsBytes L) (n : Nat) (hn : L.length = n) (hm : n ≤ maxLen) (cs : Array Value) (hcs : cs.toList = cells8 L) (N : Nat) (hN : w.heap.size = N) :
    St S (ObA e (.slice (some ⟨N, 0, none⟩) n n) L :: l) w0 (w.alloc (.cells cs e)) := by
  subst hN hn
  have hl : cs.size = L.length * 1 := by rw [← Array.length_toList, hcs, cells8_length, Nat.mul_one]
  have ho := World.ownsRow_lit (base := w.heap.size) (e := e) (size := 1) w cs L.length (Nat.le_refl _) hm hl
  rw [hcs] at ho
  exact h.newOb ⟨hL, ho⟩ ((Below.refl _ _).alloc (Nat.le_refl _) _)
theorem St.obForm {S : Fp} {l : List Ass} {w0 w : World} {e : TypeId} {v : Value} {bs : List Nat} {n : Nat} (h : St S (ObA e v bs :: l) w0 w) (hn : bs.length = n) : ∃ A c, v = .slice A n c ∧ n ≤ c ∧ c ≤ maxLen ∧ RB w w.heap.size A bs := by
  subst hn
  obtain ⟨A, c, hv, h1, h2, h3, -⟩ := h.ob.form
  exact ⟨A, c, hv, h1, h2, h3⟩
set_option maxRecDepth 100000 in
set_option maxHeartbeats 2000000 in
theorem speaks19_any (w : World) (hT : TabW w) : Calls Tryd.prog 11 #[] w fun e w' => e = .returned (.bool true) ∧ Below w.heap.size w w' := by
  have h0 := (St.start Zf w).litB 5 [9] sB_is 1 rfl (by decide) #[.int .u8 9] rfl _ rfl
  have H0 := Lib.hid h0
  have HT := Lib.hid hT
  have hP := Pack_any 2 (some ⟨w.heap.size, 0, none⟩) 1 _ [9] _ (hT.below h0.bel hT.1) h0.ob.reads.2.1 (Nat.le_refl _) (by decide)
  unfold PackedW at hP
  rw [sB_pack.1, sB_pack.2] at hP
  simp only [fragg] at hP
  have HP := Lib.hid hP
  clear h0 hP hT
  go_enter Tryd.func11, Tryd.ntmps11
  go_wp2_with fail
  refine HP.out.mono ?_
  rintro e w1 ⟨v, rfl, h1⟩
  have h2 := H0.out.addStL h1
  obtain ⟨A1, c1, rfl, hc1, hm1, hr1⟩ := h2.obForm sB_len
  have H2 := Lib.hid h2
  clear h1 h2 HP H0
  have k1 : (6 : Int) ≤ (c1 : Int) := by omega
  have hA : ∃ b off, A1 = some ⟨b, off, none⟩ := by
    obtain ⟨b, off, h, -, -⟩ := hr1.all (by rw [sB_len]; decide)
    exact ⟨b, off, h⟩
  obtain ⟨b1, o1, rfl⟩ := hA
  have hr6 := hr1.cut rfl 0 6 (by rw [sB_len]; decide) (by decide)
  rw [sB_take, List.drop_zero, Nat.add_zero] at hr6
  have h3 := H2.out.litB 5 [2, 0, 0, 0, 1, 9] (by intro x hx; revert x; decide) 6 rfl (by decide) #[.int .u8 2, .int .u8 0, .int .u8 0, .int .u8 0, .int .u8 1, .int .u8 9] rfl _ rfl
  have hr6' := hr6.alloc (Nat.le_refl _) (.cells #[.int .u8 2, .int .u8 0, .int .u8 0, .int .u8 0, .int .u8 1, .int .u8 9] 5)
  have HS := Lib.hid (same_yes (some ⟨b1, o1, none⟩) _ 6 c1 6 _ _ _ _ hr6' h3.ob.reads.2.1 rfl (by decide))
  have H3 := Lib.hid h3.drop
  clear h3 hr6 hr6' hr1 H2
  go_wp2_with fail
  refine HS.out.mono ?_
  rintro e w3 ⟨rfl, q3, hw3⟩
  have h4 := H3.out.drewN q3
  rw [← hw3] at h4
  clear hw3 HS H3
  have hSp := Split_any (some ⟨b1, o1, none⟩) c1 _ sB w3 (HT.out.below h4.bel HT.out.1) (h4.ob.form.elim fun _ _ => by
    obtain ⟨A', c', e', -, -, hr', -⟩ := h4.ob.form
    simp only [Value.slice.injEq] at e'
    rw [e'.1]
    exact hr') (Nat.le_refl _) (by rw [sB_len]; omega) hm1 (by rw [sB_len]; decide)
  unfold SplitW at hSp
  rw [sB_len, sB_frs] at hSp
  have HSp := Lib.hid hSp
  have H4 := Lib.hid h4
  clear h4 hSp
  go_wp2_with fail
  refine HSp.out.mono ?_
  rintro e w5 ⟨v5, X5, rfl, h5, hX5⟩
  have hX5 : X5.map Fq.f = [(2, [9])] := hX5
  obtain ⟨q5, rfl, hq5⟩ : ∃ q, X5 = [q] ∧ Fq.f q = (2, [9]) := by
    match X5, hX5 with
    | [], h => cases h
    | [q], h => exact ⟨q, rfl, by simpa using h⟩
    | _ :: _ :: _, h => simp at h
  have hq5t : q5.t = 2 := congrArg Prod.fst hq5
  have h6 := H4.out.addStL h5
  obtain ⟨A5, c5, hv5, hc5, hm5, -⟩ := (St.flat h6).owForm
  have hv5 : v5 = .slice A5 1 c5 := hv5
  subst hv5
  have H6 := Lib.hid h6
  clear h5 h6 HSp H4 hX5
  go_wp2_with fail
  refine (NewReader_any H6.out).mono ?_
  rintro e w6 ⟨g, rfl, h7⟩
  have h8 : St Zf (OwA frF 2 25 (.slice A5 1 c5) [q5] :: _) w w6 := (h7.swap).flat
  obtain ⟨A6, c6, hv6, -, -, hrr⟩ := h8.owForm
  simp only [Value.slice.injEq] at hv6
  obtain ⟨rfl, -, rfl⟩ := hv6
  obtain ⟨b5, o5, rfl, hb5, hcell⟩ := hrr.all frF_row Nat.one_pos
  have t5 := (hcell 0 q5 rfl) 0 _ rfl
  rw [hq5t] at t5
  have t5' : w6.cell? ⟨b5, o5, none⟩ = some (.int .i64 2) := by simpa using t5
  have h9 := h7.swap.drop
  have hob := h9.swap.ob
  have hF := Feed_any HT.out h9 (A := some ⟨b1, o1, none⟩) (c := c1) (ck := sB) (B := w6.heap.size) (by
    obtain ⟨A', c', e', -, -, hr', -⟩ := hob.form
    simp only [Value.slice.injEq] at e'
    rw [e'.1]
    exact hr') (by rw [sB_len]; decide) (by decide)
  rw [sB_len, sB_fed.1, sB_fed.2.1, sB_fed.2.2] at hF
  have HF := Lib.hid hF
  clear h7 h8 h9 hrr hcell hob hF t5 H6
  go_wp2_with fail
  refine HF.out.mono ?_
  rintro e w7 ⟨rfl, h7⟩
  obtain ⟨X7, hX7, h8⟩ := nx_of h7
  obtain ⟨q7, rfl, hq7⟩ : ∃ q, X7 = [q] ∧ Fq.f q = (2, [9]) := by
    match X7, hX7 with
    | [], h => cases h
    | [q], h => exact ⟨q, rfl, by simpa using h⟩
    | _ :: _ :: _, h => simp at h
  have hq7t : q7.t = 2 := congrArg Prod.fst hq7
  have hq7d : q7.d = [9] := congrArg Prod.snd hq7
  have hN := Next_yes h8
  rw [hq7t, hq7d] at hN
  simp only [fragg] at hN
  have HN := Lib.hid hN
  have HQ := Lib.hid hq7d
  clear h7 h8 hN HF t5' hq7 hq7t hq7d hX7
  go_wp2_with fail
  refine HN.out.mono ?_
  rintro e w8 ⟨rfl, h9⟩
  have h10 := h9.newBlk 25 #[.int .i64 2, .slice q7.A 1 q7.c]
  have h11 := h10.litB 5 [9] sB_is 1 rfl (by decide) #[.int .u8 9] rfl _ rfl
  rw [World.size_alloc] at h11
  have hd : St Zf (ObA 5 (.slice q7.A q7.d.length q7.c) q7.d :: _) w _ := h11.bring2
  rw [HQ.out] at hd
  have HS := Lib.hid (same_yes q7.A _ 1 q7.c 1 _ _ [9] _ hd.ob.reads.2.1 h11.ob.reads.2.1 rfl (by decide))
  have HB := Lib.hid h11.bel
  have hb8 : w.heap.size ≤ w8.heap.size := h9.size
  clear h9 h10 h11 hd HN
  go_wp2_with fail
  refine HS.out.mono ?_
  rintro e w9 ⟨rfl, q9, rfl⟩
  have HB9 := Lib.hid (below_drewN HB.out q9)
  clear HS
  go_wp2_with fail
  go_ret
  exact ⟨rfl, HB9.out⟩

end Go.Proofs.YtkdlehekignnhaaDoor

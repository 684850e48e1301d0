/- What is read is right, and its bytes are those it was read from; what is cut is short (plain lists). -/
import Derived.Test.YtgpahglmhnnobaaGreatDoorValDec
namespace Go.Proofs.YtgpahglmhnnobaaGreatDoor
open Go.RowKit
set_option linter.unusedVariables false

theorem enc_mod (d : Nat) : ∀ n a : Nat, enc d (n + a * 256 ^ d) = enc d n := by
  induction d with
  | zero => intro n a; rfl
  | succ d ih =>
    intro n a
    have hp : 0 < 256 ^ d := Nat.pow_pos (by omega)
    have e1 : n + a * 256 ^ (d + 1) = n + (a * 256) * 256 ^ d := by rw [Nat.pow_succ, Nat.mul_comm (256 ^ d) 256, Nat.mul_assoc]
    simp only [enc]
    rw [e1, ih n (a * 256), Nat.add_mul_div_right _ _ hp]
    congr 1
    omega
theorem enc_be (L : List Nat) (h : IsBytes L) : enc L.length (be L) = L := by
  induction L with
  | nil => rfl
  | cons c l ih =>
    have hl : IsBytes l := fun x hx => h x (List.mem_cons_of_mem _ hx)
    have hc := h c (List.mem_cons_self ..)
    have hb := be_all l hl
    have hp : 0 < 256 ^ l.length := Nat.pow_pos (by omega)
    rw [be_cons, List.length_cons, enc]
    congr 1
    · rw [Nat.add_comm, Nat.add_mul_div_right _ _ hp, Nat.div_eq_of_lt hb]
      omega
    · rw [Nat.add_comm, enc_mod, ih hl]

/-- one element that was read -/
structure ScOk (e : Int) (bs : List Nat) (q : Sc) : Prop where
  len : q.c ≤ bs.length
  num : e ≠ 4 → numW e q.x = 0 ∧ -9223372036854775808 ≤ q.x ∧ q.x ≤ 9223372036854775807 ∧ encNum e q.x = bs.take q.c
  txt : e = 4 → q.t.size ≤ 1000 ∧ encTxt q.t = bs.take q.c
theorem be_lt8 {L : List Nat} (h : IsBytes L) (hl : L.length ≤ 8) : be L < 18446744073709551616 := by
  have h1 := be_all L h
  have h2 : (256 : Nat) ^ L.length ≤ 256 ^ 8 := Nat.pow_le_pow_right (by omega) hl
  have h3 : (256 : Nat) ^ 8 = 18446744073709551616 := rfl
  omega
theorem scalar_ok {e : Int} {bs : List Nat} (hb : IsBytes bs) (h : (scalar e bs).e = 0) : ScOk e bs (scalar e bs) := by
  by_cases h4 : e = 4
  · subst h4
    by_cases h1 : bs.length < 2
    · rw [scalar_t1 h1] at h; simp at h
    · by_cases h2 : 1000 < be (bs.take 2)
      · rw [scalar_t2 h1 h2] at h; simp at h
      · by_cases h3 : bs.length < 2 + be (bs.take 2)
        · rw [scalar_t3 h1 h2 h3] at h; simp at h
        · rw [scalar_t4 h1 h2 h3]
          have hl : ((bs.drop 2).take (be (bs.take 2))).length = be (bs.take 2) := by rw [List.length_take, List.length_drop]; omega
          refine ⟨by show 2 + _ ≤ _; omega, fun h => absurd rfl h, fun _ => ⟨by show (strOf _).size ≤ _; rw [strOf_size, hl]; omega, ?_⟩⟩
          show encTxt (strOf ((bs.drop 2).take (be (bs.take 2)))) = bs.take (2 + be (bs.take 2))
          unfold encTxt
          rw [strOf_size, hl, strBytes_strOf ((hb.drop 2).take _)]
          have h2l : (bs.take 2).length = 2 := by rw [List.length_take]; omega
          have := enc_be (bs.take 2) (hb.take 2)
          rw [h2l] at this
          rw [this, List.take_add]
  · have hd := (nwid_is e).2
    by_cases h1 : bs.length < (nwid e).toNat
    · rw [scalar_n1 h4 h1] at h; simp at h
    · rw [scalar_n2 h4 h1] at h ⊢
      have hl : (bs.take (nwid e).toNat).length = (nwid e).toNat := by rw [List.length_take]; omega
      have hn := be_lt8 (hb.take (nwid e).toNat) (by omega)
      by_cases hw : numW e (toI (be (bs.take (nwid e).toNat))) = 0
      · rw [scNum_ok hw]
        have hr := toI_range hn
        refine ⟨by show (nwid e).toNat ≤ _; omega, fun _ => ⟨hw, hr.1, hr.2, ?_⟩, fun h => absurd h h4⟩
        show encNum e (toI (be (bs.take (nwid e).toNat))) = bs.take (nwid e).toNat
        rw [encNum_eq, u64_toI hn]
        have := enc_be (bs.take (nwid e).toNat) (hb.take _)
        rwa [hl] at this
      · rw [scNum_no hw] at h
        exact absurd h hw

structure ElOk (e : Int) (m : Nat) (bs : List Nat) (q : El) : Prop where
  len : q.c ≤ bs.length
  xl : q.xs.length = m
  tl : q.ts.length = m
  num : e ≠ 4 → (∀ x ∈ q.xs, numW e x = 0 ∧ -9223372036854775808 ≤ x ∧ x ≤ 9223372036854775807) ∧ encNums e q.xs = bs.take q.c
  txt : e = 4 → (∀ t ∈ q.ts, t.size ≤ 1000) ∧ encTxts q.ts = bs.take q.c
theorem elems_ok (e : Int) (m : Nat) : ∀ bs : List Nat, IsBytes bs → (elems e m bs).e = 0 → ElOk e m bs (elems e m bs) := by
  induction m with
  | zero => intro bs _ _; exact ⟨Nat.zero_le _, rfl, rfl, fun _ => ⟨(fun x hx => by cases hx), by simp [elems, encNums]⟩, fun _ => ⟨(fun x hx => by cases hx), by simp [elems, encTxts]⟩⟩
  | succ m ih =>
    intro bs hb h
    by_cases hs : (scalar e bs).e = 0
    · have h1 := scalar_ok hb hs
      rw [elems_good hs] at h ⊢
      by_cases hq : (elems e m (bs.drop (scalar e bs).c)).e = 0
      · have h2 := ih _ (hb.drop _) hq
        unfold El.pre
        rw [if_neg (by simpa using hq)]
        have hlen := h2.len
        rw [List.length_drop] at hlen
        have hl1 := h1.len
        refine ⟨by show (scalar e bs).c + _ ≤ _; omega, by simp [h2.xl], by simp [h2.tl], fun he => ?_, fun he => ?_⟩
        · obtain ⟨a1, a2, a3, a4⟩ := h1.num he
          obtain ⟨b1, b2⟩ := h2.num he
          refine ⟨fun x hx => ?_, ?_⟩
          · simp only [List.cons_append, List.nil_append, List.mem_cons] at hx
            rcases hx with rfl | hx
            · exact ⟨a1, a2, a3⟩
            · exact b1 x hx
          · show encNums e ([(scalar e bs).x] ++ _) = bs.take ((scalar e bs).c + _)
            rw [List.take_add, ← a4, ← b2]
            unfold encNums
            simp
        · obtain ⟨a1, a2⟩ := h1.txt he
          obtain ⟨b1, b2⟩ := h2.txt he
          refine ⟨fun x hx => ?_, ?_⟩
          · simp only [List.cons_append, List.nil_append, List.mem_cons] at hx
            rcases hx with rfl | hx
            · exact a1
            · exact b1 x hx
          · show encTxts ([(scalar e bs).t] ++ _) = bs.take ((scalar e bs).c + _)
            rw [List.take_add, ← a2, ← b2]
            unfold encTxts
            simp
      · unfold El.pre at h
        rw [if_pos hq] at h
        exact absurd h hq
    · rw [elems_bad hs] at h
      exact absurd h hs

theorem vok_mk {k n : Int} {s : ByteArray} {ns : List Int} {ts : List ByteArray} (k1 : -9223372036854775808 ≤ k) (k2 : k ≤ 9223372036854775807) (n1 : -9223372036854775808 ≤ n) (n2 : n ≤ 9223372036854775807) (s1 : s.size ≤ 140737488351232)
    (a : ∀ x ∈ ns, -9223372036854775808 ≤ x ∧ x ≤ 9223372036854775807) (b : ns.length * 8 ≤ 140737488351232) (c : ∀ x ∈ ts, x.size ≤ 140737488351232) (d : ts.length * 16 ≤ 140737488351232) : Vok ⟨k, n, s, ns, ts⟩ := ⟨k1, k2, n1, n2, s1, a, b, c, d⟩
/-- the value that was read -/
structure PrOk (bs : List Nat) : Prop where
  right : Right (prefV bs)
  ok : Vok (prefV bs)
  len : prefN bs ≤ bs.length
  bytes : encB (prefV bs) = bs.take (prefN bs)
theorem nil_list : (ByteArray.empty).toList = [] := by rw [ByteArray.toList_eq]; rfl
theorem pref_ok {bs : List Nat} (hb : IsBytes bs) (h : prefErr bs = 0) : PrOk bs := by
  unfold prefErr at h
  have hv : prefV bs = mkV (prefixE bs).k (prefixE bs).q.xs (prefixE bs).q.ts := if_pos h
  have hN : prefN bs = (prefixE bs).h + (prefixE bs).q.c := if_pos h
  cases bs with
  | nil => simp [prefixE, El.no] at h
  | cons kn r =>
    have hr : IsBytes r := fun x hx => hb x (List.mem_cons_of_mem _ hx)
    by_cases hk : 1 ≤ kn ∧ kn ≤ 8
    · by_cases h4 : kn ≤ 4
      · rw [prefix_one hk h4] at h hv hN
        have h2 := elems_ok kn 1 r hr h
        rcases hq : elems kn 1 r with ⟨xs, ts, c, e⟩
        rw [hq] at h h2 hv hN
        obtain ⟨hlen, hxl, htl, hnum, htxt⟩ := h2
        simp only at h hlen hxl htl hnum htxt hv hN
        obtain ⟨x, rfl⟩ := List.length_eq_one_iff.1 hxl
        obtain ⟨t, rfl⟩ := List.length_eq_one_iff.1 htl
        by_cases e4 : kn = 4
        · subst e4
          obtain ⟨a1, a2⟩ := htxt rfl
          have hvv : mkV ((4 : Nat) : Int) [x] [t] = ⟨(4 : Nat), 0, t, [], []⟩ := rfl
          rw [hvv] at hv
          have ht := a1 t (List.mem_singleton.2 rfl)
          have hR : Right ⟨(4 : Nat), 0, t, [], []⟩ := ⟨by show (1 : Int) ≤ 4; omega, by show (4 : Int) ≤ 8; omega, ⟨fun _ => rfl, fun h => absurd rfl h, fun _ => rfl, fun _ => rfl⟩, by simp, by rw [numsOf_text rfl]; simp, by rw [txtsOf_text rfl]; simpa using ht⟩
          refine ⟨by rw [hv]; exact hR, by rw [hv]; exact vok_mk (by omega) (by omega) (by omega) (by omega) (by omega) (by simp) (by simp) (by simp) (by simp), by rw [hN, List.length_cons]; omega, ?_⟩
          rw [hv, hN, Nat.add_comm 1 c, List.take_succ_cons, ← a2]
          show encHead _ ++ encNums _ (numsOf _) ++ encTxts (txtsOf _) = _
          rw [numsOf_text (by rfl), txtsOf_text (by rfl)]
          simp [encHead, encNums]
        · obtain ⟨a1, a2⟩ := hnum (by omega)
          have hx := a1 x (List.mem_singleton.2 rfl)
          have hvv : mkV (kn : Int) [x] [t] = ⟨kn, x, .empty, [], []⟩ := by
            unfold mkV
            rw [if_pos (by omega), if_neg (by omega), if_neg (by omega), if_neg (by omega)]
            rfl
          rw [hvv] at hv
          have hlo : (kn : Int) < 4 := by omega
          have hR : Right ⟨kn, x, .empty, [], []⟩ := ⟨by show (1 : Int) ≤ kn; omega, by show (kn : Int) ≤ 8; omega, ⟨fun h => by exact absurd h (by show ¬ 3 < (kn : Int); omega), fun _ => nil_list, fun _ => rfl, fun _ => rfl⟩, by simp, by
            rw [numsOf_num hlo]
            show ∀ y ∈ [x], numW (elK (kn : Int)) y = 0
            rw [elK_no (by omega)]
            simpa using hx.1, by rw [txtsOf_num hlo]; simp⟩
          refine ⟨by rw [hv]; exact hR, by rw [hv]; exact ⟨by show -9223372036854775808 ≤ (kn : Int); omega, by show (kn : Int) ≤ _; omega, hx.2.1, hx.2.2, by show (0 : Nat) ≤ _; omega, by simp, by simp, by simp, by simp⟩, by rw [hN, List.length_cons]; omega, ?_⟩
          rw [hv, hN, Nat.add_comm 1 c, List.take_succ_cons, ← a2]
          show encHead _ ++ encNums (elK (kn : Int)) (numsOf _) ++ encTxts (txtsOf _) = _
          rw [numsOf_num (by exact hlo), txtsOf_num (by exact hlo), elK_no (by omega)]
          simp [encHead, encTxts]
          omega
      · cases r with
        | nil => rw [prefix_short hk h4] at h; simp [El.no] at h
        | cons m r' =>
          have hr' : IsBytes r' := fun x hx => hr x (List.mem_cons_of_mem _ hx)
          by_cases hc : 40 < m
          · rw [prefix_many hk h4 hc] at h; simp [El.no] at h
          · rw [prefix_list hk h4 hc] at h hv hN
            have h2 := elems_ok ((kn : Int) - 4) m r' hr' h
            rcases hq : elems ((kn : Int) - 4) m r' with ⟨xs, ts, c, e⟩
            rw [hq] at h h2 hv hN
            obtain ⟨hlen, hxl, htl, hnum, htxt⟩ := h2
            simp only at h hlen hxl htl hnum htxt hv hN
            by_cases e8 : kn = 8
            · subst e8
              obtain ⟨a1, a2⟩ := htxt rfl
              have hvv : mkV ((8 : Nat) : Int) xs ts = ⟨(8 : Nat), 0, .empty, [], ts⟩ := rfl
              rw [hvv] at hv
              have hR : Right ⟨(8 : Nat), 0, .empty, [], ts⟩ := ⟨by show (1 : Int) ≤ 8; omega, by show (8 : Int) ≤ 8; omega, ⟨fun _ => rfl, fun _ => nil_list, fun _ => rfl, fun h => absurd rfl h⟩, by simp; omega, by rw [numsOf_list (by show (4 : Int) < 8; omega)]; simp, by rw [txtsOf_list (by show (4 : Int) < 8; omega)]; exact a1⟩
              refine ⟨by rw [hv]; exact hR, by rw [hv]; exact vok_mk (by omega) (by omega) (by omega) (by omega) (by show (0 : Nat) ≤ _; omega) (by simp) (by simp) (fun t ht => by have := a1 t ht; omega) (by omega), by rw [hN, List.length_cons, List.length_cons]; omega, ?_⟩
              rw [hv, hN, Nat.add_comm 2 c, List.take_succ_cons, List.take_succ_cons, ← a2]
              show encHead _ ++ encNums _ (numsOf _) ++ encTxts (txtsOf _) = _
              rw [numsOf_list (by show (4 : Int) < ((8 : Nat) : Int); omega), txtsOf_list (by show (4 : Int) < ((8 : Nat) : Int); omega)]
              simp [encHead, encNums, htl]
            · obtain ⟨a1, a2⟩ := hnum (by omega)
              have hk4 : (4 : Int) < kn := by omega
              have hvv : mkV (kn : Int) xs ts = ⟨kn, 0, .empty, xs, []⟩ := by
                unfold mkV
                rw [if_neg (by omega), if_neg (by omega), if_pos (by omega), if_neg (by omega)]
              rw [hvv] at hv
              have hR : Right ⟨kn, 0, .empty, xs, []⟩ := ⟨by show (1 : Int) ≤ kn; omega, by show (kn : Int) ≤ 8; omega, ⟨fun _ => rfl, fun _ => nil_list, fun h => by exact absurd h (by show ¬ ((kn : Int) < 5 ∨ (kn : Int) = 8); omega), fun _ => rfl⟩, by simp; omega, by
                rw [numsOf_list hk4]
                show ∀ y ∈ xs, numW (elK (kn : Int)) y = 0
                rw [elK_yes hk4]
                exact fun y hy => (a1 y hy).1, by rw [txtsOf_list hk4]; simp⟩
              refine ⟨by rw [hv]; exact hR, by rw [hv]; exact vok_mk (by omega) (by omega) (by omega) (by omega) (by show (0 : Nat) ≤ _; omega) (fun x hx => (a1 x hx).2) (by omega) (by simp) (by simp), by rw [hN, List.length_cons, List.length_cons]; omega, ?_⟩
              rw [hv, hN, Nat.add_comm 2 c, List.take_succ_cons, List.take_succ_cons, ← a2]
              show encHead _ ++ encNums (elK (kn : Int)) (numsOf _) ++ encTxts (txtsOf _) = _
              rw [numsOf_list (by exact hk4), txtsOf_list (by exact hk4), elK_yes hk4]
              simp only [encHead, Int.toNat_natCast, if_pos hk4, List.length_nil, Nat.add_zero, hxl]
              simp [encTxts]
    · rw [prefix_kind hk] at h; simp [El.no] at h

/-! ### cut -/
theorem scalar_num_cut {e x : Int} (he : e ≠ 4) {k : Nat} (hk : k < (encNum e x).length) : (scalar e ((encNum e x).take k)).e = 10 := by
  rw [encNum_length] at hk
  rw [scalar_n1 he (by rw [List.length_take]; omega)]
theorem scalar_txt_cut {s : ByteArray} (h : s.size ≤ 1000) {k : Nat} (hk : k < (encTxt s).length) : (scalar 4 ((encTxt s).take k)).e = 10 := by
  have hl := encTxt_length s
  by_cases h2 : k < 2
  · rw [scalar_t1 (by rw [List.length_take]; omega)]
  · have ht : ((encTxt s).take k).take 2 = enc 2 s.size := by
      rw [List.take_take, Nat.min_eq_left (by omega)]
      unfold encTxt
      rw [List.take_left' (enc_length _ _)]
    have hb : be (((encTxt s).take k).take 2) = s.size := by rw [ht, be_enc' (by have : (256 : Nat) ^ 2 = 65536 := rfl; omega)]
    rw [scalar_t3 (by rw [List.length_take]; omega) (by rw [hb]; omega) (by rw [hb, List.length_take]; omega)]
theorem elems_nums_cut {e : Int} (he : e ≠ 4) (L : List Int) (hw : ∀ x ∈ L, numW e x = 0 ∧ -9223372036854775808 ≤ x ∧ x ≤ 9223372036854775807) : ∀ k, k < (encNums e L).length → (elems e L.length ((encNums e L).take k)).e = 10 := by
  induction L with
  | nil => intro k hk; simp [encNums] at hk
  | cons x l ih =>
    intro k hk
    have hcons : encNums e (x :: l) = encNum e x ++ encNums e l := by unfold encNums; rw [List.flatMap_cons]
    rw [hcons] at hk ⊢
    rw [List.length_cons]
    obtain ⟨h1, h2, h3⟩ := hw x (List.mem_cons_self ..)
    by_cases hc : k < (encNum e x).length
    · rw [List.take_append_of_le_length (by omega)]
      have := scalar_num_cut he hc
      rw [elems_bad (by rw [this]; decide), this]
      rfl
    · rw [List.take_append, List.take_of_length_le (by omega)]
      have hs := scalar_num he h1 h2 h3 ((encNums e l).take (k - (encNum e x).length))
      rw [elems_good (by rw [hs]), hs]
      simp only
      rw [List.drop_left' rfl]
      rw [List.length_append] at hk
      have h4 := ih (fun y hy => hw y (List.mem_cons_of_mem _ hy)) (k - (encNum e x).length) (by omega)
      unfold El.pre
      rw [if_pos (by rw [h4]; decide)]
      exact h4
theorem elems_txts_cut (L : List ByteArray) (hw : ∀ x ∈ L, x.size ≤ 1000) : ∀ k, k < (encTxts L).length → (elems 4 L.length ((encTxts L).take k)).e = 10 := by
  induction L with
  | nil => intro k hk; simp [encTxts] at hk
  | cons x l ih =>
    intro k hk
    have hcons : encTxts (x :: l) = encTxt x ++ encTxts l := by unfold encTxts; rw [List.flatMap_cons]
    rw [hcons] at hk ⊢
    rw [List.length_cons]
    have h1 := hw x (List.mem_cons_self ..)
    by_cases hc : k < (encTxt x).length
    · rw [List.take_append_of_le_length (by omega)]
      have := scalar_txt_cut h1 hc
      rw [elems_bad (by rw [this]; decide), this]
      rfl
    · rw [List.take_append, List.take_of_length_le (by omega)]
      have hs := scalar_txt h1 ((encTxts l).take (k - (encTxt x).length))
      rw [elems_good (by rw [hs]), hs]
      simp only
      rw [List.drop_left' rfl]
      rw [List.length_append] at hk
      have h4 := ih (fun y hy => hw y (List.mem_cons_of_mem _ hy)) (k - (encTxt x).length) (by omega)
      unfold El.pre
      rw [if_pos (by rw [h4]; decide)]
      exact h4
/-- the bytes of a right value: head and elements -/
theorem enc_forms {v : Vv} (h : Right v) (hn : Vok v) :
    (∃ (kn : Nat) (e : Int) (L : List Int), 1 ≤ kn ∧ kn ≤ 8 ∧ e ≠ 4 ∧ (∀ x ∈ L, numW e x = 0 ∧ -9223372036854775808 ≤ x ∧ x ≤ 9223372036854775807) ∧ ((kn ≤ 4 ∧ e = kn ∧ L.length = 1 ∧ encB v = kn :: encNums e L) ∨ (¬ kn ≤ 4 ∧ e = (kn : Int) - 4 ∧ L.length ≤ 40 ∧ encB v = kn :: L.length :: encNums e L))) ∨
    (∃ (kn : Nat) (M : List ByteArray), 1 ≤ kn ∧ kn ≤ 8 ∧ (∀ x ∈ M, x.size ≤ 1000) ∧ ((kn = 4 ∧ M.length = 1 ∧ encB v = kn :: encTxts M) ∨ (kn = 8 ∧ M.length ≤ 40 ∧ encB v = kn :: M.length :: encTxts M))) := by
  obtain ⟨hk1, hk2, ⟨o1, o2, o3, o4⟩, hcnt, hnum, htxt⟩ := h
  have hok := (numsOf_ok hn).1
  obtain ⟨k, n, s, ns, ts⟩ := v
  simp only at hk1 hk2 o1 o2 o3 o4 hcnt
  obtain ⟨kn, rfl⟩ : ∃ kn : Nat, k = kn := ⟨k.toNat, by omega⟩
  have hkk : 1 ≤ kn ∧ kn ≤ 8 := by omega
  rcases (show (kn : Int) < 4 ∨ (kn : Int) = 4 ∨ (4 < (kn : Int) ∧ (kn : Int) < 8) ∨ (kn : Int) = 8 by omega) with hk | hk | ⟨hk, hk8⟩ | hk
  · rw [numsOf_num (by exact hk)] at hnum hok
    rw [elK_no (by show ¬ 4 < (kn : Int); omega)] at hnum
    refine .inl ⟨kn, kn, [n], hkk.1, hkk.2, by omega, fun x hx => ⟨hnum x hx, hok x hx⟩, .inl ⟨by omega, rfl, rfl, ?_⟩⟩
    show encHead _ ++ encNums (elK (kn : Int)) (numsOf _) ++ encTxts (txtsOf _) = _
    rw [numsOf_num (by exact hk), txtsOf_num (by exact hk), elK_no (by omega)]
    simp [encHead, encTxts]
    omega
  · rw [txtsOf_text (by exact hk)] at htxt
    obtain rfl : kn = 4 := by omega
    refine .inr ⟨4, [s], by omega, by omega, htxt, .inl ⟨rfl, rfl, ?_⟩⟩
    show encHead _ ++ encNums _ (numsOf _) ++ encTxts (txtsOf _) = _
    rw [numsOf_text (by rfl), txtsOf_text (by rfl)]
    simp [encHead, encNums]
  · rw [numsOf_list (by exact hk)] at hnum hok
    rw [elK_yes (by exact hk)] at hnum
    have hts := o4 (by omega)
    subst hts
    simp only [List.length_nil, Nat.add_zero] at hcnt
    refine .inl ⟨kn, (kn : Int) - 4, ns, hkk.1, hkk.2, by omega, fun x hx => ⟨hnum x hx, hok x hx⟩, .inr ⟨by omega, rfl, hcnt, ?_⟩⟩
    show encHead _ ++ encNums (elK (kn : Int)) (numsOf _) ++ encTxts (txtsOf _) = _
    rw [numsOf_list (by exact hk), txtsOf_list (by exact hk), elK_yes hk]
    simp only [encHead, Int.toNat_natCast, if_pos hk, List.length_nil, Nat.add_zero]
    simp [encTxts]
  · rw [txtsOf_list (by show 4 < (kn : Int); omega)] at htxt
    have hns := o3 (.inr hk)
    subst hns
    obtain rfl : kn = 8 := by omega
    simp only [List.length_nil, Nat.zero_add] at hcnt
    refine .inr ⟨8, ts, by omega, by omega, htxt, .inr ⟨rfl, hcnt, ?_⟩⟩
    show encHead _ ++ encNums _ (numsOf _) ++ encTxts (txtsOf _) = _
    rw [numsOf_list (by show (4 : Int) < ((8 : Nat) : Int); omega), txtsOf_list (by show (4 : Int) < ((8 : Nat) : Int); omega)]
    simp [encHead, encNums]
theorem pref_cut {v : Vv} (h : Right v) (hn : Vok v) {k : Nat} (hk : k < (encB v).length) : prefErr ((encB v).take k) = 10 := by
  unfold prefErr
  rcases enc_forms h hn with ⟨kn, e, L, k1, k2, he, hL, ⟨h4, rfl, hl, hE⟩ | ⟨h4, rfl, hl, hE⟩⟩ | ⟨kn, M, k1, k2, hM, ⟨rfl, hl, hE⟩ | ⟨rfl, hl, hE⟩⟩
  all_goals rw [hE] at hk ⊢
  all_goals rcases k with _ | k
  all_goals first
    | rfl
    | skip
  · rw [List.take_succ_cons, prefix_one ⟨k1, k2⟩ h4, ← hl]
    exact elems_nums_cut he L hL k (by simpa using hk)
  · rw [List.take_succ_cons]
    rcases k with _ | k
    · rw [List.take_zero, prefix_short ⟨k1, k2⟩ h4]; rfl
    · rw [List.take_succ_cons, prefix_list ⟨k1, k2⟩ h4 (by omega)]
      exact elems_nums_cut he L hL k (by simpa using hk)
  · rw [List.take_succ_cons, prefix_one ⟨k1, k2⟩ (by omega), ← hl]
    exact elems_txts_cut M hM k (by simpa using hk)
  · rw [List.take_succ_cons]
    rcases k with _ | k
    · rw [List.take_zero, prefix_short ⟨k1, k2⟩ (by omega)]; rfl
    · rw [List.take_succ_cons, prefix_list ⟨k1, k2⟩ (by omega) (by omega)]
      exact elems_txts_cut M hM k (by simpa using hk)

end Go.Proofs.YtgpahglmhnnobaaGreatDoor

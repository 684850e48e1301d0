/- How bytes are read as a value, as plain functions of lists (nothing of the program is walked here). -/
import Derived.Test.YtgpahglmhnnobaaGreatDoorValEnc
namespace Go.Proofs.YtgpahglmhnnobaaGreatDoor
open Go.RowKit
set_option linter.unusedVariables false

/-- the int64 of 64 bits -/
def toI (n : Nat) : Int := if n < 9223372036854775808 then (n : Int) else (n : Int) - 18446744073709551616
theorem toI_range {n : Nat} (h : n < 18446744073709551616) : -9223372036854775808 ≤ toI n ∧ toI n ≤ 9223372036854775807 := by unfold toI; split <;> omega
theorem u64_toI {n : Nat} (h : n < 18446744073709551616) : u64 (toI n) = n := by unfold toI u64; split <;> omega
theorem toI_u64 {x : Int} (h1 : -9223372036854775808 ≤ x) (h2 : x ≤ 9223372036854775807) : toI (u64 x) = x := by unfold toI u64; split <;> omega
theorem wrap_toI {n : Nat} (h : n < 18446744073709551616) : IntKind.i64.wrap (n : Int) = toI n := by
  rw [IntKind.wrap_i64]; unfold toI; split <;> omega

/-- one element: what it is, how many bytes it has, the error -/
structure Sc where
  x : Int
  t : ByteArray
  c : Nat
  e : Int
def scNum (e : Int) (n d : Nat) : Sc := if numW e (toI n) = 0 then ⟨toI n, .empty, d, 0⟩ else ⟨0, .empty, 0, numW e (toI n)⟩
def scalar (e : Int) (bs : List Nat) : Sc :=
  if e = 4 then
    if bs.length < 2 then ⟨0, .empty, 0, 10⟩
    else if 1000 < be (bs.take 2) then ⟨0, .empty, 0, 44⟩
    else if bs.length < 2 + be (bs.take 2) then ⟨0, .empty, 0, 10⟩
    else ⟨0, strOf ((bs.drop 2).take (be (bs.take 2))), 2 + be (bs.take 2), 0⟩
  else if bs.length < (nwid e).toNat then ⟨0, .empty, 0, 10⟩
  else scNum e (be (bs.take (nwid e).toNat)) (nwid e).toNat
theorem scalar_t1 {bs : List Nat} (h : bs.length < 2) : scalar 4 bs = ⟨0, .empty, 0, 10⟩ := by unfold scalar; rw [if_pos rfl, if_pos h]
theorem scalar_t2 {bs : List Nat} (h : ¬ bs.length < 2) (h2 : 1000 < be (bs.take 2)) : scalar 4 bs = ⟨0, .empty, 0, 44⟩ := by unfold scalar; rw [if_pos rfl, if_neg h, if_pos h2]
theorem scalar_t3 {bs : List Nat} (h : ¬ bs.length < 2) (h2 : ¬ 1000 < be (bs.take 2)) (h3 : bs.length < 2 + be (bs.take 2)) : scalar 4 bs = ⟨0, .empty, 0, 10⟩ := by unfold scalar; rw [if_pos rfl, if_neg h, if_neg h2, if_pos h3]
theorem scalar_t4 {bs : List Nat} (h : ¬ bs.length < 2) (h2 : ¬ 1000 < be (bs.take 2)) (h3 : ¬ bs.length < 2 + be (bs.take 2)) : scalar 4 bs = ⟨0, strOf ((bs.drop 2).take (be (bs.take 2))), 2 + be (bs.take 2), 0⟩ := by unfold scalar; rw [if_pos rfl, if_neg h, if_neg h2, if_neg h3]
theorem scalar_n1 {e : Int} {bs : List Nat} (he : e ≠ 4) (h : bs.length < (nwid e).toNat) : scalar e bs = ⟨0, .empty, 0, 10⟩ := by unfold scalar; rw [if_neg he, if_pos h]
theorem scalar_n2 {e : Int} {bs : List Nat} (he : e ≠ 4) (h : ¬ bs.length < (nwid e).toNat) : scalar e bs = scNum e (be (bs.take (nwid e).toNat)) (nwid e).toNat := by unfold scalar; rw [if_neg he, if_neg h]
theorem scNum_ok {e : Int} {n d : Nat} (h : numW e (toI n) = 0) : scNum e n d = ⟨toI n, .empty, d, 0⟩ := if_pos h
theorem scNum_no {e : Int} {n d : Nat} (h : numW e (toI n) ≠ 0) : scNum e n d = ⟨0, .empty, 0, numW e (toI n)⟩ := if_neg h

/-- several elements -/
structure El where
  xs : List Int
  ts : List ByteArray
  c : Nat
  e : Int
def El.no (e : Int) : El := ⟨[], [], 0, e⟩
def elems (e : Int) : Nat → List Nat → El
  | 0, _ => ⟨[], [], 0, 0⟩
  | m + 1, bs => if (scalar e bs).e ≠ 0 then .no (scalar e bs).e
    else if (elems e m (bs.drop (scalar e bs).c)).e ≠ 0 then .no (elems e m (bs.drop (scalar e bs).c)).e
    else ⟨(scalar e bs).x :: (elems e m (bs.drop (scalar e bs).c)).xs, (scalar e bs).t :: (elems e m (bs.drop (scalar e bs).c)).ts, (scalar e bs).c + (elems e m (bs.drop (scalar e bs).c)).c, 0⟩
/-- what has been read ahead of q -/
def El.pre (xs : List Int) (ts : List ByteArray) (c : Nat) (q : El) : El := if q.e ≠ 0 then .no q.e else ⟨xs ++ q.xs, ts ++ q.ts, c + q.c, 0⟩
theorem elems_norm (e : Int) (m : Nat) (bs : List Nat) : (elems e m bs).pre [] [] 0 = elems e m bs := by
  cases m with
  | zero => simp [elems, El.pre]
  | succ m =>
    unfold El.pre
    by_cases h : (elems e (m + 1) bs).e = 0
    · rw [if_neg (by simpa using h)]
      generalize elems e (m + 1) bs = q at *
      obtain ⟨xs, ts, c, e'⟩ := q
      simp only at h
      simp [h]
    · rw [if_pos h]
      unfold elems
      unfold elems at h
      split
      · rfl
      · split
        · rfl
        · rename_i h1 h2
          rw [if_neg h1, if_neg h2] at h
          exact absurd rfl h
theorem pre_pre (xs ys : List Int) (ts us : List ByteArray) (c d : Nat) (q : El) : (q.pre ys us d).pre xs ts c = q.pre (xs ++ ys) (ts ++ us) (c + d) := by
  unfold El.pre El.no
  by_cases h : q.e = 0
  · simp [h, List.append_assoc, Nat.add_assoc]
  · simp [h]
theorem elems_bad {e : Int} {m : Nat} {bs : List Nat} (h : (scalar e bs).e ≠ 0) : elems e (m + 1) bs = .no (scalar e bs).e := by
  rw [elems]; exact if_pos h
theorem elems_good {e : Int} {m : Nat} {bs : List Nat} (h : (scalar e bs).e = 0) : elems e (m + 1) bs = (elems e m (bs.drop (scalar e bs).c)).pre [(scalar e bs).x] [(scalar e bs).t] (scalar e bs).c := by
  rw [elems, if_neg (by simpa using h)]
  unfold El.pre
  rfl

/-- the value at the beginning: its kind, the length of its head, its elements -/
structure Pr where
  k : Int
  h : Nat
  q : El
def prefixE : List Nat → Pr
  | [] => ⟨0, 0, .no 10⟩
  | k :: r => if ¬ (1 ≤ k ∧ k ≤ 8) then ⟨0, 0, .no 40⟩
    else if k ≤ 4 then ⟨k, 1, elems k 1 r⟩
    else match r with
      | [] => ⟨0, 0, .no 10⟩
      | c :: r' => if 40 < c then ⟨0, 0, .no 45⟩ else ⟨k, 2, elems ((k : Int) - 4) c r'⟩
theorem prefix_kind {k : Nat} {r : List Nat} (h : ¬ (1 ≤ k ∧ k ≤ 8)) : prefixE (k :: r) = ⟨0, 0, .no 40⟩ := by unfold prefixE; exact if_pos h
theorem prefix_one {k : Nat} {r : List Nat} (h : 1 ≤ k ∧ k ≤ 8) (h4 : k ≤ 4) : prefixE (k :: r) = ⟨k, 1, elems k 1 r⟩ := by unfold prefixE; simp only; rw [if_neg (by simpa using h), if_pos h4]
theorem prefix_short {k : Nat} (h : 1 ≤ k ∧ k ≤ 8) (h4 : ¬ k ≤ 4) : prefixE [k] = ⟨0, 0, .no 10⟩ := by unfold prefixE; simp only; rw [if_neg (by simpa using h), if_neg h4]
theorem prefix_many {k c : Nat} {r : List Nat} (h : 1 ≤ k ∧ k ≤ 8) (h4 : ¬ k ≤ 4) (hc : 40 < c) : prefixE (k :: c :: r) = ⟨0, 0, .no 45⟩ := by
  unfold prefixE; simp only; rw [if_neg (by simpa using h), if_neg h4, if_pos hc]
theorem prefix_list {k c : Nat} {r : List Nat} (h : 1 ≤ k ∧ k ≤ 8) (h4 : ¬ k ≤ 4) (hc : ¬ 40 < c) : prefixE (k :: c :: r) = ⟨k, 2, elems ((k : Int) - 4) c r⟩ := by
  unfold prefixE; simp only; rw [if_neg (by simpa using h), if_neg h4, if_neg hc]

/-- the value -/
def mkV (k : Int) (xs : List Int) (ts : List ByteArray) : Vv :=
  ⟨k, if k < 4 then xs.headD 0 else 0, if k = 4 then ts.headD .empty else .empty, if 4 < k ∧ k < 8 then xs else [], if k = 8 then ts else []⟩
def vnone : Vv := ⟨0, 0, .empty, [], []⟩
def prefV (bs : List Nat) : Vv := if (prefixE bs).q.e = 0 then mkV (prefixE bs).k (prefixE bs).q.xs (prefixE bs).q.ts else vnone
def prefN (bs : List Nat) : Nat := if (prefixE bs).q.e = 0 then (prefixE bs).h + (prefixE bs).q.c else 0
def prefErr (bs : List Nat) : Int := (prefixE bs).q.e

/-! ### what is read in a beginning -/
theorem scNum_c (e : Int) (n d : Nat) : (scNum e n d).c ≤ d := by unfold scNum; split <;> simp
theorem scalar_c (e : Int) (bs : List Nat) : (scalar e bs).c ≤ 1002 ∧ (scalar e bs).c ≤ bs.length := by
  unfold scalar
  split
  · split
    · simp
    · split
      · simp
      · split
        · simp
        · simp; omega
  · split
    · simp
    · have h1 := scNum_c e (be (bs.take (nwid e).toNat)) (nwid e).toNat
      have h2 := (nwid_is e).2
      omega
theorem scalar_take (e : Int) (bs : List Nat) (N : Nat) (h : 1002 ≤ N) : scalar e (bs.take N) = scalar e bs := by
  have hd := (nwid_is e).2
  have t2 : ∀ d, d ≤ N → (bs.take N).take d = bs.take d := fun d hd => by rw [List.take_take, Nat.min_eq_left hd]
  have hl : (bs.take N).length = min N bs.length := List.length_take
  unfold scalar
  rw [t2 2 (by omega), t2 _ (by omega : (nwid e).toNat ≤ N)]
  by_cases h4 : e = 4
  · rw [if_pos h4, if_pos h4]
    by_cases h2 : bs.length < 2
    · rw [if_pos h2, if_pos (by omega)]
    · rw [if_neg h2, if_neg (by omega)]
      by_cases hb : 1000 < be (bs.take 2)
      · rw [if_pos hb, if_pos hb]
      · rw [if_neg hb, if_neg hb]
        by_cases h3 : bs.length < 2 + be (bs.take 2)
        · rw [if_pos h3, if_pos (by omega)]
        · rw [if_neg h3, if_neg (by omega)]
          congr 2
          rw [List.drop_take, List.take_take, Nat.min_eq_left (by omega)]
  · rw [if_neg h4, if_neg h4]
    by_cases h2 : bs.length < (nwid e).toNat
    · rw [if_pos h2, if_pos (by omega)]
    · rw [if_neg h2, if_neg (by omega)]
theorem elems_take (e : Int) (m : Nat) : ∀ (bs : List Nat) (N : Nat), 1002 * m ≤ N → elems e m (bs.take N) = elems e m bs := by
  induction m with
  | zero => intro bs N _; rfl
  | succ m ih =>
    intro bs N h
    have hc := (scalar_c e bs).1
    rw [elems, elems, scalar_take e bs N (by omega), List.drop_take, ih _ _ (by omega)]
theorem prefixE_take (bs : List Nat) (N : Nat) (h : 40082 ≤ N) : prefixE (bs.take N) = prefixE bs := by
  obtain ⟨N, rfl⟩ : ∃ M, N = M + 2 := ⟨N - 2, by omega⟩
  cases bs with
  | nil => simp
  | cons k r =>
    rw [List.take_succ_cons]
    by_cases hk : 1 ≤ k ∧ k ≤ 8
    · by_cases h4 : k ≤ 4
      · rw [prefix_one hk h4, prefix_one hk h4, elems_take _ _ _ _ (by omega)]
      · cases r with
        | nil => rw [List.take_nil]
        | cons c r' =>
          rw [List.take_succ_cons]
          by_cases hc : 40 < c
          · rw [prefix_many hk h4 hc, prefix_many hk h4 hc]
          · rw [prefix_list hk h4 hc, prefix_list hk h4 hc, elems_take _ _ _ _ (by omega)]
    · rw [prefix_kind hk, prefix_kind hk]

/-! ### what was encoded is read again -/
theorem be_enc' {d n : Nat} (h : n < 256 ^ d) : be (enc d n) = n := by rw [be_enc, Nat.mod_eq_of_lt h]
theorem bool_small {e x : Int} (h : numW e x = 0) (he : e = 1) : x = 0 ∨ x = 1 := by
  subst he
  by_cases h0 : x = 0
  · exact .inl h0
  · by_cases h1 : x = 1
    · exact .inr h1
    · rw [numW_bool h0 h1] at h; omega
theorem scalar_num {e x : Int} (he : e ≠ 4) (hw : numW e x = 0) (h1 : -9223372036854775808 ≤ x) (h2 : x ≤ 9223372036854775807) (rest : List Nat) : scalar e (encNum e x ++ rest) = ⟨x, .empty, (encNum e x).length, 0⟩ := by
  have hl := encNum_length e x
  have hu : u64 x < 256 ^ (nwid e).toNat := by
    by_cases h : e = 1
    · rcases bool_small hw h with rfl | rfl <;> (subst h; decide)
    · have h8 : (nwid e).toNat = 8 := by unfold nwid; rw [if_neg h]; rfl
      rw [h8]
      exact u64_lt x
  rw [scalar_n2 he (by rw [List.length_append]; omega), ← hl, List.take_left' rfl, encNum_eq, be_enc' hu, scNum_ok (by rw [toI_u64 h1 h2]; exact hw), toI_u64 h1 h2]
theorem scalar_txt {s : ByteArray} (h : s.size ≤ 1000) (rest : List Nat) : scalar 4 (encTxt s ++ rest) = ⟨0, s, (encTxt s).length, 0⟩ := by
  have hl := encTxt_length s
  have ht : (encTxt s ++ rest).take 2 = enc 2 s.size := by unfold encTxt; rw [List.append_assoc, List.take_left' (enc_length _ _)]
  have hb : be ((encTxt s ++ rest).take 2) = s.size := by rw [ht, be_enc' (by have : (256 : Nat) ^ 2 = 65536 := rfl; omega)]
  rw [scalar_t4 (by rw [List.length_append]; omega) (by rw [hb]; omega) (by rw [hb, List.length_append]; omega), hb]
  have hd : (encTxt s ++ rest).drop 2 = strBytes s ++ rest := by unfold encTxt; rw [List.append_assoc, List.drop_left' (enc_length _ _)]
  rw [hd, List.take_left' (strBytes_length s), strOf_strBytes, hl]
theorem elems_nums {e : Int} (he : e ≠ 4) (L : List Int) (hw : ∀ x ∈ L, numW e x = 0) (hr : ∀ x ∈ L, -9223372036854775808 ≤ x ∧ x ≤ 9223372036854775807) (rest : List Nat) :
    (elems e L.length (encNums e L ++ rest)).e = 0 ∧ (elems e L.length (encNums e L ++ rest)).xs = L ∧ (elems e L.length (encNums e L ++ rest)).c = (encNums e L).length := by
  induction L with
  | nil => exact ⟨rfl, rfl, rfl⟩
  | cons x l ih =>
    have h1 := ih (fun y hy => hw y (List.mem_cons_of_mem _ hy)) (fun y hy => hr y (List.mem_cons_of_mem _ hy))
    have hx := hr x (List.mem_cons_self ..)
    have hs := scalar_num he (hw x (List.mem_cons_self ..)) hx.1 hx.2 (encNums e l ++ rest)
    have hcons : encNums e (x :: l) ++ rest = encNum e x ++ (encNums e l ++ rest) := by unfold encNums; rw [List.flatMap_cons, List.append_assoc]
    rw [hcons, List.length_cons, elems_good (by rw [hs]), hs]
    simp only
    rw [List.drop_left' rfl]
    unfold El.pre
    rw [if_neg (by simpa using h1.1)]
    refine ⟨rfl, by simp [h1.2.1], ?_⟩
    simp only [h1.2.2]
    unfold encNums
    rw [List.flatMap_cons, List.length_append]
theorem elems_txts (L : List ByteArray) (hw : ∀ x ∈ L, x.size ≤ 1000) (rest : List Nat) :
    (elems 4 L.length (encTxts L ++ rest)).e = 0 ∧ (elems 4 L.length (encTxts L ++ rest)).ts = L ∧ (elems 4 L.length (encTxts L ++ rest)).c = (encTxts L).length := by
  induction L with
  | nil => exact ⟨rfl, rfl, rfl⟩
  | cons x l ih =>
    have h1 := ih (fun y hy => hw y (List.mem_cons_of_mem _ hy))
    have hs := scalar_txt (hw x (List.mem_cons_self ..)) (encTxts l ++ rest)
    have hcons : encTxts (x :: l) ++ rest = encTxt x ++ (encTxts l ++ rest) := by unfold encTxts; rw [List.flatMap_cons, List.append_assoc]
    rw [hcons, List.length_cons, elems_good (by rw [hs]), hs]
    simp only
    rw [List.drop_left' rfl]
    unfold El.pre
    rw [if_neg (by simpa using h1.1)]
    refine ⟨rfl, by simp [h1.2.1], ?_⟩
    simp only [h1.2.2]
    unfold encTxts
    rw [List.flatMap_cons, List.length_append]
theorem toList_nil {s : ByteArray} (h : s.toList = []) : s = .empty := by
  apply str_inj
  rw [h, ByteArray.toList_eq]
  rfl

theorem pref_there {v : Vv} (h : Right v) (hn : Vok v) (tail : List Nat) : prefErr (encB v ++ tail) = 0 ∧ prefV (encB v ++ tail) = v ∧ prefN (encB v ++ tail) = (encB v).length := by
  obtain ⟨hk1, hk2, ⟨o1, o2, o3, o4⟩, hcnt, hnum, htxt⟩ := h
  have hok := (numsOf_ok hn).1
  obtain ⟨k, n, s, ns, ts⟩ := v
  simp only at hk1 hk2 o1 o2 o3 o4 hcnt
  obtain ⟨kn, rfl⟩ : ∃ kn : Nat, k = kn := ⟨k.toNat, by omega⟩
  have hkk : 1 ≤ kn ∧ kn ≤ 8 := by omega
  rcases (show (kn : Int) < 4 ∨ (kn : Int) = 4 ∨ (4 < (kn : Int) ∧ (kn : Int) < 8) ∨ (kn : Int) = 8 by omega) with hk | hk | ⟨hk, hk8⟩ | hk
  · rw [numsOf_num (by exact hk)] at hnum hok
    have hs := toList_nil (o2 (by omega))
    have hns := o3 (.inl (by omega))
    have hts := o4 (by omega)
    subst hs hns hts
    have hE : encB ⟨kn, n, .empty, [], []⟩ = kn :: encNums (kn : Int) [n] := by
      show encHead _ ++ encNums (elK kn) (numsOf _) ++ encTxts (txtsOf _) = _
      rw [numsOf_num (by exact hk), txtsOf_num (by exact hk)]
      show _ ++ encNums (elK (kn : Int)) [n] ++ encTxts [] = _
      rw [elK_no (by omega)]
      simp [encHead, encTxts]
      omega
    rw [elK_no (by show ¬ 4 < (kn : Int); omega)] at hnum
    have he := elems_nums (e := kn) (by omega) [n] hnum hok tail
    have hp : prefixE (encB ⟨kn, n, .empty, [], []⟩ ++ tail) = ⟨kn, 1, elems kn 1 (encNums (kn : Int) [n] ++ tail)⟩ := by rw [hE, List.cons_append, prefix_one hkk (by omega)]
    simp only [List.length_cons, List.length_nil, Nat.zero_add] at he
    unfold prefErr prefV prefN
    rw [hp]
    simp only [he.1, if_true, he.2.1, he.2.2]
    refine ⟨trivial, ?_, by rw [hE, List.length_cons]; omega⟩
    unfold mkV
    rw [if_pos hk, if_neg (by omega), if_neg (by omega), if_neg (by omega)]
    rfl
  · rw [txtsOf_text (by exact hk)] at htxt
    have hn0 := o1 (by omega)
    have hns := o3 (.inl (by omega))
    have hts := o4 (by omega)
    subst hn0 hns hts
    obtain rfl : kn = 4 := by omega
    have hE : encB ⟨(4 : Nat), 0, s, [], []⟩ = 4 :: encTxts [s] := by
      show encHead _ ++ encNums _ (numsOf _) ++ encTxts (txtsOf _) = _
      rw [numsOf_text (by rfl), txtsOf_text (by rfl)]
      simp [encHead, encNums]
    have he := elems_txts [s] htxt tail
    have hp : prefixE (encB ⟨(4 : Nat), 0, s, [], []⟩ ++ tail) = ⟨(4 : Nat), 1, elems 4 1 (encTxts [s] ++ tail)⟩ := by rw [hE, List.cons_append, prefix_one hkk (by omega)]; rfl
    simp only [List.length_cons, List.length_nil, Nat.zero_add] at he
    unfold prefErr prefV prefN
    rw [hp]
    simp only [he.1, if_true, he.2.1, he.2.2]
    refine ⟨trivial, ?_, by rw [hE, List.length_cons]; omega⟩
    rfl
  · rw [numsOf_list (by exact hk)] at hnum hok
    have hn0 := o1 (by omega)
    have hs := toList_nil (o2 (by omega))
    have hts := o4 (by omega)
    subst hn0 hs hts
    have hE : encB ⟨kn, 0, .empty, ns, []⟩ = kn :: ns.length :: encNums ((kn : Int) - 4) ns := by
      show encHead _ ++ encNums (elK kn) (numsOf _) ++ encTxts (txtsOf _) = _
      rw [numsOf_list (by exact hk), txtsOf_list (by exact hk)]
      show _ ++ encNums (elK (kn : Int)) ns ++ encTxts [] = _
      rw [elK_yes hk]
      simp only [encHead, Int.toNat_natCast, if_pos hk, List.length_nil, Nat.add_zero]
      simp [encTxts]
    rw [elK_yes (by exact hk)] at hnum
    have he := elems_nums (e := (kn : Int) - 4) (by omega) ns hnum hok tail
    simp only [List.length_nil, Nat.add_zero] at hcnt
    have hp : prefixE (encB ⟨kn, 0, .empty, ns, []⟩ ++ tail) = ⟨kn, 2, elems ((kn : Int) - 4) ns.length (encNums ((kn : Int) - 4) ns ++ tail)⟩ := by rw [hE, List.cons_append, List.cons_append, prefix_list hkk (by omega) (by omega)]
    unfold prefErr prefV prefN
    rw [hp]
    simp only [he.1, if_true, he.2.1, he.2.2]
    refine ⟨trivial, ?_, by rw [hE, List.length_cons, List.length_cons]; omega⟩
    unfold mkV
    rw [if_neg (by omega), if_neg (by omega), if_pos ⟨hk, hk8⟩, if_neg (by omega)]
  · rw [txtsOf_list (by show 4 < (kn : Int); omega)] at htxt
    have hn0 := o1 (by omega)
    have hs := toList_nil (o2 (by omega))
    have hns := o3 (.inr hk)
    subst hn0 hs hns
    obtain rfl : kn = 8 := by omega
    have hE : encB ⟨(8 : Nat), 0, .empty, [], ts⟩ = 8 :: ts.length :: encTxts ts := by
      show encHead _ ++ encNums _ (numsOf _) ++ encTxts (txtsOf _) = _
      rw [numsOf_list (by show (4 : Int) < ((8 : Nat) : Int); omega), txtsOf_list (by show (4 : Int) < ((8 : Nat) : Int); omega)]
      simp [encHead, encNums]
    have he := elems_txts ts htxt tail
    simp only [List.length_nil, Nat.zero_add] at hcnt
    have hp : prefixE (encB ⟨(8 : Nat), 0, .empty, [], ts⟩ ++ tail) = ⟨(8 : Nat), 2, elems 4 ts.length (encTxts ts ++ tail)⟩ := by rw [hE, List.cons_append, List.cons_append, prefix_list hkk (by omega) (by omega)]; rfl
    unfold prefErr prefV prefN
    rw [hp]
    simp only [he.1, if_true, he.2.1, he.2.2]
    refine ⟨trivial, ?_, by rw [hE, List.length_cons, List.length_cons]; omega⟩
    rfl

end Go.Proofs.YtgpahglmhnnobaaGreatDoor

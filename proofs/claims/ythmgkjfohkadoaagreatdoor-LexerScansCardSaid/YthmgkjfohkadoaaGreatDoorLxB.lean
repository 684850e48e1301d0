/- lexer: writeByte, Quote. -/
import Derived.Test.YthmgkjfohkadoaaGreatDoorLxA
namespace Go.Proofs.YthmgkjfohkadoaaGreatDoor
open Go.RowKit
set_option linter.unusedVariables false

theorem q_len2 (c : UInt8) : (qByte c).length ≤ 4 := qByte_len c
set_option maxHeartbeats 1000000 in
theorem writeShort {B b : Nat} (l : Bs) (c x : UInt8) (i : Nat) (w : World) (h : Bd B b l w) (hlen : l.length + 4 ≤ 140737488355328) (hi : Lib.indexByte [92, 39, 10, 13, 9] c = (i : Int)) (hi5 : i < 5)
    (hx : ∃ h' : i < (⟨#[92, 39, 110, 114, 116]⟩ : ByteArray).size, (⟨#[92, 39, 110, 114, 116]⟩ : ByteArray)[i]'h' = x) :
    Calls Tryz.prog 27 #[.pointer (some ⟨b, 0, none⟩), .int .u8 (c.toNat : Int)] w fun e w' => (∃ v, e = .returned v) ∧ Bd B b (l ++ [92, x]) w' ∧ Below B w w' := by
  obtain ⟨hx1, hx2⟩ := hx
  have HI : Hid (Calls Tryz.prog 14 #[.string ⟨#[92, 39, 10, 13, 9]⟩, .int .u8 (c.toNat : Int)] w fun e w' => e = .returned (.int .i64 (i : Int)) ∧ w = w') := Lib.hid (by
    have h := idx_any [92, 39, 10, 13, 9] c w
    rw [hi] at h
    exact h)
  have H1 := Lib.hid (WriteByte_any B b l 92 w h (by omega))
  have H2 : Hid (∀ w1, Bd B b (l ++ [92]) w1 → Calls Tryz.prog 26 #[.pointer (some ⟨b, 0, none⟩), .int .u8 (x.toNat : Int)] w1 fun e w' => e = .returned .nilIface ∧ Bd B b ((l ++ [92]) ++ [x]) w' ∧ Below B w1 w') := Lib.hid fun w1 h1 =>
    WriteByte_any B b (l ++ [92]) x w1 h1 (by rw [List.length_append, List.length_singleton]; omega)
  have HE : Hid ((l ++ [92]) ++ [x] = l ++ [92, x]) := Lib.hid (by simp)
  have hsz : (⟨#[92, 39, 110, 114, 116]⟩ : ByteArray).size = 5 := rfl
  clear h hi hlen
  go_enter Tryz.func27, Tryz.ntmps27
  go_wp2_with fail
  refine HI.out.mono ?_
  rintro e w' ⟨rfl, rfl⟩
  go_wp2_with fail
  refine H1.out.mono ?_
  rintro e w1 ⟨rfl, h1, hb1⟩
  have H2' := Lib.hid (H2.out w1 h1)
  have HB1 := Lib.hid hb1
  clear h1 hb1
  go_wp2_with fail
  refine H2'.out.mono ?_
  rintro e w2 ⟨rfl, h2, hb2⟩
  have HR := Lib.hid h2
  have HB2 := Lib.hid (HB1.out.trans hb2)
  clear h2 hb2
  go_wp2
  refine bodyPost_ret (results_none rfl _ _ _) rfl ?_
  exact ⟨⟨_, rfl⟩, HE.out ▸ HR.out, HB2.out⟩
set_option maxHeartbeats 1000000 in
theorem writeLong {B b : Nat} (l : Bs) (c : UInt8) (w : World) (h : Bd B b l w) (hlen : l.length + 4 ≤ 140737488355328) (hi : Lib.indexByte [92, 39, 10, 13, 9] c = -1) :
    Calls Tryz.prog 27 #[.pointer (some ⟨b, 0, none⟩), .int .u8 (c.toNat : Int)] w fun e w' => (∃ v, e = .returned v) ∧ Bd B b (l ++ if lxP c = true then [c] else [92, 120, hxD (c.toNat / 16), hxD (c.toNat % 16)]) w' ∧ Below B w w' := by
  have HI : Hid (Calls Tryz.prog 14 #[.string ⟨#[92, 39, 10, 13, 9]⟩, .int .u8 (c.toNat : Int)] w fun e w' => e = .returned (.int .i64 (-1)) ∧ w = w') := Lib.hid (by
    have h := idx_any [92, 39, 10, 13, 9] c w
    rw [hi] at h
    exact h)
  have HP := Lib.hid (isPrintable_any c w)
  have HW : Hid (∀ (l' : Bs) (x : UInt8) w1, Bd B b l' w1 → l'.length ≤ l.length + 3 → Calls Tryz.prog 26 #[.pointer (some ⟨b, 0, none⟩), .int .u8 (x.toNat : Int)] w1 fun e w' => e = .returned .nilIface ∧ Bd B b (l' ++ [x]) w' ∧ Below B w1 w') := Lib.hid fun l' x w1 h1 h2 =>
    WriteByte_any B b l' x w1 h1 (by omega)
  have H0 := Lib.hid h
  clear h hi hlen
  cases hp : lxP c with
  | true =>
    rw [hp] at HP
    rw [if_pos rfl]
    have H1 := Lib.hid (HW.out l c w H0.out (by omega))
    clear hp
    go_enter Tryz.func27, Tryz.ntmps27
    go_wp2_with fail
    refine HI.out.mono ?_
    rintro e w' ⟨rfl, rfl⟩
    go_wp2_with fail
    refine HP.out.mono ?_
    rintro e w' ⟨rfl, rfl⟩
    go_wp2_with fail
    refine H1.out.mono ?_
    rintro e w1 ⟨rfl, h1, hb1⟩
    have HR := Lib.hid h1
    have HB1 := Lib.hid hb1
    clear h1 hb1
    go_wp2
    refine bodyPost_ret (results_none rfl _ _ _) rfl ?_
    exact ⟨⟨_, rfl⟩, HR.out, HB1.out⟩
  | false =>
    rw [hp] at HP
    rw [if_neg (by decide)]
    have hc := c.toNat_lt
    obtain ⟨u1, u2⟩ := hexL_at (n := c.toNat / 16) (by omega)
    obtain ⟨v1, v2⟩ := hexL_at (n := c.toNat % 16) (by omega)
    have hlo := nib_lo c
    have hhi : (c.toNat : Int) / 16 = ((c.toNat / 16 : Nat) : Int) := by omega
    have H1 := Lib.hid (HW.out l 92 w H0.out (by omega))
    have H2 : Hid (∀ w1, Bd B b (l ++ [92]) w1 → _) := Lib.hid fun w1 h1 => HW.out (l ++ [92]) 120 w1 h1 (by simp)
    have H3 : Hid (∀ w1, Bd B b ((l ++ [92]) ++ [120]) w1 → _) := Lib.hid fun w1 h1 => HW.out ((l ++ [92]) ++ [120]) (hxD (c.toNat / 16)) w1 h1 (by simp)
    have H4 : Hid (∀ w1, Bd B b (((l ++ [92]) ++ [120]) ++ [hxD (c.toNat / 16)]) w1 → _) := Lib.hid fun w1 h1 => HW.out (((l ++ [92]) ++ [120]) ++ [hxD (c.toNat / 16)]) (hxD (c.toNat % 16)) w1 h1 (by simp)
    have HE : Hid ((((l ++ [92]) ++ [120]) ++ [hxD (c.toNat / 16)]) ++ [hxD (c.toNat % 16)] = l ++ [92, 120, hxD (c.toNat / 16), hxD (c.toNat % 16)]) := Lib.hid (by simp)
    generalize hxD (c.toNat / 16) = X at *
    generalize hxD (c.toNat % 16) = Y at *
    have a1 : c.toNat / 16 < 16 := by omega
    have a2 : c.toNat % 16 < 16 := by omega
    generalize c.toNat / 16 = i at *
    generalize c.toNat % 16 = j at *
    clear hp HW
    go_enter Tryz.func27, Tryz.ntmps27
    go_wp2_with fail
    refine HI.out.mono ?_
    rintro e w' ⟨rfl, rfl⟩
    go_wp2_with fail
    refine HP.out.mono ?_
    rintro e w' ⟨rfl, rfl⟩
    go_wp2_with fail
    refine H1.out.mono ?_
    rintro e w1 ⟨rfl, h1, hb1⟩
    have H2' := Lib.hid (H2.out w1 h1)
    have HB1 := Lib.hid hb1
    clear h1 hb1
    go_wp2_with fail
    refine H2'.out.mono ?_
    rintro e w2 ⟨rfl, h2, hb2⟩
    have H3' := Lib.hid (H3.out w2 h2)
    have HB2 := Lib.hid (HB1.out.trans hb2)
    clear h2 hb2
    go_wp2_with fail
    refine H3'.out.mono ?_
    rintro e w3 ⟨rfl, h3, hb3⟩
    have H4' := Lib.hid (H4.out w3 h3)
    have HB3 := Lib.hid (HB2.out.trans hb3)
    clear h3 hb3
    go_wp2_with fail
    refine H4'.out.mono ?_
    rintro e w4 ⟨rfl, h4, hb4⟩
    have HR := Lib.hid h4
    have HB4 := Lib.hid (HB3.out.trans hb4)
    clear h4 hb4
    go_wp2
    go_end0
    exact ⟨⟨_, rfl⟩, HE.out ▸ HR.out, HB4.out⟩
theorem writeByte_any {B b : Nat} (l : Bs) (c : UInt8) (w : World) (h : Bd B b l w) (hlen : l.length + 4 ≤ 140737488355328) :
    Calls Tryz.prog 27 #[.pointer (some ⟨b, 0, none⟩), .int .u8 (c.toNat : Int)] w fun e w' => (∃ v, e = .returned v) ∧ Bd B b (l ++ qByte c) w' ∧ Below B w w' := by
  by_cases h1 : c = 92
  · subst h1
    exact writeShort l 92 92 0 w h hlen (by decide) (by decide) (by decide)
  · by_cases h2 : c = 39
    · subst h2
      exact writeShort l 39 39 1 w h hlen (by decide) (by decide) (by decide)
    · by_cases h3 : c = 10
      · subst h3
        exact writeShort l 10 110 2 w h hlen (by decide) (by decide) (by decide)
      · by_cases h4 : c = 13
        · subst h4
          exact writeShort l 13 114 3 w h hlen (by decide) (by decide) (by decide)
        · by_cases h5 : c = 9
          · subst h5
            exact writeShort l 9 116 4 w h hlen (by decide) (by decide) (by decide)
          · have e : qByte c = if lxP c = true then [c] else [92, 120, hxD (c.toNat / 16), hxD (c.toNat % 16)] := by
              unfold qByte
              rw [if_neg h3, if_neg h4, if_neg h5]
              by_cases hp : lxP c = true
              · rw [if_neg (by rw [hp]; decide), if_neg (fun h => h.elim h2 h1), if_pos hp]
              · rw [if_pos (by simpa using hp), if_neg hp]
            rw [e]
            exact writeLong l c w h hlen (short_miss h1 h2 h3 h4 h5)
/-- what has been quoted of the first k bytes -/
def quoteK (l : Bs) (k : Nat) : Bs := 39 :: (l.take k).flatMap qByte
theorem quoteK_len (l : Bs) (k : Nat) : (quoteK l k).length ≤ 4 * l.length + 1 := by
  have h : ∀ l : Bs, (l.flatMap qByte).length ≤ 4 * l.length := by
    intro l
    induction l with
    | nil => simp
    | cons c l ih =>
      have := qByte_len c
      rw [List.flatMap_cons, List.length_append, List.length_cons]
      omega
  have h1 := h (l.take k)
  have h2 : (l.take k).length ≤ l.length := by rw [List.length_take]; omega
  unfold quoteK
  rw [List.length_cons]
  omega
theorem quoteK_succ (l : Bs) (k : Nat) (c : UInt8) (h : l[k]? = some c) : quoteK l (k + 1) = quoteK l k ++ qByte c := by
  have hk := (List.getElem?_eq_some_iff.1 h).1
  have e : l.take (k + 1) = l.take k ++ [c] := by rw [List.take_add_one, h]; rfl
  unfold quoteK
  rw [e, List.flatMap_append, List.flatMap_cons, List.flatMap_nil, List.append_nil, List.cons_append]
theorem quoteK_all (l : Bs) (k : Nat) (h : l.length ≤ k) : quoteK l k ++ [39] = quoteB l := by
  unfold quoteK quoteB
  rw [List.take_of_length_le h]
  rfl
set_option maxHeartbeats 1000000 in
theorem Quote_any (s : ByteArray) (w : World) (hs : s.size ≤ 34000000000000) :
    Calls Tryz.prog 11 #[.string s] w fun e w' => e = .returned (.string (mkS (quoteB (lS s)))) ∧ Below w.heap.size w w' := by
  obtain ⟨N, hN⟩ : ∃ N, N = w.heap.size := ⟨_, rfl⟩
  have HNE := Lib.hid hN
  have hbd := Bd.fresh w N hN.symm
  have H0 : Hid (∃ W, W = w.alloc (.cells #[.pointer none, .slice none 0 0] 58) ∧ Bd N N [] W ∧ Below N w W) := Lib.hid ⟨_, rfl, hbd, (Below.refl _ _).alloc (by omega) _⟩
  have HX : Hid (∀ k (h' : k < s.size), (lS s)[k]? = some (s[k]'h')) := Lib.hid fun k h' => byte_at s k h'
  have HL : Hid ((lS s).length = s.size) := Lib.hid (lS_len s)
  have HKL : Hid (∀ k, (quoteK (lS s) k).length + 4 ≤ 140737488355328) := Lib.hid fun k => by have := quoteK_len (lS s) k; have := HL.out; omega
  have H1 : Hid (∀ W, Bd N N [] W → Calls Tryz.prog 26 #[.pointer (some ⟨N, 0, none⟩), .int .u8 39] W fun e w' => e = .returned .nilIface ∧ Bd N N (quoteK (lS s) 0) w' ∧ Below N W w') := Lib.hid fun W h => WriteByte_any N N [] 39 W h (by decide)
  clear hbd hN
  obtain ⟨W, hW, hb, hbl⟩ := H0.out
  have HC := Lib.hid (H1.out W hb)
  have HBL := Lib.hid hbl
  clear hb hbl H0 H1
  go_enter Tryz.func11, Tryz.ntmps11
  go_wp2_with fail
  rw [← HNE.out, ← hW]
  clear hW
  refine HC.out.mono ?_
  rintro e w1 ⟨rfl, h1, hb1⟩
  have HD1 := Lib.hid h1
  have HB1 := Lib.hid (HBL.out.trans hb1)
  clear h1 hb1
  go_wp2
  go_loopw [8] (fun i wr => ∃ k : Nat, k ≤ s.size ∧ i = .int .i64 k ∧ Hid (Bd N N (quoteK (lS s) k) wr) ∧ Hid (Below N w wr)) (fun i _ => s.size - (intOf i).toNat)
  case atStart => exact ⟨0, Nat.zero_le _, rfl, HD1, HB1⟩
  case round =>
    obtain ⟨k, hk, rfl, HD, HB⟩ := hrel
    by_cases hlt : k < s.size
    · have hks : k < s.size := hlt
      have hbyte := HX.out k hks
      obtain ⟨x, hx⟩ : ∃ x, x = s[k]'hks := ⟨_, rfl⟩
      rw [← hx] at hbyte
      have HE := Lib.hid (quoteK_succ _ _ _ hbyte)
      have HW := Lib.hid (writeByte_any (B := N) (b := N) _ x wr HD.out (HKL.out k))
      rw [← HE.out] at HW
      have hx' := hx.symm
      clear hbyte hx
      go_wp2_with fail
      refine HW.out.mono ?_
      rintro e w2 ⟨⟨v, rfl⟩, h2, hb2⟩
      have HD2 := Lib.hid h2
      have HB2 := Lib.hid (HB.out.trans hb2)
      clear h2 hb2
      go_wp2
      go_roundw
      case rel => exact ⟨k + 1, by omega, by go_num, HD2, HB2⟩
      case measure => simp [intOf]; omega
    · have hke : k = s.size := by omega
      have HW : Hid (Calls Tryz.prog 26 #[.pointer (some ⟨N, 0, none⟩), .int .u8 39] wr fun e w' => e = .returned .nilIface ∧ Bd N N (quoteB (lS s)) w' ∧ Below N wr w') := Lib.hid (by
        have h := WriteByte_any N N _ 39 wr HD.out (by have := HKL.out k; omega)
        rw [quoteK_all _ _ (by rw [HL.out]; omega)] at h
        exact h)
      go_wp2_with fail
      refine HW.out.mono ?_
      rintro e w2 ⟨rfl, h2, hb2⟩
      have HS := Lib.hid (BString_any N N _ w2 h2)
      have HB2 := Lib.hid (HB.out.trans hb2)
      clear h2 hb2
      go_wp2_with fail
      refine HS.out.mono ?_
      rintro e w3 ⟨rfl, hb3⟩
      have HB3 := Lib.hid (HB2.out.trans hb3)
      clear hb3
      go_wp2
      go_ret
      exact ⟨rfl, HNE.out ▸ HB3.out⟩
end Go.Proofs.YthmgkjfohkadoaaGreatDoor

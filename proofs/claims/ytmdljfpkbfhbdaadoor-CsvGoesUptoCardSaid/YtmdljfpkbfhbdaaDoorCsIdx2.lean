/- csv: strings.ContainsAny(s, "\r\n") at a short text, exactly. Out of CsIdx and NumIdx by mkcsidx2.py. -/
import Derived.Test.YtmdljfpkbfhbdaaDoorCsIdx
namespace Go.Proofs.YtmdljfpkbfhbdaaDoor
open Go.RowKit
set_option linter.unusedVariables false

def spc2 (c : UInt8) : Bool := c == 13 || c == 10
def noPM2 (c : UInt8) : Prop := spc2 c = false
def isPM2 (c : UInt8) : Prop := spc2 c = true
theorem spc_nat2 (c : UInt8) : isPM2 c ↔ (c.toNat = 13 ∨ c.toNat = 10) := by
  unfold isPM2 spc2
  simp only [Bool.or_eq_true, beq_iff_eq, ← UInt8.toNat_inj]
  exact Iff.rfl
theorem noPM_of2 {c : UInt8} (h : ¬ isPM2 c) : noPM2 c := by
  unfold noPM2
  unfold isPM2 at h
  simpa using h
theorem noPM_high2 {c : UInt8} (h : 128 ≤ c.toNat) : noPM2 c := noPM_of2 fun h2 => by
  have := (spc_nat2 c).1 h2
  omega
theorem skip_take2 {s : ByteArray} {i W : Nat} (h : ∀ y ∈ s.data.toList.take i, noPM2 y) (hk : ∀ k, k < W → 128 ≤ (s.get! (i + k)).toNat) : ∀ y ∈ s.data.toList.take (i + W), noPM2 y := by
  intro y hy
  obtain ⟨j, hj⟩ := List.getElem?_of_mem hy
  rw [List.getElem?_take] at hj
  split at hj
  · rename_i hlt
    by_cases hji : j < i
    · exact h y (List.mem_of_getElem? (i := j) (by rw [List.getElem?_take, if_pos hji]; exact hj))
    · have hjs : j < s.size := by
        have := (List.getElem?_eq_some_iff.1 hj).1
        rwa [Array.length_toList] at this
      have h1 := hk (j - i) (by omega)
      rw [show i + (j - i) = j + 0 by omega, get_at s j hjs] at h1
      have h2 := byte_at s j hjs
      rw [hj] at h2
      injection h2 with h2
      rw [h2]
      exact noPM_high2 h1
  · cases hj
set_option maxRecDepth 100000 in
set_option maxHeartbeats 1000000 in
theorem idxRune_err2 (w : World) : Calls Tryd.prog 41 #[.string ⟨#[13, 10]⟩, .int .i32 65533] w fun e w' => e = .returned (.int .i64 (-1)) ∧ Below w.heap.size w w' := by
  have hn0 := fun ty => run_next_ascii (P := Tryd.prog) w ⟨#[13, 10]⟩ 0 ty (by decide) (by decide)
  have hn1 := fun ty => run_next_ascii (P := Tryd.prog) w ⟨#[13, 10]⟩ 1 ty (by decide) (by decide)
  have hn2 := fun ty => run_next_end (P := Tryd.prog) w ⟨#[13, 10]⟩ 2 ty (by decide)
  go_enter Tryd.func41, Tryd.ntmps41
  go_wp2
  go_loopg [5, 6] 2 (fun g _ _ wx => ∃ i : Nat, i + g = 2 ∧ wx = w.iter ⟨#[13, 10]⟩ i)
  case atStart => exact ⟨0, rfl, rfl⟩
  case round =>
    obtain ⟨i, hig, rfl⟩ := hrel
    cases gk with
    | zero =>
      obtain rfl : i = 2 := by omega
      go_wp2
      go_ret
      exact ⟨rfl, (Below.refl _ _).alloc (Nat.le_refl _) _⟩
    | succ g =>
      have hi : i = 0 ∨ i = 1 := by omega
      rcases hi with rfl | rfl
      all_goals
        go_wp2
        go_roundg g
        case measure => omega
        case rel => exact ⟨_, by omega, rfl⟩
set_option maxRecDepth 100000 in
set_option maxHeartbeats 1000000 in
theorem idxRune_valid2 (x : Int) (w : World) (h1 : 128 ≤ x) (h2 : x ≤ 2147483647) (h3 : (x == 65533) = false) : Calls Tryd.prog 41 #[.string ⟨#[13, 10]⟩, .int .i32 x] w fun e w' => e = .returned (.int .i64 (-1)) ∧ Below w.heap.size w w' := by
  obtain ⟨l, hE, hl1, hl2, hlb⟩ := encode_high x h1
  obtain ⟨S, hS⟩ : ∃ S, S = Utf8.encode x := ⟨_, rfl⟩
  have hs1 : 2 ≤ S.size := by rw [hS, hE, str_size]; exact hl1
  have hs2 : S.size ≤ 4 := by rw [hS, hE, str_size]; exact hl2
  have HV := Lib.hid fun w => Tryd.utf8_ValidRune x w
  cases hv : Lib.validRune x with
  | false =>
    rw [hv] at HV
    clear hS hE hl1 hl2 hlb hv
    go_enter Tryd.func41, Tryd.ntmps41
    go_wp2_with (go_at_call 53; refine (HV.out _).mono ?_; rintro e w' ⟨rfl, rfl⟩)
    go_ret
    exact ⟨rfl, Below.refl _ _⟩
  | true =>
    rw [hv] at HV
    clear hv
    go_enter Tryd.func41, Tryd.ntmps41
    go_wp2_with (go_at_call 53; refine (HV.out _).mono ?_; rintro e w' ⟨rfl, rfl⟩)
    by_cases h22 : l.length = 2
    · obtain ⟨b0, b1, rfl⟩ : ∃ b0 b1, l = [b0, b1] := by
        match l, h22 with
        | [b0, b1], _ => exact ⟨b0, b1, rfl⟩
      have hS' : Utf8.encode x = ⟨#[b0, b1]⟩ := hE
      have hb : 128 ≤ b1.toNat := hlb b1 (by simp)
      have hne : ((10 : Int) != (b1.toNat : Int)) = true := by rw [bne_iff_ne]; omega
      have HIB : Hid (∀ (c : Int) w, Calls Tryd.prog 52 #[.string ByteArray.empty, .int .u8 c] w fun e w' => e = .returned (.int .i64 (-1)) ∧ w' = w) := Lib.hid fun c w =>
        (Tryd.strings_IndexByte ByteArray.empty c w).mono fun e w' ⟨he, hw⟩ => ⟨by rw [he]; rfl, hw⟩
      clear hS hE hl1 hl2 hs1 hs2 hlb h22
      go_step3
      go_wp2
      refine wp_loop_rounds 1 ?_
      rw [rounds_succ]
      go_wp2
      go_step3
      go_wp2
      have hne' : ((((⟨#[13, 10]⟩ : ByteArray)[1]'(by decide : 1 < 2)).toNat : Int) != (((⟨#[b0, b1]⟩ : ByteArray)[1]'(show 1 < 2 by decide)).toNat : Int)) = true := hne
      go_quiet (fail)
      go_wp2
      have w2 : IntKind.i64.wrap 2 = 2 := by decide
      have w3 : IntKind.i64.wrap (1 + 1) = 2 := by decide
      have x1 : (⟨#[13, 10]⟩ : ByteArray).size = 2 := rfl
      have x2 : (⟨#[13, 10]⟩ : ByteArray).extract 2 2 = ⟨#[]⟩ := rfl
      go_quiet ((go_at_call 52; exact quiet_add_same (HIB.out _ _)))
      go_wp2
      rw [Exit.noGoto_ret]
      go_wp2
      rw [Exit.noGoto_ret]
      go_ret
      exact ⟨rfl, below_of_drewN _ _⟩
    · have hS' : Utf8.encode x = S := hS.symm
      have h3 : 3 ≤ S.size := by rw [hS, hE, str_size]; omega
      clear hS hE hl1 hl2 hlb h22
      go_step3
      go_wp2
      refine wp_loop_rounds 1 ?_
      rw [rounds_succ]
      go_wp2
      rw [Exit.noGoto_ret]
      go_ret
      exact ⟨rfl, Below.refl _ _⟩

theorem idxRune_high2 (x : Int) (w : World) (h1 : 128 ≤ x) (h2 : x ≤ 2147483647) : Calls Tryd.prog 41 #[.string ⟨#[13, 10]⟩, .int .i32 x] w fun e w' => e = .returned (.int .i64 (-1)) ∧ Below w.heap.size w w' := by
  cases h : (x == 65533) with
  | true =>
    obtain rfl : x = 65533 := by simpa using h
    exact idxRune_err2 w
  | false => exact idxRune_valid2 x w h1 h2 h

/-- where the first special byte stands, or -1 -/
def fpm2 (l : List UInt8) : Int := if l.any spc2 = true then ((l.takeWhile (fun x => !spc2 x)).length : Nat) else -1
theorem fpm_app2 (a : List UInt8) (c : UInt8) (r : List UInt8) (h : ∀ x ∈ a, noPM2 x) (hc : isPM2 c) : fpm2 (a ++ c :: r) = a.length := by
  unfold fpm2
  rw [if_pos (List.any_eq_true.2 ⟨c, by simp, hc⟩), List.takeWhile_append_of_pos (fun x hx => by have := h x hx; unfold noPM2 at this; simp [this]),
    List.takeWhile_cons_of_neg (by unfold isPM2 at hc; simp [hc]), List.append_nil]
theorem fpm_none2 (a : List UInt8) (h : ∀ x ∈ a, noPM2 x) : fpm2 a = -1 := by
  unfold fpm2
  rw [if_neg]
  intro hc
  obtain ⟨x, hx, hs⟩ := List.any_eq_true.1 hc
  have := h x hx
  unfold noPM2 at this
  rw [this] at hs
  cases hs
/-- what is known of the answer -/
def Idx2 (l : List UInt8) (n : Nat) (w : World) (e : Ending) (w' : World) : Prop := e = .returned (.int .i64 (fpm2 l)) ∧ Below w.heap.size w w'
theorem idx_hit2 {s : ByteArray} {k : Nat} {w w' : World} {x : UInt8} (hk : k < s.size) (hx : s.data.toList[k]? = some x) (hc : isPM2 x)
    (hno : ∀ y ∈ s.data.toList.take k, noPM2 y) (hb : Below w.heap.size w w') : Idx2 s.data.toList s.size w (.returned (.int .i64 k)) w' := by
  refine ⟨?_, hb⟩
  have hlt : k < s.data.toList.length := by rw [← Lib.size_eq]; exact hk
  have e := List.take_append_drop k s.data.toList
  rw [List.drop_eq_getElem_cons hlt] at e
  have hx2 : s.data.toList[k] = x := by rw [List.getElem?_eq_getElem hlt] at hx; injection hx
  rw [hx2] at e
  rw [← e, fpm_app2 _ _ _ hno hc, List.length_take]
  congr 2
  omega
theorem idx_none2 {s : ByteArray} {w w' : World} (hno : ∀ y ∈ s.data.toList, noPM2 y) (hb : Below w.heap.size w w') : Idx2 s.data.toList s.size w (.returned (.int .i64 (-1))) w' :=
  ⟨by rw [fpm_none2 _ hno], hb⟩
theorem take_step2 {l : List UInt8} {k : Nat} {x : UInt8} (hx : l[k]? = some x) (h : ∀ y ∈ l.take k, noPM2 y) (hn : noPM2 x) : ∀ y ∈ l.take (k + 1), noPM2 y := by
  have hlt : k < l.length := by
    rcases Nat.lt_or_ge k l.length with h1 | h1
    · exact h1
    · rw [List.getElem?_eq_none h1] at hx; cases hx
  rw [List.take_succ_eq_append_getElem hlt]
  intro y hy
  rcases List.mem_append.1 hy with h1 | h1
  · exact h y h1
  · rw [List.mem_singleton] at h1
    rw [List.getElem?_eq_getElem hlt] at hx
    injection hx with hx
    rw [h1, hx]; exact hn

theorem shortPM2 (x : UInt8) (h : x.toNat < 128) (w : World) : Calls Tryd.prog 41 #[.string ⟨#[13, 10]⟩, .int .i32 x.toNat] w fun e w' => (∃ j : Int, e = .returned (.int .i64 j) ∧ (0 ≤ j ↔ (isPM2 x))) ∧ w = w' := by
  refine (Tryd.strings_IndexRune_ascii ⟨#[13, 10]⟩ x.toNat w (by omega) (by omega)).mono fun e w' ⟨he, hw⟩ => ⟨⟨_, he, ?_⟩, hw.symm⟩
  have hback : ((x.toNat : Int)).toNat.toUInt8 = x := by simp
  rw [hback]
  have hc := Lib.contains_iff_indexByte (⟨#[13, 10]⟩ : ByteArray).data.toList x
  have h2 : (0 ≤ Lib.indexByte (⟨#[13, 10]⟩ : ByteArray).data.toList x) ↔ isPM2 x := by
    rw [← decide_eq_true_iff (p := 0 ≤ Lib.indexByte (⟨#[13, 10]⟩ : ByteArray).data.toList x), ← hc]
    unfold isPM2 spc2
    simp
  exact h2

set_option maxRecDepth 100000 in
set_option maxHeartbeats 2000000 in
theorem idxAny_short2 (s : ByteArray) (w : World) (h8 : s.size ≤ 8) : Calls Tryd.prog 35 #[.string s, .string ⟨#[13, 10]⟩] w (Idx2 s.data.toList s.size w) := by
  have HI := Lib.hid fun e w' (h : Idx2 s.data.toList s.size w e w') => h
  have HS : Hid (∀ n w, Calls Tryd.prog 42 #[.int .i64 n] w fun e w' => e = .returned (.bool (decide (8 < n))) ∧ w = w') := Lib.hid fun n w =>
    (Tryd.strings_shouldUseASCIISet n w).mono fun e w' ⟨he, hw⟩ => ⟨he, hw.symm⟩
  have h8z : decide ((8 : Int) < (s.size : Int)) = false := decide_eq_false (by omega)
  go_enter Tryd.func35, Tryd.ntmps35
  go_wp2_with (go_at_call 42; refine (HS.out _ _).mono ?_; rintro e w' ⟨rfl, rfl⟩; rw [h8z])
  go_loopg [9, 10] s.size (fun g _ _ wx => ∃ i : Nat, s.size ≤ i + g ∧ Below w.heap.size w wx ∧ wx.heap[w.heap.size]? = some (.stringIter s i) ∧ Hid (∀ y ∈ s.data.toList.take i, noPM2 y))
  case atStart => exact ⟨0, by omega, (Below.refl _ _).alloc (Nat.le_refl _) _, World.iter_heap w s 0, Lib.hid (by simp)⟩
  case round =>
    obtain ⟨i, hig, hb, hk, hno⟩ := hrel
    by_cases hi : i < s.size
    · obtain ⟨g, rfl⟩ : ∃ g, gk = g + 1 := ⟨gk - 1, by omega⟩
      obtain ⟨x, hx⟩ : ∃ x : UInt8, s[i]'hi = x := ⟨_, rfl⟩
      have hxl : Hid (s.data.toList[i]? = some x) := Lib.hid (by rw [← hx]; exact byte_at s i hi)
      have hlt : w.heap.size < wr.heap.size := (Array.getElem?_eq_some_iff.1 hk).1
      by_cases h128 : x.toNat < 128
      · have hnx := fun ty => Lib.run_next_ascii_at (P := Tryd.prog) wr w.heap.size s i ty hk hi (by rw [hx]; exact h128)
        rw [hx] at hnx
        have hk2 := Lib.iterAt_heap wr w.heap.size s i (i + 1) hk
        have hb2 : Below w.heap.size w (wr.iterAt w.heap.size s (i + 1)) := hb.trans (below_iterAt wr w.heap.size s (i + 1))
        obtain ⟨w2, hw2⟩ : ∃ w2, w2 = wr.iterAt w.heap.size s (i + 1) := ⟨_, rfl⟩
        rw [← hw2] at hnx hk2 hb2
        have HC := Lib.hid (shortPM2 x h128 w2)
        have Hb := Lib.hid hb2
        have Hk := Lib.hid hk2
        clear hk hx hw2 hb2 hk2 hb
        by_cases hpm : isPM2 x
        · have Hpm := Lib.hid hpm
          clear hpm
          go_wp2_with fail
          refine HC.out.mono ?_
          rintro e w' ⟨⟨j, rfl, hj⟩, rfl⟩
          have hj0 : 0 ≤ j := hj.2 Hpm.out
          clear hj
          go_wp2
          go_ret
          exact idx_hit2 hi hxl.out Hpm.out hno.out Hb.out
        · have Hpm := Lib.hid hpm
          clear hpm
          go_wp2_with fail
          refine HC.out.mono ?_
          rintro e w' ⟨⟨j, rfl, hj⟩, rfl⟩
          have hj0 : j < 0 := by
            rcases Int.lt_or_le j 0 with h | h
            · exact h
            · exact absurd (hj.1 h) Hpm.out
          clear hj
          go_wp2
          go_roundg g
          case measure => omega
          case rel => exact ⟨i + 1, by omega, Hb.out, Hk.out, Lib.hid (take_step2 hxl.out hno.out (noPM_of2 Hpm.out))⟩
      · have hhi := decode_high s i hi (by rw [hx]; omega)
        have hle := decode_le s i
        have hsk : Hid (∀ y ∈ s.data.toList.take (i + (Utf8.decode s i).2), noPM2 y) := Lib.hid (skip_take2 hno.out (decode_skip s i hi (by rw [hx]; omega)))
        have hnx := fun ty => Lib.run_next_any_at (P := Tryd.prog) wr w.heap.size s i ty hk hi
        have hk2 := Lib.iterAt_heap wr w.heap.size s i (i + (Utf8.decode s i).2) hk
        have hb2 : Below w.heap.size w (wr.iterAt w.heap.size s (i + (Utf8.decode s i).2)) := hb.trans (below_iterAt wr w.heap.size s _)
        obtain ⟨w2, hw2⟩ : ∃ w2, w2 = wr.iterAt w.heap.size s (i + (Utf8.decode s i).2) := ⟨_, rfl⟩
        rw [← hw2] at hnx hk2 hb2
        obtain ⟨R, hR⟩ : ∃ R, R = (Utf8.decode s i).1 := ⟨_, rfl⟩
        obtain ⟨W, hW⟩ : ∃ W, W = (Utf8.decode s i).2 := ⟨_, rfl⟩
        rw [← hR] at hnx hhi hle
        rw [← hW] at hk2 hhi hsk
        have hlt2 : w.heap.size < w2.heap.size := (Array.getElem?_eq_some_iff.1 hk2).1
        obtain ⟨xi, hxi⟩ : ∃ xi : Int, xi = (R : Int) := ⟨_, rfl⟩
        rw [← hxi] at hnx
        have HC := Lib.hid (idxRune_high2 xi w2 (by omega) (by omega))
        have Hb := Lib.hid hb2
        have Hk := Lib.hid hk2
        have hW1 : 1 ≤ W := hhi.2
        clear hk hx hw2 hb2 hk2 hb hR hW hhi hle hxi h128
        go_wp2_with fail
        refine HC.out.mono ?_
        rintro e w' ⟨rfl, hb3⟩
        have Hb3 := Lib.hid hb3
        clear hb3
        go_wp2
        go_roundg g
        case measure => omega
        case rel => exact ⟨i + W, by omega, Hb.out.trans (Hb3.out.mono Hb.out.size), (Hb3.out.block _ hlt2).trans Hk.out, hsk⟩
    · have hnx := fun ty => Lib.run_next_end_at (P := Tryd.prog) wr w.heap.size s i ty hk hi
      have Hb := Lib.hid hb
      clear hk hb
      go_wp2
      go_ret
      exact idx_none2 (by have := hno.out; rw [List.take_of_length_le (by rw [← Lib.size_eq]; omega)] at this; exact this) Hb.out


theorem ContainsAny2 (s : ByteArray) (w : World) (h8 : s.size ≤ 8) : Calls Tryd.prog 29 #[.string s, .string ⟨#[13, 10]⟩] w fun e w' => e = .returned (.bool ((lS s).any spc2)) ∧ Below w.heap.size w w' := by
  have HI := Lib.hid (idxAny_short2 s w h8)
  go_enter Tryd.func29, Tryd.ntmps29
  go_wp2_with fail
  refine HI.out.mono ?_
  rintro e w' ⟨rfl, hb⟩
  go_wp2
  go_ret
  refine ⟨?_, hb⟩
  congr 2
  unfold fpm2 lS
  by_cases h : s.data.toList.any spc2 = true
  · rw [if_pos h, h]
    simp
  · rw [if_neg h]
    simpa using h
end Go.Proofs.YtmdljfpkbfhbdaaDoor

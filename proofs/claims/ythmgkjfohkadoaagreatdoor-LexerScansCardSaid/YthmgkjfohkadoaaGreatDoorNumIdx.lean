/- Layer 5: strings.IndexAny(s, "pm"), any text: an index in range, and the first p or m where all bytes are ASCII. -/
import Derived.Test.YthmgkjfohkadoaaGreatDoorNumFmtA
import Derived.Laws.RangeString
import Derived.Laws.RangeAny
import Derived.BigCall
import Derived.BigGuard
import Derived.LoopTactic
import Derived.Lib.OthersKept
import Derived.Deep.WholeRow
namespace Go.Proofs.YthmgkjfohkadoaaGreatDoor
open Go.RowKit
set_option linter.unusedVariables false

def pm : ByteArray := ⟨#[112, 109]⟩
theorem encode_high (x : Int) (h : 128 ≤ x) : ∃ l : List UInt8, Utf8.encode x = ⟨l.toArray⟩ ∧ 2 ≤ l.length ∧ l.length ≤ 4 ∧ ∀ b ∈ l, 128 ≤ b.toNat := by
  unfold Utf8.encode
  have hc : 128 ≤ (if Utf8.valid x = true then x.toNat else Utf8.runeError) := by
    split
    · omega
    · unfold Utf8.runeError; omega
  have hc2 : (if Utf8.valid x = true then x.toNat else Utf8.runeError) < 1114112 := by
    split
    case isTrue hv => unfold Utf8.valid at hv; simp at hv; omega
    case isFalse => unfold Utf8.runeError; omega
  generalize (if Utf8.valid x = true then x.toNat else Utf8.runeError) = c at hc hc2
  simp only
  rw [if_neg (by omega)]
  split
  · refine ⟨_, rfl, by simp, by simp, ?_⟩
    intro b hb
    simp only [List.mem_cons, List.not_mem_nil, or_false] at hb
    rcases hb with rfl | rfl <;> simp <;> omega
  · split
    · refine ⟨_, rfl, by simp, by simp, ?_⟩
      intro b hb
      simp only [List.mem_cons, List.not_mem_nil, or_false] at hb
      rcases hb with rfl | rfl | rfl <;> simp <;> omega
    · refine ⟨_, rfl, by simp, by simp, ?_⟩
      intro b hb
      simp only [List.mem_cons, List.not_mem_nil, or_false] at hb
      rcases hb with rfl | rfl | rfl | rfl <;> simp <;> omega

theorem quiet_add_same {P : Program} {f : FuncId} {args : Array Value} {w : World} {a n : Nat} {v : Value}
    (h : Calls P f args (w.drewN (a + n)) fun e w' => e = .returned v ∧ w' = w.drewN (a + n)) :
    Calls P f args (w.drewN (a + n)) fun e w'' => e = .returned v ∧ ∃ m, w'' = w.drewN (a + m) :=
  h.mono fun _ _ ⟨he, hm⟩ => ⟨he, n, hm⟩
set_option maxRecDepth 100000 in
set_option maxHeartbeats 1000000 in
theorem idxRune_err (w : World) : Calls Tryz.prog 78 #[.string ⟨#[112, 109]⟩, .int .i32 65533] w fun e w' => e = .returned (.int .i64 (-1)) ∧ Below w.heap.size w w' := by
  have hn0 := fun ty => run_next_ascii (P := Tryz.prog) w ⟨#[112, 109]⟩ 0 ty (by decide) (by decide)
  have hn1 := fun ty => run_next_ascii (P := Tryz.prog) w ⟨#[112, 109]⟩ 1 ty (by decide) (by decide)
  have hn2 := fun ty => run_next_end (P := Tryz.prog) w ⟨#[112, 109]⟩ 2 ty (by decide)
  go_enter Tryz.func78, Tryz.ntmps78
  go_wp2
  go_loopg [5, 6] 2 (fun g _ _ wx => ∃ i : Nat, i + g = 2 ∧ wx = w.iter ⟨#[112, 109]⟩ i)
  case atStart => exact ⟨0, rfl, rfl⟩
  case round =>
    obtain ⟨i, hig, rfl⟩ := hrel
    cases gk with
    | zero =>
      obtain rfl : i = 2 := by omega
      go_wp2
      go_ret
      exact ⟨rfl, (Below.refl _ _).alloc (Nat.le_refl _) _⟩
    | succ g =>
      have hi : i = 0 ∨ i = 1 := by omega
      rcases hi with rfl | rfl
      all_goals
        go_wp2
        go_roundg g
        case measure => omega
        case rel => exact ⟨_, by omega, rfl⟩
set_option maxRecDepth 100000 in
set_option maxHeartbeats 1000000 in
theorem idxRune_valid (x : Int) (w : World) (h1 : 128 ≤ x) (h2 : x ≤ 2147483647) (h3 : (x == 65533) = false) : Calls Tryz.prog 78 #[.string ⟨#[112, 109]⟩, .int .i32 x] w fun e w' => e = .returned (.int .i64 (-1)) ∧ Below w.heap.size w w' := by
  obtain ⟨l, hE, hl1, hl2, hlb⟩ := encode_high x h1
  obtain ⟨S, hS⟩ : ∃ S, S = Utf8.encode x := ⟨_, rfl⟩
  have hs1 : 2 ≤ S.size := by rw [hS, hE, str_size]; exact hl1
  have hs2 : S.size ≤ 4 := by rw [hS, hE, str_size]; exact hl2
  have HV := Lib.hid fun w => Tryz.utf8_ValidRune x w
  cases hv : Lib.validRune x with
  | false =>
    rw [hv] at HV
    clear hS hE hl1 hl2 hlb hv
    go_enter Tryz.func78, Tryz.ntmps78
    go_wp2_with (go_at_call 93; refine (HV.out _).mono ?_; rintro e w' ⟨rfl, rfl⟩)
    go_ret
    exact ⟨rfl, Below.refl _ _⟩
  | true =>
    rw [hv] at HV
    clear hv
    go_enter Tryz.func78, Tryz.ntmps78
    go_wp2_with (go_at_call 93; refine (HV.out _).mono ?_; rintro e w' ⟨rfl, rfl⟩)
    by_cases h22 : l.length = 2
    · obtain ⟨b0, b1, rfl⟩ : ∃ b0 b1, l = [b0, b1] := by
        match l, h22 with
        | [b0, b1], _ => exact ⟨b0, b1, rfl⟩
      have hS' : Utf8.encode x = ⟨#[b0, b1]⟩ := hE
      have hb : 128 ≤ b1.toNat := hlb b1 (by simp)
      have hne : ((109 : Int) != (b1.toNat : Int)) = true := by rw [bne_iff_ne]; omega
      have HIB : Hid (∀ (c : Int) w, Calls Tryz.prog 14 #[.string ByteArray.empty, .int .u8 c] w fun e w' => e = .returned (.int .i64 (-1)) ∧ w' = w) := Lib.hid fun c w =>
        (Tryz.strings_IndexByte ByteArray.empty c w).mono fun e w' ⟨he, hw⟩ => ⟨by rw [he]; rfl, hw⟩
      clear hS hE hl1 hl2 hs1 hs2 hlb h22
      go_step3
      go_wp2
      refine wp_loop_rounds 1 ?_
      rw [rounds_succ]
      go_wp2
      go_step3
      go_wp2
      have hne' : ((((⟨#[112, 109]⟩ : ByteArray)[1]'(by decide : 1 < 2)).toNat : Int) != (((⟨#[b0, b1]⟩ : ByteArray)[1]'(show 1 < 2 by decide)).toNat : Int)) = true := hne
      go_quiet (fail)
      go_wp2
      have w2 : IntKind.i64.wrap 2 = 2 := by decide
      have w3 : IntKind.i64.wrap (1 + 1) = 2 := by decide
      have x1 : (⟨#[112, 109]⟩ : ByteArray).size = 2 := rfl
      have x2 : (⟨#[112, 109]⟩ : ByteArray).extract 2 2 = ⟨#[]⟩ := rfl
      go_quiet ((go_at_call 14; exact quiet_add_same (HIB.out _ _)))
      go_wp2
      rw [Exit.noGoto_ret]
      go_wp2
      rw [Exit.noGoto_ret]
      go_ret
      exact ⟨rfl, below_of_drewN _ _⟩
    · have hS' : Utf8.encode x = S := hS.symm
      have h3 : 3 ≤ S.size := by rw [hS, hE, str_size]; omega
      clear hS hE hl1 hl2 hlb h22
      go_step3
      go_wp2
      refine wp_loop_rounds 1 ?_
      rw [rounds_succ]
      go_wp2
      rw [Exit.noGoto_ret]
      go_ret
      exact ⟨rfl, Below.refl _ _⟩

theorem idxRune_high (x : Int) (w : World) (h1 : 128 ≤ x) (h2 : x ≤ 2147483647) : Calls Tryz.prog 78 #[.string ⟨#[112, 109]⟩, .int .i32 x] w fun e w' => e = .returned (.int .i64 (-1)) ∧ Below w.heap.size w w' := by
  cases h : (x == 65533) with
  | true =>
    obtain rfl : x = 65533 := by simpa using h
    exact idxRune_err w
  | false => exact idxRune_valid x w h1 h2 h

/-- the first p or m, or -1 -/
def fpm : List UInt8 → Int
  | [] => -1
  | c :: r => if c.toNat = 112 ∨ c.toNat = 109 then 0 else if fpm r < 0 then -1 else fpm r + 1
theorem fpm_app : ∀ (a : List UInt8) (c : UInt8) (r : List UInt8), (∀ x ∈ a, noPM x) → (c.toNat = 112 ∨ c.toNat = 109) → fpm (a ++ c :: r) = a.length
  | [], c, r, _, h => by simp [fpm, h]
  | x :: a, c, r, h, hc => by
    have hx := h x (by simp)
    have ih := fpm_app a c r (fun y hy => h y (by simp [hy])) hc
    unfold noPM at hx
    rw [List.cons_append, fpm, if_neg (by omega), ih, if_neg (by omega), List.length_cons]; omega
theorem fpm_none : ∀ (a : List UInt8), (∀ x ∈ a, noPM x) → fpm a = -1
  | [], _ => rfl
  | x :: a, h => by
    have hx := h x (by simp)
    unfold noPM at hx
    rw [fpm, if_neg (by omega), fpm_none a (fun y hy => h y (by simp [hy]))]; rfl
/-- what is known of the answer -/
def Idx (l : List UInt8) (n : Nat) (w : World) (e : Ending) (w' : World) : Prop :=
  ∃ i : Int, -1 ≤ i ∧ i < n ∧ e = .returned (.int .i64 i) ∧ ((∀ c ∈ l, c.toNat < 128) → i = fpm l) ∧ Below w.heap.size w w'
theorem idx_hit {s : ByteArray} {k : Nat} {w w' : World} {x : UInt8} (hk : k < s.size) (hx : s.data.toList[k]? = some x) (hc : x.toNat = 112 ∨ x.toNat = 109)
    (hno : (∀ c ∈ s.data.toList, c.toNat < 128) → ∀ y ∈ s.data.toList.take k, noPM y) (hb : Below w.heap.size w w') : Idx s.data.toList s.size w (.returned (.int .i64 k)) w' := by
  refine ⟨k, by omega, by omega, rfl, fun ha => ?_, hb⟩
  have hlt : k < s.data.toList.length := by rw [← Lib.size_eq]; exact hk
  have e := List.take_append_drop k s.data.toList
  rw [List.drop_eq_getElem_cons hlt] at e
  have hx2 : s.data.toList[k] = x := by rw [List.getElem?_eq_getElem hlt] at hx; injection hx
  rw [hx2] at e
  rw [← e, fpm_app _ _ _ (hno ha) hc, List.length_take]
  omega
theorem idx_none {s : ByteArray} {w w' : World} (hno : (∀ c ∈ s.data.toList, c.toNat < 128) → ∀ y ∈ s.data.toList, noPM y) (hb : Below w.heap.size w w') : Idx s.data.toList s.size w (.returned (.int .i64 (-1))) w' :=
  ⟨-1, by omega, by omega, rfl, fun ha => (fpm_none _ (hno ha)).symm, hb⟩
theorem take_step {l : List UInt8} {k : Nat} {x : UInt8} (hx : l[k]? = some x) (h : ∀ y ∈ l.take k, noPM y) (hn : noPM x) : ∀ y ∈ l.take (k + 1), noPM y := by
  have hlt : k < l.length := by
    rcases Nat.lt_or_ge k l.length with h1 | h1
    · exact h1
    · rw [List.getElem?_eq_none h1] at hx; cases hx
  rw [List.take_succ_eq_append_getElem hlt]
  intro y hy
  rcases List.mem_append.1 hy with h1 | h1
  · exact h y h1
  · rw [List.mem_singleton] at h1
    rw [List.getElem?_eq_getElem hlt] at hx
    injection hx with hx
    rw [h1, hx]; exact hn

theorem shortPM (x : UInt8) (h : x.toNat < 128) (w : World) : Calls Tryz.prog 78 #[.string ⟨#[112, 109]⟩, .int .i32 x.toNat] w fun e w' => (∃ j : Int, e = .returned (.int .i64 j) ∧ (0 ≤ j ↔ (x.toNat = 112 ∨ x.toNat = 109))) ∧ w = w' := by
  refine (Tryz.strings_IndexRune_ascii ⟨#[112, 109]⟩ x.toNat w (by omega) (by omega)).mono fun e w' ⟨he, hw⟩ => ⟨⟨_, he, ?_⟩, hw.symm⟩
  have hback : ((x.toNat : Int)).toNat.toUInt8 = x := by simp
  rw [hback]
  have hc := Lib.contains_iff_indexByte (⟨#[112, 109]⟩ : ByteArray).data.toList x
  have h2 : decide (0 ≤ Lib.indexByte (⟨#[112, 109]⟩ : ByteArray).data.toList x) = decide (x.toNat = 112 ∨ x.toNat = 109) := by
    rw [← hc]
    rw [Bool.eq_iff_iff, decide_eq_true_eq]
    simp [← UInt8.toNat_inj]
  exact decide_eq_decide.1 h2

theorem below_iterAt (w : World) (k : Nat) (s : ByteArray) (p : Nat) : Below k w (w.iterAt k s p) :=
  ⟨rfl, rfl, rfl, by simp [World.iterAt], fun b hb => by unfold World.iterAt; exact Array.getElem?_setIfInBounds_ne (by omega)⟩
set_option maxRecDepth 100000 in
set_option maxHeartbeats 2000000 in
theorem idxAny_short (s : ByteArray) (w : World) (h8 : s.size ≤ 8) : Calls Tryz.prog 68 #[.string s, .string ⟨#[112, 109]⟩] w (Idx s.data.toList s.size w) := by
  have HI := Lib.hid fun e w' (h : Idx s.data.toList s.size w e w') => h
  have HS : Hid (∀ n w, Calls Tryz.prog 79 #[.int .i64 n] w fun e w' => e = .returned (.bool (decide (8 < n))) ∧ w = w') := Lib.hid fun n w =>
    (Tryz.strings_shouldUseASCIISet n w).mono fun e w' ⟨he, hw⟩ => ⟨he, hw.symm⟩
  have h8z : decide ((8 : Int) < (s.size : Int)) = false := decide_eq_false (by omega)
  go_enter Tryz.func68, Tryz.ntmps68
  go_wp2_with (go_at_call 79; refine (HS.out _ _).mono ?_; rintro e w' ⟨rfl, rfl⟩; rw [h8z])
  go_loopg [9, 10] s.size (fun g _ _ wx => ∃ i : Nat, s.size ≤ i + g ∧ Below w.heap.size w wx ∧ wx.heap[w.heap.size]? = some (.stringIter s i) ∧ Hid ((∀ c ∈ s.data.toList, c.toNat < 128) → ∀ y ∈ s.data.toList.take i, noPM y))
  case atStart => exact ⟨0, by omega, (Below.refl _ _).alloc (Nat.le_refl _) _, World.iter_heap w s 0, Lib.hid (by simp)⟩
  case round =>
    obtain ⟨i, hig, hb, hk, hno⟩ := hrel
    by_cases hi : i < s.size
    · obtain ⟨g, rfl⟩ : ∃ g, gk = g + 1 := ⟨gk - 1, by omega⟩
      obtain ⟨x, hx⟩ : ∃ x : UInt8, s[i]'hi = x := ⟨_, rfl⟩
      have hxl : Hid (s.data.toList[i]? = some x) := Lib.hid (by rw [← hx]; exact byte_at s i hi)
      have hlt : w.heap.size < wr.heap.size := (Array.getElem?_eq_some_iff.1 hk).1
      by_cases h128 : x.toNat < 128
      · have hnx := fun ty => Lib.run_next_ascii_at (P := Tryz.prog) wr w.heap.size s i ty hk hi (by rw [hx]; exact h128)
        rw [hx] at hnx
        have hk2 := Lib.iterAt_heap wr w.heap.size s i (i + 1) hk
        have hb2 : Below w.heap.size w (wr.iterAt w.heap.size s (i + 1)) := hb.trans (below_iterAt wr w.heap.size s (i + 1))
        obtain ⟨w2, hw2⟩ : ∃ w2, w2 = wr.iterAt w.heap.size s (i + 1) := ⟨_, rfl⟩
        rw [← hw2] at hnx hk2 hb2
        have HC := Lib.hid (shortPM x h128 w2)
        have Hb := Lib.hid hb2
        have Hk := Lib.hid hk2
        clear hk hx hw2 hb2 hk2 hb
        by_cases hpm : x.toNat = 112 ∨ x.toNat = 109
        · have Hpm := Lib.hid hpm
          clear hpm
          go_wp2_with fail
          refine HC.out.mono ?_
          rintro e w' ⟨⟨j, rfl, hj⟩, rfl⟩
          have hj0 : 0 ≤ j := hj.2 Hpm.out
          clear hj
          go_wp2
          go_ret
          exact idx_hit hi hxl.out Hpm.out hno.out Hb.out
        · have Hpm := Lib.hid hpm
          clear hpm
          go_wp2_with fail
          refine HC.out.mono ?_
          rintro e w' ⟨⟨j, rfl, hj⟩, rfl⟩
          have hj0 : j < 0 := by
            rcases Int.lt_or_le j 0 with h | h
            · exact h
            · exact absurd (hj.1 h) Hpm.out
          clear hj
          go_wp2
          go_roundg g
          case measure => omega
          case rel => exact ⟨i + 1, by omega, Hb.out, Hk.out, Lib.hid fun ha => take_step hxl.out (hno.out ha) (by have := Hpm.out; unfold noPM; omega)⟩
      · have hhi := decode_high s i hi (by rw [hx]; omega)
        have hle := decode_le s i
        have hnx := fun ty => Lib.run_next_any_at (P := Tryz.prog) wr w.heap.size s i ty hk hi
        have hk2 := Lib.iterAt_heap wr w.heap.size s i (i + (Utf8.decode s i).2) hk
        have hb2 : Below w.heap.size w (wr.iterAt w.heap.size s (i + (Utf8.decode s i).2)) := hb.trans (below_iterAt wr w.heap.size s _)
        obtain ⟨w2, hw2⟩ : ∃ w2, w2 = wr.iterAt w.heap.size s (i + (Utf8.decode s i).2) := ⟨_, rfl⟩
        rw [← hw2] at hnx hk2 hb2
        obtain ⟨R, hR⟩ : ∃ R, R = (Utf8.decode s i).1 := ⟨_, rfl⟩
        obtain ⟨W, hW⟩ : ∃ W, W = (Utf8.decode s i).2 := ⟨_, rfl⟩
        rw [← hR] at hnx hhi hle
        rw [← hW] at hk2 hhi
        have hne : Hid (¬ ∀ c ∈ s.data.toList, c.toNat < 128) := Lib.hid fun h => h128 (h x (List.mem_of_getElem? hxl.out))
        have hlt2 : w.heap.size < w2.heap.size := (Array.getElem?_eq_some_iff.1 hk2).1
        obtain ⟨xi, hxi⟩ : ∃ xi : Int, xi = (R : Int) := ⟨_, rfl⟩
        rw [← hxi] at hnx
        have HC := Lib.hid (idxRune_high xi w2 (by omega) (by omega))
        have Hb := Lib.hid hb2
        have Hk := Lib.hid hk2
        have hW1 : 1 ≤ W := hhi.2
        clear hk hx hw2 hb2 hk2 hb hR hW hhi hle hxi h128
        go_wp2_with fail
        refine HC.out.mono ?_
        rintro e w' ⟨rfl, hb3⟩
        have Hb3 := Lib.hid hb3
        clear hb3
        go_wp2
        go_roundg g
        case measure => omega
        case rel => exact ⟨i + W, by omega, Hb.out.trans (Hb3.out.mono Hb.out.size), (Hb3.out.block _ hlt2).trans Hk.out, Lib.hid fun ha => absurd ha hne.out⟩
    · have hnx := fun ty => Lib.run_next_end_at (P := Tryz.prog) wr w.heap.size s i ty hk hi
      have Hb := Lib.hid hb
      clear hk hb
      go_wp2
      go_ret
      exact idx_none (fun ha => by have := hno.out ha; rw [List.take_of_length_le (by rw [← Lib.size_eq]; omega)] at this; exact this) Hb.out

theorem asciiZero : ∀ w, (zeroValue 103).run Tryz.prog w = .ok (.agg (Array.replicate 256 (.bool false))) w := fun w => by kernel_rfl
theorem asciiInfo : (Tryz.prog.info? 103).map (·.size) = some 256 := by kernel_rfl
theorem pmContains (x : UInt8) : ([112, 109] : List UInt8).contains x = decide (x.toNat = 112 ∨ x.toNat = 109) := by
  rw [Bool.eq_iff_iff, decide_eq_true_eq]
  simp [← UInt8.toNat_inj]

set_option maxHeartbeats 4000000 in
set_option maxRecDepth 1000000 in
theorem idxAny_long (s : ByteArray) (w : World) (h8 : 8 < s.size) (hmax : s.size ≤ 140737488355328) : Calls Tryz.prog 68 #[.string s, .string ⟨#[112, 109]⟩] w (Idx s.data.toList s.size w) := by
  have hM := Tryz.strings_makeASCIISet asciiZero ⟨#[112, 109]⟩ w (by decide) (by
    intro j b hb
    have hm := List.mem_of_getElem? hb
    have : b = 112 ∨ b = 109 := by simpa using hm
    rcases this with rfl | rfl <;> decide)
  rw [show (⟨#[112, 109]⟩ : ByteArray).data.toList = [112, 109] from rfl] at hM
  have h8z : decide ((8 : Int) < (s.size : Int)) = true := decide_eq_true (by omega)
  have hsc : (storeCells ⟨w.heap.size + 1, 0, none⟩ (Lib.setCells [112, 109]).toList 0).run Tryz.prog ((w.alloc (.cells (Lib.setCells [112, 109]) 103)).alloc (.cells (Array.replicate 256 (.bool false)) 103)) = .ok () ((w.alloc (.cells (Lib.setCells [112, 109]) 103)).alloc (.cells (Lib.setCells [112, 109]) 103)) := by
    have := run_storeCells_new (P := Tryz.prog) (w.alloc (.cells (Lib.setCells [112, 109]) 103)) 103 (Array.replicate 256 (.bool false)) (Lib.setCells [112, 109]) (by rw [Lib.setCells_size]; exact asciiInfo) (by rw [Lib.setCells_size, Array.size_replicate]) (Lib.setCells_one _)
    simpa using this
  have hsz := Lib.setCells_size [112, 109]
  have HC : Hid (∀ x : UInt8, ((w.alloc (.cells (Lib.setCells [112, 109]) 103)).alloc (.cells (Lib.setCells [112, 109]) 103)).cell? ⟨w.heap.size + 1, x.toNat, none⟩ = some (.bool (decide (x.toNat = 112 ∨ x.toNat = 109)))) := Lib.hid fun x => by
    rw [World.cell?_alloc_at _ _ _ _ (by simp), Lib.setCells_at, pmContains]
  have hz := asciiZero
  generalize Lib.setCells [112, 109] = SC at *
  go_enter Tryz.func68, Tryz.ntmps68
  go_wp2_with (first
    | (go_at_call 79; refine (Tryz.strings_shouldUseASCIISet _ _).mono ?_; rintro e w' ⟨rfl, hw⟩; rw [hw, h8z])
    | (go_at_call 80; refine hM.mono ?_; rintro e w' ⟨rfl, hw⟩; rw [hw]))
  clear hM hsc hz
  go_loopg [8] s.size (fun g s8 wx => ∃ i : Nat, i + g = s.size ∧ s8 = .int .i64 i ∧ wx = ((w.alloc (.cells SC 103)).alloc (.cells SC 103)) ∧ Hid (∀ y ∈ s.data.toList.take i, noPM y))
  case atStart => exact ⟨0, by omega, rfl, rfl, Lib.hid (by simp)⟩
  case round =>
    obtain ⟨i, hig, rfl, rfl, hno⟩ := hrel
    have hb : Hid (Below w.heap.size w ((w.alloc (.cells SC 103)).alloc (.cells SC 103))) := Lib.hid (((Below.refl _ _).alloc (Nat.le_refl _) _).alloc (by simp) _)
    cases gk with
    | zero =>
      obtain rfl : i = s.size := by omega
      have hiz : ¬ ((s.size : Int) < (s.size : Int)) := by omega
      go_wp2
      go_ret
      exact idx_none (fun _ => by have := hno.out; rw [List.take_of_length_le (by rw [← Lib.size_eq]; omega)] at this; exact this) hb.out
    | succ g =>
      have hi : i < s.size := by omega
      have hiz : (i : Int) < (s.size : Int) := by omega
      obtain ⟨x, hx⟩ : ∃ x : UInt8, s[i]'hi = x := ⟨_, rfl⟩
      have Hx : Hid (s.data.toList[i]? = some x) := Lib.hid (by rw [← hx]; exact byte_at s i hi)
      have hcx := HC.out x
      by_cases hin : x.toNat = 112 ∨ x.toNat = 109
      · rw [decide_eq_true hin] at hcx
        have Hin := Lib.hid hin
        clear hin
        go_wp2_with (go_at_call 81; refine (Tryz.asciiSet_contains _ x _ _ hcx).mono ?_; rintro e w' ⟨rfl, hw⟩; rw [hw])
        go_ret
        exact idx_hit hi Hx.out Hin.out (fun _ => hno.out) hb.out
      · rw [decide_eq_false hin] at hcx
        have Hin := Lib.hid hin
        clear hin
        go_wp2_with (go_at_call 81; refine (Tryz.asciiSet_contains _ x _ _ hcx).mono ?_; rintro e w' ⟨rfl, hw⟩; rw [hw])
        go_roundg g
        case measure => omega
        case rel => exact ⟨i + 1, by omega, by first | rfl | simp, rfl, Lib.hid (take_step Hx.out hno.out (by have := Hin.out; unfold noPM; omega))⟩

theorem IndexAny_any (s : ByteArray) (w : World) (hmax : s.size ≤ 140737488355328) : Calls Tryz.prog 68 #[.string s, .string ⟨#[112, 109]⟩] w (Idx s.data.toList s.size w) := by
  by_cases h : s.size ≤ 8
  · exact idxAny_short s w h
  · exact idxAny_long s w (by omega) hmax
end Go.Proofs.YthmgkjfohkadoaaGreatDoor

/- csv: strings.IndexAny(s, special), any text, exactly. Out of NumIdx by mkcsidx.py. -/
import Derived.Test.YtmdljfpkbfhbdaaDoorCsBuild
import Derived.Laws.RangeString
import Derived.Laws.RangeAny
import Derived.BigCall
import Derived.BigGuard
import Derived.LoopTactic
import Derived.Lib.OthersKept
import Derived.Deep.WholeRow
import Derived.Deep.QuietTactic
import Derived.BigQuiet
namespace Go.Proofs.YtmdljfpkbfhbdaaDoor
open Go.RowKit
set_option linter.unusedVariables false

theorem str_size (l : List UInt8) : ByteArray.size ⟨l.toArray⟩ = l.length := by simp [ByteArray.size]
theorem byte_at (s : ByteArray) (k : Nat) (h : k < s.size) : s.data.toList[k]? = some s[k] := by
  have h2 : k < s.data.toList.length := by rw [Array.length_toList]; exact h
  rw [List.getElem?_eq_getElem h2]
  rfl
def noPM (c : UInt8) : Prop := spc c = false
def isPM (c : UInt8) : Prop := spc c = true
theorem spc_nat (c : UInt8) : isPM c ↔ (c.toNat = 34 ∨ c.toNat = 44 ∨ c.toNat = 13 ∨ c.toNat = 10) := by
  unfold isPM spc
  simp only [Bool.or_eq_true, beq_iff_eq, ← UInt8.toNat_inj, or_assoc]
  exact Iff.rfl
theorem noPM_of {c : UInt8} (h : ¬ isPM c) : noPM c := by
  unfold noPM
  unfold isPM at h
  simpa using h
theorem noPM_high {c : UInt8} (h : 128 ≤ c.toNat) : noPM c := noPM_of fun h2 => by
  have := (spc_nat c).1 h2
  omega
/-- what a high byte begins is made of high bytes -/
theorem decode_skip (s : ByteArray) (pos : Nat) (h : pos < s.size) (ha : 128 ≤ (s[pos]'h).toNat) : ∀ k, k < (Utf8.decode s pos).2 → 128 ≤ (s.get! (pos + k)).toNat := by
  have h0 : 128 ≤ (s.get! (pos + 0)).toNat := by rw [get_at s pos h]; exact ha
  have hn : ¬ (s.get! (pos + 0)).toNat < 128 := by omega
  intro k
  simp only [Utf8.decode, hn, if_false]
  repeat' split
  all_goals (
    intro hk
    simp only [Bool.and_eq_true, decide_eq_true_eq, beq_iff_eq, ge_iff_le] at *
    have hk4 : k = 0 ∨ k = 1 ∨ k = 2 ∨ k = 3 := by omega
    rcases hk4 with rfl | rfl | rfl | rfl <;> omega)
theorem skip_take {s : ByteArray} {i W : Nat} (h : ∀ y ∈ s.data.toList.take i, noPM y) (hk : ∀ k, k < W → 128 ≤ (s.get! (i + k)).toNat) : ∀ y ∈ s.data.toList.take (i + W), noPM y := by
  intro y hy
  obtain ⟨j, hj⟩ := List.getElem?_of_mem hy
  rw [List.getElem?_take] at hj
  split at hj
  · rename_i hlt
    by_cases hji : j < i
    · exact h y (List.mem_of_getElem? (i := j) (by rw [List.getElem?_take, if_pos hji]; exact hj))
    · have hjs : j < s.size := by
        have := (List.getElem?_eq_some_iff.1 hj).1
        rwa [Array.length_toList] at this
      have h1 := hk (j - i) (by omega)
      rw [show i + (j - i) = j + 0 by omega, get_at s j hjs] at h1
      have h2 := byte_at s j hjs
      rw [hj] at h2
      injection h2 with h2
      rw [h2]
      exact noPM_high h1
  · cases hj
theorem idx_miss : ∀ (l : List UInt8) (c : UInt8), c ∉ l → Lib.indexByte l c = -1
  | [], _, _ => rfl
  | b :: l, c, h => by
    have hb : (b == c) = false := by
      rw [beq_eq_false_iff_ne]
      intro e
      exact h (by simp [e])
    have ih := idx_miss l c fun hc => h (by simp [hc])
    rw [Lib.indexByte, hb, ih]
    rfl
theorem encode_high (x : Int) (h : 128 ≤ x) : ∃ l : List UInt8, Utf8.encode x = ⟨l.toArray⟩ ∧ 2 ≤ l.length ∧ l.length ≤ 4 ∧ ∀ b ∈ l, 128 ≤ b.toNat := by
  unfold Utf8.encode
  have hc : 128 ≤ (if Utf8.valid x = true then x.toNat else Utf8.runeError) := by
    split
    · omega
    · unfold Utf8.runeError; omega
  have hc2 : (if Utf8.valid x = true then x.toNat else Utf8.runeError) < 1114112 := by
    split
    case isTrue hv => unfold Utf8.valid at hv; simp at hv; omega
    case isFalse => unfold Utf8.runeError; omega
  generalize (if Utf8.valid x = true then x.toNat else Utf8.runeError) = c at hc hc2
  simp only
  rw [if_neg (by omega)]
  split
  · refine ⟨_, rfl, by simp, by simp, ?_⟩
    intro b hb
    simp only [List.mem_cons, List.not_mem_nil, or_false] at hb
    rcases hb with rfl | rfl <;> simp <;> omega
  · split
    · refine ⟨_, rfl, by simp, by simp, ?_⟩
      intro b hb
      simp only [List.mem_cons, List.not_mem_nil, or_false] at hb
      rcases hb with rfl | rfl | rfl <;> simp <;> omega
    · refine ⟨_, rfl, by simp, by simp, ?_⟩
      intro b hb
      simp only [List.mem_cons, List.not_mem_nil, or_false] at hb
      rcases hb with rfl | rfl | rfl | rfl <;> simp <;> omega

theorem quiet_add_same {P : Program} {f : FuncId} {args : Array Value} {w : World} {a n : Nat} {v : Value}
    (h : Calls P f args (w.drewN (a + n)) fun e w' => e = .returned v ∧ w' = w.drewN (a + n)) :
    Calls P f args (w.drewN (a + n)) fun e w'' => e = .returned v ∧ ∃ m, w'' = w.drewN (a + m) :=
  h.mono fun _ _ ⟨he, hm⟩ => ⟨he, n, hm⟩
set_option maxRecDepth 100000 in
set_option maxHeartbeats 1000000 in
theorem idxRune_err (w : World) : Calls Tryd.prog 41 #[.string ⟨#[34, 44, 13, 10]⟩, .int .i32 65533] w fun e w' => e = .returned (.int .i64 (-1)) ∧ Below w.heap.size w w' := by
  have hn0 := fun ty => run_next_ascii (P := Tryd.prog) w ⟨#[34, 44, 13, 10]⟩ 0 ty (by decide) (by decide)
  have hn1 := fun ty => run_next_ascii (P := Tryd.prog) w ⟨#[34, 44, 13, 10]⟩ 1 ty (by decide) (by decide)
  have hn2 := fun ty => run_next_ascii (P := Tryd.prog) w ⟨#[34, 44, 13, 10]⟩ 2 ty (by decide) (by decide)
  have hn3 := fun ty => run_next_ascii (P := Tryd.prog) w ⟨#[34, 44, 13, 10]⟩ 3 ty (by decide) (by decide)
  have hn4 := fun ty => run_next_end (P := Tryd.prog) w ⟨#[34, 44, 13, 10]⟩ 4 ty (by decide)
  go_enter Tryd.func41, Tryd.ntmps41
  go_wp2
  go_loopg [5, 6] 4 (fun g _ _ wx => ∃ i : Nat, i + g = 4 ∧ wx = w.iter ⟨#[34, 44, 13, 10]⟩ i)
  case atStart => exact ⟨0, rfl, rfl⟩
  case round =>
    obtain ⟨i, hig, rfl⟩ := hrel
    cases gk with
    | zero =>
      obtain rfl : i = 4 := by omega
      go_wp2
      go_ret
      exact ⟨rfl, (Below.refl _ _).alloc (Nat.le_refl _) _⟩
    | succ g =>
      have hi : i = 0 ∨ i = 1 ∨ i = 2 ∨ i = 3 := by omega
      rcases hi with rfl | rfl | rfl | rfl
      all_goals
        go_wp2
        go_roundg g
        case measure => omega
        case rel => exact ⟨_, by omega, rfl⟩
set_option maxRecDepth 100000 in
set_option maxHeartbeats 1000000 in
theorem idxRune_valid (x : Int) (w : World) (h1 : 128 ≤ x) (h2 : x ≤ 2147483647) (h3 : (x == 65533) = false) : Calls Tryd.prog 41 #[.string ⟨#[34, 44, 13, 10]⟩, .int .i32 x] w fun e w' => e = .returned (.int .i64 (-1)) ∧ Below w.heap.size w w' := by
  obtain ⟨l, hE, hl1, hl2, hlb⟩ := encode_high x h1
  obtain ⟨S, hS⟩ : ∃ S, S = Utf8.encode x := ⟨_, rfl⟩
  have hs1 : 2 ≤ S.size := by rw [hS, hE, str_size]; exact hl1
  have hs2 : S.size ≤ 4 := by rw [hS, hE, str_size]; exact hl2
  have HV := Lib.hid fun w => Tryd.utf8_ValidRune x w
  cases hv : Lib.validRune x with
  | false =>
    rw [hv] at HV
    clear hS hE hl1 hl2 hlb hv
    go_enter Tryd.func41, Tryd.ntmps41
    go_wp2_with (go_at_call 53; refine (HV.out _).mono ?_; rintro e w' ⟨rfl, rfl⟩)
    go_ret
    exact ⟨rfl, Below.refl _ _⟩
  | true =>
    rw [hv] at HV
    clear hv
    go_enter Tryd.func41, Tryd.ntmps41
    go_wp2_with (go_at_call 53; refine (HV.out _).mono ?_; rintro e w' ⟨rfl, rfl⟩)
    have h234 : (∃ b0 b1, l = [b0, b1]) ∨ (∃ b0 b1 b2, l = [b0, b1, b2]) ∨ (∃ b0 b1 b2 b3, l = [b0, b1, b2, b3]) := by
      match l, hl1, hl2 with
      | [b0, b1], _, _ => exact .inl ⟨b0, b1, rfl⟩
      | [b0, b1, b2], _, _ => exact .inr (.inl ⟨b0, b1, b2, rfl⟩)
      | [b0, b1, b2, b3], _, _ => exact .inr (.inr ⟨b0, b1, b2, b3, rfl⟩)
    rcases h234 with ⟨b0, b1, rfl⟩ | ⟨b0, b1, b2, rfl⟩ | ⟨b0, b1, b2, b3, rfl⟩
    · have hS' : Utf8.encode x = ⟨#[b0, b1]⟩ := hE
      have hb : 128 ≤ b1.toNat := hlb b1 (by simp)
      have hne : ((44 : Int) != (b1.toNat : Int)) = true := by rw [bne_iff_ne]; omega
      have HIB : Hid (∀ w, Calls Tryd.prog 52 #[.string ⟨#[13, 10]⟩, .int .u8 (b1.toNat : Int)] w fun e w' => e = .returned (.int .i64 (-1)) ∧ w' = w) := Lib.hid fun w =>
        (Tryd.strings_IndexByte ⟨#[13, 10]⟩ _ w).mono fun e w' ⟨he, hw⟩ => ⟨by
          rw [he]
          congr 2
          refine idx_miss _ _ ?_
          have hback : ((b1.toNat : Int)).toNat.toUInt8 = b1 := by simp
          rw [hback]
          intro hm
          have : b1 ∈ ([13, 10] : List UInt8) := hm
          simp at this
          rcases this with h | h <;> (rw [h] at hb; exact absurd hb (by decide)), hw⟩
      clear hS hE hl1 hl2 hs1 hs2 hlb
      go_step3
      go_wp2
      refine wp_loop_rounds 1 ?_
      rw [rounds_succ]
      go_wp2
      go_step3
      go_wp2
      have hne' : ((((⟨#[34, 44, 13, 10]⟩ : ByteArray)[1]'(by decide : 1 < 4)).toNat : Int) != (((⟨#[b0, b1]⟩ : ByteArray)[1]'(show 1 < 2 by decide)).toNat : Int)) = true := hne
      go_quiet (fail)
      go_wp2
      have w2 : IntKind.i64.wrap (1 + 1) = 2 := by decide
      have w3 : IntKind.i64.wrap 2 = 2 := by decide
      have x1 : (⟨#[34, 44, 13, 10]⟩ : ByteArray).size = 4 := rfl
      have x2 : (⟨#[34, 44, 13, 10]⟩ : ByteArray).extract 2 4 = ⟨#[13, 10]⟩ := rfl
      go_quiet ((go_at_call 52; exact quiet_add_same (HIB.out _)))
      go_wp2
      rw [Exit.noGoto_ret]
      go_wp2
      rw [Exit.noGoto_ret]
      go_ret
      exact ⟨rfl, below_of_drewN _ _⟩
    · have hS' : Utf8.encode x = ⟨#[b0, b1, b2]⟩ := hE
      have hb : 128 ≤ b2.toNat := hlb b2 (by simp)
      have hne : ((13 : Int) != (b2.toNat : Int)) = true := by rw [bne_iff_ne]; omega
      have HIB : Hid (∀ w, Calls Tryd.prog 52 #[.string ⟨#[10]⟩, .int .u8 (b2.toNat : Int)] w fun e w' => e = .returned (.int .i64 (-1)) ∧ w' = w) := Lib.hid fun w =>
        (Tryd.strings_IndexByte ⟨#[10]⟩ _ w).mono fun e w' ⟨he, hw⟩ => ⟨by
          rw [he]
          congr 2
          refine idx_miss _ _ ?_
          have hback : ((b2.toNat : Int)).toNat.toUInt8 = b2 := by simp
          rw [hback]
          intro hm
          have : b2 ∈ ([10] : List UInt8) := hm
          simp at this
          (rw [this] at hb; exact absurd hb (by decide)), hw⟩
      clear hS hE hl1 hl2 hs1 hs2 hlb
      go_step3
      go_wp2
      refine wp_loop_rounds 1 ?_
      rw [rounds_succ]
      go_wp2
      go_step3
      go_wp2
      have hne' : ((((⟨#[34, 44, 13, 10]⟩ : ByteArray)[2]'(by decide : 2 < 4)).toNat : Int) != (((⟨#[b0, b1, b2]⟩ : ByteArray)[2]'(show 2 < 3 by decide)).toNat : Int)) = true := hne
      go_quiet (fail)
      go_wp2
      have w2 : IntKind.i64.wrap (2 + 1) = 3 := by decide
      have w3 : IntKind.i64.wrap 3 = 3 := by decide
      have x1 : (⟨#[34, 44, 13, 10]⟩ : ByteArray).size = 4 := rfl
      have x2 : (⟨#[34, 44, 13, 10]⟩ : ByteArray).extract 3 4 = ⟨#[10]⟩ := rfl
      go_quiet ((go_at_call 52; exact quiet_add_same (HIB.out _)))
      go_wp2
      rw [Exit.noGoto_ret]
      go_wp2
      rw [Exit.noGoto_ret]
      go_ret
      exact ⟨rfl, below_of_drewN _ _⟩
    · have hS' : Utf8.encode x = ⟨#[b0, b1, b2, b3]⟩ := hE
      have hb : 128 ≤ b3.toNat := hlb b3 (by simp)
      have hne : ((10 : Int) != (b3.toNat : Int)) = true := by rw [bne_iff_ne]; omega
      have HIB : Hid (∀ w, Calls Tryd.prog 52 #[.string ⟨#[]⟩, .int .u8 (b3.toNat : Int)] w fun e w' => e = .returned (.int .i64 (-1)) ∧ w' = w) := Lib.hid fun w =>
        (Tryd.strings_IndexByte ⟨#[]⟩ _ w).mono fun e w' ⟨he, hw⟩ => ⟨by
          rw [he]
          rfl, hw⟩
      clear hS hE hl1 hl2 hs1 hs2 hlb
      go_step3
      go_wp2
      refine wp_loop_rounds 1 ?_
      rw [rounds_succ]
      go_wp2
      go_step3
      go_wp2
      have hne' : ((((⟨#[34, 44, 13, 10]⟩ : ByteArray)[3]'(by decide : 3 < 4)).toNat : Int) != (((⟨#[b0, b1, b2, b3]⟩ : ByteArray)[3]'(show 3 < 4 by decide)).toNat : Int)) = true := hne
      go_quiet (fail)
      go_wp2
      have w2 : IntKind.i64.wrap (3 + 1) = 4 := by decide
      have w3 : IntKind.i64.wrap 4 = 4 := by decide
      have x1 : (⟨#[34, 44, 13, 10]⟩ : ByteArray).size = 4 := rfl
      have x2 : (⟨#[34, 44, 13, 10]⟩ : ByteArray).extract 4 4 = ⟨#[]⟩ := rfl
      go_quiet ((go_at_call 52; exact quiet_add_same (HIB.out _)))
      go_wp2
      rw [Exit.noGoto_ret]
      go_wp2
      rw [Exit.noGoto_ret]
      go_ret
      exact ⟨rfl, below_of_drewN _ _⟩

theorem idxRune_high (x : Int) (w : World) (h1 : 128 ≤ x) (h2 : x ≤ 2147483647) : Calls Tryd.prog 41 #[.string ⟨#[34, 44, 13, 10]⟩, .int .i32 x] w fun e w' => e = .returned (.int .i64 (-1)) ∧ Below w.heap.size w w' := by
  cases h : (x == 65533) with
  | true =>
    obtain rfl : x = 65533 := by simpa using h
    exact idxRune_err w
  | false => exact idxRune_valid x w h1 h2 h

/-- where the first special byte stands, or -1 -/
def fpm (l : List UInt8) : Int := if l.any spc = true then ((l.takeWhile (fun x => !spc x)).length : Nat) else -1
theorem fpm_app (a : List UInt8) (c : UInt8) (r : List UInt8) (h : ∀ x ∈ a, noPM x) (hc : isPM c) : fpm (a ++ c :: r) = a.length := by
  unfold fpm
  rw [if_pos (List.any_eq_true.2 ⟨c, by simp, hc⟩), List.takeWhile_append_of_pos (fun x hx => by have := h x hx; unfold noPM at this; simp [this]),
    List.takeWhile_cons_of_neg (by unfold isPM at hc; simp [hc]), List.append_nil]
theorem fpm_none (a : List UInt8) (h : ∀ x ∈ a, noPM x) : fpm a = -1 := by
  unfold fpm
  rw [if_neg]
  intro hc
  obtain ⟨x, hx, hs⟩ := List.any_eq_true.1 hc
  have := h x hx
  unfold noPM at this
  rw [this] at hs
  cases hs
/-- what is known of the answer -/
def Idx (l : List UInt8) (n : Nat) (w : World) (e : Ending) (w' : World) : Prop := e = .returned (.int .i64 (fpm l)) ∧ Below w.heap.size w w'
theorem idx_hit {s : ByteArray} {k : Nat} {w w' : World} {x : UInt8} (hk : k < s.size) (hx : s.data.toList[k]? = some x) (hc : isPM x)
    (hno : ∀ y ∈ s.data.toList.take k, noPM y) (hb : Below w.heap.size w w') : Idx s.data.toList s.size w (.returned (.int .i64 k)) w' := by
  refine ⟨?_, hb⟩
  have hlt : k < s.data.toList.length := by rw [← Lib.size_eq]; exact hk
  have e := List.take_append_drop k s.data.toList
  rw [List.drop_eq_getElem_cons hlt] at e
  have hx2 : s.data.toList[k] = x := by rw [List.getElem?_eq_getElem hlt] at hx; injection hx
  rw [hx2] at e
  rw [← e, fpm_app _ _ _ hno hc, List.length_take]
  congr 2
  omega
theorem idx_none {s : ByteArray} {w w' : World} (hno : ∀ y ∈ s.data.toList, noPM y) (hb : Below w.heap.size w w') : Idx s.data.toList s.size w (.returned (.int .i64 (-1))) w' :=
  ⟨by rw [fpm_none _ hno], hb⟩
theorem take_step {l : List UInt8} {k : Nat} {x : UInt8} (hx : l[k]? = some x) (h : ∀ y ∈ l.take k, noPM y) (hn : noPM x) : ∀ y ∈ l.take (k + 1), noPM y := by
  have hlt : k < l.length := by
    rcases Nat.lt_or_ge k l.length with h1 | h1
    · exact h1
    · rw [List.getElem?_eq_none h1] at hx; cases hx
  rw [List.take_succ_eq_append_getElem hlt]
  intro y hy
  rcases List.mem_append.1 hy with h1 | h1
  · exact h y h1
  · rw [List.mem_singleton] at h1
    rw [List.getElem?_eq_getElem hlt] at hx
    injection hx with hx
    rw [h1, hx]; exact hn

theorem shortPM (x : UInt8) (h : x.toNat < 128) (w : World) : Calls Tryd.prog 41 #[.string ⟨#[34, 44, 13, 10]⟩, .int .i32 x.toNat] w fun e w' => (∃ j : Int, e = .returned (.int .i64 j) ∧ (0 ≤ j ↔ (isPM x))) ∧ w = w' := by
  refine (Tryd.strings_IndexRune_ascii ⟨#[34, 44, 13, 10]⟩ x.toNat w (by omega) (by omega)).mono fun e w' ⟨he, hw⟩ => ⟨⟨_, he, ?_⟩, hw.symm⟩
  have hback : ((x.toNat : Int)).toNat.toUInt8 = x := by simp
  rw [hback]
  have hc := Lib.contains_iff_indexByte (⟨#[34, 44, 13, 10]⟩ : ByteArray).data.toList x
  have h2 : (0 ≤ Lib.indexByte (⟨#[34, 44, 13, 10]⟩ : ByteArray).data.toList x) ↔ isPM x := by
    rw [← decide_eq_true_iff (p := 0 ≤ Lib.indexByte (⟨#[34, 44, 13, 10]⟩ : ByteArray).data.toList x), ← hc]
    unfold isPM spc
    simp [or_assoc]
  exact h2

theorem below_iterAt (w : World) (k : Nat) (s : ByteArray) (p : Nat) : Below k w (w.iterAt k s p) :=
  ⟨rfl, rfl, rfl, by simp [World.iterAt], fun b hb => by unfold World.iterAt; exact Array.getElem?_setIfInBounds_ne (by omega)⟩
set_option maxRecDepth 100000 in
set_option maxHeartbeats 2000000 in
theorem idxAny_short (s : ByteArray) (w : World) (h8 : s.size ≤ 8) : Calls Tryd.prog 35 #[.string s, .string ⟨#[34, 44, 13, 10]⟩] w (Idx s.data.toList s.size w) := by
  have HI := Lib.hid fun e w' (h : Idx s.data.toList s.size w e w') => h
  have HS : Hid (∀ n w, Calls Tryd.prog 42 #[.int .i64 n] w fun e w' => e = .returned (.bool (decide (8 < n))) ∧ w = w') := Lib.hid fun n w =>
    (Tryd.strings_shouldUseASCIISet n w).mono fun e w' ⟨he, hw⟩ => ⟨he, hw.symm⟩
  have h8z : decide ((8 : Int) < (s.size : Int)) = false := decide_eq_false (by omega)
  go_enter Tryd.func35, Tryd.ntmps35
  go_wp2_with (go_at_call 42; refine (HS.out _ _).mono ?_; rintro e w' ⟨rfl, rfl⟩; rw [h8z])
  go_loopg [9, 10] s.size (fun g _ _ wx => ∃ i : Nat, s.size ≤ i + g ∧ Below w.heap.size w wx ∧ wx.heap[w.heap.size]? = some (.stringIter s i) ∧ Hid (∀ y ∈ s.data.toList.take i, noPM y))
  case atStart => exact ⟨0, by omega, (Below.refl _ _).alloc (Nat.le_refl _) _, World.iter_heap w s 0, Lib.hid (by simp)⟩
  case round =>
    obtain ⟨i, hig, hb, hk, hno⟩ := hrel
    by_cases hi : i < s.size
    · obtain ⟨g, rfl⟩ : ∃ g, gk = g + 1 := ⟨gk - 1, by omega⟩
      obtain ⟨x, hx⟩ : ∃ x : UInt8, s[i]'hi = x := ⟨_, rfl⟩
      have hxl : Hid (s.data.toList[i]? = some x) := Lib.hid (by rw [← hx]; exact byte_at s i hi)
      have hlt : w.heap.size < wr.heap.size := (Array.getElem?_eq_some_iff.1 hk).1
      by_cases h128 : x.toNat < 128
      · have hnx := fun ty => Lib.run_next_ascii_at (P := Tryd.prog) wr w.heap.size s i ty hk hi (by rw [hx]; exact h128)
        rw [hx] at hnx
        have hk2 := Lib.iterAt_heap wr w.heap.size s i (i + 1) hk
        have hb2 : Below w.heap.size w (wr.iterAt w.heap.size s (i + 1)) := hb.trans (below_iterAt wr w.heap.size s (i + 1))
        obtain ⟨w2, hw2⟩ : ∃ w2, w2 = wr.iterAt w.heap.size s (i + 1) := ⟨_, rfl⟩
        rw [← hw2] at hnx hk2 hb2
        have HC := Lib.hid (shortPM x h128 w2)
        have Hb := Lib.hid hb2
        have Hk := Lib.hid hk2
        clear hk hx hw2 hb2 hk2 hb
        by_cases hpm : isPM x
        · have Hpm := Lib.hid hpm
          clear hpm
          go_wp2_with fail
          refine HC.out.mono ?_
          rintro e w' ⟨⟨j, rfl, hj⟩, rfl⟩
          have hj0 : 0 ≤ j := hj.2 Hpm.out
          clear hj
          go_wp2
          go_ret
          exact idx_hit hi hxl.out Hpm.out hno.out Hb.out
        · have Hpm := Lib.hid hpm
          clear hpm
          go_wp2_with fail
          refine HC.out.mono ?_
          rintro e w' ⟨⟨j, rfl, hj⟩, rfl⟩
          have hj0 : j < 0 := by
            rcases Int.lt_or_le j 0 with h | h
            · exact h
            · exact absurd (hj.1 h) Hpm.out
          clear hj
          go_wp2
          go_roundg g
          case measure => omega
          case rel => exact ⟨i + 1, by omega, Hb.out, Hk.out, Lib.hid (take_step hxl.out hno.out (noPM_of Hpm.out))⟩
      · have hhi := decode_high s i hi (by rw [hx]; omega)
        have hle := decode_le s i
        have hsk : Hid (∀ y ∈ s.data.toList.take (i + (Utf8.decode s i).2), noPM y) := Lib.hid (skip_take hno.out (decode_skip s i hi (by rw [hx]; omega)))
        have hnx := fun ty => Lib.run_next_any_at (P := Tryd.prog) wr w.heap.size s i ty hk hi
        have hk2 := Lib.iterAt_heap wr w.heap.size s i (i + (Utf8.decode s i).2) hk
        have hb2 : Below w.heap.size w (wr.iterAt w.heap.size s (i + (Utf8.decode s i).2)) := hb.trans (below_iterAt wr w.heap.size s _)
        obtain ⟨w2, hw2⟩ : ∃ w2, w2 = wr.iterAt w.heap.size s (i + (Utf8.decode s i).2) := ⟨_, rfl⟩
        rw [← hw2] at hnx hk2 hb2
        obtain ⟨R, hR⟩ : ∃ R, R = (Utf8.decode s i).1 := ⟨_, rfl⟩
        obtain ⟨W, hW⟩ : ∃ W, W = (Utf8.decode s i).2 := ⟨_, rfl⟩
        rw [← hR] at hnx hhi hle
        rw [← hW] at hk2 hhi hsk
        have hlt2 : w.heap.size < w2.heap.size := (Array.getElem?_eq_some_iff.1 hk2).1
        obtain ⟨xi, hxi⟩ : ∃ xi : Int, xi = (R : Int) := ⟨_, rfl⟩
        rw [← hxi] at hnx
        have HC := Lib.hid (idxRune_high xi w2 (by omega) (by omega))
        have Hb := Lib.hid hb2
        have Hk := Lib.hid hk2
        have hW1 : 1 ≤ W := hhi.2
        clear hk hx hw2 hb2 hk2 hb hR hW hhi hle hxi h128
        go_wp2_with fail
        refine HC.out.mono ?_
        rintro e w' ⟨rfl, hb3⟩
        have Hb3 := Lib.hid hb3
        clear hb3
        go_wp2
        go_roundg g
        case measure => omega
        case rel => exact ⟨i + W, by omega, Hb.out.trans (Hb3.out.mono Hb.out.size), (Hb3.out.block _ hlt2).trans Hk.out, hsk⟩
    · have hnx := fun ty => Lib.run_next_end_at (P := Tryd.prog) wr w.heap.size s i ty hk hi
      have Hb := Lib.hid hb
      clear hk hb
      go_wp2
      go_ret
      exact idx_none (by have := hno.out; rw [List.take_of_length_le (by rw [← Lib.size_eq]; omega)] at this; exact this) Hb.out

theorem asciiZero : ∀ w, (zeroValue 75).run Tryd.prog w = .ok (.agg (Array.replicate 256 (.bool false))) w := fun w => by kernel_rfl
theorem asciiInfo : (Tryd.prog.info? 75).map (·.size) = some 256 := by kernel_rfl
instance decPM (x : UInt8) : Decidable (isPM x) := inferInstanceAs (Decidable (_ = _))
theorem pmContains (x : UInt8) : ([34, 44, 13, 10] : List UInt8).contains x = decide (isPM x) := by
  rw [Bool.eq_iff_iff, decide_eq_true_eq]
  unfold isPM spc
  simp [or_assoc]

set_option maxHeartbeats 4000000 in
set_option maxRecDepth 1000000 in
theorem idxAny_long (s : ByteArray) (w : World) (h8 : 8 < s.size) (hmax : s.size ≤ 140737488355328) : Calls Tryd.prog 35 #[.string s, .string ⟨#[34, 44, 13, 10]⟩] w (Idx s.data.toList s.size w) := by
  have hM := Tryd.strings_makeASCIISet asciiZero ⟨#[34, 44, 13, 10]⟩ w (by decide) (by
    intro j b hb
    have hm := List.mem_of_getElem? hb
    have : b = 34 ∨ b = 44 ∨ b = 13 ∨ b = 10 := by simpa using hm
    rcases this with rfl | rfl | rfl | rfl <;> decide)
  rw [show (⟨#[34, 44, 13, 10]⟩ : ByteArray).data.toList = [34, 44, 13, 10] from rfl] at hM
  have h8z : decide ((8 : Int) < (s.size : Int)) = true := decide_eq_true (by omega)
  have hsc : (storeCells ⟨w.heap.size + 1, 0, none⟩ (Lib.setCells [34, 44, 13, 10]).toList 0).run Tryd.prog ((w.alloc (.cells (Lib.setCells [34, 44, 13, 10]) 75)).alloc (.cells (Array.replicate 256 (.bool false)) 75)) = .ok () ((w.alloc (.cells (Lib.setCells [34, 44, 13, 10]) 75)).alloc (.cells (Lib.setCells [34, 44, 13, 10]) 75)) := by
    have := run_storeCells_new (P := Tryd.prog) (w.alloc (.cells (Lib.setCells [34, 44, 13, 10]) 75)) 75 (Array.replicate 256 (.bool false)) (Lib.setCells [34, 44, 13, 10]) (by rw [Lib.setCells_size]; exact asciiInfo) (by rw [Lib.setCells_size, Array.size_replicate]) (Lib.setCells_one _)
    simpa using this
  have hsz := Lib.setCells_size [34, 44, 13, 10]
  have HC : Hid (∀ x : UInt8, ((w.alloc (.cells (Lib.setCells [34, 44, 13, 10]) 75)).alloc (.cells (Lib.setCells [34, 44, 13, 10]) 75)).cell? ⟨w.heap.size + 1, x.toNat, none⟩ = some (.bool (decide (isPM x)))) := Lib.hid fun x => by
    rw [World.cell?_alloc_at _ _ _ _ (by simp), Lib.setCells_at, pmContains]
  have hz := asciiZero
  generalize Lib.setCells [34, 44, 13, 10] = SC at *
  go_enter Tryd.func35, Tryd.ntmps35
  go_wp2_with (first
    | (go_at_call 42; refine (Tryd.strings_shouldUseASCIISet _ _).mono ?_; rintro e w' ⟨rfl, hw⟩; rw [hw, h8z])
    | (go_at_call 43; refine hM.mono ?_; rintro e w' ⟨rfl, hw⟩; rw [hw]))
  clear hM hsc hz
  go_loopg [8] s.size (fun g s8 wx => ∃ i : Nat, i + g = s.size ∧ s8 = .int .i64 i ∧ wx = ((w.alloc (.cells SC 75)).alloc (.cells SC 75)) ∧ Hid (∀ y ∈ s.data.toList.take i, noPM y))
  case atStart => exact ⟨0, by omega, rfl, rfl, Lib.hid (by simp)⟩
  case round =>
    obtain ⟨i, hig, rfl, rfl, hno⟩ := hrel
    have hb : Hid (Below w.heap.size w ((w.alloc (.cells SC 75)).alloc (.cells SC 75))) := Lib.hid (((Below.refl _ _).alloc (Nat.le_refl _) _).alloc (by simp) _)
    cases gk with
    | zero =>
      obtain rfl : i = s.size := by omega
      have hiz : ¬ ((s.size : Int) < (s.size : Int)) := by omega
      go_wp2
      go_ret
      exact idx_none (by have := hno.out; rw [List.take_of_length_le (by rw [← Lib.size_eq]; omega)] at this; exact this) hb.out
    | succ g =>
      have hi : i < s.size := by omega
      have hiz : (i : Int) < (s.size : Int) := by omega
      obtain ⟨x, hx⟩ : ∃ x : UInt8, s[i]'hi = x := ⟨_, rfl⟩
      have Hx : Hid (s.data.toList[i]? = some x) := Lib.hid (by rw [← hx]; exact byte_at s i hi)
      have hcx := HC.out x
      by_cases hin : isPM x
      · rw [decide_eq_true hin] at hcx
        have Hin := Lib.hid hin
        clear hin
        go_wp2_with (go_at_call 44; refine (Tryd.asciiSet_contains _ x _ _ hcx).mono ?_; rintro e w' ⟨rfl, hw⟩; rw [hw])
        go_ret
        exact idx_hit hi Hx.out Hin.out hno.out hb.out
      · rw [decide_eq_false hin] at hcx
        have Hin := Lib.hid hin
        clear hin
        go_wp2_with (go_at_call 44; refine (Tryd.asciiSet_contains _ x _ _ hcx).mono ?_; rintro e w' ⟨rfl, hw⟩; rw [hw])
        go_roundg g
        case measure => omega
        case rel => exact ⟨i + 1, by omega, by first | rfl | simp, rfl, Lib.hid (take_step Hx.out hno.out (noPM_of Hin.out))⟩

theorem IndexAny_any (s : ByteArray) (w : World) (hmax : s.size ≤ 140737488355328) : Calls Tryd.prog 35 #[.string s, .string ⟨#[34, 44, 13, 10]⟩] w (Idx s.data.toList s.size w) := by
  by_cases h : s.size ≤ 8
  · exact idxAny_short s w h
  · exact idxAny_long s w (by omega) hmax

theorem ContainsAny_any (s : ByteArray) (w : World) (hmax : s.size ≤ 140737488355328) : Calls Tryd.prog 29 #[.string s, .string ⟨#[34, 44, 13, 10]⟩] w fun e w' => e = .returned (.bool ((lS s).any spc)) ∧ Below w.heap.size w w' := by
  have HI := Lib.hid (IndexAny_any s w hmax)
  go_enter Tryd.func29, Tryd.ntmps29
  go_wp2_with fail
  refine HI.out.mono ?_
  rintro e w' ⟨rfl, hb⟩
  go_wp2
  go_ret
  refine ⟨?_, hb⟩
  congr 2
  unfold fpm lS
  by_cases h : s.data.toList.any spc = true
  · rw [if_pos h, h]
    simp
  · rw [if_neg h]
    simpa using h
end Go.Proofs.YtmdljfpkbfhbdaaDoor

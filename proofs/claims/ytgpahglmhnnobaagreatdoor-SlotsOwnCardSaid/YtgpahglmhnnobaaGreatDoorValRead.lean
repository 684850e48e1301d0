/- The program's reading of one element. -/
import Derived.Test.YtgpahglmhnnobaaGreatDoorValDec2
import Derived.Test.YtgpahglmhnnobaaGreatDoorRNum
import Derived.Test.YtgpahglmhnnobaaGreatDoorRRaw
import Derived.Deep.RegionHeld3
import Derived.Deep.RegionWith
import Derived.Deep.Cut
import Derived.Deep.RegionLaw
import Derived.BigRegion
import Derived.IntWalk
namespace Go.Proofs.YtgpahglmhnnobaaGreatDoor
open Go.RowKit
set_option linter.unusedVariables false

/-- what a read of an element leaves -/
def ScPost (base g q : Nat) (bs : List Nat) (k : Int) (val : Sc → Value) (w : World) (e : Ending) (w' : World) : Prop :=
  ∃ y, e = .returned (.tuple #[val y, .int .i64 (scalar k bs).e]) ∧ ((scalar k bs).e = 0 → y = scalar k bs ∧ Rd w' base g q (bs.drop (scalar k bs).c) 0) ∧ Only (fun k => k = g) w w'
def vNum (y : Sc) : Value := .int .i64 y.x
def vTxt (y : Sc) : Value := .string y.t

theorem getVal_zero {bs : List Nat} {d : Nat} (hd : isW (d : Int) = true) (hl : d ≤ bs.length) : placeErr bs.length 0 (d : Int) = 0 ∧ getVal bs 0 (d : Int) = be (bs.take d) := by
  have h0 : placeErr bs.length 0 (d : Int) = 0 := placeErr_ok (by rw [hd]; simp) (by omega)
  refine ⟨h0, ?_⟩
  rw [getVal_ok h0]
  simp
theorem getVal_short {bs : List Nat} {d : Nat} (hd : isW (d : Int) = true) (hl : bs.length < d) : placeErr bs.length 0 (d : Int) = 10 ∧ getVal bs 0 (d : Int) = 0 := by
  have h0 : placeErr bs.length 0 (d : Int) = 10 := placeErr_short (by rw [hd]; simp) (by omega)
  exact ⟨h0, getVal_err (by rw [h0]; decide)⟩
theorem run_bytes_str_n {P : Program} (w : World) {B : Nat} {A : Option Addr} {bs : List Nat} (src dst e : TypeId) (c n : Nat) (hn : bs.length = n) (hs : P.underlying src = some (.slice e)) (he : P.underlying e = some (.int .u8)) (hd : P.underlying dst = some .string)
    (h : RB w B A bs) : (convert src dst (.slice A n c)).run P w = .ok (.string (strOf bs)) w := by
  subst hn
  exact run_bytes_str w src dst e c hs he hd h
/-- a number that is there, or not -/
theorem RNum_there (base g q d : Nat) (bs : List Nat) (w : World) (h : Rd w base g q bs 0) (hd : isW (d : Int) = true) (hl : d ≤ bs.length) :
    Calls Tryz.prog 52 #[.pointer (some ⟨g, 0, none⟩), .int .i64 (d : Int)] w fun e w' => e = .returned (.int .u64 (be (bs.take d) : Nat)) ∧ Rd w' base g q (bs.drop d) 0 ∧ Only (fun k => k = g) w w' := by
  obtain ⟨h0, h1⟩ := getVal_zero hd hl
  have := RNum_any base g q bs 0 d w h
  rw [h1, h0] at this
  refine this.mono ?_
  rintro e w' ⟨he, hr, ho⟩
  rw [restOf_ok rfl, errBy_ok rfl, Int.toNat_natCast] at hr
  exact ⟨he, hr, ho⟩
theorem RNum_not (base g q d : Nat) (bs : List Nat) (w : World) (h : Rd w base g q bs 0) (hd : isW (d : Int) = true) (hl : bs.length < d) :
    Calls Tryz.prog 52 #[.pointer (some ⟨g, 0, none⟩), .int .i64 (d : Int)] w fun e w' => e = .returned (.int .u64 0) ∧ Rd w' base g q [] 10 ∧ Only (fun k => k = g) w w' := by
  obtain ⟨h0, h1⟩ := getVal_short hd hl
  have := RNum_any base g q bs 0 d w h
  rw [h1, h0] at this
  refine this.mono ?_
  rintro e w' ⟨he, hr, ho⟩
  rw [restOf_no (by decide), errBy_no (by decide)] at hr
  exact ⟨he, hr, ho⟩
theorem Rd.bytes {w : World} {base g q : Nat} {bs : List Nat} {err : Int} (h : Rd w base g q bs err) : IsBytes bs := by
  obtain ⟨A, c, _, h, _⟩ := h
  exact h.1

set_option maxRecDepth 100000 in
set_option maxHeartbeats 1000000 in
theorem readNumber_any (base g q : Nat) (bs : List Nat) (k : Int) (w : World) (h : Rd w base g q bs 0) (hk : k ≠ 4) :
    Calls Tryz.prog 110 #[.pointer (some ⟨g, 0, none⟩), .int .i64 k] w (ScPost base g q bs k vNum w) := by
  obtain ⟨d, hd⟩ : ∃ d : Nat, nwid k = d := ⟨(nwid k).toNat, by rcases nwid_cases k with h | h <;> rw [h] <;> rfl⟩
  have hdt : (nwid k).toNat = d := by rw [hd]; rfl
  have hdw : isW (d : Int) = true := by rw [← hd]; exact (nwid_is k).1
  have hd8 : d ≤ 8 := by rw [← hdt]; exact (nwid_is k).2
  have HW := Lib.hid (numberWidth_any k w)
  rw [hd] at HW
  by_cases hl : bs.length < d
  · have hs : scalar k bs = ⟨0, .empty, 0, 10⟩ := scalar_n1 hk (by omega)
    unfold ScPost
    rw [hs]
    have HN := Lib.hid (RNum_not base g q d bs w h hdw hl)
    clear h hs hl hd hdt hdw
    go_enter Tryz.func110, Tryz.ntmps110
    go_wp2_with (first | (go_at_call 65; refine (HW.out).mono ?_; rintro e w' ⟨rfl, rfl⟩) | (go_at_call 52; refine (HN.out).mono ?_; rintro e w1 ⟨rfl, R1, ho1⟩) | (go_at_call 108; refine (Err_any base g q [] 10 _ R1).mono ?_; rintro e w' ⟨rfl, rfl⟩))
    go_ret2
    exact ⟨⟨0, .empty, 0, 10⟩, rfl, fun h => absurd h (by decide), ho1⟩
  · have hb := h.bytes
    have hn := be_lt8 (hb.take d) (by rw [List.length_take]; omega)
    have hs : scalar k bs = scNum k (be (bs.take d)) d := by rw [← hdt]; exact scalar_n2 hk (by omega)
    unfold ScPost
    rw [hs]
    have HN := Lib.hid (RNum_there base g q d bs w h hdw (by omega))
    obtain ⟨n, hn'⟩ : ∃ n, n = be (bs.take d) := ⟨_, rfl⟩
    rw [← hn'] at HN hn ⊢
    have hw := wrap_toI hn
    have hr := toI_range hn
    have H0 := Lib.hid (@scNum_ok k n d)
    have H1 := Lib.hid (@scNum_no k n d)
    obtain ⟨x, hx⟩ : ∃ x, x = toI n := ⟨_, rfl⟩
    rw [← hx] at hw hr H0 H1
    have HC := Lib.hid fun w => checkNumber_any k x w hr.1 hr.2
    obtain ⟨z, hz⟩ : ∃ z, z = numW k x := ⟨_, rfl⟩
    rw [← hz] at HC H0 H1
    clear h hs hl hd hdt hdw hx hz hb hn'
    go_enter Tryz.func110, Tryz.ntmps110
    go_wp2_with (first | (go_at_call 65; refine (HW.out).mono ?_; rintro e w' ⟨rfl, rfl⟩) | (go_at_call 52; refine (HN.out).mono ?_; rintro e w1 ⟨rfl, R1, ho1⟩) | (go_at_call 108; refine (Err_any base g q _ 0 _ R1).mono ?_; rintro e w' ⟨rfl, rfl⟩) | (go_at_call 103; refine (HC.out _).mono ?_; rintro e w' ⟨rfl, rfl⟩))
    go_ret2
    by_cases h0 : z = 0
    · rw [H0.out h0, h0]
      exact ⟨⟨x, .empty, d, 0⟩, rfl, fun _ => ⟨rfl, R1⟩, ho1⟩
    · rw [H1.out h0]
      exact ⟨⟨x, .empty, d, 0⟩, rfl, fun h => absurd h h0, ho1⟩

theorem RRaw_there (base g q n : Nat) (bs : List Nat) (err : Int) (w : World) (h : Rd w base g q bs err) (hl8 : bs.length ≤ 140737488355328) (hl : n ≤ bs.length) :
    Calls Tryz.prog 54 #[.pointer (some ⟨g, 0, none⟩), .int .i64 (n : Int)] w fun e w' => ∃ v, e = .returned v ∧ OB w' w.heap.size 5 v (bs.take n) ∧ Rd w' base g q (bs.drop n) err ∧ Only (fun k => k = g) w w' := by
  have h0 : rawErr bs.length (n : Int) = 0 := rawErr_ok (by omega) (by omega)
  refine (RRaw_any base g q bs err n w h hl8).mono ?_
  rintro e w' ⟨v, rfl, hv, hr, ho⟩
  rw [rawVal_ok h0, Int.toNat_natCast] at hv
  rw [restOf_ok h0, errBy_ok h0, Int.toNat_natCast] at hr
  exact ⟨v, rfl, hv, hr, ho⟩
theorem RRaw_not (base g q n : Nat) (bs : List Nat) (w : World) (h : Rd w base g q bs 0) (hl8 : bs.length ≤ 140737488355328) (hl : bs.length < n) :
    Calls Tryz.prog 54 #[.pointer (some ⟨g, 0, none⟩), .int .i64 (n : Int)] w fun e w' => ∃ v, e = .returned v ∧ OB w' w.heap.size 5 v [] ∧ Rd w' base g q [] 10 ∧ Only (fun k => k = g) w w' := by
  have h0 : rawErr bs.length (n : Int) = 10 := rawErr_short (by omega) (by omega)
  refine (RRaw_any base g q bs 0 n w h hl8).mono ?_
  rintro e w' ⟨v, rfl, hv, hr, ho⟩
  rw [rawVal_no (by rw [h0]; decide)] at hv
  rw [h0, restOf_no (by decide), errBy_no (by decide)] at hr
  exact ⟨v, rfl, hv, hr, ho⟩

set_option maxRecDepth 100000 in
set_option maxHeartbeats 1000000 in
theorem readText_any (base g q : Nat) (bs : List Nat) (w : World) (h : Rd w base g q bs 0) (hl8 : bs.length ≤ 140737488355328) :
    Calls Tryz.prog 109 #[.pointer (some ⟨g, 0, none⟩)] w (ScPost base g q bs 4 vTxt w) := by
  unfold ScPost
  by_cases h2 : bs.length < 2
  · rw [scalar_t1 h2]
    have HN := Lib.hid (RNum_not base g q 2 bs w h (by decide) h2)
    have HL := Lib.hid fun w => checkLength_any 0 w
    clear h h2
    go_enter Tryz.func109, Tryz.ntmps109
    go_wp2_with (first | (go_at_call 52; refine (HN.out).mono ?_; rintro e w1 ⟨rfl, R1, ho1⟩) | (go_at_call 104; refine (HL.out _).mono ?_; rintro e w' ⟨rfl, rfl⟩))
    have HR := Lib.hid (RRaw_there base g q 0 [] 10 (w1.drewN 1) (R1.drewN 1) (by simp) (by simp))
    go_region_with (first
        | (go_at_call 54; refine (HR.out).mono ?_; rintro e w2 ⟨v2, rfl, ho2, R2, hc2⟩; obtain ⟨A2, c2, rfl, -, -, hr2, -⟩ := ho2.form; have hcv := run_bytes_str_n (P := Tryz.prog) w2 25 9 5 c2 0 rfl Tryz.underlying25 Tryz.underlying5 Tryz.underlying9 hr2)
        | (go_at_call 108; refine (Err_any base g q _ 10 _ R2).mono ?_; rintro e w' ⟨rfl, rfl⟩))
    all_goals
      go_wp2
      go_ret2
      exact ⟨⟨0, strOf [], 0, 10⟩, rfl, fun h => absurd h (by decide), ho1.trans (Only.trans (below_of_drewN w1 1 |>.mono (Nat.le_refl _) |> fun h => Only.of_below h (fun k => k = g)) hc2 (fun _ _ h => h)) (fun _ _ h => h)⟩
  · have hb := h.bytes
    have hnl : be (bs.take 2) < 65536 := by
      have := be_all (bs.take 2) (hb.take 2)
      rw [show (bs.take 2).length = 2 by rw [List.length_take]; omega] at this
      have h3 : (256 : Nat) ^ 2 = 65536 := rfl
      omega
    have HN := Lib.hid (RNum_there base g q 2 bs w h (by decide) (by omega))
    have HS2 : Hid (1000 < be (bs.take 2) → scalar 4 bs = ⟨0, .empty, 0, 44⟩) := Lib.hid (scalar_t2 h2)
    have HS3 : Hid (¬ 1000 < be (bs.take 2) → bs.length < 2 + be (bs.take 2) → scalar 4 bs = ⟨0, .empty, 0, 10⟩) := Lib.hid (scalar_t3 h2)
    have HS4 : Hid (¬ 1000 < be (bs.take 2) → ¬ bs.length < 2 + be (bs.take 2) → scalar 4 bs = ⟨0, strOf ((bs.drop 2).take (be (bs.take 2))), 2 + be (bs.take 2), 0⟩) := Lib.hid (scalar_t4 h2)
    have hdl : (bs.drop 2).length = bs.length - 2 := List.length_drop
    have hdd : ∀ n, bs.drop (2 + n) = (bs.drop 2).drop n := fun n => by rw [List.drop_drop]
    have HDD := Lib.hid hdd
    obtain ⟨n, hn'⟩ : ∃ n, n = be (bs.take 2) := ⟨_, rfl⟩
    rw [← hn'] at HN hnl HS2 HS3 HS4
    obtain ⟨r, hr'⟩ : ∃ r, r = bs.drop 2 := ⟨_, rfl⟩
    rw [← hr'] at HN HS4 hdl
    have HRR := Lib.hid hr'
    have hw : IntKind.i64.wrap (n : Int) = (n : Int) := by rw [IntKind.wrap_i64]; omega
    have HL := Lib.hid fun w => checkLength_any (n : Int) w
    clear h hn' hr' hb hdd
    by_cases h1 : 1000 < n
    · rw [HS2.out h1]
      rw [if_pos (by omega)] at HL
      clear h2 hdl
      go_enter Tryz.func109, Tryz.ntmps109
      go_wp2_with (first | (go_at_call 52; refine (HN.out).mono ?_; rintro e w1 ⟨rfl, R1, ho1⟩) | (go_at_call 104; refine (HL.out _).mono ?_; rintro e w' ⟨rfl, rfl⟩))
      go_ret2
      exact ⟨⟨0, strOf [], 0, 10⟩, rfl, fun h => absurd h (by decide), ho1⟩
    rw [if_neg (by omega)] at HL
    by_cases h3 : bs.length < 2 + n
    · rw [HS3.out h1 h3]
      go_enter Tryz.func109, Tryz.ntmps109
      go_wp2_with (first | (go_at_call 52; refine (HN.out).mono ?_; rintro e w1 ⟨rfl, R1, ho1⟩) | (go_at_call 104; refine (HL.out _).mono ?_; rintro e w' ⟨rfl, rfl⟩))
      have HR := Lib.hid (RRaw_not base g q n r (w1.drewN 1) (R1.drewN 1) (by omega) (by omega))
      go_region_with (first
          | (go_at_call 54; refine (HR.out).mono ?_; rintro e w2 ⟨v2, rfl, ho2, R2, hc2⟩; obtain ⟨A2, c2, rfl, -, -, hr2, -⟩ := ho2.form; have hcv := run_bytes_str_n (P := Tryz.prog) w2 25 9 5 c2 0 rfl Tryz.underlying25 Tryz.underlying5 Tryz.underlying9 hr2)
          | (go_at_call 108; refine (Err_any base g q _ 10 _ R2).mono ?_; rintro e w' ⟨rfl, rfl⟩))
      all_goals
        go_wp2
        go_ret2
        exact ⟨⟨0, strOf [], 0, 10⟩, rfl, fun h => absurd h (by decide), ho1.trans (Only.trans (below_of_drewN w1 1 |>.mono (Nat.le_refl _) |> fun h => Only.of_below h (fun k => k = g)) hc2 (fun _ _ h => h)) (fun _ _ h => h)⟩
    · rw [HS4.out h1 h3]
      have hXl : (r.take n).length = n := by rw [List.length_take]; omega
      obtain ⟨X, hX⟩ : ∃ X, X = r.take n := ⟨_, rfl⟩
      rw [← hX] at hXl ⊢
      have HX := Lib.hid hX
      have HXl := Lib.hid hXl
      clear hX hXl
      go_enter Tryz.func109, Tryz.ntmps109
      go_wp2_with (first | (go_at_call 52; refine (HN.out).mono ?_; rintro e w1 ⟨rfl, R1, ho1⟩) | (go_at_call 104; refine (HL.out _).mono ?_; rintro e w' ⟨rfl, rfl⟩))
      have HR := Lib.hid (RRaw_there base g q n r 0 (w1.drewN 1) (R1.drewN 1) (by omega) (by omega))
      rw [← HX.out] at HR
      go_region_with (first
          | (go_at_call 54; refine (HR.out).mono ?_; rintro e w2 ⟨v2, rfl, ho2, R2, hc2⟩; obtain ⟨A2, c2, rfl, -, -, hr2, -⟩ := ho2.form; have hcv := run_bytes_str (P := Tryz.prog) w2 25 9 5 c2 Tryz.underlying25 Tryz.underlying5 Tryz.underlying9 hr2)
          | (go_at_call 108; refine (Err_any base g q _ 0 _ R2).mono ?_; rintro e w' ⟨rfl, rfl⟩))
      all_goals
        go_wp2
        go_ret2
        exact ⟨⟨0, strOf X, 2 + n, 0⟩, rfl, fun _ => ⟨rfl, by rw [HDD.out, ← HRR.out]; exact R2⟩, ho1.trans (Only.trans (below_of_drewN w1 1 |>.mono (Nat.le_refl _) |> fun h => Only.of_below h (fun k => k = g)) hc2 (fun _ _ h => h)) (fun _ _ h => h)⟩

end Go.Proofs.YtgpahglmhnnobaaGreatDoor

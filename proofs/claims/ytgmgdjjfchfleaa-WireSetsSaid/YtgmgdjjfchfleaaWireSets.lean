/- For every slice of bytes, offset, width and number: Set answers just what the document's own Set does, leaves its argument alone, and Get reads the number there again. No condition. -/
import Derived.Test.YtgmgdjjfchfleaaRows
import Derived.Test.YtgmgdjjfchfleaaOpen
import Derived.Test.YtgmgdjjfchfleaaRefSet
import Derived.Test.YtgmgdjjfchfleaaOpenStruct
import Derived.Deep.RegionHeld3
namespace Go.Proofs.Ytgmgdjjfchfleaa.wireSets
open Go.ChangeShapes Go.WideShapes Go.ChangeAt Go.RowKit
open Go.ChangeMaps (open_string shut_string)
set_option linter.unusedVariables false

theorem enc_mod (d m n k : Nat) (h : d ≤ k) (hm : m = n % 256 ^ k) : enc d m = enc d n := by
  induction d with
  | zero => rfl
  | succ d ih =>
    have e : m / 256 ^ d % 256 = n / 256 ^ d % 256 := by
      subst hm
      obtain ⟨j, rfl⟩ : ∃ j, k = d + 1 + j := ⟨k - (d + 1), by omega⟩
      rw [Nat.add_assoc, Nat.pow_add, Nat.mod_mul_right_div_self, Nat.pow_add, Nat.pow_one, Nat.mod_mul_right_mod]
    simp only [enc, e, ih (by omega)]
theorem setVal_length {bs : List Nat} {at_ width : Int} {n : Nat} (h : placeErr bs.length at_ width = 0) : (setVal bs at_ width n).length = bs.length := by
  obtain ⟨h1, h2, h3⟩ := placeErr_zero h
  rw [setVal_ok h]
  simp only [List.length_append, List.length_take, List.length_drop, enc_length]
  omega
theorem set_get {bs : List Nat} {at_ width : Int} {n : Nat} (h : placeErr bs.length at_ width = 0) : getVal (setVal bs at_ width n) at_ width = n % 256 ^ width.toNat := by
  obtain ⟨h1, h2, h3⟩ := placeErr_zero h
  rw [getVal_ok (by rw [setVal_length h]; exact h), setVal_ok h, ← be_enc]
  congr 1
  have e1 : (bs.take at_.toNat).length = at_.toNat := by simp; omega
  have e2 : (bs.take at_.toNat ++ enc width.toNat n).length = at_.toNat + width.toNat := by rw [List.length_append, e1, enc_length]
  rw [List.take_append_of_le_length (by rw [e2]; exact Nat.le_refl _), List.take_of_length_le (by rw [e2]; exact Nat.le_refl _)]
  rw [List.drop_append_of_le_length (by rw [e1]; exact Nat.le_refl _), List.drop_of_length_le (by rw [e1]; exact Nat.le_refl _), List.nil_append]

/-- the cells of the law's own copy of its argument -/
def Arg (w : World) (g : Nat) (A : Option Addr) (n c : Nat) (at_ width : Int) (num : Int) : Prop :=
  w.cell? ⟨g, 0, none⟩ = some (.slice A n c) ∧ w.cell? ⟨g, 1, none⟩ = some (.int .i64 at_) ∧ w.cell? ⟨g, 2, none⟩ = some (.int .i64 width) ∧ w.cell? ⟨g, 3, none⟩ = some (.int .u64 num)
theorem Arg.keep {w w' : World} {g : Nat} {A : Option Addr} {n c : Nat} {at_ width num : Int} (h : Arg w g A n c at_ width num) (hg : g < w.heap.size) (hb : Below w.heap.size w w') : Arg w' g A n c at_ width num :=
  ⟨(hb.cell (p := ⟨g, 0, none⟩) hg).trans h.1, (hb.cell (p := ⟨g, 1, none⟩) hg).trans h.2.1, (hb.cell (p := ⟨g, 2, none⟩) hg).trans h.2.2.1, (hb.cell (p := ⟨g, 3, none⟩) hg).trans h.2.2.2⟩

theorem numw (width : Int) (n : Nat) (w : World) (hW : isW width = true) (hn : n < 18446744073709551616) : Calls Try.prog 16 #[.int .i64 width, .int .u64 n] w (NewB (enc width.toNat n) w) := by
  have := refNum_any width n w hn
  rwa [if_pos hW] at this

set_option maxRecDepth 100000 in
set_option maxHeartbeats 1000000 in
theorem walk (w : World) {A : Option Addr} {c : Nat} {bs : List Nat} {at_ width n0 : Int} (hx : (RB w w.heap.size A bs ∧ bs.length ≤ c ∧ c ≤ 140737488351232) ∧
      (-9223372036854775808 ≤ at_ ∧ at_ ≤ 9223372036854775807) ∧ (-9223372036854775808 ≤ width ∧ width ≤ 9223372036854775807) ∧ (0 ≤ n0 ∧ n0 ≤ 18446744073709551615)) :
    Calls Try.prog 4 #[.agg #[.slice A bs.length c, .int .i64 at_, .int .i64 width, .int .u64 n0]] w fun e w' => e = .returned (.bool true) ∧ Below w.heap.size w w' := by
  obtain ⟨⟨r, hc, hm⟩, ha, hw, hn0, hn1⟩ := hx
  obtain ⟨n, rfl⟩ := Int.eq_ofNat_of_zero_le hn0
  have hn : n < 18446744073709551616 := by omega
  have hcm : c ≤ maxLen := by unfold maxLen; omega
  obtain ⟨w0, hw0⟩ : ∃ w0, w0 = w.alloc (.cells #[.slice A bs.length c, .int .i64 at_, .int .i64 width, .int .u64 n] 33) := ⟨_, rfl⟩
  have hb0 : Below w.heap.size w w0 := by rw [hw0]; exact (Below.refl _ _).alloc (Nat.le_refl _) _
  have ar0 : Arg w0 w.heap.size A bs.length c at_ width n := by
    rw [hw0]
    have h := Blk.new w 33 #[.slice A bs.length c, .int .i64 at_, .int .i64 width, .int .u64 n]
    exact ⟨by rw [h.cell 0]; rfl, by rw [h.cell 1]; rfl, by rw [h.cell 2]; rfl, by rw [h.cell 3]; rfl⟩
  have hg0 : w.heap.size < w0.heap.size := by rw [hw0]; simp
  go_enter Try.func4, Try.ntmps4
  go_wp2_with fail
  rw [← hw0]
  have HW0 := Lib.hid hw0
  clear hw0
  refine (speaks_any w0).mono ?_
  rintro e w1 ⟨rfl, hb1⟩
  have ar1 := ar0.keep hg0 hb1
  have hB1 := hb0.trans (hb1.mono hb0.size)
  have hg1 : w.heap.size < w1.heap.size := by have := hb1.size; omega
  clear ar0 hb0 hb1 hg0
  -- in
  obtain ⟨q0, q1, q2, q3⟩ := ar1
  go_wp2_with fail
  refine (Copy_any A c w.heap.size bs w1 (r.below hB1) hB1.size (by omega)).mono ?_
  rintro e w2 ⟨u, rfl, hu, hb2⟩
  have ar2 := Arg.keep ⟨q0, q1, q2, q3⟩ hg1 hb2
  have hB2 := hB1.trans (hb2.mono hB1.size)
  have hg2 : w.heap.size < w2.heap.size := by have := hb2.size; omega
  obtain ⟨Ai, ci, rfl, hci, hcim, -, -⟩ := hu.form
  clear q0 q1 q2 q3 hb2 hB1
  -- out
  obtain ⟨q0, q1, q2, q3⟩ := ar2
  go_wp2_with fail
  refine (Set_any Ai ci _ bs at_ width n w2 hu.reads.2.1 (Nat.le_refl _) (by omega) hci hcim ha.1 ha.2 hn).mono ?_
  rintro e w3 ⟨vo, rfl, ho, hb3⟩
  have ar3 := Arg.keep ⟨q0, q1, q2, q3⟩ hg2 hb3
  have hB3 := hB2.trans (hb3.mono hB2.size)
  have hu3 := hu.below' hb3
  have hg3 : w.heap.size < w3.heap.size := by have := hb3.size; omega
  obtain ⟨L, hL⟩ : ∃ L, L = setVal bs at_ width n := ⟨_, rfl⟩
  obtain ⟨p, hp⟩ : ∃ p, p = placeErr bs.length at_ width := ⟨_, rfl⟩
  rw [← hL] at ho
  rw [← hp]
  obtain ⟨Ao, co, rfl, hco, hcom, -, -⟩ := ho.form
  clear q0 q1 q2 q3 hb3 hB2 hu
  -- want
  obtain ⟨q0, q1, q2, q3⟩ := ar3
  have hset := refSet_any A c w.heap.size bs at_ width n w3 (r.below hB3) hB3.size (by omega) hc hcm ha.1 ha.2 hn
  have HL := Lib.hid hL
  have Hp := Lib.hid hp
  clear hL hp
  have Hset := Lib.hid hset
  clear hset
  go_wp2_with fail
  refine (Hset.out).mono ?_
  rintro e w4 ⟨vw, rfl, hwv, hb4⟩
  have ar4 := Arg.keep ⟨q0, q1, q2, q3⟩ hg3 hb4
  have hB4 := hB3.trans (hb4.mono hB3.size)
  have hu4 := hu3.below' hb4
  have ho4 := ho.below' hb4
  have hg4 : w.heap.size < w4.heap.size := by have := hb4.size; omega
  rw [← HL.out] at hwv
  rw [← Hp.out]
  obtain ⟨Aw, cw, rfl, -, -, -, -⟩ := hwv.form
  clear q0 q1 q2 q3 hb4 hB3 hu3 ho Hset
  have hLm : Hid (L.length ≤ maxLen) := Lib.hid (by
    rcases Decidable.em (placeErr bs.length at_ width = 0) with h | h
    · rw [HL.out, setVal_length h]; unfold maxLen; omega
    · rw [HL.out, setVal_err h]; exact Nat.zero_le _)
  have hbm : Hid (bs.length ≤ maxLen) := Lib.hid (by unfold maxLen; omega)
  have e0 : (p != p) = false := by simp
  obtain ⟨q0, q1, q2, q3⟩ := ar4
  go_wp2_with fail
  refine (same_yes Ao Aw L.length co cw _ _ L _ ho4.reads.2.1 hwv.reads.2.1 rfl hLm.out).mono ?_
  rintro e w5 ⟨rfl, n1, rfl⟩
  go_wp2_with fail
  refine (same_yes Ai A bs.length ci c _ _ bs _ (hu4.drewN n1).reads.2.1 ((r.below hB4).drewN n1) rfl hbm.out).mono ?_
  rintro e w5 ⟨rfl, n2, hw5⟩
  obtain ⟨ar5, ho5, hB5, hg5⟩ : Arg w5 w.heap.size A bs.length c at_ width n ∧ OB w5 w2.heap.size 5 (.slice Ao L.length co) L ∧ Below w.heap.size w w5 ∧ w.heap.size < w5.heap.size := by
    subst hw5
    exact ⟨⟨q0, q1, q2, q3⟩, ho4, below_drewN (below_drewN hB4 n1) n2, hg4⟩
  clear hw5 q0 q1 q2 q3 hB4 hu4 ho4 hwv e0
  by_cases h0 : p = 0
  · have e1 : (p != 0) = false := by simp [h0]
    have hz : placeErr bs.length at_ width = 0 := by rw [← Hp.out]; exact h0
    have HW : Hid (isW width = true) := Lib.hid (isW_yes (placeErr_zero hz).1)
    have hLl : L.length = bs.length := by rw [HL.out, setVal_length hz]
    have hget := Get_any Ao co _ L at_ width w5 ho5.reads.2.1 hLm.out hco hcom ha.1 ha.2
    rw [hLl, hz, HL.out, set_get hz] at hget
    obtain ⟨m, hm⟩ : ∃ m, m = n % 256 ^ width.toNat := ⟨_, rfl⟩
    rw [← hm] at hget
    have hml : m < 18446744073709551616 := by
      have := Nat.mod_le n (256 ^ width.toNat)
      omega
    have Hm : Hid (enc width.toNat m = enc width.toNat n) := Lib.hid (enc_mod _ _ _ width.toNat (Nat.le_refl _) hm)
    have HLl := Lib.hid hLl
    have Hget := Lib.hid hget
    clear hget hLl hz hm h0
    rw [HLl.out]
    obtain ⟨q0, q1, q2, q3⟩ := ar5
    go_wp2_with fail
    refine (Hget.out).mono ?_
    rintro e w6 ⟨rfl, rfl⟩
    go_wp2_with fail
    have tok1 : True := trivial
    have tok2 : True := trivial
    have hl8 : Hid ((enc width.toNat m).length ≤ maxLen) := Lib.hid (by
      rw [enc_length]
      have := of_decide_eq_true HW.out
      unfold maxLen; omega)
    go_region_held3 (fun w' => w'.cell? ⟨w.heap.size, 2, none⟩ = some (.int .i64 width) ∧ w'.cell? ⟨w.heap.size, 3, none⟩ = some (.int .u64 (n : Int))) (go_keep)
      (first
        | (have _t := tok1; go_at_call 16; refine (numw width m _ HW.out hml).mono ?_; rintro e w6 ⟨v6, rfl, ho6, hb6⟩; have q2' : w6.cell? ⟨w.heap.size, 2, none⟩ = some (.int .i64 width) := ((hb6.cell (p := ⟨w.heap.size, 2, none⟩) hg5).trans q2); have q3' : w6.cell? ⟨w.heap.size, 3, none⟩ = some (.int .u64 (n : Int)) := ((hb6.cell (p := ⟨w.heap.size, 3, none⟩) hg5).trans q3); obtain ⟨A6, c6, rfl, -, -, -, -⟩ := ho6.form; have hg6 : w.heap.size < w6.heap.size := (Nat.lt_of_lt_of_le hg5 hb6.size); have hB6 : Below w.heap.size w w6 := (hB5.trans ((below_of_drewN w5 1).trans (hb6.mono hB5.size))); clear tok1)
        | (have _t := tok2; go_at_call 16; refine (numw width n _ HW.out hn).mono ?_; rintro e w7 ⟨v7, rfl, ho7, hb7⟩; have q2' : w7.cell? ⟨w.heap.size, 2, none⟩ = some (.int .i64 width) := ((hb7.cell (p := ⟨w.heap.size, 2, none⟩) hg6).trans (by assumption)); have q3' : w7.cell? ⟨w.heap.size, 3, none⟩ = some (.int .u64 (n : Int)) := ((hb7.cell (p := ⟨w.heap.size, 3, none⟩) hg6).trans (by assumption)); have ho6' := ho6.below' hb7; rw [← Hm.out] at ho7; obtain ⟨A7, c7, rfl, -, -, -, -⟩ := ho7.form; have hB7 : Below w.heap.size w w7 := hB6.trans (hb7.mono hB6.size); clear tok2)
        | (go_at_call 15; refine (same_yes A6 A7 (enc width.toNat m).length c6 c7 _ _ (enc width.toNat m) _ ho6'.reads.2.1 ho7.reads.2.1 rfl hl8.out).mono ?_; rintro e w8 ⟨rfl, n3, rfl⟩))
    go_wp2
    go_ret
    exact ⟨rfl, below_drewN hB7 n3⟩
  · have e1 : (p != 0) = true := by simp [h0]
    go_wp2
    go_ret
    exact ⟨rfl, hB5⟩

/-! ### THE ROW's STEP -/
theorem own : ownKnob Try.prog.godebug = none := by kernel_rfl
theorem laidOut : laidOutB Try.prog = true := by kernel_rfl
set_option maxRecDepth 100000 in
theorem lifted (os : Os) (started : os.Started) (H : Type) (enc : TypeId × Value → H) :
    ReturnsInHanded {} Try.checked os 4 .any (Rows.wireSetsSpec.pre6 enc Try.prog Try.f4 Rows.wireSetsRow.domain false) (Rows.wireSetsSpec.post enc Try.prog Try.f4 false true false false) := by
  refine returnsInHanded_of_change_sized (C := Try.checked) own started (by kernel_rfl) Try.func4
    (ChangeSpec.witness6 (enc := enc) (C := Try.checked) false ⟨#[], #[.agg #[.slice none 0 0, .int .i64 0, .int .i64 0, .int .u64 0]], []⟩ 8 (by kernel_rfl) (by kernel_rfl) (by kernel_rfl) (by kernel_rfl)) ?_
  intro W base args ds gs before hval0 hW hcnd hsz _
  have hval : ∀ (j : Nat) t v, Try.f4.params[j]? = some t → args[j]? = some v → Value.okWide Try.prog W .any base t v := hval0
  have hW' := hW
  obtain ⟨p, q, hA0, hV, rfl, hfz, hnd⟩ := hW
  have hA : DataW.TrodAll enc Try.prog W 0 (fun _ => true) true Try.f4.params.toList args.toList ds p := hA0
  rw [Try.params4] at hA hval
  obtain ⟨v0, vs0, d0, ds0, p0, q0, hargs, rfl, rfl, h0, r0⟩ := trodAll_cons hA
  obtain ⟨rfl, rfl, rfl⟩ := trodAll_nil r0
  obtain rfl : args = #[v0] := by cases args; simp_all
  obtain ⟨rfl, rfl⟩ := trodVars_none hV
  have k0 := h0
  have lt0 : ∀ x ∈ p0, x.block < W.heap.size := by obtain ⟨m, hm⟩ := k0; exact DataW.trod_lt m _ _ _ hm
  have w0 := reach_at hsz (j := 0) rfl rfl
  clear hA0 hval0 hsz
  obtain ⟨A0, c0, bs0, at0, wd0, n0, rfl, hx0⟩ := ones_setArg (hval 0 _ v0 rfl rfl) w0 h0 lt0
  refine (walk W hx0).mono fun e W' ⟨he, bel⟩ => ?_
  subst he
  exact ⟨_, rfl, _, _, _, [], _, [], hW', trodAll_mk1 (shut_bool Try.underlying4 _), (trodAll_cons_mk (Below.trod laidOut (by kernel_rfl) (of_decide_eq_true (by kernel_rfl)) k0 bel lt0) trodAll_mk0), rfl, bel.frame _, fun h => by cases h⟩

theorem over : Rows.wireSetsRow.holds Try.pinned (OpenSpec.ofChange Rows.wireSetsSpec) :=
  OpenClaim.holds_of_wide 4 Try.f4 rfl rfl rfl rfl rfl rfl rfl ⟨rfl, rfl, rfl, rfl, rfl⟩ rfl rfl rfl rfl rfl (by kernel_rfl) Try.func4 (by kernel_rfl)
    (of_decide_eq_true (by kernel_rfl)) (by unfold Func.isWrapper; rw [if_neg (of_decide_eq_false (by kernel_rfl))]; exact ⟨rfl, rfl⟩)
    (fun os started H enc _ => lifted os started H enc)

/-- THE STATEMENT -/
theorem proved : Rows.WireSetsSaid := over
end Go.Proofs.Ytgmgdjjfchfleaa.wireSets

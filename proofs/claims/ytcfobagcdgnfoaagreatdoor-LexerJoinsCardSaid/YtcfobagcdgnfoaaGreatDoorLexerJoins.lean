/- Two scripts with a line's end between them have the tokens of the first and then those of the second, further on. The library's tables and errors, and the program's own table of marks, stand as the program's text lays them (the card ties them). -/
import Derived.Test.YtcfobagcdgnfoaaGreatDoorOpen
import Derived.Test.YtcfobagcdgnfoaaGreatDoorCards
import Derived.Test.YtcfobagcdgnfoaaGreatDoorTie
import Derived.Deep.DeepHandedRow
import Derived.Lib.LaidTab
import Derived.Test.YtcfobagcdgnfoaaGreatDoorLxP
import Derived.Test.YtcfobagcdgnfoaaGreatDoorLxOpen
import Derived.Test.YtcfobagcdgnfoaaGreatDoorLxLaid
namespace Go.Proofs.YtcfobagcdgnfoaaGreatDoor.lexerJoins
open Go.ChangeShapes Go.WideShapes Go.ChangeAt Go.RowKit
open Go.ChangeMaps (open_string shut_string)
set_option linter.unusedVariables false
set_option linter.unusedSimpArgs false

theorem lxA_join {a b : Bs} (ha : (lxR a).2 = none) (hal : a.length ≤ 8000000) (hbl : b.length ≤ 8000000) : lxA (a ++ 10 :: b) = match (lxR b).2 with
    | none => ((lxR a).1 ++ (lxR b).1.map (tkSh (a.length + 1)), 0, 0)
    | some e => ([], e.1 + (a.length + 1), e.2) := by
  have h := lx_join ha hal hbl
  unfold lxA
  rw [h]
  cases h2 : (lxR b).2 <;> rfl
theorem lS_line (a b : ByteArray) : lS (a ++ ⟨#[10]⟩ ++ b) = lS a ++ 10 :: lS b := by
  simp [lS]
set_option maxRecDepth 100000 in
set_option maxHeartbeats 1000000 in
theorem walk (w : World) (hW : LxW w) {a b : ByteArray} (hxa : a.size ≤ 140737488355328) (hxb : b.size ≤ 140737488355328) :
    Calls Tryz.prog 8 #[.string a, .string b] w fun e w' => e = .returned (.bool true) ∧ Below w.heap.size w w' := by
  have HSP := Lib.hid (speaks24_any w hW)
  have HA : Hid (∀ (s : ByteArray) w', Below w.heap.size w w' → Calls Tryz.prog 10 #[.string s] w' fun e w2 => ∃ A c, e = .returned (.tuple #[.slice A (lxA (lS s)).1.length c, .int .i64 ((lxA (lS s)).2.1 : Int), .int .i64 (lxA (lS s)).2.2]) ∧ TkS A (lxA (lS s)).1 w2 ∧ Below w'.heap.size w' w2) :=
    Lib.hid fun s w' hb => all_tks s w' (hW.below hb (Nat.le_refl _))
  have hsum : ¬ (9223372036854775807 < a.size + b.size) := by omega
  have hsum1 : ¬ (9223372036854775807 < a.size + 1) := by omega
  clear hW
  go_enter Tryz.func8, Tryz.ntmps8
  go_wp2_with fail
  refine HSP.out.mono ?_
  rintro e w1 ⟨rfl, b1⟩
  have HB1 := Lib.hid b1
  clear b1 HSP
  go_wp2_with fail
  refine (HA.out a _ HB1.out).mono ?_
  rintro e w2 ⟨A, ca, rfl, ta, b2⟩
  have HB2 := Lib.hid (HB1.out.trans (b2.mono HB1.out.size))
  clear b2
  cases hra : (lxR (lS a)).2 with
  | some e =>
    have he := lxR_err hra
    rw [lxA_no hra] at ta ⊢
    simp only [List.length_nil] at ta ⊢
    clear hra ta
    go_wp2
    go_ret
    exact ⟨rfl, HB2.out⟩
  | none =>
    by_cases h1 : 8000000 < a.size
    · rw [lxA_ok hra] at ta ⊢
      clear hra ta
      go_wp2
      go_ret
      exact ⟨rfl, HB2.out⟩
    · by_cases h2 : 8000000 < b.size
      · rw [lxA_ok hra] at ta ⊢
        clear hra ta
        go_wp2
        go_ret
        exact ⟨rfl, HB2.out⟩
      · have HJ := Lib.hid (lxA_join (b := lS b) hra (by rw [lS_len]; omega) (by rw [lS_len]; omega))
        rw [lxA_ok hra] at ta ⊢
        have hfa := lxR_few (lS a)
        have HX := Lib.hid (lxR_at (lS a)).1
        have HY := Lib.hid (lxR_at (lS b))
        rw [lS_len] at HX HY
        simp only at ta ⊢
        have TA := Lib.hid ta
        have HJ2 := HJ.out
        rw [lS_len] at HJ2
        clear HJ hra ta
        have HJ := Lib.hid HJ2
        clear HJ2
        generalize (lxR (lS a)).1 = X at *
        go_wp2_with fail
        refine (HA.out b _ HB2.out).mono ?_
        rintro e w3 ⟨B, cb, rfl, tb, b3⟩
        have TA3 := Lib.hid (TA.out.below b3)
        have HB3 := Lib.hid (HB2.out.trans (b3.mono HB2.out.size))
        clear b3 TA
        cases hrb : (lxR (lS b)).2 with
        | some e =>
          obtain ⟨p, E⟩ := e
          have he : E ≠ 0 := lxR_err hrb
          have hp : p ≤ b.size := HY.out.2 _ hrb
          rw [lxA_no hrb] at tb ⊢
          simp only [List.length_nil] at tb ⊢
          have HJ2 := HJ.out
          rw [hrb] at HJ2
          have HJ3 := Lib.hid HJ2
          clear tb HJ2 HJ hrb HX HY
          go_wp2_with fail
          refine (HA.out _ _ HB3.out).mono ?_
          rintro e w4 ⟨C, cc, rfl, tc, b4⟩
          have HB4 := Lib.hid (HB3.out.trans (b4.mono HB3.out.size))
          clear b4 HA tc
          rw [lS_line, HJ3.out]
          simp only [List.length_nil]
          have e1 : wrap64 ((p : Int) + (a.size : Int)) = (p : Int) + (a.size : Int) := by unfold wrap64; omega
          have e2 : wrap64 ((p : Int) + (a.size : Int) + 1) = (p : Int) + (a.size : Int) + 1 := by unfold wrap64; omega
          have e3 : ((p + (a.size + 1) : Nat) : Int) = (p : Int) + (a.size : Int) + 1 := by omega
          rw [e3]
          clear HJ3 e3
          go_wp2
          go_ret
          exact ⟨rfl, HB4.out⟩
        | none =>
          have HP := Lib.hid HY.out.1
          have HJ2 := HJ.out
          rw [hrb] at HJ2
          have HJ3 := Lib.hid HJ2
          rw [lxA_ok hrb] at tb ⊢
          simp only at tb ⊢
          have TB3 := Lib.hid tb
          have hfx := lxR_few (lS b)
          clear tb HJ2 HJ hrb HX HY
          generalize (lxR (lS b)).1 = Y at *
          go_wp2_with fail
          refine (HA.out _ _ HB3.out).mono ?_
          rintro e w4 ⟨C, cc, rfl, tc, b4⟩
          have HB4 := Lib.hid (HB3.out.trans (b4.mono HB3.out.size))
          have TA4 := Lib.hid (TA3.out.below b4)
          have TB4 := Lib.hid (TB3.out.below b4)
          rw [lS_line, HJ3.out] at tc ⊢
          simp only at tc ⊢
          have TC4 := Lib.hid tc
          clear b4 HA tc HJ3 TA3 TB3
          have hN : (X ++ Y.map (tkSh (a.size + 1))).length = X.length + Y.length := by simp
          generalize hZ : X ++ Y.map (tkSh (a.size + 1)) = Z at *
          have HZ := Lib.hid hZ
          clear hZ
          rw [hN]
          have hn1 : wrap64 ((X.length : Int) + (Y.length : Int)) = ((X.length + Y.length : Nat) : Int) := by unfold wrap64; omega
          generalize hn : X.length + Y.length = n at *
          clear hN
          go_wp2
          go_loopw [13, 14, 87] (fun _ _ i wr => ∃ k : Nat, k ≤ n ∧ i = .int .i64 k ∧ Hid (Below w4.heap.size w4 wr)) (fun _ _ i _ => n - (intOf i).toNat)
          case atStart => exact ⟨0, Nat.zero_le _, rfl, Lib.hid (Below.refl _ _)⟩
          case round =>
            obtain ⟨k, hk, rfl, HW⟩ := hrel
            by_cases hlt : k < n
            · by_cases hx : k < X.length
              · obtain ⟨x, hxk⟩ : ∃ x, X[k]? = some x := ⟨_, List.getElem?_eq_getElem hx⟩
                have hzk : Z[k]? = some x := by rw [← HZ.out, List.getElem?_append_left hx, hxk]
                obtain ⟨g, rfl, hg, x0, x1, x2, x3⟩ := TA4.out.below HW.out k x hxk
                obtain ⟨gz, rfl, hgz, z0, z1, z2, z3⟩ := TC4.out.below HW.out k x hzk
                clear hxk hzk
                go_wp2_with fail
                go_quiet (fail)
                go_wp2
                go_roundw
                case rel => exact ⟨k + 1, by omega, by go_num, Lib.hid (below_drewN HW.out _)⟩
                case measure => simp [intOf]; omega
              · obtain ⟨j, hkj⟩ : ∃ j, k = X.length + j := ⟨k - X.length, by omega⟩
                have hjk : wrap64 ((k : Int) - (X.length : Int)) = (j : Int) := by unfold wrap64; omega
                obtain ⟨y, hyj⟩ : ∃ y, Y[j]? = some y := ⟨_, List.getElem?_eq_getElem (by omega)⟩
                have hzk : Z[k]? = some (tkSh (a.size + 1) y) := by rw [hkj, ← HZ.out, List.getElem?_append_right (Nat.le_add_right _ _), Nat.add_sub_cancel_left, List.getElem?_map, hyj]; rfl
                obtain ⟨g, rfl, hg, x0, x1, x2, x3⟩ := TB4.out.below HW.out j y hyj
                obtain ⟨gz, rfl, hgz, z0, z1, z2, z3⟩ := TC4.out.below HW.out _ _ hzk
                have hjl : j < Y.length := by omega
                have hyp := HP.out y (List.mem_of_getElem? hyj)
                clear hzk hyj
                go_wp2_with fail
                obtain ⟨w5, hw5⟩ : ∃ w5, w5 = wr.alloc (.cells #[.int .i64 y.k, .string (mkS y.t), .int .i64 y.n, .int .i64 ((y.p : Int) + ((a.size : Int) + 1))] 31) := ⟨_, rfl⟩
                have hB5 : Below wr.heap.size wr w5 := by rw [hw5]; exact (Below.refl _ _).alloc (Nat.le_refl _) _
                have hblk : Blk w5 wr.heap.size 31 #[.int .i64 y.k, .string (mkS y.t), .int .i64 y.n, .int .i64 ((y.p : Int) + ((a.size : Int) + 1))] := by rw [hw5]; exact Blk.new _ _ _
                have t0 : w5.cell? ⟨wr.heap.size, 0, none⟩ = some (.int .i64 y.k) := by rw [hblk.cell 0]; rfl
                have t1 : w5.cell? ⟨wr.heap.size, 1, none⟩ = some (.string (mkS y.t)) := by rw [hblk.cell 1]; rfl
                have t2 : w5.cell? ⟨wr.heap.size, 2, none⟩ = some (.int .i64 y.n) := by rw [hblk.cell 2]; rfl
                have t3 : w5.cell? ⟨wr.heap.size, 3, none⟩ = some (.int .i64 ((y.p : Int) + ((a.size : Int) + 1))) := by rw [hblk.cell 3]; rfl
                have s0 : w5.cell? ⟨gz, k * 4, none⟩ = some (.int .i64 y.k) := (hB5.cell (p := ⟨gz, k * 4, none⟩) hgz).trans z0
                have s1 : w5.cell? ⟨gz, k * 4 + 1, none⟩ = some (.string (mkS y.t)) := (hB5.cell (p := ⟨gz, k * 4 + 1, none⟩) hgz).trans z1
                have s2 : w5.cell? ⟨gz, k * 4 + 2, none⟩ = some (.int .i64 y.n) := (hB5.cell (p := ⟨gz, k * 4 + 2, none⟩) hgz).trans z2
                have s3 := (hB5.cell (p := ⟨gz, k * 4 + 3, none⟩) hgz).trans z3
                have e5 : (((tkSh (a.size + 1) y).p : Nat) : Int) = (y.p : Int) + ((a.size : Int) + 1) := by show ((y.p + (a.size + 1) : Nat) : Int) = _; omega
                rw [e5] at s3
                rw [← hw5]
                have HW5 : Hid (Below w4.heap.size w4 w5) := Lib.hid (HW.out.trans (hB5.mono HW.out.size))
                have HK : Hid (k < n) := Lib.hid hlt
                rw [← hkj]
                clear hkj hjk hjl hyp hw5 hB5 hblk z0 z1 z2 z3 x0 x1 x2 x3 e5
                go_quiet (fail)
                go_wp2
                go_roundw
                case rel => exact ⟨k + 1, by omega, by go_num, Lib.hid (below_drewN HW5.out _)⟩
                case measure => simp [intOf]; omega
            · obtain rfl : k = n := by omega
              go_wp2
              go_ret
              exact ⟨rfl, (HB4.out.trans (HW.out.mono HB4.out.size))⟩

/-! ### THE ROW's STEP -/
theorem own : ownKnob Tryz.prog.godebug = none := by kernel_rfl
theorem laidOut : laidOutB Tryz.prog = true := by kernel_rfl

set_option maxRecDepth 100000 in
theorem contract (H : Type) (enc : TypeId × Value → H) (W : World) (base : Nat) (args : Array Value) (ds gs : List (DataW H)) (before : List MemPlace)
    (hval0 : ∀ (j : Nat) t v, Tryz.f8.params[j]? = some t → args[j]? = some v → Value.okWide Tryz.prog W .any base t v)
    (hW : DataW.Whole enc Tryz.prog Tryz.f8.params.toList Rows.lexerJoinsSpec.vars false W args.toList ds gs before)
    (hsz : (DataW.weightsEach Tryz.prog (Tryz.f8.params.toList ++ (OpenSpec.ofChange Rows.lexerJoinsSpec).bare.plain.varTypes Tryz.prog) (ds ++ gs)).all (· ≤ reachBytes) = true) (hL : laidMetH Tryz.prog Rows.lexerJoinsRow.laid W) (hSh : W.ShapedOpen Tryz.prog) :
    Calls Tryz.prog 8 args W fun e W' => ∃ v, e = .returned v ∧ Rows.lexerJoinsSpec.post enc Tryz.prog Tryz.f8 false true false false W args v W' := by
  have hval : ∀ (j : Nat) t v, Tryz.f8.params[j]? = some t → args[j]? = some v → Value.okWide Tryz.prog W .any base t v := hval0
  have hW' := hW
  obtain ⟨p, q, hA0, hV, rfl, hfz, hnd⟩ := hW
  have hA : DataW.TrodAll enc Tryz.prog W 0 (fun _ => true) true Tryz.f8.params.toList args.toList ds p := hA0
  rw [Tryz.params8] at hA hval
  obtain ⟨v0, vs0, d0, ds0, p0, q0, hargs, rfl, rfl, h0, r0⟩ := trodAll_cons hA
  obtain ⟨v1, vs1, d1, ds1, p1, q1, rfl, rfl, rfl, h1, r1⟩ := trodAll_cons r0
  obtain ⟨rfl, rfl, rfl⟩ := trodAll_nil r1
  obtain rfl : args = #[v0, v1] := by cases args; simp_all
  obtain ⟨rfl, rfl⟩ := trodVars_none hV
  have k0 := h0
  have lt0 : ∀ x ∈ p0, x.block < W.heap.size := by obtain ⟨m, hm⟩ := k0; exact DataW.trod_lt m _ _ _ hm
  have w0 := reach_at hsz (j := 0) rfl rfl
  have k1 := h1
  have lt1 : ∀ x ∈ p1, x.block < W.heap.size := by obtain ⟨m, hm⟩ := k1; exact DataW.trod_lt m _ _ _ hm
  have w1 := reach_at hsz (j := 1) rfl rfl
  clear hA0 hval0 hsz
  obtain ⟨s0, rfl, hx0⟩ := open_lexany (hval 0 _ v0 rfl rfl) w0 h0 lt0
  obtain ⟨s1, rfl, hx1⟩ := open_lexany (hval 1 _ v1 rfl rfl) w1 h1 lt1
  refine (walk W (lxw_of hL hSh) hx0 hx1).mono fun e W' ⟨he, bel⟩ => ?_
  subst he
  exact ⟨_, rfl, _, _, _, [], _, [], hW', trodAll_mk1 (shut_bool Tryz.underlying4 _), (trodAll_cons_mk (Below.trod laidOut (by kernel_rfl) (of_decide_eq_true (by kernel_rfl)) k0 bel lt0) (trodAll_cons_mk (Below.trod laidOut (by kernel_rfl) (of_decide_eq_true (by kernel_rfl)) k1 bel lt1) trodAll_mk0)), rfl, bel.frame _, fun h => by cases h⟩

theorem laid_met (os : Os) : laidMet Tryz.prog Rows.lexerJoinsRow.laid ((laidWorld os).forCall (fun _ _ => 0) ⟨#[], #[.string ByteArray.empty, .string ByteArray.empty], []⟩).memory :=
  laid_met0 os
theorem reads (os : Os) {H : Type} (enc : TypeId × Value → H) : ∃ places, DataW.whole enc Tryz.prog ((laidWorld os).forCall (fun _ _ => 0) ⟨#[], #[.string ByteArray.empty, .string ByteArray.empty], []⟩).memory Tryz.f8.params.toList Rows.lexerJoinsSpec.vars false (#[.string ByteArray.empty, .string ByteArray.empty] : Array Value).toList 8 = some ([.lit (.string []), .lit (.string [])], [], places) :=
  ⟨[], by kernel_rfl⟩

set_option maxRecDepth 100000 in
theorem lifted (os : Os) (started : os.Started) (H : Type) (enc : TypeId × Value → H) (F : Stop.Interp) :
    ReturnsInHanded {} Tryz.checked os 8 .any ((OpenSpec.ofChange Rows.lexerJoinsSpec).preRow enc Tryz.prog Tryz.f8 Rows.lexerJoinsRow.domain false Rows.lexerJoinsRow.laid) (((OpenSpec.ofChange Rows.lexerJoinsSpec).at F).post enc Tryz.prog Tryz.f8 false true false false) := by
  obtain ⟨places, hx⟩ := reads os enc
  refine returnsInHanded_of_row (C := Tryz.checked) (s := (OpenSpec.ofChange Rows.lexerJoinsSpec)) own started (by kernel_rfl) Tryz.func8
    (witness_row_at (enc := enc) (C := Tryz.checked) false (laidWorld os) #[.string ByteArray.empty, .string ByteArray.empty] rfl (by kernel_rfl) (by kernel_rfl) (by kernel_rfl)
      (OpenSpec.preRow_of_cond 8 hx (by kernel_rfl) (fun k hk => by cases hk) (by kernel_rfl) (laid_met os))) ?_
  intro W base args ds gs before hval hW _ hcond hsz hL hSh _
  exact contract H enc W base args ds gs before hval hW hsz hL hSh

theorem said : Rows.LexerJoinsSaid :=
  OpenClaim.holds_of_cond 8 Tryz.f8 rfl rfl rfl rfl rfl rfl rfl ⟨rfl, rfl, rfl, rfl, rfl⟩ rfl rfl rfl rfl rfl (by kernel_rfl) Tryz.func8 (by kernel_rfl)
    (of_decide_eq_true (by kernel_rfl)) (by unfold Func.isWrapper; rw [if_neg (of_decide_eq_false (by kernel_rfl))]; exact ⟨rfl, rfl⟩)
    (fun os started H enc _ F => by rw [OpenClaim.pre_eq_preRow]; exact lifted os started H enc F)

theorem noStandIn : ∀ t ∈ ([9, 9] : List TypeId), Tryz.prog.wantsStandIn t = false := by
  intro t ht
  simp only [List.mem_cons, List.not_mem_nil, or_false] at ht
  rcases ht with rfl | rfl
  · exact (show Tryz.prog.wantsStandIn 9 = false by kernel_rfl)
  · exact (show Tryz.prog.wantsStandIn 9 = false by kernel_rfl)
theorem plain (f : FuncId) (fn : Func) (hf : Tryz.pinned.checked.prog.funcNamed "satchel/satchellaw24.LexerJoins" = some f) (hfn : Tryz.pinned.checked.prog.funcs[f]? = some fn) :
    true = Tryz.pinned.checked.prog.looks [] ∧ ∀ (j : Nat) t, fn.params[j]? = some t → Tryz.pinned.checked.prog.wantsStandIn t = false := by
  obtain rfl : f = 8 := Option.some.inj ((show Tryz.prog.funcNamed "satchel/satchellaw24.LexerJoins" = some 8 by kernel_rfl).symm.trans hf) |>.symm
  obtain rfl : fn = Tryz.f8 := (Option.some.inj (Tryz.func8.symm.trans hfn)).symm
  refine ⟨by kernel_rfl, fun j t ht => ?_⟩
  rw [Tryz.params8] at ht
  exact noStandIn t (by simpa using Array.mem_of_getElem? ht)

/-- THE CARD -/
theorem proved : Rows.LexerJoinsCardSaid :=
  Claim7.holds_tied_plain_at .later [] _ _ _ _ said (fun _ h => by cases h) (by kernel_rfl) (fun _ h => by cases h) lexerJoins_row_tie rfl ⟨rfl, rfl⟩ (by kernel_rfl) rfl plain (by kernel_rfl)
end Go.Proofs.YtcfobagcdgnfoaaGreatDoor.lexerJoins

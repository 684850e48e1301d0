/- The program's tokens of a script are the document's, and what is done to one answer does nothing to another. The library's tables and errors, and the program's own table of marks, stand as the program's text lays them (the card ties them). -/
import Derived.Test.YtcfobagcdgnfoaaGreatDoorOpen
import Derived.Test.YtcfobagcdgnfoaaGreatDoorCards
import Derived.Test.YtcfobagcdgnfoaaGreatDoorTie
import Derived.Deep.DeepHandedRow
import Derived.Lib.LaidTab
import Derived.Test.YtcfobagcdgnfoaaGreatDoorLxRef
namespace Go.Proofs.YtcfobagcdgnfoaaGreatDoor.lexerReads
open Go.ChangeShapes Go.WideShapes Go.ChangeAt Go.RowKit
open Go.ChangeMaps (open_string shut_string)
set_option linter.unusedVariables false
set_option linter.unusedSimpArgs false

def tk9 : Tk := ⟨9, [], 0, 0⟩
theorem tk_size : (Tryz.prog.info? 31).map (·.size) = some 4 := by kernel_rfl
theorem tks_of {S : Fp} {l : List Ass} {w0 w : World} {A : Option Addr} {n c : Nat} {X : List Tk} (h : St S (OwA tkF 4 31 (.slice A n c) X :: l) w0 w) : TkS A X w := by
  intro k x hx
  have hk := (List.getElem?_eq_some_iff.1 hx).1
  obtain ⟨g, cap, e, h1, h2, h3, h4⟩ := h.tkAt (by omega)
  injection e with e1 e2 e3
  subst e1
  obtain ⟨q0, q1, q2, q3⟩ := h4 k x hx
  exact ⟨g, rfl, h3, q0, q1, q2, q3⟩
set_option maxRecDepth 100000 in
set_option maxHeartbeats 800000 in
theorem walk (w : World) (hW : LxW w) {s : ByteArray} (hx : s.size ≤ 140737488355328) :
    Calls Tryz.prog 4 #[.string s] w fun e w' => e = .returned (.bool true) ∧ Below w.heap.size w w' := by
  have HSP := Lib.hid (speaks24_any w hW)
  have HA : Hid (∀ w', Below w.heap.size w w' → Calls Tryz.prog 10 #[.string s] w' fun e w2 => ∃ A c, e = .returned (.tuple #[.slice A (lxA (lS s)).1.length c, .int .i64 ((lxA (lS s)).2.1 : Int), .int .i64 (lxA (lS s)).2.2]) ∧ St Zf [OwA tkF 4 31 (.slice A (lxA (lS s)).1.length c) (lxA (lS s)).1] w' w2) :=
    Lib.hid fun w' hb => (All_any s w' (hW.below hb (Nat.le_refl _))).mono fun e w2 ⟨v, h1, h2⟩ => by
      obtain ⟨A, c, rfl, -⟩ := h2.owForm
      exact ⟨A, c, h1, h2⟩
  have HR : Hid (∀ w', Calls Tryz.prog 11 #[.string s] w' fun e w2 => ∃ A c, e = .returned (.tuple #[.slice A (lxR (lS s)).1.length c, .int .i64 (rdAt (lxR (lS s)).2), .int .i64 (rdEr (lxR (lS s)).2)]) ∧ St Zf [OwA tkF 4 31 (.slice A (lxR (lS s)).1.length c) (lxR (lS s)).1] w' w2) :=
    Lib.hid fun w' => (refRead_any s w').mono fun e w2 ⟨v, h1, h2⟩ => by
      obtain ⟨A, c, rfl, -⟩ := h2.owForm
      exact ⟨A, c, h1, h2⟩
  have hfew := lxA_few (lS s)
  clear hW
  have HF0 := Lib.hid (St.start Zf w)
  cases hr : (lxR (lS s)).2 with
  | some e =>
    obtain ⟨a, E⟩ := e
    have hE : E ≠ 0 := lxR_err hr
    rw [hr] at HR
    rw [lxA_no hr] at HA
    simp only [rdAt, rdEr] at HR
    simp only [List.length_nil] at HA
    generalize (lxR (lS s)).1 = Y at HR
    clear hr hfew
    go_enter Tryz.func4, Tryz.ntmps4
    go_wp2_with fail
    refine HSP.out.mono ?_
    rintro e w1 ⟨rfl, b1⟩
    have HB1 := Lib.hid b1
    clear b1 HSP
    go_wp2_with fail
    refine (HA.out _ HB1.out).mono ?_
    rintro e w2 ⟨A1, c1, rfl, h2⟩
    have HB2 := Lib.hid (HB1.out.trans (h2.bel.mono HB1.out.size))
    clear h2
    go_wp2_with fail
    refine (HA.out _ HB2.out).mono ?_
    rintro e w3 ⟨A2, c2, rfl, h3⟩
    have HB3 := Lib.hid (HB2.out.trans (h3.bel.mono HB2.out.size))
    clear h3
    go_wp2_with fail
    refine (HR.out _).mono ?_
    rintro e w4 ⟨A3, c3, rfl, h4⟩
    have HB4 := Lib.hid (HB3.out.trans (h4.bel.mono HB3.out.size))
    have HS1 := Lib.hid (refSame_yes A1 none c1 0 [] w4 (fun k x h => by cases h) (fun k x h => by cases h) (by decide))
    clear h4
    simp only [List.length_nil] at HS1
    go_wp2_with fail
    refine HS1.out.mono ?_
    rintro e w5 ⟨rfl, b5⟩
    have HB5 := Lib.hid (HB4.out.trans (b5.mono HB4.out.size))
    have HS2 := Lib.hid (refSame_yes A2 none c2 0 [] w5 (fun k x h => by cases h) (fun k x h => by cases h) (by decide))
    simp only [List.length_nil] at HS2
    clear b5
    go_wp2
    go_loopw [12, 51] (fun _ i wr => i = .int .i64 0 ∧ wr = w5) (fun _ i _ => 0)
    case atStart => exact ⟨rfl, rfl⟩
    case round =>
      obtain ⟨rfl, rfl⟩ := hrel
      go_wp2_with fail
      refine HS2.out.mono ?_
      rintro e w6 ⟨rfl, b6⟩
      have HB6 := Lib.hid (HB5.out.trans (b6.mono HB5.out.size))
      go_wp2
      go_ret
      exact ⟨rfl, HB6.out⟩
  | none =>
    rw [hr] at HR
    rw [lxA_ok hr] at HA hfew
    simp only [rdAt, rdEr] at HR
    simp only at HA hfew
    generalize (lxR (lS s)).1 = X at HR HA hfew
    obtain ⟨n, hn⟩ : ∃ n, n = X.length := ⟨_, rfl⟩
    have HN := Lib.hid hn
    rw [← hn] at HR HA hfew
    clear hr hn
    go_enter Tryz.func4, Tryz.ntmps4
    go_wp2_with fail
    refine HSP.out.mono ?_
    rintro e w1 ⟨rfl, b1⟩
    have h1 := HF0.out.below b1
    have H1 := Lib.hid h1
    clear b1 HSP h1
    go_wp2_with fail
    refine (HA.out _ H1.out.bel).mono ?_
    rintro e w2 ⟨A1, c1, rfl, h2⟩
    have H2 := Lib.hid (H1.out.addStL h2)
    clear h2
    go_wp2_with fail
    refine (HA.out _ H2.out.bel).mono ?_
    rintro e w3 ⟨A2, c2, rfl, h3⟩
    have H3 := Lib.hid (H2.out.addStL h3)
    clear h3
    go_wp2_with fail
    refine (HR.out _).mono ?_
    rintro e w4 ⟨A3, c3, rfl, h4⟩
    have H4 := Lib.hid (H3.out.addStL h4)
    have HS1 := Lib.hid (refSame_yes A1 A3 c1 c3 X w4 (tks_of H4.out.bring2) (tks_of H4.out) (by rw [← HN.out]; exact hfew))
    rw [← HN.out] at HS1
    clear h4
    go_wp2_with fail
    refine HS1.out.mono ?_
    rintro e w5 ⟨rfl, b5⟩
    have H5 := Lib.hid (H4.out.below b5)
    clear b5
    go_wp2
    go_loopw [12, 51] (fun _ i wr => ∃ (k : Nat) (Z : List Tk), k ≤ n ∧ i = .int .i64 k ∧ Hid (Z.length = n) ∧ Hid (St Zf [OwA tkF 4 31 (.slice A1 n c1) Z, OwA tkF 4 31 (.slice A3 n c3) X, OwA tkF 4 31 (.slice A2 n c2) X] w wr)) (fun _ i _ => n - (intOf i).toNat)
    case atStart => exact ⟨0, X, Nat.zero_le _, rfl, Lib.hid HN.out.symm, Lib.hid (H5.out.bring2)⟩
    case round =>
      obtain ⟨k, Z, hk, rfl, HZ, HST⟩ := hrel
      by_cases hlt : k < n
      · obtain ⟨g, hA, hth, hst'⟩ := HST.out.storeRow tkF_row HZ.out hlt tk9
        subst hA
        have HS9 := Lib.hid hst'
        have HTH := Lib.hid hth
        have HZ2 : Hid ((Z.set k tk9).length = n) := Lib.hid (by rw [List.length_set, HZ.out])
        clear hst' hth
        go_wp2_with (refine wpList_store_mid rfl 31 _ _ rfl g (k * 4) #[.int .i64 9, .string ⟨#[]⟩, .int .i64 0, .int .i64 0] (by rfl) (by rfl) (by exact HTH.out) tk_size (by rw [← Array.all_toList]; rfl) ?_)
        go_roundw
        case rel => exact ⟨k + 1, _, by omega, by go_num, HZ2, HS9⟩
        case measure => simp [intOf]; omega
      · obtain rfl : k = n := by omega
        have HS2 := Lib.hid (refSame_yes A2 A3 c2 c3 X wr (tks_of HST.out.bring2) (tks_of HST.out.swap) (by rw [← HN.out]; exact hfew))
        rw [← HN.out] at HS2
        go_wp2_with fail
        refine HS2.out.mono ?_
        rintro e w6 ⟨rfl, b6⟩
        go_wp2
        go_ret
        exact ⟨rfl, (HST.out.below b6).bel⟩

/-! ### THE ROW's STEP -/
theorem own : ownKnob Tryz.prog.godebug = none := by kernel_rfl
theorem laidOut : laidOutB Tryz.prog = true := by kernel_rfl

set_option maxRecDepth 100000 in
theorem contract (H : Type) (enc : TypeId × Value → H) (W : World) (base : Nat) (args : Array Value) (ds gs : List (DataW H)) (before : List MemPlace)
    (hval0 : ∀ (j : Nat) t v, Tryz.f4.params[j]? = some t → args[j]? = some v → Value.okWide Tryz.prog W .any base t v)
    (hW : DataW.Whole enc Tryz.prog Tryz.f4.params.toList Rows.lexerReadsSpec.vars false W args.toList ds gs before)
    (hsz : (DataW.weightsEach Tryz.prog (Tryz.f4.params.toList ++ (OpenSpec.ofChange Rows.lexerReadsSpec).bare.plain.varTypes Tryz.prog) (ds ++ gs)).all (· ≤ reachBytes) = true) (hL : laidMetH Tryz.prog Rows.lexerReadsRow.laid W) (hSh : W.ShapedOpen Tryz.prog) :
    Calls Tryz.prog 4 args W fun e W' => ∃ v, e = .returned v ∧ Rows.lexerReadsSpec.post enc Tryz.prog Tryz.f4 false true false false W args v W' := by
  have hval : ∀ (j : Nat) t v, Tryz.f4.params[j]? = some t → args[j]? = some v → Value.okWide Tryz.prog W .any base t v := hval0
  have hW' := hW
  obtain ⟨p, q, hA0, hV, rfl, hfz, hnd⟩ := hW
  have hA : DataW.TrodAll enc Tryz.prog W 0 (fun _ => true) true Tryz.f4.params.toList args.toList ds p := hA0
  rw [Tryz.params4] at hA hval
  obtain ⟨v0, vs0, d0, ds0, p0, q0, hargs, rfl, rfl, h0, r0⟩ := trodAll_cons hA
  obtain ⟨rfl, rfl, rfl⟩ := trodAll_nil r0
  obtain rfl : args = #[v0] := by cases args; simp_all
  obtain ⟨rfl, rfl⟩ := trodVars_none hV
  have k0 := h0
  have lt0 : ∀ x ∈ p0, x.block < W.heap.size := by obtain ⟨m, hm⟩ := k0; exact DataW.trod_lt m _ _ _ hm
  have w0 := reach_at hsz (j := 0) rfl rfl
  clear hA0 hval0 hsz
  obtain ⟨s0, rfl, hx0⟩ := open_lexany (hval 0 _ v0 rfl rfl) w0 h0 lt0
  refine (walk W (lxw_of hL hSh) hx0).mono fun e W' ⟨he, bel⟩ => ?_
  subst he
  exact ⟨_, rfl, _, _, _, [], _, [], hW', trodAll_mk1 (shut_bool Tryz.underlying4 _), (trodAll_cons_mk (Below.trod laidOut (by kernel_rfl) (of_decide_eq_true (by kernel_rfl)) k0 bel lt0) trodAll_mk0), rfl, bel.frame _, fun h => by cases h⟩

theorem laid_met (os : Os) : laidMet Tryz.prog Rows.lexerReadsRow.laid ((laidWorld os).forCall (fun _ _ => 0) ⟨#[], #[.string ByteArray.empty], []⟩).memory :=
  laid_met0 os
theorem reads (os : Os) {H : Type} (enc : TypeId × Value → H) : ∃ places, DataW.whole enc Tryz.prog ((laidWorld os).forCall (fun _ _ => 0) ⟨#[], #[.string ByteArray.empty], []⟩).memory Tryz.f4.params.toList Rows.lexerReadsSpec.vars false (#[.string ByteArray.empty] : Array Value).toList 8 = some ([.lit (.string [])], [], places) :=
  ⟨[], by kernel_rfl⟩

set_option maxRecDepth 100000 in
theorem lifted (os : Os) (started : os.Started) (H : Type) (enc : TypeId × Value → H) (F : Stop.Interp) :
    ReturnsInHanded {} Tryz.checked os 4 .any ((OpenSpec.ofChange Rows.lexerReadsSpec).preRow enc Tryz.prog Tryz.f4 Rows.lexerReadsRow.domain false Rows.lexerReadsRow.laid) (((OpenSpec.ofChange Rows.lexerReadsSpec).at F).post enc Tryz.prog Tryz.f4 false true false false) := by
  obtain ⟨places, hx⟩ := reads os enc
  refine returnsInHanded_of_row (C := Tryz.checked) (s := (OpenSpec.ofChange Rows.lexerReadsSpec)) own started (by kernel_rfl) Tryz.func4
    (witness_row_at (enc := enc) (C := Tryz.checked) false (laidWorld os) #[.string ByteArray.empty] rfl (by kernel_rfl) (by kernel_rfl) (by kernel_rfl)
      (OpenSpec.preRow_of_cond 8 hx (by kernel_rfl) (fun k hk => by cases hk) (by kernel_rfl) (laid_met os))) ?_
  intro W base args ds gs before hval hW _ hcond hsz hL hSh _
  exact contract H enc W base args ds gs before hval hW hsz hL hSh

theorem said : Rows.LexerReadsSaid :=
  OpenClaim.holds_of_cond 4 Tryz.f4 rfl rfl rfl rfl rfl rfl rfl ⟨rfl, rfl, rfl, rfl, rfl⟩ rfl rfl rfl rfl rfl (by kernel_rfl) Tryz.func4 (by kernel_rfl)
    (of_decide_eq_true (by kernel_rfl)) (by unfold Func.isWrapper; rw [if_neg (of_decide_eq_false (by kernel_rfl))]; exact ⟨rfl, rfl⟩)
    (fun os started H enc _ F => by rw [OpenClaim.pre_eq_preRow]; exact lifted os started H enc F)

theorem noStandIn : ∀ t ∈ ([9] : List TypeId), Tryz.prog.wantsStandIn t = false := by
  intro t ht
  simp only [List.mem_cons, List.not_mem_nil, or_false] at ht
  rcases ht with rfl
  · exact (show Tryz.prog.wantsStandIn 9 = false by kernel_rfl)
theorem plain (f : FuncId) (fn : Func) (hf : Tryz.pinned.checked.prog.funcNamed "satchel/satchellaw24.LexerReads" = some f) (hfn : Tryz.pinned.checked.prog.funcs[f]? = some fn) :
    true = Tryz.pinned.checked.prog.looks [] ∧ ∀ (j : Nat) t, fn.params[j]? = some t → Tryz.pinned.checked.prog.wantsStandIn t = false := by
  obtain rfl : f = 4 := Option.some.inj ((show Tryz.prog.funcNamed "satchel/satchellaw24.LexerReads" = some 4 by kernel_rfl).symm.trans hf) |>.symm
  obtain rfl : fn = Tryz.f4 := (Option.some.inj (Tryz.func4.symm.trans hfn)).symm
  refine ⟨by kernel_rfl, fun j t ht => ?_⟩
  rw [Tryz.params4] at ht
  exact noStandIn t (by simpa using Array.mem_of_getElem? ht)

/-- THE CARD -/
theorem proved : Rows.LexerReadsCardSaid :=
  Claim7.holds_tied_plain_at .later [] _ _ _ _ said (fun _ h => by cases h) (by kernel_rfl) (fun _ h => by cases h) lexerReads_row_tie rfl ⟨rfl, rfl⟩ (by kernel_rfl) rfl plain (by kernel_rfl)
end Go.Proofs.YtcfobagcdgnfoaaGreatDoor.lexerReads

/- Rows are told in new memory: what is written into one answer, and put behind its rows, alters no other answer, for any text of bulk at most 1048576. utf8's tables stand as the program's text lays them (the card ties them; no walk reads them). -/
import Derived.Test.YtmdljfpkbfhbdaaDoorOpen
import Derived.Test.YtmdljfpkbfhbdaaDoorCards
import Derived.Test.YtmdljfpkbfhbdaaDoorTie
import Derived.Deep.DeepHandedRow
import Derived.Lib.LaidTab
import Derived.Test.YtmdljfpkbfhbdaaDoorBulk
import Derived.Deep.CondSized
import Derived.Test.YtmdljfpkbfhbdaaDoorCsOwnP
import Derived.Test.YtmdljfpkbfhbdaaDoorCsOpen
import Derived.Test.YtmdljfpkbfhbdaaDoorCsLaid
namespace Go.Proofs.YtmdljfpkbfhbdaaDoor.csvOwn
open Go.ChangeShapes Go.WideShapes Go.ChangeAt Go.RowKit
open Go.ChangeMaps (open_string shut_string)
set_option linter.unusedVariables false
set_option linter.unusedSimpArgs false

set_option maxRecDepth 100000 in
set_option maxHeartbeats 2000000 in
theorem walk (w : World) (hM : MW w) {s : ByteArray} (hx : s.size ≤ 1048576) :
    Calls Tryd.prog 9 #[.string s] w fun e w' => e = .returned (.bool true) ∧ Below w.heap.size w w' := by
  have HX := Lib.hid hx
  have HSP := Lib.hid (speaks21_any w hM)
  have HP := Lib.hid fun w => Parse_w s w (by omega)
  have HRP := Lib.hid fun w => RParse_w s w (by omega)
  have HWT : Hid (rowsW (rowsP s) ≤ 1073741824) := Lib.hid (by have := rowsP_weight s; omega)
  have HWT2 : Hid (rowsW (rowsP s) ≤ 8388608) := Lib.hid (by have := rowsP_weight s; omega)
  clear hM hx
  generalize errP s = E at HP HRP
  generalize rowsP s = R at HP HRP HWT HWT2
  obtain ⟨n, hn⟩ : ∃ n, n = R.length := ⟨_, rfl⟩
  have HNR := Lib.hid hn
  have hnm : n ≤ 8388608 := by
    have h1 := rows_few R
    have h2 := HWT2.out
    omega
  clear hn
  have HLEN : Hid (∀ X : List Rq, rowsOf X = R → X.length = n) := Lib.hid fun X h => by
    have h1 := congrArg List.length h
    rw [List.length_map] at h1
    rw [HNR.out]
    exact h1
  have HRL : Hid (∀ (j : Nat) (r : Rw), R[j]? = some r → r.length ≤ 8388608) := Lib.hid fun j r h => by
    have h1 := row_few r
    have h2 := row_le (List.mem_of_getElem? h)
    have h3 := HWT2.out
    omega
  obtain ⟨j0, hj, hy0, hy1, hy2⟩ := info_parts str_info
  obtain ⟨i0, z0, hi0, hz0, hz1, hz2, hz3⟩ := row_info rws_info
  go_enter Tryd.func9, Tryd.ntmps9
  go_wp2_with fail
  refine HSP.out.mono ?_
  rintro e w1 ⟨rfl, hb1⟩
  have H1 := Lib.hid ((St.start Zf w).below hb1)
  clear hb1 HSP
  go_wp2_with fail
  refine (HP.out _).mono ?_
  rintro e w2 ⟨A, c, X, nx, rfl, hnx, hX, h2⟩
  obtain rfl : nx = n := hnx.symm.trans (HLEN.out X hX)
  have H2 := Lib.hid (H1.out.addStL h2)
  have HXR := Lib.hid hX
  clear h2 hnx hX H1
  go_wp2_with fail
  refine (HP.out _).mono ?_
  rintro e w3 ⟨A2, c2, Y, ny, rfl, hny, hY, h3⟩
  obtain rfl : ny = nx := hny.symm.trans (HLEN.out Y hY)
  have H3 := Lib.hid (H2.out.addStL h3)
  have HYR := Lib.hid hY
  clear h3 hny hY H2
  go_wp2_with fail
  refine (HRP.out _).mono ?_
  rintro e w4 ⟨A3, c3, Z, nz, rfl, hnz, hZ, h4⟩
  obtain rfl : nz = ny := hnz.symm.trans (HLEN.out Z hZ)
  have H4 := Lib.hid (H3.out.addStL h4).bring2
  have HZR := Lib.hid hZ
  clear h4 hnz hZ H3 HP HRP
  go_wp2
  go_loopw [34] (fun v wr => ∃ (i : Nat) (X1 : List Rq), i ≤ nz ∧ v = .int .i64 i ∧ Hid (Starred R i 0 X1) ∧ Hid (St Zf [RwsA (.slice A nz c) X1, RwsA (.slice A3 nz c3) Z, RwsA (.slice A2 nz c2) Y] w wr)) (fun v _ => nz - (intOf v).toNat)
  case atStart => exact ⟨0, X, Nat.zero_le _, rfl, Lib.hid (Starred.start HXR.out), H4⟩
  case round =>
    obtain ⟨i, X1, hi, rfl, HS1, HT1⟩ := hrel
    clear H4
    by_cases hlt : i < nz
    · obtain ⟨b, rfl⟩ := own_some HT1.out (by omega)
      have hX1 : X1.length = nz := HT1.out.rws.1.symm
      have hi1 : i < X1.length := by omega
      obtain ⟨q, -, -, -, hb⟩ := own_at HT1.out hi1
      have hRi : i < R.length := by rw [← HNR.out]; exact hlt
      have HRI : Hid (R[i]? = some R[i]) := Lib.hid (List.getElem?_eq_getElem hRi)
      have hml := (HS1.out.2 i hi1 _ HRI.out).1
      obtain ⟨m, hm⟩ : ∃ m, m = R[i].length := ⟨_, rfl⟩
      have HMR := Lib.hid hm
      have hmm : m ≤ 8388608 := by rw [hm]; exact HRL.out i _ HRI.out
      unfold Rq.v at q
      rw [hml, ← hm, Nat.zero_add] at q
      clear hml hm
      generalize X1[i].A = AQ0 at q
      generalize X1[i].c = CQ0 at q
      clear hX1 hi1
      go_wp2
      go_loopw [42] (fun v wq => ∃ (k : Nat) (X2 : List Rq), k ≤ m ∧ v = .int .i64 k ∧ Hid (Starred R i k X2) ∧ Hid (St Zf [RwsA (.slice (some ⟨b, 0, none⟩) nz c) X2, RwsA (.slice A3 nz c3) Z, RwsA (.slice A2 nz c2) Y] w wq)) (fun v _ => m - (intOf v).toNat)
      case atStart => exact ⟨0, X1, Nat.zero_le _, rfl, HS1, HT1⟩
      case round =>
        obtain ⟨k, X2, hk, rfl, HS2, HT2⟩ := hrel
        clear q HT1 HS1
        have hX2 : X2.length = nz := HT2.out.rws.1.symm
        have hi2 : i < X2.length := by omega
        have hml := (HS2.out.2 i hi2 _ HRI.out).1
        rw [← HMR.out] at hml
        by_cases hkm : k < m
        · obtain ⟨q2, -, hq3, -, -⟩ := own_at HT2.out hi2
          obtain ⟨g, hA, ⟨u0, hc⟩, hf, hs⟩ := St.storeRws HT2.out hi2 (by rw [hml]; exact hkm) starS
          unfold Rq.v at q2
          rw [hml, hA, Nat.zero_add] at q2
          rw [hml] at hq3
          have HS3 := Lib.hid (HS2.out.set hi2 (by rw [hml]; exact hkm))
          have hs' : St Zf (RwsA (.slice (some ⟨b, 0, none⟩) nz c) (X2.set i ⟨X2[i].A, X2[i].c, X2[i].L.set k starS⟩) :: [RwsA (.slice A3 nz c3) Z, RwsA (.slice A2 nz c2) Y]) w (wr.setCell ⟨g, k, none⟩ (.string ⟨#[42]⟩)) := hs
          have HSS := Lib.hid hs'
          have hil : (i : Int) < (nz : Int) := by omega
          have hkl : (k : Int) < (m : Int) := by omega
          clear hs hs' hml hA hX2
          generalize X2.set i ⟨X2[i].A, X2[i].c, X2[i].L.set k starS⟩ = X3 at HS3 HSS
          generalize X2[i].c = cq at q2 hq3
          clear hi2
          go_wp2
          go_roundw
          case rel => exact ⟨k + 1, X3, by omega, by go_num, HS3, HSS⟩
          case measure => simp [intOf]; omega
        · have HS3 := Lib.hid (HS2.out.next hi2 (by omega))
          clear hml hi2 hX2
          go_wp2
          go_roundw
          case rel => exact ⟨i + 1, X2, by omega, by go_num, HS3, HT2⟩
          case measure => simp [intOf]; omega
    · have hX1 : X1.length = nz := HT1.out.rws.1.symm
      have HPL := Lib.hid (HS1.out.plused (by omega))
      clear hX1 HS1
      go_wp2
      go_loopw [55] (fun v wq => ∃ (i : Nat) (X1 : List Rq), i ≤ nz ∧ v = .int .i64 i ∧ Hid (Plused R i 0 X1) ∧ Hid (St Zf [RwsA (.slice A nz c) X1, RwsA (.slice A3 nz c3) Z, RwsA (.slice A2 nz c2) Y] w wq)) (fun v _ => nz - (intOf v).toNat)
      case atStart => exact ⟨0, X1, Nat.zero_le _, rfl, HPL, HT1⟩
      case round =>
        obtain ⟨i, X1, hi, rfl, HS1, HT1⟩ := hrel
        clear HPL
        by_cases hlt : i < nz
        · obtain ⟨b, rfl⟩ := own_some HT1.out (by omega)
          have hRi : i < R.length := by rw [← HNR.out]; exact hlt
          have HRI : Hid (R[i]? = some R[i]) := Lib.hid (List.getElem?_eq_getElem hRi)
          have HRM : Hid (R[i].length ≤ 8388608) := Lib.hid (HRL.out i _ HRI.out)
          have hil : (i : Int) < (nz : Int) := by omega
          go_wp2
          go_loopw [12] (fun v wq => ∃ (k : Nat) (X2 : List Rq), k ≤ 16 ∧ v = .int .i64 k ∧ Hid (Plused R i k X2) ∧ Hid (St Zf [RwsA (.slice (some ⟨b, 0, none⟩) nz c) X2, RwsA (.slice A3 nz c3) Z, RwsA (.slice A2 nz c2) Y] w wq)) (fun v _ => 16 - (intOf v).toNat)
          case atStart => exact ⟨0, X1, Nat.zero_le _, rfl, HS1, HT1⟩
          case round =>
            obtain ⟨k, X2, hk, rfl, HS2, HT2⟩ := hrel
            clear HT1 HS1
            have hX2 : X2.length = nz := HT2.out.rws.1.symm
            have hi2 : i < X2.length := by omega
            by_cases hkm : k < 16
            · obtain ⟨q2, -, hq3, hq4, hb⟩ := own_at HT2.out hi2
              have hl2 : X2[i].L.length ≤ 8388700 := by
                have h := (HS2.out.2 i hi2 _ HRI.out).2.1
                have h2 := HRM.out
                rw [if_neg (by omega), if_pos rfl] at h
                omega
              have hby : (X2[i].L.length + 1) * 16 ≤ 140737488355328 := by omega
              have HO1 := Lib.hid (HT2.out.open1 hi2)
              have HAP : Hid (∀ q : Rq, q.L = X2[i].L ++ [plusS] → Plused R i (k + 1) (X2.set i q)) := Lib.hid fun q hq => HS2.out.app hi2 q hq
              have HSH : Hid (∀ (q : Rq) w7, St Zf (rowA q :: OlA Rq.v 40 (.slice (some ⟨b, 0, none⟩) nz c) X2 :: Sep ((X2.take i).map rowA) :: Sep ((X2.drop (i + 1)).map rowA) :: [RwsA (.slice A3 nz c3) Z, RwsA (.slice A2 nz c2) Y]) w w7 →
                  (∃ u0, w7.cell? ⟨b, i, none⟩ = some u0) ∧ w7.frozen? ⟨b, i, none⟩ = false ∧ St Zf [RwsA (.slice (some ⟨b, 0, none⟩) nz c) (X2.set i q), RwsA (.slice A3 nz c3) Z, RwsA (.slice A2 nz c2) Y] w (w7.setCell ⟨b, i, none⟩ q.v)) := Lib.hid fun q w7 h => by
                obtain ⟨g, hA, hc, hf, hs⟩ := St.storeHead hi2 q h
                injection hA with hA
                injection hA with e1 e2 _
                subst e1
                exact ⟨hc, hf, hs⟩
              have HOL : Hid (OL svl wr 0 9 (.slice X2[i].A X2[i].L.length X2[i].c) X2[i].L) := Lib.hid HO1.out.ol
              have HGR : Hid (∀ (v' : Value) (w' : World) (O : Rw), OL svl w' 0 9 v' O → wr.grownBy w' (Value.slice X2[i].A X2[i].L.length X2[i].c).ownBlock → (v'.ownBlock = (Value.slice X2[i].A X2[i].L.length X2[i].c).ownBlock ∨ v'.ownBlock = some (wr.heap.size + 1)) → St Zf (OlA svl 9 v' O :: OlA Rq.v 40 (.slice (some ⟨b, 0, none⟩) nz c) X2 :: Sep ((X2.take i).map rowA) :: Sep ((X2.drop (i + 1)).map rowA) :: [RwsA (.slice A3 nz c3) Z, RwsA (.slice A2 nz c2) Y]) w w') := Lib.hid fun v' w' O h1 h2 h3 => St.grewOl (v := .slice X2[i].A X2[i].L.length X2[i].c) (L := X2[i].L) HO1.out h1 h2 h3 (Nat.le_succ _)
              unfold Rq.v at q2
              rw [Nat.zero_add] at q2
              clear HO1 hl2 hX2
              generalize X2[i].L = L2 at *
              generalize X2[i].A = AQ at *
              generalize X2[i].c = cQ at *
              generalize hX3 : X2.set i = X3 at HAP HSH
              clear hi2 hX3
              go_wp2_with (at_builtin; refine wpList_append_elemN _ rfl _ _ 40 rfl 0 9 j0 _ 16 Tryd.underlying40 hj hy0 hy1 hy2 rfl _ L2 (by rfl) HOL.out plusS (svl_ok _) _ rfl (by rfl) hby (by omega) (Nat.zero_le _) ?_; intro v7 w7 hown7 hg7 hat7; have h7 := HGR.out _ _ _ hown7 hg7 hat7; obtain ⟨O, hO⟩ : ∃ O, O = L2 ++ [plusS] := ⟨_, rfl⟩; rw [← hO] at hown7 h7; obtain ⟨A7, c7, rfl, -, -, -, -⟩ := hown7.form; obtain ⟨⟨u7, hu7⟩, hf7, hs7⟩ := HSH.out ⟨A7, c7, O⟩ w7 h7; have HPN := Lib.hid (HAP.out ⟨A7, c7, O⟩ hO); have H7 := Lib.hid hs7; clear hown7 hg7 hat7 h7 hO hs7)
              go_roundw
              case rel => exact ⟨k + 1, X3 ⟨A7, c7, O⟩, by omega, by go_num, HPN, H7⟩
              case measure => simp [intOf]; omega
            · obtain rfl : k = 16 := by omega
              have HS3 := Lib.hid HS2.out.next
              clear hi2 hX2
              go_wp2
              go_roundw
              case rel => exact ⟨i + 1, X2, by omega, by go_num, HS3, HT2⟩
              case measure => simp [intOf]; omega
        · have hX1 : X1.length = nz := HT1.out.rws.1.symm
          have hZl : Z.length = nz := HLEN.out Z HZR.out
          obtain ⟨w5, hw5⟩ : ∃ z, z = wr := ⟨_, rfl⟩
          rw [← hw5] at HT1
          rw [← hw5]
          have HXL := Lib.hid hX1
          have HZL := Lib.hid hZl
          have hss : (starS.toList == [42]) = true := by rw [ByteArray.toList_eq]; decide
          clear hw5 hX1 hZl
          go_wp2
          go_loopw [74] (fun v wq => ∃ i : Nat, i ≤ nz ∧ v = .int .i64 i ∧ wq = w5) (fun v _ => nz - (intOf v).toNat)
          case atStart => exact ⟨0, Nat.zero_le _, rfl, rfl⟩
          case round =>
            obtain ⟨i, hi, rfl, rfl⟩ := hrel
            by_cases hlt : i < nz
            · obtain ⟨b, rfl⟩ := own_some HT1.out (by omega)
              obtain ⟨b3, rfl⟩ := own_some HT1.out.swap (by omega)
              have hiX : i < X1.length := by rw [HXL.out]; exact hlt
              have hiZ : i < Z.length := by rw [HZL.out]; exact hlt
              obtain ⟨q, hq1, hq2, hq3, hb⟩ := own_at HT1.out hiX
              obtain ⟨p, hp1, hp2, hp3, hb3⟩ := own_at HT1.out.swap hiZ
              have hRZ := R_at HZR.out hiZ
              obtain ⟨hs1, -, hs3⟩ := HS1.out.2 i hiX _ hRZ
              have hil : (i : Int) < (nz : Int) := by omega
              have hrm := HRL.out i _ hRZ
              have HST : Hid (∀ p, p < Z[i].L.length → X1[i].L[p]? = some starS) := Lib.hid hs3
              have HQ1 := Lib.hid hq1
              unfold Rq.v at q p
              rw [Nat.zero_add] at q p
              clear hq1 hp1 hp2 hp3 hs3 hRZ
              generalize Z[i].L.length = m at *
              generalize Z[i].A = AZ at *
              generalize Z[i].c = cZ at *
              generalize X1[i].L = L1 at *
              generalize X1[i].A = AX at *
              generalize X1[i].c = cX at *
              clear hiX hiZ
              go_wp2
              go_loopw [86] (fun v wq => ∃ k : Nat, k ≤ m ∧ v = .int .i64 k ∧ wq = wr) (fun v _ => m - (intOf v).toNat)
              case atStart => exact ⟨0, Nat.zero_le _, rfl, rfl⟩
              case round =>
                obtain ⟨k, hk, rfl, rfl⟩ := hrel
                by_cases hkm : k < m
                · obtain ⟨g, off, rfl, hg, hcell⟩ := HQ1.out.allS (by omega)
                  have hc := hcell k (by omega)
                  have hst : nthS L1 k = starS := by
                    have h := HST.out k hkm
                    rw [List.getElem?_eq_getElem (by omega)] at h
                    rw [nthS_lt (by omega)]
                    exact Option.some.inj h
                  rw [hst] at hc
                  have hkl : (k : Int) < (L1.length : Int) := by omega
                  have hk1 : decide ((L1.length : Int) ≤ (k : Int)) = false := decide_eq_false (by omega)
                  have hk2 : decide (L1.length ≤ k) = false := decide_eq_false (by omega)
                  clear hcell hst
                  go_wp2
                  go_roundw
                  case rel => exact ⟨k + 1, by omega, by go_num, by first | rfl | trivial⟩
                  case measure => simp [intOf]; omega
                · go_wp2
                  go_roundw
                  case rel => exact ⟨i + 1, by omega, by go_num, by first | rfl | trivial⟩
                  case measure => simp [intOf]; omega
            · have h8 : St Zf [OlA Rq.v 40 (.slice A nz c) X1, Sep (X1.map rowA), RwsA (.slice A3 nz c3) Z, RwsA (.slice A2 nz c2) Y] w (wr.alloc (.cells #[.string ⟨#[43]⟩] 9)) := St.flat (l' := [_, _]) (HT1.out.alloc _)
              have H8 := Lib.hid h8
              have hby : (X1.length + 1) * 24 ≤ 140737488355328 := by rw [HXL.out]; omega
              clear h8
              go_wp2_with (at_builtin; refine wpList_append_elemN _ rfl _ _ 22 rfl 0 40 i0 z0 24 Tryd.underlying22 hi0 hz0 hz1 hz2 hz3 _ X1 (by rfl) H8.out.ol ⟨some ⟨wr.heap.size, 0, none⟩, 1, [plusS]⟩ (rqv_ok _) (wr.heap.size + 1) (by simp) (by rfl) hby (by omega) (Nat.zero_le _) ?_; intro v9 w9 hown9 hg9 hat9; have h9 := H8.out.grewOl hown9 hg9 hat9 (Nat.le_succ _); obtain ⟨O, hO⟩ : ∃ O, O = X1 ++ [(⟨some ⟨wr.heap.size, 0, none⟩, 1, [plusS]⟩ : Rq)] := ⟨_, rfl⟩; rw [← hO] at hown9 h9; obtain ⟨A9, c9, rfl, -, -, -, -⟩ := hown9.form; have H9 := Lib.hid h9.drop.drop; clear hown9 hg9 hat9 h9 hO)
              have hsm := Same_w A2 A3 c2 c3 _ _ Y Z w9 (H9.out.swap.rws).2.2.2 (H9.out.rws).2.2.2 (by rw [HYR.out]; exact HWT.out) (by rw [HZR.out]; exact HWT.out)
              rw [HLEN.out Y HYR.out, HLEN.out Z HZR.out, decide_eq_true (HYR.out.trans HZR.out.symm)] at hsm
              have HSM := Lib.hid hsm
              have HB := Lib.hid H9.out.bel
              clear hsm
              go_wp2_with fail
              refine HSM.out.mono ?_
              rintro e w10 ⟨rfl, k10, rfl⟩
              go_wp2
              go_ret
              exact ⟨rfl, below_drewN HB.out _⟩

/-! ### THE ROW's STEP -/
theorem own : ownKnob Tryd.prog.godebug = none := by kernel_rfl
theorem laidOut : laidOutB Tryd.prog = true := by kernel_rfl

set_option maxRecDepth 100000 in
theorem contract (H : Type) (enc : TypeId × Value → H) (W : World) (base : Nat) (args : Array Value) (ds gs : List (DataW H)) (before : List MemPlace)
    (hval0 : ∀ (j : Nat) t v, Tryd.f9.params[j]? = some t → args[j]? = some v → Value.okWide Tryd.prog W .any base t v)
    (hW : DataW.Whole enc Tryd.prog Tryd.f9.params.toList Rows.csvOwnSpec.vars false W args.toList ds gs before)
    (hk : Rows.uptoSmall H (ds ++ gs) = true)
    (hsz : (DataW.weightsEach Tryd.prog (Tryd.f9.params.toList ++ (Rows.OpenSpec.upto Rows.csvOwnSpec).bare.plain.varTypes Tryd.prog) (ds ++ gs)).all (· ≤ reachBytes) = true) (hL : laidMetH Tryd.prog Rows.csvOwnUptoRow.laid W) (hSh : W.ShapedOpen Tryd.prog) :
    Calls Tryd.prog 9 args W fun e W' => ∃ v, e = .returned v ∧ Rows.csvOwnSpec.post enc Tryd.prog Tryd.f9 false true false false W args v W' := by
  have hval : ∀ (j : Nat) t v, Tryd.f9.params[j]? = some t → args[j]? = some v → Value.okWide Tryd.prog W .any base t v := hval0
  have hW' := hW
  obtain ⟨p, q, hA0, hV, rfl, hfz, hnd⟩ := hW
  have hA : DataW.TrodAll enc Tryd.prog W 0 (fun _ => true) true Tryd.f9.params.toList args.toList ds p := hA0
  rw [Tryd.params9] at hA hval
  obtain ⟨v0, vs0, d0, ds0, p0, q0, hargs, rfl, rfl, h0, r0⟩ := trodAll_cons hA
  obtain ⟨rfl, rfl, rfl⟩ := trodAll_nil r0
  obtain rfl : args = #[v0] := by cases args; simp_all
  obtain ⟨rfl, rfl⟩ := trodVars_none hV
  have k0 := h0
  have lt0 : ∀ x ∈ p0, x.block < W.heap.size := by obtain ⟨m, hm⟩ := k0; exact DataW.trod_lt m _ _ _ hm
  have w0 := reach_at hsz (j := 0) rfl rfl
  have u0 : Rows.uptoBulk d0 ≤ 1048576 := bulk_at hk (by simp)
  clear hA0 hval0 hsz
  obtain ⟨s0, rfl, hx0⟩ := open_csvtext (hval 0 _ v0 rfl rfl) w0 h0 lt0 u0
  refine (walk W (mw_of hSh) hx0).mono fun e W' ⟨he, bel⟩ => ?_
  subst he
  exact ⟨_, rfl, _, _, _, [], _, [], hW', trodAll_mk1 (shut_bool Tryd.underlying4 _), (trodAll_cons_mk (Below.trod laidOut (by kernel_rfl) (of_decide_eq_true (by kernel_rfl)) k0 bel lt0) trodAll_mk0), rfl, bel.frame _, fun h => by cases h⟩

theorem laid_met (os : Os) : laidMet Tryd.prog Rows.csvOwnUptoRow.laid ((laidWorld os).forCall (fun _ _ => 0) ⟨#[], #[.string ByteArray.empty], []⟩).memory :=
  laid_met0 os
theorem reads (os : Os) {H : Type} (enc : TypeId × Value → H) : ∃ places, DataW.whole enc Tryd.prog ((laidWorld os).forCall (fun _ _ => 0) ⟨#[], #[.string ByteArray.empty], []⟩).memory Tryd.f9.params.toList Rows.csvOwnSpec.vars false (#[.string ByteArray.empty] : Array Value).toList 8 = some ([.lit (.string [])], [], places) :=
  ⟨[], by kernel_rfl⟩

set_option maxRecDepth 100000 in
theorem lifted (os : Os) (started : os.Started) (H : Type) (enc : TypeId × Value → H) (F : Stop.Interp) :
    ReturnsInHanded {} Tryd.checked os 9 .any ((Rows.OpenSpec.upto Rows.csvOwnSpec).preRow enc Tryd.prog Tryd.f9 Rows.csvOwnUptoRow.domain false Rows.csvOwnUptoRow.laid) (((Rows.OpenSpec.upto Rows.csvOwnSpec).at F).post enc Tryd.prog Tryd.f9 false true false false) := by
  obtain ⟨places, hx⟩ := reads os enc
  refine returnsInHanded_of_row (C := Tryd.checked) (s := (Rows.OpenSpec.upto Rows.csvOwnSpec)) own started (by kernel_rfl) Tryd.func9
    (witness_row_at (enc := enc) (C := Tryd.checked) false (laidWorld os) #[.string ByteArray.empty] rfl (by kernel_rfl) (by kernel_rfl) (by kernel_rfl)
      (OpenSpec.preRow_of_cond 8 hx (by kernel_rfl) (fun k hk => by cases hk; kernel_rfl) (by kernel_rfl) (laid_met os))) ?_
  intro W base args ds gs before hval hW _ hcond hsz hL hSh _
  exact contract H enc W base args ds gs before hval hW (hcond _ rfl) hsz hL hSh

theorem said : Rows.CsvOwnUptoSaid :=
  OpenClaim.holds_of_cond 9 Tryd.f9 rfl rfl rfl rfl rfl rfl rfl ⟨rfl, rfl, rfl, rfl, rfl⟩ rfl rfl rfl rfl rfl (by kernel_rfl) Tryd.func9 (by kernel_rfl)
    (of_decide_eq_true (by kernel_rfl)) (by unfold Func.isWrapper; rw [if_neg (of_decide_eq_false (by kernel_rfl))]; exact ⟨rfl, rfl⟩)
    (fun os started H enc _ F => by rw [OpenClaim.pre_eq_preRow]; exact lifted os started H enc F)

theorem noStandIn : ∀ t ∈ ([9] : List TypeId), Tryd.prog.wantsStandIn t = false := by
  intro t ht
  simp only [List.mem_cons, List.not_mem_nil, or_false] at ht
  rcases ht with rfl
  · exact (show Tryd.prog.wantsStandIn 9 = false by kernel_rfl)
theorem plain (f : FuncId) (fn : Func) (hf : Tryd.pinned.checked.prog.funcNamed "satchel/satchellaw21.CsvOwn" = some f) (hfn : Tryd.pinned.checked.prog.funcs[f]? = some fn) :
    false = Tryd.pinned.checked.prog.looks [] ∧ ∀ (j : Nat) t, fn.params[j]? = some t → Tryd.pinned.checked.prog.wantsStandIn t = false := by
  obtain rfl : f = 9 := Option.some.inj ((show Tryd.prog.funcNamed "satchel/satchellaw21.CsvOwn" = some 9 by kernel_rfl).symm.trans hf) |>.symm
  obtain rfl : fn = Tryd.f9 := (Option.some.inj (Tryd.func9.symm.trans hfn)).symm
  refine ⟨by kernel_rfl, fun j t ht => ?_⟩
  rw [Tryd.params9] at ht
  exact noStandIn t (by simpa using Array.mem_of_getElem? ht)

/-- THE CARD -/
theorem proved : Rows.CsvOwnUptoCardSaid :=
  Claim7.holds_tied_plain_at .later [] _ _ _ _ said (fun _ h => by cases h) (by kernel_rfl) (fun _ h => by cases h) csvOwnUpto_row_tie rfl ⟨rfl, rfl⟩ (by kernel_rfl) rfl plain (by kernel_rfl)
end Go.Proofs.YtmdljfpkbfhbdaaDoor.csvOwn

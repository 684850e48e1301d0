/- Rows goes over the rows of any text, of bulk at most 1048576, up to the first error, twice, and once ended behind the first, whatever is written over what it hands on. utf8's tables stand as the program's text lays them (the card ties them; no walk reads them). -/
import Derived.Test.YtmdljfpkbfhbdaaDoorOpen
import Derived.Test.YtmdljfpkbfhbdaaDoorCards
import Derived.Test.YtmdljfpkbfhbdaaDoorTie
import Derived.Deep.DeepHandedRow
import Derived.Lib.LaidTab
import Derived.Test.YtmdljfpkbfhbdaaDoorBulk
import Derived.Deep.CondSized
import Derived.Test.YtmdljfpkbfhbdaaDoorCsGo
import Derived.Test.YtmdljfpkbfhbdaaDoorCsOpen
import Derived.Test.YtmdljfpkbfhbdaaDoorCsLaid
namespace Go.Proofs.YtmdljfpkbfhbdaaDoor.csvGoes
open Go.ChangeShapes Go.WideShapes Go.ChangeAt Go.RowKit
open Go.ChangeMaps (open_string shut_string)
set_option linter.unusedVariables false
set_option linter.unusedSimpArgs false

attribute [local go_sem] Oper.semAt_some
open Go.Shelf in
set_option maxRecDepth 100000 in
set_option maxHeartbeats 2000000 in
theorem walk (w : World) (hM : MW w) {s : ByteArray} (hx : s.size ≤ 1048576) :
    Calls Tryd.prog 5 #[.string s] w fun e w' => e = .returned (.bool true) ∧ Below w.heap.size w w' := by
  have HX := Lib.hid hx
  have HM := Lib.hid hM
  have HSP : Hid (∀ W, Below w.heap.size w W → Calls Tryd.prog 10 #[] W fun e w' => e = .returned (.bool true) ∧ Below W.heap.size W w') := Lib.hid fun W hb => speaks21_any W (HM.out.below hb HM.out.pos)
  have HRD := Lib.hid fun W => Read_any s W (by omega)
  have h0 := (St.start Zf w).newBlk 4 #[.bool false]
  have H0 := Lib.hid h0
  clear hM hx h0
  refine (callsIn_wide (n := 10)).1 ?_
  refine callsIn_of_wp_marks Tryd.func5 rfl trivial ?_ rfl
  simp only [Tryd.ntmps5, List.size_toArray, List.length_cons, List.length_nil, Nat.reduceAdd, Nat.reduceSub, Array.replicate_succ, Array.replicate_zero, List.push_toArray, List.append_toArray, List.nil_append, List.cons_append]
  gi_wp2_with fail
  refine ⟨trivial, (callsIn_wide.2 (Rows_any _ _)).mono ?_⟩
  rintro e w1 ⟨rfl, hw1⟩
  have h1 := H0.out.newBlk 9 #[.string s]
  rw [hw1] at h1
  simp only [World.size_alloc] at h1 ⊢
  have H1 := Lib.hid h1
  clear h1 hw1 H0
  gi_wp2_with fail
  rw [run_eqlNilFunc Tryd.underlying38]
  gi_wp2_with fail
  refine ⟨trivial, (callsIn_wide.2 (HSP.out _ H1.out.bel)).mono ?_⟩
  rintro e w2 ⟨rfl, hb2⟩
  have H2 := Lib.hid (H1.out.below hb2)
  clear hb2 H1
  gi_wp2_with fail
  refine ⟨trivial, (callsIn_wide.2 (HRD.out _)).mono ?_⟩
  rintro e w3 ⟨A, c, X, rfl, hX, h3⟩
  have H3 := Lib.hid (H2.out.addStL h3)
  have HXL : Hid (X.length = (csvR (lS s)).1.length) := Lib.hid (by rw [← hX]; simp [rowsOf])
  have hlen : X.length ≤ 8388608 := by
    have h1 := rows_few (csvR (lS s)).1
    have h2 := csvR_weight (lS s)
    rw [lS_len] at h2
    have h4 := HX.out
    rw [HXL.out]
    omega
  have HXR := Lib.hid hX
  generalize hE : (csvR (lS s)).2 = E
  have HE := Lib.hid hE
  clear h3 hX H2 hE
  have H4 := Lib.hid ((H3.out.newBlk 22 #[.slice A X.length c]).newBlk 3 #[.int .i64 E])
  simp only [World.size_alloc] at H4
  by_cases h0 : E = 0
  · have hEb : (E != 0) = false := by simp [h0]
    have HS : Hid ((X.length : Int) = ((evc (lS s)).length : Int)) := Lib.hid (by rw [evc_count, if_pos (HE.out.trans h0), HXL.out])
    have h5 := H4.out.newBlk 3 #[.int .i64 (X.length : Int)]
    simp only [World.size_alloc] at h5
    have h6 := h5.newBlk 3 #[.int .i64 0]
    simp only [World.size_alloc] at h6
    have H6 := Lib.hid h6
    clear h5 h6 h0 H4 H3
    gi_wp2_with fail
    clear hEb
    refine wpIn_loopK (fun a W => ∃ (r : Nat) (D : List (Nat × Nat × Obj)) (g7 : Nat) (t8 t28 t29 t30 t31 t32 t33 t34 t35 t89 t90 t91 t92 t93 t94 t95 t96 t97 t98 t99 t100 t101 t102 t103 t104 t105 t106 : Value) (SI : Int), (r ≤ 3 ∧ D.length = r ∧ a = { tmps := #[.string s, undef, .pointer (some ⟨w.heap.size, 0, none⟩), .func (.func 22) #[] #[.pointer (some ⟨w.heap.size + 1, 0, none⟩)], .pointer (some ⟨w3.heap.size, 0, none⟩), .pointer (some ⟨w3.heap.size + 1, 0, none⟩), .pointer (some ⟨w3.heap.size + 1 + 1, 0, none⟩), .pointer (some ⟨g7, 0, none⟩), t8, undef, undef, undef, .string s, .func (.func 22) #[] #[.pointer (some ⟨w.heap.size + 1, 0, none⟩)], .func (.func 22) #[] #[.pointer (some ⟨w.heap.size + 1, 0, none⟩)], .bool false, .bool false, .bool true, .bool false, .bool false, .tuple #[.slice A X.length c, .int .i64 E], .string s, .tuple #[.slice A X.length c, .int .i64 E], .slice A X.length c, .int .i64 E, .slice A X.length c, .int .i64 (X.length : Int), .int .i64 E, t28, t29, t30, t31, t32, t33, t34, t35, undef, undef, undef, undef, undef, undef, undef, undef, undef, undef, undef, undef, undef, undef, undef, undef, undef, undef, undef, undef, undef, undef, undef, undef, undef, undef, undef, undef, undef, undef, undef, undef, undef, undef, undef, undef, undef, undef, undef, undef, undef, undef, undef, undef, undef, undef, undef, undef, undef, undef, undef, undef, undef, t89, t90, t91, t92, t93, t94, t95, t96, t97, t98, t99, t100, t101, t102, t103, t104, t105, t106], defers := D.map markD } ∧ SI = ((evc (lS s)).length : Int)) ∧ Hid (St Zf (BlkA g7 3 #[.int .i64 r] :: Sep (D.map recD) :: goL w w3.heap.size s A c X E SI) w W)) (fun a W => 3 - a.defers.length) ?h0 ?round
    case h0 =>
      refine ⟨0, [], w3.heap.size + 1 + 1 + 1, _, _, _, _, _, _, _, _, _, _, _, _, _, _, _, _, _, _, _, _, _, _, _, _, _, _, _, _, ⟨by omega, rfl, rfl, HS.out⟩, Lib.hid ?_⟩
      exact (H6.out.bring5.bring2.bring3.bring4.bring5.bring6.bring6.nilSep).swap
    case round =>
      clear H6
      rintro a W ⟨r, D, g7, t8, t28, t29, t30, t31, t32, t33, t34, t35, t89, t90, t91, t92, t93, t94, t95, t96, t97, t98, t99, t100, t101, t102, t103, t104, t105, t106, SI, ⟨hr, hD, rfl, hSI⟩, H⟩ K HK
      have hg7 := H.out.blk
      have c7 : W.cell? ⟨g7, 0, none⟩ = some (.int .i64 (r : Int)) := by rw [hg7.cell 0]; rfl
      have HSI := Lib.hid hSI
      have HD := Lib.hid hD
      clear hg7 hSI hD
      by_cases hlt : (r : Int) < 3
      · have h1 := H.out.newBlk 3 #[.int .i64 0]
        gi_wp2_with fail
        clear H c7
        generalize W.alloc (.cells #[.int .i64 0] 3) = W1 at h1 ⊢
        generalize W.heap.size = g8 at h1 ⊢
        have H1 : Hid (St Zf (goQ w w3.heap.size s A c X E SI g7 g8 r 0 D) w W1) := Lib.hid h1
        clear h1
        rename_i K2 hK2
        have HAFT : Hid (∀ (k : Nat) (o : Obj) (W2 : World), (r ≠ 1 → (k : Int) = SI) → (r = 1 → (k : Int) = min 1 SI) → St Zf (RecA (W1.heap.size + 1) W1.heap.size o :: goQ w w3.heap.size s A c X E SI g7 g8 r k D) w W2 →
            K2 { tmps := #[.string s, undef, .pointer (some ⟨w.heap.size, 0, none⟩), .func (.func 22) #[] #[.pointer (some ⟨w.heap.size + 1, 0, none⟩)], .pointer (some ⟨w3.heap.size, 0, none⟩), .pointer (some ⟨w3.heap.size + 1, 0, none⟩), .pointer (some ⟨w3.heap.size + 1 + 1, 0, none⟩), .pointer (some ⟨g7, 0, none⟩), .pointer (some ⟨g8, 0, none⟩), undef, undef, undef, .string s, .func (.func 22) #[] #[.pointer (some ⟨w.heap.size + 1, 0, none⟩)], .func (.func 22) #[] #[.pointer (some ⟨w.heap.size + 1, 0, none⟩)], .bool false, .bool false, .bool true, .bool false, .bool false, .tuple #[.slice A X.length c, .int .i64 E], .string s, .tuple #[.slice A X.length c, .int .i64 E], .slice A X.length c, .int .i64 E, .slice A X.length c, .int .i64 (X.length : Int), .int .i64 E, t28, t29, t30, .int .i64 r, .bool true, t33, t34, .func (.func 22) #[] #[.pointer (some ⟨w.heap.size + 1, 0, none⟩)], undef, undef, undef, undef, undef, undef, undef, undef, undef, undef, undef, undef, undef, undef, undef, undef, undef, undef, undef, undef, undef, undef, undef, undef, undef, undef, undef, undef, undef, undef, undef, undef, undef, undef, undef, undef, undef, undef, undef, undef, undef, undef, undef, undef, undef, undef, undef, undef, undef, undef, undef, undef, undef, t89, t90, t91, t92, t93, t94, t95, t96, t97, t98, t99, t100, t101, t102, t103, t104, t105, t106], defers := { target := .collected W1.heap.size, args := #[] } :: D.map markD } W2) := Lib.hid (by
          intro k o W2 hk1 hk2 h
          obtain ⟨⟨c8, -⟩, c7, -, -, c6, -⟩ := goQ_at h.drop
          have h9 := (h.swap.drop.swap.drop.consD).newBlk 3 #[.int .i64 ((r : Int) + 1)]
          have H9 := Lib.hid h9
          have hr9 : (r : Int) < 140737488355328 := by omega
          refine hK2 _ _ ?_
          by_cases hr1 : r = 1
          · subst hr1
            have hk : (k : Int) = min 1 SI := hk2 rfl
            have H8 := Lib.hid ((h.swap.drop.swap.drop.consD).newBlk 3 #[.int .i64 2])
            clear h h9 hk1 hk2
            gi_wp2_with fail
            exact HK.out _ _ ⟨1 + 1, (W1.heap.size + 1, W1.heap.size, o) :: D, W2.heap.size, _, _, _, _, _, _, _, _, _, _, _, _, _, _, _, _, _, _, _, _, _, _, _, _, _, _, _, SI, ⟨by omega, by rw [List.length_cons, HD.out], rfl, HSI.out⟩, Lib.hid (by rw [show ((1 + 1 : Nat) : Int) = 2 from rfl]; exact H8.out)⟩ (by simp only [List.length_cons, List.length_map, HD.out]; omega)
          · have hk : (k : Int) = SI := hk1 hr1
            have hb1 : ((r : Int) != 1) = true := by simp; omega
            have hb2 : ((r : Int) == 1) = false := by simp; omega
            have hb3 : ((k : Int) != SI) = false := by simp [hk]
            clear h h9 hk1 hk2
            gi_wp2_with fail
            exact HK.out _ _ ⟨r + 1, (W1.heap.size + 1, W1.heap.size, o) :: D, W2.heap.size, _, _, _, _, _, _, _, _, _, _, _, _, _, _, _, _, _, _, _, _, _, _, _, _, _, _, _, SI, ⟨by omega, by rw [List.length_cons, HD.out], rfl, HSI.out⟩, Lib.hid (by rw [show ((r + 1 : Nat) : Int) = (r : Int) + 1 by omega]; exact H9.out)⟩ (by simp only [List.length_cons, List.length_map, HD.out]; omega))
        have hEA : ∀ o pre V, (∃ i : Unit, (r = 1 → pre = []) ∧ St Zf (RecA (W1.heap.size + 1) W1.heap.size o :: LentA pre.getLast? :: goQ w w3.heap.size s A c X E SI g7 g8 r pre.length D) w V) → TxA (w.heap.size + 1) s V := by
          rintro o pre V ⟨i, -, h⟩
          exact (goQ_at h.drop.drop).2.2.2.2.2
        refine wpIn_rangeW rfl (gf := 22) (lb := #[.pointer (some ⟨w.heap.size + 1, 0, none⟩)]) rfl (enters_of Tryd.func22 (by kernel_rfl) rfl) (encs := Cx.enc) (fun _ => rfl)
          (rows_seq (w.heap.size + 1) s (by have := HX.out; omega))
          (fun o pre W => ∃ i : Unit, (r = 1 → pre = []) ∧ St Zf (RecA (W1.heap.size + 1) W1.heap.size o :: LentA pre.getLast? :: goQ w w3.heap.size s A c X E SI g7 g8 r pre.length D) w W)
          (fun o pre x W => ∃ i : Unit, ((r = 1 → pre = []) ∧ (∃ rr, evc (lS s) = pre.map Cx.ev ++ x.ev :: rr) ∧ x.row.length ≤ (lS s).length + 1) ∧ St Zf (RecA (W1.heap.size + 1) W1.heap.size o :: RdA x.g x.rest :: OlA svl 9 x.v x.row :: goQ w w3.heap.size s A c X E SI g7 g8 r pre.length D) w W)
          (fun o pre x a W => ∃ i : Unit, (((r = 1 → pre = []) ∧ (∃ rr, evc (lS s) = pre.map Cx.ev ++ x.ev :: rr) ∧ x.row.length ≤ (lS s).length + 1) ∧ a = { tmps := #[.string s, undef, .pointer (some ⟨w.heap.size, 0, none⟩), .func (.func 22) #[] #[.pointer (some ⟨w.heap.size + 1, 0, none⟩)], .pointer (some ⟨w3.heap.size, 0, none⟩), .pointer (some ⟨w3.heap.size + 1, 0, none⟩), .pointer (some ⟨w3.heap.size + 1 + 1, 0, none⟩), .pointer (some ⟨g7, 0, none⟩), .pointer (some ⟨g8, 0, none⟩), .slice x.A x.row.length x.c, .int .i64 x.e, undef, .string s, .func (.func 22) #[] #[.pointer (some ⟨w.heap.size + 1, 0, none⟩)], .func (.func 22) #[] #[.pointer (some ⟨w.heap.size + 1, 0, none⟩)], .bool false, .bool false, .bool true, .bool false, .bool false, .tuple #[.slice A X.length c, .int .i64 E], .string s, .tuple #[.slice A X.length c, .int .i64 E], .slice A X.length c, .int .i64 E, .slice A X.length c, .int .i64 (X.length : Int), .int .i64 E, t28, t29, t30, .int .i64 r, .bool true, t33, t34, .func (.func 22) #[] #[.pointer (some ⟨w.heap.size + 1, 0, none⟩)], .slice x.A x.row.length x.c, .int .i64 x.e, undef, undef, undef, undef, undef, undef, undef, undef, undef, undef, undef, undef, undef, undef, undef, undef, undef, undef, undef, undef, undef, undef, undef, undef, undef, undef, undef, undef, undef, undef, undef, undef, undef, undef, undef, undef, undef, undef, undef, undef, undef, undef, undef, undef, undef, undef, undef, undef, undef, undef, undef, t89, t90, t91, t92, t93, t94, t95, t96, t97, t98, t99, t100, t101, t102, t103, t104, t105, t106], defers := [] }) ∧ St Zf (RecA (W1.heap.size + 1) W1.heap.size o :: RdA x.g x.rest :: OlA svl 9 x.v x.row :: goQ w w3.heap.size s A c X E SI g7 g8 r pre.length D) w W)
          (fun cd o pre W => ∃ i : Unit, (cd = .exit 2 ∧ r = 1 ∧ (1 : Int) ≤ SI) ∧ St Zf (RecA (W1.heap.size + 1) W1.heap.size o :: goQ w w3.heap.size s A c X E SI g7 g8 r 1 D) w W)
          (fun o pre x W => ∃ i : Unit, r ≠ 1 ∧ St Zf (RecA (W1.heap.size + 1) W1.heap.size o :: RdA x.g x.rest :: goQ w w3.heap.size s A c X E SI g7 g8 r (pre ++ [x]).length D) w W)
          (fun o xs W => ∃ i : Unit, ((r = 1 → xs = []) ∧ (xs.length : Int) = SI) ∧ St Zf (RecA (W1.heap.size + 1) W1.heap.size o :: goQ w w3.heap.size s A c X E SI g7 g8 r xs.length D) w W)
          ?bI ?bM ?bN ?bX ?bR ?bZ hEA ?hY ?hR ?hT ?h0 ?assign ?body ?done ?stop
        case hY =>
          rintro o pre x V V1 ⟨i, hf, h⟩ ⟨h1, h2, h3, h4⟩
          exact ⟨i, ⟨hf, h3, h4⟩, (lent_turn h.swap h1 h2).bring2⟩
        case bI => exact fun pre => bears_ex (ι := Unit) (g := fun _ => LentA pre.getLast? :: goQ w w3.heap.size s A c X E SI g7 g8 r pre.length D)
        case bM => exact fun pre x => bears_ex (ι := Unit) (g := fun _ => RdA x.g x.rest :: OlA svl 9 x.v x.row :: goQ w w3.heap.size s A c X E SI g7 g8 r pre.length D)
        case bN => exact fun pre x a => bears_ex (ι := Unit) (g := fun _ => RdA x.g x.rest :: OlA svl 9 x.v x.row :: goQ w w3.heap.size s A c X E SI g7 g8 r pre.length D)
        case bX => exact fun cd pre => bears_ex (ι := Unit) (g := fun _ => goQ w w3.heap.size s A c X E SI g7 g8 r 1 D)
        case bR => exact fun pre x => bears_ex (ι := Unit) (g := fun _ => RdA x.g x.rest :: goQ w w3.heap.size s A c X E SI g7 g8 r (pre ++ [x]).length D)
        case bZ => exact fun xs => bears_ex (ι := Unit) (g := fun _ => goQ w w3.heap.size s A c X E SI g7 g8 r xs.length D)
        case hR =>
          rintro o pre x V ⟨i, hf, h⟩
          have e : (pre ++ [x]).getLast? = some x := by simp
          refine ⟨⟨i, fun h1 => absurd h1 hf, ?_⟩, h.swap.blk⟩
          rw [e]
          exact h
        case hT =>
          rintro o xs V ⟨i, h1, h⟩ (ht : xs.map Cx.ev = evc (lS s))
          refine ⟨i, ⟨h1, ?_⟩, h.swap.drop⟩
          rw [HSI.out, ← ht, List.length_map]
        case h0 =>
          intro o
          refine ⟨(), fun _ => rfl, ?_⟩
          exact (H1.out.nilSep).recNew o
        case assign =>
          rintro o pre x W ⟨i, hf, h⟩
          have HH := Lib.hid h
          have HF := Lib.hid hf
          clear h hf
          simp only [Cx.enc]
          gi_wp2
          exact ⟨HF.out, HH.out⟩
        case done =>
          rintro o xs W ⟨i, ⟨h1, h2⟩, h⟩
          refine HAFT.out xs.length o W (fun _ => h2) (fun h3 => ?_) h
          have h4 := h1 h3
          subst h4
          have h5 : (0 : Int) = SI := h2
          rw [← h5]
          rfl
        case stop =>
          rintro o cd pre W _ ⟨i, ⟨rfl, h1, h2⟩, h⟩
          exact wpIn_exit (HAFT.out 1 o W (fun h3 => absurd h1 h3) (fun _ => by omega) h)
        case body =>
          rintro o pre ⟨row, xe, XA, XC, xg, xr⟩ a W ⟨i, ⟨⟨hpr, ⟨rr, hev⟩, hxl⟩, rfl⟩, h⟩
          clear HAFT hEA H1 HK hK2
          have hat := evc_at hev
          rw [List.length_map, ← HXL.out, HE.out] at hat
          have hkN : (pre.length : Int) < SI := by rw [HSI.out, hev]; simp; omega
          have hnp : (1 : Int) ≤ SI := by omega
          have HPR := Lib.hid hpr
          have HNP := Lib.hid hnp
          clear hev hpr hnp
          dsimp only [Cx.ev, Cx.v] at hat h hxl ⊢
          generalize hk0 : pre.length = k at hat hkN h
          have HK0 := Lib.hid hk0
          clear hk0
          have hrl : row.length ≤ 1048577 := by have h1 := HX.out; rw [lS_len] at hxl; omega
          clear hxl
          obtain ⟨⟨c8, f8⟩, c7, c4, c5, c6, -, -⟩ := goQ_at h.drop.drop.drop
          rcases hat with ⟨hk, he, hrow⟩ | ⟨hk, he, hrow, hE0⟩
          · subst he
            have hrws := h.drop.drop.drop.drop.drop.drop.drop
            obtain ⟨b, rfl⟩ := own_some hrws (by omega)
            obtain ⟨q, q2, -⟩ := own_at hrws hk
            have hL : X[k].L = row := by
              have h1 := R_at HXR.out hk
              rw [hrow] at h1
              exact (Option.some.inj h1).symm
            unfold Rq.v at q
            rw [Nat.zero_add, hL] at q
            rw [hL] at q2
            have hsr := (SameRow_any XA X[k].A XC X[k].c W.heap.size W.heap.size row row W (h.drop.drop.rlO) q2 (by omega) (by omega))
            rw [decide_eq_true rfl] at hsr
            have HSR := Lib.hid hsr
            clear q2 hL hrow hrws hsr
            generalize X[k].A = AQ at q HSR
            generalize X[k].c = CQ at q HSR
            have hk2 : (k : Int) < (X.length : Int) := by omega
            have hk9 : (k : Int) < 140737488355328 := by omega
            have hk8 : ¬ SI ≤ (k : Int) := by omega
            have HH := Lib.hid h
            clear h hk
            gi_wp2_with fail
            refine ⟨trivial, (CallsIn.inRound _ (callsIn_wide.2 HSR.out)).mono ?_⟩
            rintro e W5 ⟨rfl, n5, hW5⟩
            have h5 := HH.out.drewN n5
            rw [← hW5] at h5
            have H5 := Lib.hid h5
            clear h5 hW5 HH HSR q c8 f8 c7 c4 c5 c6
            obtain ⟨⟨c8, f8⟩, c7, c4, c5, c6, -, -⟩ := goQ_at H5.out.drop.drop.drop
            have HKE : Hid (((k : Int) == (X.length : Int)) = false) := Lib.hid (by simp; omega)
            have hke := hlen
            have HK9 := Lib.hid hk9
            have HRL := Lib.hid hrl
            have HLN := Lib.hid hlen
            clear hk2 hk9 hk8 hkN hrl hlen hke
            have hke : ((k : Int) == (X.length : Int)) = false := HKE.out
            gi_wp2_with (refine wpListIn_skipW (by rfl) ?_; simp only [Act.put, List.getElem_toArray, List.getElem_cons_zero, List.getElem_cons_succ, List.setIfInBounds_toArray, List.set_cons_zero, List.set_cons_succ])
            clear c8 f8 c7 c4 c5 c6
            gi_loopw [78] (fun v wr => ∃ (j : Nat) (Y : Rw), (j ≤ row.length ∧ Y.length = row.length) ∧ v = .int .i64 j ∧ Hid (St Zf (RecA (W1.heap.size + 1) W1.heap.size o :: RdA xg xr :: OlA svl 9 (.slice XA row.length XC) Y :: goQ w w3.heap.size s (some ⟨b, 0, none⟩) c X E SI g7 g8 r k D) w wr)) (fun v _ => row.length - (intOf v).toNat)
            case atStart => exact ⟨0, row, ⟨Nat.zero_le _, rfl⟩, rfl, H5⟩
            case round =>
              obtain ⟨j, Y, ⟨hj, hY⟩, rfl, HY⟩ := hrel
              clear H5
              by_cases hjl : j < row.length
              · obtain ⟨g, hA, ⟨u0, hc⟩, hf, hs2⟩ := St.storeOlL (f := svl) HY.out.bring2 hY hjl starS (svl_ok starS)
                subst hA
                have hjl' : (j : Int) < (row.length : Int) := by omega
                have hj9 : (j : Int) < 140737488355328 := by have := HRL.out; omega
                have HS2 := Lib.hid hs2.bring2.bring2
                clear hs2 HY
                gi_wp2_with fail
                go_roundw
                case rel => exact ⟨j + 1, Y.set j starS, ⟨by omega, by rw [List.length_set]; exact hY⟩, by go_num, HS2⟩
                case measure => simp [intOf]; omega
              · obtain ⟨⟨c8, f8⟩, c7, -⟩ := goQ_at HY.out.drop.drop.drop
                have hjl' : ¬ (j : Int) < (row.length : Int) := by omega
                have h9 := ((HY.out.bring2.drop.bring2).setBlk 0 (.int .i64 ((k : Int) + 1))).bring2.bring2
                have H9 := Lib.hid h9
                have hk9 := HK9.out
                have b7 := h9.drop.drop.drop.blk
                have c7b : (wr.setCell ⟨g8, 0, none⟩ (.int .i64 ((k : Int) + 1))).cell? ⟨g7, 0, none⟩ = some (.int .i64 (r : Int)) := by rw [b7.cell 0]; rfl
                clear h9 HY c7 b7
                by_cases hr1 : r = 1
                · have hpn := HPR.out hr1
                  subst hpn hr1
                  gi_wp2_with fail
                  have hk1 : (k : Int) + 1 = ((1 : Nat) : Int) := by rw [← HK0.out]; rfl
                  refine ⟨⟨rfl, HNP.out⟩, ?_⟩
                  have h8 := H9.out.swap.drop
                  rw [hk1] at h8 ⊢
                  exact h8
                · have hb2 : ((r : Int) == 1) = false := by simp; omega
                  gi_wp2_with fail
                  have e9 : ((pre.length + 1 : Nat) : Int) = (k : Int) + 1 := by rw [HK0.out]; rfl
                  have h8 := H9.out
                  rw [← e9] at h8 ⊢
                  exact h8
          · have hkl : ¬ (k : Int) < (X.length : Int) := by omega
            have hke : ((k : Int) == (X.length : Int)) = true := by simp; omega
            have hn0 : ((row.length : Int) != 0) = false := by rw [hrow]; rfl
            have hk8 : ¬ SI ≤ (k : Int) := by omega
            have HK9 : Hid ((k : Int) < 140737488355328) := Lib.hid (by omega)
            subst xe
            have HRL := Lib.hid hrl
            have H5 := Lib.hid h
            clear h hk hrl hkN hlen hE0 hrow
            gi_wp2_with (refine wpListIn_skipW (by rfl) ?_; simp only [Act.put, List.getElem_toArray, List.getElem_cons_zero, List.getElem_cons_succ, List.setIfInBounds_toArray, List.set_cons_zero, List.set_cons_succ])
            clear c8 f8 c7 c4 c5 c6
            gi_loopw [78] (fun v wr => ∃ (j : Nat) (Y : Rw), (j ≤ row.length ∧ Y.length = row.length) ∧ v = .int .i64 j ∧ Hid (St Zf (RecA (W1.heap.size + 1) W1.heap.size o :: RdA xg xr :: OlA svl 9 (.slice XA row.length XC) Y :: goQ w w3.heap.size s A c X E SI g7 g8 r k D) w wr)) (fun v _ => row.length - (intOf v).toNat)
            case atStart => exact ⟨0, row, ⟨Nat.zero_le _, rfl⟩, rfl, H5⟩
            case round =>
              obtain ⟨j, Y, ⟨hj, hY⟩, rfl, HY⟩ := hrel
              clear H5
              by_cases hjl : j < row.length
              · obtain ⟨g, hA, ⟨u0, hc⟩, hf, hs2⟩ := St.storeOlL (f := svl) HY.out.bring2 hY hjl starS (svl_ok starS)
                subst hA
                have hjl' : (j : Int) < (row.length : Int) := by omega
                have hj9 : (j : Int) < 140737488355328 := by have := HRL.out; omega
                have HS2 := Lib.hid hs2.bring2.bring2
                clear hs2 HY
                gi_wp2_with fail
                go_roundw
                case rel => exact ⟨j + 1, Y.set j starS, ⟨by omega, by rw [List.length_set]; exact hY⟩, by go_num, HS2⟩
                case measure => simp [intOf]; omega
              · obtain ⟨⟨c8, f8⟩, c7, -⟩ := goQ_at HY.out.drop.drop.drop
                have hjl' : ¬ (j : Int) < (row.length : Int) := by omega
                have h9 := ((HY.out.bring2.drop.bring2).setBlk 0 (.int .i64 ((k : Int) + 1))).bring2.bring2
                have H9 := Lib.hid h9
                have hk9 := HK9.out
                have b7 := h9.drop.drop.drop.blk
                have c7b : (wr.setCell ⟨g8, 0, none⟩ (.int .i64 ((k : Int) + 1))).cell? ⟨g7, 0, none⟩ = some (.int .i64 (r : Int)) := by rw [b7.cell 0]; rfl
                clear h9 HY c7 b7
                by_cases hr1 : r = 1
                · have hpn := HPR.out hr1
                  subst hpn hr1
                  gi_wp2_with fail
                  have hk1 : (k : Int) + 1 = ((1 : Nat) : Int) := by rw [← HK0.out]; rfl
                  refine ⟨⟨rfl, HNP.out⟩, ?_⟩
                  have h8 := H9.out.swap.drop
                  rw [hk1] at h8 ⊢
                  exact h8
                · have hb2 : ((r : Int) == 1) = false := by simp; omega
                  gi_wp2_with fail
                  have e9 : ((pre.length + 1 : Nat) : Int) = (k : Int) + 1 := by rw [HK0.out]; rfl
                  have h8 := H9.out
                  rw [← e9] at h8 ⊢
                  exact h8
      · have hgR := H.out.drop.drop.blk
        have cR : W.cell? ⟨w.heap.size, 0, none⟩ = some (.bool false) := by rw [hgR.cell 0]; rfl
        have fR := hgR.frozen 0
        clear hgR
        gi_wp2_with fail
        have hst := (((H.out.drop).swap).setBlk 0 (.bool true)).swap
        refine leaves_marks (fun W' h' => ⟨.bool true, results_cell1 rfl _ _ _ Tryd.underlying4 rfl (by rfl) (by rw [h'.blk.cell 0]; rfl), rfl, h'.bel⟩) D _ hst
  · have hEb : (E != 0) = true := by simp [h0]
    have HS : Hid (((X.length : Int) + 1) = ((evc (lS s)).length : Int)) := Lib.hid (by rw [evc_count, if_neg (by rw [HE.out]; exact h0), HXL.out])
    have h5 := H4.out.newBlk 3 #[.int .i64 ((X.length : Int) + 1)]
    simp only [World.size_alloc] at h5
    have h6 := h5.newBlk 3 #[.int .i64 0]
    simp only [World.size_alloc] at h6
    have H6 := Lib.hid h6
    clear h5 h6 h0 H4 H3
    gi_wp2_with fail
    clear hEb
    refine wpIn_loopK (fun a W => ∃ (r : Nat) (D : List (Nat × Nat × Obj)) (g7 : Nat) (t8 t28 t29 t30 t31 t32 t33 t34 t35 t89 t90 t91 t92 t93 t94 t95 t96 t97 t98 t99 t100 t101 t102 t103 t104 t105 t106 : Value) (SI : Int), (r ≤ 3 ∧ D.length = r ∧ a = { tmps := #[.string s, undef, .pointer (some ⟨w.heap.size, 0, none⟩), .func (.func 22) #[] #[.pointer (some ⟨w.heap.size + 1, 0, none⟩)], .pointer (some ⟨w3.heap.size, 0, none⟩), .pointer (some ⟨w3.heap.size + 1, 0, none⟩), .pointer (some ⟨w3.heap.size + 1 + 1, 0, none⟩), .pointer (some ⟨g7, 0, none⟩), t8, undef, undef, undef, .string s, .func (.func 22) #[] #[.pointer (some ⟨w.heap.size + 1, 0, none⟩)], .func (.func 22) #[] #[.pointer (some ⟨w.heap.size + 1, 0, none⟩)], .bool false, .bool false, .bool true, .bool false, .bool false, .tuple #[.slice A X.length c, .int .i64 E], .string s, .tuple #[.slice A X.length c, .int .i64 E], .slice A X.length c, .int .i64 E, .slice A X.length c, .int .i64 (X.length : Int), .int .i64 E, t28, t29, t30, t31, t32, t33, t34, t35, undef, undef, undef, undef, undef, undef, undef, undef, undef, undef, undef, undef, undef, undef, undef, undef, undef, undef, undef, undef, undef, undef, undef, undef, undef, undef, undef, undef, undef, undef, undef, undef, undef, undef, undef, undef, undef, undef, undef, undef, undef, undef, undef, undef, undef, undef, undef, undef, undef, undef, undef, undef, undef, t89, t90, t91, t92, t93, t94, t95, t96, t97, t98, t99, t100, t101, t102, t103, t104, t105, t106], defers := D.map markD } ∧ SI = ((evc (lS s)).length : Int)) ∧ Hid (St Zf (BlkA g7 3 #[.int .i64 r] :: Sep (D.map recD) :: goL w w3.heap.size s A c X E SI) w W)) (fun a W => 3 - a.defers.length) ?h0 ?round
    case h0 =>
      refine ⟨0, [], w3.heap.size + 1 + 1 + 1, _, _, _, _, _, _, _, _, _, _, _, _, _, _, _, _, _, _, _, _, _, _, _, _, _, _, _, _, ⟨by omega, rfl, rfl, HS.out⟩, Lib.hid ?_⟩
      exact (H6.out.bring5.bring2.bring3.bring4.bring5.bring6.bring6.nilSep).swap
    case round =>
      clear H6
      rintro a W ⟨r, D, g7, t8, t28, t29, t30, t31, t32, t33, t34, t35, t89, t90, t91, t92, t93, t94, t95, t96, t97, t98, t99, t100, t101, t102, t103, t104, t105, t106, SI, ⟨hr, hD, rfl, hSI⟩, H⟩ K HK
      have hg7 := H.out.blk
      have c7 : W.cell? ⟨g7, 0, none⟩ = some (.int .i64 (r : Int)) := by rw [hg7.cell 0]; rfl
      have HSI := Lib.hid hSI
      have HD := Lib.hid hD
      clear hg7 hSI hD
      by_cases hlt : (r : Int) < 3
      · have h1 := H.out.newBlk 3 #[.int .i64 0]
        gi_wp2_with fail
        clear H c7
        generalize W.alloc (.cells #[.int .i64 0] 3) = W1 at h1 ⊢
        generalize W.heap.size = g8 at h1 ⊢
        have H1 : Hid (St Zf (goQ w w3.heap.size s A c X E SI g7 g8 r 0 D) w W1) := Lib.hid h1
        clear h1
        rename_i K2 hK2
        have HAFT : Hid (∀ (k : Nat) (o : Obj) (W2 : World), (r ≠ 1 → (k : Int) = SI) → (r = 1 → (k : Int) = min 1 SI) → St Zf (RecA (W1.heap.size + 1) W1.heap.size o :: goQ w w3.heap.size s A c X E SI g7 g8 r k D) w W2 →
            K2 { tmps := #[.string s, undef, .pointer (some ⟨w.heap.size, 0, none⟩), .func (.func 22) #[] #[.pointer (some ⟨w.heap.size + 1, 0, none⟩)], .pointer (some ⟨w3.heap.size, 0, none⟩), .pointer (some ⟨w3.heap.size + 1, 0, none⟩), .pointer (some ⟨w3.heap.size + 1 + 1, 0, none⟩), .pointer (some ⟨g7, 0, none⟩), .pointer (some ⟨g8, 0, none⟩), undef, undef, undef, .string s, .func (.func 22) #[] #[.pointer (some ⟨w.heap.size + 1, 0, none⟩)], .func (.func 22) #[] #[.pointer (some ⟨w.heap.size + 1, 0, none⟩)], .bool false, .bool false, .bool true, .bool false, .bool false, .tuple #[.slice A X.length c, .int .i64 E], .string s, .tuple #[.slice A X.length c, .int .i64 E], .slice A X.length c, .int .i64 E, .slice A X.length c, .int .i64 (X.length : Int), .int .i64 E, t28, t29, t30, .int .i64 r, .bool true, t33, t34, .func (.func 22) #[] #[.pointer (some ⟨w.heap.size + 1, 0, none⟩)], undef, undef, undef, undef, undef, undef, undef, undef, undef, undef, undef, undef, undef, undef, undef, undef, undef, undef, undef, undef, undef, undef, undef, undef, undef, undef, undef, undef, undef, undef, undef, undef, undef, undef, undef, undef, undef, undef, undef, undef, undef, undef, undef, undef, undef, undef, undef, undef, undef, undef, undef, undef, undef, t89, t90, t91, t92, t93, t94, t95, t96, t97, t98, t99, t100, t101, t102, t103, t104, t105, t106], defers := { target := .collected W1.heap.size, args := #[] } :: D.map markD } W2) := Lib.hid (by
          intro k o W2 hk1 hk2 h
          obtain ⟨⟨c8, -⟩, c7, -, -, c6, -⟩ := goQ_at h.drop
          have h9 := (h.swap.drop.swap.drop.consD).newBlk 3 #[.int .i64 ((r : Int) + 1)]
          have H9 := Lib.hid h9
          have hr9 : (r : Int) < 140737488355328 := by omega
          refine hK2 _ _ ?_
          by_cases hr1 : r = 1
          · subst hr1
            have hk : (k : Int) = min 1 SI := hk2 rfl
            have H8 := Lib.hid ((h.swap.drop.swap.drop.consD).newBlk 3 #[.int .i64 2])
            clear h h9 hk1 hk2
            gi_wp2_with fail
            exact HK.out _ _ ⟨1 + 1, (W1.heap.size + 1, W1.heap.size, o) :: D, W2.heap.size, _, _, _, _, _, _, _, _, _, _, _, _, _, _, _, _, _, _, _, _, _, _, _, _, _, _, _, SI, ⟨by omega, by rw [List.length_cons, HD.out], rfl, HSI.out⟩, Lib.hid (by rw [show ((1 + 1 : Nat) : Int) = 2 from rfl]; exact H8.out)⟩ (by simp only [List.length_cons, List.length_map, HD.out]; omega)
          · have hk : (k : Int) = SI := hk1 hr1
            have hb1 : ((r : Int) != 1) = true := by simp; omega
            have hb2 : ((r : Int) == 1) = false := by simp; omega
            have hb3 : ((k : Int) != SI) = false := by simp [hk]
            clear h h9 hk1 hk2
            gi_wp2_with fail
            exact HK.out _ _ ⟨r + 1, (W1.heap.size + 1, W1.heap.size, o) :: D, W2.heap.size, _, _, _, _, _, _, _, _, _, _, _, _, _, _, _, _, _, _, _, _, _, _, _, _, _, _, _, SI, ⟨by omega, by rw [List.length_cons, HD.out], rfl, HSI.out⟩, Lib.hid (by rw [show ((r + 1 : Nat) : Int) = (r : Int) + 1 by omega]; exact H9.out)⟩ (by simp only [List.length_cons, List.length_map, HD.out]; omega))
        have hEA : ∀ o pre V, (∃ i : Unit, (r = 1 → pre = []) ∧ St Zf (RecA (W1.heap.size + 1) W1.heap.size o :: LentA pre.getLast? :: goQ w w3.heap.size s A c X E SI g7 g8 r pre.length D) w V) → TxA (w.heap.size + 1) s V := by
          rintro o pre V ⟨i, -, h⟩
          exact (goQ_at h.drop.drop).2.2.2.2.2
        refine wpIn_rangeW rfl (gf := 22) (lb := #[.pointer (some ⟨w.heap.size + 1, 0, none⟩)]) rfl (enters_of Tryd.func22 (by kernel_rfl) rfl) (encs := Cx.enc) (fun _ => rfl)
          (rows_seq (w.heap.size + 1) s (by have := HX.out; omega))
          (fun o pre W => ∃ i : Unit, (r = 1 → pre = []) ∧ St Zf (RecA (W1.heap.size + 1) W1.heap.size o :: LentA pre.getLast? :: goQ w w3.heap.size s A c X E SI g7 g8 r pre.length D) w W)
          (fun o pre x W => ∃ i : Unit, ((r = 1 → pre = []) ∧ (∃ rr, evc (lS s) = pre.map Cx.ev ++ x.ev :: rr) ∧ x.row.length ≤ (lS s).length + 1) ∧ St Zf (RecA (W1.heap.size + 1) W1.heap.size o :: RdA x.g x.rest :: OlA svl 9 x.v x.row :: goQ w w3.heap.size s A c X E SI g7 g8 r pre.length D) w W)
          (fun o pre x a W => ∃ i : Unit, (((r = 1 → pre = []) ∧ (∃ rr, evc (lS s) = pre.map Cx.ev ++ x.ev :: rr) ∧ x.row.length ≤ (lS s).length + 1) ∧ a = { tmps := #[.string s, undef, .pointer (some ⟨w.heap.size, 0, none⟩), .func (.func 22) #[] #[.pointer (some ⟨w.heap.size + 1, 0, none⟩)], .pointer (some ⟨w3.heap.size, 0, none⟩), .pointer (some ⟨w3.heap.size + 1, 0, none⟩), .pointer (some ⟨w3.heap.size + 1 + 1, 0, none⟩), .pointer (some ⟨g7, 0, none⟩), .pointer (some ⟨g8, 0, none⟩), .slice x.A x.row.length x.c, .int .i64 x.e, undef, .string s, .func (.func 22) #[] #[.pointer (some ⟨w.heap.size + 1, 0, none⟩)], .func (.func 22) #[] #[.pointer (some ⟨w.heap.size + 1, 0, none⟩)], .bool false, .bool false, .bool true, .bool false, .bool false, .tuple #[.slice A X.length c, .int .i64 E], .string s, .tuple #[.slice A X.length c, .int .i64 E], .slice A X.length c, .int .i64 E, .slice A X.length c, .int .i64 (X.length : Int), .int .i64 E, t28, t29, t30, .int .i64 r, .bool true, t33, t34, .func (.func 22) #[] #[.pointer (some ⟨w.heap.size + 1, 0, none⟩)], .slice x.A x.row.length x.c, .int .i64 x.e, undef, undef, undef, undef, undef, undef, undef, undef, undef, undef, undef, undef, undef, undef, undef, undef, undef, undef, undef, undef, undef, undef, undef, undef, undef, undef, undef, undef, undef, undef, undef, undef, undef, undef, undef, undef, undef, undef, undef, undef, undef, undef, undef, undef, undef, undef, undef, undef, undef, undef, undef, t89, t90, t91, t92, t93, t94, t95, t96, t97, t98, t99, t100, t101, t102, t103, t104, t105, t106], defers := [] }) ∧ St Zf (RecA (W1.heap.size + 1) W1.heap.size o :: RdA x.g x.rest :: OlA svl 9 x.v x.row :: goQ w w3.heap.size s A c X E SI g7 g8 r pre.length D) w W)
          (fun cd o pre W => ∃ i : Unit, (cd = .exit 2 ∧ r = 1 ∧ (1 : Int) ≤ SI) ∧ St Zf (RecA (W1.heap.size + 1) W1.heap.size o :: goQ w w3.heap.size s A c X E SI g7 g8 r 1 D) w W)
          (fun o pre x W => ∃ i : Unit, r ≠ 1 ∧ St Zf (RecA (W1.heap.size + 1) W1.heap.size o :: RdA x.g x.rest :: goQ w w3.heap.size s A c X E SI g7 g8 r (pre ++ [x]).length D) w W)
          (fun o xs W => ∃ i : Unit, ((r = 1 → xs = []) ∧ (xs.length : Int) = SI) ∧ St Zf (RecA (W1.heap.size + 1) W1.heap.size o :: goQ w w3.heap.size s A c X E SI g7 g8 r xs.length D) w W)
          ?bI ?bM ?bN ?bX ?bR ?bZ hEA ?hY ?hR ?hT ?h0 ?assign ?body ?done ?stop
        case hY =>
          rintro o pre x V V1 ⟨i, hf, h⟩ ⟨h1, h2, h3, h4⟩
          exact ⟨i, ⟨hf, h3, h4⟩, (lent_turn h.swap h1 h2).bring2⟩
        case bI => exact fun pre => bears_ex (ι := Unit) (g := fun _ => LentA pre.getLast? :: goQ w w3.heap.size s A c X E SI g7 g8 r pre.length D)
        case bM => exact fun pre x => bears_ex (ι := Unit) (g := fun _ => RdA x.g x.rest :: OlA svl 9 x.v x.row :: goQ w w3.heap.size s A c X E SI g7 g8 r pre.length D)
        case bN => exact fun pre x a => bears_ex (ι := Unit) (g := fun _ => RdA x.g x.rest :: OlA svl 9 x.v x.row :: goQ w w3.heap.size s A c X E SI g7 g8 r pre.length D)
        case bX => exact fun cd pre => bears_ex (ι := Unit) (g := fun _ => goQ w w3.heap.size s A c X E SI g7 g8 r 1 D)
        case bR => exact fun pre x => bears_ex (ι := Unit) (g := fun _ => RdA x.g x.rest :: goQ w w3.heap.size s A c X E SI g7 g8 r (pre ++ [x]).length D)
        case bZ => exact fun xs => bears_ex (ι := Unit) (g := fun _ => goQ w w3.heap.size s A c X E SI g7 g8 r xs.length D)
        case hR =>
          rintro o pre x V ⟨i, hf, h⟩
          have e : (pre ++ [x]).getLast? = some x := by simp
          refine ⟨⟨i, fun h1 => absurd h1 hf, ?_⟩, h.swap.blk⟩
          rw [e]
          exact h
        case hT =>
          rintro o xs V ⟨i, h1, h⟩ (ht : xs.map Cx.ev = evc (lS s))
          refine ⟨i, ⟨h1, ?_⟩, h.swap.drop⟩
          rw [HSI.out, ← ht, List.length_map]
        case h0 =>
          intro o
          refine ⟨(), fun _ => rfl, ?_⟩
          exact (H1.out.nilSep).recNew o
        case assign =>
          rintro o pre x W ⟨i, hf, h⟩
          have HH := Lib.hid h
          have HF := Lib.hid hf
          clear h hf
          simp only [Cx.enc]
          gi_wp2
          exact ⟨HF.out, HH.out⟩
        case done =>
          rintro o xs W ⟨i, ⟨h1, h2⟩, h⟩
          refine HAFT.out xs.length o W (fun _ => h2) (fun h3 => ?_) h
          have h4 := h1 h3
          subst h4
          have h5 : (0 : Int) = SI := h2
          rw [← h5]
          rfl
        case stop =>
          rintro o cd pre W _ ⟨i, ⟨rfl, h1, h2⟩, h⟩
          exact wpIn_exit (HAFT.out 1 o W (fun h3 => absurd h1 h3) (fun _ => by omega) h)
        case body =>
          rintro o pre ⟨row, xe, XA, XC, xg, xr⟩ a W ⟨i, ⟨⟨hpr, ⟨rr, hev⟩, hxl⟩, rfl⟩, h⟩
          clear HAFT hEA H1 HK hK2
          have hat := evc_at hev
          rw [List.length_map, ← HXL.out, HE.out] at hat
          have hkN : (pre.length : Int) < SI := by rw [HSI.out, hev]; simp; omega
          have hnp : (1 : Int) ≤ SI := by omega
          have HPR := Lib.hid hpr
          have HNP := Lib.hid hnp
          clear hev hpr hnp
          dsimp only [Cx.ev, Cx.v] at hat h hxl ⊢
          generalize hk0 : pre.length = k at hat hkN h
          have HK0 := Lib.hid hk0
          clear hk0
          have hrl : row.length ≤ 1048577 := by have h1 := HX.out; rw [lS_len] at hxl; omega
          clear hxl
          obtain ⟨⟨c8, f8⟩, c7, c4, c5, c6, -, -⟩ := goQ_at h.drop.drop.drop
          rcases hat with ⟨hk, he, hrow⟩ | ⟨hk, he, hrow, hE0⟩
          · subst he
            have hrws := h.drop.drop.drop.drop.drop.drop.drop
            obtain ⟨b, rfl⟩ := own_some hrws (by omega)
            obtain ⟨q, q2, -⟩ := own_at hrws hk
            have hL : X[k].L = row := by
              have h1 := R_at HXR.out hk
              rw [hrow] at h1
              exact (Option.some.inj h1).symm
            unfold Rq.v at q
            rw [Nat.zero_add, hL] at q
            rw [hL] at q2
            have hsr := (SameRow_any XA X[k].A XC X[k].c W.heap.size W.heap.size row row W (h.drop.drop.rlO) q2 (by omega) (by omega))
            rw [decide_eq_true rfl] at hsr
            have HSR := Lib.hid hsr
            clear q2 hL hrow hrws hsr
            generalize X[k].A = AQ at q HSR
            generalize X[k].c = CQ at q HSR
            have hk2 : (k : Int) < (X.length : Int) := by omega
            have hk9 : (k : Int) < 140737488355328 := by omega
            have hk8 : ¬ SI ≤ (k : Int) := by omega
            have HH := Lib.hid h
            clear h hk
            gi_wp2_with fail
            refine ⟨trivial, (CallsIn.inRound _ (callsIn_wide.2 HSR.out)).mono ?_⟩
            rintro e W5 ⟨rfl, n5, hW5⟩
            have h5 := HH.out.drewN n5
            rw [← hW5] at h5
            have H5 := Lib.hid h5
            clear h5 hW5 HH HSR q c8 f8 c7 c4 c5 c6
            obtain ⟨⟨c8, f8⟩, c7, c4, c5, c6, -, -⟩ := goQ_at H5.out.drop.drop.drop
            have HKE : Hid (((k : Int) == (X.length : Int)) = false) := Lib.hid (by simp; omega)
            have hke := hlen
            have HK9 := Lib.hid hk9
            have HRL := Lib.hid hrl
            have HLN := Lib.hid hlen
            clear hk2 hk9 hk8 hkN hrl hlen hke
            have hke : ((k : Int) == (X.length : Int)) = false := HKE.out
            gi_wp2_with (refine wpListIn_skipW (by rfl) ?_; simp only [Act.put, List.getElem_toArray, List.getElem_cons_zero, List.getElem_cons_succ, List.setIfInBounds_toArray, List.set_cons_zero, List.set_cons_succ])
            clear c8 f8 c7 c4 c5 c6
            gi_loopw [78] (fun v wr => ∃ (j : Nat) (Y : Rw), (j ≤ row.length ∧ Y.length = row.length) ∧ v = .int .i64 j ∧ Hid (St Zf (RecA (W1.heap.size + 1) W1.heap.size o :: RdA xg xr :: OlA svl 9 (.slice XA row.length XC) Y :: goQ w w3.heap.size s (some ⟨b, 0, none⟩) c X E SI g7 g8 r k D) w wr)) (fun v _ => row.length - (intOf v).toNat)
            case atStart => exact ⟨0, row, ⟨Nat.zero_le _, rfl⟩, rfl, H5⟩
            case round =>
              obtain ⟨j, Y, ⟨hj, hY⟩, rfl, HY⟩ := hrel
              clear H5
              by_cases hjl : j < row.length
              · obtain ⟨g, hA, ⟨u0, hc⟩, hf, hs2⟩ := St.storeOlL (f := svl) HY.out.bring2 hY hjl starS (svl_ok starS)
                subst hA
                have hjl' : (j : Int) < (row.length : Int) := by omega
                have hj9 : (j : Int) < 140737488355328 := by have := HRL.out; omega
                have HS2 := Lib.hid hs2.bring2.bring2
                clear hs2 HY
                gi_wp2_with fail
                go_roundw
                case rel => exact ⟨j + 1, Y.set j starS, ⟨by omega, by rw [List.length_set]; exact hY⟩, by go_num, HS2⟩
                case measure => simp [intOf]; omega
              · obtain ⟨⟨c8, f8⟩, c7, -⟩ := goQ_at HY.out.drop.drop.drop
                have hjl' : ¬ (j : Int) < (row.length : Int) := by omega
                have h9 := ((HY.out.bring2.drop.bring2).setBlk 0 (.int .i64 ((k : Int) + 1))).bring2.bring2
                have H9 := Lib.hid h9
                have hk9 := HK9.out
                have b7 := h9.drop.drop.drop.blk
                have c7b : (wr.setCell ⟨g8, 0, none⟩ (.int .i64 ((k : Int) + 1))).cell? ⟨g7, 0, none⟩ = some (.int .i64 (r : Int)) := by rw [b7.cell 0]; rfl
                clear h9 HY c7 b7
                by_cases hr1 : r = 1
                · have hpn := HPR.out hr1
                  subst hpn hr1
                  gi_wp2_with fail
                  have hk1 : (k : Int) + 1 = ((1 : Nat) : Int) := by rw [← HK0.out]; rfl
                  refine ⟨⟨rfl, HNP.out⟩, ?_⟩
                  have h8 := H9.out.swap.drop
                  rw [hk1] at h8 ⊢
                  exact h8
                · have hb2 : ((r : Int) == 1) = false := by simp; omega
                  gi_wp2_with fail
                  have e9 : ((pre.length + 1 : Nat) : Int) = (k : Int) + 1 := by rw [HK0.out]; rfl
                  have h8 := H9.out
                  rw [← e9] at h8 ⊢
                  exact h8
          · have hkl : ¬ (k : Int) < (X.length : Int) := by omega
            have hke : ((k : Int) == (X.length : Int)) = true := by simp; omega
            have hn0 : ((row.length : Int) != 0) = false := by rw [hrow]; rfl
            have hk8 : ¬ SI ≤ (k : Int) := by omega
            have HK9 : Hid ((k : Int) < 140737488355328) := Lib.hid (by omega)
            subst xe
            have HRL := Lib.hid hrl
            have H5 := Lib.hid h
            clear h hk hrl hkN hlen hE0 hrow
            gi_wp2_with (refine wpListIn_skipW (by rfl) ?_; simp only [Act.put, List.getElem_toArray, List.getElem_cons_zero, List.getElem_cons_succ, List.setIfInBounds_toArray, List.set_cons_zero, List.set_cons_succ])
            clear c8 f8 c7 c4 c5 c6
            gi_loopw [78] (fun v wr => ∃ (j : Nat) (Y : Rw), (j ≤ row.length ∧ Y.length = row.length) ∧ v = .int .i64 j ∧ Hid (St Zf (RecA (W1.heap.size + 1) W1.heap.size o :: RdA xg xr :: OlA svl 9 (.slice XA row.length XC) Y :: goQ w w3.heap.size s A c X E SI g7 g8 r k D) w wr)) (fun v _ => row.length - (intOf v).toNat)
            case atStart => exact ⟨0, row, ⟨Nat.zero_le _, rfl⟩, rfl, H5⟩
            case round =>
              obtain ⟨j, Y, ⟨hj, hY⟩, rfl, HY⟩ := hrel
              clear H5
              by_cases hjl : j < row.length
              · obtain ⟨g, hA, ⟨u0, hc⟩, hf, hs2⟩ := St.storeOlL (f := svl) HY.out.bring2 hY hjl starS (svl_ok starS)
                subst hA
                have hjl' : (j : Int) < (row.length : Int) := by omega
                have hj9 : (j : Int) < 140737488355328 := by have := HRL.out; omega
                have HS2 := Lib.hid hs2.bring2.bring2
                clear hs2 HY
                gi_wp2_with fail
                go_roundw
                case rel => exact ⟨j + 1, Y.set j starS, ⟨by omega, by rw [List.length_set]; exact hY⟩, by go_num, HS2⟩
                case measure => simp [intOf]; omega
              · obtain ⟨⟨c8, f8⟩, c7, -⟩ := goQ_at HY.out.drop.drop.drop
                have hjl' : ¬ (j : Int) < (row.length : Int) := by omega
                have h9 := ((HY.out.bring2.drop.bring2).setBlk 0 (.int .i64 ((k : Int) + 1))).bring2.bring2
                have H9 := Lib.hid h9
                have hk9 := HK9.out
                have b7 := h9.drop.drop.drop.blk
                have c7b : (wr.setCell ⟨g8, 0, none⟩ (.int .i64 ((k : Int) + 1))).cell? ⟨g7, 0, none⟩ = some (.int .i64 (r : Int)) := by rw [b7.cell 0]; rfl
                clear h9 HY c7 b7
                by_cases hr1 : r = 1
                · have hpn := HPR.out hr1
                  subst hpn hr1
                  gi_wp2_with fail
                  have hk1 : (k : Int) + 1 = ((1 : Nat) : Int) := by rw [← HK0.out]; rfl
                  refine ⟨⟨rfl, HNP.out⟩, ?_⟩
                  have h8 := H9.out.swap.drop
                  rw [hk1] at h8 ⊢
                  exact h8
                · have hb2 : ((r : Int) == 1) = false := by simp; omega
                  gi_wp2_with fail
                  have e9 : ((pre.length + 1 : Nat) : Int) = (k : Int) + 1 := by rw [HK0.out]; rfl
                  have h8 := H9.out
                  rw [← e9] at h8 ⊢
                  exact h8
      · have hgR := H.out.drop.drop.blk
        have cR : W.cell? ⟨w.heap.size, 0, none⟩ = some (.bool false) := by rw [hgR.cell 0]; rfl
        have fR := hgR.frozen 0
        clear hgR
        gi_wp2_with fail
        have hst := (((H.out.drop).swap).setBlk 0 (.bool true)).swap
        refine leaves_marks (fun W' h' => ⟨.bool true, results_cell1 rfl _ _ _ Tryd.underlying4 rfl (by rfl) (by rw [h'.blk.cell 0]; rfl), rfl, h'.bel⟩) D _ hst

/-! ### THE ROW's STEP -/
theorem own : ownKnob Tryd.prog.godebug = none := by kernel_rfl
theorem laidOut : laidOutB Tryd.prog = true := by kernel_rfl

set_option maxRecDepth 100000 in
theorem contract (H : Type) (enc : TypeId × Value → H) (W : World) (base : Nat) (args : Array Value) (ds gs : List (DataW H)) (before : List MemPlace)
    (hval0 : ∀ (j : Nat) t v, Tryd.f5.params[j]? = some t → args[j]? = some v → Value.okWide Tryd.prog W .any base t v)
    (hW : DataW.Whole enc Tryd.prog Tryd.f5.params.toList Rows.csvGoesSpec.vars false W args.toList ds gs before)
    (hk : Rows.uptoSmall H (ds ++ gs) = true)
    (hsz : (DataW.weightsEach Tryd.prog (Tryd.f5.params.toList ++ (Rows.OpenSpec.upto Rows.csvGoesSpec).bare.plain.varTypes Tryd.prog) (ds ++ gs)).all (· ≤ reachBytes) = true) (hL : laidMetH Tryd.prog Rows.csvGoesUptoRow.laid W) (hSh : W.ShapedOpen Tryd.prog) :
    Calls Tryd.prog 5 args W fun e W' => ∃ v, e = .returned v ∧ Rows.csvGoesSpec.post enc Tryd.prog Tryd.f5 false true false false W args v W' := by
  have hval : ∀ (j : Nat) t v, Tryd.f5.params[j]? = some t → args[j]? = some v → Value.okWide Tryd.prog W .any base t v := hval0
  have hW' := hW
  obtain ⟨p, q, hA0, hV, rfl, hfz, hnd⟩ := hW
  have hA : DataW.TrodAll enc Tryd.prog W 0 (fun _ => true) true Tryd.f5.params.toList args.toList ds p := hA0
  rw [Tryd.params5] at hA hval
  obtain ⟨v0, vs0, d0, ds0, p0, q0, hargs, rfl, rfl, h0, r0⟩ := trodAll_cons hA
  obtain ⟨rfl, rfl, rfl⟩ := trodAll_nil r0
  obtain rfl : args = #[v0] := by cases args; simp_all
  obtain ⟨rfl, rfl⟩ := trodVars_none hV
  have k0 := h0
  have lt0 : ∀ x ∈ p0, x.block < W.heap.size := by obtain ⟨m, hm⟩ := k0; exact DataW.trod_lt m _ _ _ hm
  have w0 := reach_at hsz (j := 0) rfl rfl
  have u0 : Rows.uptoBulk d0 ≤ 1048576 := bulk_at hk (by simp)
  clear hA0 hval0 hsz
  obtain ⟨s0, rfl, hx0⟩ := open_csvtext (hval 0 _ v0 rfl rfl) w0 h0 lt0 u0
  refine (walk W (mw_of hSh) hx0).mono fun e W' ⟨he, bel⟩ => ?_
  subst he
  exact ⟨_, rfl, _, _, _, [], _, [], hW', trodAll_mk1 (shut_bool Tryd.underlying4 _), (trodAll_cons_mk (Below.trod laidOut (by kernel_rfl) (of_decide_eq_true (by kernel_rfl)) k0 bel lt0) trodAll_mk0), rfl, bel.frame _, fun h => by cases h⟩

theorem laid_met (os : Os) : laidMet Tryd.prog Rows.csvGoesUptoRow.laid ((laidWorld os).forCall (fun _ _ => 0) ⟨#[], #[.string ByteArray.empty], []⟩).memory :=
  laid_met0 os
theorem reads (os : Os) {H : Type} (enc : TypeId × Value → H) : ∃ places, DataW.whole enc Tryd.prog ((laidWorld os).forCall (fun _ _ => 0) ⟨#[], #[.string ByteArray.empty], []⟩).memory Tryd.f5.params.toList Rows.csvGoesSpec.vars false (#[.string ByteArray.empty] : Array Value).toList 8 = some ([.lit (.string [])], [], places) :=
  ⟨[], by kernel_rfl⟩

set_option maxRecDepth 100000 in
theorem lifted (os : Os) (started : os.Started) (H : Type) (enc : TypeId × Value → H) (F : Stop.Interp) :
    ReturnsInHanded {} Tryd.checked os 5 .any ((Rows.OpenSpec.upto Rows.csvGoesSpec).preRow enc Tryd.prog Tryd.f5 Rows.csvGoesUptoRow.domain false Rows.csvGoesUptoRow.laid) (((Rows.OpenSpec.upto Rows.csvGoesSpec).at F).post enc Tryd.prog Tryd.f5 false true false false) := by
  obtain ⟨places, hx⟩ := reads os enc
  refine returnsInHanded_of_row (C := Tryd.checked) (s := (Rows.OpenSpec.upto Rows.csvGoesSpec)) own started (by kernel_rfl) Tryd.func5
    (witness_row_at (enc := enc) (C := Tryd.checked) false (laidWorld os) #[.string ByteArray.empty] rfl (by kernel_rfl) (by kernel_rfl) (by kernel_rfl)
      (OpenSpec.preRow_of_cond 8 hx (by kernel_rfl) (fun k hk => by cases hk; kernel_rfl) (by kernel_rfl) (laid_met os))) ?_
  intro W base args ds gs before hval hW _ hcond hsz hL hSh _
  exact contract H enc W base args ds gs before hval hW (hcond _ rfl) hsz hL hSh

theorem said : Rows.CsvGoesUptoSaid :=
  OpenClaim.holds_of_cond 5 Tryd.f5 rfl rfl rfl rfl rfl rfl rfl ⟨rfl, rfl, rfl, rfl, rfl⟩ rfl rfl rfl rfl rfl (by kernel_rfl) Tryd.func5 (by kernel_rfl)
    (of_decide_eq_true (by kernel_rfl)) (by unfold Func.isWrapper; rw [if_neg (of_decide_eq_false (by kernel_rfl))]; exact ⟨rfl, rfl⟩)
    (fun os started H enc _ F => by rw [OpenClaim.pre_eq_preRow]; exact lifted os started H enc F)

theorem noStandIn : ∀ t ∈ ([9] : List TypeId), Tryd.prog.wantsStandIn t = false := by
  intro t ht
  simp only [List.mem_cons, List.not_mem_nil, or_false] at ht
  rcases ht with rfl
  · exact (show Tryd.prog.wantsStandIn 9 = false by kernel_rfl)
theorem plain (f : FuncId) (fn : Func) (hf : Tryd.pinned.checked.prog.funcNamed "satchel/satchellaw21.CsvGoes" = some f) (hfn : Tryd.pinned.checked.prog.funcs[f]? = some fn) :
    false = Tryd.pinned.checked.prog.looks [] ∧ ∀ (j : Nat) t, fn.params[j]? = some t → Tryd.pinned.checked.prog.wantsStandIn t = false := by
  obtain rfl : f = 5 := Option.some.inj ((show Tryd.prog.funcNamed "satchel/satchellaw21.CsvGoes" = some 5 by kernel_rfl).symm.trans hf) |>.symm
  obtain rfl : fn = Tryd.f5 := (Option.some.inj (Tryd.func5.symm.trans hfn)).symm
  refine ⟨by kernel_rfl, fun j t ht => ?_⟩
  rw [Tryd.params5] at ht
  exact noStandIn t (by simpa using Array.mem_of_getElem? ht)

/-- THE CARD -/
theorem proved : Rows.CsvGoesUptoCardSaid :=
  Claim7.holds_tied_plain_at .later [] _ _ _ _ said (fun _ h => by cases h) (by kernel_rfl) (fun _ h => by cases h) csvGoesUpto_row_tie rfl ⟨rfl, rfl⟩ (by kernel_rfl) rfl plain (by kernel_rfl)
end Go.Proofs.YtmdljfpkbfhbdaaDoor.csvGoes

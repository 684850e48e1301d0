/- csv: rows as they come in; Print. -/
import Derived.Test.YtmdljfpkbfhbdaaDoorCsPrint
namespace Go.Proofs.YtmdljfpkbfhbdaaDoor
open Go.RowKit
set_option linter.unusedVariables false

/-- a row, and where its fields lie -/
structure Rq where
  A : Option Addr
  c : Nat
  L : Rw
instance : Inhabited Rq := ⟨⟨none, 0, []⟩⟩
def Rq.v (q : Rq) : Value := .slice q.A q.L.length q.c
theorem rqv_ok (q : Rq) : q.v ≠ undef ∧ q.v.oneCell' = true := ⟨by simp [Rq.v, undef], rfl⟩
/-- rows that read -/
def RsR (w : World) (B : Nat) (A : Option Addr) (X : List Rq) : Prop := RL Rq.v w B A X ∧ ∀ q ∈ X, RL svl w B q.A q.L ∧ q.L.length ≤ q.c ∧ q.c ≤ maxLen
theorem RsR.below {w w' : World} {B B' : Nat} {A : Option Addr} {X : List Rq} (h : RsR w B A X) (hb : Below B' w w') (hB : B ≤ B') : RsR w' B A X :=
  ⟨h.1.below' hb hB, fun q hq => ⟨(h.2 q hq).1.below' hb hB, (h.2 q hq).2⟩⟩
theorem RsR.more {w : World} {B B' : Nat} {A : Option Addr} {X : List Rq} (h : RsR w B A X) (hB : B ≤ B') : RsR w B' A X :=
  ⟨h.1.more hB, fun q hq => ⟨(h.2 q hq).1.more hB, (h.2 q hq).2⟩⟩
theorem nthD_mem {α : Type} [Inhabited α] {L : List α} {k : Nat} (h : k < L.length) : nthD L k ∈ L := by
  rw [nthD_lt h]
  exact List.getElem_mem h
theorem RL.allD {α : Type} [Inhabited α] {f : α → Value} {w : World} {B : Nat} {A : Option Addr} {L : List α} (h : RL f w B A L) (hk : 0 < L.length) : ∃ b off, A = some ⟨b, off, none⟩ ∧ b < B ∧ ∀ k, k < L.length → w.cell? ⟨b, off + k, none⟩ = some (f (nthD L k)) := by
  obtain ⟨b, off, hA, hb, hc⟩ := h.all hk
  exact ⟨b, off, hA, hb, fun k hk => by rw [nthD_lt hk]; exact hc k hk⟩
abbrev rowsOf (X : List Rq) : List Rw := X.map Rq.L
theorem row_le : ∀ {X : List Rw} {r : Rw}, r ∈ X → rowW r ≤ rowsW X
  | [], r, h => by cases h
  | g :: x, r, h => by
    have e : rowsW (g :: x) = rowW g + rowsW x := by simp [rowsW]
    rcases List.mem_cons.1 h with rfl | h
    · omega
    · have := row_le h
      omega
set_option maxHeartbeats 1000000 in
theorem Print_any (A : Option Addr) (c B : Nat) (X : List Rq) (w : World) (hM : MW w) (hr : RsR w B A X) (hB : B ≤ w.heap.size) (hl : X.length ≤ c) (hc : c ≤ maxLen) (hsz : rowsW (rowsOf X) ≤ 1073741824) :
    Calls Tryd.prog 12 #[.slice A X.length c] w fun e w' => e = .returned (.tuple #[.string (prS (rowsOf X)), .int .i64 (prE (rowsOf X))]) ∧ Below w.heap.size w w' := by
  have HM := Lib.hid hM
  have HR := Lib.hid hr
  have HZ := Lib.hid hsz
  have HB := Lib.hid hB
  have HP := Lib.hid hM.pos
  have hbd := Bd.fresh w w.heap.size rfl
  have H0 : Hid (∃ W, W = w.alloc (.cells #[.pointer none, .slice none 0 0] 46) ∧ Bd w.heap.size w.heap.size [] W ∧ Below w.heap.size w W) := Lib.hid ⟨_, rfl, hbd, (Below.refl _ _).alloc (Nat.le_refl _) _⟩
  unfold maxLen at hc
  clear hM hr hsz hB hbd
  go_enter Tryd.func12, Tryd.ntmps12
  go_wp2
  go_loopw [9] (fun i wr => ∃ k : Nat, k ≤ X.length ∧ i = .int .i64 k ∧ Hid (Bd w.heap.size w.heap.size (rowsT (rowsOf (X.take k))) wr) ∧ Hid (Below w.heap.size w wr) ∧ Hid (∀ r ∈ rowsOf (X.take k), r ≠ [])) (fun i _ => X.length - (intOf i).toNat)
  case atStart =>
    obtain ⟨W, rfl, h1, h2⟩ := H0.out
    exact ⟨0, Nat.zero_le _, rfl, Lib.hid h1, Lib.hid h2, Lib.hid (by simp)⟩
  case round =>
    obtain ⟨k, hk, rfl, HD, HW, HN⟩ := hrel
    clear H0
    by_cases hlt : k < X.length
    · have hrs := HR.out.below HW.out HB.out
      obtain ⟨g, off, rfl, hg, hcell⟩ := hrs.1.allD (by omega)
      have hc1 := hcell k hlt
      obtain ⟨hq1, hq2, hq3⟩ := hrs.2 _ (nthD_mem hlt)
      have HTK : Hid (rowsOf (X.take (k + 1)) = rowsOf (X.take k) ++ [(nthD X k).L]) := Lib.hid (by rw [takeD_succ hlt]; simp)
      have HRW : Hid (rowW (nthD X k).L ≤ 1073741824) := Lib.hid (Nat.le_trans (row_le (List.mem_map.2 ⟨_, nthD_mem hlt, rfl⟩)) HZ.out)
      have HME : Hid ((nthD X k).L ∈ rowsOf X) := Lib.hid (List.mem_map.2 ⟨_, nthD_mem hlt, rfl⟩)
      have HTL : Hid ((rowsT (rowsOf (X.take k))).length ≤ 1073741824) := Lib.hid (by
        have h1 := rowsT_len (rowsOf (X.take k))
        have e : rowsOf (X.take k) = (rowsOf X).take k := by simp [rowsOf, List.map_take]
        have h2 : rowsW (rowsOf (X.take k)) ≤ rowsW (rowsOf X) := by
          rw [e]
          exact rowsW_take (rowsOf X) k
        have h3 := HZ.out
        omega)
      clear hcell hrs
      generalize nthD X k = q at *
      obtain ⟨A1, c1, L1⟩ := q
      simp only [Rq.v] at hc1 hq1 hq2 hq3 HTK HRW HME
      by_cases h0 : L1.length = 0
      · have HPE : Hid (prE (rowsOf X) = 2 ∧ prS (rowsOf X) = mkS []) := Lib.hid (by
          have h1 := prE_bad HME.out h0
          refine ⟨h1, ?_⟩
          unfold prS
          rw [h1]
          rfl)
        rw [h0] at hc1
        clear HME HTK HRW hq1 hq2 hq3 h0
        go_wp2
        go_ret2
        refine ⟨?_, HW.out⟩
        rw [HPE.out.1, HPE.out.2]
        rfl
      · have HQ1 := Lib.hid hq1
        have HWR := Lib.hid (writeRow_any w.heap.size w.heap.size _ A1 c1 B L1 wr (HM.out.below HW.out HP.out) HD.out hq1 HB.out HP.out hq2 hq3 HRW.out HTL.out)
        obtain ⟨n1, hn1⟩ : ∃ n1, n1 = L1.length := ⟨_, rfl⟩
        have HN1 := Lib.hid hn1
        rw [← hn1] at hc1 HWR h0
        have h0' : ((n1 : Int) == 0) = false := by rw [beq_eq_false_iff_ne]; omega
        have h0'' : (n1 == 0) = false := by rw [beq_eq_false_iff_ne]; omega
        clear hq1 hq2 hq3 hn1
        go_wp2_with fail
        refine HWR.out.mono ?_
        rintro e w1 ⟨⟨v, rfl⟩, h1, hb1⟩
        have H1 : Hid (Bd w.heap.size w.heap.size (rowsT (rowsOf (X.take (k + 1)))) w1) := Lib.hid (by
          rw [HTK.out, rowsT_snoc]
          exact h1)
        have HB1 := Lib.hid (HW.out.trans hb1)
        have HN' : Hid (∀ r ∈ rowsOf (X.take (k + 1)), r ≠ []) := Lib.hid (by
          intro r hr
          rw [HTK.out] at hr
          rcases List.mem_append.1 hr with hr | hr
          · exact HN.out r hr
          · rw [List.mem_singleton.1 hr]
            intro e
            rw [HN1.out, e] at h0
            exact h0 rfl)
        clear h1 hb1
        go_wp2
        go_roundw
        case rel => exact ⟨k + 1, by omega, by go_num, H1, HB1, HN'⟩
        case measure => simp [intOf]; omega
    · have HTK : Hid (X.take k = X) := Lib.hid (List.take_of_length_le (by omega))
      rw [HTK.out] at HD HN
      have HPE : Hid (prE (rowsOf X) = 0 ∧ prS (rowsOf X) = mkS (rowsT (rowsOf X))) := Lib.hid (by
        have h1 := prE_ok HN.out
        refine ⟨h1, ?_⟩
        unfold prS
        rw [h1]
        rfl)
      have HC := Lib.hid (BString_any _ _ _ wr HD.out)
      go_wp2_with fail
      refine HC.out.mono ?_
      rintro e w1 ⟨rfl, hb1⟩
      have HB1 := Lib.hid (HW.out.trans hb1)
      clear hb1
      go_wp2
      go_ret2
      refine ⟨?_, HB1.out⟩
      rw [HPE.out.1, HPE.out.2]
      rfl
end Go.Proofs.YtmdljfpkbfhbdaaDoor

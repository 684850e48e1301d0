/- Labels, in both ways. -/
import Derived.Test.YtpoaokkmmoeekaaRcLab
import Derived.Deep.Cut
namespace Go.Proofs.Ytpoaokkmmoeekaa
open Go.RowKit
set_option linter.unusedVariables false

theorem Blk.rl {w : World} {g : Nat} {L : List Int} (h : Blk w g 3 (icells L)) : RL ivl w w.heap.size (some ⟨g, 0, none⟩) L := by
  refine ⟨⟨by simp, fun _ => ⟨_, rfl, h.lt, fun j u hj => ?_⟩⟩, fun x _ => ivl_ok x⟩
  rw [add_none, Nat.zero_add, h.cell j]
  unfold icells
  rw [List.getElem?_toArray]
  exact hj
theorem RL.cut {w : World} {B : Nat} {b off : Nat} {L : List Int} (h : RL ivl w B (some ⟨b, off, none⟩) L) (m : Nat) : RL ivl w B (some ⟨b, off, none⟩) (L.take m) := by
  refine ⟨⟨by simp, fun hp => ?_⟩, fun x _ => ivl_ok x⟩
  obtain ⟨ad, e, hlt, hc⟩ := h.1.2 (by rw [List.length_take] at hp; omega)
  refine ⟨ad, e, hlt, fun j u hj => hc j u ?_⟩
  rw [List.map_take] at hj
  have hj' : j < m := by
    by_cases hl : j < m
    · exact hl
    · rw [List.getElem?_eq_none (by simp; omega)] at hj; cases hj
  rwa [List.getElem?_take_of_lt hj'] at hj

theorem icells_holds (g : Nat) (pre post : List Int) (k : Nat) (hk : k = pre.length) : Holds (fun x => BlkA g 3 (icells (pre ++ x :: post))) g k := by
  subst hk
  refine Holds.blk (fun x => ?_) fun x y => ?_
  · simp [icells]
  · simp [icells, List.setIfInBounds_toArray, List.set_append_right]

/-- the labels, behind them -/
def labOut (s : Cs) (L : List Int) : List Int := if s.isw = true then L else (labL s (pl8 L) 8).take (cutLen (labL s (pl8 L) 8) 8)
def labWr (s : Cs) (wb : Bool) (L : List Int) : Bool := labW s wb (pl8 L) 8 || !(decide ((labOut s L).length ≤ 8) && asc (-1) (labOut s L))

/-- a value of any sort that stands at (n, k) -/
structure HoldsV (Q : Value → Ass) (n k : Nat) : Prop where
  cell : ∀ {S : Fp} {l : List Ass} {w0 w : World} {x : Value}, St S (Q x :: l) w0 w → w.cell? ⟨n, k, none⟩ = some x ∧ w.frozen? ⟨n, k, none⟩ = false
  set_ : ∀ {S : Fp} {l : List Ass} {w0 w : World} {x : Value}, Stable (Sep l) → St S (Q x :: l) w0 w → ∀ y : Value, St S (Q y :: l) w0 (w.setCell ⟨n, k, none⟩ y)
theorem HoldsV.blk {n k : Nat} {t : TypeId} {cs : Value → Array Value} (h1 : ∀ x, (cs x)[k]? = some x) (h2 : ∀ x y, (cs x).setIfInBounds k y = cs y) : HoldsV (fun x => BlkA n t (cs x)) n k where
  cell := fun {S l w0 w x} h => ⟨by rw [h.blk.cell k, h1], h.blk.frozen k⟩
  set_ := fun {S l w0 w x} hl h y => by
    have := h.setBlk k y
    rwa [h2] at this

section
variable {l : List Ass} {w0 w w' : World} {c : Nat} {s : Cs} {wb : Bool}
theorem co_way {S : Fp} (h : St S (CoA c s wb :: l) w0 w) : (s.isw = true ∧ w.cell? ⟨c, 1, none⟩ = some (.pointer none)) ∨ (s.isw = false ∧ ∃ g, w.cell? ⟨c, 1, none⟩ = some (.pointer (some ⟨g, 0, none⟩))) := by
  cases s with
  | w bs =>
    obtain ⟨g, h⟩ := co_openW h
    exact .inl ⟨rfl, (cells3 h).2.1⟩
  | r bs err =>
    obtain ⟨g, h⟩ := co_openR h
    exact .inr ⟨rfl, _, (cells3 h).2.1⟩

theorem lab_arm [Stable (Sep l)] {w1 w2 : World} {g n k cap B : Nat} {V : Value → Ass} [hst : ∀ x, Stable (V x)] (hV : HoldsV V n k) {A : Option Addr} {L : List Int} (h : St Zf (CoA c s wb :: V (.slice A L.length cap) :: l) w0 w1) (hg : g = w1.heap.size) (hb2 : Blk w2 g 3 (rep8 8).toArray) (hb3 : Below w1.heap.size w1 w2) {P : List Int} (hP : P = pl8 L)
    (hr : RL ivl w0 B A L) (hB : B ≤ w0.heap.size) : ∃ w3 v, w2.cell? ⟨n, k, none⟩ = some (.slice A L.length cap) ∧ (Builtin.copy_ #[22, 22] 3 #[.slice (some ⟨g, 0, none⟩) 8 8, .slice A L.length cap]).run Try.prog w2 = .ok (.int .i64 v) w3 ∧ Hid (St Zf (BlkA g 3 (icells P) :: CoA c s wb :: V (.slice A L.length cap) :: l) w0 w3) ∧ True := by
  subst hP
  have h2 : St Zf (BlkA g 3 (rep8 8).toArray :: CoA c s wb :: V (.slice A L.length cap) :: l) w0 w2 := h.add (F := fun k => k = g) hb3 ⟨hb2, rfl⟩ fun k hk => by omega
  have hr2 := h2.rl hr hB
  obtain ⟨w3, v, e1, e2, e3⟩ := copyL (cap := cap) hb2 hr2
  refine ⟨w3, v, (hV.cell h2.bring2).1, e1, Lib.hid ?_, trivial⟩
  obtain ⟨F, ⟨_, rfl⟩, k⟩ := h2.turn
  exact k _ _ ⟨_, ⟨e2, rfl⟩, e3, fun i hi => .inl hi⟩

set_option maxRecDepth 100000 in
set_option maxHeartbeats 4000000 in
theorem Labels_any [Stable (Sep l)] {n k cap B : Nat} {V : Value → Ass} [hst : ∀ x, Stable (V x)] (hV : HoldsV V n k) {A : Option Addr} {L : List Int} (h : St Zf (CoA c s wb :: V (.slice A L.length cap) :: l) w0 w) (hr : RL ivl w0 B A L) (hB : B ≤ w0.heap.size) (hcap : L.length ≤ cap) (hm : cap ≤ maxLen) (hs : s.len ≤ 10000) :
    Calls Try.prog 52 #[.pointer (some ⟨c, 0, none⟩), .pointer (some ⟨n, k, none⟩)] w fun e w' => e = .returned (.tuple #[]) ∧ ∃ g, St Zf (CoA c (labS s (pl8 L) 8) (labWr s wb L) :: V (if s.isw = true then .slice A L.length cap else .slice (some ⟨g, 0, none⟩) (cutLen (labL s (pl8 L) 8) 8) 8) :: BlkA g 3 (icells (labL s (pl8 L) 8)) :: l) w0 w' := by
  have d2 := (hV.cell h.swap).1
  have hpl := pl8_length L
  obtain ⟨P, hP⟩ : ∃ P, P = pl8 L := ⟨_, rfl⟩
  unfold labWr labOut
  rw [← hP] at hpl ⊢
  have HP := Lib.hid hP
  clear hP
  obtain ⟨w1, hw1⟩ : ∃ w1, w1 = w.alloc (.cells #[.int .i64 (-1)] 3) := ⟨_, rfl⟩
  have h1 := h.alloc (.cells #[.int .i64 (-1)] 3)
  have hx : w1.cell? ⟨w.heap.size, 0, none⟩ = some (.int .i64 (-1)) := by rw [hw1, cell_of_row _ _ 0 _ 3 (0, 0) (heap_alloc_new w _)]; rfl
  have HR := Lib.hid (Repeat_any w1 w.heap.size hx (by rw [hw1]; simp))
  rw [← hw1] at h1
  have H1 := Lib.hid h1
  have HW1 := Lib.hid hw1
  clear h h1 hw1 hx
  go_enter Try.func52, Try.ntmps52
  go_wp2_with (go_at_call 66; rw [← HW1.out]; refine (HR.out).mono ?_; rintro e w2 ⟨g, rfl, hg, hb2, hb3⟩; obtain ⟨w3, v3, e2, hrun, H3, HE2⟩ := lab_arm hV H1.out hg hb2 hb3 HP.out hr hB; clear hg hb2 hb3)
  go_loopw [5, 15] (fun _ i wr' => ∃ k' : Nat, k' ≤ 8 ∧ i = .int .i64 k' ∧ Hid (St Zf (CoA c (labS s P k') (labW s wb P k') :: BlkA g 3 (icells (labL s P k' ++ P.drop k')) :: V (.slice A L.length cap) :: l) w0 wr')) (fun _ i _ => 8 - (intOf i).toNat)
  case atStart => exact ⟨0, Nat.zero_le _, rfl, Lib.hid (H3.out.swap)⟩
  case round =>
    obtain ⟨j, hj, rfl, H4⟩ := hrel
    by_cases hlt : j < 8
    · have hf : (labS s P j).fits := fits_of (by have := labS_len s P j; omega)
      have h4 := H4.out
      rw [dropI (by omega : j < P.length)] at h4
      have HN := Lib.hid (cnum_any (icells_holds g (labL s P j) (P.drop (j + 1)) j (labL_length s P j).symm) h4 hf 1 (-1) 200)
      clear h4 hf
      go_wp2_with (go_at_call 65; refine (HN.out).mono ?_; rintro e w5 ⟨rfl, h5⟩)
      go_roundw
      case rel =>
        refine ⟨j + 1, by omega, by go_num, Lib.hid ?_⟩
        rw [labL_succ, List.append_assoc]
        exact h5
      case measure => simp [intOf]; omega
    · obtain rfl : j = 8 := by omega
      have h4 := H4.out
      rw [List.drop_of_length_le (by omega), List.append_nil] at h4
      obtain ⟨sE, hsE⟩ : ∃ sE, sE = labS s P 8 := ⟨_, rfl⟩
      obtain ⟨wE, hwE⟩ : ∃ wE, wE = labW s wb P 8 := ⟨_, rfl⟩
      obtain ⟨Q, hQ⟩ : ∃ Q, Q = labL s P 8 := ⟨_, rfl⟩
      have hQl : Q.length = 8 := by rw [hQ, labL_length]
      have hiw : sE.isw = s.isw := by rw [hsE, labS_isw]
      rw [← hsE, ← hwE, ← hQ] at h4
      have HsE := Lib.hid hsE
      have HwE := Lib.hid hwE
      have HQ := Lib.hid hQ
      have Hiw := Lib.hid hiw
      clear H4 hsE hwE hQ hlt hiw
      obtain ⟨e2, f2⟩ := hV.cell h4.bring2
      rcases co_way h4 with ⟨hw, hc1⟩ | ⟨hw, g2, hc1⟩
      · rw [hw] at Hiw
        have hsw : s.isw = true := Hiw.out.symm
        have HA := Lib.hid (ascend_any A L.length cap B L wr (h4.rl hr hB) rfl hcap hm)
        have HE := fun b => Lib.hid (Expect_any h4 b)
        have H5 := Lib.hid h4
        clear h4
        by_cases h8 : L.length ≤ 8
        · have hd : decide (L.length ≤ 8) = true := decide_eq_true h8
          have hd' : ((L.length : Int) ≤ 8) := by omega
          have Hd := Lib.hid hd
          clear hd h8
          go_wp2_with (first | (go_at_call 68; refine (HA.out).mono ?_; rintro e w6 ⟨rfl, rfl⟩) | (go_at_call 59; refine ((HE _).out).mono ?_; rintro e w7 ⟨rfl, h7⟩))
          all_goals
            go_end0
            refine ⟨rfl, g, ?_⟩
            rw [← HsE.out, ← HwE.out, ← HQ.out]
            simpa [Hd.out, hsw] using h7.bring2.swap
        · have hd : decide (L.length ≤ 8) = false := decide_eq_false h8
          have hd' : decide ((L.length : Int) ≤ 8) = false := decide_eq_false (by omega)
          have Hd := Lib.hid hd
          clear hd h8
          go_wp2_with (go_at_call 59; refine ((HE false).out).mono ?_; rintro e w7 ⟨rfl, h7⟩)
          all_goals
            go_end0
            refine ⟨rfl, g, ?_⟩
            rw [← HsE.out, ← HwE.out, ← HQ.out]
            simpa [Hd.out, hsw] using h7.bring2.swap
      · rw [hw] at Hiw
        have hsw : s.isw = false := Hiw.out.symm
        have hQr := h4.swap.blk.rl
        have HC := Lib.hid (withoutEnd_any (some ⟨g, 0, none⟩) 8 8 _ Q wr hQr hQl (Nat.le_refl _) (by unfold maxLen; omega))
        have H5 := Lib.hid h4
        obtain ⟨m, hm8⟩ : ∃ m, m = cutLen Q 8 := ⟨_, rfl⟩
        have hmle : m ≤ 8 := by rw [hm8]; exact cutLen_le _ _
        rw [← hm8] at HC
        have Hm8 := Lib.hid hm8
        clear h4 hm8
        go_upto_region 9 with (go_at_call 67; refine (HC.out).mono ?_; rintro e w6 ⟨rfl, nd, hw6⟩; have h6 := Lib.hid (H5.out.drewN nd); rw [← hw6] at h6; obtain ⟨g6, f6⟩ := hV.cell h6.out.bring2; have h7 : Hid (St Zf (V (.slice (some ⟨g, 0, none⟩) m 8) :: CoA c sE wE :: BlkA g 3 (icells Q) :: l) w0 (w6.setCell ⟨n, k, none⟩ (.slice (some ⟨g, 0, none⟩) m 8))) := Lib.hid (hV.set_ inferInstance h6.out.bring2 _); obtain ⟨w7, hw7⟩ : ∃ w7, w7 = w6.setCell ⟨n, k, none⟩ (.slice (some ⟨g, 0, none⟩) m 8) := ⟨_, rfl⟩; rw [← hw7] at h7; have HW7 := Lib.hid hw7; clear hw6 hw7)
        rw [← HW7.out]
        have k2 := (hV.cell h7.out).1
        have HA := Lib.hid (ascend_any (some ⟨g, 0, none⟩) m 8 _ (Q.take m) w7 (h7.out.bring2.blk.rl.cut m) (by rw [List.length_take]; omega) hmle (by unfold maxLen; omega))
        have HE := fun b => Lib.hid (Expect_any h7.out.swap b)
        have hd' : ((m : Int) ≤ 8) := by omega
        have Hd : Hid (decide (min m Q.length ≤ 8) = true) := Lib.hid (decide_eq_true (by omega))
        go_wp2_with (first | (go_at_call 68; refine (HA.out).mono ?_; rintro e w8 ⟨rfl, rfl⟩) | (go_at_call 59; refine ((HE _).out).mono ?_; rintro e w9 ⟨rfl, h9⟩))
        all_goals
          go_end0
          refine ⟨rfl, g, ?_⟩
          rw [← HsE.out, ← HwE.out, ← HQ.out, ← Hm8.out]
          simpa [Hd.out, hsw] using h9
end
end Go.Proofs.Ytpoaokkmmoeekaa

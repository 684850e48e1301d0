/- frame: what each goes over, and its contract as a sequence. -/
import Derived.Test.YtkdlehekignnhaaDoorFr2
import Derived.Test.YtkdlehekignnhaaDoorRangeQ
import Derived.Shelf.Abstract
import Derived.Shelf.RegionOpen
import Derived.WalkKit
import Derived.OwnWalkIn
import Derived.TacticsInMore
import Derived.LoopNIn
import Derived.LoopIn
namespace Go.Proofs.YtkdlehekignnhaaDoor
open Go.RowKit Go.Shelf
set_option linter.unusedVariables false
attribute [local go_sem] Oper.semAt_some

/-- the frames that b begins with, and the error that ends the reading -/
def frs (b : List Nat) : List (Nat × List Nat) × Int :=
  if b.length = 0 then ([], 0) else if firstErr b ≠ 0 then ([], firstErr b)
  else ((frT b, frD b) :: (frs (b.drop (9 + frN b))).1, (frs (b.drop (9 + frN b))).2)
termination_by b.length
decreasing_by
  all_goals
    rw [List.length_drop]
    omega
/-- what is handed on, step by step -/
structure Ev where
  t : Nat
  d : List Nat
  e : Int
def evs (b : List Nat) : List Ev := (frs b).1.map (fun f => ⟨f.1, f.2, 0⟩) ++ if (frs b).2 = 0 then [] else [⟨0, [], (frs b).2⟩]
theorem evs_nil {b : List Nat} (h : b.length = 0) : evs b = [] := by
  have e : frs b = ([], 0) := by rw [frs, if_pos h]
  unfold evs
  rw [e]
  rfl
theorem evs_err {b : List Nat} (h : b.length ≠ 0) (he : firstErr b ≠ 0) : evs b = [⟨frT b, frD b, firstErr b⟩] := by
  have e : frs b = ([], firstErr b) := by rw [frs, if_neg h, if_pos he]
  have h1 : frT b = 0 := if_neg he
  have h2 : frD b = [] := if_neg he
  unfold evs
  rw [e, h1, h2, if_neg he]
  rfl
theorem evs_ok {b : List Nat} (h : b.length ≠ 0) (he : firstErr b = 0) : evs b = ⟨frT b, frD b, firstErr b⟩ :: evs (b.drop (9 + frN b)) := by
  have e : frs b = ((frT b, frD b) :: (frs (b.drop (9 + frN b))).1, (frs (b.drop (9 + frN b))).2) := by
    rw [frs, if_neg h, if_neg (by simpa using he)]
  unfold evs
  rw [e, he]
  rfl
theorem first_long {b : List Nat} (he : firstErr b = 0) : 9 + frN b ≤ b.length ∧ (frD b).length = frN b ∧ frN b ≤ 1048576 := by
  have hd : frD b = (b.take (5 + frN b)).drop 5 := if_pos he
  unfold firstErr at he
  split at he
  · cases he
  · split at he
    · cases he
    · split at he
      · cases he
      · refine ⟨by omega, ?_, by omega⟩
        rw [hd, List.length_drop, List.length_take]
        omega

/-- what comes in a step: an event, where its data lie, and the block that holds the frame -/
structure Fx where
  v : Ev
  A : Option Addr
  c : Nat
  g : Nat
def Fx.enc (x : Fx) : Array Value := #[fragg x.v.t x.A x.v.d.length x.c, .int .i64 x.v.e]
def Fx.cells (x : Fx) : Array Value := #[.int .i64 (x.v.t : Int), .slice x.A x.v.d.length x.c]
/-- what the sequence reads -/
def EachA (Bs n₀ : Nat) (A : Option Addr) (c : Nat) (b : List Nat) (V : World) : Prop := V.cell? ⟨Bs, 0, none⟩ = some (.slice A b.length c) ∧ RB V n₀ A b ∧ TabW V ∧ Bs < V.heap.size ∧ n₀ ≤ V.heap.size
def EachY (b : List Nat) (pre : List Fx) (x : Fx) (V V1 : World) : Prop :=
  St Zf [BlkA x.g 25 x.cells, ObA 5 (.slice x.A x.v.d.length x.c) x.v.d] V V1 ∧ (∃ r, evs b = pre.map Fx.v ++ x.v :: r) ∧ x.v.d.length ≤ 1048576
def EachK (x : Fx) (V : World) : Prop := Blk V x.g 25 x.cells
theorem EachA.below {Bs n₀ : Nat} {A : Option Addr} {c : Nat} {b : List Nat} {V W : World} (h : EachA Bs n₀ A c b V) (hb : Below V.heap.size V W) : EachA Bs n₀ A c b W :=
  ⟨(hb.cell (p := ⟨Bs, 0, none⟩) h.2.2.2.1).trans h.1, h.2.1.below' hb h.2.2.2.2, h.2.2.1.below hb h.2.2.1.1, by have := hb.size; have := h.2.2.2.1; omega, by have := hb.size; have := h.2.2.2.2; omega⟩

theorem RB.nilE (w : World) (B : Nat) (A : Option Addr) : RB w B A [] := RB.of_cells IsBytes.nil _ fun h => absurd h (by simp)
def slen : Value → Nat
  | .slice _ n _ => n
  | _ => 0
set_option maxRecDepth 100000 in
set_option maxHeartbeats 1000000 in
theorem each1_seq (Bs n₀ : Nat) (A : Option Addr) (c : Nat) (b : List Nat) (hl : b.length ≤ c) (hc : c ≤ maxLen) :
    SeqW Tryd.prog 44 #[.pointer (some ⟨Bs, 0, none⟩)] Fx.enc (EachA Bs n₀ A c b) (EachY b) EachK (fun xs _ => xs.map Fx.v = evs b) (fun pre => ∃ r, evs b = pre.map Fx.v ++ r) := by
  intro l J Jx W hA hY h0
  obtain ⟨hc0, hr0, hT0, hBs, hn0⟩ := hA _ _ h0
  refine callsIn_of_wp Tryd.func44 rfl trivial ?_ rfl
  simp only [Tryd.ntmps44, List.size_toArray, List.length_cons, List.length_nil, Nat.reduceAdd, Nat.reduceSub, Array.replicate_succ, Array.replicate_zero, List.push_toArray, List.append_toArray, List.nil_append, List.cons_append]
  gi_wp2
  gi_loopw [3] (fun p wr => ∃ (pre : List Fx) (k : Nat) (A' : Option Addr) (c' : Nat) (V : World), p = .slice A' (b.drop k).length c' ∧ k ≤ b.length ∧ (b.drop k).length ≤ c' ∧ c' ≤ maxLen ∧ evs b = pre.map Fx.v ++ evs (b.drop k) ∧ J pre V ∧ Below V.heap.size V wr ∧ (∀ w', EachA Bs n₀ A c b w' → RB w' n₀ A' (b.drop k)))
    (fun p _ => slen p)
  case atStart =>
    exact ⟨[], 0, A, c, W, rfl, Nat.zero_le _, hl, hc, rfl, h0, Below.refl _ _, fun w' h => h.2.1⟩
  case round =>
    obtain ⟨pre, k, A', c', V, rfl, hk, hl', hc', hev, hJ, hB, hRd⟩ := hrel
    have hEA := (hA pre V hJ).below hB
    obtain ⟨R, hR⟩ : ∃ R, R = b.drop k := ⟨_, rfl⟩
    rw [← hR] at hl' hev hRd ⊢
    have hRl : R.length = b.length - k := by rw [hR, List.length_drop]
    have HEA := Lib.hid hEA
    have HB := Lib.hid hB
    have HJ := Lib.hid hJ
    by_cases h0 : R.length = 0
    · rw [evs_nil h0, List.append_nil] at hev
      have HEV := Lib.hid hev
      clear hev hRd hR hRl hEA hB hJ hA hY
      rw [h0]
      gi_wp2
      go_end0
      exact ⟨⟨_, rfl⟩, .inl ⟨pre, V, HEV.out.symm, HJ.out, HB.out⟩⟩
    · have hR0 : 0 < R.length := by omega
      have HF := Lib.hid (first_any A' c' n₀ R wr hEA.2.2.1 (hRd wr hEA) hEA.2.2.2.2 (by omega) hl' hc')
      have HEV := Lib.hid hev
      have HRD := Lib.hid hRd
      have HRL := Lib.hid hRl
      have HRE := Lib.hid hR
      have HY := Lib.hid hY
      have HA := Lib.hid hA
      have HNL := Lib.hid h0
      obtain ⟨n, hn⟩ : ∃ n, n = R.length := ⟨_, rfl⟩
      have HN := Lib.hid hn
      rw [← hn] at hR0 hl' HF ⊢
      have hR0' : (0 : Int) < (n : Int) := by omega
      have HCC : Hid (n ≤ c' ∧ c' ≤ maxLen) := Lib.hid ⟨hl', hc'⟩
      have HKB := Lib.hid hk
      clear hev hRd hR hRl hEA hB hJ hA hY hn h0 hc0 hr0 hT0 hBs hn0 hl hc hk hl' hc'
      have hone : 1 ≤ 9 - 1 - 1 := by decide
      obtain ⟨x0, hx0⟩ : ∃ x : Ev, x = ⟨frT R, frD R, firstErr R⟩ := ⟨_, rfl⟩
      have HX0 := Lib.hid hx0
      have hd0 : x0.d.length ≤ 1048576 := by
        rw [hx0]
        by_cases he : firstErr R = 0
        · have hf := first_long he
          exact hf.2.1 ▸ hf.2.2
        · have : frD R = [] := if_neg he
          simp [this]
      have HD0 := Lib.hid hd0
      have HF2 : Hid (Calls Tryd.prog 45 #[.slice A' n c'] wr fun e w' => ∃ A1 c1, e = .returned (.tuple #[fragg x0.t A1 x0.d.length c1, .int .i64 x0.e]) ∧ St Zf [ObA 5 (.slice A1 x0.d.length c1) x0.d] wr w') := Lib.hid (by
        rw [hx0]
        exact HF.out)
      clear HF hx0 hd0
      gi_wp2_with fail
      refine ⟨trivial, (callsIn_wide.2 HF2.out).mono ?_⟩
      rintro e w1 ⟨A1, c1, rfl, h1⟩
      have h2 := (((St.start Zf V).below HB.out).addStL h1).newBlk 25 #[.int .i64 (x0.t : Int), .slice A1 x0.d.length c1]
      have H1 := Lib.hid h1
      have H2 := Lib.hid h2
      obtain ⟨x, hx⟩ : ∃ x : Fx, x = ⟨x0, A1, c1, w1.heap.size⟩ := ⟨_, rfl⟩
      obtain ⟨V1, hV1⟩ : ∃ V1, V1 = w1.alloc (.cells #[.int .i64 (x0.t : Int), .slice A1 x0.d.length c1] 25) := ⟨_, rfl⟩
      have hex : ∃ r, evs R = x0 :: r ∧ (x0.e = 0 → r = evs (R.drop (9 + x0.d.length)) ∧ 9 + x0.d.length ≤ R.length) ∧ (x0.e ≠ 0 → r = []) := by
        by_cases he : firstErr R = 0
        · have hf := first_long he
          refine ⟨_, by rw [evs_ok HNL.out he, HX0.out], fun _ => ?_, fun h => absurd (by rw [HX0.out]; exact he) h⟩
          rw [HX0.out]
          exact ⟨by rw [hf.2.1], by rw [hf.2.1]; exact hf.1⟩
        · refine ⟨_, by rw [evs_err HNL.out he, HX0.out], fun h => absurd (by rw [HX0.out] at h; exact h) he, fun _ => rfl⟩
      obtain ⟨r, hr1, hr2, hr3⟩ := hex
      obtain ⟨fn, tmps, assign, body, hy, hRd⟩ := HY.out pre x V V1 HJ.out ⟨by rw [hx, hV1]; exact H2.out, ⟨r, by rw [HEV.out, hr1, hx]⟩, by rw [hx]; exact HD0.out⟩
      have HR1 := Lib.hid hr1
      have HR2 := Lib.hid hr2
      have HR3 := Lib.hid hr3
      have HX := Lib.hid hx
      rw [hx, hV1] at hy
      rw [hV1] at hRd
      have HRd := Lib.hid hRd
      dsimp only [Fx.enc] at hy
      obtain ⟨f0, f1⟩ := cells2 h2
      clear hV1
      clear hr1 hr2 hr3 hRd h1 h2 hx
      simp only [fragg] at hy ⊢
      gi_wp2_with fail
      refine HRd.out.mono ?_
      rintro e W' (⟨rfl, hJ', hK'⟩ | ⟨rfl, hJx'⟩)
      · by_cases he : x0.e = 0
        · obtain ⟨hr4, hr5⟩ := HR2.out he
          have HR4 := Lib.hid hr4
          have hbk : Blk W' w1.heap.size 25 #[.int .i64 (x0.t : Int), .slice A1 x0.d.length c1] := by
            have h := hK'
            rw [HX.out] at h
            exact h
          have g0 : W'.cell? ⟨w1.heap.size, 0, none⟩ = some (.int .i64 (x0.t : Int)) := by rw [hbk.cell 0]; rfl
          have g1 : W'.cell? ⟨w1.heap.size, 1, none⟩ = some (.slice A1 x0.d.length c1) := by rw [hbk.cell 1]; rfl
          have HSz := Lib.hid (size_any (x0.t : Int) A1 x0.d.length c1 W' (by have := HD0.out; omega))
          have HJ' := Lib.hid hJ'
          obtain ⟨m, hm⟩ : ∃ m, m = x0.d.length := ⟨_, rfl⟩
          have HM := Lib.hid hm
          rw [← hm] at hr5 g1 HSz ⊢
          rw [← HN.out] at hr5
          have hcc := HCC.out.1
          have HEVN : Hid (evs b = (pre ++ [x]).map Fx.v ++ evs (b.drop (k + (9 + m)))) := Lib.hid (by
            rw [HEV.out, HR1.out, HR4.out, ← hm, HRE.out, List.drop_drop, List.map_append, HX.out, List.append_assoc]
            rfl)
          have HLN : Hid ((b.drop (k + (9 + m))).length = n - (9 + m) ∧ k + (9 + m) ≤ b.length) := Lib.hid (by
            have h1 := HRL.out
            have h2 := HN.out
            rw [List.length_drop]
            have h3 := HKB.out
            omega)
          have HRN : Hid (∀ w', EachA Bs n₀ A c b w' → RB w' n₀ (A'.map fun y => y.add (9 + m)) (b.drop (k + (9 + m)))) := Lib.hid (by
            intro w' h
            have hr := HRD.out w' h
            obtain ⟨bb, off, rfl, -, -⟩ := hr.all (by have := HN.out; omega)
            have hr2 := hr.cut rfl (9 + m) R.length (Nat.le_refl _) (by have := HN.out; omega)
            rw [List.take_length, HRE.out, List.drop_drop] at hr2
            simp only [Option.map_some, add_none]
            exact hr2)
          clear hr4 hbk hK' hJ' hm f0 f1 hy
          simp only [fragg] at HSz
          by_cases hcap : 9 + m = c'
          · gi_wp2_with fail
            refine ⟨trivial, (callsIn_wide.2 HSz.out).mono ?_⟩
            rintro e W2 ⟨rfl, hb2⟩
            gi_wp2_with fail
            obtain ⟨hl1, hl2⟩ := HLN.out
            have hz : (b.drop (k + (9 + m))).length = 0 := by omega
            refine ⟨⟨pre ++ [x], k + (9 + m), A', 0, W', by rw [hz], hl2, by omega, Nat.zero_le _, HEVN.out, HJ'.out, hb2, fun w' h => ?_⟩, ?_⟩
            · rw [List.length_eq_zero_iff.1 hz]
              exact RB.nilE w' n₀ A'
            · show 0 < n
              omega
          · gi_wp2_with fail
            refine ⟨trivial, (callsIn_wide.2 HSz.out).mono ?_⟩
            rintro e W2 ⟨rfl, hb2⟩
            gi_wp2_with fail
            obtain ⟨hl1, hl2⟩ := HLN.out
            obtain ⟨hc1, hc2⟩ := HCC.out
            refine ⟨⟨pre ++ [x], k + (9 + m), _, c' - (9 + m), W', by rw [hl1], hl2, by omega, by omega, HEVN.out, HJ'.out, hb2, HRN.out⟩, ?_⟩
            show n - (9 + m) < n
            omega
        · have hne : ¬ x0.e = 0 := he
          gi_wp2_with fail
          refine bodyPost_ret (results_none rfl _ _ _) rfl ?_
          refine ⟨⟨_, rfl⟩, .inl ⟨pre ++ [x], W', ?_, hJ', Below.refl _ _⟩⟩
          rw [HEV.out, HR1.out, HR3.out he, List.map_append, HX.out]
          rfl
      · gi_wp2_with fail
        refine bodyPost_ret (results_none rfl _ _ _) rfl ?_
        refine ⟨⟨_, rfl⟩, .inr ⟨pre ++ [x], W', ⟨r, ?_⟩, hJx', Below.refl _ _⟩⟩
        rw [HEV.out, HR1.out, List.map_append, HX.out, List.append_assoc]
        rfl

end Go.Proofs.YtkdlehekignnhaaDoor

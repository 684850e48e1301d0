/- frame: the Reader as an object; collect. -/
import Derived.Test.YtkdlehekignnhaaDoorFr4
namespace Go.Proofs.YtkdlehekignnhaaDoor
open Go.RowKit Go.Shelf
set_option linter.unusedVariables false
set_option linter.unusedSimpArgs false
attribute [local go_sem] Oper.semAt_some

/-- the Reader at block g: what is not a whole frame yet, the frames laid up, the error -/
def RdrA (g : Nat) (bs : List Nat) (Fs : List (Nat × List Nat)) (err : Int) : Ass := Ex fun i : Value × Value × List Fq => Wh (i.2.2.map Fq.f = Fs) (Sep [BlkA g 72 #[i.1, i.2.1, .int .i64 err], ObA 5 i.1 bs, FsA i.2.1 i.2.2])
instance stableRdr {g : Nat} {bs : List Nat} {Fs : List (Nat × List Nat)} {err : Int} : Stable (RdrA g bs Fs err) := inferInstanceAs (Stable (Ex _))
section
variable {S : Fp} {l : List Ass} {w0 w w' : World} {g : Nat} {bs : List Nat} {Fs : List (Nat × List Nat)} {err : Int}
theorem rdr_open (h : St S (RdrA g bs Fs err :: l) w0 w) : ∃ (sl v : Value) (X : List Fq), X.map Fq.f = Fs ∧ St S (BlkA g 72 #[sl, v, .int .i64 err] :: ObA 5 sl bs :: FsA v X :: l) w0 w := by
  obtain ⟨⟨sl, v, X⟩, h⟩ := St.ex (l := l) h
  obtain ⟨hm, h⟩ := h.wh
  exact ⟨sl, v, X, hm, h.flat⟩
theorem rdr_shut {sl v : Value} {X : List Fq} (hm : X.map Fq.f = Fs) (h : St S (BlkA g 72 #[sl, v, .int .i64 err] :: ObA 5 sl bs :: FsA v X :: l) w0 w) : St S (RdrA g bs Fs err :: l) w0 w :=
  (St.pack (l' := [_, _, _]) h).mapHead fun F h => ⟨(sl, v, X), hm, h⟩
theorem cells3 {t : TypeId} {a b d : Value} (h : St S (BlkA g t #[a, b, d] :: l) w0 w) : w.cell? ⟨g, 0, none⟩ = some a ∧ w.cell? ⟨g, 1, none⟩ = some b ∧ w.cell? ⟨g, 2, none⟩ = some d := by
  have hb := h.blk
  exact ⟨by rw [hb.cell 0]; rfl, by rw [hb.cell 1]; rfl, by rw [hb.cell 2]; rfl⟩
end
theorem RB.within {V w : World} {N n₀ : Nat} {A : Option Addr} {b : List Nat} (h : RB V N A b) (k : RB w n₀ A b) : RB V n₀ A b := by
  refine RB.of_cells h.1 _ fun hn => ?_
  obtain ⟨b1, off, rfl, h1, h2⟩ := h.all hn
  obtain ⟨b2, off2, e, h3, -⟩ := k.all hn
  simp only [Option.some.injEq, Addr.mk.injEq] at e
  obtain ⟨rfl, rfl, -⟩ := e
  exact ⟨b1, off, rfl, h3, h2⟩

/-! ### what comes of the steps -/
def gotF (l : List Ev) : List (Nat × List Nat) := (l.filter fun x => x.e = 0).map fun x => (x.t, x.d)
def gotN (l : List Ev) : Nat := (l.map fun x => if x.e = 0 then 9 + x.d.length else 0).sum
def gotE : Int → List Ev → Int
  | e, [] => e
  | e, x :: l => gotE (if x.e = 0 ∨ x.e = 10 then e else x.e) l
theorem gotF_snoc (l : List Ev) (x : Ev) : gotF (l ++ [x]) = gotF l ++ if x.e = 0 then [(x.t, x.d)] else [] := by
  unfold gotF
  rw [List.filter_append, List.map_append]
  by_cases h : x.e = 0 <;> simp [h]
theorem gotN_snoc (l : List Ev) (x : Ev) : gotN (l ++ [x]) = gotN l + if x.e = 0 then 9 + x.d.length else 0 := by
  unfold gotN
  rw [List.map_append, List.sum_append]
  simp
theorem gotE_snoc (e : Int) (l : List Ev) (x : Ev) : gotE e (l ++ [x]) = if x.e = 0 ∨ x.e = 10 then gotE e l else x.e := by
  induction l generalizing e with
  | nil => simp [gotE]
  | cons y l ih => simp only [List.cons_append, gotE, ih]

theorem gotN_app (l r : List Ev) : gotN (l ++ r) = gotN l + gotN r := by
  unfold gotN
  rw [List.map_append, List.sum_append]
theorem gotN_evs (b : List Nat) : gotN (evs b) ≤ b.length := by
  induction hn : b.length using Nat.strongRecOn generalizing b with
  | ind n ih =>
    by_cases h0 : b.length = 0
    · rw [evs_nil h0]
      exact Nat.zero_le _
    · by_cases he : firstErr b = 0
      · obtain ⟨h1, h2, -⟩ := first_long he
        have h3 := ih (b.drop (9 + frN b)).length (by rw [List.length_drop]; omega) _ rfl
        rw [List.length_drop] at h3
        rw [evs_ok h0 he]
        have e : gotN ({ t := frT b, d := frD b, e := firstErr b } :: evs (b.drop (9 + frN b))) = (9 + frN b) + gotN (evs (b.drop (9 + frN b))) := by
          unfold gotN
          rw [List.map_cons, List.sum_cons, if_pos he, h2]
        omega
      · rw [evs_err h0 he]
        unfold gotN
        simp [he]
theorem gotF_len (l : List Ev) : 9 * (gotF l).length ≤ gotN l := by
  induction l with
  | nil => exact Nat.le_refl _
  | cons x l ih =>
    have e1 : gotN (x :: l) = (if x.e = 0 then 9 + x.d.length else 0) + gotN l := by
      unfold gotN
      rw [List.map_cons, List.sum_cons]
    have e2 : (gotF (x :: l)).length = (if x.e = 0 then 1 else 0) + (gotF l).length := by
      unfold gotF
      rw [List.filter_cons]
      by_cases h : x.e = 0
      · simp [h]
        omega
      · simp [h]
    rw [e1, e2]
    by_cases h : x.e = 0
    · rw [if_pos h, if_pos h]
      omega
    · rw [if_neg h, if_neg h]
      omega
theorem wrapI_add {a n : Nat} (h : a + (9 + n) ≤ 140737488355328) : IntKind.i64.wrap ((a : Int) + (9 + (n : Int))) = ((a + (9 + n) : Nat) : Int) := by
  rw [IntKind.wrap_i64]
  omega
theorem bears_no {l d : Nat} : Bears l d fun _ _ => False where
  at_ := fun h => h.elim
  turn := fun _ h => h.elim
  below := fun h _ => h.elim

/-- the loop's objects in collect -/
def colL (W0 : Nat) (g : Nat) (sl : Value) (bs : List Nat) (l : List Ass) (i : Value × List Fq × Nat × Int) : List Ass :=
  BlkA (W0 + 1) 3 #[.int .i64 (i.2.2.1 : Int)] :: BlkA g 72 #[sl, i.1, .int .i64 i.2.2.2] :: FsA i.1 i.2.1 :: ObA 5 sl bs :: BlkA W0 48 #[.pointer (some ⟨g, 0, none⟩)] :: BlkA (W0 + 1 + 1) 23 #[sl] :: l
instance stableCol {W0 g : Nat} {sl : Value} {bs : List Nat} {l : List Ass} [Stable (Sep l)] {i : Value × List Fq × Nat × Int} : Stable (Sep (colL W0 g sl bs l i)) := by
  unfold colL
  infer_instance
def colF (b : List Nat) (Fs : List (Nat × List Nat)) (e0 : Int) (pre : List Fx) (i : Value × List Fq × Nat × Int) : Prop :=
  i.2.1.map Fq.f = Fs ++ gotF (pre.map Fx.v) ∧ i.2.2.1 = gotN (pre.map Fx.v) ∧ i.2.2.2 = gotE e0 (pre.map Fx.v) ∧ ∃ r, evs b = pre.map Fx.v ++ r
set_option maxRecDepth 100000 in
set_option maxHeartbeats 1000000 in
theorem collect_any {l : List Ass} [Stable (Sep l)] {w0 w : World} {g : Nat} {b : List Nat} {Fs : List (Nat × List Nat)} {e0 : Int} (hT : TabW w0) (h : St Zf (RdrA g b Fs e0 :: l) w0 w) (hbm : b.length ≤ 1099511627776) (hFm : Fs.length ≤ 1099511627776) :
    Calls Tryd.prog 38 #[.pointer (some ⟨g, 0, none⟩)] w fun e w' => e = .returned (.int .i64 (gotN (evs b) : Int)) ∧ St Zf (RdrA g b (Fs ++ gotF (evs b)) (gotE e0 (evs b)) :: l) w0 w' := by
  obtain ⟨sl, v0, X0, hX, h1⟩ := rdr_open h
  obtain ⟨A, c, rfl, hbc, hcm, hrb, -⟩ := h1.swap.ob.form
  obtain ⟨c0, c1, c2⟩ := cells3 h1
  have hgs := h1.blk.lt
  have HX := Lib.hid hX
  have HT := Lib.hid hT
  have HR := Lib.hid hrb
  have HL := Lib.hid (⟨hbc, hcm, hbm, hFm, hgs⟩ : b.length ≤ c ∧ c ≤ maxLen ∧ b.length ≤ 1099511627776 ∧ Fs.length ≤ 1099511627776 ∧ g < w.heap.size)
  have h2 := (((h1.newBlk 48 #[.pointer (some ⟨g, 0, none⟩)]).newBlk 3 #[.int .i64 0]).newBlk 23 #[.slice A b.length c])
  simp only [World.size_alloc] at h2
  have H2 := Lib.hid h2
  clear h h1 hX hT hrb hbc hcm hbm hFm h2
  refine (callsIn_wide (n := 10)).1 ?_
  refine callsIn_of_wp_marks Tryd.func38 rfl trivial ?_ rfl
  simp only [Tryd.ntmps38, List.size_toArray, List.length_cons, List.length_nil, Nat.reduceAdd, Nat.reduceSub, Array.replicate_succ, Array.replicate_zero, List.push_toArray, List.append_toArray, List.nil_append, List.cons_append]
  gi_wp2_with fail
  refine ⟨trivial, (callsIn_wide.2 (each_any _ _ _ _)).mono ?_⟩
  rintro e w1 ⟨rfl, hw1⟩
  simp only [World.size_alloc] at hw1 ⊢
  have h3 := H2.out
  rw [hw1] at h3
  have HS := Lib.hid h3
  clear hw1 h3 H2 c0 c1 c2
  gi_wp2_with fail
  have hEA : ∀ o pre V, (∃ i, colF b Fs e0 pre i ∧ St Zf (RecA (w1.heap.size + 1) w1.heap.size o :: colL w.heap.size g (.slice A b.length c) b l i) w0 V) → EachA (w.heap.size + 1 + 1) w.heap.size A c b V := by
    rintro o pre V ⟨i, -, h⟩
    have hb := h.bel
    obtain ⟨h1, h2, h3, h4, h5⟩ := HL.out
    have hbk : Blk V (w.heap.size + 1 + 1) 23 #[.slice A b.length c] := h.drop.drop.drop.drop.drop.drop.blk
    have hob := h.drop.drop.drop.drop.ob
    obtain ⟨A', c', hv, -, -, hr, -⟩ := hob.form
    injection hv with e1 e2 e3
    subst e1
    refine ⟨by rw [hbk.cell 0]; rfl, hr.within HR.out, HT.out.below hb HT.out.1, hbk.lt, by have := hbk.lt; omega⟩
  refine wpIn_rangeW rfl (gf := 44) (lb := #[.pointer (some ⟨w.heap.size + 1 + 1, 0, none⟩)]) rfl (enters_of Tryd.func44 (by kernel_rfl) rfl) (encs := Fx.enc) (fun _ => rfl)
    (each1_seq (w.heap.size + 1 + 1) w.heap.size A c b HL.out.1 HL.out.2.1)
    (fun o pre W => ∃ i, colF b Fs e0 pre i ∧ St Zf (RecA (w1.heap.size + 1) w1.heap.size o :: colL w.heap.size g (.slice A b.length c) b l i) w0 W)
    (fun o pre x W => ∃ i : Value × List Fq × Nat × Int, (colF b Fs e0 pre i ∧ (∃ r, evs b = pre.map Fx.v ++ x.v :: r) ∧ x.v.d.length ≤ 1048576) ∧
      St Zf (RecA (w1.heap.size + 1) w1.heap.size o :: BlkA x.g 25 x.cells :: ObA 5 (.slice x.A x.v.d.length x.c) x.v.d :: colL w.heap.size g (.slice A b.length c) b l i) w0 W)
    (fun o pre x a W => ∃ i : (Value × List Fq × Nat × Int) × Nat, (colF b Fs e0 pre i.1 ∧ (∃ r, evs b = pre.map Fx.v ++ x.v :: r) ∧ x.v.d.length ≤ 1048576 ∧
        a = { tmps := #[.pointer (some ⟨g, 0, none⟩), .pointer (some ⟨w.heap.size, 0, none⟩), .int .i64 0, .pointer (some ⟨w.heap.size + 1, 0, none⟩), .pointer (some ⟨i.2, 0, none⟩), .int .i64 x.v.e, .pointer (some ⟨g, 0, none⟩), .pointer (some ⟨g, 0, none⟩), .pointer (some ⟨g, 0, none⟩), .slice A b.length c,
          .func (.func 44) #[] #[.pointer (some ⟨w.heap.size + 1 + 1, 0, none⟩)], fragg x.v.t x.A x.v.d.length x.c, .int .i64 x.v.e, undef, undef, undef, undef, undef, undef, undef, undef, undef, undef, undef, undef, undef, undef, undef, undef, undef, undef, undef, undef, undef, undef, undef, undef], defers := [] }) ∧
      St Zf (RecA (w1.heap.size + 1) w1.heap.size o :: BlkA i.2 25 x.cells :: BlkA x.g 25 x.cells :: ObA 5 (.slice x.A x.v.d.length x.c) x.v.d :: colL w.heap.size g (.slice A b.length c) b l i.1) w0 W)
    (fun _ _ _ _ => False)
    (fun o pre x W => ∃ i : Value × List Fq × Nat × Int, colF b Fs e0 (pre ++ [x]) i ∧ St Zf (RecA (w1.heap.size + 1) w1.heap.size o :: BlkA x.g 25 x.cells :: colL w.heap.size g (.slice A b.length c) b l i) w0 W)
    (fun o xs W => ∃ i : Value × List Fq × Nat × Int, (colF b Fs e0 xs i ∧ xs.map Fx.v = evs b) ∧ St Zf (RecA (w1.heap.size + 1) w1.heap.size o :: colL w.heap.size g (.slice A b.length c) b l i) w0 W)
    ?bI ?bM ?bN ?bX ?bR ?bZ hEA ?hY ?hR ?hT ?h0 ?assign ?body ?done ?stop
  case hY =>
    rintro o pre x V V1 ⟨i, hf, h⟩ ⟨h1, h2, h3⟩
    exact ⟨i, ⟨hf, h2, h3⟩, ((h.addSts h1).bring2)⟩
  case bI => exact fun pre => bears_ex
  case bM => exact fun pre x => bears_ex
  case bN => exact fun pre x a => bears_ex (g := fun i : (Value × List Fq × Nat × Int) × Nat => BlkA i.2 25 x.cells :: BlkA x.g 25 x.cells :: ObA 5 (.slice x.A x.v.d.length x.c) x.v.d :: colL w.heap.size g (.slice A b.length c) b l i.1)
  case bX => exact fun c pre => bears_no
  case bR => exact fun pre x => bears_ex
  case bZ => exact fun pre => bears_ex
  case hR =>
    rintro o pre x V ⟨i, hf, h⟩
    exact ⟨⟨i, hf, h.swap.drop⟩, h.swap.blk⟩
  case hT =>
    rintro o xs V ⟨i, h1, h⟩ (ht : xs.map Fx.v = evs b)
    exact ⟨i, ⟨h1, ht⟩, h⟩
  case h0 =>
    intro o
    exact ⟨(v0, X0, 0, e0), ⟨by simpa [gotF] using HX.out, rfl, rfl, ⟨_, rfl⟩⟩, (HS.out.bring2.bring4.bring5.bring5.bring5).recNew o⟩
  case assign =>
    rintro o pre x W ⟨i, ⟨hf, hx, hd⟩, h⟩
    have HH := Lib.hid h
    clear h
    simp only [Fx.enc, fragg]
    gi_wp2
    exact ⟨(i, W.heap.size), ⟨hf, hx, hd, rfl⟩, (HH.out.newBlk 25 x.cells).swap⟩
  case body =>
    rintro o pre x a W ⟨⟨⟨v, X, us, er⟩, gf⟩, ⟨⟨hf1, hf2, hf3, r0, hf4⟩, ⟨r, hr⟩, hd, rfl⟩, h⟩
    have HH := Lib.hid h
    have hbu : Blk W (w.heap.size + 1) 3 #[.int .i64 (us : Int)] := h.drop.drop.drop.drop.blk
    have hbg : Blk W g 72 #[.slice A b.length c, v, .int .i64 er] := h.drop.drop.drop.drop.drop.blk
    have hbx : Blk W w.heap.size 48 #[.pointer (some ⟨g, 0, none⟩)] := h.drop.drop.drop.drop.drop.drop.drop.drop.blk
    have hgf := (h.drop).blk
    have b0 : W.cell? ⟨w.heap.size, 0, none⟩ = some (.pointer (some ⟨g, 0, none⟩)) := by rw [hbx.cell 0]; rfl
    have g1 : W.cell? ⟨g, 1, none⟩ = some v := by rw [hbg.cell 1]; rfl
    have g2 : W.cell? ⟨g, 2, none⟩ = some (.int .i64 er) := by rw [hbg.cell 2]; rfl
    have k2 := hbg.frozen 2
    have hd0 : W.cell? ⟨gf, 0, none⟩ = some (.int .i64 (x.v.t : Int)) := (cells2 h.drop).1
    have hd1 : W.cell? ⟨gf, 1, none⟩ = some (.slice x.A x.v.d.length x.c) := (cells2 h.drop).2
    have hgW : g < W.heap.size := hbg.lt
    have hne : g ≠ w.heap.size ∧ g ≠ gf := ⟨hbg.ne_ hbx (by decide), hbg.ne_ hgf (by decide)⟩
    have HNE := Lib.hid hne
    have HFN : Hid (∀ i : Value × List Fq × Nat × Int, i.2.1.map Fq.f = Fs ++ gotF ((pre ++ [x]).map Fx.v) → i.2.2.1 = gotN ((pre ++ [x]).map Fx.v) → i.2.2.2 = gotE e0 ((pre ++ [x]).map Fx.v) → colF b Fs e0 (pre ++ [x]) i) := Lib.hid fun i h1 h2 h3 => ⟨h1, h2, h3, ⟨r, by rw [hr, List.map_append, List.append_assoc]; rfl⟩⟩
    by_cases he : x.v.e = 0
    · have hus : us + (9 + x.v.d.length) ≤ b.length := by
        have h1 := gotN_evs b
        have h2 : gotN (pre.map Fx.v ++ x.v :: r) = gotN (pre.map Fx.v) + ((9 + x.v.d.length) + gotN r) := by
          rw [gotN_app]
          congr 1
          unfold gotN
          rw [List.map_cons, List.sum_cons, if_pos he]
        rw [hr, h2] at h1
        have h3 : us = gotN (pre.map Fx.v) := hf2
        omega
      have hq2 : (X.length + 1) * 32 ≤ 140737488355328 := by
        have h1 := gotF_len (pre.map Fx.v)
        have h2 : us = gotN (pre.map Fx.v) := hf2
        have h3 := congrArg List.length hf1
        simp only [List.length_map, List.length_append] at h3
        have h4 := HL.out.2.2.1
        have h5 := HL.out.2.2.2.1
        omega
      obtain ⟨i0, z0, hi0, hz0, hz1, hz2, hz3⟩ := row_info fr_info
      have hfs : St Zf (FsA v X :: ObA 5 (.slice x.A x.v.d.length x.c) x.v.d :: _) w0 W := HH.out.bring3.bring6
      have hrow : W.ownsRow 0 25 2 v X.length (X.flatMap frF) := (St.flat hfs).ow
      have hrow' : W.drew.ownsRow 0 25 2 v X.length (X.flatMap frF) := hrow
      have HFS := Lib.hid hfs.drew
      have HROW := Lib.hid hrow'
      have HUS := Lib.hid hus
      have HF1 := Lib.hid hf1
      have HF2 := Lib.hid (show us = gotN (pre.map Fx.v) from hf2)
      have HF3 := Lib.hid (show er = gotE e0 (pre.map Fx.v) from hf3)
      have HWA := Lib.hid (wrapI_add (a := us) (n := x.v.d.length) (by have := HL.out.2.2.1; omega))
      have HSz := Lib.hid fun V => size_any (x.v.t : Int) x.A x.v.d.length x.c V (by omega)
      clear h hbu hbg hbx hgf hfs hrow hrow' hf1 hf2 hf3 hf4 hr hd hne hus g2 k2
      gi_wp2
      -- REGION8
      refine wpIn_region_held_round (S := (fun w' => w'.cell? ⟨w.heap.size, 0, none⟩ = some (.pointer (some ⟨g, 0, none⟩)) ∧ w'.cell? ⟨gf, 0, none⟩ = some (.int .i64 (x.v.t : Int)) ∧ w'.cell? ⟨gf, 1, none⟩ = some (.slice x.A x.v.d.length x.c))) (by kernel_rfl) (by rintro ⟨_, _, hlo⟩; exact hlo) (by kernel_rfl) (by (try dsimp only); first | exact ⟨m0, m1, m2⟩ | go_keep) (fun hHeld => ?_)
      refine wpAnyH_take (i := 0) (v := ?_) rfl (by kernel_rfl) (by kernel_rfl) (by kernel_rfl) (fun _ _ _ h => h) (Or.inl ⟨by rfl, ?_⟩) (by assumption) ?_
      rotate_left
      · (intro w hSw; (try dsimp only at hSw); go_simp; try with_reducible rfl)
      try simp only [Act.put, List.getElem_toArray, List.getElem_cons_zero, List.getElem_cons_succ, List.setIfInBounds_toArray, List.set_cons_zero, List.set_cons_succ]
      refine wpAnyH_take (i := 1) (v := ?_) rfl (by kernel_rfl) (by kernel_rfl) (by kernel_rfl) (fun _ _ _ h => h) (Or.inl ⟨by rfl, ?_⟩) (by assumption) ?_
      rotate_left
      · (intro w hSw; (try dsimp only at hSw); go_simp; try with_reducible rfl)
      try simp only [Act.put, List.getElem_toArray, List.getElem_cons_zero, List.getElem_cons_succ, List.setIfInBounds_toArray, List.set_cons_zero, List.set_cons_succ]
      refine wpAnyH_take (i := 2) (v := ?_) rfl (by kernel_rfl) (by kernel_rfl) (by kernel_rfl) (fun _ _ _ h => h) (Or.inl ⟨by rfl, ?_⟩) (by assumption) ?_
      rotate_left
      · (intro w hSw; (try dsimp only at hSw); go_simp; try with_reducible rfl)
      try simp only [Act.put, List.getElem_toArray, List.getElem_cons_zero, List.getElem_cons_succ, List.setIfInBounds_toArray, List.set_cons_zero, List.set_cons_succ]
      refine wpAnyH_take (i := 3) (v := ?_) rfl (by kernel_rfl) (by kernel_rfl) (by kernel_rfl) (fun _ _ _ h => h) (Or.inl ⟨by rfl, ?_⟩) (by assumption) ?_
      rotate_left
      · (intro w hSw; (try dsimp only at hSw); go_simp; try with_reducible rfl)
      try simp only [Act.put, List.getElem_toArray, List.getElem_cons_zero, List.getElem_cons_succ, List.setIfInBounds_toArray, List.set_cons_zero, List.set_cons_succ]
      refine wpAnyH_take (i := 5) (v := ?_) rfl (by kernel_rfl) (by kernel_rfl) (by kernel_rfl) (fun _ _ _ h => h) (Or.inl ⟨by rfl, ?_⟩) (by assumption) ?_
      rotate_left
      · (intro w hSw; (try dsimp only at hSw); go_simp; try with_reducible rfl)
      try simp only [Act.put, List.getElem_toArray, List.getElem_cons_zero, List.getElem_cons_succ, List.setIfInBounds_toArray, List.set_cons_zero, List.set_cons_succ]
      refine wpAnyH_ready (rs := [4, 6]) (by kernel_rfl) (by simp) ?_
      refine AllReadyH.cons rfl (fun K hK => ?_) ?_
      · go_simp
        refine hK.out _ _ (by (try dsimp only); first | exact ⟨m0, m1, m2⟩ | go_keep) (fun hHeld => ?_)
        clear hK K
        try simp only [Act.put, List.getElem_toArray, List.getElem_cons_zero, List.getElem_cons_succ, List.setIfInBounds_toArray, List.set_cons_zero, List.set_cons_succ]
        refine wpAnyH_ready (rs := [6]) (by kernel_rfl) (by simp) ?_
        refine AllReadyH.cons rfl (fun K hK => ?_) AllReadyH.nil
        go_simp
        refine hK.out _ _ (by (try dsimp only); first | exact ⟨m0, m1, m2⟩ | go_keep) (fun hHeld => ?_)
        clear hK K
        try simp only [Act.put, List.getElem_toArray, List.getElem_cons_zero, List.getElem_cons_succ, List.setIfInBounds_toArray, List.set_cons_zero, List.set_cons_succ]
        refine wpAnyH_ready (rs := [7]) (by kernel_rfl) (by simp) ?_
        refine AllReadyH.cons rfl (fun K hK => ?_) AllReadyH.nil
        refine step_append_row W.drew (by rfl) _ _ 35 (by rfl) 25 i0 z0 2 32 Tryd.underlying35 hi0 hz0 hz1 hz2 hz3 (by decide) (by decide) v X.length _ (by rfl) HROW.out #[.int .i64 (x.v.t : Int), .slice x.A x.v.d.length x.c] (by rfl) (frF_row.one ⟨x.v.t, x.v.d, x.A, x.c⟩) (by rfl) hq2 ?_
        intro g' cp' W8 ho hg ha _
        have hs := HFS.out.snocFs (q := ⟨x.v.t, x.v.d, x.A, x.c⟩) (v' := .slice (some ⟨g', 0, none⟩) (X.length + 1) cp') _ ho hg (ha.elim (fun h => .inl h.symm) fun h => .inr (by rw [h]; rfl))
        have hbb := hs.bring5.blk
        have hbf := hs.bring2.blk
        have hbx := hs.bring7.blk
        have m0 : W8.cell? ⟨w.heap.size, 0, none⟩ = some (.pointer (some ⟨g, 0, none⟩)) := (by rw [hbx.cell 0]; rfl)
        have m1 : W8.cell? ⟨gf, 0, none⟩ = some (.int .i64 (x.v.t : Int)) := (by rw [hbf.cell 0]; rfl)
        have m2 : W8.cell? ⟨gf, 1, none⟩ = some (.slice x.A x.v.d.length x.c) := (by rw [hbf.cell 1]; rfl)
        have m3 : W8.cell? ⟨g, 1, none⟩ = some v := (by rw [hbb.cell 1]; rfl)
        have n3 := hbb.frozen 1
        have m4 : g ≠ w.heap.size := HNE.out.1
        have m5 : g ≠ gf := HNE.out.2
        have m6 := Ne.symm m4
        have m7 := Ne.symm m5
        have HS8 := Lib.hid hs
        clear hs hbb hbf hbx ho hg ha
        refine hK.out _ _ (by (try dsimp only); first | exact ⟨m0, m1, m2⟩ | go_keep) (fun hHeld => ?_)
        clear hK K
        try simp only [Act.put, List.getElem_toArray, List.getElem_cons_zero, List.getElem_cons_succ, List.setIfInBounds_toArray, List.set_cons_zero, List.set_cons_succ]
        refine wpAnyH_take (i := 8) (v := ?_) rfl (by kernel_rfl) (by kernel_rfl) (by kernel_rfl) (fun _ _ _ h => h) (Or.inl ⟨by rfl, ?_⟩) (by assumption) ?_
        rotate_left
        · (intro w hSw; (try dsimp only at hSw); go_simp; try with_reducible rfl)
        try simp only [Act.put, List.getElem_toArray, List.getElem_cons_zero, List.getElem_cons_succ, List.setIfInBounds_toArray, List.set_cons_zero, List.set_cons_succ]
        refine wpAnyH_take (i := 9) (v := ?_) rfl (by kernel_rfl) (by kernel_rfl) (by kernel_rfl) (fun _ _ _ h => h) (Or.inl ⟨by rfl, ?_⟩) (by assumption) ?_
        rotate_left
        · (intro w hSw; (try dsimp only at hSw); go_simp; try with_reducible rfl)
        try simp only [Act.put, List.getElem_toArray, List.getElem_cons_zero, List.getElem_cons_succ, List.setIfInBounds_toArray, List.set_cons_zero, List.set_cons_succ]
        refine wpAnyH_ready (rs := [10]) (by kernel_rfl) (by simp) ?_
        refine AllReadyH.cons rfl (fun K hK => ?_) AllReadyH.nil
        go_simp
        refine hK.out _ _ (by (try dsimp only); first | exact ⟨m0, m1, m2⟩ | go_keep) (fun hHeld => ?_)
        clear hK K
        try simp only [Act.put, List.getElem_toArray, List.getElem_cons_zero, List.getElem_cons_succ, List.setIfInBounds_toArray, List.set_cons_zero, List.set_cons_succ]
        refine wpAnyH_done (by kernel_rfl) ?_ _
        obtain ⟨vv, hvv⟩ : ∃ q, q = Value.slice (some ⟨g', 0, none⟩) (X.length + 1) cp' := ⟨_, rfl⟩
        rw [← hvv] at HS8 ⊢
        have hs9 := HS8.out.bring5.setBlk 1 vv
        obtain ⟨W9, hW9⟩ : ∃ q, q = W8.setCell ⟨g, 1, none⟩ vv := ⟨_, rfl⟩
        rw [← hW9] at hs9 ⊢
        have hbu := hs9.bring5.blk
        have hbf := hs9.bring3.blk
        have u0 : W9.cell? ⟨w.heap.size + 1, 0, none⟩ = some (.int .i64 (us : Int)) := (by rw [hbu.cell 0]; rfl)
        have hd0' : W9.cell? ⟨gf, 0, none⟩ = some (.int .i64 (x.v.t : Int)) := (by rw [hbf.cell 0]; rfl)
        have hd1' : W9.cell? ⟨gf, 1, none⟩ = some (.slice x.A x.v.d.length x.c) := (by rw [hbf.cell 1]; rfl)
        have HS9 := Lib.hid hs9.drew
        clear hs9 hbu hbf hW9 m0 m1 m2 m3 n3 m4 m5 m6 m7 hd0 hd1 b0 g1 HS8
        gi_wp2
        refine wpIn_region_held_round (S := (fun w' => w'.cell? ⟨gf, 0, none⟩ = some (.int .i64 (x.v.t : Int)) ∧ w'.cell? ⟨gf, 1, none⟩ = some (.slice x.A x.v.d.length x.c))) (by kernel_rfl) (by rintro ⟨_, _, hlo⟩; exact hlo) (by kernel_rfl) (by (try dsimp only); first | exact ⟨p0, p1⟩ | go_keep) (fun hHeld => ?_)
        refine wpAnyH_take (i := 1) (v := ?_) rfl (by kernel_rfl) (by kernel_rfl) (by kernel_rfl) (fun _ _ _ h => h) (Or.inl ⟨by rfl, ?_⟩) (by assumption) ?_
        rotate_left
        · (intro w hSw; (try dsimp only at hSw); go_simp; try with_reducible rfl)
        try simp only [Act.put, List.getElem_toArray, List.getElem_cons_zero, List.getElem_cons_succ, List.setIfInBounds_toArray, List.set_cons_zero, List.set_cons_succ]
        refine wpAnyH_ready (rs := [0, 2]) (by kernel_rfl) (by simp) ?_
        refine AllReadyH.cons rfl (fun K hK => ?_) ?_
        · go_simp
          refine hK.out _ _ (by (try dsimp only); first | exact ⟨p0, p1⟩ | go_keep) (fun hHeld => ?_)
          clear hK K
          try simp only [Act.put, List.getElem_toArray, List.getElem_cons_zero, List.getElem_cons_succ, List.setIfInBounds_toArray, List.set_cons_zero, List.set_cons_succ]
          refine wpAnyH_ready (rs := [2]) (by kernel_rfl) (by simp) ?_
          refine AllReadyH.cons rfl (fun K hK => ?_) AllReadyH.nil
          go_simp
          go_at_call 46
          refine (HSz.out _).mono ?_
          rintro e W10 ⟨rfl, hb10⟩
          have hs10 := HS9.out.below hb10
          have hbu := hs10.bring5.blk
          have hbf := hs10.bring3.blk
          have p0 : W10.cell? ⟨gf, 0, none⟩ = some (.int .i64 (x.v.t : Int)) := (by rw [hbf.cell 0]; rfl)
          have p1 : W10.cell? ⟨gf, 1, none⟩ = some (.slice x.A x.v.d.length x.c) := (by rw [hbf.cell 1]; rfl)
          have u1 : W10.cell? ⟨w.heap.size + 1, 0, none⟩ = some (.int .i64 (us : Int)) := (by rw [hbu.cell 0]; rfl)
          have l1 := hbu.frozen 0
          have q1 : gf ≠ w.heap.size + 1 := hbf.ne_ hbu (by decide)
          have q2 := Ne.symm q1
          have HS10 := Lib.hid hs10
          clear hs10 hbu hbf hb10
          refine hK.out _ _ (by (try dsimp only); first | exact ⟨p0, p1⟩ | go_keep) (fun hHeld => ?_)
          clear hK K
          try simp only [Act.put, List.getElem_toArray, List.getElem_cons_zero, List.getElem_cons_succ, List.setIfInBounds_toArray, List.set_cons_zero, List.set_cons_succ]
          refine wpAnyH_take (i := 3) (v := ?_) rfl (by kernel_rfl) (by kernel_rfl) (by kernel_rfl) (fun _ _ _ h => h) (Or.inl ⟨by rfl, ?_⟩) (by assumption) ?_
          rotate_left
          · (intro w hSw; (try dsimp only at hSw); go_simp; try with_reducible rfl)
          try simp only [Act.put, List.getElem_toArray, List.getElem_cons_zero, List.getElem_cons_succ, List.setIfInBounds_toArray, List.set_cons_zero, List.set_cons_succ]
          refine wpAnyH_ready (rs := [4]) (by kernel_rfl) (by simp) ?_
          refine AllReadyH.cons rfl (fun K hK => ?_) AllReadyH.nil
          have wa := HWA.out
          go_simp
          refine hK.out _ _ (by (try dsimp only); first | exact ⟨p0, p1⟩ | go_keep) (fun hHeld => ?_)
          clear hK K
          try simp only [Act.put, List.getElem_toArray, List.getElem_cons_zero, List.getElem_cons_succ, List.setIfInBounds_toArray, List.set_cons_zero, List.set_cons_succ]
          refine wpAnyH_done (by kernel_rfl) ?_ _
          have e9 : (us : Int) + (9 + (x.v.d.length : Int)) = ((us + (9 + x.v.d.length) : Nat) : Int) := (by omega)
          rw [e9]
          have h11 := (HS10.out.bring5.setBlk 0 (.int .i64 ((us + (9 + x.v.d.length) : Nat) : Int))).bring4.drop.bring4.bring4
          refine ⟨(vv, X ++ [(⟨x.v.t, x.v.d, x.A, x.c⟩ : Fq)], us + (9 + x.v.d.length), er), HFN.out _ ?_ ?_ ?_, h11⟩
          · rw [List.map_append, List.map_append]
            show _ ++ _ = Fs ++ gotF (pre.map Fx.v ++ [x.v])
            rw [gotF_snoc, if_pos he, HF1.out, List.append_assoc]
            rfl
          · rw [List.map_append]
            show _ = gotN (pre.map Fx.v ++ [x.v])
            rw [gotN_snoc, if_pos he, ← HF2.out]
          · rw [List.map_append]
            show _ = gotE e0 (pre.map Fx.v ++ [x.v])
            rw [gotE_snoc, if_pos (.inl he)]
            exact HF3.out
        refine AllReadyH.cons rfl (fun K hK => ?_) AllReadyH.nil
        go_simp
        go_at_call 46
        refine (HSz.out _).mono ?_
        rintro e W10 ⟨rfl, hb10⟩
        have hs10 := HS9.out.below hb10
        have hbu := hs10.bring5.blk
        have hbf := hs10.bring3.blk
        have p0 : W10.cell? ⟨gf, 0, none⟩ = some (.int .i64 (x.v.t : Int)) := (by rw [hbf.cell 0]; rfl)
        have p1 : W10.cell? ⟨gf, 1, none⟩ = some (.slice x.A x.v.d.length x.c) := (by rw [hbf.cell 1]; rfl)
        have u1 : W10.cell? ⟨w.heap.size + 1, 0, none⟩ = some (.int .i64 (us : Int)) := (by rw [hbu.cell 0]; rfl)
        have l1 := hbu.frozen 0
        have q1 : gf ≠ w.heap.size + 1 := hbf.ne_ hbu (by decide)
        have q2 := Ne.symm q1
        have HS10 := Lib.hid hs10
        clear hs10 hbu hbf hb10
        refine hK.out _ _ (by (try dsimp only); first | exact ⟨p0, p1⟩ | go_keep) (fun hHeld => ?_)
        clear hK K
        try simp only [Act.put, List.getElem_toArray, List.getElem_cons_zero, List.getElem_cons_succ, List.setIfInBounds_toArray, List.set_cons_zero, List.set_cons_succ]
        refine wpAnyH_ready (rs := [0]) (by kernel_rfl) (by simp) ?_
        refine AllReadyH.cons rfl (fun K hK => ?_) AllReadyH.nil
        go_simp
        refine hK.out _ _ (by (try dsimp only); first | exact ⟨p0, p1⟩ | go_keep) (fun hHeld => ?_)
        clear hK K
        try simp only [Act.put, List.getElem_toArray, List.getElem_cons_zero, List.getElem_cons_succ, List.setIfInBounds_toArray, List.set_cons_zero, List.set_cons_succ]
        refine wpAnyH_take (i := 3) (v := ?_) rfl (by kernel_rfl) (by kernel_rfl) (by kernel_rfl) (fun _ _ _ h => h) (Or.inl ⟨by rfl, ?_⟩) (by assumption) ?_
        rotate_left
        · (intro w hSw; (try dsimp only at hSw); go_simp; try with_reducible rfl)
        try simp only [Act.put, List.getElem_toArray, List.getElem_cons_zero, List.getElem_cons_succ, List.setIfInBounds_toArray, List.set_cons_zero, List.set_cons_succ]
        refine wpAnyH_ready (rs := [4]) (by kernel_rfl) (by simp) ?_
        refine AllReadyH.cons rfl (fun K hK => ?_) AllReadyH.nil
        have wa := HWA.out
        go_simp
        refine hK.out _ _ (by (try dsimp only); first | exact ⟨p0, p1⟩ | go_keep) (fun hHeld => ?_)
        clear hK K
        try simp only [Act.put, List.getElem_toArray, List.getElem_cons_zero, List.getElem_cons_succ, List.setIfInBounds_toArray, List.set_cons_zero, List.set_cons_succ]
        refine wpAnyH_done (by kernel_rfl) ?_ _
        have e9 : (us : Int) + (9 + (x.v.d.length : Int)) = ((us + (9 + x.v.d.length) : Nat) : Int) := (by omega)
        rw [e9]
        have h11 := (HS10.out.bring5.setBlk 0 (.int .i64 ((us + (9 + x.v.d.length) : Nat) : Int))).bring4.drop.bring4.bring4
        refine ⟨(vv, X ++ [(⟨x.v.t, x.v.d, x.A, x.c⟩ : Fq)], us + (9 + x.v.d.length), er), HFN.out _ ?_ ?_ ?_, h11⟩
        · rw [List.map_append, List.map_append]
          show _ ++ _ = Fs ++ gotF (pre.map Fx.v ++ [x.v])
          rw [gotF_snoc, if_pos he, HF1.out, List.append_assoc]
          rfl
        · rw [List.map_append]
          show _ = gotN (pre.map Fx.v ++ [x.v])
          rw [gotN_snoc, if_pos he, ← HF2.out]
        · rw [List.map_append]
          show _ = gotE e0 (pre.map Fx.v ++ [x.v])
          rw [gotE_snoc, if_pos (.inl he)]
          exact HF3.out
      refine AllReadyH.cons rfl (fun K hK => ?_) AllReadyH.nil
      go_simp
      refine hK.out _ _ (by (try dsimp only); first | exact ⟨m0, m1, m2⟩ | go_keep) (fun hHeld => ?_)
      clear hK K
      try simp only [Act.put, List.getElem_toArray, List.getElem_cons_zero, List.getElem_cons_succ, List.setIfInBounds_toArray, List.set_cons_zero, List.set_cons_succ]
      refine wpAnyH_ready (rs := [4]) (by kernel_rfl) (by simp) ?_
      refine AllReadyH.cons rfl (fun K hK => ?_) AllReadyH.nil
      go_simp
      refine hK.out _ _ (by (try dsimp only); first | exact ⟨m0, m1, m2⟩ | go_keep) (fun hHeld => ?_)
      clear hK K
      try simp only [Act.put, List.getElem_toArray, List.getElem_cons_zero, List.getElem_cons_succ, List.setIfInBounds_toArray, List.set_cons_zero, List.set_cons_succ]
      refine wpAnyH_ready (rs := [7]) (by kernel_rfl) (by simp) ?_
      refine AllReadyH.cons rfl (fun K hK => ?_) AllReadyH.nil
      refine step_append_row W.drew (by rfl) _ _ 35 (by rfl) 25 i0 z0 2 32 Tryd.underlying35 hi0 hz0 hz1 hz2 hz3 (by decide) (by decide) v X.length _ (by rfl) HROW.out #[.int .i64 (x.v.t : Int), .slice x.A x.v.d.length x.c] (by rfl) (frF_row.one ⟨x.v.t, x.v.d, x.A, x.c⟩) (by rfl) hq2 ?_
      intro g' cp' W8 ho hg ha _
      have hs := HFS.out.snocFs (q := ⟨x.v.t, x.v.d, x.A, x.c⟩) (v' := .slice (some ⟨g', 0, none⟩) (X.length + 1) cp') _ ho hg (ha.elim (fun h => .inl h.symm) fun h => .inr (by rw [h]; rfl))
      have hbb := hs.bring5.blk
      have hbf := hs.bring2.blk
      have hbx := hs.bring7.blk
      have m0 : W8.cell? ⟨w.heap.size, 0, none⟩ = some (.pointer (some ⟨g, 0, none⟩)) := (by rw [hbx.cell 0]; rfl)
      have m1 : W8.cell? ⟨gf, 0, none⟩ = some (.int .i64 (x.v.t : Int)) := (by rw [hbf.cell 0]; rfl)
      have m2 : W8.cell? ⟨gf, 1, none⟩ = some (.slice x.A x.v.d.length x.c) := (by rw [hbf.cell 1]; rfl)
      have m3 : W8.cell? ⟨g, 1, none⟩ = some v := (by rw [hbb.cell 1]; rfl)
      have n3 := hbb.frozen 1
      have m4 : g ≠ w.heap.size := HNE.out.1
      have m5 : g ≠ gf := HNE.out.2
      have m6 := Ne.symm m4
      have m7 := Ne.symm m5
      have HS8 := Lib.hid hs
      clear hs hbb hbf hbx ho hg ha
      refine hK.out _ _ (by (try dsimp only); first | exact ⟨m0, m1, m2⟩ | go_keep) (fun hHeld => ?_)
      clear hK K
      try simp only [Act.put, List.getElem_toArray, List.getElem_cons_zero, List.getElem_cons_succ, List.setIfInBounds_toArray, List.set_cons_zero, List.set_cons_succ]
      refine wpAnyH_take (i := 8) (v := ?_) rfl (by kernel_rfl) (by kernel_rfl) (by kernel_rfl) (fun _ _ _ h => h) (Or.inl ⟨by rfl, ?_⟩) (by assumption) ?_
      rotate_left
      · (intro w hSw; (try dsimp only at hSw); go_simp; try with_reducible rfl)
      try simp only [Act.put, List.getElem_toArray, List.getElem_cons_zero, List.getElem_cons_succ, List.setIfInBounds_toArray, List.set_cons_zero, List.set_cons_succ]
      refine wpAnyH_take (i := 9) (v := ?_) rfl (by kernel_rfl) (by kernel_rfl) (by kernel_rfl) (fun _ _ _ h => h) (Or.inl ⟨by rfl, ?_⟩) (by assumption) ?_
      rotate_left
      · (intro w hSw; (try dsimp only at hSw); go_simp; try with_reducible rfl)
      try simp only [Act.put, List.getElem_toArray, List.getElem_cons_zero, List.getElem_cons_succ, List.setIfInBounds_toArray, List.set_cons_zero, List.set_cons_succ]
      refine wpAnyH_ready (rs := [10]) (by kernel_rfl) (by simp) ?_
      refine AllReadyH.cons rfl (fun K hK => ?_) AllReadyH.nil
      go_simp
      refine hK.out _ _ (by (try dsimp only); first | exact ⟨m0, m1, m2⟩ | go_keep) (fun hHeld => ?_)
      clear hK K
      try simp only [Act.put, List.getElem_toArray, List.getElem_cons_zero, List.getElem_cons_succ, List.setIfInBounds_toArray, List.set_cons_zero, List.set_cons_succ]
      refine wpAnyH_done (by kernel_rfl) ?_ _
      obtain ⟨vv, hvv⟩ : ∃ q, q = Value.slice (some ⟨g', 0, none⟩) (X.length + 1) cp' := ⟨_, rfl⟩
      rw [← hvv] at HS8 ⊢
      have hs9 := HS8.out.bring5.setBlk 1 vv
      obtain ⟨W9, hW9⟩ : ∃ q, q = W8.setCell ⟨g, 1, none⟩ vv := ⟨_, rfl⟩
      rw [← hW9] at hs9 ⊢
      have hbu := hs9.bring5.blk
      have hbf := hs9.bring3.blk
      have u0 : W9.cell? ⟨w.heap.size + 1, 0, none⟩ = some (.int .i64 (us : Int)) := (by rw [hbu.cell 0]; rfl)
      have hd0' : W9.cell? ⟨gf, 0, none⟩ = some (.int .i64 (x.v.t : Int)) := (by rw [hbf.cell 0]; rfl)
      have hd1' : W9.cell? ⟨gf, 1, none⟩ = some (.slice x.A x.v.d.length x.c) := (by rw [hbf.cell 1]; rfl)
      have HS9 := Lib.hid hs9.drew
      clear hs9 hbu hbf hW9 m0 m1 m2 m3 n3 m4 m5 m6 m7 hd0 hd1 b0 g1 HS8
      gi_wp2
      refine wpIn_region_held_round (S := (fun w' => w'.cell? ⟨gf, 0, none⟩ = some (.int .i64 (x.v.t : Int)) ∧ w'.cell? ⟨gf, 1, none⟩ = some (.slice x.A x.v.d.length x.c))) (by kernel_rfl) (by rintro ⟨_, _, hlo⟩; exact hlo) (by kernel_rfl) (by (try dsimp only); first | exact ⟨p0, p1⟩ | go_keep) (fun hHeld => ?_)
      refine wpAnyH_take (i := 1) (v := ?_) rfl (by kernel_rfl) (by kernel_rfl) (by kernel_rfl) (fun _ _ _ h => h) (Or.inl ⟨by rfl, ?_⟩) (by assumption) ?_
      rotate_left
      · (intro w hSw; (try dsimp only at hSw); go_simp; try with_reducible rfl)
      try simp only [Act.put, List.getElem_toArray, List.getElem_cons_zero, List.getElem_cons_succ, List.setIfInBounds_toArray, List.set_cons_zero, List.set_cons_succ]
      refine wpAnyH_ready (rs := [0, 2]) (by kernel_rfl) (by simp) ?_
      refine AllReadyH.cons rfl (fun K hK => ?_) ?_
      · go_simp
        refine hK.out _ _ (by (try dsimp only); first | exact ⟨p0, p1⟩ | go_keep) (fun hHeld => ?_)
        clear hK K
        try simp only [Act.put, List.getElem_toArray, List.getElem_cons_zero, List.getElem_cons_succ, List.setIfInBounds_toArray, List.set_cons_zero, List.set_cons_succ]
        refine wpAnyH_ready (rs := [2]) (by kernel_rfl) (by simp) ?_
        refine AllReadyH.cons rfl (fun K hK => ?_) AllReadyH.nil
        go_simp
        go_at_call 46
        refine (HSz.out _).mono ?_
        rintro e W10 ⟨rfl, hb10⟩
        have hs10 := HS9.out.below hb10
        have hbu := hs10.bring5.blk
        have hbf := hs10.bring3.blk
        have p0 : W10.cell? ⟨gf, 0, none⟩ = some (.int .i64 (x.v.t : Int)) := (by rw [hbf.cell 0]; rfl)
        have p1 : W10.cell? ⟨gf, 1, none⟩ = some (.slice x.A x.v.d.length x.c) := (by rw [hbf.cell 1]; rfl)
        have u1 : W10.cell? ⟨w.heap.size + 1, 0, none⟩ = some (.int .i64 (us : Int)) := (by rw [hbu.cell 0]; rfl)
        have l1 := hbu.frozen 0
        have q1 : gf ≠ w.heap.size + 1 := hbf.ne_ hbu (by decide)
        have q2 := Ne.symm q1
        have HS10 := Lib.hid hs10
        clear hs10 hbu hbf hb10
        refine hK.out _ _ (by (try dsimp only); first | exact ⟨p0, p1⟩ | go_keep) (fun hHeld => ?_)
        clear hK K
        try simp only [Act.put, List.getElem_toArray, List.getElem_cons_zero, List.getElem_cons_succ, List.setIfInBounds_toArray, List.set_cons_zero, List.set_cons_succ]
        refine wpAnyH_take (i := 3) (v := ?_) rfl (by kernel_rfl) (by kernel_rfl) (by kernel_rfl) (fun _ _ _ h => h) (Or.inl ⟨by rfl, ?_⟩) (by assumption) ?_
        rotate_left
        · (intro w hSw; (try dsimp only at hSw); go_simp; try with_reducible rfl)
        try simp only [Act.put, List.getElem_toArray, List.getElem_cons_zero, List.getElem_cons_succ, List.setIfInBounds_toArray, List.set_cons_zero, List.set_cons_succ]
        refine wpAnyH_ready (rs := [4]) (by kernel_rfl) (by simp) ?_
        refine AllReadyH.cons rfl (fun K hK => ?_) AllReadyH.nil
        have wa := HWA.out
        go_simp
        refine hK.out _ _ (by (try dsimp only); first | exact ⟨p0, p1⟩ | go_keep) (fun hHeld => ?_)
        clear hK K
        try simp only [Act.put, List.getElem_toArray, List.getElem_cons_zero, List.getElem_cons_succ, List.setIfInBounds_toArray, List.set_cons_zero, List.set_cons_succ]
        refine wpAnyH_done (by kernel_rfl) ?_ _
        have e9 : (us : Int) + (9 + (x.v.d.length : Int)) = ((us + (9 + x.v.d.length) : Nat) : Int) := (by omega)
        rw [e9]
        have h11 := (HS10.out.bring5.setBlk 0 (.int .i64 ((us + (9 + x.v.d.length) : Nat) : Int))).bring4.drop.bring4.bring4
        refine ⟨(vv, X ++ [(⟨x.v.t, x.v.d, x.A, x.c⟩ : Fq)], us + (9 + x.v.d.length), er), HFN.out _ ?_ ?_ ?_, h11⟩
        · rw [List.map_append, List.map_append]
          show _ ++ _ = Fs ++ gotF (pre.map Fx.v ++ [x.v])
          rw [gotF_snoc, if_pos he, HF1.out, List.append_assoc]
          rfl
        · rw [List.map_append]
          show _ = gotN (pre.map Fx.v ++ [x.v])
          rw [gotN_snoc, if_pos he, ← HF2.out]
        · rw [List.map_append]
          show _ = gotE e0 (pre.map Fx.v ++ [x.v])
          rw [gotE_snoc, if_pos (.inl he)]
          exact HF3.out
      refine AllReadyH.cons rfl (fun K hK => ?_) AllReadyH.nil
      go_simp
      go_at_call 46
      refine (HSz.out _).mono ?_
      rintro e W10 ⟨rfl, hb10⟩
      have hs10 := HS9.out.below hb10
      have hbu := hs10.bring5.blk
      have hbf := hs10.bring3.blk
      have p0 : W10.cell? ⟨gf, 0, none⟩ = some (.int .i64 (x.v.t : Int)) := (by rw [hbf.cell 0]; rfl)
      have p1 : W10.cell? ⟨gf, 1, none⟩ = some (.slice x.A x.v.d.length x.c) := (by rw [hbf.cell 1]; rfl)
      have u1 : W10.cell? ⟨w.heap.size + 1, 0, none⟩ = some (.int .i64 (us : Int)) := (by rw [hbu.cell 0]; rfl)
      have l1 := hbu.frozen 0
      have q1 : gf ≠ w.heap.size + 1 := hbf.ne_ hbu (by decide)
      have q2 := Ne.symm q1
      have HS10 := Lib.hid hs10
      clear hs10 hbu hbf hb10
      refine hK.out _ _ (by (try dsimp only); first | exact ⟨p0, p1⟩ | go_keep) (fun hHeld => ?_)
      clear hK K
      try simp only [Act.put, List.getElem_toArray, List.getElem_cons_zero, List.getElem_cons_succ, List.setIfInBounds_toArray, List.set_cons_zero, List.set_cons_succ]
      refine wpAnyH_ready (rs := [0]) (by kernel_rfl) (by simp) ?_
      refine AllReadyH.cons rfl (fun K hK => ?_) AllReadyH.nil
      go_simp
      refine hK.out _ _ (by (try dsimp only); first | exact ⟨p0, p1⟩ | go_keep) (fun hHeld => ?_)
      clear hK K
      try simp only [Act.put, List.getElem_toArray, List.getElem_cons_zero, List.getElem_cons_succ, List.setIfInBounds_toArray, List.set_cons_zero, List.set_cons_succ]
      refine wpAnyH_take (i := 3) (v := ?_) rfl (by kernel_rfl) (by kernel_rfl) (by kernel_rfl) (fun _ _ _ h => h) (Or.inl ⟨by rfl, ?_⟩) (by assumption) ?_
      rotate_left
      · (intro w hSw; (try dsimp only at hSw); go_simp; try with_reducible rfl)
      try simp only [Act.put, List.getElem_toArray, List.getElem_cons_zero, List.getElem_cons_succ, List.setIfInBounds_toArray, List.set_cons_zero, List.set_cons_succ]
      refine wpAnyH_ready (rs := [4]) (by kernel_rfl) (by simp) ?_
      refine AllReadyH.cons rfl (fun K hK => ?_) AllReadyH.nil
      have wa := HWA.out
      go_simp
      refine hK.out _ _ (by (try dsimp only); first | exact ⟨p0, p1⟩ | go_keep) (fun hHeld => ?_)
      clear hK K
      try simp only [Act.put, List.getElem_toArray, List.getElem_cons_zero, List.getElem_cons_succ, List.setIfInBounds_toArray, List.set_cons_zero, List.set_cons_succ]
      refine wpAnyH_done (by kernel_rfl) ?_ _
      have e9 : (us : Int) + (9 + (x.v.d.length : Int)) = ((us + (9 + x.v.d.length) : Nat) : Int) := (by omega)
      rw [e9]
      have h11 := (HS10.out.bring5.setBlk 0 (.int .i64 ((us + (9 + x.v.d.length) : Nat) : Int))).bring4.drop.bring4.bring4
      refine ⟨(vv, X ++ [(⟨x.v.t, x.v.d, x.A, x.c⟩ : Fq)], us + (9 + x.v.d.length), er), HFN.out _ ?_ ?_ ?_, h11⟩
      · rw [List.map_append, List.map_append]
        show _ ++ _ = Fs ++ gotF (pre.map Fx.v ++ [x.v])
        rw [gotF_snoc, if_pos he, HF1.out, List.append_assoc]
        rfl
      · rw [List.map_append]
        show _ = gotN (pre.map Fx.v ++ [x.v])
        rw [gotN_snoc, if_pos he, ← HF2.out]
      · rw [List.map_append]
        show _ = gotE e0 (pre.map Fx.v ++ [x.v])
        rw [gotE_snoc, if_pos (.inl he)]
        exact HF3.out
      -- END
    · by_cases h10 : x.v.e = 10
      · clear h hbu hbg hbx hgf hne hd hd0 hd1 hgW g1 g2 k2 b0
        gi_wp2
        refine ⟨v, X, us, er, HFN.out (v, X, us, er) ?_ ?_ ?_, HH.out.swap.drop.bring2.drop⟩
        · rw [List.map_append]
          show _ = Fs ++ gotF (pre.map Fx.v ++ [x.v])
          rw [gotF_snoc, if_neg he, List.append_nil]
          exact hf1
        · rw [List.map_append]
          show _ = gotN (pre.map Fx.v ++ [x.v])
          rw [gotN_snoc, if_neg he]
          exact hf2
        · rw [List.map_append]
          show _ = gotE e0 (pre.map Fx.v ++ [x.v])
          rw [gotE_snoc, if_pos (.inr h10)]
          exact hf3
      · clear h hbu hbg hbx hgf hne hd hd0 hd1 g1
        gi_wp2
        have h9 := ((HH.out.swap.drop.bring2.drop).bring3.setBlk 2 (.int .i64 x.v.e)).bring3.bring3.bring3
        refine ⟨v, X, us, x.v.e, HFN.out (v, X, us, x.v.e) ?_ ?_ ?_, h9⟩
        · rw [List.map_append]
          show _ = Fs ++ gotF (pre.map Fx.v ++ [x.v])
          rw [gotF_snoc, if_neg he, List.append_nil]
          exact hf1
        · rw [List.map_append]
          show _ = gotN (pre.map Fx.v ++ [x.v])
          rw [gotN_snoc, if_neg he]
          exact hf2
        · rw [List.map_append]
          show _ = gotE e0 (pre.map Fx.v ++ [x.v])
          rw [gotE_snoc, if_neg (by rintro (h | h); exact he h; exact h10 h)]
  case done =>
    rintro o xs W ⟨⟨v, X, us, er⟩, ⟨⟨h1, h2, h3, -⟩, ht⟩, h⟩
    have hbu : Blk W (w.heap.size + 1) 3 #[.int .i64 (us : Int)] := h.drop.blk
    have u0 : W.cell? ⟨w.heap.size + 1, 0, none⟩ = some (.int .i64 (us : Int)) := by rw [hbu.cell 0]; rfl
    rw [ht] at h1 h2 h3
    have HE := Lib.hid h
    have h1' : X.map Fq.f = Fs ++ gotF (evs b) := h1
    have h2' : us = gotN (evs b) := h2
    have h3' : er = gotE e0 (evs b) := h3
    subst h2' h3'
    have HX1 := Lib.hid h1'
    clear h hbu h1 h2 h3 h1'
    gi_wp2
    refine ⟨by simp, .inl ⟨_, _, rfl, run_takeDeferred HE.out.recAt.2.1, ?_⟩⟩
    have h3 := (HE.out.recEnd (.deferred none)).drop
    refine ⟨_, results_tmp rfl _ _ _, rfl, ?_⟩
    exact rdr_shut HX1.out (h3.bring3.drop.bring3.drop.bring2.swap)
  case stop =>
    rintro o cd pre W _ h
    exact h.elim

end Go.Proofs.YtkdlehekignnhaaDoor

/- The program's spool: what each method does to it. -/
import Derived.Test.YtkpmnmgnfgfhaaaSpPure
import Derived.Test.YtkpmnmgnfgfhaaaWriter
import Derived.Deep.RegionLaw
import Derived.Deep.QuietTactic
import Derived.BigQuiet
import Derived.Deep.RegionHeld3
import Derived.OwnWalk
namespace Go.Proofs.Ytkpmnmgnfgfhaaa
open Go.RowKit
set_option linter.unusedVariables false

abbrev nvl : Nat → Value := fun n => Value.int .i64 (n : Int)
theorem nvl_ok (n : Nat) : nvl n ≠ undef ∧ (nvl n).oneCell' = true := ⟨by simp [nvl, undef], rfl⟩
theorem int_info : (Try.prog.info? 3).map (fun i => (i.zero, i.size, i.bytes)) = some (some (.int .i64 0), 1, 8) := by kernel_rfl

/-- a spool at block g -/
def SpA (g : Nat) (b : List Nat) (ws : List (List Nat)) : Ass := Ex fun p : Value × Value => Sep [BlkA g 46 #[p.1, .int .i64 (b.length : Int), p.2], ObA 5 p.1 (seenOf b ws), OlA nvl 3 p.2 (endsOf b ws)]
instance stableSp {g : Nat} {b : List Nat} {ws : List (List Nat)} : Stable (SpA g b ws) := inferInstanceAs (Stable (Ex _))

section
variable {S : Fp} {l : List Ass} {w0 w w' : World} {g : Nat} {b : List Nat} {ws : List (List Nat)}
theorem sp_open (h : St S (SpA g b ws :: l) w0 w) : ∃ sv se, St S (BlkA g 46 #[sv, .int .i64 (b.length : Int), se] :: ObA 5 sv (seenOf b ws) :: OlA nvl 3 se (endsOf b ws) :: l) w0 w := by
  obtain ⟨p, h⟩ := St.ex (l := l) h
  exact ⟨p.1, p.2, h.flat⟩
theorem sp_shut {sv se : Value} {n : Int} (h : St S (BlkA g 46 #[sv, .int .i64 n, se] :: ObA 5 sv (seenOf b ws) :: OlA nvl 3 se (endsOf b ws) :: l) w0 w) (hn : n = (b.length : Int)) : St S (SpA g b ws :: l) w0 w := by
  subst hn
  refine (St.pack (l' := [_, _, _]) h).mapHead fun F h => ?_
  exact ⟨(sv, se), h⟩
/-- the cells -/
theorem sp_cells {g : Nat} {t : TypeId} {a c d : Value} (h : St S (BlkA g t #[a, c, d] :: l) w0 w) : w.cell? ⟨g, 0, none⟩ = some a ∧ w.cell? ⟨g, 1, none⟩ = some c ∧ w.cell? ⟨g, 2, none⟩ = some d := by
  have hb := h.blk
  exact ⟨by rw [hb.cell 0]; rfl, by rw [hb.cell 1]; rfl, by rw [hb.cell 2]; rfl⟩

set_option maxHeartbeats 400000 in
theorem New_any [Stable (Sep l)] (h : St S l w0 w) (A : Option Addr) (cap B : Nat) (bs : List Nat) (hr : RB w B A bs) (hB : B ≤ w.heap.size) (hl : bs.length ≤ 140737488355328) :
    Calls Try.prog 10 #[.slice A bs.length cap] w fun e w' => ∃ g, e = .returned (.pointer (some ⟨g, 0, none⟩)) ∧ St S (SpA g bs [] :: l) w0 w' := by
  have Hc := Lib.hid (Clone_any A cap B bs w hr hB hl)
  have H := Lib.hid h
  clear h hr
  go_enter Try.func10, Try.ntmps10
  go_wp2_with (go_at_call 26; refine (Hc.out).mono ?_; rintro e w1 ⟨v1, rfl, ho, hb⟩; have H1 := Lib.hid (H.out.newOb ho hb); obtain ⟨A1, c1, rfl, -, -, -, -⟩ := ho.form; clear ho hb)
  go_ret
  refine ⟨_, rfl, sp_shut (b := bs) (ws := []) (sv := .slice A1 bs.length c1) (se := .slice none 0 0) (n := bs.length) ?_ rfl⟩
  have e : seenOf bs [] = bs := by simp [seenOf]
  have e2 : endsOf bs [] = [] := rfl
  rw [e, e2]
  exact ((H1.out.newBlk _ _).nilOl _ _).swap.bring2.swap

set_option maxHeartbeats 400000 in
theorem Size_any (h : St S (SpA g b ws :: l) w0 w) :
    Calls Try.prog 23 #[.pointer (some ⟨g, 0, none⟩)] w fun e w' => e = .returned (.int .i64 ((seenOf b ws).length : Int)) ∧ w = w' := by
  obtain ⟨sv, se, h⟩ := sp_open h
  obtain ⟨c0, c1, c2⟩ := sp_cells h
  obtain ⟨A, cp, rfl, -, -, -, -⟩ := h.swap.ob.form
  clear h
  go_enter Try.func23, Try.ntmps23
  go_wp2
  go_ret
  exact ⟨rfl, rfl⟩

set_option maxHeartbeats 400000 in
theorem Pending_any (h : St S (SpA g b ws :: l) w0 w) :
    Calls Try.prog 24 #[.pointer (some ⟨g, 0, none⟩)] w fun e w' => e = .returned (.int .i64 (ws.length : Int)) ∧ w = w' := by
  obtain ⟨sv, se, h⟩ := sp_open h
  obtain ⟨c0, c1, c2⟩ := sp_cells h
  obtain ⟨A, cp, rfl, -, -, -, -⟩ := h.bring2.ol.form
  rw [endsOf_length] at c2
  clear h
  go_enter Try.func24, Try.ntmps24
  go_wp2
  go_ret
  exact ⟨rfl, rfl⟩

set_option maxHeartbeats 400000 in
theorem Seen_any [Stable (Sep l)] (h : St S (SpA g b ws :: l) w0 w) (hl : (seenOf b ws).length ≤ 140737488355328) :
    Calls Try.prog 20 #[.pointer (some ⟨g, 0, none⟩)] w fun e w' => ∃ v, e = .returned v ∧ St S (ObA 5 v (seenOf b ws) :: SpA g b ws :: l) w0 w' := by
  have H := Lib.hid h
  obtain ⟨sv, se, h⟩ := sp_open h
  obtain ⟨c0, c1, c2⟩ := sp_cells h
  obtain ⟨A, cp, rfl, -, -, hr, -⟩ := h.swap.ob.form
  have Hc := Lib.hid (Clone_any A cp _ _ w hr (Nat.le_refl _) hl)
  clear h hr
  go_enter Try.func20, Try.ntmps20
  go_wp2_with (go_at_call 26; refine (Hc.out).mono ?_; rintro e w1 ⟨v1, rfl, ho, hb⟩)
  go_ret
  exact ⟨_, rfl, H.out.newOb ho hb⟩

set_option maxHeartbeats 400000 in
theorem Sync_any [Stable (Sep l)] (h : St S (SpA g b ws :: l) w0 w) :
    Calls Try.prog 16 #[.pointer (some ⟨g, 0, none⟩)] w fun e w' => e = .returned (.tuple #[]) ∧ St S (SpA g (seenOf b ws) [] :: l) w0 w' := by
  obtain ⟨sv, se, h⟩ := sp_open h
  obtain ⟨c0, c1, c2⟩ := sp_cells h
  obtain ⟨A, cp, rfl, -, -, -, -⟩ := h.swap.ob.form
  have f1 := h.blk.frozen 1
  have f2 := h.blk.frozen 2
  have H := Lib.hid h
  clear h
  go_enter Try.func16, Try.ntmps16
  go_wp2
  go_end0
  refine ⟨rfl, sp_shut (b := seenOf b ws) (ws := []) (sv := .slice A (seenOf b ws).length cp) (se := .slice none 0 0) (n := (seenOf b ws).length) ?_ rfl⟩
  have e : seenOf (seenOf b ws) [] = seenOf b ws := by simp [seenOf]
  have e2 : endsOf (seenOf b ws) [] = [] := rfl
  rw [e, e2]
  exact (((H.out.setBlk 1 _).setBlk 2 _).bring2.drop.nilOl _ _).back2

theorem RB.begin {B : Nat} {A : Option Addr} {xs ys : List Nat} (h : RB w B A (xs ++ ys)) : RB w B A xs := by
  refine RB.of_cells (fun x hx => h.1 x (List.mem_append.2 (.inl hx))) A fun h0 => ?_
  obtain ⟨b, off, e, hb, hc⟩ := h.all (by rw [List.length_append]; omega)
  refine ⟨b, off, e, hb, fun k hk => ?_⟩
  rw [hc k (by rw [List.length_append]; omega)]
  congr 3
  unfold nth
  rw [List.getD_eq_getElem?_getD, List.getD_eq_getElem?_getD, List.getElem?_append_left hk]

/-- a spool that is read -/
def SpR (w : World) (B g : Nat) (A0 : Option Addr) (d0 : Nat) (A1 : Option Addr) (d1 : Nat) (b : List Nat) (ws : List (List Nat)) : Prop :=
  g < B ∧ (w.cell? ⟨g, 0, none⟩ = some (.slice A0 (seenOf b ws).length d0) ∧ w.cell? ⟨g, 1, none⟩ = some (.int .i64 (b.length : Int)) ∧ w.cell? ⟨g, 2, none⟩ = some (.slice A1 ws.length d1)) ∧
    RB w B A0 (seenOf b ws) ∧ RL nvl w B A1 (endsOf b ws) ∧ (seenOf b ws).length ≤ d0
theorem SpR.below {w w' : World} {B g : Nat} {A0 : Option Addr} {d0 : Nat} {A1 : Option Addr} {d1 : Nat} {b : List Nat} {ws : List (List Nat)} (h : SpR w B g A0 d0 A1 d1 b ws) (hb : Below B w w') : SpR w' B g A0 d0 A1 d1 b ws := by
  obtain ⟨h0, ⟨c0, c1, c2⟩, h1, h2, h3⟩ := h
  exact ⟨h0, ⟨(hb.cell (p := ⟨g, 0, none⟩) h0).trans c0, (hb.cell (p := ⟨g, 1, none⟩) h0).trans c1, (hb.cell (p := ⟨g, 2, none⟩) h0).trans c2⟩, h1.below hb, h2.below hb, h3⟩
theorem sp_read (h : St S (SpA g b ws :: l) w0 w) : ∃ A0 d0 A1 d1, SpR w w.heap.size g A0 d0 A1 d1 b ws := by
  obtain ⟨sv, se, h⟩ := sp_open h
  obtain ⟨c0, c1, c2⟩ := sp_cells h
  obtain ⟨A0, d0, rfl, h0, -, r0, -⟩ := h.swap.ob.form
  obtain ⟨A1, d1, rfl, h1, -, r1, -⟩ := h.bring2.ol.form
  rw [endsOf_length] at c2
  exact ⟨A0, d0, A1, d1, h.blk.lt, ⟨c0, c1, c2⟩, r0, r1, h0⟩

set_option maxHeartbeats 400000 in
theorem Seen_new {B : Nat} {A0 : Option Addr} {d0 : Nat} {A1 : Option Addr} {d1 : Nat} (h : SpR w B g A0 d0 A1 d1 b ws) (hB : B ≤ w.heap.size) (hl : (seenOf b ws).length ≤ 140737488355328) :
    Calls Try.prog 20 #[.pointer (some ⟨g, 0, none⟩)] w (NewB (seenOf b ws) w) := by
  obtain ⟨hg, ⟨c0, c1, c2⟩, hr, -, hcp⟩ := h
  have Hc := Lib.hid (Clone_any A0 d0 B _ w hr hB hl)
  clear hr
  go_enter Try.func20, Try.ntmps20
  go_wp2_with (go_at_call 26; refine (Hc.out).mono ?_; rintro e w1 ⟨v1, rfl, ho, hb⟩)
  go_ret
  exact ⟨_, rfl, ho, hb⟩
set_option maxHeartbeats 400000 in
theorem Size_new {B : Nat} {A0 : Option Addr} {d0 : Nat} {A1 : Option Addr} {d1 : Nat} (h : SpR w B g A0 d0 A1 d1 b ws) :
    Calls Try.prog 23 #[.pointer (some ⟨g, 0, none⟩)] w fun e w' => e = .returned (.int .i64 ((seenOf b ws).length : Int)) ∧ w = w' := by
  obtain ⟨hg, ⟨c0, c1, c2⟩, -, -, -⟩ := h
  go_enter Try.func23, Try.ntmps23
  go_wp2
  go_ret
  exact ⟨rfl, rfl⟩
set_option maxHeartbeats 400000 in
theorem Pending_new {B : Nat} {A0 : Option Addr} {d0 : Nat} {A1 : Option Addr} {d1 : Nat} (h : SpR w B g A0 d0 A1 d1 b ws) :
    Calls Try.prog 24 #[.pointer (some ⟨g, 0, none⟩)] w fun e w' => e = .returned (.int .i64 (ws.length : Int)) ∧ w = w' := by
  obtain ⟨hg, ⟨c0, c1, c2⟩, -, -, -⟩ := h
  go_enter Try.func24, Try.ntmps24
  go_wp2
  go_ret
  exact ⟨rfl, rfl⟩

set_option maxHeartbeats 400000 in
theorem Safe_new {B : Nat} {A0 : Option Addr} {d0 : Nat} {A1 : Option Addr} {d1 : Nat} (h : SpR w B g A0 d0 A1 d1 b ws) (hB : B ≤ w.heap.size) (hl : b.length ≤ 140737488355328) :
    Calls Try.prog 22 #[.pointer (some ⟨g, 0, none⟩)] w (NewB b w) := by
  obtain ⟨hg, ⟨c0, c1, c2⟩, hr, -, hcp⟩ := h
  have hr' : RB (w.drewN 1) B A0 b := RB.begin (ys := ws.flatten) hr
  have Hc := Lib.hid (Clone_any A0 d0 B b (w.drewN 1) hr' hB hl)
  have e1 : w.drewN 1 = w.drew := rfl
  rw [e1] at Hc
  have hbl : b.length ≤ (seenOf b ws).length := by simp [seenOf]
  have hbn : (0 : Int) ≤ (b.length : Int) := by omega
  have hbc : (b.length : Int) ≤ (d0 : Int) := by omega
  have hgs : g < w.heap.size := by omega
  clear hr hr' e1
  go_enter Try.func22, Try.ntmps22
  go_wp2
  go_region_held3 (fun w' => w'.cell? ⟨g, 0, none⟩ = some (.slice A0 (seenOf b ws).length d0) ∧ w'.cell? ⟨g, 1, none⟩ = some (.int .i64 (b.length : Int))) (go_keep)
    ((go_at_call 26; refine (Hc.out).mono ?_; rintro e w1 ⟨v1, rfl, ho, hb⟩; have k0 := (hb.cell (p := ⟨g, 0, none⟩) hgs).trans c0; have k1 := (hb.cell (p := ⟨g, 1, none⟩) hgs).trans c1))
  go_wp2
  go_ret
  exact ⟨_, rfl, ho, ⟨hb.os, hb.tape, hb.output, hb.size, hb.block⟩⟩

theorem Safe_any [Stable (Sep l)] (h : St S (SpA g b ws :: l) w0 w) (hl : b.length ≤ 140737488355328) :
    Calls Try.prog 22 #[.pointer (some ⟨g, 0, none⟩)] w fun e w' => ∃ v, e = .returned v ∧ St S (ObA 5 v b :: SpA g b ws :: l) w0 w' := by
  obtain ⟨A0, d0, A1, d1, hr⟩ := sp_read h
  refine (Safe_new hr (Nat.le_refl _) hl).mono ?_
  rintro e w' ⟨v, rfl, ho, hb⟩
  exact ⟨v, rfl, h.newOb ho hb⟩

/-- what an Append makes of the writes -/
def putW (ws : List (List Nat)) (x : List Nat) : List (List Nat) := if x.length = 0 then ws else ws ++ [x]
theorem putW_nil (ws : List (List Nat)) {x : List Nat} (h : x.length = 0) : putW ws x = ws := if_pos h
theorem putW_cons (ws : List (List Nat)) {x : List Nat} (h : ¬ x.length = 0) : putW ws x = ws ++ [x] := if_neg h
theorem seenOf_putW (b : List Nat) (ws : List (List Nat)) (x : List Nat) : seenOf b (putW ws x) = seenOf b ws ++ x := by
  by_cases h : x.length = 0
  · rw [putW_nil ws h, List.length_eq_zero_iff.1 h, List.append_nil]
  · rw [putW_cons ws h, seenOf_snoc]

set_option maxHeartbeats 1000000 in
theorem Append_any [Stable (Sep l)] (h : St S (SpA g b ws :: l) w0 w) (A : Option Addr) (cap B : Nat) (news : List Nat) (hr : RB w B A news) (hl : (seenOf b ws).length + news.length ≤ 1099511627776) (hn : ws.length < 1099511627776) :
    Calls Try.prog 14 #[.pointer (some ⟨g, 0, none⟩), .slice A news.length cap] w fun e w' => e = .returned (.tuple #[]) ∧ St S (SpA g b (putW ws news) :: l) w0 w' := by
  by_cases h0 : news.length = 0
  · have HP := Lib.hid (putW_nil ws h0)
    have H := Lib.hid h
    obtain rfl := List.length_eq_zero_iff.1 h0
    clear h h0
    go_enter Try.func14, Try.ntmps14
    go_wp2
    try simp only [Exit.inBlock, Exit.then]
    refine bodyPost_ret (results_none rfl _ _ _) rfl ?_
    rw [HP.out]
    exact ⟨rfl, H.out⟩
  · obtain ⟨i0, hi, hz0, hz1, hz2⟩ := info_parts u8_info
    obtain ⟨j0, hj, hy0, hy1, hy2⟩ := info_parts int_info
    have HP := Lib.hid (putW_cons ws h0)
    have hb : ((news.length : Int) == 0) = false := by rw [beq_eq_false_iff_ne]; omega
    have hlE : (endsOf b ws).length < 1099511627776 := by rw [endsOf_length]; exact hn
    have hEs := endsOf_snoc b ws news
    rw [seenOf_snoc] at hEs
    have hLs := seenOf_snoc b ws news
    obtain ⟨sv, se, h⟩ := sp_open h
    obtain ⟨E, hE⟩ : ∃ E, E = endsOf b ws := ⟨_, rfl⟩
    obtain ⟨L, hL⟩ : ∃ L, L = seenOf b ws ++ news := ⟨_, rfl⟩
    rw [← hL] at hEs hLs
    rw [← hE] at h hlE hEs
    obtain ⟨c0, c1, c2⟩ := sp_cells h
    obtain ⟨A0, d0, rfl, hd0, -, -, -⟩ := h.swap.ob.form
    obtain ⟨A1, d1, rfl, hd1, -, -, -⟩ := h.bring2.ol.form
    have f0 := h.blk.frozen 0
    have HL := Lib.hid hL
    have H := Lib.hid h
    have HEs := Lib.hid hEs
    have HLs := Lib.hid hLs
    clear h hL hE hEs hLs h0
    go_enter Try.func14, Try.ntmps14
    go_wp2_with (at_builtin; refine wpList_append_bytes _ rfl _ _ 22 rfl 0 5 i0 Try.underlying22 hi hz0 hz1 hz2 (.slice A0 (seenOf b ws).length d0) (seenOf b ws) (by rfl) H.out.swap.ob A cap B news news.length rfl (by rfl) hr (by omega) (Nat.zero_le _) ?_; intro v1 w1 hown1 hg1 hat1; rw [← HL.out] at hown1; have H1 := Lib.hid (H.out.swap.grewOb hown1 hg1 hat1 (Nat.le_refl _)); obtain ⟨A2, d2, rfl, -, -, -, -⟩ := hown1.form; obtain ⟨k0, k1, k2⟩ := sp_cells H1.out.swap; have f1 := H1.out.swap.blk.frozen 0; clear hown1 hg1 hat1)
    obtain ⟨w2, hw2⟩ : ∃ x, x = w1.setCell ⟨g, 0, none⟩ (.slice A2 L.length d2) := ⟨_, rfl⟩
    have h2 : St S (BlkA g 46 #[.slice A2 L.length d2, .int .i64 (b.length : Int), .slice A1 E.length d1] :: ObA 5 (.slice A2 L.length d2) L :: OlA nvl 3 (.slice A1 E.length d1) E :: l) w0 w2 := by
      rw [hw2]
      exact H1.out.swap.setBlk 0 _
    rw [← hw2]
    clear hw2 k0 k1 k2 f1
    obtain ⟨k0, k1, k2⟩ := sp_cells h2
    have H2 := Lib.hid h2
    have O2 := h2.bring2.ol
    have hby : (E.length + 1) * 8 ≤ 140737488355328 := by omega
    have h2a := h2.alloc (.cells #[nvl L.length] 3)
    obtain ⟨a0, a1, a2⟩ := sp_cells h2a
    clear h2 h2a
    go_region_law ((refine step_append_elem _ (by rfl) _ _ _ (by rfl) 0 3 j0 _ 8 Try.underlying44 hj hy0 hy1 hy2 rfl (.slice A1 E.length d1) E (by rfl) ((O2.alloc _).drewN 1) L.length (nvl_ok _) w2.heap.size (by rfl) (heap_alloc_new w2 _) hby (by omega) (Nat.zero_le _) ?_; intro gg cap3 w3 hown3 hgrow hat hltg; have H3 := Lib.hid ((((H2.out.alloc (.cells #[nvl L.length] 3)).drewN 1).bring2).grewOl hown3 hgrow (hat.elim (fun e => .inl e.symm) fun e => .inr (congrArg some e)) (Nat.le_refl _)); obtain ⟨q0, q1, q2⟩ := sp_cells H3.out.swap; have f3 := H3.out.swap.blk.frozen 2))
    all_goals
      go_wp2
      go_end0
      refine ⟨rfl, ?_⟩
      rw [HP.out]
      refine sp_shut (sv := .slice A2 L.length d2) (se := .slice (some ⟨gg, 0, none⟩) (E.length + 1) cap3) ?_ rfl
      rw [HEs.out, HLs.out]
      exact (H3.out.swap.setBlk 2 _).bring2.swap

abbrev bvl : Bool → Value := Value.bool
theorem RL.allB {w : World} {B : Nat} {A : Option Addr} {L : List Bool} (h : RL bvl w B A L) (hk : 0 < L.length) : ∃ b off, A = some ⟨b, off, none⟩ ∧ b < B ∧ ∀ k, k < L.length → w.cell? ⟨b, off + k, none⟩ = some (.bool (nthK L k)) := by
  obtain ⟨b, off, e, hb, hc⟩ := h.all hk
  exact ⟨b, off, e, hb, fun k hk => by rw [hc k hk, nthK_lt hk]⟩
theorem RL.allN {w : World} {B : Nat} {A : Option Addr} {L : List Nat} (h : RL nvl w B A L) (hk : 0 < L.length) : ∃ b off, A = some ⟨b, off, none⟩ ∧ b < B ∧ ∀ k, k < L.length → w.cell? ⟨b, off + k, none⟩ = some (.int .i64 (nth L k : Int)) := by
  obtain ⟨b, off, e, hb, hc⟩ := h.all hk
  exact ⟨b, off, e, hb, fun k hk => by rw [hc k hk, nth_lt hk]⟩
theorem made_zeros (n : Nat) : (madeCells (Value.int .u8 0).cells (n * 1)).toList = cells8 (List.replicate n 0) := by
  rw [show (Value.int .u8 0).cells = #[Value.int .u8 0] from rfl, Nat.mul_one, toList_madeCells_one]
  simp [cells8]
theorem OB.zeros {w : World} {base : Nat} {e : TypeId} {v : Value} {n : Nat} (h : w.ownsRow base e 1 v n (madeCells (Value.int .u8 0).cells (n * 1)).toList) : OB w base e v (List.replicate n 0) := by
  refine ⟨fun x hx => by rw [(List.mem_replicate.1 hx).2]; omega, ?_⟩
  rw [made_zeros] at h
  rw [List.length_replicate]
  exact h

set_option maxHeartbeats 1000000 in
theorem After_new {B : Nat} {A0 : Option Addr} {d0 : Nat} {A1 : Option Addr} {d1 : Nat} (h : SpR w B g A0 d0 A1 d1 b ws) (hB : B ≤ w.heap.size) (A : Option Addr) (cap : Nat) (ks : List Bool) (hr : RL bvl w B A ks) (hl : (seenOf b ws).length ≤ 1099511627776) (hn : ws.length < 1099511627776) (hkl : ks.length ≤ 140737488355328) (hne : ∀ x ∈ ws, 0 < x.length) :
    Calls Try.prog 18 #[.pointer (some ⟨g, 0, none⟩), .slice A ks.length cap] w (NewB (aft b 0 ws ks) w) := by
  obtain ⟨i0, hi, hz0, hz1, hz2⟩ := info_parts u8_info
  have hbl : b.length ≤ (seenOf b ws).length := by simp [seenOf]
  have HS := Lib.hid (Safe_new h hB (by omega))
  have HI := Lib.hid h
  have Hne := Lib.hid hne
  have HK := Lib.hid hr
  have c00 := h.2.1
  have Hg : g < B := h.1
  clear h hne hr
  go_enter Try.func18, Try.ntmps18
  go_wp2_with fail
  refine HS.out.mono ?_
  rintro e w1 ⟨v1, rfl, ho1, hb1⟩
  have hR1 := (HI.out.below (hb1.mono hB)).2.1
  obtain ⟨c0, c1, c2⟩ := hR1
  clear c00
  go_wp2
  go_loopw [5, 6, 21] (fun lv sti i wr => ∃ (k gap st : Nat) (left : List Nat), k ≤ ws.length ∧ i = .int .i64 k ∧ sti = .int .i64 st ∧ st = startOf b ws k ∧ left.length + gap = st ∧ aft left gap (ws.drop k) (ks.drop k) = aft b 0 ws ks ∧ OB wr w.heap.size 5 lv left ∧ Below w.heap.size w wr) (fun _ _ i _ => ws.length - (intOf i).toNat)
  case atStart => exact ⟨0, 0, b.length, b, Nat.zero_le _, rfl, rfl, (startOf_zero b ws).symm, rfl, rfl, ho1, hb1⟩
  case round =>
    obtain ⟨k, gap, st, left, hk, rfl, rfl, hst, hlg, haft, ho, hbw⟩ := hrel
    clear ho1 hb1 c0 c1 c2
    by_cases hlt : k < ws.length
    · have hEl : k < (endsOf b ws).length := by rw [endsOf_length]; exact hlt
      have hsl := startOf_le b ws (k + 1)
      have hss := startOf_succ (b := b) hlt
      have hpos : 0 < (nthW ws k).length := Hne.out _ (by rw [nthW_lt hlt]; exact List.getElem_mem hlt)
      have hcut := seenOf_cut (b := b) hlt
      obtain ⟨-, ⟨c0, c1, c2⟩, r0, r1, hd0⟩ := HI.out.below (hbw.mono hB)
      obtain ⟨eb, eo, rfl, -, hce⟩ := r1.allN (by omega)
      have hcek := hce k hEl
      rw [nth_lt hEl, endsOf_get hEl] at hcek
      obtain ⟨en, hen⟩ : ∃ en, en = startOf b ws (k + 1) := ⟨_, rfl⟩
      rw [← hen] at hcek hsl hss hcut
      rw [← hst] at hss hcut
      obtain ⟨sb, so, rfl, -, -⟩ := r0.all (by omega)
      have Hss := Lib.hid hss
      have Hen := Lib.hid hen
      have Hrc : Hid (∀ w', Below w.heap.size w w' → RB w' B (some ⟨sb, so + st, none⟩) (nthW ws k)) := Lib.hid fun w' hb' => by
        have := (HI.out.below (hb'.mono hB)).2.2.1.cut rfl st en hsl (by omega)
        rwa [hcut] at this
      have Haft := Lib.hid haft
      have Hlg := Lib.hid hlg
      have hse : st < en := by omega
      have hle : left.length ≤ st := by omega
      have hged : left.length + gap ≤ st := by omega
      have hsz := hbw.size
      obtain ⟨A5, c5, rfl, -, -, -, -⟩ := ho.form
      clear hss hen hcut haft hlg hce hst r0 r1 c1 c2
      by_cases hkk : nthK ks k = true
      · have hkl2 : k < ks.length := by
          rcases Nat.lt_or_ge k ks.length with h | h
          · exact h
          · rw [nthK_ge h] at hkk; cases hkk
        obtain ⟨kb, ko, rfl, hkb, hck⟩ := (HK.out.below (hbw.mono hB)).allB (by omega)
        have hck1 := hck k hkl2
        rw [hkk] at hck1
        have Hkk := Lib.hid hkk
        clear hck hkk
        go_wp2_with (first | (at_make; refine wpList_make_full _ rfl _ _ 22 rfl wr.heap.size 5 i0 (.int .u8 0) 1 Try.underlying22 hi hz0 hz1 _ _ _ _ gap (by rfl) (by rfl) (by have := Hlg.out; omega) (by have := Hlg.out; omega) (by rw [hz2]; omega) (by unfold maxLen; omega) (Nat.le_refl _) ?_; intro w2 hown2 hg2; have HZ := Lib.hid (OB.zeros hown2); have hb2 : Below wr.heap.size wr w2 := (Below.refl _ _).grown hg2 (Nat.le_refl _) (fun _ h => by cases h); have ho2 := ho.below' hb2; have hbw2 := hbw.trans (hb2.mono hsz); clear hown2 hg2) | (at_builtin; refine wpList_append_bytes _ rfl (.tmp 41) (.tmp 42) 22 rfl w.heap.size 5 i0 Try.underlying22 hi hz0 hz1 hz2 _ left (by rfl) ho2 (some ⟨wr.heap.size, 0, none⟩) gap w2.heap.size (List.replicate gap 0) gap (List.length_replicate ..) (by rfl) (OB.reads (n := gap) HZ.out).2.1 (by omega) hbw2.size ?_; intro v3 w3 hown3 hg3 hat3; have hbw3 := ho2.belowTo hbw2 (Nat.le_refl _) hg3 hbw2.size; have q0 := (HI.out.below (hbw3.mono hB)).2.1.1) | (at_builtin; refine wpList_append_bytes _ rfl (.tmp 44) (.tmp 51) 22 rfl w.heap.size 5 i0 Try.underlying22 hi hz0 hz1 hz2 v3 (left ++ List.replicate gap 0) (by rfl) hown3 (some ⟨sb, so + st, none⟩) (d0 - st) B (nthW ws k) (en - st) (by have := Hss.out; omega) (by rfl) (Hrc.out _ hbw3) (by have := Hlg.out; simp; omega) hbw3.size ?_; intro v4 w4 hown4 hg4 hat4; have hbw4 := hown3.belowTo hbw3 (Nat.le_refl _) hg4 hbw3.size))
        go_roundw
        case rel => exact ⟨k + 1, 0, en, left ++ List.replicate gap 0 ++ nthW ws k, by omega, by go_num, rfl, Hen.out, by have := Hlg.out; have := Hss.out; simp; omega, by rw [← Haft.out, aft_yes hlt Hkk.out], hown4, hbw4⟩
        case measure => simp [intOf]; omega
      · have hkk : nthK ks k = false := by simpa using hkk
        by_cases hkl2 : k < ks.length
        · obtain ⟨kb, ko, rfl, hkb, hck⟩ := (HK.out.below (hbw.mono hB)).allB (by omega)
          have hck1 := hck k hkl2
          rw [hkk] at hck1
          have Hkk := Lib.hid hkk
          clear hck hkk
          go_wp2
          go_roundw
          case rel => exact ⟨k + 1, gap + (nthW ws k).length, en, left, by omega, by go_num, rfl, Hen.out, by have := Hlg.out; have := Hss.out; omega, by rw [← Haft.out, aft_no hlt Hkk.out], ho, hbw⟩
          case measure => simp [intOf]; omega
        · have Hkk := Lib.hid hkk
          clear hkk
          go_wp2
          go_roundw
          case rel => exact ⟨k + 1, gap + (nthW ws k).length, en, left, by omega, by go_num, rfl, Hen.out, by have := Hlg.out; have := Hss.out; omega, by rw [← Haft.out, aft_no hlt Hkk.out], ho, hbw⟩
          case measure => simp [intOf]; omega
    · go_wp2
      go_ret
      exact ⟨_, rfl, by rw [← haft, aft_end (by omega)]; exact ho, hbw⟩
theorem After_any [Stable (Sep l)] (h : St S (SpA g b ws :: l) w0 w) (A : Option Addr) (cap : Nat) (ks : List Bool) (hr : RL bvl w w.heap.size A ks) (hl : (seenOf b ws).length ≤ 1099511627776) (hn : ws.length < 1099511627776) (hkl : ks.length ≤ 140737488355328) (hne : ∀ x ∈ ws, 0 < x.length) :
    Calls Try.prog 18 #[.pointer (some ⟨g, 0, none⟩), .slice A ks.length cap] w fun e w' => ∃ v, e = .returned v ∧ St S (ObA 5 v (aft b 0 ws ks) :: SpA g b ws :: l) w0 w' := by
  obtain ⟨A0, d0, A1, d1, hsr⟩ := sp_read h
  refine (After_new hsr (Nat.le_refl _) A cap ks hr hl hn hkl hne).mono ?_
  rintro e w' ⟨v, rfl, ho, hb⟩
  exact ⟨v, rfl, h.newOb ho hb⟩
end

end Go.Proofs.Ytkpmnmgnfgfhaaa

/- lexer: Scan, count. -/
import Derived.Test.YthmgkjfohkadoaaGreatDoorLxK
import Derived.Test.YthmgkjfohkadoaaGreatDoorRws
import Derived.Maps.OwnIn
namespace Go.Proofs.YthmgkjfohkadoaaGreatDoor
open Go.RowKit Go.Shelf
set_option linter.unusedVariables false
set_option linter.unusedSimpArgs false
attribute [local go_sem] Oper.semAt_some

set_option maxHeartbeats 400000 in
theorem Scan_any (s : ByteArray) (w : World) :
    Calls Tryz.prog 4 #[.string s] w fun e w' => e = .returned (.func (.func 7) #[] #[.pointer (some ⟨w.heap.size, 0, none⟩)]) ∧ w.alloc (.cells #[.string s] 9) = w' := by
  go_enter Tryz.func4, Tryz.ntmps4
  go_wp2_with fail
  go_ret
  exact ⟨rfl, rfl⟩
/-- the scanner that was lent -/
def LentO (s : ByteArray) (o : Option Lx) : Ass := match o with
  | none => Sep []
  | some y => LenA s y
instance stableLentO {s : ByteArray} {o : Option Lx} : Stable (LentO s o) := by
  cases o
  · exact stableNil
  · exact stableLen
theorem lent_ne {s : ByteArray} {y : Lx} (h : y.q ≠ none) : ∃ q, y.q = some q ∧ LenA s y = ScA y.g s q := by
  cases hq : y.q with
  | none => exact absurd hq h
  | some q => exact ⟨q, rfl, by unfold LenA; rw [hq]⟩
theorem lent_turnL {S : Fp} {lst : List Ass} [Stable (Sep lst)] {w0 V V1 : World} {s : ByteArray} {pre : List Lx} {x : Lx} (h : St S (LentO s pre.getLast? :: lst) w0 V) (hy : LxY s pre x V V1) : St S (LenA s x :: lst) w0 V1 := by
  obtain ⟨h1, hl, -⟩ := hy
  cases hp : pre.getLast? with
  | none =>
    have hn : pre = [] := List.getLast?_eq_none_iff.1 hp
    subst hn
    have e : Sl [] x.g = Zf := rfl
    rw [e] at h1
    exact (h.drop).addStL h1
  | some y =>
    rw [hp] at h
    obtain ⟨hg, hq⟩ := hl y hp
    have e : Sl pre x.g = fun k => k = y.g := by
      unfold Sl
      rw [if_neg, hg]
      intro h0
      rw [List.length_eq_zero_iff.1 h0] at hp
      cases hp
    rw [e] at h1
    obtain ⟨q, -, he⟩ := lent_ne (s := s) hq
    have h2 : St S (ScA y.g s q :: lst) w0 V := by rw [← he]; exact h
    obtain ⟨F, ⟨hk, rfl⟩, k⟩ := St.turn h2
    exact St.flat (k (Sep [LenA s x]) V1 h1)
theorem lent_end {S : Fp} {lst : List Ass} [Stable (Sep lst)] {w0 V W : World} {s : ByteArray} {xs : List Lx} (h : St S (LentO s xs.getLast? :: lst) w0 V) (ht : LxT s xs V W) : St S lst w0 W := by
  obtain ⟨-, ⟨-, hb⟩ | ⟨y, q, hp, hq, hs⟩⟩ := ht
  · exact h.drop.below hb
  · rw [hp] at h
    obtain ⟨q0, -, he⟩ := lent_ne (s := s) hq
    have h2 : St S (ScA y.g s q0 :: lst) w0 V := by rw [← he]; exact h
    obtain ⟨F, ⟨hk, rfl⟩, k⟩ := St.turn h2
    exact (St.flat (k (Sep [ScA y.g s q]) W hs)).drop
theorem LxT.evs {s : ByteArray} {xs : List Lx} {V W : World} (h : LxT s xs V W) : xs.map Lx.ev = evT (lxR (lS s)) := h.1
theorem lx_keeps {s : ByteArray} {x : Lx} {S : Fp} {lst : List Ass} {w0 V : World} (h : St S (LenA s x :: lst) w0 V) : LxKp s x V := by
  unfold LxKp LenA at *
  cases hq : x.q with
  | none => trivial
  | some q =>
    rw [hq] at h
    exact h.blk
theorem run_loadVar_cellL {P : Program} (w : World) (ty : TypeId) (d : TypeDesc) (a : Addr) (u : Value) (hu : P.underlying ty = some d) (hd : (match d with | .struct _ | .array _ _ => true | _ => false) = false) (hc : w.cell? a = some u) :
    (loadVar ty a).run P w = .ok u w := by
  have hag : (isAgg ty).run P w = .ok false w := by
    cases d <;> simp_all [isAgg, Sem.run_bind, run_underlying hu, Result.andThen]
  simp [loadVar, Sem.run_bind, hag, Result.andThen, go_sem, hc]
theorem results_cells3 {P : Program} {fn : Func} {p q r : Tmp} {ty ty' ty'' : TypeId} (h : fn.results = #[.cell p ty, .cell q ty', .cell r ty'']) (tmps : Array Value) (w : World) {g g' g'' : Nat} {u v z : Value} (d d' d'' : TypeDesc)
    (hu : P.underlying ty = some d) (hd : (match d with | .struct _ | .array _ _ => true | _ => false) = false) (hu' : P.underlying ty' = some d') (hd' : (match d' with | .struct _ | .array _ _ => true | _ => false) = false) (hu'' : P.underlying ty'' = some d'') (hd'' : (match d'' with | .struct _ | .array _ _ => true | _ => false) = false)
    (hp : tmps.getD p undef = .pointer (some ⟨g, 0, none⟩)) (hq : tmps.getD q undef = .pointer (some ⟨g', 0, none⟩)) (hr : tmps.getD r undef = .pointer (some ⟨g'', 0, none⟩)) (h1 : w.cell? ⟨g, 0, none⟩ = some u) (h2 : w.cell? ⟨g', 0, none⟩ = some v) (h3 : w.cell? ⟨g'', 0, none⟩ = some z) :
    (results fn tmps).run P w = .ok (.tuple #[u, v, z]) w := by
  have e1 := run_loadVar_cellL w ty d ⟨g, 0, none⟩ u hu hd h1
  have e2 := run_loadVar_cellL w ty' d' ⟨g', 0, none⟩ v hu' hd' h2
  have e3 := run_loadVar_cellL w ty'' d'' ⟨g'', 0, none⟩ z hu'' hd'' h3
  simp only [results, h]
  simp only [Array.getD_eq_getD_getElem?] at hp hq hr
  simp [Sem.run_bind, Result.andThen, hp, hq, hr, asAddr, e1, e2, e3]
/-- what count answers -/
def CntW (l : Bs) (w : World) (e : Ending) (w' : World) : Prop :=
  (match (lxR l).2 with
    | none => e = .returned (.tuple #[.int .i64 ((lxR l).1.length : Int), .int .i64 0, .int .i64 0])
    | some x => e = .returned (.tuple #[.int .i64 0, .int .i64 (x.1 : Int), .int .i64 x.2])) ∧ Below w.heap.size w w'
/-- count's objects -/
def cpl (N : Nat) (s : ByteArray) (n : Nat) : List Ass :=
  [BlkA (N + 3) 3 #[.int .i64 (n : Int)], BlkA N 3 #[.int .i64 0], BlkA (N + 1) 3 #[.int .i64 0], BlkA (N + 2) 31 #[.int .i64 0], BlkA (N + 4) 9 #[.string s]]
instance stableCpl {N : Nat} {s : ByteArray} {n : Nat} : Stable (Sep (cpl N s n)) := by
  unfold cpl
  infer_instance
def cplF (l : Bs) (pre : List Lx) (n : Nat) : Prop := n = pre.length ∧ (∀ x ∈ pre, x.e = 0) ∧ ∃ r, evT (lxR l) = pre.map Lx.ev ++ r
set_option maxRecDepth 100000 in
set_option maxHeartbeats 1000000 in
theorem count_any (s : ByteArray) (w : World) (hW : LxW w) :
    Calls Tryz.prog 24 #[.string s] w (CntW (lS s) w) := by
  obtain ⟨N, hN⟩ : ∃ N, N = w.heap.size := ⟨_, rfl⟩
  have HN := Lib.hid hN
  have hS := ((((St.start Zf w).newBlk 3 #[.int .i64 0]).newBlk 3 #[.int .i64 0]).newBlk 31 #[.int .i64 0]).newBlk 3 #[.int .i64 0]
  refine (callsIn_wide (n := 10)).1 ?_
  refine callsIn_of_wp_marks Tryz.func24 rfl trivial ?_ rfl
  simp only [Tryz.ntmps24, List.size_toArray, List.length_cons, List.length_nil, Nat.reduceAdd, Nat.reduceSub, Array.replicate_succ, Array.replicate_zero, List.push_toArray, List.append_toArray, List.nil_append, List.cons_append]
  gi_wp2_with fail
  refine ⟨trivial, (callsIn_wide.2 (Scan_any _ _)).mono ?_⟩
  rintro e w1 ⟨rfl, hw1⟩
  simp only [World.size_alloc] at hS hw1 ⊢
  have hS2 := hS.newBlk 9 #[.string s]
  simp only [World.size_alloc] at hS2
  rw [hw1] at hS2
  clear hw1 hS
  simp only [Nat.add_assoc, Nat.reduceAdd] at hS2 ⊢
  rw [← hN] at hS2 ⊢
  have HS := Lib.hid hS2
  have HW := Lib.hid hW
  clear hS2 hW hN
  gi_wp2_with fail
  have hEA : ∀ o pre V, (∃ i, cplF (lS s) pre i ∧ St Zf (RecA (w1.heap.size + 1) w1.heap.size o :: LentO s pre.getLast? :: cpl N s i) w V) → TxL (N + 4) s V := by
    rintro o pre V ⟨i, -, h⟩
    have hbk : Blk V (N + 4) 9 #[.string s] := h.drop.drop.drop.drop.drop.drop.blk
    exact ⟨by rw [hbk.cell 0]; rfl, hbk.lt, HW.out.below h.bel (Nat.le_refl _)⟩
  refine wpIn_rangeV rfl (gf := 7) (lb := #[.pointer (some ⟨N + 4, 0, none⟩)]) rfl (enters_of Tryz.func7 (by kernel_rfl) rfl) (encs := Lx.enc) (fun _ => rfl)
    (scan_seq (N + 4) s)
    (fun o pre W => ∃ i, cplF (lS s) pre i ∧ St Zf (RecA (w1.heap.size + 1) w1.heap.size o :: LentO s pre.getLast? :: cpl N s i) w W)
    (fun o pre x W => ∃ i : Nat, (cplF (lS s) pre i ∧ (∃ r, evT (lxR (lS s)) = pre.map Lx.ev ++ x.ev :: r)) ∧
      St Zf (RecA (w1.heap.size + 1) w1.heap.size o :: LenA s x :: cpl N s i) w W)
    (fun o pre x a W => ∃ i : Nat × Nat, (cplF (lS s) pre i.1 ∧ (∃ r, evT (lxR (lS s)) = pre.map Lx.ev ++ x.ev :: r) ∧
        a = { tmps := #[.string s, undef, .pointer (some ⟨N, 0, none⟩), .pointer (some ⟨N + 1, 0, none⟩), .pointer (some ⟨N + 2, 0, none⟩), .pointer (some ⟨N + 3, 0, none⟩), .pointer (some ⟨i.2, 0, none⟩), .int .i64 x.e, .string s,
          .func (.func 7) #[] #[.pointer (some ⟨N + 4, 0, none⟩)], tkV x.t, .int .i64 x.e, undef, undef, undef, undef, undef, undef, undef, undef], defers := [] }) ∧
      St Zf (RecA (w1.heap.size + 1) w1.heap.size o :: BlkA i.2 30 (tkC x.t) :: LenA s x :: cpl N s i.1) w W)
    (fun cd o pre W => ∃ i : Nat × Int, (cd = .ret ∧ (lxR (lS s)).2 = some i) ∧ St Zf [RecA (w1.heap.size + 1) w1.heap.size o, BlkA N 3 #[.int .i64 0], BlkA (N + 1) 3 #[.int .i64 (i.1 : Int)], BlkA (N + 2) 31 #[.int .i64 i.2]] w W)
    (fun o pre x W => ∃ i : Nat, cplF (lS s) (pre ++ [x]) i ∧ St Zf (RecA (w1.heap.size + 1) w1.heap.size o :: LenA s x :: cpl N s i) w W)
    (fun o xs W => ∃ i : Nat, (i = (lxR (lS s)).1.length ∧ (lxR (lS s)).2 = none) ∧ St Zf (RecA (w1.heap.size + 1) w1.heap.size o :: cpl N s i) w W)
    ?bI ?bM ?bN ?bX ?bR ?bZ hEA ?hY ?hR ?hT ?h0 ?assign ?body ?done ?stop
  case hY =>
    rintro o pre x V V1 ⟨i, hf, h⟩ hy
    exact ⟨i, ⟨hf, hy.2.2⟩, (lent_turnL h.swap hy).swap⟩
  case bI => exact fun pre => bears_ex (g := fun i : Nat => LentO s pre.getLast? :: cpl N s i)
  case bM => exact fun pre x => bears_ex (g := fun i : Nat => LenA s x :: cpl N s i)
  case bN => exact fun pre x a => bears_ex (g := fun i : Nat × Nat => BlkA i.2 30 (tkC x.t) :: LenA s x :: cpl N s i.1)
  case bX => exact fun c pre => bears_ex (g := fun i : Nat × Int => [BlkA N 3 #[.int .i64 0], BlkA (N + 1) 3 #[.int .i64 (i.1 : Int)], BlkA (N + 2) 31 #[.int .i64 i.2]])
  case bR => exact fun pre x => bears_ex (g := fun i : Nat => LenA s x :: cpl N s i)
  case bZ => exact fun pre => bears_ex (g := fun i : Nat => cpl N s i)
  case hR =>
    rintro o pre x V ⟨i, hf, h⟩
    have e : (pre ++ [x]).getLast? = some x := by simp
    refine ⟨⟨i, hf, ?_⟩, lx_keeps h.swap⟩
    rw [e]
    exact h
  case hT =>
    rintro o xs V W ⟨i, ⟨h1, h2, h3⟩, h⟩ ht
    have hev := ht.evs
    obtain ⟨h4, h5⟩ := ev_all (r := lxR (lS s)) (by
      rw [← hev]
      intro y hy
      obtain ⟨x, hx, rfl⟩ := List.mem_map.1 hy
      exact h2 x hx) (fun e he => lxR_err he)
    refine ⟨i, ⟨?_, h4⟩, lent_end h.swap ht⟩
    have h6 := congrArg List.length (hev.trans h5)
    simp only [List.length_map] at h6
    rw [h1, h6]
  case h0 =>
    intro o
    refine ⟨0, ⟨rfl, fun x hx => (by cases hx), ⟨_, rfl⟩⟩, ?_⟩
    exact ((HS.out.bring2.bring3.bring4.bring4).nilSep).recNew o
  case assign =>
    rintro o pre x W ⟨i, ⟨hf, hx⟩, h⟩
    have HH := Lib.hid h
    clear h
    simp only [Lx.enc, tkV, tkC]
    gi_wp2
    exact ⟨(i, W.heap.size), ⟨hf, hx, rfl⟩, (HH.out.newBlk 30 (tkC x.t)).swap⟩
  case body =>
    rintro o pre x a W ⟨⟨i, M⟩, ⟨⟨hf1, hf2, r0, hf3⟩, ⟨r, hr⟩, rfl⟩, h⟩
    have HH := Lib.hid h
    have hgm : Blk W M 30 (tkC x.t) := h.drop.blk
    have hg5 : Blk W (N + 3) 3 #[.int .i64 (i : Int)] := h.drop.drop.drop.blk
    have hg2 : Blk W N 3 #[.int .i64 0] := h.drop.drop.drop.drop.blk
    have hg3 : Blk W (N + 1) 3 #[.int .i64 0] := h.drop.drop.drop.drop.drop.blk
    have hg4 : Blk W (N + 2) 31 #[.int .i64 0] := h.drop.drop.drop.drop.drop.drop.blk
    have c5 : W.cell? ⟨N + 3, 0, none⟩ = some (.int .i64 (i : Int)) := by rw [hg5.cell 0]; rfl
    have c2 : W.cell? ⟨N, 0, none⟩ = some (.int .i64 0) := by rw [hg2.cell 0]; rfl
    have c3 : W.cell? ⟨N + 1, 0, none⟩ = some (.int .i64 0) := by rw [hg3.cell 0]; rfl
    have c4 : W.cell? ⟨N + 2, 0, none⟩ = some (.int .i64 0) := by rw [hg4.cell 0]; rfl
    have cm : W.cell? ⟨M, 3, none⟩ = some (.int .i64 (x.t.p : Int)) := by rw [hgm.cell 3]; rfl
    have f2 := hg2.frozen 0
    have f3 := hg3.frozen 0
    have f4 := hg4.frozen 0
    have f5 := hg5.frozen 0
    by_cases he : x.e = 0
    · have hi : i ≤ 16777217 := by
        have h1 := congrArg List.length hf3
        have h2 := ev_few (lxR (lS s))
        have h3 := lxR_few (lS s)
        rw [List.length_append, List.length_map] at h1
        omega
      have HPR : Hid (cplF (lS s) (pre ++ [x]) (i + 1)) := Lib.hid (by
        refine ⟨by have h0 : i = pre.length := hf1; rw [List.length_append, h0]; rfl, ?_, ⟨r, ?_⟩⟩
        · intro y hy
          rcases List.mem_append.1 hy with hy | hy
          · exact hf2 y hy
          · rw [List.mem_singleton.1 hy]
            exact he
        · rw [hr, List.map_append, List.append_assoc]
          rfl)
      clear h hgm hg2 hg3 hg4 hg5 hf1 hf2 hf3 hr
      gi_wp2
      have h9 := ((HH.out.swap.drop.bring2).setBlk 0 (.int .i64 ((i : Int) + 1))).back2
      exact ⟨i + 1, HPR.out, h9⟩
    · obtain ⟨e1, -, -, -⟩ := ev_stop (x := x.ev) hr he
      have HST : Hid ((lxR (lS s)).2 = some (x.t.p, x.e)) := Lib.hid e1
      have heb : (x.e != 0) = true := by rw [bne_iff_ne]; exact he
      have n1 : M ≠ N := fun e => by rw [e] at hgm; have h := Option.some.inj (hgm.symm.trans hg2); injection h with h1; exact absurd (congrArg Array.size h1) (by show ¬ 4 = 1; decide)
      have n2 : M ≠ N + 1 := fun e => by rw [e] at hgm; have h := Option.some.inj (hgm.symm.trans hg3); injection h with h1; exact absurd (congrArg Array.size h1) (by show ¬ 4 = 1; decide)
      have n3 : M ≠ N + 2 := fun e => by rw [e] at hgm; have h := Option.some.inj (hgm.symm.trans hg4); injection h with h1; exact absurd (congrArg Array.size h1) (by show ¬ 4 = 1; decide)
      have m1 := Ne.symm n1
      have m2 := Ne.symm n2
      have m3 := Ne.symm n3
      clear h hgm hg2 hg3 hg4 hg5 hf1 hf2 hf3 hr
      gi_wp2
      refine wpIn_region_held_round (S := (fun w' => w'.cell? ⟨M, 3, none⟩ = some (.int .i64 (x.t.p : Int)))) (by kernel_rfl) (by rintro ⟨_, _, hlo⟩; exact hlo) (by kernel_rfl) (by (try dsimp only); go_keep) (fun hHeld => ?_)
      refine wpAnyH_take (i := 0) (v := ?_) rfl (by kernel_rfl) (by kernel_rfl) (by kernel_rfl) (fun _ _ _ h => h) (Or.inl ⟨by rfl, ?_⟩) (by assumption) ?_
      rotate_left
      · (intro w hSw; (try dsimp only at hSw); go_simp; try with_reducible rfl)
      try simp only [Act.put, List.getElem_toArray, List.getElem_cons_zero, List.getElem_cons_succ, List.setIfInBounds_toArray, List.set_cons_zero, List.set_cons_succ]
      refine wpAnyH_take (i := 1) (v := ?_) rfl (by kernel_rfl) (by kernel_rfl) (by kernel_rfl) (fun _ _ _ h => h) (Or.inl ⟨by rfl, ?_⟩) (by assumption) ?_
      rotate_left
      · (intro w hSw; (try dsimp only at hSw); go_simp; try with_reducible rfl)
      try simp only [Act.put, List.getElem_toArray, List.getElem_cons_zero, List.getElem_cons_succ, List.setIfInBounds_toArray, List.set_cons_zero, List.set_cons_succ]
      refine wpAnyH_take (i := 2) (v := ?_) rfl (by kernel_rfl) (by kernel_rfl) (by kernel_rfl) (fun _ _ _ h => h) (Or.inl ⟨by rfl, ?_⟩) (by assumption) ?_
      rotate_left
      · (intro w hSw; (try dsimp only at hSw); go_simp; try with_reducible rfl)
      try simp only [Act.put, List.getElem_toArray, List.getElem_cons_zero, List.getElem_cons_succ, List.setIfInBounds_toArray, List.set_cons_zero, List.set_cons_succ]
      refine wpAnyH_ready (rs := [3]) (by kernel_rfl) (by simp) ?_
      refine AllReadyH.cons rfl (fun K hK => ?_) AllReadyH.nil
      go_simp
      refine hK.out _ _ (by (try dsimp only); go_keep) (fun hHeld => ?_)
      clear hK K
      try simp only [Act.put, List.getElem_toArray, List.getElem_cons_zero, List.getElem_cons_succ, List.setIfInBounds_toArray, List.set_cons_zero, List.set_cons_succ]
      refine wpAnyH_ready (rs := [4]) (by kernel_rfl) (by simp) ?_
      refine AllReadyH.cons rfl (fun K hK => ?_) AllReadyH.nil
      go_simp
      refine hK.out _ _ (by (try dsimp only); go_keep) (fun hHeld => ?_)
      clear hK K
      try simp only [Act.put, List.getElem_toArray, List.getElem_cons_zero, List.getElem_cons_succ, List.setIfInBounds_toArray, List.set_cons_zero, List.set_cons_succ]
      refine wpAnyH_ready (rs := [5]) (by kernel_rfl) (by simp) ?_
      refine AllReadyH.cons rfl (fun K hK => ?_) AllReadyH.nil
      go_simp
      refine hK.out _ _ (by (try dsimp only); go_keep) (fun hHeld => ?_)
      clear hK K
      try simp only [Act.put, List.getElem_toArray, List.getElem_cons_zero, List.getElem_cons_succ, List.setIfInBounds_toArray, List.set_cons_zero, List.set_cons_succ]
      refine wpAnyH_done (by kernel_rfl) ?_ _
      gi_wp2
      have h1 := HH.out.swap.drop.swap.drop.swap.drop.bring4.drop
      have h2 := ((h1.swap.setBlk 0 (.int .i64 0)).bring2.setBlk 0 (.int .i64 (x.t.p : Int))).bring3.setBlk 0 (.int .i64 x.e)
      exact ⟨(x.t.p, x.e), ⟨rfl, HST.out⟩, (h2.swap.bring2.bring3).drew⟩
  case done =>
    rintro o xs W ⟨i, ⟨hx, he⟩, h⟩
    have HE := Lib.hid h
    have hg5 : Blk W (N + 3) 3 #[.int .i64 (i : Int)] := h.drop.blk
    have hg2 : Blk W N 3 #[.int .i64 0] := h.drop.drop.blk
    have hg3 : Blk W (N + 1) 3 #[.int .i64 0] := h.drop.drop.drop.blk
    have hg4 : Blk W (N + 2) 31 #[.int .i64 0] := h.drop.drop.drop.drop.blk
    have c5 : W.cell? ⟨N + 3, 0, none⟩ = some (.int .i64 (i : Int)) := by rw [hg5.cell 0]; rfl
    have c2 : W.cell? ⟨N, 0, none⟩ = some (.int .i64 0) := by rw [hg2.cell 0]; rfl
    have c3 : W.cell? ⟨N + 1, 0, none⟩ = some (.int .i64 0) := by rw [hg3.cell 0]; rfl
    have c4 : W.cell? ⟨N + 2, 0, none⟩ = some (.int .i64 0) := by rw [hg4.cell 0]; rfl
    have f2 := hg2.frozen 0
    have f3 := hg3.frozen 0
    have f4 := hg4.frozen 0
    have HX := Lib.hid hx
    have HE0 := Lib.hid he
    clear hg2 hg3 hg4 hg5 hx he
    have h2 := ((h.bring2.setBlk 0 (.int .i64 (i : Int))).bring3.setBlk 0 (.int .i64 0)).bring4.setBlk 0 (.int .i64 0)
    have HE2 := Lib.hid h2.bring3
    clear h h2
    gi_wp2
    refine ⟨by simp, .inl ⟨_, _, rfl, run_takeDeferred HE2.out.recAt.2.1, ?_⟩⟩
    have h3 := HE2.out.recEnd (.deferred none)
    have k4 := (h3.blk).cell 0
    have k3 := (h3.drop.blk).cell 0
    have k2 := (h3.drop.drop.blk).cell 0
    refine ⟨.tuple #[.int .i64 (i : Int), .int .i64 0, .int .i64 0], ?_, ?_⟩
    · exact results_cells3 rfl _ _ _ _ _ Tryz.underlying3 rfl Tryz.underlying3 rfl Tryz.underlying31 rfl (by rfl) (by rfl) (by rfl) k2 k3 k4
    · refine ⟨?_, h3.bel⟩
      rw [HE0.out, HX.out]
  case stop =>
    rintro o cd pre W _ ⟨i, ⟨rfl, hi⟩, h⟩
    have HE := Lib.hid h
    have HI := Lib.hid hi
    clear h hi
    gi_wp2
    refine ⟨by simp, .inl ⟨_, _, rfl, run_takeDeferred HE.out.recAt.2.1, ?_⟩⟩
    have h3 := HE.out.recEnd (.deferred none)
    have k2 := (h3.blk).cell 0
    have k3 := (h3.drop.blk).cell 0
    have k4 := (h3.drop.drop.blk).cell 0
    refine ⟨.tuple #[.int .i64 0, .int .i64 (i.1 : Int), .int .i64 i.2], ?_, ?_⟩
    · exact results_cells3 rfl _ _ _ _ _ Tryz.underlying3 rfl Tryz.underlying3 rfl Tryz.underlying31 rfl (by rfl) (by rfl) (by rfl) k2 k3 k4
    · refine ⟨?_, h3.bel⟩
      rw [HI.out]
end Go.Proofs.YthmgkjfohkadoaaGreatDoor

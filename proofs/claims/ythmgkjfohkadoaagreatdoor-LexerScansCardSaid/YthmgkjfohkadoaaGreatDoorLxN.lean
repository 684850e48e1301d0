/- lexer: All. -/
import Derived.Test.YthmgkjfohkadoaaGreatDoorLxM
namespace Go.Proofs.YthmgkjfohkadoaaGreatDoor
open Go.RowKit Go.Shelf
set_option linter.unusedVariables false
set_option linter.unusedSimpArgs false
attribute [local go_sem] Oper.semAt_some

/-- append(s, x) of one struct that lies in a new block, in a fence -/
theorem wpListIn_append_rowL {F : Fence} {nF : Nat} {P : Program} (w : World) {ops : Array Oper} {rest : List Oper} {o : Oper} {a : Act} {Q : Exit → Act → World → Prop} (hgd : o.guard = none) (s x : Operand) (t : TypeId)
    (ho : o.op = .call { callee := .builtin .append, args := #[s, x], argTypes := #[t, t] })
    (e : TypeId) (i : TypeInfo) (z : Value) (size bytes : Nat) (ht : P.underlying t = some (.slice e)) (hi : P.info? e = some i) (hz : i.zero = some z) (hsize : i.size = size) (hby : i.bytes = bytes) (hzs : z.cells.size = size) (hsz : 0 < size) (hb0 : 0 < bytes)
    (v : Value) (n : Nat) (xs : List Value) (hs : a.eval s = v) (hown : w.ownsRow 0 e size v n xs) (cs : Array Value) (hcs : cs.toList.length = size) (h1 : ∀ u ∈ cs.toList, u.oneCell' = true)
    {N : Nat} (hN : w.heap.size = N) (hx : a.eval x = .slice (some ⟨N, 0, none⟩) 1 1) (hbytes : (n + 1) * bytes ≤ 140737488355328)
    (h : ∀ v' w', w'.ownsRow 0 e size v' (n + 1) (xs ++ cs.toList) → (w.alloc (.cells cs e)).grownBy w' v.ownBlock → (v'.ownBlock = v.ownBlock ∨ v'.ownBlock = some (N + 1)) → wpListIn F nF P ops Q rest (a.put o.dst v') w') :
    wpListIn F nF P ops Q (o :: rest) a (w.alloc (.cells cs e)) := by
  subst hN
  have h64 : n + 1 ≤ (n + 1) * bytes := Nat.le_mul_of_pos_right _ hb0
  refine wpListIn_append_own_at _ hgd s x t ho 0 e i z size bytes ht hi hz hsize hby hzs hsz v n xs hs (hown.alloc _) ⟨w.heap.size, 0, none⟩ 1 1 cs.toList hx (by rw [hcs, Nat.one_mul]) (World.news_of_block (heap_alloc_new w _)) h1 (by simp only [maxLen]; omega) hbytes (Nat.zero_le _) ?_
  intro v' w' h2 h3 _ h5
  exact h v' w' h2 h3 (by simpa using h5)
theorem St.snocTk {S : Fp} {l : List Ass} {w0 w w' : World} [Stable (Sep l)] {v v' : Value} {X : List Tk} {x : Tk} (h : St S (OwA tkF 4 30 v X :: l) w0 w) (o : Obj)
    (ho : w'.ownsRow 0 30 4 v' (X.length + 1) (X.flatMap tkF ++ tkF x)) (hg : (w.alloc o).grownBy w' v.ownBlock) (ha : v'.ownBlock = v.ownBlock ∨ v'.ownBlock = some (w.heap.size + 1)) : St S (OwA tkF 4 30 v' (X ++ [x]) :: l) w0 w' :=
  (h.alloc o).grewOw (v' := v') (L' := X ++ [x]) (by simpa using ho) hg ha (by simp)
/-- what All answers: the tokens, the place, the error -/
noncomputable def lxA (l : Bs) : List Tk × Nat × Int := match (lxR l).2 with
  | none => ((lxR l).1, 0, 0)
  | some x => ([], x.1, x.2)
theorem lxA_ok {l : Bs} (h : (lxR l).2 = none) : lxA l = ((lxR l).1, 0, 0) := by unfold lxA; rw [h]
theorem lxA_no {l : Bs} {x : Nat × Int} (h : (lxR l).2 = some x) : lxA l = ([], x.1, x.2) := by unfold lxA; rw [h]
theorem lxA_few (l : Bs) : (lxA l).1.length ≤ 16777216 := by
  cases h : (lxR l).2 with
  | none => rw [lxA_ok h]; exact lxR_few l
  | some x => rw [lxA_no h]; exact Nat.zero_le _
def AllW (l : Bs) (w : World) (e : Ending) (w' : World) : Prop :=
  ∃ v, e = .returned (.tuple #[v, .int .i64 ((lxA l).2.1 : Int), .int .i64 (lxA l).2.2]) ∧ St Zf [OwA tkF 4 30 v (lxA l).1] w w'
theorem all_bad (s : ByteArray) (w : World) (hW : LxW w) (p : Nat) (E : Int) (h : (lxR (lS s)).2 = some (p, E)) :
    Calls Tryz.prog 10 #[.string s] w (AllW (lS s) w) := by
  have HC := Lib.hid (count_any s w hW)
  unfold CntW at HC
  rw [h] at HC
  unfold AllW
  rw [lxA_no h]
  have hE : (E != 0) = true := by rw [bne_iff_ne]; exact lxR_err h
  clear hW h
  go_enter Tryz.func10, Tryz.ntmps10
  go_wp2_with fail
  refine HC.out.mono ?_
  rintro e w1 ⟨rfl, hb1⟩
  have HB1 := Lib.hid hb1
  clear hb1
  go_wp2
  go_ret3
  exact ⟨_, rfl, ((St.start Zf w).below HB1.out).nilOw tkF 4 30⟩
/-- All's objects -/
def apl (N : Nat) (s : ByteArray) (i : Value × List Tk) : List Ass :=
  [BlkA N 26 #[i.1], OwA tkF 4 30 i.1 i.2, BlkA (N + 1) 9 #[.string s]]
instance stableApl {N : Nat} {s : ByteArray} {i : Value × List Tk} : Stable (Sep (apl N s i)) := by
  unfold apl
  infer_instance
def aplF (l : Bs) (pre : List Lx) (i : Value × List Tk) : Prop := i.2 = pre.map Lx.t ∧ ∃ r, evT (lxR l) = pre.map Lx.ev ++ r
set_option maxRecDepth 100000 in
set_option maxHeartbeats 1000000 in
theorem all_ok (s : ByteArray) (w : World) (hW : LxW w) (hno : (lxR (lS s)).2 = none) :
    Calls Tryz.prog 10 #[.string s] w (AllW (lS s) w) := by
  have HC := Lib.hid (count_any s w hW)
  unfold CntW at HC
  rw [hno] at HC
  unfold AllW
  rw [lxA_ok hno]
  have HEV : Hid (evT (lxR (lS s)) = (lxR (lS s)).1.map fun t => (t, 0)) := Lib.hid (by unfold evT; rw [hno, List.append_nil])
  obtain ⟨X0, hX0⟩ : ∃ X0, X0 = (lxR (lS s)).1 := ⟨_, rfl⟩
  have HFW : Hid (X0.length ≤ 16777216) := Lib.hid (by rw [hX0]; exact lxR_few _)
  have HG := Lib.hid fun w => Grow_any X0.length w HFW.out
  rw [← hX0] at HC HEV ⊢
  have HW := Lib.hid hW
  clear hW hno hX0
  refine (callsIn_wide (n := 10)).1 ?_
  refine callsIn_of_wp_marks Tryz.func10 rfl trivial ?_ rfl
  simp only [Tryz.ntmps10, List.size_toArray, List.length_cons, List.length_nil, Nat.reduceAdd, Nat.reduceSub, Array.replicate_succ, Array.replicate_zero, List.push_toArray, List.append_toArray, List.nil_append, List.cons_append]
  gi_wp2_with fail
  refine ⟨trivial, (callsIn_wide.2 HC.out).mono ?_⟩
  rintro e wc ⟨rfl, hb1⟩
  have HB1 := Lib.hid hb1
  clear hb1 HC
  gi_wp2_with fail
  refine ⟨trivial, (callsIn_wide.2 (HG.out _)).mono ?_⟩
  rintro e wg ⟨v0, rfl, hg⟩
  obtain ⟨A0, cp0, hv0, -⟩ := hg.owForm
  have hS : St Zf [OwA tkF 4 30 v0 []] w wg := (St.addStL ((St.start Zf w).below HB1.out) hg)
  have hS1 := hS.newBlk 26 #[v0]
  clear hg HG
  subst hv0
  simp only [List.length_nil] at hS1
  gi_wp2_with fail
  refine ⟨trivial, (callsIn_wide.2 (Scan_any _ _)).mono ?_⟩
  rintro e w1 ⟨rfl, hw1⟩
  have hS2 := hS1.newBlk 9 #[.string s]
  rw [hw1] at hS2
  simp only [World.size_alloc] at hS2 hw1 ⊢
  obtain ⟨N, hN⟩ : ∃ N, N = wg.heap.size := ⟨_, rfl⟩
  rw [← hN] at hS2 ⊢
  have HS := Lib.hid hS2
  clear hS2 hS1 hS hN hw1
  gi_wp2_with fail
  have hEA : ∀ o pre V, (∃ i, aplF (lS s) pre i ∧ St Zf (RecA (w1.heap.size + 1) w1.heap.size o :: LentO s pre.getLast? :: apl N s i) w V) → TxL (N + 1) s V := by
    rintro o pre V ⟨i, -, h⟩
    have hbk : Blk V (N + 1) 9 #[.string s] := h.drop.drop.drop.drop.blk
    exact ⟨by rw [hbk.cell 0]; rfl, hbk.lt, HW.out.below h.bel (Nat.le_refl _)⟩
  refine wpIn_rangeV rfl (gf := 7) (lb := #[.pointer (some ⟨N + 1, 0, none⟩)]) rfl (enters_of Tryz.func7 (by kernel_rfl) rfl) (encs := Lx.enc) (fun _ => rfl)
    (scan_seq (N + 1) s)
    (fun o pre W => ∃ i, aplF (lS s) pre i ∧ St Zf (RecA (w1.heap.size + 1) w1.heap.size o :: LentO s pre.getLast? :: apl N s i) w W)
    (fun o pre x W => ∃ i : Value × List Tk, (aplF (lS s) pre i ∧ (∃ r, evT (lxR (lS s)) = pre.map Lx.ev ++ x.ev :: r)) ∧
      St Zf (RecA (w1.heap.size + 1) w1.heap.size o :: LenA s x :: apl N s i) w W)
    (fun o pre x a W => ∃ i : (Value × List Tk) × Nat, (aplF (lS s) pre i.1 ∧ (∃ r, evT (lxR (lS s)) = pre.map Lx.ev ++ x.ev :: r) ∧
        a = { tmps := #[.string s, undef, .slice none 0 0, .int .i64 0, .int .i64 0, .int .i64 X0.length, .int .i64 0, .int .i64 0, .pointer (some ⟨N, 0, none⟩), .pointer (some ⟨i.2, 0, none⟩),
          .tuple #[.int .i64 X0.length, .int .i64 0, .int .i64 0], .string s, .tuple #[.int .i64 X0.length, .int .i64 0, .int .i64 0], .int .i64 X0.length, .int .i64 0, .int .i64 0, .int .i64 0, .bool false, undef, undef, .int .i64 X0.length, .slice A0 0 cp0, .string s,
          .func (.func 7) #[] #[.pointer (some ⟨N + 1, 0, none⟩)], tkV x.t, .int .i64 x.e, undef, undef, undef, undef, undef], defers := [] }) ∧
      St Zf (RecA (w1.heap.size + 1) w1.heap.size o :: BlkA i.2 30 (tkC x.t) :: LenA s x :: apl N s i.1) w W)
    (fun cd o pre W => ∃ i : Nat, False ∧ St Zf [RecA (w1.heap.size + 1) w1.heap.size o] w W)
    (fun o pre x W => ∃ i : Value × List Tk, aplF (lS s) (pre ++ [x]) i ∧ St Zf (RecA (w1.heap.size + 1) w1.heap.size o :: LenA s x :: apl N s i) w W)
    (fun o xs W => ∃ i : Value × List Tk, i.2 = X0 ∧ St Zf (RecA (w1.heap.size + 1) w1.heap.size o :: apl N s i) w W)
    ?bI ?bM ?bN ?bX ?bR ?bZ hEA ?hY ?hR ?hT ?h0 ?assign ?body ?done ?stop
  case hY =>
    rintro o pre x V V1 ⟨i, hf, h⟩ hy
    exact ⟨i, ⟨hf, hy.2.2⟩, (lent_turnL h.swap hy).swap⟩
  case bI => exact fun pre => bears_ex (g := fun i : Value × List Tk => LentO s pre.getLast? :: apl N s i)
  case bM => exact fun pre x => bears_ex (g := fun i : Value × List Tk => LenA s x :: apl N s i)
  case bN => exact fun pre x a => bears_ex (g := fun i : (Value × List Tk) × Nat => BlkA i.2 30 (tkC x.t) :: LenA s x :: apl N s i.1)
  case bX => exact fun c pre => bears_ex (g := fun i : Nat => [])
  case bR => exact fun pre x => bears_ex (g := fun i : Value × List Tk => LenA s x :: apl N s i)
  case bZ => exact fun pre => bears_ex (g := fun i : Value × List Tk => apl N s i)
  case hR =>
    rintro o pre x V ⟨i, hf, h⟩
    have e : (pre ++ [x]).getLast? = some x := by simp
    refine ⟨⟨i, hf, ?_⟩, lx_keeps h.swap⟩
    rw [e]
    exact h
  case hT =>
    rintro o xs V W ⟨i, ⟨h1, h2⟩, h⟩ ht
    refine ⟨i, ?_, lent_end h.swap ht⟩
    have h3 := ht.evs.trans HEV.out
    have h4 := congrArg (List.map Prod.fst) h3
    rw [List.map_map, List.map_map] at h4
    rw [h1]
    have e1 : (Prod.fst ∘ fun t : Tk => (t, (0 : Int))) = id := rfl
    rw [e1, List.map_id] at h4
    exact h4
  case h0 =>
    intro o
    refine ⟨(.slice A0 0 cp0, []), ⟨rfl, ⟨_, rfl⟩⟩, ?_⟩
    exact ((HS.out.bring2.bring2).nilSep).recNew o
  case assign =>
    rintro o pre x W ⟨i, ⟨hf, hx⟩, h⟩
    have HH := Lib.hid h
    clear h
    simp only [Lx.enc, tkV, tkC]
    gi_wp2
    exact ⟨(i, W.heap.size), ⟨hf, hx, rfl⟩, (HH.out.newBlk 30 (tkC x.t)).swap⟩
  case body =>
    rintro o pre x a W ⟨⟨⟨v, X⟩, M⟩, ⟨⟨hf1, r0, hf3⟩, ⟨r, hr⟩, rfl⟩, h⟩
    have HH := Lib.hid h
    have hgm : Blk W M 30 (tkC x.t) := h.drop.blk
    have hg8 : Blk W N 26 #[v] := h.drop.drop.drop.blk
    have c8 : W.cell? ⟨N, 0, none⟩ = some v := by rw [hg8.cell 0]; rfl
    have m0 : W.cell? ⟨M, 0, none⟩ = some (.int .i64 x.t.k) := by rw [hgm.cell 0]; rfl
    have m1 : W.cell? ⟨M, 1, none⟩ = some (.string (mkS x.t.t)) := by rw [hgm.cell 1]; rfl
    have m2 : W.cell? ⟨M, 2, none⟩ = some (.int .i64 x.t.n) := by rw [hgm.cell 2]; rfl
    have m3 : W.cell? ⟨M, 3, none⟩ = some (.int .i64 (x.t.p : Int)) := by rw [hgm.cell 3]; rfl
    have f8 := hg8.frozen 0
    have hq2 : (X.length + 1) * 40 ≤ 140737488355328 := by
      have h1 := congrArg List.length hf3
      rw [HEV.out, List.length_append, List.length_map, List.length_map] at h1
      have h2 := congrArg List.length hf1
      rw [List.length_map] at h2
      have h4 : X.length = pre.length := h2
      have h3 := HFW.out
      omega
    obtain ⟨i0, z0, hi0, hz0, hz1, hz2, hz3⟩ := row_info tk_info
    have hfs : St Zf (OwA tkF 4 30 v X :: _) w W := HH.out.swap.drop.bring3
    have hrow := hfs.ow
    have HFS := Lib.hid hfs
    have HPR : Hid (∀ u, aplF (lS s) (pre ++ [x]) (u, X ++ [x.t])) := Lib.hid (by
      refine fun u => ⟨?_, ⟨r, ?_⟩⟩
      · have h1 : X = pre.map Lx.t := hf1
        rw [List.map_append, h1]
        rfl
      · rw [hr, List.map_append, List.append_assoc]
        rfl)
    have HROW := Lib.hid hrow
    clear h hgm hg8 hfs hf1 hf3 hr hrow
    gi_wp2_with (gi_at_builtin; refine wpListIn_append_rowL W rfl _ _ 26 rfl 30 i0 z0 4 40 Tryz.underlying26 hi0 hz0 hz1 hz2 hz3 (by decide) (by decide) v X.length _ rfl HROW.out #[.int .i64 x.t.k, .string (mkS x.t.t), .int .i64 x.t.n, .int .i64 (x.t.p : Int)] rfl (tkF_row.one x.t) rfl rfl hq2 ?_; intro v' w' ho hg ha; obtain ⟨g', cp', rfl⟩ := ownsRow_succ ho; have hs := HFS.out.snocTk (x := x.t) _ ho hg ha; have hb4 := hs.bring3.blk; have k4 : w'.cell? ⟨N, 0, none⟩ = some v := (by rw [hb4.cell 0]; rfl); have l4 := hb4.frozen 0; have HS2 := Lib.hid hs; clear hs hb4 ho hg ha)
    have h9 := ((HS2.out.bring3.setBlk 0 (.slice (some ⟨g', 0, none⟩) (X.length + 1) cp')).bring3).bring3
    exact ⟨.slice (some ⟨g', 0, none⟩) (X.length + 1) cp', X ++ [x.t], HPR.out _, h9⟩
  case done =>
    rintro o xs W ⟨⟨v, X⟩, hx, h⟩
    have hx' : X = X0 := hx
    subst hx'
    have hg8 : Blk W N 26 #[v] := h.drop.blk
    have c8 : W.cell? ⟨N, 0, none⟩ = some v := by rw [hg8.cell 0]; rfl
    have HE := Lib.hid h
    clear h hg8 hx
    gi_wp2
    refine ⟨by simp, .inl ⟨_, _, rfl, run_takeDeferred HE.out.recAt.2.1, ?_⟩⟩
    have h3 := HE.out.recEnd (.deferred none)
    exact ⟨_, results_tmp3 rfl _ _ _, v, rfl, h3.drop.swap.drop⟩
  case stop =>
    rintro o cd pre W _ ⟨i, hf, h⟩
    exact hf.elim
end Go.Proofs.YthmgkjfohkadoaaGreatDoor

/- recfile: the document's Get and Put. -/
import Derived.Test.YtcclcecjidlojaaDoorRfD1
import Derived.Deep.LoopGhost
import Derived.Deep.MidRow
namespace Go.Proofs.YtcclcecjidlojaaDoor
open Go.RowKit
set_option linter.unusedVariables false
set_option linter.unusedSimpArgs false
theorem rec_info : (Tryd.prog.info? 82).map (fun i => (i.zero.map (·.cells.size), i.size, i.bytes)) = some (some 2, 2, 32) := by kernel_rfl
theorem rec_size : (Tryd.prog.info? 82).map (·.size) = some 2 := by kernel_rfl
section
variable {S0 : Fp} {l : List Ass} {w0 w : World} {g : Nat} {K V S : Int} {L : List Rc}
/-- what Get answers -/
def getL (L : List Rc) (id : Int) : List Nat := if usedL L id = true then (nthD L id.toNat).data else []
def getE (L : List Rc) (id : Int) : Int := if usedL L id = true then 0 else 3
set_option maxRecDepth 100000 in
set_option maxHeartbeats 800000 in
theorem refGet_st [Stable (Sep l)] (h : St S0 (DfA g K V S L :: l) w0 w) (hl : L.length ≤ 1099511627776) (id : Int) (hd : ∀ r ∈ L, r.data.length ≤ 1000) :
    Calls Tryd.prog 55 #[.pointer (some ⟨g, 0, none⟩), .int .i64 id] w fun e w' => ∃ x, e = .returned (.tuple #[x, .int .i64 (getE L id)]) ∧ St S0 (ObA 5 x (getL L id) :: DfA g K V S L :: l) w0 w' := by
  obtain ⟨A, cap, X, hm, hr⟩ := df_read h
  have HU := Lib.hid (refUsed_any hr hm hl id)
  have HH := Lib.hid h
  cases hu : usedL L id
  · have hg : getL L id = [] := by unfold getL; rw [if_neg (by rw [hu]; decide)]
    have he : getE L id = 3 := by unfold getE; rw [if_neg (by rw [hu]; decide)]
    rw [hg, he]
    rw [hu] at HU
    clear h hr hm hl hu hg he hd
    go_enter Tryd.func55, Tryd.ntmps55
    go_wp2_with (go_at_call 59; refine (HU.out).mono ?_; rintro e w1 ⟨rfl, rfl⟩)
    go_ret2
    exact ⟨_, rfl, HH.out.newNilB _ rfl⟩
  · obtain ⟨k, rfl, hk, hku⟩ := usedL_nat hu
    have hlen := mapLen hm
    have hg : getL L (k : Int) = (nthD L k).data := by unfold getL; rw [if_pos hu]; rfl
    have he : getE L (k : Int) = 0 := by unfold getE; rw [if_pos hu]
    rw [hu] at HU
    obtain ⟨b, off, hA, hc⟩ := hr.at_ (by omega)
    have hc1 := (hc k (by omega)).2
    obtain ⟨c0, c1, c2, c3⟩ := hr.1
    have hq := hr.2.2.2 (nthD X k) (by rw [nthD_lt (by omega)]; exact List.getElem_mem _)
    have hD := nthD_map hm (k := k) (by omega)
    rw [hD] at hc1 hq
    have hdl := hd (nthD L k) (by rw [nthD_lt hk]; exact List.getElem_mem hk)
    obtain ⟨D, hDe⟩ : ∃ D, D = (nthD L k).data := ⟨_, rfl⟩
    rw [← hDe] at hc1 hq hdl hg
    rw [hg, he]
    subst hA
    have HC := Lib.hid (Copy_any (nthD X k).A (nthD X k).c w.heap.size D w hq.1 (Nat.le_refl _) (by omega))
    obtain ⟨n, hn⟩ : ∃ n, n = X.length := ⟨_, rfl⟩
    rw [← hn] at c3
    have b2 : k < n := by omega
    clear h hr hm hl hu hku hk hlen hg he hd hc hq hD hdl hDe hn
    go_enter Tryd.func55, Tryd.ntmps55
    go_wp2_with (first
      | (go_at_call 59; refine (HU.out).mono ?_; rintro e w1 ⟨rfl, rfl⟩)
      | (go_at_call 53; refine (HC.out).mono ?_; rintro e w2 ⟨v2, rfl, ho2, hb2⟩; have H2 := Lib.hid (HH.out.newOb ho2 hb2); clear ho2 hb2))
    go_ret2
    exact ⟨_, rfl, H2.out⟩
set_option maxHeartbeats 400000 in
theorem refPut_err {s : Nat} {id : Int} {A' : Option Addr} {m cap' : Nat} (h : St S0 (DfA g K V (s : Int) L :: l) w0 w) (hs : 2 ≤ s) (hs2 : s ≤ 255) (he : putErr s id m ≠ 0) :
    Calls Tryd.prog 34 #[.pointer (some ⟨g, 0, none⟩), .int .i64 id, .slice A' m cap'] w fun e w' => e = .returned (.int .i64 (putErr s id m)) ∧ w = w' := by
  obtain ⟨A, cap, X, hm, hr⟩ := df_read h
  obtain ⟨c0, c1, c2, c3⟩ := hr.1
  unfold putErr at he ⊢
  by_cases h0 : id < 0
  · rw [if_pos (.inl h0)]
    have e0 : decide (id < 0) = true := decide_eq_true h0
    clear he h hr hm hs hs2 h0 c0 c1 c3
    go_enter Tryd.func34, Tryd.ntmps34
    go_wp2
    go_ret
    exact ⟨rfl, rfl⟩
  · by_cases h2 : 65536 ≤ id
    · rw [if_pos (.inr h2)]
      have e0 : decide (id < 0) = false := decide_eq_false h0
      have e1 : decide (65536 ≤ id) = true := decide_eq_true h2
      clear he h hr hm hs hs2 h0 h2 c0 c1 c3
      go_enter Tryd.func34, Tryd.ntmps34
      go_wp2
      go_ret
      exact ⟨rfl, rfl⟩
    · have hno : ¬ (id < 0 ∨ 65536 ≤ id) := by omega
      rw [if_neg hno] at he ⊢
      by_cases h3 : m + 1 = s
      · rw [if_pos h3] at he
        exact absurd rfl he
      · rw [if_neg h3]
        have e0 : decide (id < 0) = false := decide_eq_false h0
        have e1 : decide (65536 ≤ id) = false := decide_eq_false h2
        obtain ⟨y, hy⟩ : ∃ y : Int, (s : Int) - 1 = y := ⟨_, rfl⟩
        have hw : wrap64 y = y := rfwrap (by omega) (by omega)
        have e2 : ((m : Int) != y) = true := by
          have : (m : Int) ≠ y := by omega
          simp [this]
        clear he h hr hm hs hs2 h0 h2 h3 hno c0 c1 c3
        go_enter Tryd.func34, Tryd.ntmps34
        go_wp2
        go_ret
        exact ⟨rfl, rfl⟩
/-- L grown by j records that aren't in use -/
def growL (L : List Rc) (s j : Nat) : List Rc := L ++ List.replicate j (offR s)
theorem growL_len (L : List Rc) (s j : Nat) : (growL L s j).length = L.length + j := by simp [growL]
theorem growL_succ (L : List Rc) (s j : Nat) : growL L s (j + 1) = growL L s j ++ [offR s] := by unfold growL; rw [List.replicate_succ', List.append_assoc]
theorem poolStep2 {X : List Rq} {q : Rq} (h : St S0 (PoolA ((q.v, q.r.data) :: poolOf X) :: l) w0 w) : St S0 (PoolA (poolOf (X ++ [q])) :: l) w0 w :=
  h.subPool fun y hy => by
    unfold poolOf at hy
    rw [List.map_append] at hy
    rcases List.mem_append.1 hy with hy | hy
    · exact List.mem_cons_of_mem _ hy
    · simp only [List.map_cons, List.map_nil, List.mem_singleton] at hy
      subst hy
      exact List.mem_cons_self
/-- a struct stored at a step of a region that draws its order -/
theorem step_store_mid {P : Program} {ops : Array Oper} {o : Oper} {a : Act} {w : World} {K : Act → World → Prop} {Q : Exit → Act → World → Prop} {E : Prop} (hgd : o.guard = none) (ty : TypeId) (x y : Operand) (ho : o.op = .store ty x y)
    (b f : Nat) (cells : Array Value) (hx : a.eval x = .pointer (some ⟨b, f, none⟩)) (hy : a.eval y = .agg cells) (ht : w.there b f cells.size) (hi : (P.info? ty).map (·.size) = some cells.size) (h1 : cells.all (·.oneCell') = true)
    (h : K (a.put o.dst undef) (w.setCells b f cells.toList)) : if Region.wanted o (yielded ops a.tmps) = true then Oper.wp P o a w K Q else E := by
  have hw : Region.wanted o (yielded ops a.tmps) = true := by simp [Region.wanted, hgd]
  rw [if_pos hw]
  exact wp_store_mid ty x y ho b f cells hx hy ht hi h1 h
theorem poolSet {X : List Rq} {q : Rq} {id : Nat} (h : St S0 (PoolA ((q.v, q.r.data) :: poolOf X) :: l) w0 w) : St S0 (PoolA (poolOf (X.set id q)) :: l) w0 w :=
  h.subPool fun y hy => by
    obtain ⟨p, hp, rfl⟩ := List.mem_map.1 hy
    rcases List.mem_or_eq_of_mem_set hp with hp | rfl
    · exact List.mem_cons_of_mem _ (poolOf_mem hp)
    · exact List.mem_cons_self
theorem map_set {X : List Rq} (hm : X.map (·.r) = L) (q : Rq) (id : Nat) : (X.set id q).map (·.r) = L.set id q.r := by rw [List.map_set, hm]
/-- a record's cells, stored -/
theorem setDf {X : List Rq} {A A3 : Option Addr} {cap c3 id : Nat} {D : List Nat} {u : Bool} {N : Nat} [Stable (Sep l)] (hm : X.map (·.r) = L) (hid : id < X.length)
    (h : St S0 (ObA 5 (.slice A3 D.length c3) D :: BlkA g 67 #[.int .i64 K, .int .i64 V, .int .i64 S, .slice A N cap] :: OwA rcF 2 82 (.slice A N cap) X :: PoolA (poolOf X) :: l) w0 w) (hN : X.length = N) :
    ∃ b, A = some ⟨b, 0, none⟩ ∧ w.there b (id * 2) 2 ∧ St S0 (DfA g K V S (L.set id ⟨u, D⟩) :: l) w0 (w.setCells b (id * 2) [.bool u, .slice A3 D.length c3]) ∧
      (w.setCells b (id * 2) [.bool u, .slice A3 D.length c3]).cell? ⟨g, 3, none⟩ = some (.slice A N cap) := by
  obtain ⟨b, hA, ht, h2⟩ := h.bring2.storeRow rcF_row hN (k := id) (by omega) ⟨⟨u, D⟩, A3, c3⟩
  have h3 := h2.bring3.bring2
  refine ⟨b, hA, ht, df_shut (map_set hm ⟨⟨u, D⟩, A3, c3⟩ id) (v := .slice A N cap) ?_, (df_cells h2.bring2).2.2.2⟩
  exact (poolSet (q := ⟨⟨u, D⟩, A3, c3⟩) h3.intoPool).back2.swap
theorem putGrow [Stable (Sep l)] {s z n j cap c3 gg cap2 : Nat} {X : List Rq} {A A3 : Option Addr} {w3 w4 : World} (hoff : offR s = ⟨false, List.replicate z 0⟩) (hm : X.map (·.r) = growL L s j) (hn : n = X.length)
    (h3 : St S0 (ObA 5 (.slice A3 z c3) (List.replicate z 0) :: BlkA g 67 #[.int .i64 K, .int .i64 V, .int .i64 S, .slice A n cap] :: OwA rcF 2 82 (.slice A n cap) X :: PoolA (poolOf X) :: l) w0 w3)
    (hown : w4.ownsRow 0 82 2 (.slice (some ⟨gg, 0, none⟩) (n + 1) cap2) (n + 1) (X.flatMap rcF ++ #[.bool false, .slice A3 z c3].toList)) (hgrow : (w3.alloc (.cells #[.bool false, .slice A3 z c3] 82)).grownBy w4 (Value.slice A n cap).ownBlock) (hat : (Value.slice A n cap).ownBlock = some gg ∨ gg = w3.heap.size + 1) :
    St S0 (BlkA g 67 #[.int .i64 K, .int .i64 V, .int .i64 S, .slice A n cap] :: OwA rcF 2 82 (.slice (some ⟨gg, 0, none⟩) (n + 1) cap2) (X ++ [⟨offR s, A3, c3⟩]) :: ObA 5 (.slice A3 z c3) (List.replicate z 0) :: PoolA (poolOf X) :: l) w0 w4 ∧
      w4.frozen? ⟨g, 3, none⟩ = false ∧ St S0 (DfA g K V S (growL L s (j + 1)) :: l) w0 (w4.setCell ⟨g, 3, none⟩ (.slice (some ⟨gg, 0, none⟩) (n + 1) cap2)) := by
  have hq : rcF ⟨offR s, A3, c3⟩ = [.bool false, .slice A3 z c3] := by unfold rcF; rw [hoff]; simp
  have ha := (h3.alloc (.cells #[.bool false, .slice A3 z c3] 82)).bring2
  have h4 := (ha.grewOw (v' := .slice (some ⟨gg, 0, none⟩) (n + 1) cap2) (L' := X ++ [⟨offR s, A3, c3⟩]) (N := w3.heap.size + 1)
    (by rw [List.length_append, List.flatMap_append, List.flatMap_cons, List.flatMap_nil, hq, ← hn, List.append_nil]; exact hown) hgrow (hat.elim (fun e => .inl e.symm) fun e => .inr (congrArg some e)) (by simp)).bring2
  refine ⟨h4, h4.blk.frozen 3, ?_⟩
  have h7 := (h4.setBlk 3 (.slice (some ⟨gg, 0, none⟩) (n + 1) cap2)).bring3.bring3.intoPool
  have h8 := poolStep2 (q := ⟨offR s, A3, c3⟩) (by unfold Rq.v; rw [hoff]; simpa using h7)
  refine df_shut (X := X ++ [⟨offR s, A3, c3⟩]) ?_ h8.back2
  rw [List.map_append, hm, growL_succ]
  rfl
set_option maxRecDepth 100000 in
set_option maxHeartbeats 2000000 in
theorem refPut_ok [Stable (Sep l)] {s id : Nat} {A' : Option Addr} {cap' : Nat} {D : List Nat} (h : St S0 (DfA g K V (s : Int) L :: l) w0 w) (hs : 2 ≤ s) (hs2 : s ≤ 255) (hL : L.length ≤ 65536) (hid : id < 65536) (hDl : D.length + 1 = s)
    (hDo : ∀ L' w', St S0 (DfA g K V (s : Int) L' :: l) w0 w' → RB w' w'.heap.size A' D) :
    Calls Tryd.prog 34 #[.pointer (some ⟨g, 0, none⟩), .int .i64 (id : Int), .slice A' D.length cap'] w fun e w' => e = .returned (.int .i64 0) ∧ St S0 (DfA g K V (s : Int) (putL L s id D) :: l) w0 w' := by
  obtain ⟨i0, zz, hi, hz, hs0, hby, hzs⟩ := row_info rec_info
  obtain ⟨z, hse⟩ : ∃ z, s = z + 1 := ⟨s - 1, by omega⟩
  obtain ⟨A, cap, X0, hm0, hr0⟩ := df_read h
  obtain ⟨-, -, c2, -⟩ := hr0.1
  have e0 : decide ((id : Int) < 0) = false := decide_eq_false (by omega)
  have e1 : decide ((65536 : Int) ≤ (id : Int)) = false := decide_eq_false (by omega)
  have e1' : decide (65536 ≤ id) = false := decide_eq_false (by omega)
  have s1 : (1 : Int) ≤ (s : Int) := by omega
  have hw : wrap64 ((s : Int) - 1) = (D.length : Int) := by rw [rfwrap (by omega) (by omega)]; omega
  have HWI := Lib.hid (show IntKind.i64.wrap ((s : Int) - 1) = (z : Int) by rw [IntKind.wrap_i64]; omega)
  have HOFF : Hid (offR s = ⟨false, List.replicate z 0⟩) := Lib.hid (by unfold offR; rw [show s - 1 = z by omega])
  have HZB : Hid (z ≤ 1000) := Lib.hid (by omega)
  have HDB : Hid (D.length ≤ 140737488355328) := Lib.hid (by omega)
  have HH := Lib.hid h
  have HL := Lib.hid hL
  have HID := Lib.hid hid
  have HDO := Lib.hid hDo
  obtain ⟨n0, hn0⟩ : ∃ n, n = max L.length (id + 1) - L.length := ⟨_, rfl⟩
  have HN0 := Lib.hid hn0
  have hdl : ((D.length : Int) != (D.length : Int)) = false := by simp
  clear h hr0 hm0 hs hs2 hL hid hDl hDo hn0 hse
  go_enter Tryd.func34, Tryd.ntmps34
  go_wp2
  clear c2 hw hdl
  go_loopg [] n0 (fun k wr => ∃ j, k + (L.length + j) = max L.length (id + 1) ∧ St S0 (DfA g K V (s : Int) (growL L s j) :: l) w0 wr)
  case atStart => exact ⟨0, by have := HN0.out; omega, by unfold growL; rw [List.replicate_zero, List.append_nil]; exact HH.out⟩
  case round =>
    obtain ⟨j, hkj, hst⟩ := hrel
    obtain ⟨v, X, hm, h1⟩ := df_open hst
    obtain ⟨A, cap, rfl, hr⟩ := df_readX h1
    have hXl := mapLen hm
    rw [growL_len] at hXl
    obtain ⟨-, -, c2, c3⟩ := hr.1
    obtain ⟨n, hn⟩ : ∃ n, n = X.length := ⟨_, rfl⟩
    rw [← hn] at c3 h1
    by_cases hlt : n ≤ id
    · have hcn : decide (n ≤ id) = true := decide_eq_true hlt
      have H1d := Lib.hid h1.drew
      have HGK : Hid (0 < gk) := Lib.hid (by omega)
      have HJ : Hid (gk - 1 + (L.length + (j + 1)) = max L.length (id + 1)) := Lib.hid (by omega)
      have HBY : Hid ((n + 1) * 32 ≤ 140737488355328) := Lib.hid (by have := HID.out; omega)
      have HOWF := Lib.hid (fun (w3 : World) (A3 : Option Addr) (c3' : Nat) (h3 : St S0 (ObA 5 (.slice A3 z c3') (List.replicate z 0) :: BlkA g 67 #[.int .i64 K, .int .i64 V, .int .i64 (s : Int), .slice A n cap] :: OwA rcF 2 82 (.slice A n cap) X :: PoolA (poolOf X) :: l) w0 w3) => by
        have := h3.bring2.ow
        rw [← hn] at this
        exact this)
      have HFIN := Lib.hid (fun (A3 : Option Addr) (c3' gg cap2 : Nat) (w3 w4 : World) h3 hown hgrow hat => putGrow (S0 := S0) (l := l) (w0 := w0) (g := g) (K := K) (V := V) (S := (s : Int)) (cap := cap) (X := X) (A := A) (L := L) (s := s) (j := j) (A3 := A3) (c3 := c3') (gg := gg) (cap2 := cap2) (w3 := w3) (w4 := w4) HOFF.out hm hn h3 hown hgrow hat)
      have hwi := HWI.out
      clear hkj hst hm h1 hr hXl hn hlt
      go_upto_region 6 with fail
      refine wp_region_held_drew (S := (fun w' => w'.cell? ⟨g, 2, none⟩ = some (.int .i64 (s : Int)))) (by kernel_rfl) (by (try dsimp only); go_keep) (fun hHeld => ?_)
      refine wpAnyH_take (i := 0) (v := ?_) rfl (by kernel_rfl) (by kernel_rfl) (by kernel_rfl) (fun _ _ _ h => h) (Or.inl ⟨by rfl, ?_⟩) (by assumption) ?_
      rotate_left
      · (intro w hSw; (try dsimp only at hSw); go_simp; try with_reducible rfl)
      try simp only [Act.put, List.getElem_toArray, List.getElem_cons_zero, List.getElem_cons_succ, List.setIfInBounds_toArray, List.set_cons_zero, List.set_cons_succ]
      refine wpAnyH_take (i := 1) (v := ?_) rfl (by kernel_rfl) (by kernel_rfl) (by kernel_rfl) (fun _ _ _ h => h) (Or.inl ⟨by rfl, ?_⟩) (by assumption) ?_
      rotate_left
      · (intro w hSw; (try dsimp only at hSw); go_simp; try with_reducible rfl)
      try simp only [Act.put, List.getElem_toArray, List.getElem_cons_zero, List.getElem_cons_succ, List.setIfInBounds_toArray, List.set_cons_zero, List.set_cons_succ]
      refine wpAnyH_take (i := 2) (v := ?_) rfl (by kernel_rfl) (by kernel_rfl) (by kernel_rfl) (fun _ _ _ h => h) (Or.inl ⟨by rfl, ?_⟩) (by assumption) ?_
      rotate_left
      · (intro w hSw; (try dsimp only at hSw); go_simp; try with_reducible rfl)
      try simp only [Act.put, List.getElem_toArray, List.getElem_cons_zero, List.getElem_cons_succ, List.setIfInBounds_toArray, List.set_cons_zero, List.set_cons_succ]
      refine wpAnyH_take (i := 3) (v := ?_) rfl (by kernel_rfl) (by kernel_rfl) (by kernel_rfl) (fun _ _ _ h => h) (Or.inl ⟨by rfl, ?_⟩) (by assumption) ?_
      rotate_left
      · (intro w hSw; (try dsimp only at hSw); go_simp; try with_reducible rfl)
      try simp only [Act.put, List.getElem_toArray, List.getElem_cons_zero, List.getElem_cons_succ, List.setIfInBounds_toArray, List.set_cons_zero, List.set_cons_succ]
      refine wpAnyH_take (i := 5) (v := ?_) rfl (by kernel_rfl) (by kernel_rfl) (by kernel_rfl) (fun _ _ _ h => h) (Or.inl ⟨by rfl, ?_⟩) (by assumption) ?_
      rotate_left
      · (intro w hSw; (try dsimp only at hSw); go_simp; try with_reducible rfl)
      try simp only [Act.put, List.getElem_toArray, List.getElem_cons_zero, List.getElem_cons_succ, List.setIfInBounds_toArray, List.set_cons_zero, List.set_cons_succ]
      refine wpAnyH_take (i := 6) (v := ?_) rfl (by kernel_rfl) (by kernel_rfl) (by kernel_rfl) (fun _ _ _ h => h) (Or.inl ⟨by rfl, ?_⟩) (by assumption) ?_
      rotate_left
      · (intro w hSw; (try dsimp only at hSw); go_simp; try with_reducible rfl)
      try simp only [Act.put, List.getElem_toArray, List.getElem_cons_zero, List.getElem_cons_succ, List.setIfInBounds_toArray, List.set_cons_zero, List.set_cons_succ]
      refine wpAnyH_take (i := 7) (v := ?_) rfl (by kernel_rfl) (by kernel_rfl) (by kernel_rfl) (fun _ _ _ h => h) (Or.inl ⟨by rfl, ?_⟩) (by assumption) ?_
      rotate_left
      · (intro w hSw; (try dsimp only at hSw); go_simp; try with_reducible rfl)
      try simp only [Act.put, List.getElem_toArray, List.getElem_cons_zero, List.getElem_cons_succ, List.setIfInBounds_toArray, List.set_cons_zero, List.set_cons_succ]
      refine wpAnyH_take (i := 8) (v := ?_) rfl (by kernel_rfl) (by kernel_rfl) (by kernel_rfl) (fun _ _ _ h => h) (Or.inl ⟨by rfl, ?_⟩) (by assumption) ?_
      rotate_left
      · (intro w hSw; (try dsimp only at hSw); go_simp; try with_reducible rfl)
      try simp only [Act.put, List.getElem_toArray, List.getElem_cons_zero, List.getElem_cons_succ, List.setIfInBounds_toArray, List.set_cons_zero, List.set_cons_succ]
      refine wpAnyH_take (i := 9) (v := ?_) rfl (by kernel_rfl) (by kernel_rfl) (by kernel_rfl) (fun _ _ _ h => h) (Or.inl ⟨by rfl, ?_⟩) (by assumption) ?_
      rotate_left
      · (intro w hSw; (try dsimp only at hSw); go_simp; try with_reducible rfl)
      try simp only [Act.put, List.getElem_toArray, List.getElem_cons_zero, List.getElem_cons_succ, List.setIfInBounds_toArray, List.set_cons_zero, List.set_cons_succ]
      refine wpAnyH_ready (rs := [4, 10]) (by kernel_rfl) (by simp) ?_
      refine AllReadyH.cons rfl (fun K hK => ?_) ?_
      · go_simp
        refine hK.out _ _ (by (try dsimp only); go_keep) (fun hHeld => ?_)
        clear hK K
        try simp only [Act.put, List.getElem_toArray, List.getElem_cons_zero, List.getElem_cons_succ, List.setIfInBounds_toArray, List.set_cons_zero, List.set_cons_succ]
        refine wpAnyH_ready (rs := [10]) (by kernel_rfl) (by simp) ?_
        refine AllReadyH.cons rfl (fun K hK => ?_) AllReadyH.nil
        go_simp
        go_at_call 60
        refine (zeros_any z _ HZB.out).mono ?_
        rintro e w3 ⟨v3, rfl, ho3, hb3⟩
        obtain ⟨A3, c3, hv3, -, -, -, -⟩ := ho3.form
        rw [List.length_replicate] at hv3
        subst hv3
        have H3 := Lib.hid (H1d.out.newOb ho3 hb3)
        obtain ⟨-, -, y2, y3⟩ := df_cells H3.out.swap
        obtain ⟨-, -, z2, z3⟩ := df_cells (H3.out.alloc (.cells #[.bool false, .slice A3 z c3] 82)).swap
        clear ho3 hb3
        refine hK.out _ _ (by (try dsimp only); go_keep) (fun hHeld => ?_)
        clear hK K
        try simp only [Act.put, List.getElem_toArray, List.getElem_cons_zero, List.getElem_cons_succ, List.setIfInBounds_toArray, List.set_cons_zero, List.set_cons_succ]
        refine wpAnyH_take (i := 11) (v := ?_) rfl (by kernel_rfl) (by kernel_rfl) (by kernel_rfl) (fun _ _ _ h => h) (Or.inl ⟨by rfl, ?_⟩) (by assumption) ?_
        rotate_left
        · (intro w hSw; (try dsimp only at hSw); go_simp; try with_reducible rfl)
        try simp only [Act.put, List.getElem_toArray, List.getElem_cons_zero, List.getElem_cons_succ, List.setIfInBounds_toArray, List.set_cons_zero, List.set_cons_succ]
        refine wpAnyH_ready (rs := [12]) (by kernel_rfl) (by simp) ?_
        refine AllReadyH.cons rfl (fun K hK => ?_) AllReadyH.nil
        go_simp
        refine hK.out _ _ (by (try dsimp only); go_keep) (fun hHeld => ?_)
        clear hK K
        try simp only [Act.put, List.getElem_toArray, List.getElem_cons_zero, List.getElem_cons_succ, List.setIfInBounds_toArray, List.set_cons_zero, List.set_cons_succ]
        refine wpAnyH_ready (rs := [13]) (by kernel_rfl) (by simp) ?_
        refine AllReadyH.cons rfl (fun K hK => ?_) AllReadyH.nil
        refine step_append_row w3 (by rfl) _ _ _ (by rfl) 82 i0 zz 2 32 Tryd.underlying65 hi hz hs0 hby hzs (by omega) (by omega) _ n (X.flatMap rcF) (by rfl) (HOWF.out w3 A3 c3 H3.out) #[.bool false, .slice A3 z c3] (by rfl) (by intro u hu; simp only [List.mem_cons, List.not_mem_nil, or_false] at hu; rcases hu with rfl | rfl <;> rfl) (by rfl) HBY.out ?_
        intro gg cap2 w4 hown4 hgrow4 hat4 hltg4
        have H5a := HFIN.out A3 c3 gg cap2 w3 w4 H3.out hown4 hgrow4 hat4
        obtain ⟨H4, hf3, hfin⟩ := H5a
        have f3 := hf3
        have HFI := Lib.hid hfin
        have H4 := Lib.hid H4
        obtain ⟨-, -, y4, y5⟩ := df_cells H4.out
        obtain ⟨-, -, y6, y7⟩ := df_cells (H4.out.setBlk 3 (.slice (some ⟨gg, 0, none⟩) (n + 1) cap2))
        clear hown4 hgrow4 hat4 hltg4 hfin
        refine hK.out _ _ (by (try dsimp only); go_keep) (fun hHeld => ?_)
        clear hK K
        try simp only [Act.put, List.getElem_toArray, List.getElem_cons_zero, List.getElem_cons_succ, List.setIfInBounds_toArray, List.set_cons_zero, List.set_cons_succ]
        refine wpAnyH_take (i := 14) (v := ?_) rfl (by kernel_rfl) (by kernel_rfl) (by kernel_rfl) (fun _ _ _ h => h) (Or.inl ⟨by rfl, ?_⟩) (by assumption) ?_
        rotate_left
        · (intro w hSw; (try dsimp only at hSw); go_simp; try with_reducible rfl)
        try simp only [Act.put, List.getElem_toArray, List.getElem_cons_zero, List.getElem_cons_succ, List.setIfInBounds_toArray, List.set_cons_zero, List.set_cons_succ]
        refine wpAnyH_take (i := 15) (v := ?_) rfl (by kernel_rfl) (by kernel_rfl) (by kernel_rfl) (fun _ _ _ h => h) (Or.inl ⟨by rfl, ?_⟩) (by assumption) ?_
        rotate_left
        · (intro w hSw; (try dsimp only at hSw); go_simp; try with_reducible rfl)
        try simp only [Act.put, List.getElem_toArray, List.getElem_cons_zero, List.getElem_cons_succ, List.setIfInBounds_toArray, List.set_cons_zero, List.set_cons_succ]
        refine wpAnyH_ready (rs := [16]) (by kernel_rfl) (by simp) ?_
        refine AllReadyH.cons rfl (fun K hK => ?_) AllReadyH.nil
        go_simp
        refine hK.out _ _ (by (try dsimp only); go_keep) (fun hHeld => ?_)
        clear hK K
        try simp only [Act.put, List.getElem_toArray, List.getElem_cons_zero, List.getElem_cons_succ, List.setIfInBounds_toArray, List.set_cons_zero, List.set_cons_succ]
        refine wpAnyH_done (by kernel_rfl) ?_ _
        clear c2 hwi hcn
        go_wp2
        go_roundg (gk - 1)
        case measure => exact Nat.sub_lt HGK.out (by decide)
        case rel => exact ⟨j + 1, HJ.out, HFI.out⟩
      refine AllReadyH.cons rfl (fun K hK => ?_) AllReadyH.nil
      go_simp
      go_at_call 60
      refine (zeros_any z _ HZB.out).mono ?_
      rintro e w3 ⟨v3, rfl, ho3, hb3⟩
      obtain ⟨A3, c3, hv3, -, -, -, -⟩ := ho3.form
      rw [List.length_replicate] at hv3
      subst hv3
      have H3 := Lib.hid (H1d.out.newOb ho3 hb3)
      obtain ⟨-, -, y2, y3⟩ := df_cells H3.out.swap
      obtain ⟨-, -, z2, z3⟩ := df_cells (H3.out.alloc (.cells #[.bool false, .slice A3 z c3] 82)).swap
      clear ho3 hb3
      refine hK.out _ _ (by (try dsimp only); go_keep) (fun hHeld => ?_)
      clear hK K
      try simp only [Act.put, List.getElem_toArray, List.getElem_cons_zero, List.getElem_cons_succ, List.setIfInBounds_toArray, List.set_cons_zero, List.set_cons_succ]
      refine wpAnyH_take (i := 11) (v := ?_) rfl (by kernel_rfl) (by kernel_rfl) (by kernel_rfl) (fun _ _ _ h => h) (Or.inl ⟨by rfl, ?_⟩) (by assumption) ?_
      rotate_left
      · (intro w hSw; (try dsimp only at hSw); go_simp; try with_reducible rfl)
      try simp only [Act.put, List.getElem_toArray, List.getElem_cons_zero, List.getElem_cons_succ, List.setIfInBounds_toArray, List.set_cons_zero, List.set_cons_succ]
      refine wpAnyH_ready (rs := [4, 12]) (by kernel_rfl) (by simp) ?_
      refine AllReadyH.cons rfl (fun K hK => ?_) ?_
      · go_simp
        refine hK.out _ _ (by (try dsimp only); go_keep) (fun hHeld => ?_)
        clear hK K
        try simp only [Act.put, List.getElem_toArray, List.getElem_cons_zero, List.getElem_cons_succ, List.setIfInBounds_toArray, List.set_cons_zero, List.set_cons_succ]
        refine wpAnyH_ready (rs := [12]) (by kernel_rfl) (by simp) ?_
        refine AllReadyH.cons rfl (fun K hK => ?_) AllReadyH.nil
        go_simp
        refine hK.out _ _ (by (try dsimp only); go_keep) (fun hHeld => ?_)
        clear hK K
        try simp only [Act.put, List.getElem_toArray, List.getElem_cons_zero, List.getElem_cons_succ, List.setIfInBounds_toArray, List.set_cons_zero, List.set_cons_succ]
        refine wpAnyH_ready (rs := [13]) (by kernel_rfl) (by simp) ?_
        refine AllReadyH.cons rfl (fun K hK => ?_) AllReadyH.nil
        refine step_append_row w3 (by rfl) _ _ _ (by rfl) 82 i0 zz 2 32 Tryd.underlying65 hi hz hs0 hby hzs (by omega) (by omega) _ n (X.flatMap rcF) (by rfl) (HOWF.out w3 A3 c3 H3.out) #[.bool false, .slice A3 z c3] (by rfl) (by intro u hu; simp only [List.mem_cons, List.not_mem_nil, or_false] at hu; rcases hu with rfl | rfl <;> rfl) (by rfl) HBY.out ?_
        intro gg cap2 w4 hown4 hgrow4 hat4 hltg4
        have H5a := HFIN.out A3 c3 gg cap2 w3 w4 H3.out hown4 hgrow4 hat4
        obtain ⟨H4, hf3, hfin⟩ := H5a
        have f3 := hf3
        have HFI := Lib.hid hfin
        have H4 := Lib.hid H4
        obtain ⟨-, -, y4, y5⟩ := df_cells H4.out
        obtain ⟨-, -, y6, y7⟩ := df_cells (H4.out.setBlk 3 (.slice (some ⟨gg, 0, none⟩) (n + 1) cap2))
        clear hown4 hgrow4 hat4 hltg4 hfin
        refine hK.out _ _ (by (try dsimp only); go_keep) (fun hHeld => ?_)
        clear hK K
        try simp only [Act.put, List.getElem_toArray, List.getElem_cons_zero, List.getElem_cons_succ, List.setIfInBounds_toArray, List.set_cons_zero, List.set_cons_succ]
        refine wpAnyH_take (i := 14) (v := ?_) rfl (by kernel_rfl) (by kernel_rfl) (by kernel_rfl) (fun _ _ _ h => h) (Or.inl ⟨by rfl, ?_⟩) (by assumption) ?_
        rotate_left
        · (intro w hSw; (try dsimp only at hSw); go_simp; try with_reducible rfl)
        try simp only [Act.put, List.getElem_toArray, List.getElem_cons_zero, List.getElem_cons_succ, List.setIfInBounds_toArray, List.set_cons_zero, List.set_cons_succ]
        refine wpAnyH_take (i := 15) (v := ?_) rfl (by kernel_rfl) (by kernel_rfl) (by kernel_rfl) (fun _ _ _ h => h) (Or.inl ⟨by rfl, ?_⟩) (by assumption) ?_
        rotate_left
        · (intro w hSw; (try dsimp only at hSw); go_simp; try with_reducible rfl)
        try simp only [Act.put, List.getElem_toArray, List.getElem_cons_zero, List.getElem_cons_succ, List.setIfInBounds_toArray, List.set_cons_zero, List.set_cons_succ]
        refine wpAnyH_ready (rs := [16]) (by kernel_rfl) (by simp) ?_
        refine AllReadyH.cons rfl (fun K hK => ?_) AllReadyH.nil
        go_simp
        refine hK.out _ _ (by (try dsimp only); go_keep) (fun hHeld => ?_)
        clear hK K
        try simp only [Act.put, List.getElem_toArray, List.getElem_cons_zero, List.getElem_cons_succ, List.setIfInBounds_toArray, List.set_cons_zero, List.set_cons_succ]
        refine wpAnyH_done (by kernel_rfl) ?_ _
        clear c2 hwi hcn
        go_wp2
        go_roundg (gk - 1)
        case measure => exact Nat.sub_lt HGK.out (by decide)
        case rel => exact ⟨j + 1, HJ.out, HFI.out⟩
      refine AllReadyH.cons rfl (fun K hK => ?_) AllReadyH.nil
      go_simp
      refine hK.out _ _ (by (try dsimp only); go_keep) (fun hHeld => ?_)
      clear hK K
      try simp only [Act.put, List.getElem_toArray, List.getElem_cons_zero, List.getElem_cons_succ, List.setIfInBounds_toArray, List.set_cons_zero, List.set_cons_succ]
      refine wpAnyH_ready (rs := [4]) (by kernel_rfl) (by simp) ?_
      refine AllReadyH.cons rfl (fun K hK => ?_) AllReadyH.nil
      go_simp
      refine hK.out _ _ (by (try dsimp only); go_keep) (fun hHeld => ?_)
      clear hK K
      try simp only [Act.put, List.getElem_toArray, List.getElem_cons_zero, List.getElem_cons_succ, List.setIfInBounds_toArray, List.set_cons_zero, List.set_cons_succ]
      refine wpAnyH_ready (rs := [13]) (by kernel_rfl) (by simp) ?_
      refine AllReadyH.cons rfl (fun K hK => ?_) AllReadyH.nil
      refine step_append_row w3 (by rfl) _ _ _ (by rfl) 82 i0 zz 2 32 Tryd.underlying65 hi hz hs0 hby hzs (by omega) (by omega) _ n (X.flatMap rcF) (by rfl) (HOWF.out w3 A3 c3 H3.out) #[.bool false, .slice A3 z c3] (by rfl) (by intro u hu; simp only [List.mem_cons, List.not_mem_nil, or_false] at hu; rcases hu with rfl | rfl <;> rfl) (by rfl) HBY.out ?_
      intro gg cap2 w4 hown4 hgrow4 hat4 hltg4
      have H5a := HFIN.out A3 c3 gg cap2 w3 w4 H3.out hown4 hgrow4 hat4
      obtain ⟨H4, hf3, hfin⟩ := H5a
      have f3 := hf3
      have HFI := Lib.hid hfin
      have H4 := Lib.hid H4
      obtain ⟨-, -, y4, y5⟩ := df_cells H4.out
      obtain ⟨-, -, y6, y7⟩ := df_cells (H4.out.setBlk 3 (.slice (some ⟨gg, 0, none⟩) (n + 1) cap2))
      clear hown4 hgrow4 hat4 hltg4 hfin
      refine hK.out _ _ (by (try dsimp only); go_keep) (fun hHeld => ?_)
      clear hK K
      try simp only [Act.put, List.getElem_toArray, List.getElem_cons_zero, List.getElem_cons_succ, List.setIfInBounds_toArray, List.set_cons_zero, List.set_cons_succ]
      refine wpAnyH_take (i := 14) (v := ?_) rfl (by kernel_rfl) (by kernel_rfl) (by kernel_rfl) (fun _ _ _ h => h) (Or.inl ⟨by rfl, ?_⟩) (by assumption) ?_
      rotate_left
      · (intro w hSw; (try dsimp only at hSw); go_simp; try with_reducible rfl)
      try simp only [Act.put, List.getElem_toArray, List.getElem_cons_zero, List.getElem_cons_succ, List.setIfInBounds_toArray, List.set_cons_zero, List.set_cons_succ]
      refine wpAnyH_take (i := 15) (v := ?_) rfl (by kernel_rfl) (by kernel_rfl) (by kernel_rfl) (fun _ _ _ h => h) (Or.inl ⟨by rfl, ?_⟩) (by assumption) ?_
      rotate_left
      · (intro w hSw; (try dsimp only at hSw); go_simp; try with_reducible rfl)
      try simp only [Act.put, List.getElem_toArray, List.getElem_cons_zero, List.getElem_cons_succ, List.setIfInBounds_toArray, List.set_cons_zero, List.set_cons_succ]
      refine wpAnyH_ready (rs := [16]) (by kernel_rfl) (by simp) ?_
      refine AllReadyH.cons rfl (fun K hK => ?_) AllReadyH.nil
      go_simp
      refine hK.out _ _ (by (try dsimp only); go_keep) (fun hHeld => ?_)
      clear hK K
      try simp only [Act.put, List.getElem_toArray, List.getElem_cons_zero, List.getElem_cons_succ, List.setIfInBounds_toArray, List.set_cons_zero, List.set_cons_succ]
      refine wpAnyH_done (by kernel_rfl) ?_ _
      clear c2 hwi hcn
      go_wp2
      go_roundg (gk - 1)
      case measure => exact Nat.sub_lt HGK.out (by decide)
      case rel => exact ⟨j + 1, HJ.out, HFI.out⟩

    · have hcn : decide (n ≤ id) = false := decide_eq_false hlt
      have hids : id < n := by omega
      obtain ⟨b, hA, -⟩ := h1.swap.storeRow rcF_row hn.symm hids default
      subst hA
      have HM := Lib.hid hm
      have HIDN : Hid (id < X.length) := Lib.hid (by omega)
      have HN : Hid (X.length = n) := Lib.hid hn.symm
      have HEQ : Hid ((growL L s j).set id ⟨true, D⟩ = putL L s id D) := Lib.hid (by
        unfold putL grownL growL
        rw [show j = id + 1 - L.length by omega])
      have H1d := Lib.hid h1.drew
      have HDR := Lib.hid (HDO.out _ _ (df_shut hm h1.drew))
      clear hkj hst hm h1 hr hXl hn hlt
      go_upto_region 7 with fail
      refine wp_region_held_drew (S := (fun w' => w'.cell? ⟨g, 3, none⟩ = some (.slice (some ⟨b, 0, none⟩) n cap))) (by kernel_rfl) (by (try dsimp only); go_keep) (fun hHeld => ?_)
      refine wpAnyH_take (i := 0) (v := ?_) rfl (by kernel_rfl) (by kernel_rfl) (by kernel_rfl) (fun _ _ _ h => h) (Or.inl ⟨by rfl, ?_⟩) (by assumption) ?_
      rotate_left
      · (intro w hSw; (try dsimp only at hSw); go_simp; try with_reducible rfl)
      try simp only [Act.put, List.getElem_toArray, List.getElem_cons_zero, List.getElem_cons_succ, List.setIfInBounds_toArray, List.set_cons_zero, List.set_cons_succ]
      refine wpAnyH_take (i := 1) (v := ?_) rfl (by kernel_rfl) (by kernel_rfl) (by kernel_rfl) (fun _ _ _ h => h) (Or.inl ⟨by rfl, ?_⟩) (by assumption) ?_
      rotate_left
      · (intro w hSw; (try dsimp only at hSw); go_simp; try with_reducible rfl)
      try simp only [Act.put, List.getElem_toArray, List.getElem_cons_zero, List.getElem_cons_succ, List.setIfInBounds_toArray, List.set_cons_zero, List.set_cons_succ]
      refine wpAnyH_take (i := 2) (v := ?_) rfl (by kernel_rfl) (by kernel_rfl) (by kernel_rfl) (fun _ _ _ h => h) (Or.inl ⟨by rfl, ?_⟩) (by assumption) ?_
      rotate_left
      · (intro w hSw; (try dsimp only at hSw); go_simp; try with_reducible rfl)
      try simp only [Act.put, List.getElem_toArray, List.getElem_cons_zero, List.getElem_cons_succ, List.setIfInBounds_toArray, List.set_cons_zero, List.set_cons_succ]
      refine wpAnyH_take (i := 3) (v := ?_) rfl (by kernel_rfl) (by kernel_rfl) (by kernel_rfl) (fun _ _ _ h => h) (Or.inl ⟨by rfl, ?_⟩) (by assumption) ?_
      rotate_left
      · (intro w hSw; (try dsimp only at hSw); go_simp; try with_reducible rfl)
      try simp only [Act.put, List.getElem_toArray, List.getElem_cons_zero, List.getElem_cons_succ, List.setIfInBounds_toArray, List.set_cons_zero, List.set_cons_succ]
      refine wpAnyH_take (i := 4) (v := ?_) rfl (by kernel_rfl) (by kernel_rfl) (by kernel_rfl) (fun _ _ _ h => h) (Or.inl ⟨by rfl, ?_⟩) (by assumption) ?_
      rotate_left
      · (intro w hSw; (try dsimp only at hSw); go_simp; try with_reducible rfl)
      try simp only [Act.put, List.getElem_toArray, List.getElem_cons_zero, List.getElem_cons_succ, List.setIfInBounds_toArray, List.set_cons_zero, List.set_cons_succ]
      refine wpAnyH_take (i := 5) (v := ?_) rfl (by kernel_rfl) (by kernel_rfl) (by kernel_rfl) (fun _ _ _ h => h) (Or.inl ⟨by rfl, ?_⟩) (by assumption) ?_
      rotate_left
      · (intro w hSw; (try dsimp only at hSw); go_simp; try with_reducible rfl)
      try simp only [Act.put, List.getElem_toArray, List.getElem_cons_zero, List.getElem_cons_succ, List.setIfInBounds_toArray, List.set_cons_zero, List.set_cons_succ]
      refine wpAnyH_ready (rs := [6]) (by kernel_rfl) (by simp) ?_
      refine AllReadyH.cons rfl (fun K hK => ?_) AllReadyH.nil
      go_simp
      go_at_call 53
      refine (Copy_any A' cap' _ D _ HDR.out (Nat.le_refl _) HDB.out).mono ?_
      rintro e w3 ⟨v3, rfl, ho3, hb3⟩
      obtain ⟨A3, c3, hv3, -, -, -, -⟩ := ho3.form
      subst hv3
      have H3 := Lib.hid (H1d.out.newOb ho3 hb3)
      obtain ⟨-, -, y2, y3⟩ := df_cells H3.out.swap
      clear ho3 hb3
      refine hK.out _ _ (by (try dsimp only); go_keep) (fun hHeld => ?_)
      clear hK K
      try simp only [Act.put, List.getElem_toArray, List.getElem_cons_zero, List.getElem_cons_succ, List.setIfInBounds_toArray, List.set_cons_zero, List.set_cons_succ]
      refine wpAnyH_take (i := 7) (v := ?_) rfl (by kernel_rfl) (by kernel_rfl) (by kernel_rfl) (fun _ _ _ h => h) (Or.inl ⟨by rfl, ?_⟩) (by assumption) ?_
      rotate_left
      · (intro w hSw; (try dsimp only at hSw); go_simp; try with_reducible rfl)
      try simp only [Act.put, List.getElem_toArray, List.getElem_cons_zero, List.getElem_cons_succ, List.setIfInBounds_toArray, List.set_cons_zero, List.set_cons_succ]
      refine wpAnyH_take (i := 8) (v := ?_) rfl (by kernel_rfl) (by kernel_rfl) (by kernel_rfl) (fun _ _ _ h => h) (Or.inl ⟨by rfl, ?_⟩) (by assumption) ?_
      rotate_left
      · (intro w hSw; (try dsimp only at hSw); go_simp; try with_reducible rfl)
      try simp only [Act.put, List.getElem_toArray, List.getElem_cons_zero, List.getElem_cons_succ, List.setIfInBounds_toArray, List.set_cons_zero, List.set_cons_succ]
      refine wpAnyH_ready (rs := [9]) (by kernel_rfl) (by simp) ?_
      refine AllReadyH.cons rfl (fun K hK => ?_) AllReadyH.nil
      obtain ⟨b', hb', hth, hset, y9⟩ := setDf (u := true) HM.out HIDN.out H3.out HN.out
      obtain rfl : b = b' := by injection hb' with h; injection h
      have HSET := Lib.hid hset
      refine step_store_mid (by rfl) 82 _ _ (by rfl) b (id * 2) #[.bool true, .slice A3 D.length c3] (by rfl) (by rfl) hth rec_size (by rw [← Array.all_toList]; rfl) ?_
      clear hb' hth hset
      refine hK.out _ _ (by (try dsimp only); go_keep) (fun hHeld => ?_)
      clear hK K
      try simp only [Act.put, List.getElem_toArray, List.getElem_cons_zero, List.getElem_cons_succ, List.setIfInBounds_toArray, List.set_cons_zero, List.set_cons_succ]
      refine wpAnyH_done (by kernel_rfl) ?_ _
      clear c2 hcn
      go_wp2
      go_ret
      exact ⟨rfl, by rw [← HEQ.out]; exact HSET.out⟩

end
end Go.Proofs.YtcclcecjidlojaaDoor

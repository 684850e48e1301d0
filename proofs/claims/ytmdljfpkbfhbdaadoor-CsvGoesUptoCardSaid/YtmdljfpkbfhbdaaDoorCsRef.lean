/- csv: the document's SameRow, Same, Copy. -/
import Derived.Test.YtmdljfpkbfhbdaaDoorCsParse
import Derived.Deep.QuietTactic
import Derived.BigQuiet
import Derived.IntWalk
namespace Go.Proofs.YtmdljfpkbfhbdaaDoor
open Go.RowKit
set_option linter.unusedVariables false

def SameB (b : Bool) (w : World) (e : Ending) (w' : World) : Prop := e = .returned (.bool b) ∧ ∃ n, w' = w.drewN n
theorem str_inj {a b : ByteArray} (h : a.toList = b.toList) : a = b := by
  rw [ByteArray.toList_eq, ByteArray.toList_eq] at h
  cases a; cases b
  simp only at h
  rw [Array.toList_inj.1 h]
set_option maxHeartbeats 1000000 in
theorem SameRow_any (A A' : Option Addr) (cap cap' B B' : Nat) (xs ys : Rw) (w : World) (h : RL svl w B A xs) (h' : RL svl w B' A' ys) (hl : xs.length ≤ 140737488351232) (hl' : ys.length ≤ 140737488351232) :
    Calls Tryd.prog 19 #[.slice A xs.length cap, .slice A' ys.length cap'] w (SameB (decide (xs = ys)) w) := by
  by_cases h0 : xs.length = ys.length
  · have hb : ((xs.length : Int) != (ys.length : Int)) = false := by simp [h0]
    have H0 := Lib.hid h0
    have h1 : xs.length ≤ ys.length := by omega
    have h2 : ys.length ≤ xs.length := by omega
    clear h0
    go_enter Tryd.func19, Tryd.ntmps19
    go_wp2
    go_loopw [5] (fun i wr => ∃ k n : Nat, k ≤ xs.length ∧ i = .int .i64 k ∧ xs.take k = ys.take k ∧ wr = w.drewN n) (fun i _ => xs.length - (intOf i).toNat)
    case atStart => exact ⟨0, 0, Nat.zero_le _, rfl, rfl, rfl⟩
    case round =>
      obtain ⟨k, n, hk, rfl, heq, rfl⟩ := hrel
      by_cases hlt : k < xs.length
      · obtain ⟨b, off, rfl, _, hc⟩ := h.allS (by omega)
        obtain ⟨b', off', rfl, _, hc'⟩ := h'.allS (by omega)
        have q := hc k hlt
        have q' := hc' k (by omega)
        have hi0 : (0 : Int) ≤ (k : Int) := by omega
        have hi1 : (k : Int) < (xs.length : Int) := by omega
        have hi2 : (k : Int) < (ys.length : Int) := by omega
        clear hc hc'
        by_cases hne : nthS xs k = nthS ys k
        · have hb1 : ((nthS xs k).toList == (nthS ys k).toList) = true := by rw [hne]; exact beq_self_eq_true _
          have Hq : Hid (xs.take (k + 1) = ys.take (k + 1)) := Lib.hid (by rw [takeS_succ hlt, takeS_succ (by omega), heq, hne])
          clear heq hne
          go_wp2
          go_quiet (fail)
          go_wp2
          go_roundw
          case rel => exact ⟨k + 1, n + nq, by omega, by go_num, Hq.out, rfl⟩
          case measure => simp [intOf]; omega
        · have hb1 : ((nthS xs k).toList == (nthS ys k).toList) = false := by
            rw [beq_eq_false_iff_ne]; exact fun e => hne (str_inj e)
          have Hn : Hid (decide (xs = ys) = false) := Lib.hid (decide_eq_false (fun e => hne (by rw [e])))
          clear heq hne
          go_wp2
          go_quiet (fail)
          go_wp2
          go_ret
          exact ⟨ret_bool Hn.out.symm, n + nq, World.drewN_drewN _ _ _⟩
      · have Hn : Hid (decide (xs = ys) = true) := Lib.hid (decide_eq_true (by
          rw [List.take_of_length_le (by omega), List.take_of_length_le (by omega)] at heq; exact heq))
        clear heq
        go_wp2
        go_ret
        exact ⟨ret_bool Hn.out.symm, n, rfl⟩
  · have hb : ((xs.length : Int) != (ys.length : Int)) = true := by rw [bne_iff_ne]; omega
    have Hn : Hid (decide (xs = ys) = false) := Lib.hid (decide_eq_false (fun e => h0 (by rw [e])))
    clear h0
    go_enter Tryd.func19, Tryd.ntmps19
    go_wp2
    go_ret
    exact ⟨ret_bool Hn.out.symm, 0, rfl⟩
theorem quiet_draws {P : Program} {f : FuncId} {args : Array Value} {w : World} {a n : Nat} {v : Value}
    (h : Calls P f args (w.drewN (a + n)) fun e w' => e = .returned v ∧ ∃ m, w' = (w.drewN (a + n)).drewN m) :
    Calls P f args (w.drewN (a + n)) fun e w'' => e = .returned v ∧ ∃ m, w'' = w.drewN (a + m) :=
  h.mono fun _ _ ⟨he, m, hm⟩ => ⟨he, n + m, by rw [hm, World.drewN_drewN, Nat.add_assoc]⟩
set_option maxRecDepth 100000 in
set_option maxHeartbeats 1000000 in
theorem Same_any (A A' : Option Addr) (cap cap' B B' : Nat) (X Y : List Rq) (w : World) (h : RsR w B A X) (h' : RsR w B' A' Y) (hl : X.length ≤ 140737488351232) (hl' : Y.length ≤ 140737488351232)
    (hm : ∀ q ∈ X, q.L.length ≤ 140737488351232) (hm' : ∀ q ∈ Y, q.L.length ≤ 140737488351232) :
    Calls Tryd.prog 14 #[.slice A X.length cap, .slice A' Y.length cap'] w (SameB (decide (rowsOf X = rowsOf Y)) w) := by
  by_cases h0 : X.length = Y.length
  · have hb : ((X.length : Int) != (Y.length : Int)) = false := by simp [h0]
    have H0 := Lib.hid h0
    have h1 : X.length ≤ Y.length := by omega
    have h2 : Y.length ≤ X.length := by omega
    have HR := Lib.hid h
    have HR' := Lib.hid h'
    have HM := Lib.hid hm
    have HM' := Lib.hid hm'
    clear h0 h h' hm hm'
    go_enter Tryd.func14, Tryd.ntmps14
    go_wp2
    go_loopw [5] (fun i wr => ∃ k n : Nat, k ≤ X.length ∧ i = .int .i64 k ∧ Hid (rowsOf (X.take k) = rowsOf (Y.take k)) ∧ wr = w.drewN n) (fun i _ => X.length - (intOf i).toNat)
    case atStart => exact ⟨0, 0, Nat.zero_le _, rfl, Lib.hid rfl, rfl⟩
    case round =>
      obtain ⟨k, n, hk, rfl, heq, rfl⟩ := hrel
      by_cases hlt : k < X.length
      · obtain ⟨b, off, rfl, _, hc⟩ := HR.out.1.allD (by omega)
        obtain ⟨b', off', rfl, _, hc'⟩ := HR'.out.1.allD (by omega)
        have q := hc k hlt
        have q' := hc' k (by omega)
        have hi0 : (0 : Int) ≤ (k : Int) := by omega
        have hi1 : (k : Int) < (X.length : Int) := by omega
        have hi2 : (k : Int) < (Y.length : Int) := by omega
        have hlt' : k < Y.length := by omega
        obtain ⟨r1, r2, r3⟩ := HR.out.2 _ (nthD_mem hlt)
        obtain ⟨r1', r2', r3'⟩ := HR'.out.2 _ (nthD_mem hlt')
        have HC : Hid (∀ j, Calls Tryd.prog 19 #[(nthD X k).v, (nthD Y k).v] (w.drewN j) (SameB (decide ((nthD X k).L = (nthD Y k).L)) (w.drewN j))) := Lib.hid fun j =>
          SameRow_any _ _ _ _ B B' _ _ (w.drewN j) (r1.drewN j) (r1'.drewN j) (HM.out _ (nthD_mem hlt)) (HM'.out _ (nthD_mem hlt'))
        have HT : Hid (rowsOf (X.take (k + 1)) = rowsOf (X.take k) ++ [(nthD X k).L]) := Lib.hid (by rw [takeD_succ hlt]; simp)
        have HT' : Hid (rowsOf (Y.take (k + 1)) = rowsOf (Y.take k) ++ [(nthD Y k).L]) := Lib.hid (by rw [takeD_succ hlt']; simp)
        have HG : Hid ((rowsOf X)[k]? = some (nthD X k).L ∧ (rowsOf Y)[k]? = some (nthD Y k).L) := Lib.hid ⟨by rw [List.getElem?_map, nthD_get hlt]; rfl, by rw [List.getElem?_map, nthD_get hlt']; rfl⟩
        clear hc hc' r1 r1' r2 r2' r3 r3'
        generalize nthD X k = x at *
        generalize nthD Y k = y at *
        simp only [Rq.v] at q q' HC
        by_cases hne : x.L = y.L
        · rw [decide_eq_true hne] at HC
          have Hq : Hid (rowsOf (X.take (k + 1)) = rowsOf (Y.take (k + 1))) := Lib.hid (by rw [HT.out, HT'.out, heq.out, hne])
          clear hne
          go_wp2
          go_quiet ((go_at_call 19; exact quiet_draws (HC.out _)))
          go_wp2
          go_roundw
          case rel => exact ⟨k + 1, n + nq, by omega, by go_num, Hq, rfl⟩
          case measure => simp [intOf]; omega
        · rw [decide_eq_false hne] at HC
          have Hn : Hid (decide (rowsOf X = rowsOf Y) = false) := Lib.hid (decide_eq_false (fun e => hne (by
            have h1 := HG.out.1
            rw [e, HG.out.2] at h1
            exact (Option.some.inj h1).symm)))
          clear hne
          go_wp2
          go_quiet ((go_at_call 19; exact quiet_draws (HC.out _)))
          go_wp2
          go_ret
          exact ⟨ret_bool Hn.out.symm, n + nq, World.drewN_drewN _ _ _⟩
      · have Hn : Hid (decide (rowsOf X = rowsOf Y) = true) := Lib.hid (decide_eq_true (by
          have h := heq.out
          rw [List.take_of_length_le (by omega), List.take_of_length_le (by omega)] at h
          exact h))
        go_wp2
        go_ret
        exact ⟨ret_bool Hn.out.symm, n, rfl⟩
  · have hb : ((X.length : Int) != (Y.length : Int)) = true := by rw [bne_iff_ne]; omega
    have Hn : Hid (decide (rowsOf X = rowsOf Y) = false) := Lib.hid (decide_eq_false (fun e => h0 (by
      have := congrArg List.length e
      simpa using this)))
    clear h0
    go_enter Tryd.func14, Tryd.ntmps14
    go_wp2
    go_ret
    exact ⟨ret_bool Hn.out.symm, 0, rfl⟩
/-- one more row, out of a literal -/
theorem St.snocRws2 {S : Fp} {l : List Ass} {w0 w w' : World} [Stable (Sep l)] {v v' : Value} {X : List Rq} {q : Rq} (h : St S (RwsA v X :: rowA q :: l) w0 w)
    (ho : OL Rq.v w' 0 40 v' (X ++ [q])) (hg : w.grownBy w' v.ownBlock) (ha : v'.ownBlock = v.ownBlock ∨ v'.ownBlock = some (w.heap.size + 1)) : St S (RwsA v' (X ++ [q]) :: l) w0 w' := by
  have h1 : St S (OlA Rq.v 40 v X :: Sep (X.map rowA) :: rowA q :: l) w0 w := St.flat h
  have h2 := h1.grewOl (v' := v') (L' := X ++ [q]) ho hg ha (Nat.le_succ _)
  have h3 := (h2.back2.swap).snocSep.swap
  rw [show X.map rowA ++ [rowA q] = (X ++ [q]).map rowA by simp] at h3
  exact St.pack (l' := [_, _]) h3
set_option maxRecDepth 100000 in
set_option maxHeartbeats 1000000 in
theorem Copy_any (A : Option Addr) (c B : Nat) (X : List Rq) (w : World) (hr : RsR w B A X) (hB : B ≤ w.heap.size) (hl : X.length ≤ 1073741824) (hc : X.length ≤ c) (hm : ∀ q ∈ X, q.L.length ≤ 1073741824) :
    Calls Tryd.prog 11 #[.slice A X.length c] w fun e w' => ∃ A' c' Y, e = .returned (.slice A' Y.length c') ∧ rowsOf Y = rowsOf X ∧ St Zf [RwsA (.slice A' Y.length c') Y] w w' := by
  have HR := Lib.hid hr
  have HM := Lib.hid hm
  have HB := Lib.hid hB
  have H0 : Hid (St Zf [RwsA (.slice (some ⟨w.heap.size, 0, none⟩) 0 0) []] w (w.alloc (.cells #[] 40))) := Lib.hid (St.pack (l' := [_, _]) (((St.start Zf w).nilSep).newNil Rq.v 40 rfl))
  clear hr hm hB
  obtain ⟨j0, hj, hy0, hy1, hy2⟩ := info_parts str_info
  obtain ⟨i0, z0, hi0, hz0, hz1, hz2, hz3⟩ := row_info rws_info
  go_enter Tryd.func11, Tryd.ntmps11
  go_wp2
  go_loopw [3, 4] (fun v i wr => ∃ (k : Nat) (A' : Option Addr) (c' : Nat) (Y : List Rq), k ≤ X.length ∧ v = .slice A' Y.length c' ∧ i = .int .i64 k ∧ Hid (rowsOf Y = rowsOf (X.take k)) ∧ Hid (St Zf [RwsA (.slice A' Y.length c') Y] w wr)) (fun _ i _ => X.length - (intOf i).toNat)
  case atStart => exact ⟨0, some ⟨w.heap.size, 0, none⟩, 0, [], Nat.zero_le _, rfl, rfl, Lib.hid rfl, H0⟩
  case round =>
    obtain ⟨k, A', c', Y, hk, rfl, rfl, HY, HST⟩ := hrel
    clear H0
    by_cases hlt : k < X.length
    · have hrs := HR.out.below HST.out.bel HB.out
      obtain ⟨b, off, rfl, hb, hcell⟩ := hrs.1.allD (by omega)
      have q := hcell k hlt
      obtain ⟨r1, -, -⟩ := hrs.2 _ (nthD_mem hlt)
      have hml := HM.out _ (nthD_mem hlt)
      have HT : Hid (rowsOf (X.take (k + 1)) = rowsOf (X.take k) ++ [(nthD X k).L]) := Lib.hid (by rw [takeD_succ hlt]; simp)
      have hYl : Y.length = k := by
        have := congrArg List.length HY.out
        simp at this
        omega
      have hsz := HST.out.size
      generalize nthD X k = x at *
      obtain ⟨A1, c1, L1⟩ := x
      simp only [Rq.v] at q r1 hml HT
      have hblt := World.block_lt_of_cell? _ _ q
      have HN := Lib.hid (HST.out.newNil svl 9 rfl)
      have hrl : RL svl (wr.alloc (.cells #[] 9)) B A1 L1 := r1.alloc (Nat.le_trans HB.out hsz) _
      have HRL := Lib.hid hrl
      have hby1 : (([] : Rw).length + L1.length) * 16 ≤ 140737488355328 := by simp; omega
      have hby2 : (Y.length + 1) * 24 ≤ 140737488355328 := by omega
      clear hcell hrs r1 hml hsz hrl hYl
      go_wp2_with (first
        | (at_builtin; refine wpList_append_list _ rfl _ _ 40 rfl 0 9 j0 _ 16 Tryd.underlying40 hj hy0 hy1 hy2 rfl _ ([] : Rw) (by rfl) HN.out.ol A1 c1 B L1 L1.length rfl (by rfl) HRL.out hby1 (by omega) (Nat.zero_le _) ?_; intro v7 w7 hown7 hg7 hat7; have h7 := HN.out.grewOl hown7 hg7 hat7 (Nat.le_refl _); rw [List.nil_append] at hown7 h7; obtain ⟨A7, c7, rfl, -, -, -, -⟩ := hown7.form; have H7 := Lib.hid h7.swap; clear hown7 hg7 hat7 h7)
        | (at_builtin; refine wpList_append_elemN _ rfl _ _ 22 rfl 0 40 i0 z0 24 Tryd.underlying22 hi0 hz0 hz1 hz2 hz3 _ Y (by rfl) (St.flat H7.out).ol ⟨A7, c7, L1⟩ (rqv_ok _) _ rfl (by rfl) hby2 (by omega) (Nat.zero_le _) ?_; intro v8 w8 hown8 hg8 hat8; have h8 := St.snocRws2 (q := ⟨A7, c7, L1⟩) H7.out hown8 hg8 hat8; obtain ⟨Z, hZ⟩ : ∃ Z, Z = Y ++ [(⟨A7, c7, L1⟩ : Rq)] := ⟨_, rfl⟩; rw [← hZ] at hown8 h8; obtain ⟨A8, c8, rfl, -, -, -, -⟩ := hown8.form; have H8 := Lib.hid h8; have HZ := Lib.hid hZ; clear hown8 hg8 hat8 h8 hZ))
      have HZR : Hid (rowsOf Z = rowsOf (X.take (k + 1))) := Lib.hid (by
        rw [HZ.out, HT.out, ← HY.out]
        simp)
      go_wp2
      go_roundw
      case rel => exact ⟨k + 1, A8, c8, Z, by omega, rfl, by go_num, HZR, H8⟩
      case measure => simp [intOf]; omega
    · have HTK : Hid (X.take k = X) := Lib.hid (List.take_of_length_le (by omega))
      rw [HTK.out] at HY
      go_wp2
      go_ret
      exact ⟨A', c', Y, rfl, HY.out, HST.out⟩
end Go.Proofs.YtmdljfpkbfhbdaaDoor

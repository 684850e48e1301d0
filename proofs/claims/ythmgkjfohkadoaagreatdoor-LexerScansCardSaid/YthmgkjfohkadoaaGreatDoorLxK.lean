/- lexer: Scan as a sequence. -/
import Derived.Test.YthmgkjfohkadoaaGreatDoorLxJ
import Derived.Test.YthmgkjfohkadoaaGreatDoorRangeV
import Derived.Shelf.Abstract
import Derived.Shelf.RegionOpen
import Derived.WalkKit
import Derived.OwnWalkIn
import Derived.TacticsInMore
import Derived.LoopNIn
import Derived.LoopIn
namespace Go.Proofs.YthmgkjfohkadoaaGreatDoor
open Go.RowKit Go.Shelf
set_option linter.unusedVariables false
attribute [local go_sem] Oper.semAt_some

/-- what comes in a step: the token, the error, the scanner's block and place (none where there is no scanner) -/
structure Lx where
  t : Tk
  e : Int
  g : Nat
  q : Option Nat
def Lx.ev (x : Lx) : LEv := (x.t, x.e)
def Lx.enc (x : Lx) : Array Value := #[tkV x.t, .int .i64 x.e]
/-- what the sequence reads -/
def TxL (Bq : Nat) (s : ByteArray) (V : World) : Prop := V.cell? ⟨Bq, 0, none⟩ = some (.string s) ∧ Bq < V.heap.size ∧ LxW V
/-- the scanner that is lent -/
def LenA (s : ByteArray) (x : Lx) : Ass := match x.q with
  | none => Sep []
  | some q => ScA x.g s q
instance stableLen {s : ByteArray} {x : Lx} : Stable (LenA s x) := by
  unfold LenA
  cases x.q
  · exact stableNil
  · exact stableBlk
def Sl (pre : List Lx) (g : Nat) : Fp := if pre.length = 0 then Zf else fun k => k = g
def LxY (s : ByteArray) (pre : List Lx) (x : Lx) (V V1 : World) : Prop :=
  St (Sl pre x.g) [LenA s x] V V1 ∧ (∀ y, pre.getLast? = some y → y.g = x.g ∧ y.q ≠ none) ∧ (∃ r, evT (lxR (lS s)) = pre.map Lx.ev ++ x.ev :: r)
def LxKp (s : ByteArray) (x : Lx) (V : World) : Prop := match x.q with
  | none => True
  | some q => Blk V x.g 35 #[.string s, .int .i64 (q : Int)]
theorem St.takeL {g : Nat} {t : TypeId} {cs : Array Value} {w : World} (h : Blk w g t cs) : St (fun k => k = g) [BlkA g t cs] w w :=
  ⟨_, ⟨fun k => k = g, fun _ => False, ⟨h, rfl⟩, rfl, fun _ _ h => h, rfl⟩, Only.refl _ _, fun k hk => .inl (hk.elim id fun h => h.elim)⟩
/-- what the sequence leaves at its end -/
def LxT (s : ByteArray) (xs : List Lx) (V W : World) : Prop :=
  xs.map Lx.ev = evT (lxR (lS s)) ∧ (((∀ y, xs.getLast? = some y → y.q = none) ∧ Below V.heap.size V W) ∨ ∃ y q, xs.getLast? = some y ∧ y.q ≠ none ∧ St (fun k => k = y.g) [ScA y.g s q] V W)
theorem lx_step {l : Bs} {p q G : Nat} {c0 : Int} {c1 : ByteArray} {c2 c3 E : Int} (hlt : nxt l p < l.length) (h : TokQ (tokG (nxt l p) (l.drop (nxt l p))) c0 c1 c2 c3 E (nxt l p) q) :
    ∃ x : Lx, x.enc = #[.agg #[.int .i64 c0, .string c1, .int .i64 c2, .int .i64 c3], .int .i64 E] ∧ x.g = G ∧ x.q = some q ∧ x.e = E ∧ evT (toksG p (l.drop p)) = x.ev :: (if E = 0 then evT (toksG q (l.drop q)) else []) ∧ (E = 0 → nxt l p < q ∧ q ≤ l.length) := by
  cases hR : tokG (nxt l p) (l.drop (nxt l p)) with
  | error e =>
    rw [hR] at h
    obtain ⟨h1, h2⟩ := h
    have hne := tok_bad hR
    refine ⟨⟨tk0 e.1, e.2, G, some q⟩, ?_, rfl, rfl, h2.symm, ?_, fun h0 => absurd (h2.symm.trans h0) hne⟩
    · show #[Value.agg (tkC (tk0 e.1)), Value.int .i64 e.2] = _
      rw [h1, h2]
    · rw [ev_bad hlt hR, if_neg (by rw [h2]; exact hne)]
      rfl
  | ok x =>
    obtain ⟨t, n⟩ := x
    rw [hR] at h
    obtain ⟨h1, h2, h3⟩ := h
    obtain ⟨k1, k2, -⟩ := tok_len hR
    have h3' : q = nxt l p + n := h3
    rw [List.length_drop] at k2
    refine ⟨⟨t, 0, G, some q⟩, ?_, rfl, rfl, h2.symm, ?_, fun _ => by omega⟩
    · show #[Value.agg (tkC t), Value.int .i64 0] = _
      rw [h1, h2]
    · rw [ev_ok hlt hR, if_pos h2, h3']
      rfl
theorem St.none0 (S : Fp) (w : World) : St S [Sep []] w w :=
  ⟨fun _ => False, ⟨_, _, rfl, rfl, fun _ h => h.elim, by funext k; simp⟩, Only.refl _ _, fun _ h => h.elim⟩
set_option maxRecDepth 100000 in
set_option maxHeartbeats 1000000 in
theorem scan_seq (Bq : Nat) (s : ByteArray) :
    SeqV Tryz.prog 7 #[.pointer (some ⟨Bq, 0, none⟩)] Lx.enc (TxL Bq s) (LxY s) (LxKp s) (LxT s) (fun pre => ∃ r, evT (lxR (lS s)) = pre.map Lx.ev ++ r) := by
  intro l J Jx W hA hY h0
  obtain ⟨hc0, hBs, hLW⟩ := hA _ _ h0
  have HJ0 := Lib.hid h0
  have HLN : Hid ((lS s).length = s.size) := Lib.hid (lS_len s)
  by_cases hbig : 16777216 < s.size
  · have HR : Hid (evT (lxR (lS s)) = [(tk0 0, 1)]) := Lib.hid (by unfold lxR; rw [HLN.out, if_pos hbig]; rfl)
    obtain ⟨fn, tmps, assign, body, hy, hRd⟩ := hY [] ⟨tk0 0, 1, 0, none⟩ W W h0 ⟨St.none0 _ _, (fun y hy => nomatch hy), ⟨[], by rw [HR.out]; rfl⟩⟩
    have HRd := Lib.hid hRd
    have hxv : (⟨tk0 0, 1, 0, none⟩ : Lx).enc = #[.agg #[.int .i64 0, .string ⟨#[]⟩, .int .i64 0, .int .i64 0], .int .i64 1] := rfl
    rw [hxv] at hy
    have hbi : (16777216 : Int) < (s.size : Int) := by omega
    clear hRd h0 hY hA hLW
    refine callsIn_of_wp Tryz.func7 rfl trivial ?_ rfl
    simp only [Tryz.ntmps7, List.size_toArray, List.length_cons, List.length_nil, Nat.reduceAdd, Nat.reduceSub, Array.replicate_succ, Array.replicate_zero, List.push_toArray, List.append_toArray, List.nil_append, List.cons_append]
    gi_wp2_with fail
    refine HRd.out.mono ?_
    rintro e W' (⟨rfl, hJ', hK'⟩ | ⟨rfl, hJx'⟩)
    · have HJ' := Lib.hid hJ'
      clear hJ' hK' hy
      gi_wp2_with fail
      refine bodyPost_ret (results_none rfl _ _ _) rfl ?_
      exact ⟨⟨_, rfl⟩, .inl ⟨_, W', HJ'.out, by rw [HR.out]; rfl, .inl ⟨fun y hy => by cases hy; rfl, Below.refl _ _⟩⟩⟩
    · have HJ' := Lib.hid hJx'
      clear hJx' hy
      gi_wp2_with fail
      refine bodyPost_ret (results_none rfl _ _ _) rfl ?_
      exact ⟨⟨_, rfl⟩, .inr ⟨_, W', ⟨[], by rw [HR.out]; rfl⟩, HJ'.out, Below.refl _ _⟩⟩
  · have HY := Lib.hid hY
    have HA := Lib.hid hA
    have hs : s.size ≤ 16777216 := by omega
    have HHS := Lib.hid hs
    have HR : Hid (lxR (lS s) = toksG 0 (lS s)) := Lib.hid (by unfold lxR; rw [HLN.out, if_neg hbig])
    obtain ⟨G, hG⟩ : ∃ G, G = W.heap.size := ⟨_, rfl⟩
    have HG := Lib.hid hG
    have HST : Hid (St (Sl [] G) [ScA G s 0] W (W.alloc (.cells #[.string s, .int .i64 0] 35))) := Lib.hid (by
      rw [hG]
      exact (St.start (Sl [] W.heap.size) W).newBlk 35 #[.string s, .int .i64 0])
    have HK : Hid (LxK G (W.alloc (.cells #[.string s, .int .i64 0] 35))) := Lib.hid ((hLW.k (by omega)).below ((Below.refl _ _).alloc (Nat.le_refl _) _))
    have HTB : Hid (TB G) := Lib.hid (by rw [hG]; exact hLW.tb)
    have hbi : ¬ ((16777216 : Int) < (s.size : Int)) := by omega
    clear hY hA hG h0 hLW hbig
    refine callsIn_of_wp Tryz.func7 rfl trivial ?_ rfl
    simp only [Tryz.ntmps7, List.size_toArray, List.length_cons, List.length_nil, Nat.reduceAdd, Nat.reduceSub, Array.replicate_succ, Array.replicate_zero, List.push_toArray, List.append_toArray, List.nil_append, List.cons_append]
    gi_wp2
    rw [← HG.out]
    clear hc0 hBs hbi
    gi_loopw [4] (fun _ wr => ∃ (pre : List Lx) (p : Nat) (V : World), p ≤ s.size ∧ Hid (evT (lxR (lS s)) = pre.map Lx.ev ++ evT (toksG p ((lS s).drop p))) ∧ Hid (J pre V) ∧ Hid (St (Sl pre G) [ScA G s p] V wr) ∧ Hid (∀ y, pre.getLast? = some y → y.g = G ∧ y.q ≠ none) ∧ Hid (LxK G wr))
      (fun _ wr => s.size - atOf wr G)
    case atStart =>
      exact ⟨[], 0, W, Nat.zero_le _, Lib.hid (by rw [HR.out]; rfl), HJ0, HST, Lib.hid (fun y hy => by cases hy), HK⟩
    case round =>
      obtain ⟨pre, p, V, hp, HEV, HJ, HS, HLG, HLK⟩ := hrel
      clear HST HK HJ0
      have hat := atOf_of (sc_cells HS.out).2.1
      have HAT := Lib.hid hat
      clear hat
      have HF := Lib.hid (find_any G p s HS.out hp (by omega) HLK.out)
      obtain ⟨P, hP⟩ : ∃ P, P = nxt (lS s) p := ⟨_, rfl⟩
      have HPL : Hid (p ≤ P ∧ P ≤ s.size) := Lib.hid (by rw [hP]; have := nxt_le (l := lS s) (p := p) (by rw [HLN.out]; exact hp); rw [HLN.out] at this; exact this)
      rw [← hP] at HF
      have HP := Lib.hid hP
      clear hP
      by_cases hlt : P < s.size
      · have hd : decide (P < s.size) = true := decide_eq_true hlt
        rw [hd] at HF
        clear hd
        gi_wp2_with fail
        refine ⟨trivial, (callsIn_wide.2 HF.out).mono ?_⟩
        rintro e w1 ⟨rfl, h1, k1⟩
        have HT := Lib.hid (token_any G P s h1 hlt (by omega) k1)
        clear h1 k1 HF
        gi_wp2_with fail
        refine ⟨trivial, (callsIn_wide.2 HT.out).mono ?_⟩
        rintro e w2 h2
        obtain ⟨a0, a1, a2, a3, E, q, rfl, hq, h3, k3⟩ := h2.form
        rw [HP.out] at hq
        obtain ⟨x, hx1, hx2, hx3, hx4, hx5, hx6⟩ := lx_step (G := G) (by rw [← HP.out, HLN.out]; exact hlt) hq
        have hY1 := HY.out pre x V (w2.alloc (.cells #[.int .i64 a0, .string a1, .int .i64 a2, .int .i64 a3] 30)) HJ.out ⟨by unfold LenA; rw [hx3, hx2]; exact h3.alloc _, by rw [hx2]; exact HLG.out, ⟨_, by rw [HEV.out, hx5]⟩⟩
        obtain ⟨fn, tmps, assign, body, hy, hRd⟩ := hY1
        rw [hx1] at hy
        have HRd := Lib.hid hRd
        have HX2 := Lib.hid hx2
        have HX3 := Lib.hid hx3
        have HX5 := Lib.hid hx5
        have HX6 := Lib.hid hx6
        clear hRd hx1 hx2 hx3 hx4 hx5 hx6 h2 h3 k3 hq HT
        gi_wp2_with fail
        refine HRd.out.mono ?_
        rintro e W' (⟨rfl, hJ', hK'⟩ | ⟨rfl, hJx'⟩)
        · have hbk : Blk W' G 35 #[.string s, .int .i64 (q : Int)] := by
            have h := hK'
            unfold LxKp at h
            rw [HX3.out, HX2.out] at h
            exact h
          have HBK := Lib.hid hbk
          have HJ' := Lib.hid hJ'
          clear hbk hK' hJ' hy
          by_cases he : E = 0
          · have HEVN : Hid (evT (lxR (lS s)) = (pre ++ [x]).map Lx.ev ++ evT (toksG q ((lS s).drop q))) := Lib.hid (by
              rw [HEV.out, HX5.out, if_pos he, List.map_append, List.append_assoc]
              rfl)
            obtain ⟨q1, q2⟩ := HX6.out he
            have HQ : Hid (p < q ∧ q ≤ s.size) := Lib.hid (by rw [HLN.out] at q2; rw [← HP.out] at q1; have := HPL.out; omega)
            have HSN : Hid (St (Sl (pre ++ [x]) G) [ScA G s q] W' W') := Lib.hid (by
              have e : Sl (pre ++ [x]) G = fun k => k = G := by unfold Sl; rw [if_neg (by simp)]
              rw [e]
              exact St.takeL HBK.out)
            have HLGN : Hid (∀ y, (pre ++ [x]).getLast? = some y → y.g = G ∧ y.q ≠ none) := Lib.hid (by
              intro y hy
              rw [List.getLast?_append] at hy
              simp at hy
              rw [← hy, HX2.out, HX3.out]
              exact ⟨rfl, by simp⟩)
            have HKN : Hid (LxK G W') := Lib.hid ⟨(HA.out _ _ HJ'.out).2.2, HTB.out⟩
            subst he
            clear q1 q2
            gi_wp2_with fail
            refine ⟨⟨pre ++ [x], q, W', HQ.out.2, HEVN, HJ', HSN, HLGN, HKN⟩, ?_⟩
            rw [atOf_of (sc_cells HSN.out).2.1, HAT.out]
            have := HQ.out
            omega
          · have hEb : (E != 0) = true := by rw [bne_iff_ne]; exact he
            have HEVN : Hid ((pre ++ [x]).map Lx.ev = evT (lxR (lS s))) := Lib.hid (by
              rw [HEV.out, HX5.out, if_neg he, List.map_append]
              rfl)
            gi_wp2_with fail
            refine bodyPost_ret (results_none rfl _ _ _) rfl ?_
            refine ⟨⟨_, rfl⟩, .inl ⟨pre ++ [x], W', HJ'.out, HEVN.out, .inr ⟨x, q, by simp, by rw [HX3.out]; simp, ?_⟩⟩⟩
            rw [HX2.out]
            exact St.takeL HBK.out
        · have HEVN : Hid (∃ r, evT (lxR (lS s)) = (pre ++ [x]).map Lx.ev ++ r) := Lib.hid ⟨if E = 0 then evT (toksG q ((lS s).drop q)) else [], by
            rw [HEV.out, HX5.out, List.map_append, List.append_assoc]
            rfl⟩
          clear hy
          gi_wp2_with fail
          refine bodyPost_ret (results_none rfl _ _ _) rfl ?_
          exact ⟨⟨_, rfl⟩, .inr ⟨pre ++ [x], W', HEVN.out, hJx', Below.refl _ _⟩⟩
      · have hd : decide (P < s.size) = false := decide_eq_false hlt
        rw [hd] at HF
        clear hd
        gi_wp2_with fail
        refine ⟨trivial, (callsIn_wide.2 HF.out).mono ?_⟩
        rintro e w1 ⟨rfl, h1, k1⟩
        have H1 := Lib.hid h1
        have HEVN : Hid (pre.map Lx.ev = evT (lxR (lS s))) := Lib.hid (by rw [HEV.out, ev_end (by rw [← HP.out, HLN.out]; omega), List.append_nil])
        clear h1 k1 HF
        gi_wp2
        go_end0
        refine ⟨⟨_, rfl⟩, .inl ⟨pre, V, HJ.out, HEVN.out, ?_⟩⟩
        have h9 := H1.out
        cases hl : pre.getLast? with
        | none =>
          have hn : pre = [] := List.getLast?_eq_none_iff.1 hl
          subst hn
          exact .inl ⟨(fun y hy => nomatch hy), St.bel (l := [ScA G s P]) h9⟩
        | some y =>
          obtain ⟨h3, h4⟩ := HLG.out y hl
          refine .inr ⟨y, P, rfl, h4, ?_⟩
          have e : Sl pre G = fun k => k = y.g := by
            unfold Sl
            rw [if_neg, h3]
            intro h0
            rw [List.length_eq_zero_iff.1 h0] at hl
            cases hl
          rw [e] at h9
          rw [h3] at h9 ⊢
          exact h9
end Go.Proofs.YthmgkjfohkadoaaGreatDoor

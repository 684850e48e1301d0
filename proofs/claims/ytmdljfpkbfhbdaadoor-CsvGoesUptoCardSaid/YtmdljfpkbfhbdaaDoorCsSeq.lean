/- csv: Rows as a sequence. -/
import Derived.Test.YtmdljfpkbfhbdaaDoorCsRowB
import Derived.Test.YtmdljfpkbfhbdaaDoorRangeQ
import Derived.Shelf.Abstract
import Derived.Shelf.RegionOpen
import Derived.WalkKit
import Derived.OwnWalkIn
import Derived.TacticsInMore
import Derived.LoopNIn
import Derived.LoopIn
namespace Go.Proofs.YtmdljfpkbfhbdaaDoor
open Go.RowKit Go.Shelf
set_option linter.unusedVariables false
attribute [local go_sem] Oper.semAt_some

/-- what comes in a step: the event, where its row lies, the reader's block and what is left -/
structure Cx where
  row : Rw
  e : Int
  A : Option Addr
  c : Nat
  g : Nat
  rest : Bs
def Cx.ev (x : Cx) : Evc := (x.row, x.e)
def Cx.v (x : Cx) : Value := .slice x.A x.row.length x.c
def Cx.enc (x : Cx) : Array Value := #[.slice x.A x.row.length x.c, .int .i64 x.e]
/-- what the sequence reads -/
def TxA (Bs : Nat) (s : ByteArray) (V : World) : Prop := V.cell? ⟨Bs, 0, none⟩ = some (.string s) ∧ Bs < V.heap.size
theorem TxA.below {Bs : Nat} {s : ByteArray} {V W : World} (h : TxA Bs s V) (hb : Below V.heap.size V W) : TxA Bs s W :=
  ⟨(hb.cell (p := ⟨Bs, 0, none⟩) h.2).trans h.1, by have := hb.size; have := h.2; omega⟩
def Sx (pre : List Cx) (g : Nat) : Fp := if pre.length = 0 then Zf else fun k => k = g
def CsY (l : Bs) (pre : List Cx) (x : Cx) (V V1 : World) : Prop :=
  St (Sx pre x.g) [RdA x.g x.rest, OlA svl 9 x.v x.row] V V1 ∧ (∀ y, pre.getLast? = some y → y.g = x.g) ∧ (∃ r, evc l = pre.map Cx.ev ++ x.ev :: r) ∧ x.row.length ≤ l.length + 1
def CsK (x : Cx) (V : World) : Prop := Blk V x.g 51 #[.string (mkS x.rest)]
theorem St.take {g : Nat} {t : TypeId} {cs : Array Value} {w : World} (h : Blk w g t cs) : St (fun k => k = g) [BlkA g t cs] w w :=
  ⟨_, ⟨fun k => k = g, fun _ => False, ⟨h, rfl⟩, rfl, fun _ _ h => h, rfl⟩, Only.refl _ _, fun k hk => .inl (hk.elim id fun h => h.elim)⟩
def strAt (w : World) (g : Nat) : Nat := match w.cell? ⟨g, 0, none⟩ with
  | some (.string s) => s.size
  | _ => 0
theorem rowP_lt {l : Bs} (hl : l ≠ []) (he : (rowP [] l).2.1 = 0) : (rowP [] l).2.2.length < l.length := by
  have key : ∀ n (acc : Rw) (l : Bs), l.length = n → (acc ≠ [] ∨ l ≠ []) → (rowP acc l).2.1 = 0 → (rowP acc l).2.2.length ≤ l.length ∧ (l ≠ [] → (rowP acc l).2.2.length < l.length) := by
    intro n
    induction n using Nat.strongRecOn with
    | _ n ih =>
      intro acc l hn ha he
      cases hf : fld l with
      | none => rw [rowP_none hf] at he; cases he
      | some x =>
        have hx := fld_len (f := x.1) (r := x.2) hf
        rw [rowP_some hf] at he ⊢
        by_cases h1 : (sep x.2).e ≠ 0
        · rw [if_pos h1] at he; exact absurd he h1
        · rw [if_neg h1] at he ⊢
          by_cases hm : (sep x.2).more = true
          · rw [if_pos hm] at he ⊢
            have h2 := (sep_more hm).2
            have h3 := ih _ (by omega) (acc ++ [mkS x.1]) _ rfl (.inl (by simp)) he
            exact ⟨by omega, fun _ => by omega⟩
          · rw [if_neg hm]
            have h2 := sep_len x.2
            refine ⟨by show (sep x.2).rest.length ≤ _; omega, fun hl => ?_⟩
            show (sep x.2).rest.length < _
            cases l with
            | nil => exact absurd rfl hl
            | cons c r =>
              by_cases hc : c = 34
              · have hq : quo r = some (x.1, x.2) := by
                  have : fld (c :: r) = quo r := by simp [fld, hc]
                  rw [← this]
                  exact hf
                have := quo_len hq
                simp
                omega
              · have hsp : fld (c :: r) = some ((c :: r).takeWhile nsp, (c :: r).dropWhile nsp) := by simp [fld, hc]
                rw [hsp] at hf
                injection hf with hf
                subst hf
                by_cases hs : spc c = true
                · have hd : (c :: r).dropWhile nsp = c :: r := List.dropWhile_cons_of_neg (by simp [nsp, hs])
                  simp only [hd] at h1 hm h2 ⊢
                  unfold sep at h1 hm ⊢
                  simp only at h1 hm ⊢
                  by_cases h44 : c = 44
                  · simp [h44] at hm
                  · rw [if_neg h44] at h1 hm ⊢
                    by_cases h13 : c = 13
                    · rw [if_pos h13] at h1 hm ⊢
                      cases r with
                      | nil => simp at h1
                      | cons d r =>
                        simp only at h1 hm ⊢
                        by_cases hd10 : d = 10
                        · simp [hd10]
                          omega
                        · simp [hd10] at h1
                    · rw [if_neg h13] at h1
                      split at h1 <;> simp at h1
                · have h5 : ((c :: r).takeWhile nsp).length + ((c :: r).dropWhile nsp).length = (c :: r).length := by
                    rw [← List.length_append, List.takeWhile_append_dropWhile]
                  have h6 : 0 < ((c :: r).takeWhile nsp).length := by
                    rw [List.takeWhile_cons_of_pos (by simp [nsp, hs])]
                    simp
                  refine Nat.lt_of_le_of_lt (sep_len _) ?_
                  show ((c :: r).dropWhile nsp).length < _
                  omega
  exact (key _ [] l rfl (.inr hl) he).2 hl
theorem rowP_rowlen {l : Bs} (hl : l ≠ []) : (rowP [] l).1.length ≤ l.length + 1 := by
  have key : ∀ n (acc : Rw) (l : Bs), l.length = n → (rowP acc l).1.length ≤ acc.length + l.length + 1 := by
    intro n
    induction n using Nat.strongRecOn with
    | _ n ih =>
      intro acc l hn
      cases hf : fld l with
      | none => rw [rowP_none hf]; simp
      | some x =>
        have hx := fld_len (f := x.1) (r := x.2) hf
        rw [rowP_some hf]
        by_cases h1 : (sep x.2).e ≠ 0
        · rw [if_pos h1]; simp
        · rw [if_neg h1]
          by_cases hm : (sep x.2).more = true
          · rw [if_pos hm]
            have h2 := (sep_more hm).2
            have h3 := ih _ (by omega) (acc ++ [mkS x.1]) (sep x.2).rest rfl
            rw [List.length_append] at h3
            simp only [List.length_cons, List.length_nil] at h3
            omega
          · rw [if_neg hm]
            show (acc ++ [mkS x.1]).length ≤ _
            simp
  have := key _ [] l rfl
  simpa using this
theorem strAt_of {w : World} {g : Nat} {l : Bs} (h : w.cell? ⟨g, 0, none⟩ = some (.string (mkS l))) : strAt w g = l.length := by
  unfold strAt
  rw [h]
  exact mkS_size l
set_option maxRecDepth 100000 in
set_option maxHeartbeats 1000000 in
theorem rows_seq (Bq : Nat) (s : ByteArray) (hl : s.size ≤ 1073741824) :
    SeqW Tryd.prog 22 #[.pointer (some ⟨Bq, 0, none⟩)] Cx.enc (TxA Bq s) (CsY (lS s)) CsK (fun xs _ => xs.map Cx.ev = evc (lS s)) (fun pre => ∃ r, evc (lS s) = pre.map Cx.ev ++ r) := by
  intro l J Jx W hA hY h0
  obtain ⟨hc0, hBs⟩ := hA _ _ h0
  obtain ⟨G, hG⟩ : ∃ G, G = W.heap.size := ⟨_, rfl⟩
  have HG := Lib.hid hG
  have HSL : Hid (mkS (lS s) = s) := Lib.hid (mk_lS s)
  have HST : Hid (St (Sx [] G) [RdA G (lS s)] W (W.alloc (.cells #[.string s] 51))) := Lib.hid (by
    have := (St.start (Sx [] G) W).newBlk 51 #[.string s]
    rw [← hG] at this
    show St _ [BlkA G _ #[.string (mkS (lS s))]] _ _
    rw [mk_lS]
    exact this)
  have HLN : Hid ((lS s).length ≤ 1073741824) := Lib.hid (by rw [lS_len]; exact hl)
  have HJ0 := Lib.hid h0
  have HY := Lib.hid hY
  clear hl hA hY h0 hG
  refine callsIn_of_wp Tryd.func22 rfl trivial ?_ rfl
  simp only [Tryd.ntmps22, List.size_toArray, List.length_cons, List.length_nil, Nat.reduceAdd, Nat.reduceSub, Array.replicate_succ, Array.replicate_zero, List.push_toArray, List.append_toArray, List.nil_append, List.cons_append]
  gi_wp2
  rw [← HG.out]
  gi_loopw [4] (fun _ wr => ∃ (pre : List Cx) (l' : Bs) (V : World), Hid (evc (lS s) = pre.map Cx.ev ++ evc l') ∧ Hid (J pre V) ∧ Hid (Below V.heap.size V wr) ∧ Hid (St (Sx pre G) [RdA G l'] V wr) ∧ Hid (∀ y, pre.getLast? = some y → y.g = G) ∧ Hid (l'.length ≤ (lS s).length))
    (fun _ wr => strAt wr G)
  case atStart =>
    exact ⟨[], lS s, W, Lib.hid rfl, HJ0, Lib.hid ((Below.refl _ _).alloc (Nat.le_refl _) _), HST, Lib.hid (fun y hy => by cases hy), Lib.hid (Nat.le_refl _)⟩
  case round =>
    obtain ⟨pre, l', V, HEV, HJ, HB, HS, HLG, HLL⟩ := hrel
    clear HST HJ0 hc0 hBs
    have hbk := HS.out.blk
    have c0 : wr.cell? ⟨G, 0, none⟩ = some (.string (mkS l')) := by rw [hbk.cell 0]; rfl
    have g0 := hbk.lt
    clear hbk
    cases l' with
    | nil =>
      have c1 : wr.cell? ⟨G, 0, none⟩ = some (.string ⟨#[]⟩) := c0
      have HEV2 : Hid (evc (lS s) = pre.map Cx.ev) := Lib.hid (by rw [HEV.out, evc_nil, List.append_nil])
      clear c0
      gi_wp2
      go_end0
      exact ⟨⟨_, rfl⟩, .inl ⟨pre, V, HEV2.out.symm, HJ.out, HB.out⟩⟩
    | cons c r =>
      have hne := @mkS_ne c r
      have hcr : c :: r ≠ [] := by simp
      have HCR := Lib.hid hcr
      obtain ⟨L, hL⟩ : ∃ L, L = c :: r := ⟨_, rfl⟩
      rw [← hL] at HEV HS HLL hne HCR c0
      clear hL hcr
      have HC := Lib.hid (row_any G L HS.out (Nat.le_trans HLL.out HLN.out))
      have hsa := strAt_of c0
      have HSA := Lib.hid hsa
      clear hsa
      gi_wp2_with fail
      refine ⟨trivial, (callsIn_wide.2 HC.out).mono ?_⟩
      rintro e w1 ⟨v, l2, rfl, hl2, h1⟩
      obtain ⟨A, cc, rfl, -, -, -, -⟩ := h1.ol.form
      obtain ⟨x, hx⟩ : ∃ x : Cx, x = ⟨(rowP [] L).1, (rowP [] L).2.1, A, cc, G, l2⟩ := ⟨_, rfl⟩
      have HL2 := Lib.hid hl2
      have hev := evc_step HCR.out
      have HEVS := Lib.hid hev
      have hrl := rowP_rowlen HCR.out
      have hxrow : x.row = (rowP [] L).1 := by rw [hx]
      have hxe : x.e = (rowP [] L).2.1 := by rw [hx]
      have hY1 := HY.out pre x V w1 HJ.out ⟨by rw [hx]; exact h1.swap, by rw [hx]; exact HLG.out, ⟨_, by rw [HEV.out, hev, hx]; rfl⟩, by rw [hxrow]; have := HLL.out; omega⟩
      obtain ⟨fn, tmps, assign, body, hy, hRd⟩ := hY1
      have HRd := Lib.hid hRd
      have hxv : x.enc = #[.slice A (rowP [] L).1.length cc, .int .i64 (rowP [] L).2.1] := by rw [hx]; rfl
      rw [hxv] at hy
      have HX := Lib.hid hx
      clear hRd h1 hx hl2 hev hrl hxrow hxe hxv
      generalize hm : (rowP [] L).1.length = m at hy ⊢
      generalize hE : (rowP [] L).2.1 = E at hy HL2 HEVS HX ⊢
      clear hm
      gi_wp2_with fail
      refine HRd.out.mono ?_
      rintro e W' (⟨rfl, hJ', hK'⟩ | ⟨rfl, hJx'⟩)
      · have hbk : Blk W' G 51 #[.string (mkS l2)] := by
          have h := hK'
          rw [HX.out] at h
          exact h
        have HBK := Lib.hid hbk
        have HJ' := Lib.hid hJ'
        clear hbk hK' hJ' hy
        by_cases he : E = 0
        · have heq := HL2.out he
          have HEVN : Hid (evc (lS s) = (pre ++ [x]).map Cx.ev ++ evc l2) := Lib.hid (by
            rw [HEV.out, HEVS.out, if_pos he, ← heq, List.map_append, HX.out, List.append_assoc]
            rfl)
          have hlt : l2.length < L.length := by
            rw [heq]
            exact rowP_lt HCR.out (by rw [hE]; exact he)
          have HLT := Lib.hid hlt
          have HSN : Hid (St (Sx (pre ++ [x]) G) [RdA G l2] W' W') := Lib.hid (by
            have e : Sx (pre ++ [x]) G = fun k => k = G := by unfold Sx; rw [if_neg (by simp)]
            rw [e]
            exact St.take HBK.out)
          have HLGN : Hid (∀ y, (pre ++ [x]).getLast? = some y → y.g = G) := Lib.hid (by
            intro y hy
            rw [List.getLast?_append] at hy
            simp at hy
            rw [← hy, HX.out])
          subst he
          clear heq hlt hE
          gi_wp2_with fail
          refine ⟨⟨pre ++ [x], l2, W', HEVN, HJ', Lib.hid (Below.refl _ _), HSN, HLGN, Lib.hid (by have := HLT.out; have := HLL.out; omega)⟩, ?_⟩
          have c2 : W'.cell? ⟨G, 0, none⟩ = some (.string (mkS l2)) := by rw [HBK.out.cell 0]; rfl
          rw [strAt_of c2, HSA.out]
          exact HLT.out
        · have hEb : (E != 0) = true := by rw [bne_iff_ne]; exact he
          have HEVN : Hid ((pre ++ [x]).map Cx.ev = evc (lS s)) := Lib.hid (by
            rw [HEV.out, HEVS.out, if_neg he, List.map_append, HX.out]
            rfl)
          clear hE
          gi_wp2_with fail
          refine bodyPost_ret (results_none rfl _ _ _) rfl ?_
          exact ⟨⟨_, rfl⟩, .inl ⟨pre ++ [x], W', HEVN.out, HJ'.out, Below.refl _ _⟩⟩
      · have HEVN : Hid (∃ r, evc (lS s) = (pre ++ [x]).map Cx.ev ++ r) := Lib.hid ⟨if E = 0 then evc (rowP [] L).2.2 else [], by
          rw [HEV.out, HEVS.out, List.map_append, HX.out, List.append_assoc]
          rfl⟩
        clear hE hy
        gi_wp2_with fail
        refine bodyPost_ret (results_none rfl _ _ _) rfl ?_
        exact ⟨⟨_, rfl⟩, .inr ⟨pre ++ [x], W', HEVN.out, hJx', Below.refl _ _⟩⟩
end Go.Proofs.YtmdljfpkbfhbdaaDoor

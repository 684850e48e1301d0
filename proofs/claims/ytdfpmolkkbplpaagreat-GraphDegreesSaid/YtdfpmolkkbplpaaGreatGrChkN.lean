/- The program's checks of nodes. -/
import Derived.Test.YtdfpmolkkbplpaaGreatGrChk
namespace Go.Proofs.YtdfpmolkkbplpaaGreat
open Go.RowKit
set_option linter.unusedVariables false

/-- the first error of a node -/
def cnode (n : Nv) (prev : Int) : Int := if cid n.id prev 1024 61 = 0 then (if clabels n.labels = 0 then cpropsAll n.props else clabels n.labels) else cid n.id prev 1024 61

set_option maxRecDepth 100000 in
set_option maxHeartbeats 1000000 in
theorem checkNode_any (n : Nv) (A : Option Addr) (c : Nat) (A' : Option Addr) (c' : Nat) (B : Nat) (prev : Int) (w : World) (hL : RL svl w B A n.labels) (hP : PropsR w B A' n.props) (hB : B ≤ w.heap.size)
    (h1 : n.labels.length ≤ 140737488351232) (h2 : n.props.length ≤ 140737488351232) (h3 : ∀ s ∈ n.labels, s.size ≤ 140737488351232) :
    Calls Tryz.prog 62 #[.agg #[.int .i64 n.id, .slice A n.labels.length c, .slice A' n.props.length c'], .int .i64 prev] w fun e w' => e = .returned (.int .i64 (cnode n prev)) ∧ Below w.heap.size w w' := by
  obtain ⟨wo, hwo⟩ : ∃ x, x = w.alloc (.cells #[.int .i64 n.id, .slice A n.labels.length c, .slice A' n.props.length c'] 40) := ⟨_, rfl⟩
  have hbo : Below w.heap.size w wo := by rw [hwo]; exact (Below.refl _ _).alloc (Nat.le_refl _) _
  have hos : w.heap.size < wo.heap.size := by rw [hwo]; simp
  have HI := checkId_any n.id prev 1024 61 wo
  have HL := checkLabels_any A c B n.labels wo (hL.below' hbo hB) h1 h3
  have HP := checkProps_any A' c' B n.props wo (PropsR.below hP (hbo.mono hB)) (by omega) h2
  have hcn : cnode n prev = if cid n.id prev 1024 61 = 0 then (if clabels n.labels = 0 then cpropsAll n.props else clabels n.labels) else cid n.id prev 1024 61 := rfl
  have hbk : Blk wo w.heap.size 40 #[.int .i64 n.id, .slice A n.labels.length c, .slice A' n.props.length c'] := by rw [hwo]; exact Blk.new _ _ _
  have g0 : wo.cell? ⟨w.heap.size, 0, none⟩ = some (.int .i64 n.id) := by rw [hbk.cell 0]; rfl
  have g1 : wo.cell? ⟨w.heap.size, 1, none⟩ = some (.slice A n.labels.length c) := by rw [hbk.cell 1]; rfl
  have g2 : wo.cell? ⟨w.heap.size, 2, none⟩ = some (.slice A' n.props.length c') := by rw [hbk.cell 2]; rfl
  have Hwo := Lib.hid hwo
  clear hwo hbk hL hP h3
  by_cases hz : cid n.id prev 1024 61 = 0
  · rw [if_pos hz] at hcn
    rw [hz] at HI
    have HI := Lib.hid HI
    by_cases hz2 : clabels n.labels = 0
    · rw [if_pos hz2] at hcn
      rw [hz2] at HL
      have HL := Lib.hid HL
      have HP := Lib.hid HP
      have Hcn := Lib.hid hcn
      clear hcn hz hz2
      go_enter Tryz.func62, Tryz.ntmps62
      go_wp2_with fail
      rw [← Hwo.out]
      refine HI.out.mono ?_
      rintro e w' ⟨rfl, rfl⟩
      go_wp2_with fail
      refine HL.out.mono ?_
      rintro e w' ⟨rfl, rfl⟩
      go_wp2_with fail
      refine HP.out.mono ?_
      rintro e w8 ⟨rfl, hb8⟩
      have hb9 := hbo.trans (hb8.mono hbo.size)
      clear g0 g1 g2 hb8
      go_wp2
      go_ret
      exact ⟨ret_int Hcn.out.symm, hb9⟩
    · rw [if_neg hz2] at hcn
      obtain ⟨x, hx⟩ : ∃ x, x = clabels n.labels := ⟨_, rfl⟩
      rw [← hx] at hz2 hcn HL
      have hne : (x != 0) = true := by simpa using hz2
      have HL := Lib.hid HL
      have Hcn := Lib.hid hcn
      clear hcn hz hz2 HP hx
      go_enter Tryz.func62, Tryz.ntmps62
      go_wp2_with fail
      rw [← Hwo.out]
      refine HI.out.mono ?_
      rintro e w' ⟨rfl, rfl⟩
      go_wp2_with fail
      refine HL.out.mono ?_
      rintro e w' ⟨rfl, rfl⟩
      go_wp2
      go_ret
      exact ⟨ret_int Hcn.out.symm, hbo⟩
  · rw [if_neg hz] at hcn
    obtain ⟨x, hx⟩ : ∃ x, x = cid n.id prev 1024 61 := ⟨_, rfl⟩
    rw [← hx] at hz hcn HI
    have hne : (x != 0) = true := by simpa using hz
    have HI := Lib.hid HI
    have Hcn := Lib.hid hcn
    clear hcn hz HP HL hx
    go_enter Tryz.func62, Tryz.ntmps62
    go_wp2_with fail
    rw [← Hwo.out]
    refine HI.out.mono ?_
    rintro e w' ⟨rfl, rfl⟩
    go_wp2
    go_ret
    exact ⟨ret_int Hcn.out.symm, hbo⟩

/-- node k -/
def nthN (L : List Nv) (k : Nat) : Nv := L.getD k ⟨0, [], []⟩
theorem nthN_get {L : List Nv} {k : Nat} (h : k < L.length) : L[k]? = some (nthN L k) := by
  unfold nthN; rw [List.getD_eq_getElem?_getD, List.getElem?_eq_getElem h]; rfl
theorem dropN {L : List Nv} {k : Nat} (h : k < L.length) : L.drop k = nthN L k :: L.drop (k + 1) := by
  have := nthN_get h
  rw [List.getElem?_eq_getElem h] at this
  injection this with this
  rw [List.drop_eq_getElem_cons h, this]
/-- the first error of a list of nodes, and its place -/
def cnodes (prev : Int) (i : Int) : List Nv → Int × Int
  | [] => (0, 0)
  | n :: l => if cnode n prev = 0 then cnodes n.id (i + 1) l else (cnode n prev, i)

set_option maxRecDepth 100000 in
set_option maxHeartbeats 1000000 in
theorem checkNodes_any (A : Option Addr) (cap B : Nat) (L : List Nv) (w : World) (h : NodesR w B A L) (hB : B ≤ w.heap.size) (hl : L.length ≤ 140737488351232) :
    Calls Tryz.prog 37 #[.slice A L.length cap] w fun e w' => e = .returned (.tuple #[.int .i64 (cnodes (-1) 0 L).1, .int .i64 (cnodes (-1) 0 L).2]) ∧ Below w.heap.size w w' := by
  have H := Lib.hid h
  clear h
  go_enter Tryz.func37, Tryz.ntmps37
  go_wp2
  go_loopw [4, 10] (fun pv i wr => ∃ (k : Nat) (p : Int), k ≤ L.length ∧ i = .int .i64 k ∧ pv = .int .i64 p ∧ cnodes p k (L.drop k) = cnodes (-1) 0 L ∧ Below w.heap.size w wr) (fun _ i _ => L.length - (intOf i).toNat)
  case atStart => exact ⟨0, -1, Nat.zero_le _, rfl, rfl, rfl, Below.refl _ _⟩
  case round =>
    obtain ⟨k, p, hk, rfl, rfl, hcn, hbw⟩ := hrel
    by_cases hlt : k < L.length
    · obtain ⟨b, off, rfl, hbB, A1, c1, A2, c2, hc, hr1, hr2, ⟨i1, i2⟩, hs1, hs2, hs3⟩ := (NodesR.below H.out (hbw.mono hB)) k _ (nthN_get hlt)
      obtain ⟨q0, q1, q2⟩ := node_cells hc
      have hsz := hbw.size
      rw [dropN hlt] at hcn
      obtain ⟨wo, hwo⟩ : ∃ x, x = wr.alloc (.cells #[.int .i64 (nthN L k).id, .slice A1 (nthN L k).labels.length c1, .slice A2 (nthN L k).props.length c2] 40) := ⟨_, rfl⟩
      have hbo : Below w.heap.size w wo := by rw [hwo]; exact hbw.alloc hsz _
      have hbr : Below wr.heap.size wr wo := by rw [hwo]; exact (Below.refl _ _).alloc (Nat.le_refl _) _
      have hos : wr.heap.size < wo.heap.size := by rw [hwo]; simp
      have hbk : Blk wo wr.heap.size 40 #[.int .i64 (nthN L k).id, .slice A1 (nthN L k).labels.length c1, .slice A2 (nthN L k).props.length c2] := by rw [hwo]; exact Blk.new _ _ _
      have HN := checkNode_any (nthN L k) A1 c1 A2 c2 B p wo (hr1.below' hbr (by omega)) (PropsR.below hr2 (hbr.mono (by omega))) (by omega) hs1 hs2 hs3
      generalize nthN L k = x at *
      obtain ⟨xi, xl, xp⟩ := x
      simp only at q0 q1 q2 hbk HN hwo
      simp only [cnodes] at hcn
      have g0 : wo.cell? ⟨wr.heap.size, 0, none⟩ = some (.int .i64 xi) := by rw [hbk.cell 0]; rfl
      have g1 : wo.cell? ⟨wr.heap.size, 1, none⟩ = some (.slice A1 xl.length c1) := by rw [hbk.cell 1]; rfl
      have g2 : wo.cell? ⟨wr.heap.size, 2, none⟩ = some (.slice A2 xp.length c2) := by rw [hbk.cell 2]; rfl
      have Hwo := Lib.hid hwo
      clear hc hr1 hr2 hs3 hwo hbr hbk
      by_cases hz : cnode ⟨xi, xl, xp⟩ p = 0
      · rw [if_pos hz] at hcn
        rw [hz] at HN
        have HN := Lib.hid HN
        have Hcn := Lib.hid hcn
        clear hcn hz
        go_wp2_with fail
        rw [← Hwo.out]
        refine HN.out.mono ?_
        rintro e w8 ⟨rfl, hb8⟩
        have k0 : w8.cell? ⟨wr.heap.size, 0, none⟩ = some (.int .i64 xi) := (hb8.cell (p := ⟨wr.heap.size, 0, none⟩) hos).trans g0
        have hb9 := hbo.trans (hb8.mono hbo.size)
        clear g0 g1 g2 hb8
        go_wp2
        go_roundw
        case rel => exact ⟨k + 1, xi, by omega, by go_num, rfl, Hcn.out, hb9⟩
        case measure => simp [intOf]; omega
      · rw [if_neg hz] at hcn
        obtain ⟨c, hcc⟩ : ∃ c, c = cnode ⟨xi, xl, xp⟩ p := ⟨_, rfl⟩
        rw [← hcc] at hz hcn HN
        have HN := Lib.hid HN
        have Hcn := Lib.hid hcn
        have hne : (c != 0) = true := by simpa using hz
        clear hcn hz hcc
        go_wp2_with fail
        rw [← Hwo.out]
        refine HN.out.mono ?_
        rintro e w8 ⟨rfl, hb8⟩
        have hb9 := hbo.trans (hb8.mono hbo.size)
        clear g0 g1 g2 hb8
        go_wp2
        go_ret2
        exact ⟨by rw [← Hcn.out]; rfl, hb9⟩
    · rw [List.drop_of_length_le (by omega)] at hcn
      have Hcn := Lib.hid hcn
      clear hcn
      go_wp2
      go_ret2
      exact ⟨by rw [← Hcn.out]; rfl, hbw⟩

end Go.Proofs.YtdfpmolkkbplpaaGreat

/- The program's checks of a graph, function by function. -/
import Derived.Test.YthnaipgdjbaebaaGreatGrName
import Derived.WalkLawsBesides
import Derived.Maps.Own
import Derived.Maps.OwnSet
import Derived.Maps.Views
namespace Go.Proofs.YthnaipgdjbaebaaGreat
open Go.RowKit
set_option linter.unusedVariables false

/-- the error of an id that follows another -/
def cid (id prev lim wrong : Int) : Int := if id < 0 ∨ lim ≤ id then wrong else if id ≤ prev then 6 else 0
set_option maxHeartbeats 400000 in
theorem checkId_any (id prev lim wrong : Int) (w : World) :
    Calls Tryz.prog 86 #[.int .i64 id, .int .i64 prev, .int .i64 lim, .int .i64 wrong] w fun e w' => e = .returned (.int .i64 (cid id prev lim wrong)) ∧ w = w' := by
  by_cases h1 : id < 0
  · have HC : Hid (cid id prev lim wrong = wrong) := Lib.hid (by unfold cid; rw [if_pos (.inl h1)])
    go_enter Tryz.func86, Tryz.ntmps86
    go_wp2
    go_ret
    exact ⟨ret_int HC.out.symm, rfl⟩
  by_cases h2 : lim ≤ id
  · have HC : Hid (cid id prev lim wrong = wrong) := Lib.hid (by unfold cid; rw [if_pos (.inr h2)])
    go_enter Tryz.func86, Tryz.ntmps86
    go_wp2
    go_ret
    exact ⟨ret_int HC.out.symm, rfl⟩
  by_cases h3 : id ≤ prev
  · have HC : Hid (cid id prev lim wrong = 6) := Lib.hid (by unfold cid; rw [if_neg (by omega), if_pos h3])
    go_enter Tryz.func86, Tryz.ntmps86
    go_wp2
    go_ret
    exact ⟨ret_int HC.out.symm, rfl⟩
  · have HC : Hid (cid id prev lim wrong = 0) := Lib.hid (by unfold cid; rw [if_neg (by omega), if_neg h3])
    go_enter Tryz.func86, Tryz.ntmps86
    go_wp2
    go_ret
    exact ⟨ret_int HC.out.symm, rfl⟩

/-- '<=' of texts -/
def leS (s p : ByteArray) : Bool := Op.bytesLess s.toList p.toList || (s.toList == p.toList)
/-- the error of a name that follows another -/
def cname (s p : ByteArray) : Int := if goodN s = false then 60 else if leS s p = true then 6 else 0
set_option maxHeartbeats 400000 in
theorem checkName_any (s p : ByteArray) (w : World) (hs : s.size ≤ maxLen) :
    Calls Tryz.prog 115 #[.string s, .string p] w fun e w' => e = .returned (.int .i64 (cname s p)) ∧ w = w' := by
  have HG := GoodName_any s w hs
  rcases hg : goodN s with _ | _
  · rw [hg] at HG
    have HG := Lib.hid HG
    have HC : Hid (cname s p = 60) := Lib.hid (by unfold cname; rw [if_pos hg])
    clear hg
    go_enter Tryz.func115, Tryz.ntmps115
    go_wp2_with (go_at_call 16; refine HG.out.mono ?_; rintro e w' ⟨rfl, rfl⟩)
    go_ret
    exact ⟨ret_int HC.out.symm, rfl⟩
  · rw [hg] at HG
    have HG := Lib.hid HG
    have HC : Hid (cname s p = if leS s p = true then 6 else 0) := Lib.hid (by unfold cname; rw [if_neg (by rw [hg]; simp)])
    clear hg
    go_enter Tryz.func115, Tryz.ntmps115
    go_wp2_with (go_at_call 16; refine HG.out.mono ?_; rintro e w' ⟨rfl, rfl⟩)
    · go_ret
      have hh : Op.bytesLess s.toList p.toList = true ∨ (s.toList == p.toList) = true := by assumption
      exact ⟨ret_int (by rw [HC.out, if_pos (by unfold leS; simpa using hh)]), rfl⟩
    · go_ret
      have hh : Op.bytesLess s.toList p.toList = false ∧ (s.toList == p.toList) = false := by assumption
      exact ⟨ret_int (by rw [HC.out, if_neg (by unfold leS; rw [hh.1, hh.2]; simp)]), rfl⟩

/-- the first error of a list of names, each behind the one ahead of it -/
def cnames (prev : ByteArray) : List ByteArray → Int
  | [] => 0
  | s :: l => if cname s prev = 0 then cnames s l else cname s prev
/-- the first error of a node's labels -/
def clabels (L : List ByteArray) : Int := if 8 < L.length then 63 else cnames .empty L
theorem cnames_drop {L : List ByteArray} {k : Nat} (h : k < L.length) (p : ByteArray) : cnames p (L.drop k) = if cname (nthS L k) p = 0 then cnames (nthS L k) (L.drop (k + 1)) else cname (nthS L k) p := by
  rw [dropS h, cnames]

set_option maxRecDepth 100000 in
set_option maxHeartbeats 1000000 in
theorem checkLabels_any (A : Option Addr) (cap B : Nat) (L : List ByteArray) (w : World) (h : RL svl w B A L) (hl : L.length ≤ 140737488351232) (hs : ∀ s ∈ L, s.size ≤ 140737488351232) :
    Calls Tryz.prog 87 #[.slice A L.length cap] w fun e w' => e = .returned (.int .i64 (clabels L)) ∧ w = w' := by
  by_cases h8 : 8 < L.length
  · have HC : Hid (clabels L = 63) := Lib.hid (by unfold clabels; rw [if_pos h8])
    go_enter Tryz.func87, Tryz.ntmps87
    go_wp2
    go_ret
    exact ⟨ret_int HC.out.symm, rfl⟩
  · have HC : Hid (clabels L = cnames .empty L) := Lib.hid (by unfold clabels; rw [if_neg h8])
    have Hs := Lib.hid hs
    clear hs
    go_enter Tryz.func87, Tryz.ntmps87
    go_wp2
    go_loop [3, 12] (fun pv i => ∃ (k : Nat) (p : ByteArray), k ≤ L.length ∧ i = .int .i64 k ∧ pv = .string p ∧ cnames p (L.drop k) = cnames .empty L) (fun _ i => L.length - (intOf i).toNat)
    case atStart => exact ⟨0, .empty, Nat.zero_le _, rfl, rfl, rfl⟩
    case round =>
      obtain ⟨k, p, hk, rfl, rfl, hcn⟩ := hrel
      by_cases hlt : k < L.length
      · obtain ⟨b, off, rfl, -, hc⟩ := h.allS (by omega)
        have hck := hc k hlt
        have hx := Hs.out (nthS L k) (by rw [nthS_lt hlt]; exact List.getElem_mem hlt)
        rw [cnames_drop hlt] at hcn
        have HN := checkName_any (nthS L k) p w (by unfold maxLen; omega)
        obtain ⟨x, hxx⟩ : ∃ x, x = nthS L k := ⟨_, rfl⟩
        rw [← hxx] at hck hx hcn HN
        by_cases hz : cname x p = 0
        · rw [if_pos hz] at hcn
          rw [hz] at HN
          have HN := Lib.hid HN
          have Hcn := Lib.hid hcn
          clear hcn hz hc hxx
          go_wp2_with (go_at_call 115; refine HN.out.mono ?_; rintro e w' ⟨rfl, rfl⟩)
          go_round
          case rel => exact ⟨k + 1, x, by omega, by go_num, rfl, Hcn.out⟩
          case measure => simp [intOf]; omega
        · rw [if_neg hz] at hcn
          obtain ⟨c, hcc⟩ : ∃ c, c = cname x p := ⟨_, rfl⟩
          rw [← hcc] at hz hcn HN
          have HN := Lib.hid HN
          have Hcn := Lib.hid hcn
          have hne : (c != 0) = true := by simpa using hz
          clear hcn hz hc hxx hcc
          go_wp2_with (go_at_call 115; refine HN.out.mono ?_; rintro e w' ⟨rfl, rfl⟩)
          go_ret
          exact ⟨ret_int (by rw [HC.out, ← Hcn.out]), rfl⟩
      · rw [List.drop_of_length_le (by omega)] at hcn
        have Hcn := Lib.hid hcn
        clear hcn
        go_wp2
        go_ret
        exact ⟨ret_int (by rw [HC.out, ← Hcn.out]; rfl), rfl⟩

/-! ### properties -/
def nthP (L : List Pv) (k : Nat) : Pv := L.getD k ⟨.empty, ⟨0, 0, .empty, [], []⟩⟩
theorem nthP_get {L : List Pv} {k : Nat} (h : k < L.length) : L[k]? = some (nthP L k) := by
  unfold nthP; rw [List.getD_eq_getElem?_getD, List.getElem?_eq_getElem h]; rfl
theorem dropP {L : List Pv} {k : Nat} (h : k < L.length) : L.drop k = nthP L k :: L.drop (k + 1) := by
  have := nthP_get h
  rw [List.getElem?_eq_getElem h] at this
  injection this with this
  rw [List.drop_eq_getElem_cons h, this]
/-- the first error of a list of properties -/
def cprops (prev : ByteArray) : List Pv → Int
  | [] => 0
  | p :: l => if cname p.key prev = 0 then (if chk p.val = 0 then cprops p.key l else chk p.val) else cname p.key prev
def cpropsAll (L : List Pv) : Int := if 16 < L.length then 64 else cprops .empty L

set_option maxRecDepth 100000 in
set_option maxHeartbeats 2000000 in
theorem checkProps_any (A : Option Addr) (cap B : Nat) (L : List Pv) (w : World) (h : PropsR w B A L) (hB : B ≤ w.heap.size) (hl : L.length ≤ 140737488351232) :
    Calls Tryz.prog 88 #[.slice A L.length cap] w fun e w' => e = .returned (.int .i64 (cpropsAll L)) ∧ Below w.heap.size w w' := by
  by_cases h8 : 16 < L.length
  · have HC : Hid (cpropsAll L = 64) := Lib.hid (by unfold cpropsAll; rw [if_pos h8])
    go_enter Tryz.func88, Tryz.ntmps88
    go_wp2
    go_ret
    exact ⟨ret_int HC.out.symm, Below.refl _ _⟩
  · have HC : Hid (cpropsAll L = cprops .empty L) := Lib.hid (by unfold cpropsAll; rw [if_neg h8])
    have H := Lib.hid h
    clear h
    go_enter Tryz.func88, Tryz.ntmps88
    go_wp2
    go_loopw [3, 13] (fun pv i wr => ∃ (k : Nat) (p : ByteArray), k ≤ L.length ∧ i = .int .i64 k ∧ pv = .string p ∧ cprops p (L.drop k) = cprops .empty L ∧ Below w.heap.size w wr) (fun _ i _ => L.length - (intOf i).toNat)
    case atStart => exact ⟨0, .empty, Nat.zero_le _, rfl, rfl, rfl, Below.refl _ _⟩
    case round =>
      obtain ⟨k, p, hk, rfl, rfl, hcn, hbw⟩ := hrel
      by_cases hlt : k < L.length
      · obtain ⟨b, off, rfl, hbB, A1, c1, A2, c2, hc, hr1, hr2, hok, hks⟩ := (PropsR.below H.out (hbw.mono hB)) k _ (nthP_get hlt)
        obtain ⟨q0, q1, q2, q3, q4, q5⟩ := prop_cells hc
        have hsz := hbw.size
        rw [dropP hlt] at hcn
        generalize nthP L k = x at *
        obtain ⟨key, ⟨vk, vn, vs, ns, ts⟩⟩ := x
        simp only at q0 q1 q2 q3 q4 q5 hr1 hr2 hks
        simp only [cprops] at hcn
        obtain ⟨wo, hwo⟩ : ∃ x, x = wr.alloc (.cells #[.string key, .int .i64 vk, .int .i64 vn, .string vs, .slice A1 ns.length c1, .slice A2 ts.length c2] 45) := ⟨_, rfl⟩
        have hbo : Below w.heap.size w wo := by rw [hwo]; exact hbw.alloc hsz _
        have hos : wr.heap.size < wo.heap.size := by rw [hwo]; simp
        have hbk : Blk wo wr.heap.size 45 #[.string key, .int .i64 vk, .int .i64 vn, .string vs, .slice A1 ns.length c1, .slice A2 ts.length c2] := by rw [hwo]; exact Blk.new _ _ _
        have HN := checkName_any key p wo (by unfold maxLen; omega)
        have hvr : VR wo B ⟨vk, vn, vs, ns, ts⟩ (vagg ⟨vk, vn, vs, ns, ts⟩ A1 c1 A2 c2) := ⟨A1, c1, A2, c2, rfl, by rw [hwo]; exact hr1.alloc (by omega) _, by rw [hwo]; exact hr2.alloc (by omega) _, hok⟩
        have HV := Check_any ⟨vk, vn, vs, ns, ts⟩ _ B wo hvr (by omega)
        unfold vagg at HV
        simp only at HV
        have g0 : wo.cell? ⟨wr.heap.size, 0, none⟩ = some (.string key) := by rw [hbk.cell 0]; rfl
        have g1 : wo.cell? ⟨wr.heap.size, 1, none⟩ = some (.int .i64 vk) := by rw [hbk.cell 1]; rfl
        have g2 : wo.cell? ⟨wr.heap.size, 2, none⟩ = some (.int .i64 vn) := by rw [hbk.cell 2]; rfl
        have g3 : wo.cell? ⟨wr.heap.size, 3, none⟩ = some (.string vs) := by rw [hbk.cell 3]; rfl
        have g4 : wo.cell? ⟨wr.heap.size, 4, none⟩ = some (.slice A1 ns.length c1) := by rw [hbk.cell 4]; rfl
        have g5 : wo.cell? ⟨wr.heap.size, 5, none⟩ = some (.slice A2 ts.length c2) := by rw [hbk.cell 5]; rfl
        have Hwo := Lib.hid hwo
        clear hc hr1 hr2 hok hwo hvr
        by_cases hz : cname key p = 0
        · rw [if_pos hz] at hcn
          rw [hz] at HN
          have HN := Lib.hid HN
          by_cases hz2 : chk ⟨vk, vn, vs, ns, ts⟩ = 0
          · rw [if_pos hz2] at hcn
            rw [hz2] at HV
            have HV := Lib.hid HV
            have Hcn := Lib.hid hcn
            have Hbk := Lib.hid hbk
            clear hcn hz hz2 hbk
            go_wp2_with fail
            rw [← Hwo.out]
            refine HN.out.mono ?_
            rintro e w' ⟨rfl, rfl⟩
            go_wp2_with fail
            refine HV.out.mono ?_
            rintro e w8 ⟨rfl, hb8⟩
            have k0 : w8.cell? ⟨wr.heap.size, 0, none⟩ = some (.string key) := (hb8.cell (p := ⟨wr.heap.size, 0, none⟩) hos).trans g0
            have hb9 := hbo.trans (hb8.mono hbo.size)
            clear g0 g1 g2 g3 g4 g5 hb8
            go_wp2
            go_roundw
            case rel => exact ⟨k + 1, key, by omega, by go_num, rfl, Hcn.out, hb9⟩
            case measure => simp [intOf]; omega
          · rw [if_neg hz2] at hcn
            obtain ⟨c, hcc⟩ : ∃ c, c = chk ⟨vk, vn, vs, ns, ts⟩ := ⟨_, rfl⟩
            rw [← hcc] at hz2 hcn HV
            have HV := Lib.hid HV
            have Hcn := Lib.hid hcn
            have hne : (c != 0) = true := by simpa using hz2
            clear hcn hz hz2 hbk hcc
            go_wp2_with fail
            rw [← Hwo.out]
            refine HN.out.mono ?_
            rintro e w' ⟨rfl, rfl⟩
            go_wp2_with fail
            refine HV.out.mono ?_
            rintro e w8 ⟨rfl, hb8⟩
            have hb9 := hbo.trans (hb8.mono hbo.size)
            clear g0 g1 g2 g3 g4 g5 hb8
            go_wp2
            go_ret
            exact ⟨ret_int (by rw [HC.out, ← Hcn.out]), hb9⟩
        · rw [if_neg hz] at hcn
          obtain ⟨c, hcc⟩ : ∃ c, c = cname key p := ⟨_, rfl⟩
          rw [← hcc] at hz hcn HN
          have HN := Lib.hid HN
          have Hcn := Lib.hid hcn
          have hne : (c != 0) = true := by simpa using hz
          clear hcn hz hbk hcc HV
          go_wp2_with fail
          rw [← Hwo.out]
          refine HN.out.mono ?_
          rintro e w' ⟨rfl, rfl⟩
          clear g0 g1 g2 g3 g4 g5
          go_wp2
          go_ret
          exact ⟨ret_int (by rw [HC.out, ← Hcn.out]), hbo⟩
      · rw [List.drop_of_length_le (by omega)] at hcn
        have Hcn := Lib.hid hcn
        clear hcn
        go_wp2
        go_ret
        exact ⟨ret_int (by rw [HC.out, ← Hcn.out]; rfl), hbw⟩

end Go.Proofs.YthnaipgdjbaebaaGreat

/- The program's checks of nodes. -/
namespace Go.Proofs.YthnaipgdjbaebaaGreat
open Go.RowKit
set_option linter.unusedVariables false

/-- the first error of a node -/
def cnode (n : Nv) (prev : Int) : Int := if cid n.id prev 1024 61 = 0 then (if clabels n.labels = 0 then cpropsAll n.props else clabels n.labels) else cid n.id prev 1024 61

set_option maxRecDepth 100000 in
set_option maxHeartbeats 1000000 in
theorem checkNode_any (n : Nv) (A : Option Addr) (c : Nat) (A' : Option Addr) (c' : Nat) (B : Nat) (prev : Int) (w : World) (hL : RL svl w B A n.labels) (hP : PropsR w B A' n.props) (hB : B ≤ w.heap.size)
    (h1 : n.labels.length ≤ 140737488351232) (h2 : n.props.length ≤ 140737488351232) (h3 : ∀ s ∈ n.labels, s.size ≤ 140737488351232) :
    Calls Tryz.prog 62 #[.agg #[.int .i64 n.id, .slice A n.labels.length c, .slice A' n.props.length c'], .int .i64 prev] w fun e w' => e = .returned (.int .i64 (cnode n prev)) ∧ Below w.heap.size w w' := by
  obtain ⟨wo, hwo⟩ : ∃ x, x = w.alloc (.cells #[.int .i64 n.id, .slice A n.labels.length c, .slice A' n.props.length c'] 40) := ⟨_, rfl⟩
  have hbo : Below w.heap.size w wo := by rw [hwo]; exact (Below.refl _ _).alloc (Nat.le_refl _) _
  have hos : w.heap.size < wo.heap.size := by rw [hwo]; simp
  have HI := checkId_any n.id prev 1024 61 wo
  have HL := checkLabels_any A c B n.labels wo (hL.below' hbo hB) h1 h3
  have HP := checkProps_any A' c' B n.props wo (PropsR.below hP (hbo.mono hB)) (by omega) h2
  have hcn : cnode n prev = if cid n.id prev 1024 61 = 0 then (if clabels n.labels = 0 then cpropsAll n.props else clabels n.labels) else cid n.id prev 1024 61 := rfl
  have hbk : Blk wo w.heap.size 40 #[.int .i64 n.id, .slice A n.labels.length c, .slice A' n.props.length c'] := by rw [hwo]; exact Blk.new _ _ _
  have g0 : wo.cell? ⟨w.heap.size, 0, none⟩ = some (.int .i64 n.id) := by rw [hbk.cell 0]; rfl
  have g1 : wo.cell? ⟨w.heap.size, 1, none⟩ = some (.slice A n.labels.length c) := by rw [hbk.cell 1]; rfl
  have g2 : wo.cell? ⟨w.heap.size, 2, none⟩ = some (.slice A' n.props.length c') := by rw [hbk.cell 2]; rfl
  have Hwo := Lib.hid hwo
  clear hwo hbk hL hP h3
  by_cases hz : cid n.id prev 1024 61 = 0
  · rw [if_pos hz] at hcn
    rw [hz] at HI
    have HI := Lib.hid HI
    by_cases hz2 : clabels n.labels = 0
    · rw [if_pos hz2] at hcn
      rw [hz2] at HL
      have HL := Lib.hid HL
      have HP := Lib.hid HP
      have Hcn := Lib.hid hcn
      clear hcn hz hz2
      go_enter Tryz.func62, Tryz.ntmps62
      go_wp2_with fail
      rw [← Hwo.out]
      refine HI.out.mono ?_
      rintro e w' ⟨rfl, rfl⟩
      go_wp2_with fail
      refine HL.out.mono ?_
      rintro e w' ⟨rfl, rfl⟩
      go_wp2_with fail
      refine HP.out.mono ?_
      rintro e w8 ⟨rfl, hb8⟩
      have hb9 := hbo.trans (hb8.mono hbo.size)
      clear g0 g1 g2 hb8
      go_wp2
      go_ret
      exact ⟨ret_int Hcn.out.symm, hb9⟩
    · rw [if_neg hz2] at hcn
      obtain ⟨x, hx⟩ : ∃ x, x = clabels n.labels := ⟨_, rfl⟩
      rw [← hx] at hz2 hcn HL
      have hne : (x != 0) = true := by simpa using hz2
      have HL := Lib.hid HL
      have Hcn := Lib.hid hcn
      clear hcn hz hz2 HP hx
      go_enter Tryz.func62, Tryz.ntmps62
      go_wp2_with fail
      rw [← Hwo.out]
      refine HI.out.mono ?_
      rintro e w' ⟨rfl, rfl⟩
      go_wp2_with fail
      refine HL.out.mono ?_
      rintro e w' ⟨rfl, rfl⟩
      go_wp2
      go_ret
      exact ⟨ret_int Hcn.out.symm, hbo⟩
  · rw [if_neg hz] at hcn
    obtain ⟨x, hx⟩ : ∃ x, x = cid n.id prev 1024 61 := ⟨_, rfl⟩
    rw [← hx] at hz hcn HI
    have hne : (x != 0) = true := by simpa using hz
    have HI := Lib.hid HI
    have Hcn := Lib.hid hcn
    clear hcn hz HP HL hx
    go_enter Tryz.func62, Tryz.ntmps62
    go_wp2_with fail
    rw [← Hwo.out]
    refine HI.out.mono ?_
    rintro e w' ⟨rfl, rfl⟩
    go_wp2
    go_ret
    exact ⟨ret_int Hcn.out.symm, hbo⟩

/-- node k -/
def nthN (L : List Nv) (k : Nat) : Nv := L.getD k ⟨0, [], []⟩
theorem nthN_get {L : List Nv} {k : Nat} (h : k < L.length) : L[k]? = some (nthN L k) := by
  unfold nthN; rw [List.getD_eq_getElem?_getD, List.getElem?_eq_getElem h]; rfl
theorem dropN {L : List Nv} {k : Nat} (h : k < L.length) : L.drop k = nthN L k :: L.drop (k + 1) := by
  have := nthN_get h
  rw [List.getElem?_eq_getElem h] at this
  injection this with this
  rw [List.drop_eq_getElem_cons h, this]
/-- the first error of a list of nodes, and its place -/
def cnodes (prev : Int) (i : Int) : List Nv → Int × Int
  | [] => (0, 0)
  | n :: l => if cnode n prev = 0 then cnodes n.id (i + 1) l else (cnode n prev, i)

set_option maxRecDepth 100000 in
set_option maxHeartbeats 1000000 in
theorem checkNodes_any (A : Option Addr) (cap B : Nat) (L : List Nv) (w : World) (h : NodesR w B A L) (hB : B ≤ w.heap.size) (hl : L.length ≤ 140737488351232) :
    Calls Tryz.prog 37 #[.slice A L.length cap] w fun e w' => e = .returned (.tuple #[.int .i64 (cnodes (-1) 0 L).1, .int .i64 (cnodes (-1) 0 L).2]) ∧ Below w.heap.size w w' := by
  have H := Lib.hid h
  clear h
  go_enter Tryz.func37, Tryz.ntmps37
  go_wp2
  go_loopw [4, 10] (fun pv i wr => ∃ (k : Nat) (p : Int), k ≤ L.length ∧ i = .int .i64 k ∧ pv = .int .i64 p ∧ cnodes p k (L.drop k) = cnodes (-1) 0 L ∧ Below w.heap.size w wr) (fun _ i _ => L.length - (intOf i).toNat)
  case atStart => exact ⟨0, -1, Nat.zero_le _, rfl, rfl, rfl, Below.refl _ _⟩
  case round =>
    obtain ⟨k, p, hk, rfl, rfl, hcn, hbw⟩ := hrel
    by_cases hlt : k < L.length
    · obtain ⟨b, off, rfl, hbB, A1, c1, A2, c2, hc, hr1, hr2, ⟨i1, i2⟩, hs1, hs2, hs3⟩ := (NodesR.below H.out (hbw.mono hB)) k _ (nthN_get hlt)
      obtain ⟨q0, q1, q2⟩ := node_cells hc
      have hsz := hbw.size
      rw [dropN hlt] at hcn
      obtain ⟨wo, hwo⟩ : ∃ x, x = wr.alloc (.cells #[.int .i64 (nthN L k).id, .slice A1 (nthN L k).labels.length c1, .slice A2 (nthN L k).props.length c2] 40) := ⟨_, rfl⟩
      have hbo : Below w.heap.size w wo := by rw [hwo]; exact hbw.alloc hsz _
      have hbr : Below wr.heap.size wr wo := by rw [hwo]; exact (Below.refl _ _).alloc (Nat.le_refl _) _
      have hos : wr.heap.size < wo.heap.size := by rw [hwo]; simp
      have hbk : Blk wo wr.heap.size 40 #[.int .i64 (nthN L k).id, .slice A1 (nthN L k).labels.length c1, .slice A2 (nthN L k).props.length c2] := by rw [hwo]; exact Blk.new _ _ _
      have HN := checkNode_any (nthN L k) A1 c1 A2 c2 B p wo (hr1.below' hbr (by omega)) (PropsR.below hr2 (hbr.mono (by omega))) (by omega) hs1 hs2 hs3
      generalize nthN L k = x at *
      obtain ⟨xi, xl, xp⟩ := x
      simp only at q0 q1 q2 hbk HN hwo
      simp only [cnodes] at hcn
      have g0 : wo.cell? ⟨wr.heap.size, 0, none⟩ = some (.int .i64 xi) := by rw [hbk.cell 0]; rfl
      have g1 : wo.cell? ⟨wr.heap.size, 1, none⟩ = some (.slice A1 xl.length c1) := by rw [hbk.cell 1]; rfl
      have g2 : wo.cell? ⟨wr.heap.size, 2, none⟩ = some (.slice A2 xp.length c2) := by rw [hbk.cell 2]; rfl
      have Hwo := Lib.hid hwo
      clear hc hr1 hr2 hs3 hwo hbr hbk
      by_cases hz : cnode ⟨xi, xl, xp⟩ p = 0
      · rw [if_pos hz] at hcn
        rw [hz] at HN
        have HN := Lib.hid HN
        have Hcn := Lib.hid hcn
        clear hcn hz
        go_wp2_with fail
        rw [← Hwo.out]
        refine HN.out.mono ?_
        rintro e w8 ⟨rfl, hb8⟩
        have k0 : w8.cell? ⟨wr.heap.size, 0, none⟩ = some (.int .i64 xi) := (hb8.cell (p := ⟨wr.heap.size, 0, none⟩) hos).trans g0
        have hb9 := hbo.trans (hb8.mono hbo.size)
        clear g0 g1 g2 hb8
        go_wp2
        go_roundw
        case rel => exact ⟨k + 1, xi, by omega, by go_num, rfl, Hcn.out, hb9⟩
        case measure => simp [intOf]; omega
      · rw [if_neg hz] at hcn
        obtain ⟨c, hcc⟩ : ∃ c, c = cnode ⟨xi, xl, xp⟩ p := ⟨_, rfl⟩
        rw [← hcc] at hz hcn HN
        have HN := Lib.hid HN
        have Hcn := Lib.hid hcn
        have hne : (c != 0) = true := by simpa using hz
        clear hcn hz hcc
        go_wp2_with fail
        rw [← Hwo.out]
        refine HN.out.mono ?_
        rintro e w8 ⟨rfl, hb8⟩
        have hb9 := hbo.trans (hb8.mono hbo.size)
        clear g0 g1 g2 hb8
        go_wp2
        go_ret2
        exact ⟨by rw [← Hcn.out]; rfl, hb9⟩
    · rw [List.drop_of_length_le (by omega)] at hcn
      have Hcn := Lib.hid hcn
      clear hcn
      go_wp2
      go_ret2
      exact ⟨by rw [← Hcn.out]; rfl, hbw⟩

end Go.Proofs.YthnaipgdjbaebaaGreat

/- The set of the nodes' ids. -/
namespace Go.Proofs.YthnaipgdjbaebaaGreat
open Go.RowKit Go.Maps
set_option linter.unusedVariables false

theorem lawI : Keyed Tryz.prog 3 := int_keyed Tryz.underlying3
/-- ids as keys -/
def idKeys (L : List Nv) : List Lit := L.map fun n => Lit.int .i64 n.id
theorem idKeys_snoc (L : List Nv) (n : Nv) : idKeys (L ++ [n]) = idKeys L ++ [Lit.int .i64 n.id] := by simp [idKeys]
theorem takeN {L : List Nv} {k : Nat} (h : k < L.length) : L.take (k + 1) = L.take k ++ [nthN L k] := by
  have := nthN_get h
  rw [List.getElem?_eq_getElem h] at this
  injection this with this
  rw [List.take_succ_eq_append_getElem h, this]
/-- the ids' map -/
def idSet (L : List Nv) : DataW Unit := setOf (.agg []) (idKeys L)

set_option maxRecDepth 100000 in
set_option maxHeartbeats 1000000 in
theorem nodeIds_any (A : Option Addr) (cap B : Nat) (L : List Nv) (w : World) (h : NodesR w B A L) (hB : B ≤ w.heap.size) (hl : L.length ≤ 140737488351232) :
    Calls Tryz.prog 39 #[.slice A L.length cap] w fun e w' => e = .returned (.map (some w.heap.size)) ∧ w'.ownsMap Tryz.prog 3 unitElem w.heap.size L.length (idSet L) ∧ Below w.heap.size w w' := by
  have hmm := @run_makeMap Tryz.prog
  have H := Lib.hid h
  clear h
  go_enter Tryz.func39, Tryz.ntmps39
  go_wp2
  go_loopw [9] (fun i wr => ∃ k : Nat, k ≤ L.length ∧ i = .int .i64 k ∧ wr.ownsMap Tryz.prog 3 unitElem w.heap.size k (idSet (L.take k)) ∧ Below w.heap.size w wr ∧ w.heap.size < wr.heap.size) (fun i _ => L.length - (intOf i).toNat)
  case atStart => exact ⟨0, Nat.zero_le _, rfl, World.ownsMap_made _ _ _ _, (Below.refl _ _).alloc (Nat.le_refl _) _, by simp⟩
  case round =>
    obtain ⟨k, hk, rfl, hown, hbw, hws⟩ := hrel
    by_cases hlt : k < L.length
    · obtain ⟨b, off, rfl, hbB, A1, c1, A2, c2, hc, -, -, ⟨i1, i2⟩, -⟩ := (NodesR.below H.out (hbw.mono hB)) k _ (nthN_get hlt)
      obtain ⟨q0, q1, q2⟩ := node_cells hc
      have hst : idSet (L.take (k + 1)) = (idSet (L.take k)).put (Lit.int .i64 (nthN L k).id) (.agg []) := by
        unfold idSet
        rw [takeN hlt, idKeys_snoc, setOf_snoc]
      generalize nthN L k = x at *
      obtain ⟨xi, xl, xp⟩ := x
      simp only at q0 q1 q2 i1 i2 hst
      have hkey : keyOf Tryz.prog 3 (.int .i64 xi) = some (.int .i64 xi) := keyOf_int_mk Tryz.underlying3 (WalkArith.wf_i64 (by omega))
      have Hst := Lib.hid hst
      have hbo := hbw.alloc hbw.size (.cells #[.int .i64 xi, .slice A1 xl.length c1, .slice A2 xp.length c2] 40)
      clear hc hst
      go_wp2_with (at_mapUpdate; refine wpList_mapUpdate_own _ rfl _ _ _ 65 rfl 3 86 lawI Tryz.underlying65 (unitElem (H := Unit)) w.heap.size k _ rfl (hown.alloc _) (by unfold maxLen; omega) _ _ _ rfl rfl hkey _ [] unitElem_mk ?_; intro w1 hown1 hgrow1)
      have s1 := hgrow1.size
      simp at s1
      have hb1 : Below w.heap.size w w1 := hbo.grown hgrow1 (by simp; omega) (fun j hj => by cases hj; exact Nat.le_refl _)
      go_roundw
      case rel => exact ⟨k + 1, by omega, by go_num, by rw [Hst.out]; exact hown1, hb1, by omega⟩
      case measure => simp [intOf]; omega
    · rw [List.take_of_length_le (by omega)] at hown
      obtain rfl : k = L.length := by omega
      go_wp2
      go_ret
      exact ⟨rfl, hown, hbw⟩

/-- is there a node of that id? -/
def hasId (L : List Nv) (n : Int) : Bool := L.any fun x => decide (x.id = n)
theorem has_idSet (L : List Nv) (n : Int) (h : ∀ x ∈ L, i64ok x.id) : Maps.has (idSet L) (Lit.int .i64 n) = hasId L n := by
  unfold idSet
  rw [has_setOf]
  · unfold idKeys hasId
    rw [List.any_map]
    congr 1
    funext x
    simp [Lit.sameKey]
  · intro x hx
    unfold idKeys at hx
    obtain ⟨y, hy, rfl⟩ := List.mem_map.1 hx
    trivial

/-- the first error of a relationship -/
def crel (r : Rv) (prev : Int) (L : List Nv) : Int :=
  if cid r.id prev 2048 62 = 0 then (if goodN r.typ = false then 60 else if hasId L r.src = true ∧ hasId L r.dst = true then cpropsAll r.props else 65) else cid r.id prev 2048 62

end Go.Proofs.YthnaipgdjbaebaaGreat

/- The program's checks of relationships. -/
namespace Go.Proofs.YthnaipgdjbaebaaGreat
open Go.RowKit Go.Maps
set_option linter.unusedVariables false

theorem zeroU (w : World) : (zeroValue 86).run Tryz.prog w = .ok (.agg #[]) w := by kernel_rfl

set_option maxRecDepth 100000 in
set_option maxHeartbeats 4000000 in
theorem checkRel_any (r : Rv) (A : Option Addr) (c : Nat) (B : Nat) (prev : Int) (L : List Nv) (mb n : Nat) (w : World) (hP : PropsR w B A r.props) (hB : B ≤ w.heap.size) (hi : i64ok r.id) (hsr : i64ok r.src) (hds : i64ok r.dst)
    (ht : r.typ.size ≤ 140737488351232) (h2 : r.props.length ≤ 140737488351232) (hm : w.ownsMap Tryz.prog 3 unitElem mb n (idSet L)) (hL : ∀ x ∈ L, i64ok x.id) :
    Calls Tryz.prog 63 #[.agg #[.int .i64 r.id, .string r.typ, .int .i64 r.src, .int .i64 r.dst, .slice A r.props.length c], .int .i64 prev, .map (some mb)] w fun e w' => e = .returned (.int .i64 (crel r prev L)) ∧ Below w.heap.size w w' := by
  obtain ⟨rid, rty, rsrc, rdst, rps⟩ := r
  simp only at hP hi hsr hds ht h2 ⊢
  have hh1 := has_idSet L rsrc hL
  have hh2 := has_idSet L rdst hL
  obtain ⟨i1, i2⟩ := hsr
  obtain ⟨i3, i4⟩ := hds
  have hkey1 : keyOf Tryz.prog 3 (.int .i64 rsrc) = some (.int .i64 rsrc) := keyOf_int_mk Tryz.underlying3 (WalkArith.wf_i64 (by omega))
  have hkey2 : keyOf Tryz.prog 3 (.int .i64 rdst) = some (.int .i64 rdst) := keyOf_int_mk Tryz.underlying3 (WalkArith.wf_i64 (by omega))
  obtain ⟨wo, hwo⟩ : ∃ x, x = w.alloc (.cells #[.int .i64 rid, .string rty, .int .i64 rsrc, .int .i64 rdst, .slice A rps.length c] 47) := ⟨_, rfl⟩
  have hbo : Below w.heap.size w wo := by rw [hwo]; exact (Below.refl _ _).alloc (Nat.le_refl _) _
  have hos : w.heap.size < wo.heap.size := by rw [hwo]; simp
  have hmo : wo.ownsMap Tryz.prog 3 unitElem mb n (idSet L) := by rw [hwo]; exact hm.alloc _
  have HI := checkId_any rid prev 2048 62 wo
  have HG := GoodName_any rty wo (by unfold maxLen; omega)
  have hb2 : Below wo.heap.size wo ((wo.alloc (.cells #[] 86)).alloc (.cells #[] 86)) := ((Below.refl _ _).alloc (Nat.le_refl _) _).alloc (by simp) _
  have hbw2 : Below w.heap.size w ((wo.alloc (.cells #[] 86)).alloc (.cells #[] 86)) := hbo.trans (hb2.mono hbo.size)
  have HP := checkProps_any A c B rps ((wo.alloc (.cells #[] 86)).alloc (.cells #[] 86)) (PropsR.below hP (hbw2.mono hB)) (by have := hbw2.size; omega) h2
  have hcn : crel ⟨rid, rty, rsrc, rdst, rps⟩ prev L = if cid rid prev 2048 62 = 0 then (if goodN rty = false then 60 else if hasId L rsrc = true ∧ hasId L rdst = true then cpropsAll rps else 65) else cid rid prev 2048 62 := rfl
  have hbk : Blk wo w.heap.size 47 #[.int .i64 rid, .string rty, .int .i64 rsrc, .int .i64 rdst, .slice A rps.length c] := by rw [hwo]; exact Blk.new _ _ _
  have g0 : wo.cell? ⟨w.heap.size, 0, none⟩ = some (.int .i64 rid) := by rw [hbk.cell 0]; rfl
  have g1 : wo.cell? ⟨w.heap.size, 1, none⟩ = some (.string rty) := by rw [hbk.cell 1]; rfl
  have g2 : wo.cell? ⟨w.heap.size, 2, none⟩ = some (.int .i64 rsrc) := by rw [hbk.cell 2]; rfl
  have g3 : wo.cell? ⟨w.heap.size, 3, none⟩ = some (.int .i64 rdst) := by rw [hbk.cell 3]; rfl
  have g4 : wo.cell? ⟨w.heap.size, 4, none⟩ = some (.slice A rps.length c) := by rw [hbk.cell 4]; rfl
  have Hwo := Lib.hid hwo
  have Hbw2 := Lib.hid hbw2
  clear hwo hbk hP hm hb2 hbw2 hL
  by_cases hz : cid rid prev 2048 62 = 0
  · rw [if_pos hz] at hcn
    rw [hz] at HI
    have HI := Lib.hid HI
    rcases hg : goodN rty with _ | _
    · rw [if_pos hg] at hcn
      rw [hg] at HG
      have HG := Lib.hid HG
      have Hcn := Lib.hid hcn
      clear hcn hz hg HP hh1 hh2
      go_enter Tryz.func63, Tryz.ntmps63
      go_wp2_with fail
      rw [← Hwo.out]
      refine HI.out.mono ?_
      rintro e w' ⟨rfl, rfl⟩
      go_wp2_with fail
      refine HG.out.mono ?_
      rintro e w' ⟨rfl, rfl⟩
      clear g0 g1 g2 g3 g4
      go_wp2
      go_ret
      exact ⟨ret_int Hcn.out.symm, hbo⟩
    · rw [if_neg (by rw [hg]; simp)] at hcn
      rw [hg] at HG
      have HG := Lib.hid HG
      rcases hx1 : hasId L rsrc with _ | _
      · rcases hx2 : hasId L rdst with _ | _
        · have Hcn : Hid (crel ⟨rid, rty, rsrc, rdst, rps⟩ prev L = 65) := Lib.hid (by rw [hcn, if_neg (by rw [hx1, hx2]; simp)])
          rw [hx1] at hh1
          rw [hx2] at hh2
          have HP := Lib.hid HP
          clear hcn hz hg hx1 hx2
          go_enter Tryz.func63, Tryz.ntmps63
          go_wp2_with fail
          rw [← Hwo.out]
          refine HI.out.mono ?_
          rintro e w' ⟨rfl, rfl⟩
          go_wp2_with fail
          refine HG.out.mono ?_
          rintro e w' ⟨rfl, rfl⟩
          go_wp2_with (first | (at_lookup; refine wpList_lookup_own_unit _ rfl (.tmp 24) (.tmp 26) 65 rfl 3 86 lawI Tryz.underlying65 (zeroU _) mb n _ (by rfl) hmo _ _ (by rfl) hkey1 ?_) | (at_lookup; refine wpList_lookup_own_unit _ rfl (.tmp 31) (.tmp 33) 65 rfl 3 86 lawI Tryz.underlying65 (zeroU _) mb n _ (by rfl) (hmo.alloc _) _ _ (by rfl) hkey2 ?_))
          clear g0 g1 g2 g3 g4 hmo hkey1 hkey2
          go_wp2
          go_ret
          exact ⟨ret_int Hcn.out.symm, Hbw2.out⟩
        · have Hcn : Hid (crel ⟨rid, rty, rsrc, rdst, rps⟩ prev L = 65) := Lib.hid (by rw [hcn, if_neg (by rw [hx1, hx2]; simp)])
          rw [hx1] at hh1
          rw [hx2] at hh2
          have HP := Lib.hid HP
          clear hcn hz hg hx1 hx2
          go_enter Tryz.func63, Tryz.ntmps63
          go_wp2_with fail
          rw [← Hwo.out]
          refine HI.out.mono ?_
          rintro e w' ⟨rfl, rfl⟩
          go_wp2_with fail
          refine HG.out.mono ?_
          rintro e w' ⟨rfl, rfl⟩
          go_wp2_with (first | (at_lookup; refine wpList_lookup_own_unit _ rfl (.tmp 24) (.tmp 26) 65 rfl 3 86 lawI Tryz.underlying65 (zeroU _) mb n _ (by rfl) hmo _ _ (by rfl) hkey1 ?_) | (at_lookup; refine wpList_lookup_own_unit _ rfl (.tmp 31) (.tmp 33) 65 rfl 3 86 lawI Tryz.underlying65 (zeroU _) mb n _ (by rfl) (hmo.alloc _) _ _ (by rfl) hkey2 ?_))
          clear g0 g1 g2 g3 g4 hmo hkey1 hkey2
          go_wp2
          go_ret
          exact ⟨ret_int Hcn.out.symm, Hbw2.out⟩
      · rcases hx2 : hasId L rdst with _ | _
        · have Hcn : Hid (crel ⟨rid, rty, rsrc, rdst, rps⟩ prev L = 65) := Lib.hid (by rw [hcn, if_neg (by rw [hx1, hx2]; simp)])
          rw [hx1] at hh1
          rw [hx2] at hh2
          have HP := Lib.hid HP
          clear hcn hz hg hx1 hx2
          go_enter Tryz.func63, Tryz.ntmps63
          go_wp2_with fail
          rw [← Hwo.out]
          refine HI.out.mono ?_
          rintro e w' ⟨rfl, rfl⟩
          go_wp2_with fail
          refine HG.out.mono ?_
          rintro e w' ⟨rfl, rfl⟩
          go_wp2_with (first | (at_lookup; refine wpList_lookup_own_unit _ rfl (.tmp 24) (.tmp 26) 65 rfl 3 86 lawI Tryz.underlying65 (zeroU _) mb n _ (by rfl) hmo _ _ (by rfl) hkey1 ?_) | (at_lookup; refine wpList_lookup_own_unit _ rfl (.tmp 31) (.tmp 33) 65 rfl 3 86 lawI Tryz.underlying65 (zeroU _) mb n _ (by rfl) (hmo.alloc _) _ _ (by rfl) hkey2 ?_))
          clear g0 g1 g2 g3 g4 hmo hkey1 hkey2
          go_wp2
          go_ret
          exact ⟨ret_int Hcn.out.symm, Hbw2.out⟩
        · have Hcn : Hid (crel ⟨rid, rty, rsrc, rdst, rps⟩ prev L = cpropsAll rps) := Lib.hid (by rw [hcn, if_pos ⟨hx1, hx2⟩])
          rw [hx1] at hh1
          rw [hx2] at hh2
          have HP := Lib.hid HP
          clear hcn hz hg hx1 hx2
          go_enter Tryz.func63, Tryz.ntmps63
          go_wp2_with fail
          rw [← Hwo.out]
          refine HI.out.mono ?_
          rintro e w' ⟨rfl, rfl⟩
          go_wp2_with fail
          refine HG.out.mono ?_
          rintro e w' ⟨rfl, rfl⟩
          go_wp2_with (first | (at_lookup; refine wpList_lookup_own_unit _ rfl (.tmp 24) (.tmp 26) 65 rfl 3 86 lawI Tryz.underlying65 (zeroU _) mb n _ (by rfl) hmo _ _ (by rfl) hkey1 ?_) | (at_lookup; refine wpList_lookup_own_unit _ rfl (.tmp 31) (.tmp 33) 65 rfl 3 86 lawI Tryz.underlying65 (zeroU _) mb n _ (by rfl) (hmo.alloc _) _ _ (by rfl) hkey2 ?_))
          clear g0 g1 g2 g3 hmo hkey1 hkey2
          refine HP.out.mono ?_
          rintro e w8 ⟨rfl, hb8⟩
          have hb9 := Hbw2.out.trans (hb8.mono Hbw2.out.size)
          clear g4 hb8
          go_wp2
          go_ret
          exact ⟨ret_int Hcn.out.symm, hb9⟩
  · rw [if_neg hz] at hcn
    obtain ⟨x, hx⟩ : ∃ x, x = cid rid prev 2048 62 := ⟨_, rfl⟩
    rw [← hx] at hz hcn HI
    have hne : (x != 0) = true := by simpa using hz
    have HI := Lib.hid HI
    have Hcn := Lib.hid hcn
    clear hcn hz HP HG hx hh1 hh2
    go_enter Tryz.func63, Tryz.ntmps63
    go_wp2_with fail
    rw [← Hwo.out]
    refine HI.out.mono ?_
    rintro e w' ⟨rfl, rfl⟩
    clear g0 g1 g2 g3 g4
    go_wp2
    go_ret
    exact ⟨ret_int Hcn.out.symm, hbo⟩

end Go.Proofs.YthnaipgdjbaebaaGreat

/- The program's check of a list of relationships. -/
namespace Go.Proofs.YthnaipgdjbaebaaGreat
open Go.RowKit Go.Maps
set_option linter.unusedVariables false

theorem dropR {L : List Rv} {k : Nat} (h : k < L.length) : L.drop k = nthR L k :: L.drop (k + 1) := by
  have := nthR_get h
  rw [List.getElem?_eq_getElem h] at this
  injection this with this
  rw [List.drop_eq_getElem_cons h, this]
/-- the first error of a list of relationships, and its place -/
def crels (N : List Nv) (prev : Int) (i : Int) : List Rv → Int × Int
  | [] => (0, 0)
  | r :: l => if crel r prev N = 0 then crels N r.id (i + 1) l else (crel r prev N, i)
theorem ownsMap_block {P : Program} {k : TypeId} {R : Value → Option (DataW Unit × List MemPlace)} {w w' : World} {b n : Nat} {D : DataW Unit} (h : w.ownsMap P k R b n D) (hb : w'.heap[b]? = w.heap[b]?) : w'.ownsMap P k R b n D := by
  obtain ⟨es, clock, h1, h2⟩ := h
  exact ⟨es, clock, hb.trans h1, h2⟩
theorem ownsMap_below {P : Program} {k : TypeId} {R : Value → Option (DataW Unit × List MemPlace)} {w w' : World} {b n : Nat} {D : DataW Unit} (h : w.ownsMap P k R b n D) (hb : Below w.heap.size w w') : w'.ownsMap P k R b n D := ownsMap_block h (hb.block b h.lt)

set_option maxRecDepth 100000 in
set_option maxHeartbeats 1000000 in
theorem checkRels_any (A : Option Addr) (cap B : Nat) (L : List Rv) (w : World) (h : RelsR w B A L) (hB : B ≤ w.heap.size) (hl : L.length ≤ 140737488351232) (N : List Nv) (mb n : Nat) (hm : w.ownsMap Tryz.prog 3 unitElem mb n (idSet N)) (hN : ∀ x ∈ N, i64ok x.id) :
    Calls Tryz.prog 38 #[.slice A L.length cap, .map (some mb)] w fun e w' => e = .returned (.tuple #[.int .i64 (crels N (-1) 0 L).1, .int .i64 (crels N (-1) 0 L).2]) ∧ Below w.heap.size w w' := by
  have H := Lib.hid h
  have HM := Lib.hid hm
  have HN' := Lib.hid hN
  clear h hm hN
  go_enter Tryz.func38, Tryz.ntmps38
  go_wp2
  go_loopw [6, 12] (fun pv i wr => ∃ (k : Nat) (p : Int), k ≤ L.length ∧ i = .int .i64 k ∧ pv = .int .i64 p ∧ crels N p k (L.drop k) = crels N (-1) 0 L ∧ Below w.heap.size w wr) (fun _ i _ => L.length - (intOf i).toNat)
  case atStart => exact ⟨0, -1, Nat.zero_le _, rfl, rfl, rfl, Below.refl _ _⟩
  case round =>
    obtain ⟨k, p, hk, rfl, rfl, hcn, hbw⟩ := hrel
    by_cases hlt : k < L.length
    · obtain ⟨b, off, rfl, hbB, A1, c1, hc, hr1, hi, hs, hd, ht, hp⟩ := (RelsR.below H.out (hbw.mono hB)) k _ (nthR_get hlt)
      obtain ⟨q0, q1, q2, q3, q4⟩ := rel_cells hc
      have hsz := hbw.size
      rw [dropR hlt] at hcn
      obtain ⟨wo, hwo⟩ : ∃ x, x = wr.alloc (.cells #[.int .i64 (nthR L k).id, .string (nthR L k).typ, .int .i64 (nthR L k).src, .int .i64 (nthR L k).dst, .slice A1 (nthR L k).props.length c1] 47) := ⟨_, rfl⟩
      have hbo : Below w.heap.size w wo := by rw [hwo]; exact hbw.alloc hsz _
      have hbr : Below wr.heap.size wr wo := by rw [hwo]; exact (Below.refl _ _).alloc (Nat.le_refl _) _
      have hos : wr.heap.size < wo.heap.size := by rw [hwo]; simp
      have hbk : Blk wo wr.heap.size 47 #[.int .i64 (nthR L k).id, .string (nthR L k).typ, .int .i64 (nthR L k).src, .int .i64 (nthR L k).dst, .slice A1 (nthR L k).props.length c1] := by rw [hwo]; exact Blk.new _ _ _
      have HN := checkRel_any (nthR L k) A1 c1 B p N mb n wo (PropsR.below hr1 (hbr.mono (by omega))) (by omega) hi hs hd ht hp (ownsMap_below HM.out hbo) HN'.out
      generalize nthR L k = x at *
      obtain ⟨xi, xt, xs, xd, xp⟩ := x
      simp only at q0 q1 q2 q3 q4 hbk HN hwo
      simp only [crels] at hcn
      have g0 : wo.cell? ⟨wr.heap.size, 0, none⟩ = some (.int .i64 xi) := by rw [hbk.cell 0]; rfl
      have g1 : wo.cell? ⟨wr.heap.size, 1, none⟩ = some (.string xt) := by rw [hbk.cell 1]; rfl
      have g2 : wo.cell? ⟨wr.heap.size, 2, none⟩ = some (.int .i64 xs) := by rw [hbk.cell 2]; rfl
      have g3 : wo.cell? ⟨wr.heap.size, 3, none⟩ = some (.int .i64 xd) := by rw [hbk.cell 3]; rfl
      have g4 : wo.cell? ⟨wr.heap.size, 4, none⟩ = some (.slice A1 xp.length c1) := by rw [hbk.cell 4]; rfl
      have Hwo := Lib.hid hwo
      clear hc hr1 hi hs hd ht hwo hbr hbk
      by_cases hz : crel ⟨xi, xt, xs, xd, xp⟩ p N = 0
      · rw [if_pos hz] at hcn
        rw [hz] at HN
        have HN := Lib.hid HN
        have Hcn := Lib.hid hcn
        clear hcn hz
        go_wp2_with fail
        rw [← Hwo.out]
        refine HN.out.mono ?_
        rintro e w8 ⟨rfl, hb8⟩
        have k0 : w8.cell? ⟨wr.heap.size, 0, none⟩ = some (.int .i64 xi) := (hb8.cell (p := ⟨wr.heap.size, 0, none⟩) hos).trans g0
        have hb9 := hbo.trans (hb8.mono hbo.size)
        clear g0 g1 g2 g3 g4 hb8
        go_wp2
        go_roundw
        case rel => exact ⟨k + 1, xi, by omega, by go_num, rfl, Hcn.out, hb9⟩
        case measure => simp [intOf]; omega
      · rw [if_neg hz] at hcn
        obtain ⟨c, hcc⟩ : ∃ c, c = crel ⟨xi, xt, xs, xd, xp⟩ p N := ⟨_, rfl⟩
        rw [← hcc] at hz hcn HN
        have HN := Lib.hid HN
        have Hcn := Lib.hid hcn
        have hne : (c != 0) = true := by simpa using hz
        clear hcn hz hcc
        go_wp2_with fail
        rw [← Hwo.out]
        refine HN.out.mono ?_
        rintro e w8 ⟨rfl, hb8⟩
        have hb9 := hbo.trans (hb8.mono hbo.size)
        clear g0 g1 g2 g3 g4 hb8
        go_wp2
        go_ret2
        exact ⟨by rw [← Hcn.out]; rfl, hb9⟩
    · rw [List.drop_of_length_le (by omega)] at hcn
      have Hcn := Lib.hid hcn
      clear hcn
      go_wp2
      go_ret2
      exact ⟨by rw [← Hcn.out]; rfl, hbw⟩

end Go.Proofs.YthnaipgdjbaebaaGreat

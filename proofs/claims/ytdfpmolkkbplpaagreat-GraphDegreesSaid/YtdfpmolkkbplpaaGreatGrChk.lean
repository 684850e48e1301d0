/- The program's checks of a graph, function by function. -/
import Derived.Test.YtdfpmolkkbplpaaGreatGrName
import Derived.WalkLawsBesides
namespace Go.Proofs.YtdfpmolkkbplpaaGreat
open Go.RowKit
set_option linter.unusedVariables false

/-- the error of an id that follows another -/
def cid (id prev lim wrong : Int) : Int := if id < 0 ∨ lim ≤ id then wrong else if id ≤ prev then 6 else 0
set_option maxHeartbeats 400000 in
theorem checkId_any (id prev lim wrong : Int) (w : World) :
    Calls Tryz.prog 86 #[.int .i64 id, .int .i64 prev, .int .i64 lim, .int .i64 wrong] w fun e w' => e = .returned (.int .i64 (cid id prev lim wrong)) ∧ w = w' := by
  by_cases h1 : id < 0
  · have HC : Hid (cid id prev lim wrong = wrong) := Lib.hid (by unfold cid; rw [if_pos (.inl h1)])
    go_enter Tryz.func86, Tryz.ntmps86
    go_wp2
    go_ret
    exact ⟨ret_int HC.out.symm, rfl⟩
  by_cases h2 : lim ≤ id
  · have HC : Hid (cid id prev lim wrong = wrong) := Lib.hid (by unfold cid; rw [if_pos (.inr h2)])
    go_enter Tryz.func86, Tryz.ntmps86
    go_wp2
    go_ret
    exact ⟨ret_int HC.out.symm, rfl⟩
  by_cases h3 : id ≤ prev
  · have HC : Hid (cid id prev lim wrong = 6) := Lib.hid (by unfold cid; rw [if_neg (by omega), if_pos h3])
    go_enter Tryz.func86, Tryz.ntmps86
    go_wp2
    go_ret
    exact ⟨ret_int HC.out.symm, rfl⟩
  · have HC : Hid (cid id prev lim wrong = 0) := Lib.hid (by unfold cid; rw [if_neg (by omega), if_neg h3])
    go_enter Tryz.func86, Tryz.ntmps86
    go_wp2
    go_ret
    exact ⟨ret_int HC.out.symm, rfl⟩

/-- '<=' of texts -/
def leS (s p : ByteArray) : Bool := Op.bytesLess s.toList p.toList || (s.toList == p.toList)
/-- the error of a name that follows another -/
def cname (s p : ByteArray) : Int := if goodN s = false then 60 else if leS s p = true then 6 else 0
set_option maxHeartbeats 400000 in
theorem checkName_any (s p : ByteArray) (w : World) (hs : s.size ≤ maxLen) :
    Calls Tryz.prog 115 #[.string s, .string p] w fun e w' => e = .returned (.int .i64 (cname s p)) ∧ w = w' := by
  have HG := GoodName_any s w hs
  rcases hg : goodN s with _ | _
  · rw [hg] at HG
    have HG := Lib.hid HG
    have HC : Hid (cname s p = 60) := Lib.hid (by unfold cname; rw [if_pos hg])
    clear hg
    go_enter Tryz.func115, Tryz.ntmps115
    go_wp2_with (go_at_call 16; refine HG.out.mono ?_; rintro e w' ⟨rfl, rfl⟩)
    go_ret
    exact ⟨ret_int HC.out.symm, rfl⟩
  · rw [hg] at HG
    have HG := Lib.hid HG
    have HC : Hid (cname s p = if leS s p = true then 6 else 0) := Lib.hid (by unfold cname; rw [if_neg (by rw [hg]; simp)])
    clear hg
    go_enter Tryz.func115, Tryz.ntmps115
    go_wp2_with (go_at_call 16; refine HG.out.mono ?_; rintro e w' ⟨rfl, rfl⟩)
    · go_ret
      have hh : Op.bytesLess s.toList p.toList = true ∨ (s.toList == p.toList) = true := by assumption
      exact ⟨ret_int (by rw [HC.out, if_pos (by unfold leS; simpa using hh)]), rfl⟩
    · go_ret
      have hh : Op.bytesLess s.toList p.toList = false ∧ (s.toList == p.toList) = false := by assumption
      exact ⟨ret_int (by rw [HC.out, if_neg (by unfold leS; rw [hh.1, hh.2]; simp)]), rfl⟩

/-- the first error of a list of names, each behind the one ahead of it -/
def cnames (prev : ByteArray) : List ByteArray → Int
  | [] => 0
  | s :: l => if cname s prev = 0 then cnames s l else cname s prev
/-- the first error of a node's labels -/
def clabels (L : List ByteArray) : Int := if 8 < L.length then 63 else cnames .empty L
theorem cnames_drop {L : List ByteArray} {k : Nat} (h : k < L.length) (p : ByteArray) : cnames p (L.drop k) = if cname (nthS L k) p = 0 then cnames (nthS L k) (L.drop (k + 1)) else cname (nthS L k) p := by
  rw [dropS h, cnames]

set_option maxRecDepth 100000 in
set_option maxHeartbeats 1000000 in
theorem checkLabels_any (A : Option Addr) (cap B : Nat) (L : List ByteArray) (w : World) (h : RL svl w B A L) (hl : L.length ≤ 140737488351232) (hs : ∀ s ∈ L, s.size ≤ 140737488351232) :
    Calls Tryz.prog 87 #[.slice A L.length cap] w fun e w' => e = .returned (.int .i64 (clabels L)) ∧ w = w' := by
  by_cases h8 : 8 < L.length
  · have HC : Hid (clabels L = 63) := Lib.hid (by unfold clabels; rw [if_pos h8])
    go_enter Tryz.func87, Tryz.ntmps87
    go_wp2
    go_ret
    exact ⟨ret_int HC.out.symm, rfl⟩
  · have HC : Hid (clabels L = cnames .empty L) := Lib.hid (by unfold clabels; rw [if_neg h8])
    have Hs := Lib.hid hs
    clear hs
    go_enter Tryz.func87, Tryz.ntmps87
    go_wp2
    go_loop [3, 12] (fun pv i => ∃ (k : Nat) (p : ByteArray), k ≤ L.length ∧ i = .int .i64 k ∧ pv = .string p ∧ cnames p (L.drop k) = cnames .empty L) (fun _ i => L.length - (intOf i).toNat)
    case atStart => exact ⟨0, .empty, Nat.zero_le _, rfl, rfl, rfl⟩
    case round =>
      obtain ⟨k, p, hk, rfl, rfl, hcn⟩ := hrel
      by_cases hlt : k < L.length
      · obtain ⟨b, off, rfl, -, hc⟩ := h.allS (by omega)
        have hck := hc k hlt
        have hx := Hs.out (nthS L k) (by rw [nthS_lt hlt]; exact List.getElem_mem hlt)
        rw [cnames_drop hlt] at hcn
        have HN := checkName_any (nthS L k) p w (by unfold maxLen; omega)
        obtain ⟨x, hxx⟩ : ∃ x, x = nthS L k := ⟨_, rfl⟩
        rw [← hxx] at hck hx hcn HN
        by_cases hz : cname x p = 0
        · rw [if_pos hz] at hcn
          rw [hz] at HN
          have HN := Lib.hid HN
          have Hcn := Lib.hid hcn
          clear hcn hz hc hxx
          go_wp2_with (go_at_call 115; refine HN.out.mono ?_; rintro e w' ⟨rfl, rfl⟩)
          go_round
          case rel => exact ⟨k + 1, x, by omega, by go_num, rfl, Hcn.out⟩
          case measure => simp [intOf]; omega
        · rw [if_neg hz] at hcn
          obtain ⟨c, hcc⟩ : ∃ c, c = cname x p := ⟨_, rfl⟩
          rw [← hcc] at hz hcn HN
          have HN := Lib.hid HN
          have Hcn := Lib.hid hcn
          have hne : (c != 0) = true := by simpa using hz
          clear hcn hz hc hxx hcc
          go_wp2_with (go_at_call 115; refine HN.out.mono ?_; rintro e w' ⟨rfl, rfl⟩)
          go_ret
          exact ⟨ret_int (by rw [HC.out, ← Hcn.out]), rfl⟩
      · rw [List.drop_of_length_le (by omega)] at hcn
        have Hcn := Lib.hid hcn
        clear hcn
        go_wp2
        go_ret
        exact ⟨ret_int (by rw [HC.out, ← Hcn.out]; rfl), rfl⟩

/-! ### properties -/
def nthP (L : List Pv) (k : Nat) : Pv := L.getD k ⟨.empty, ⟨0, 0, .empty, [], []⟩⟩
theorem nthP_get {L : List Pv} {k : Nat} (h : k < L.length) : L[k]? = some (nthP L k) := by
  unfold nthP; rw [List.getD_eq_getElem?_getD, List.getElem?_eq_getElem h]; rfl
theorem dropP {L : List Pv} {k : Nat} (h : k < L.length) : L.drop k = nthP L k :: L.drop (k + 1) := by
  have := nthP_get h
  rw [List.getElem?_eq_getElem h] at this
  injection this with this
  rw [List.drop_eq_getElem_cons h, this]
/-- the first error of a list of properties -/
def cprops (prev : ByteArray) : List Pv → Int
  | [] => 0
  | p :: l => if cname p.key prev = 0 then (if chk p.val = 0 then cprops p.key l else chk p.val) else cname p.key prev
def cpropsAll (L : List Pv) : Int := if 16 < L.length then 64 else cprops .empty L

set_option maxRecDepth 100000 in
set_option maxHeartbeats 2000000 in
theorem checkProps_any (A : Option Addr) (cap B : Nat) (L : List Pv) (w : World) (h : PropsR w B A L) (hB : B ≤ w.heap.size) (hl : L.length ≤ 140737488351232) :
    Calls Tryz.prog 88 #[.slice A L.length cap] w fun e w' => e = .returned (.int .i64 (cpropsAll L)) ∧ Below w.heap.size w w' := by
  by_cases h8 : 16 < L.length
  · have HC : Hid (cpropsAll L = 64) := Lib.hid (by unfold cpropsAll; rw [if_pos h8])
    go_enter Tryz.func88, Tryz.ntmps88
    go_wp2
    go_ret
    exact ⟨ret_int HC.out.symm, Below.refl _ _⟩
  · have HC : Hid (cpropsAll L = cprops .empty L) := Lib.hid (by unfold cpropsAll; rw [if_neg h8])
    have H := Lib.hid h
    clear h
    go_enter Tryz.func88, Tryz.ntmps88
    go_wp2
    go_loopw [3, 13] (fun pv i wr => ∃ (k : Nat) (p : ByteArray), k ≤ L.length ∧ i = .int .i64 k ∧ pv = .string p ∧ cprops p (L.drop k) = cprops .empty L ∧ Below w.heap.size w wr) (fun _ i _ => L.length - (intOf i).toNat)
    case atStart => exact ⟨0, .empty, Nat.zero_le _, rfl, rfl, rfl, Below.refl _ _⟩
    case round =>
      obtain ⟨k, p, hk, rfl, rfl, hcn, hbw⟩ := hrel
      by_cases hlt : k < L.length
      · obtain ⟨b, off, rfl, hbB, A1, c1, A2, c2, hc, hr1, hr2, hok, hks⟩ := (PropsR.below H.out (hbw.mono hB)) k _ (nthP_get hlt)
        obtain ⟨q0, q1, q2, q3, q4, q5⟩ := prop_cells hc
        have hsz := hbw.size
        rw [dropP hlt] at hcn
        generalize nthP L k = x at *
        obtain ⟨key, ⟨vk, vn, vs, ns, ts⟩⟩ := x
        simp only at q0 q1 q2 q3 q4 q5 hr1 hr2 hks
        simp only [cprops] at hcn
        obtain ⟨wo, hwo⟩ : ∃ x, x = wr.alloc (.cells #[.string key, .int .i64 vk, .int .i64 vn, .string vs, .slice A1 ns.length c1, .slice A2 ts.length c2] 45) := ⟨_, rfl⟩
        have hbo : Below w.heap.size w wo := by rw [hwo]; exact hbw.alloc hsz _
        have hos : wr.heap.size < wo.heap.size := by rw [hwo]; simp
        have hbk : Blk wo wr.heap.size 45 #[.string key, .int .i64 vk, .int .i64 vn, .string vs, .slice A1 ns.length c1, .slice A2 ts.length c2] := by rw [hwo]; exact Blk.new _ _ _
        have HN := checkName_any key p wo (by unfold maxLen; omega)
        have hvr : VR wo B ⟨vk, vn, vs, ns, ts⟩ (vagg ⟨vk, vn, vs, ns, ts⟩ A1 c1 A2 c2) := ⟨A1, c1, A2, c2, rfl, by rw [hwo]; exact hr1.alloc (by omega) _, by rw [hwo]; exact hr2.alloc (by omega) _, hok⟩
        have HV := Check_any ⟨vk, vn, vs, ns, ts⟩ _ B wo hvr (by omega)
        unfold vagg at HV
        simp only at HV
        have g0 : wo.cell? ⟨wr.heap.size, 0, none⟩ = some (.string key) := by rw [hbk.cell 0]; rfl
        have g1 : wo.cell? ⟨wr.heap.size, 1, none⟩ = some (.int .i64 vk) := by rw [hbk.cell 1]; rfl
        have g2 : wo.cell? ⟨wr.heap.size, 2, none⟩ = some (.int .i64 vn) := by rw [hbk.cell 2]; rfl
        have g3 : wo.cell? ⟨wr.heap.size, 3, none⟩ = some (.string vs) := by rw [hbk.cell 3]; rfl
        have g4 : wo.cell? ⟨wr.heap.size, 4, none⟩ = some (.slice A1 ns.length c1) := by rw [hbk.cell 4]; rfl
        have g5 : wo.cell? ⟨wr.heap.size, 5, none⟩ = some (.slice A2 ts.length c2) := by rw [hbk.cell 5]; rfl
        have Hwo := Lib.hid hwo
        clear hc hr1 hr2 hok hwo hvr
        by_cases hz : cname key p = 0
        · rw [if_pos hz] at hcn
          rw [hz] at HN
          have HN := Lib.hid HN
          by_cases hz2 : chk ⟨vk, vn, vs, ns, ts⟩ = 0
          · rw [if_pos hz2] at hcn
            rw [hz2] at HV
            have HV := Lib.hid HV
            have Hcn := Lib.hid hcn
            have Hbk := Lib.hid hbk
            clear hcn hz hz2 hbk
            go_wp2_with fail
            rw [← Hwo.out]
            refine HN.out.mono ?_
            rintro e w' ⟨rfl, rfl⟩
            go_wp2_with fail
            refine HV.out.mono ?_
            rintro e w8 ⟨rfl, hb8⟩
            have k0 : w8.cell? ⟨wr.heap.size, 0, none⟩ = some (.string key) := (hb8.cell (p := ⟨wr.heap.size, 0, none⟩) hos).trans g0
            have hb9 := hbo.trans (hb8.mono hbo.size)
            clear g0 g1 g2 g3 g4 g5 hb8
            go_wp2
            go_roundw
            case rel => exact ⟨k + 1, key, by omega, by go_num, rfl, Hcn.out, hb9⟩
            case measure => simp [intOf]; omega
          · rw [if_neg hz2] at hcn
            obtain ⟨c, hcc⟩ : ∃ c, c = chk ⟨vk, vn, vs, ns, ts⟩ := ⟨_, rfl⟩
            rw [← hcc] at hz2 hcn HV
            have HV := Lib.hid HV
            have Hcn := Lib.hid hcn
            have hne : (c != 0) = true := by simpa using hz2
            clear hcn hz hz2 hbk hcc
            go_wp2_with fail
            rw [← Hwo.out]
            refine HN.out.mono ?_
            rintro e w' ⟨rfl, rfl⟩
            go_wp2_with fail
            refine HV.out.mono ?_
            rintro e w8 ⟨rfl, hb8⟩
            have hb9 := hbo.trans (hb8.mono hbo.size)
            clear g0 g1 g2 g3 g4 g5 hb8
            go_wp2
            go_ret
            exact ⟨ret_int (by rw [HC.out, ← Hcn.out]), hb9⟩
        · rw [if_neg hz] at hcn
          obtain ⟨c, hcc⟩ : ∃ c, c = cname key p := ⟨_, rfl⟩
          rw [← hcc] at hz hcn HN
          have HN := Lib.hid HN
          have Hcn := Lib.hid hcn
          have hne : (c != 0) = true := by simpa using hz
          clear hcn hz hbk hcc HV
          go_wp2_with fail
          rw [← Hwo.out]
          refine HN.out.mono ?_
          rintro e w' ⟨rfl, rfl⟩
          clear g0 g1 g2 g3 g4 g5
          go_wp2
          go_ret
          exact ⟨ret_int (by rw [HC.out, ← Hcn.out]), hbo⟩
      · rw [List.drop_of_length_le (by omega)] at hcn
        have Hcn := Lib.hid hcn
        clear hcn
        go_wp2
        go_ret
        exact ⟨ret_int (by rw [HC.out, ← Hcn.out]; rfl), hbw⟩

end Go.Proofs.YtdfpmolkkbplpaaGreat

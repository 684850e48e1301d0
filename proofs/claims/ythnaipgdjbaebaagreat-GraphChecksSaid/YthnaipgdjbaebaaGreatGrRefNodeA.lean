/- The document's PropsWrong. -/
import Derived.Test.YthnaipgdjbaebaaGreatGrRels
import Derived.Test.YthnaipgdjbaebaaGreatGrRefName
import Derived.Test.YthnaipgdjbaebaaGreatValRef2
import Derived.Deep.QuietTactic
import Derived.BigQuiet
import Derived.Deep.RegionLaw
import Derived.IntWalk
import Derived.WalkLawsBesides
import Derived.Test.YthnaipgdjbaebaaGreatGrCheck
import Derived.Test.YthnaipgdjbaebaaGreatGrCopyA
import Derived.Deep.WholeRow
namespace Go.Proofs.YthnaipgdjbaebaaGreat
open Go.RowKit
set_option linter.unusedVariables false

theorem leS_empty {s : ByteArray} (h : goodN s = true) : leS s .empty = false := by
  have h0 : s.size ≠ 0 := fun e => by rw [goodN_short e] at h; cases h
  have h2 : (ByteArray.empty).toList = [] := by simp
  have h1 : s.toList ≠ [] := fun e => h0 (by have := str_inj (a := s) (b := .empty) (by rw [e, h2]); rw [this]; rfl)
  unfold leS
  rw [h2]
  cases hs : s.toList with
  | nil => exact absurd hs h1
  | cons a l => simp [Op.bytesLess]

set_option maxRecDepth 100000 in
set_option maxHeartbeats 2000000 in
theorem refPropsWrong_any (A : Option Addr) (cap B : Nat) (L : List Pv) (w : World) (h : PropsR w B A L) (hB : B ≤ w.heap.size) (hl : L.length ≤ 140737488351232) :
    Calls Tryz.prog 42 #[.slice A L.length cap] w fun e w' => e = .returned (.int .i64 (cpropsAll L)) ∧ Below w.heap.size w w' := by
  by_cases h8 : 16 < L.length
  · have HC : Hid (cpropsAll L = 64) := Lib.hid (by unfold cpropsAll; rw [if_pos h8])
    go_enter Tryz.func42, Tryz.ntmps42
    go_wp2
    go_ret
    exact ⟨ret_int HC.out.symm, Below.refl _ _⟩
  · have HC : Hid (cpropsAll L = cprops .empty L) := Lib.hid (by unfold cpropsAll; rw [if_neg h8])
    have H := Lib.hid h
    clear h
    go_enter Tryz.func42, Tryz.ntmps42
    go_wp2
    go_loopw [3] (fun i wr => ∃ (k : Nat) (p : ByteArray), k ≤ L.length ∧ i = .int .i64 k ∧ (k = 0 → p = .empty) ∧ (∀ m, k = m + 1 → p = (nthP L m).key) ∧ cprops p (L.drop k) = cprops .empty L ∧ Below w.heap.size w wr) (fun i _ => L.length - (intOf i).toNat)
    case atStart => exact ⟨0, .empty, Nat.zero_le _, rfl, fun _ => rfl, (fun m h => by cases h), rfl, Below.refl _ _⟩
    case round =>
      obtain ⟨k, p, hk, rfl, hp0, hp1, hcn, hbw⟩ := hrel
      by_cases hlt : k < L.length
      · have HR := Lib.hid (PropsR.below H.out (hbw.mono hB))
        obtain ⟨b, off, rfl, hbB, A1, c1, A2, c2, hc, hr1, hr2, hok, hks⟩ := HR.out k _ (nthP_get hlt)
        obtain ⟨q0, q1, q2, q3, q4, q5⟩ := prop_cells hc
        have hsz := hbw.size
        rw [dropP hlt] at hcn
        have hkey : Hid ((nthP L k).key = (nthP L k).key) := Lib.hid rfl
        obtain ⟨x, hx⟩ : ∃ x, x = nthP L k := ⟨_, rfl⟩
        rw [← hx] at q0 q1 q2 q3 q4 q5 hr1 hr2 hok hks hcn
        have HX := Lib.hid hx
        obtain ⟨key, ⟨vk, vn, vs, ns, ts⟩⟩ := x
        simp only at q0 q1 q2 q3 q4 q5 hr1 hr2 hks
        simp only [cprops] at hcn
        have hg := Lib.hid (refGoodName_any key wr (by unfold maxLen; omega))
        have hvr : ∀ n, VR (wr.drewN n) B ⟨vk, vn, vs, ns, ts⟩ (vagg ⟨vk, vn, vs, ns, ts⟩ A1 c1 A2 c2) := fun n => ⟨A1, c1, A2, c2, rfl, hr1, hr2, hok⟩
        have HV : Hid (∀ n, Calls Tryz.prog 64 #[vagg ⟨vk, vn, vs, ns, ts⟩ A1 c1 A2 c2] (wr.drewN n) (Told (chk ⟨vk, vn, vs, ns, ts⟩) (wr.drewN n))) := Lib.hid fun n => refCheck_any ⟨vk, vn, vs, ns, ts⟩ _ B (wr.drewN n) (hvr n) (show B ≤ wr.heap.size by omega)
        unfold vagg at HV
        simp only at HV
        have hi0 : (0 : Int) ≤ (k : Int) := by omega
        have hi1 : (k : Int) < (L.length : Int) := by omega
        clear hc hr1 hr2 hok hvr hx hkey
        by_cases hgn : goodN key = true
        · rw [hgn] at hg
          have hpm : (k = 0 ∧ p = .empty) ∨ ∃ m, k = m + 1 ∧ p = (nthP L m).key := by
            rcases k with _ | m
            · exact .inl ⟨rfl, hp0 rfl⟩
            · exact .inr ⟨m, rfl, hp1 m rfl⟩
          clear hp0 hp1
          rcases hpm with ⟨hk0, rfl⟩ | ⟨m, hkm, rfl⟩
          · have hd : decide ((0 : Int) < (k : Int)) = false := decide_eq_false (by omega)
            have hdn : decide (0 < k) = false := decide_eq_false (by omega)
            clear hk0
            have hz : cname key .empty = 0 := by unfold cname; rw [if_neg (by simp [hgn]), if_neg (by simp [leS_empty hgn])]
            rw [if_pos hz] at hcn
            by_cases hz2 : chk ⟨vk, vn, vs, ns, ts⟩ = 0
            · rw [if_pos hz2] at hcn
              rw [hz2] at HV
              have Hcn := Lib.hid hcn
              clear hcn hz hz2
              go_wp2_with fail
              refine hg.out.mono ?_
              rintro e w' ⟨rfl, n1, rfl⟩
              go_wp2
              go_quiet (fail)
              go_wp2_with fail
              refine (HV.out _).mono ?_
              rintro e w8 ⟨rfl, hb8⟩
              have hb9 := (below_drewN hbw _).trans (hb8.mono hsz)
              clear hb8
              go_wp2
              go_roundw
              case rel => exact ⟨k + 1, key, by omega, by go_num, (fun h => by omega), (fun m h => by have h := Nat.succ.inj h; rw [← h, ← HX.out]), Hcn.out, hb9⟩
              case measure => simp [intOf]; omega
            · rw [if_neg hz2] at hcn
              obtain ⟨c, hcc⟩ : ∃ c, c = chk ⟨vk, vn, vs, ns, ts⟩ := ⟨_, rfl⟩
              rw [← hcc] at hz2 hcn HV
              have Hcn := Lib.hid hcn
              have hne : (c != 0) = true := by simpa using hz2
              clear hcn hz hz2 hcc
              go_wp2_with fail
              refine hg.out.mono ?_
              rintro e w' ⟨rfl, n1, rfl⟩
              go_wp2
              go_quiet (fail)
              go_wp2_with fail
              refine (HV.out _).mono ?_
              rintro e w8 ⟨rfl, hb8⟩
              have hb9 := (below_drewN hbw _).trans (hb8.mono hsz)
              clear hb8
              go_wp2
              go_ret
              exact ⟨ret_int (by rw [HC.out, ← Hcn.out]), hb9⟩
          · obtain ⟨b', off', e, -, A1', c1', A2', c2', hc', -⟩ := HR.out m _ (nthP_get (by omega))
            injection e with e
            injection e with e1 e2 _
            subst e1 e2
            obtain ⟨u0, -⟩ := prop_cells hc'
            obtain ⟨p, hpp⟩ : ∃ p, p = (nthP L m).key := ⟨_, rfl⟩
            rw [← hpp] at u0 hcn
            have hd : decide ((0 : Int) < (k : Int)) = true := decide_eq_true (by omega)
            have hdn : decide (0 < k) = true := decide_eq_true (by omega)
            have hs1 : (k : Int) - 1 = (m : Int) := by omega
            have hs2 : ((k : Int) - 1).toNat = m := by omega
            have hs3 : (0 : Int) ≤ (k : Int) - 1 := by omega
            have hs4 : (k : Int) - 1 < (L.length : Int) := by omega
            have Hkm := Lib.hid hkm
            clear hc' hpp hkm
            by_cases hle : leS key p = true
            · have hz : cname key p = 6 := by unfold cname; rw [if_neg (by simp [hgn]), if_pos hle]
              rw [hz, if_neg (by decide)] at hcn
              have Hcn := Lib.hid hcn
              clear hcn hz HV
              unfold leS at hle
              rw [Bool.or_eq_true] at hle
              rcases hle with hle | hle
              · go_wp2_with fail
                refine hg.out.mono ?_
                rintro e w' ⟨rfl, n1, rfl⟩
                go_wp2
                go_quiet (fail)
                go_wp2
                go_ret
                exact ⟨ret_int (by rw [HC.out, ← Hcn.out]), below_drewN (below_drewN hbw n1) nq⟩
              · go_wp2_with fail
                refine hg.out.mono ?_
                rintro e w' ⟨rfl, n1, rfl⟩
                go_wp2
                go_quiet (fail)
                go_wp2
                go_ret
                exact ⟨ret_int (by rw [HC.out, ← Hcn.out]), below_drewN (below_drewN hbw n1) nq⟩
            · have hz : cname key p = 0 := by unfold cname; rw [if_neg (by simp [hgn]), if_neg hle]
              rw [if_pos hz] at hcn
              unfold leS at hle
              rw [Bool.or_eq_true] at hle
              by_cases hz2 : chk ⟨vk, vn, vs, ns, ts⟩ = 0
              · rw [if_pos hz2] at hcn
                rw [hz2] at HV
                have Hcn := Lib.hid hcn
                clear hcn hz hz2
                go_wp2_with fail
                refine hg.out.mono ?_
                rintro e w' ⟨rfl, n1, rfl⟩
                go_wp2
                go_quiet (fail)
                go_wp2_with fail
                refine (HV.out _).mono ?_
                rintro e w8 ⟨rfl, hb8⟩
                have hb9 := (below_drewN hbw _).trans (hb8.mono hsz)
                clear hb8
                go_wp2
                go_roundw
                case rel => exact ⟨k + 1, key, by omega, by go_num, (fun h => by omega), (fun m h => by have h := Nat.succ.inj h; rw [← h, ← HX.out]), Hcn.out, hb9⟩
                case measure => simp [intOf]; omega
              · rw [if_neg hz2] at hcn
                obtain ⟨c, hcc⟩ : ∃ c, c = chk ⟨vk, vn, vs, ns, ts⟩ := ⟨_, rfl⟩
                rw [← hcc] at hz2 hcn HV
                have Hcn := Lib.hid hcn
                have hne : (c != 0) = true := by simpa using hz2
                clear hcn hz hz2 hcc
                go_wp2_with fail
                refine hg.out.mono ?_
                rintro e w' ⟨rfl, n1, rfl⟩
                go_wp2
                go_quiet (fail)
                go_wp2_with fail
                refine (HV.out _).mono ?_
                rintro e w8 ⟨rfl, hb8⟩
                have hb9 := (below_drewN hbw _).trans (hb8.mono hsz)
                clear hb8
                go_wp2
                go_ret
                exact ⟨ret_int (by rw [HC.out, ← Hcn.out]), hb9⟩
        · have hgf : goodN key = false := by simpa using hgn
          rw [hgf] at hg
          have hz : cname key p = 60 := by unfold cname; rw [if_pos hgf]
          rw [hz, if_neg (by decide)] at hcn
          have Hcn := Lib.hid hcn
          clear hcn hz hgf hgn hp0 hp1 HV
          go_wp2_with fail
          refine hg.out.mono ?_
          rintro e w' ⟨rfl, n1, rfl⟩
          go_wp2
          go_ret
          exact ⟨ret_int (by rw [HC.out, ← Hcn.out]), below_drewN hbw n1⟩
      · rw [List.drop_of_length_le (by omega)] at hcn
        have Hcn := Lib.hid hcn
        clear hcn
        go_wp2
        go_ret
        exact ⟨ret_int (by rw [HC.out, ← Hcn.out]; rfl), hbw⟩
end Go.Proofs.YthnaipgdjbaebaaGreat

/- The document's nodeWrong. -/
namespace Go.Proofs.YthnaipgdjbaebaaGreat
open Go.RowKit
set_option linter.unusedVariables false

/-- the first error of a node, its id aside -/
def nwrong (n : Nv) : Int := if clabels n.labels = 0 then cpropsAll n.props else clabels n.labels

set_option maxRecDepth 100000 in
set_option maxHeartbeats 2000000 in
theorem refNodeWrong_any (n : Nv) (A A' : Option Addr) (c c' B : Nat) (w : World) (hL : RL svl w B A n.labels) (hP : PropsR w B A' n.props) (hB : B ≤ w.heap.size) (h1 : n.labels.length ≤ 140737488351232) (h2 : n.props.length ≤ 140737488351232) (h3 : ∀ s ∈ n.labels, s.size ≤ 140737488351232) :
    Calls Tryz.prog 41 #[.agg #[.int .i64 n.id, .slice A n.labels.length c, .slice A' n.props.length c']] w fun e w' => e = .returned (.int .i64 (nwrong n)) ∧ Below w.heap.size w w' := by
  obtain ⟨id, L, P⟩ := n
  simp only at hL hP h1 h2 h3 ⊢
  obtain ⟨wo, hwo⟩ : ∃ x, x = w.alloc (.cells #[.int .i64 id, .slice A L.length c, .slice A' P.length c'] 40) := ⟨_, rfl⟩
  have hbo : Below w.heap.size w wo := by rw [hwo]; exact (Below.refl _ _).alloc (Nat.le_refl _) _
  have hbk : Blk wo w.heap.size 40 #[.int .i64 id, .slice A L.length c, .slice A' P.length c'] := by rw [hwo]; exact Blk.new _ _ _
  have g0 : wo.cell? ⟨w.heap.size, 0, none⟩ = some (.int .i64 id) := by rw [hbk.cell 0]; rfl
  have g1 : wo.cell? ⟨w.heap.size, 1, none⟩ = some (.slice A L.length c) := by rw [hbk.cell 1]; rfl
  have g2 : wo.cell? ⟨w.heap.size, 2, none⟩ = some (.slice A' P.length c') := by rw [hbk.cell 2]; rfl
  have Hwo := Lib.hid hwo
  by_cases h8 : 8 < L.length
  · have HC : Hid (nwrong ⟨id, L, P⟩ = 63) := Lib.hid (by unfold nwrong clabels; simp only; rw [if_pos h8]; rfl)
    clear hwo hbk hL hP h3
    go_enter Tryz.func41, Tryz.ntmps41
    go_wp2_with fail
    go_ret
    exact ⟨ret_int HC.out.symm, by first | exact hbo | (rw [← Hwo.out]; exact hbo)⟩
  · have HC : Hid (clabels L = cnames .empty L) := Lib.hid (by unfold clabels; rw [if_neg h8])
    have HF : Hid (∀ c, clabels L = c → c ≠ 0 → nwrong ⟨id, L, P⟩ = c) := Lib.hid fun c h h0 => by unfold nwrong; simp only; rw [h, if_neg h0]
    have HP := Lib.hid (fun n2 => refPropsWrong_any A' c' B P (wo.drewN n2) (PropsR.below hP (below_drewN (hbo.mono hB) n2)) (Nat.le_trans hB hbo.size) h2)
    have Hs := Lib.hid h3
    have HLL := Lib.hid hL
    have HG : Hid (∀ n2, (wo.drewN n2).cell? ⟨w.heap.size, 1, none⟩ = some (.slice A L.length c) ∧ (wo.drewN n2).cell? ⟨w.heap.size, 2, none⟩ = some (.slice A' P.length c')) := Lib.hid fun n2 => ⟨g1, g2⟩
    have Hbo := Lib.hid hbo
    clear hwo hbk hL hP h3
    go_enter Tryz.func41, Tryz.ntmps41
    go_wp2_with fail
    rw [← Hwo.out]
    go_loopw [3] (fun i wr => ∃ (k : Nat) (p : ByteArray) (n2 : Nat), k ≤ L.length ∧ i = .int .i64 k ∧ (k = 0 → p = .empty) ∧ (∀ m, k = m + 1 → p = nthS L m) ∧ cnames p (L.drop k) = cnames .empty L ∧ wr = wo.drewN n2) (fun i _ => L.length - (intOf i).toNat)
    case atStart => exact ⟨0, .empty, 0, Nat.zero_le _, rfl, fun _ => rfl, (fun m h => by cases h), rfl, rfl⟩
    case round =>
      obtain ⟨k, p, n2, hk, rfl, hp0, hp1, hcn, hW⟩ := hrel
      clear g0 g1 g2
      have hbw : Below w.heap.size w wr := by rw [hW]; exact below_drewN Hbo.out n2
      obtain ⟨g1, g2⟩ := HG.out n2
      rw [← hW] at g1 g2
      have HW := Lib.hid hW
      by_cases hlt : k < L.length
      · obtain ⟨b, off, rfl, hbB, hc⟩ := HLL.out.allS (by omega)
        have HCL : Hid (∀ j, j < L.length → ∀ n3, (wo.drewN n3).cell? ⟨b, off + j, none⟩ = some (.string (nthS L j))) := Lib.hid fun j hj n3 => ((below_drewN (Hbo.out.mono hB) n3).cell (p := ⟨b, off + j, none⟩) hbB).trans (hc j hj)
        have q0 := HCL.out k hlt n2
        rw [← hW] at q0
        have hx := Hs.out (nthS L k) (by rw [nthS_lt hlt]; exact List.getElem_mem hlt)
        rw [cnames_drop hlt] at hcn
        obtain ⟨key, hkey⟩ : ∃ x, x = nthS L k := ⟨_, rfl⟩
        rw [← hkey] at q0 hx hcn
        have HX := Lib.hid hkey
        have hg := Lib.hid (refGoodName_any key wr (by unfold maxLen; omega))
        have hi0 : (0 : Int) ≤ (k : Int) := by omega
        have hi1 : (k : Int) < (L.length : Int) := by omega
        clear hc hkey hW
        by_cases hgn : goodN key = true
        · rw [hgn] at hg
          have hpm : (k = 0 ∧ p = .empty) ∨ ∃ m, k = m + 1 ∧ p = nthS L m := by
            rcases k with _ | m
            · exact .inl ⟨rfl, hp0 rfl⟩
            · exact .inr ⟨m, rfl, hp1 m rfl⟩
          clear hp0 hp1
          rcases hpm with ⟨hk0, rfl⟩ | ⟨m, hkm, rfl⟩
          · have hd : decide ((0 : Int) < (k : Int)) = false := decide_eq_false (by omega)
            have hdn : decide (0 < k) = false := decide_eq_false (by omega)
            clear hk0
            have hz : cname key .empty = 0 := by unfold cname; rw [if_neg (by simp [hgn]), if_neg (by simp [leS_empty hgn])]
            rw [if_pos hz] at hcn
            have Hcn := Lib.hid hcn
            clear hcn hz
            go_wp2_with fail
            refine hg.out.mono ?_
            rintro e w' ⟨rfl, n1, rfl⟩
            go_wp2
            go_quiet (fail)
            go_wp2
            go_roundw
            case rel => exact ⟨k + 1, key, n2 + (n1 + nq), by omega, by go_num, (fun h => by omega), (fun m h => by have h := Nat.succ.inj h; rw [← h, ← HX.out]), Hcn.out, by rw [HW.out, World.drewN_drewN]⟩
            case measure => simp [intOf]; omega
          · have u0 := HCL.out m (by omega) n2
            rw [← HW.out] at u0
            obtain ⟨p, hpp⟩ : ∃ p, p = nthS L m := ⟨_, rfl⟩
            rw [← hpp] at u0 hcn
            have hd : decide ((0 : Int) < (k : Int)) = true := decide_eq_true (by omega)
            have hdn : decide (0 < k) = true := decide_eq_true (by omega)
            have hs1 : (k : Int) - 1 = (m : Int) := by omega
            have hs2 : ((k : Int) - 1).toNat = m := by omega
            have hs3 : (0 : Int) ≤ (k : Int) - 1 := by omega
            have hs4 : (k : Int) - 1 < (L.length : Int) := by omega
            have Hkm := Lib.hid hkm
            clear hpp hkm
            by_cases hle : leS key p = true
            · have hz : cname key p = 6 := by unfold cname; rw [if_neg (by simp [hgn]), if_pos hle]
              rw [hz, if_neg (by decide)] at hcn
              have Hcn := Lib.hid hcn
              clear hcn hz
              unfold leS at hle
              rw [Bool.or_eq_true] at hle
              rcases hle with hle | hle
              · go_wp2_with fail
                refine hg.out.mono ?_
                rintro e w' ⟨rfl, n1, rfl⟩
                go_wp2
                go_quiet (fail)
                go_wp2
                go_ret
                exact ⟨ret_int (HF.out 6 (by rw [HC.out, ← Hcn.out]) (by decide)).symm, below_drewN (below_drewN hbw n1) nq⟩
              · go_wp2_with fail
                refine hg.out.mono ?_
                rintro e w' ⟨rfl, n1, rfl⟩
                go_wp2
                go_quiet (fail)
                go_wp2
                go_ret
                exact ⟨ret_int (HF.out 6 (by rw [HC.out, ← Hcn.out]) (by decide)).symm, below_drewN (below_drewN hbw n1) nq⟩
            · have hz : cname key p = 0 := by unfold cname; rw [if_neg (by simp [hgn]), if_neg hle]
              rw [if_pos hz] at hcn
              have Hcn := Lib.hid hcn
              clear hcn hz
              unfold leS at hle
              rw [Bool.or_eq_true] at hle
              go_wp2_with fail
              refine hg.out.mono ?_
              rintro e w' ⟨rfl, n1, rfl⟩
              go_wp2
              go_quiet (fail)
              go_wp2
              go_roundw
              case rel => exact ⟨k + 1, key, n2 + (n1 + nq), by omega, by go_num, (fun h => by omega), (fun m h => by have h := Nat.succ.inj h; rw [← h, ← HX.out]), Hcn.out, by rw [HW.out, World.drewN_drewN]⟩
              case measure => simp [intOf]; omega
        · have hgf : goodN key = false := by simpa using hgn
          rw [hgf] at hg
          have hz : cname key p = 60 := by unfold cname; rw [if_pos hgf]
          rw [hz, if_neg (by decide)] at hcn
          have Hcn := Lib.hid hcn
          clear hcn hz hgf hgn hp0 hp1
          go_wp2_with fail
          refine hg.out.mono ?_
          rintro e w' ⟨rfl, n1, rfl⟩
          go_wp2
          go_ret
          exact ⟨ret_int (HF.out 60 (by rw [HC.out, ← Hcn.out]) (by decide)).symm, below_drewN hbw n1⟩
      · rw [List.drop_of_length_le (by omega)] at hcn
        have Hcn : Hid (nwrong ⟨id, L, P⟩ = cpropsAll P) := Lib.hid (by unfold nwrong; simp only; rw [HC.out, ← hcn]; rfl)
        have hpr := HP.out n2
        rw [← hW] at hpr
        have hpr := Lib.hid hpr
        clear hcn hW
        go_wp2_with fail
        refine hpr.out.mono ?_
        rintro e w8 ⟨rfl, hb8⟩
        go_wp2
        go_ret
        exact ⟨ret_int (by rw [Hcn.out]), hbw.trans (hb8.mono hbw.size)⟩
end Go.Proofs.YthnaipgdjbaebaaGreat

/- The document's Check: its array of ids. -/
namespace Go.Proofs.YthnaipgdjbaebaaGreat
open Go.RowKit
set_option linter.unusedVariables false

/-- the marks of a list of nodes -/
def There (cs : Array Value) (L : List Nv) : Prop := cs.size = 1024 ∧ ∀ j, j < 1024 → cs[j]? = some (.bool (hasId L (j : Int)))
theorem zero_size : Tryz.zeroCells68.size = 1024 := by kernel_rfl
theorem zero_rep : Tryz.zeroCells68 = Array.replicate 1024 (.bool false) := by kernel_rfl
theorem zero_there : There Tryz.zeroCells68 [] := by
  refine ⟨zero_size, fun j hj => ?_⟩
  rw [zero_rep, Array.getElem?_replicate, if_pos hj]
  rfl
theorem zero_one : Tryz.zeroCells68.all (·.oneCell') = true := by
  rw [zero_rep, Array.all_eq_true]
  intro i hi
  rw [Array.getElem_replicate]
  rfl
theorem there_info : (Tryz.prog.info? 68).map (·.size) = some 1024 := by kernel_rfl
theorem There.set {cs : Array Value} {L : List Nv} {n : Nv} (h : There cs L) (h0 : 0 ≤ n.id) (h1 : n.id < 1024) : There (cs.setIfInBounds n.id.toNat (.bool true)) (L ++ [n]) := by
  refine ⟨by rw [Array.size_setIfInBounds]; exact h.1, fun j hj => ?_⟩
  have ha : hasId (L ++ [n]) (j : Int) = (hasId L (j : Int) || decide (n.id = (j : Int))) := by unfold hasId; simp [List.any_append]
  rw [Array.getElem?_setIfInBounds, ha]
  by_cases he : n.id.toNat = j
  · rw [if_pos he, if_pos (by rw [h.1]; omega)]
    have : n.id = (j : Int) := by omega
    simp [this]
  · rw [if_neg he, h.2 j hj]
    have : ¬ n.id = (j : Int) := by omega
    simp [this]
theorem store_any (c : Array Value) (hc : c.size = 1024) (h1 : c.all (·.oneCell') = true) (w : World) (N : Nat) (hN : w.heap.size = N) : Sem.run Tryz.prog (storeCells ⟨N, 0, none⟩ c.toList) (w.alloc (.cells c 68)) = .ok () (w.alloc (.cells c 68)) := by
  subst hN
  exact run_storeCells_new w _ c c (by rw [hc]; exact there_info) rfl h1
end Go.Proofs.YthnaipgdjbaebaaGreat

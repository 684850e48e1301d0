/- csv: the document's Print. By mkcsrefp.py. -/
import Derived.Test.YtmdljfpkbfhbdaaDoorCsRef
import Derived.Laws.BytesArg
namespace Go.Proofs.YtmdljfpkbfhbdaaDoor
open Go.RowKit
set_option linter.unusedVariables false

def strOf (bs : List Nat) : ByteArray := ⟨(bs.map UInt8.ofNat).toArray⟩
section
variable {P : Program} {w : World}
/-- bytes made a string -/
theorem run_bytes_str {B : Nat} {A : Option Addr} {bs : List Nat} (src dst e : TypeId) (c : Nat) (hs : P.underlying src = some (.slice e)) (he : P.underlying e = some (.int .u8)) (hd : P.underlying dst = some .string)
    (h : RB w B A bs) : (convert src dst (.slice A bs.length c)).run P w = .ok (.string (strOf bs)) w := by
  rcases A with _ | ad
  · have hm : bs.length = 0 := by
      rcases Nat.eq_zero_or_pos bs.length with h0 | h0
      · exact h0
      · obtain ⟨_, h, _⟩ := h.2.2 h0
        cases h
    have hn : bs = [] := List.length_eq_zero_iff.1 hm
    subst hn
    exact run_convert_bytes_nil (w := w) src e hs he _ _ dst hd
  · rcases Nat.eq_zero_or_pos bs.length with h0 | h0
    · have hn : bs = [] := List.length_eq_zero_iff.1 h0
      subst hn
      rw [run_convert_bytes_string w src dst e _ _ c hs he hd]
      have hl := run_loadCells_list (P := P) w ad [] (fun j v hj => by simp at hj)
      rw [run_bytesToString w ad _ c [] (by simpa using hl)]
      rfl
    · obtain ⟨b, off, hA, _, hc⟩ := h.all h0
      injection hA with hA
      subst hA
      have := run_convert_bytes_arg (P := P) w src e hs he b off bs.length c (bs.map fun n : Nat => (n : Int)) (by simp) (fun i hi => by
        rw [hc i hi, nth_lt hi]
        simp [List.getD_eq_getElem?_getD, List.getElem?_eq_getElem hi]) dst hd
      rw [this]
      congr 2
      unfold strOfNums strOf
      congr 2
      simp
end
theorem u8_info : (Tryd.prog.info? 5).map (fun i => (i.zero, i.size, i.bytes)) = some (some (.int .u8 0), 1, 1) := by kernel_rfl
/-- bytes as numbers -/
def nb (l : Bs) : List Nat := l.map UInt8.toNat
theorem nb_app (a b : Bs) : nb (a ++ b) = nb a ++ nb b := by simp [nb]
theorem nb_len (a : Bs) : (nb a).length = a.length := by simp [nb]
theorem strOf_nb (l : Bs) : strOf (nb l) = mkS l := by
  unfold strOf nb mkS
  rw [List.map_map]
  congr 2
  have : (UInt8.ofNat ∘ UInt8.toNat) = id := by
    funext x
    simp
  rw [this, List.map_id]
theorem RL.at0 {α : Type} [Inhabited α] {f : α → Value} {w : World} {B : Nat} {b off : Nat} {L : List α} (h : RL f w B (some ⟨b, off, none⟩) L) {k : Nat} (hk : k < L.length) : w.cell? ⟨b, off + k, none⟩ = some (f (nthD L k)) := by
  obtain ⟨b', off', he, _, hc⟩ := h.allD (by omega)
  injection he with he
  injection he with e1 e2 _
  subst e1 e2
  exact hc k hk
theorem RL.at0S {w : World} {B : Nat} {b off : Nat} {L : Rw} (h : RL svl w B (some ⟨b, off, none⟩) L) {k : Nat} (hk : k < L.length) : w.cell? ⟨b, off + k, none⟩ = some (.string (nthS L k)) := by
  obtain ⟨b', off', he, _, hc⟩ := h.allS (by omega)
  injection he with he
  injection he with e1 e2 _
  subst e1 e2
  exact hc k hk
theorem dbl_same {f : Bs} (h : f.any spc = false) : dbl f = f := by
  induction f with
  | nil => rfl
  | cons c r ih =>
    rw [List.any_cons, Bool.or_eq_false_iff] at h
    have hc : c ≠ 34 := by
      intro e
      rw [e] at h
      exact absurd h.1 (by decide)
    rw [dbl, if_neg hc, ih h.2]
theorem fmt_parts (f : Bs) : fmtF f = (if f.any spc = true then [34] else []) ++ dbl f ++ (if f.any spc = true then [34] else []) := by
  unfold fmtF
  cases h : f.any spc with
  | true => simp
  | false => simp [dbl_same h]
theorem row_few (r : Rw) : r.length ≤ rowW r := by
  have h : ∀ r : Rw, r.length ≤ (r.map fun f => 2 * f.size + 3).sum := by
    intro r
    induction r with
    | nil => exact Nat.le_refl _
    | cons g r ih =>
      simp only [List.length_cons, List.map_cons, List.sum_cons]
      omega
  have := h r
  unfold rowW
  omega
/-- a row of bytes of one's own that will have one more: the arm's facts -/
def OutA (A : Option Addr) (c : Nat) (O : List Nat) : Ass := ObA 5 (.slice A O.length c) O
set_option maxRecDepth 100000 in
set_option maxHeartbeats 4000000 in
theorem refPrint_any (A : Option Addr) (c B : Nat) (X : List Rq) (w : World) (hr : RsR w B A X) (hB : B ≤ w.heap.size) (hl : X.length ≤ c) (hc : c ≤ maxLen) (hsz : rowsW (rowsOf X) ≤ 1073741824) :
    Calls Tryd.prog 13 #[.slice A X.length c] w fun e w' => e = .returned (.tuple #[.string (prS (rowsOf X)), .int .i64 (prE (rowsOf X))]) ∧ Below w.heap.size w w' := by
  have HR := Lib.hid hr
  have HZ := Lib.hid hsz
  have HB := Lib.hid hB
  have H0 : Hid (St Zf [ObA 5 (.slice (some ⟨w.heap.size, 0, none⟩) 0 0) []] w (w.alloc (.cells #[] 5))) := Lib.hid ((St.start Zf w).newNilB 5 rfl)
  unfold maxLen at hc
  obtain ⟨i0, hi, hz0, hz1, hz2⟩ := info_parts u8_info
  clear hr hsz hB
  go_enter Tryd.func13, Tryd.ntmps13
  go_wp2
  go_loopw [4, 5] (fun v i wr => ∃ (k : Nat) (A' : Option Addr) (c' : Nat) (O : List Nat), k ≤ X.length ∧ v = .slice A' O.length c' ∧ i = .int .i64 k ∧ Hid (O = nb (rowsT (rowsOf (X.take k)))) ∧ Hid (∀ r ∈ rowsOf (X.take k), r ≠ []) ∧ Hid (St Zf [ObA 5 (.slice A' O.length c') O] w wr)) (fun _ i _ => X.length - (intOf i).toNat)
  case atStart => exact ⟨0, some ⟨w.heap.size, 0, none⟩, 0, [], Nat.zero_le _, rfl, rfl, Lib.hid rfl, Lib.hid (by simp), H0⟩
  case round =>
    obtain ⟨k, A', c', O, hk, rfl, rfl, HO, HN, HST⟩ := hrel
    clear H0
    by_cases hlt : k < X.length
    · have hrs := HR.out.below HST.out.bel HB.out
      obtain ⟨b, off, rfl, hb, hcell⟩ := hrs.1.allD (by omega)
      have q := hcell k hlt
      have HQ : Hid (∀ w', St Zf [] w w' → w'.cell? ⟨b, off + k, none⟩ = some (nthD X k).v ∧ RL svl w' B (nthD X k).A (nthD X k).L) := Lib.hid fun w' h => by
        have h1 := HR.out.below h.bel HB.out
        exact ⟨h1.1.at0 hlt, (h1.2 _ (nthD_mem hlt)).1⟩
      have HTK : Hid (rowsOf (X.take (k + 1)) = rowsOf (X.take k) ++ [(nthD X k).L]) := Lib.hid (by rw [takeD_succ hlt]; simp)
      have HRW : Hid (rowW (nthD X k).L ≤ 1073741824) := Lib.hid (Nat.le_trans (row_le (List.mem_map.2 ⟨_, nthD_mem hlt, rfl⟩)) HZ.out)
      have HME : Hid ((nthD X k).L ∈ rowsOf X) := Lib.hid (List.mem_map.2 ⟨_, nthD_mem hlt, rfl⟩)
      have HB0 : Hid ((rowsT (rowsOf (X.take k))).length ≤ 1073741824) := Lib.hid (by
        have h1 := rowsT_len (rowsOf (X.take k))
        have e : rowsOf (X.take k) = (rowsOf X).take k := by simp [rowsOf, List.map_take]
        have h2 : rowsW (rowsOf (X.take k)) ≤ rowsW (rowsOf X) := by
          rw [e]
          exact rowsW_take (rowsOf X) k
        have h3 := HZ.out
        omega)
      obtain ⟨hq1, hq2, hq3⟩ := hrs.2 _ (nthD_mem hlt)
      clear hcell hrs
      generalize nthD X k = x at *
      obtain ⟨A1, c1, L1⟩ := x
      simp only [Rq.v] at q hq1 hq2 hq3 HTK HRW HME HQ
      by_cases h0 : L1.length = 0
      · have HPE : Hid (prE (rowsOf X) = 2 ∧ prS (rowsOf X) = mkS []) := Lib.hid (by
          have h1 := prE_bad HME.out h0
          refine ⟨h1, ?_⟩
          unfold prS
          rw [h1]
          rfl)
        rw [h0] at q
        clear HME HTK HRW hq1 hq2 hq3 h0 HQ
        go_wp2
        go_ret2
        refine ⟨?_, HST.out.bel⟩
        rw [HPE.out.1, HPE.out.2]
        rfl
      · obtain ⟨b1, off1, rfl, hb1, -⟩ := hq1.allS (by omega)
        have HNE : Hid (L1 ≠ []) := Lib.hid (fun e => h0 (by rw [e]; rfl))
        have h0' : ((L1.length : Int) == 0) = false := by rw [beq_eq_false_iff_ne]; omega
        have h0'' : (L1.length == 0) = false := by rw [beq_eq_false_iff_ne]; omega
        have hN1 : 0 < L1.length := by omega
        clear hq1 hq2 hq3 h0
        go_wp2
        go_loopw [4, 6] (fun v j wq => ∃ (m : Nat) (A2 : Option Addr) (c2 : Nat) (O2 : List Nat), m ≤ L1.length ∧ v = .slice A2 O2.length c2 ∧ j = .int .i64 m ∧ Hid (O2 = nb (rowsT (rowsOf (X.take k)) ++ rowT (L1.take m))) ∧ Hid (St Zf [ObA 5 (.slice A2 O2.length c2) O2] w wq)) (fun _ j _ => L1.length - (intOf j).toNat)
        case atStart => exact ⟨0, A', c', O, Nat.zero_le _, rfl, rfl, Lib.hid (by rw [HO.out]; simp [rowT]), HST⟩
        case round =>
          obtain ⟨m, A2, c2, O2, hm, rfl, rfl, HO2, HST2⟩ := hrel
          clear q HST HO
          have hq := HQ.out _ (HST2.out.drop)
          have q := hq.1
          by_cases hmt : m < L1.length
          · have q1 := hq.2.at0S hmt
            have HSN : Hid (rowT (L1.take (m + 1)) = (if m = 0 then [] else rowT (L1.take m) ++ [44]) ++ fmtF (lS (nthS L1 m))) := Lib.hid (by
              rw [takeS_succ hmt, rowT_snoc, List.length_take, Nat.min_eq_left (by omega)])
            have HFS : Hid (2 * (nthS L1 m).size + 3 ≤ 1073741824) := Lib.hid (Nat.le_trans (field_le (nthS_mem hmt)) HRW.out)
            have HB1 : Hid ((rowT (L1.take m)).length ≤ 1073741824) := Lib.hid (by
              have h1 := rowT_len (L1.take m)
              have h2 := rowW_take' L1 m
              have h3 := HRW.out
              omega)
            generalize nthS L1 m = s at q1 HSN HFS
            have HE0 : Hid (rowT (L1.take 0) = []) := Lib.hid rfl
            obtain ⟨base0, hbase0⟩ : ∃ l, l = rowsT (rowsOf (X.take k)) := ⟨_, rfl⟩
            rw [← hbase0] at HO2 HB0
            have HBASE := Lib.hid hbase0
            clear hq hbase0
            have hmw : m < 140737488355328 := by
              have h1 := row_few L1
              have h2 := HRW.out
              omega
            have HSS : Hid (s.size ≤ 1073741824) := Lib.hid (by have := HFS.out; omega)
            by_cases h00 : m = 0
            · have hd1 : decide ((0 : Int) < (m : Int)) = false := by rw [h00]; rfl
              have hd2 : decide (0 < m) = false := by rw [h00]; rfl
              have HPRE : Hid (base0 ++ rowT (L1.take (m + 1)) = base0 ++ rowT (L1.take m) ++ fmtF (lS s)) := Lib.hid (by rw [HSN.out, if_pos h00, h00]; simp [rowT])
              clear h00
              obtain ⟨wz, hwz⟩ : ∃ z, z = wr := ⟨_, rfl⟩
              try rw [← hwz]
              rw [← hwz] at HST2 q q1
              clear hwz
              go_wp2
              go_loopw [8, 9] (fun sp j wy => ∃ p : Nat, p ≤ s.size ∧ j = .int .i64 p ∧ sp = .bool (((lS s).take p).any spc) ∧ wy = wz) (fun _ j _ => s.size - (intOf j).toNat)
              case atStart => exact ⟨0, Nat.zero_le _, rfl, rfl, rfl⟩
              case round =>
                obtain ⟨p, hp, rfl, rfl, rfl⟩ := hrel
                by_cases hps : p < s.size
                · have hpw : p < 140737488355328 := by have := HSS.out; omega
                  obtain ⟨x, hx⟩ : ∃ x : UInt8, s[p]'hps = x := ⟨_, rfl⟩
                  have HTA : Hid (((lS s).take (p + 1)).any spc = (((lS s).take p).any spc || spc x)) := Lib.hid (by
                    have h1 := byte_at s p hps
                    rw [hx] at h1
                    have h2 : (lS s).take (p + 1) = (lS s).take p ++ [x] := by
                      rw [List.take_add_one]
                      unfold lS
                      rw [h1]
                      rfl
                    rw [h2, List.any_append]
                    simp)
                  cases hsp : ((lS s).take p).any spc with
                  | true =>
                    rw [hsp, Bool.true_or] at HTA
                    clear hsp
                    go_wp2
                    go_roundw
                    case rel => exact ⟨p + 1, by omega, by go_num, by rw [HTA.out], by first | rfl | trivial⟩
                    case measure => simp [intOf]; omega
                  | false =>
                    rw [hsp, Bool.false_or] at HTA
                    clear hsp
                    have e0 : ∀ n : Nat, (x.toNat = n) ↔ ((x.toNat : Int) == (n : Int)) = true := fun n => by rw [beq_iff_eq]; omega
                    by_cases x34 : x.toNat = 34
                    · have hs : spc x = true := (spc_nat x).2 (.inl x34)
                      rw [hs] at HTA
                      have f1 : ((x.toNat : Int) == 34) = true := (e0 34).1 x34
                      clear e0 hs x34
                      go_wp2
                      go_roundw
                      case rel => exact ⟨p + 1, by omega, by go_num, by rw [HTA.out], by first | rfl | trivial⟩
                      case measure => simp [intOf]; omega
                    · by_cases x44 : x.toNat = 44
                      · have hs : spc x = true := (spc_nat x).2 (.inr (.inl x44))
                        rw [hs] at HTA
                        have f1 : ((x.toNat : Int) == 34) = false := by rw [beq_eq_false_iff_ne]; omega
                        have f2 : ((x.toNat : Int) == 44) = true := (e0 44).1 x44
                        clear e0 hs x34 x44
                        go_wp2
                        go_roundw
                        case rel => exact ⟨p + 1, by omega, by go_num, by rw [HTA.out], by first | rfl | trivial⟩
                        case measure => simp [intOf]; omega
                      · by_cases x13 : x.toNat = 13
                        · have hs : spc x = true := (spc_nat x).2 (.inr (.inr (.inl x13)))
                          rw [hs] at HTA
                          have f1 : ((x.toNat : Int) == 34) = false := by rw [beq_eq_false_iff_ne]; omega
                          have f2 : ((x.toNat : Int) == 44) = false := by rw [beq_eq_false_iff_ne]; omega
                          have f3 : ((x.toNat : Int) == 13) = true := (e0 13).1 x13
                          clear e0 hs x34 x44 x13
                          go_wp2
                          go_roundw
                          case rel => exact ⟨p + 1, by omega, by go_num, by rw [HTA.out], by first | rfl | trivial⟩
                          case measure => simp [intOf]; omega
                        · have f1 : ((x.toNat : Int) == 34) = false := by rw [beq_eq_false_iff_ne]; omega
                          have f2 : ((x.toNat : Int) == 44) = false := by rw [beq_eq_false_iff_ne]; omega
                          have f3 : ((x.toNat : Int) == 13) = false := by rw [beq_eq_false_iff_ne]; omega
                          have hs : spc x = decide (x.toNat = 10) := by
                            rw [Bool.eq_iff_iff, decide_eq_true_eq]
                            have := spc_nat x
                            unfold isPM at this
                            rw [this]
                            omega
                          by_cases x10 : x.toNat = 10
                          · rw [decide_eq_true x10] at hs
                            rw [hs] at HTA
                            have f4 : ((x.toNat : Int) == 10) = true := (e0 10).1 x10
                            clear e0 hs x34 x44 x13 x10
                            go_wp2
                            go_roundw
                            case rel => exact ⟨p + 1, by omega, by go_num, by rw [HTA.out], by first | rfl | trivial⟩
                            case measure => simp [intOf]; omega
                          · rw [decide_eq_false x10] at hs
                            rw [hs] at HTA
                            have f4 : ((x.toNat : Int) == 10) = false := by rw [beq_eq_false_iff_ne]; omega
                            clear e0 hs x34 x44 x13 x10
                            go_wp2
                            go_roundw
                            case rel => exact ⟨p + 1, by omega, by go_num, by rw [HTA.out], by first | rfl | trivial⟩
                            case measure => simp [intOf]; omega
                · have HTS : Hid ((lS s).take p = lS s) := Lib.hid (List.take_of_length_le (by rw [lS_len]; omega))
                  rw [HTS.out]
                  cases hsp : (lS s).any spc with
                  | true =>
                    have hsp2 : (lS s).any spc = true := hsp
                    have HFM : Hid (fmtF (lS s) = [34] ++ dbl (lS s) ++ [34]) := Lib.hid (by rw [fmt_parts, hsp2]; simp)
                    have HBL : Hid (((base0 ++ rowT (L1.take m)) ++ [34]).length ≤ 4294967296) := Lib.hid (by
                      have h1 := HB0.out
                      have h2 := HB1.out
                      simp
                      omega)
                    have HLq : Hid (O2.length + 1 ≤ 140737488355328) := Lib.hid (by
                      have h1 := HBL.out
                      rw [List.length_append, List.length_singleton] at h1
                      rw [HO2.out, nb_len]
                      omega)
                    clear hsp hsp2
                    go_wp2_with (at_builtin; refine wpList_append_lit8 _ rfl _ _ 44 rfl 0 5 i0 Tryd.underlying44 hi hz0 hz1 hz2 _ O2 34 (by rfl) HST2.out.ob (by rfl) 34 rfl (by decide) HLq.out (Nat.zero_le _) ?_; intro vq wq hownq hgq hatq; have hq := HST2.out.grewOb hownq hgq hatq (Nat.le_succ _); obtain ⟨Oq, hOq⟩ : ∃ P, P = O2 ++ [34] := ⟨_, rfl⟩; rw [← hOq] at hownq hq; obtain ⟨Aq, cq, rfl, -, -, -, -⟩ := hownq.form; have Hq := Lib.hid hq; have HOq := Lib.hid hOq; clear hownq hgq hatq hq hOq)
                    have HOQ : Hid (Oq = nb ((base0 ++ rowT (L1.take m)) ++ [34])) := Lib.hid (by
                      rw [HOq.out, HO2.out]
                      simp [nb])
                    go_wp2
                    go_loopw [4, 10] (fun v j wy => ∃ (p : Nat) (A3 : Option Addr) (c3 : Nat) (O3 : List Nat), p ≤ s.size ∧ v = .slice A3 O3.length c3 ∧ j = .int .i64 p ∧ Hid (O3 = nb (((base0 ++ rowT (L1.take m)) ++ [34]) ++ dbl ((lS s).take p))) ∧ Hid (St Zf [ObA 5 (.slice A3 O3.length c3) O3] w wy)) (fun _ j _ => s.size - (intOf j).toNat)
                    case atStart => exact ⟨0, _, _, Oq, Nat.zero_le _, rfl, rfl, Lib.hid (by rw [HOQ.out]; simp [dbl]), Hq⟩
                    case round =>
                      obtain ⟨p, A3, c3, O3, hp, rfl, rfl, HO3, HS3⟩ := hrel
                      have HL3 : Hid (O3.length + 4 ≤ 140737488355328) := Lib.hid (by
                        have h1 := HBL.out
                        have h2 := dbl_len ((lS s).take p)
                        have h3 : ((lS s).take p).length ≤ s.size := by rw [List.length_take, lS_len]; omega
                        have h4 := HSS.out
                        rw [HO3.out, nb_len, List.length_append]
                        omega)
                      by_cases hps : p < s.size
                      · have hpw : p < 140737488355328 := by have := HSS.out; omega
                        obtain ⟨x, hx⟩ : ∃ x : UInt8, s[p]'hps = x := ⟨_, rfl⟩
                        have HDD : Hid (dbl ((lS s).take (p + 1)) = dbl ((lS s).take p) ++ dbl [x]) := Lib.hid (by
                          have h1 := byte_at s p hps
                          rw [hx] at h1
                          have h2 : (lS s).take (p + 1) = (lS s).take p ++ [x] := by
                            rw [List.take_add_one]
                            unfold lS
                            rw [h1]
                            rfl
                          rw [h2, dbl_append])
                        by_cases x34 : x = 34
                        · subst x34
                          have f1 : (((34 : UInt8).toNat : Int) == 34) = true := by decide
                          have HLa : Hid (O3.length + 1 ≤ 140737488355328) := Lib.hid (by have := HL3.out; omega)
                          have HLb : Hid ((O3 ++ [34]).length + 1 ≤ 140737488355328) := Lib.hid (by have := HL3.out; simp; omega)
                          go_wp2_with (first
                            | (at_builtin; refine wpList_append_lit8 _ rfl _ _ 44 rfl 0 5 i0 Tryd.underlying44 hi hz0 hz1 hz2 _ O3 34 (by rfl) HS3.out.ob (by rfl) 34 rfl (by decide) HLa.out (Nat.zero_le _) ?_; intro va wa howna hga hata; have ha := HS3.out.grewOb howna hga hata (Nat.le_succ _); obtain ⟨Oa, hOa⟩ : ∃ P, P = O3 ++ [34] := ⟨_, rfl⟩; rw [← hOa] at howna ha; obtain ⟨Aa, ca, rfl, -, -, -, -⟩ := howna.form; have Ha := Lib.hid ha; have HOa := Lib.hid hOa; clear howna hga hata ha hOa)
                            | (rw [← HOa.out] at HLb; fail)
                            | (at_builtin; refine wpList_append_lit8 _ rfl _ _ 44 rfl 0 5 i0 Tryd.underlying44 hi hz0 hz1 hz2 _ Oa 34 (by rfl) Ha.out.ob (by rfl) 34 rfl (by decide) (by rw [HOa.out]; exact HLb.out) (Nat.zero_le _) ?_; intro vb wb hownb hgb hatb; have hb := Ha.out.grewOb hownb hgb hatb (Nat.le_succ _); obtain ⟨Ob, hOb⟩ : ∃ P, P = Oa ++ [34] := ⟨_, rfl⟩; rw [← hOb] at hownb hb; obtain ⟨Ab, cb, rfl, -, -, -, -⟩ := hownb.form; have Hb := Lib.hid hb; have HOb := Lib.hid hOb; clear hownb hgb hatb hb hOb))
                          have HON : Hid (Ob = nb (((base0 ++ rowT (L1.take m)) ++ [34]) ++ dbl ((lS s).take (p + 1)))) := Lib.hid (by
                            rw [HOb.out, HOa.out, HO3.out, HDD.out]
                            simp [nb, dbl])
                          go_wp2
                          go_roundw
                          case rel => exact ⟨p + 1, Ab, cb, Ob, by omega, rfl, by go_num, HON, Hb⟩
                          case measure => simp [intOf]; omega
                        · have f1 : ((x.toNat : Int) == 34) = false := by
                            rw [beq_eq_false_iff_ne]
                            intro e
                            exact x34 (UInt8.toNat_inj.1 (by show x.toNat = 34; omega))
                          have hxlt := x.toNat_lt
                          have HLa : Hid (O3.length + 1 ≤ 140737488355328) := Lib.hid (by have := HL3.out; omega)
                          go_wp2_with (at_builtin; refine wpList_append_lit8 _ rfl _ _ 44 rfl 0 5 i0 Tryd.underlying44 hi hz0 hz1 hz2 _ O3 x.toNat (by rfl) HS3.out.ob (by rfl) x.toNat rfl hxlt HLa.out (Nat.zero_le _) ?_; intro va wa howna hga hata; have ha := HS3.out.grewOb howna hga hata (Nat.le_succ _); obtain ⟨Oa, hOa⟩ : ∃ P, P = O3 ++ [x.toNat] := ⟨_, rfl⟩; rw [← hOa] at howna ha; obtain ⟨Aa, ca, rfl, -, -, -, -⟩ := howna.form; have Ha := Lib.hid ha; have HOa := Lib.hid hOa; clear howna hga hata ha hOa)
                          have HON : Hid (Oa = nb (((base0 ++ rowT (L1.take m)) ++ [34]) ++ dbl ((lS s).take (p + 1)))) := Lib.hid (by
                            rw [HOa.out, HO3.out, HDD.out]
                            simp [nb, dbl, x34])
                          go_wp2
                          go_roundw
                          case rel => exact ⟨p + 1, Aa, ca, Oa, by omega, rfl, by go_num, HON, Ha⟩
                          case measure => simp [intOf]; omega
                      · have HTS : Hid ((lS s).take p = lS s) := Lib.hid (List.take_of_length_le (by rw [lS_len]; omega))
                        rw [HTS.out] at HO3
                        have HLe : Hid (O3.length + 1 ≤ 140737488355328) := Lib.hid (by have := HL3.out; omega)
                        go_wp2_with (at_builtin; refine wpList_append_lit8 _ rfl _ _ 44 rfl 0 5 i0 Tryd.underlying44 hi hz0 hz1 hz2 _ O3 34 (by rfl) HS3.out.ob (by rfl) 34 rfl (by decide) HLe.out (Nat.zero_le _) ?_; intro ve we howne hge hate; have he := HS3.out.grewOb howne hge hate (Nat.le_succ _); obtain ⟨Oe, hOe⟩ : ∃ P, P = O3 ++ [34] := ⟨_, rfl⟩; rw [← hOe] at howne he; obtain ⟨Ae, ce, rfl, -, -, -, -⟩ := howne.form; have He := Lib.hid he; have HOe := Lib.hid hOe; clear howne hge hate he hOe)
                        have HON : Hid (Oe = nb (base0 ++ rowT (L1.take (m + 1)))) := Lib.hid (by
                          rw [HOe.out, HO3.out, HPRE.out, HFM.out]
                          simp [nb])
                        go_wp2
                        go_roundw
                        case rel => exact ⟨m + 1, Ae, ce, Oe, by omega, rfl, by go_num, by rw [← HBASE.out]; exact HON, He⟩
                        case measure => simp [intOf]; omega
                  | false =>
                    have hsp2 : (lS s).any spc = false := hsp
                    have HFM : Hid (fmtF (lS s) = dbl (lS s)) := Lib.hid (by rw [fmt_parts, hsp2]; simp)
                    have HBL : Hid (((base0 ++ rowT (L1.take m))).length ≤ 4294967296) := Lib.hid (by
                      have h1 := HB0.out
                      have h2 := HB1.out
                      simp
                      omega)
                    clear hsp hsp2
                    go_wp2
                    go_loopw [4, 10] (fun v j wy => ∃ (p : Nat) (A3 : Option Addr) (c3 : Nat) (O3 : List Nat), p ≤ s.size ∧ v = .slice A3 O3.length c3 ∧ j = .int .i64 p ∧ Hid (O3 = nb ((base0 ++ rowT (L1.take m)) ++ dbl ((lS s).take p))) ∧ Hid (St Zf [ObA 5 (.slice A3 O3.length c3) O3] w wy)) (fun _ j _ => s.size - (intOf j).toNat)
                    case atStart => exact ⟨0, _, _, O2, Nat.zero_le _, rfl, rfl, Lib.hid (by rw [HO2.out]; simp [dbl]), HST2⟩
                    case round =>
                      obtain ⟨p, A3, c3, O3, hp, rfl, rfl, HO3, HS3⟩ := hrel
                      have HL3 : Hid (O3.length + 4 ≤ 140737488355328) := Lib.hid (by
                        have h1 := HBL.out
                        have h2 := dbl_len ((lS s).take p)
                        have h3 : ((lS s).take p).length ≤ s.size := by rw [List.length_take, lS_len]; omega
                        have h4 := HSS.out
                        rw [HO3.out, nb_len, List.length_append]
                        omega)
                      by_cases hps : p < s.size
                      · have hpw : p < 140737488355328 := by have := HSS.out; omega
                        obtain ⟨x, hx⟩ : ∃ x : UInt8, s[p]'hps = x := ⟨_, rfl⟩
                        have HDD : Hid (dbl ((lS s).take (p + 1)) = dbl ((lS s).take p) ++ dbl [x]) := Lib.hid (by
                          have h1 := byte_at s p hps
                          rw [hx] at h1
                          have h2 : (lS s).take (p + 1) = (lS s).take p ++ [x] := by
                            rw [List.take_add_one]
                            unfold lS
                            rw [h1]
                            rfl
                          rw [h2, dbl_append])
                        by_cases x34 : x = 34
                        · subst x34
                          have f1 : (((34 : UInt8).toNat : Int) == 34) = true := by decide
                          have HLa : Hid (O3.length + 1 ≤ 140737488355328) := Lib.hid (by have := HL3.out; omega)
                          have HLb : Hid ((O3 ++ [34]).length + 1 ≤ 140737488355328) := Lib.hid (by have := HL3.out; simp; omega)
                          go_wp2_with (first
                            | (at_builtin; refine wpList_append_lit8 _ rfl _ _ 44 rfl 0 5 i0 Tryd.underlying44 hi hz0 hz1 hz2 _ O3 34 (by rfl) HS3.out.ob (by rfl) 34 rfl (by decide) HLa.out (Nat.zero_le _) ?_; intro va wa howna hga hata; have ha := HS3.out.grewOb howna hga hata (Nat.le_succ _); obtain ⟨Oa, hOa⟩ : ∃ P, P = O3 ++ [34] := ⟨_, rfl⟩; rw [← hOa] at howna ha; obtain ⟨Aa, ca, rfl, -, -, -, -⟩ := howna.form; have Ha := Lib.hid ha; have HOa := Lib.hid hOa; clear howna hga hata ha hOa)
                            | (rw [← HOa.out] at HLb; fail)
                            | (at_builtin; refine wpList_append_lit8 _ rfl _ _ 44 rfl 0 5 i0 Tryd.underlying44 hi hz0 hz1 hz2 _ Oa 34 (by rfl) Ha.out.ob (by rfl) 34 rfl (by decide) (by rw [HOa.out]; exact HLb.out) (Nat.zero_le _) ?_; intro vb wb hownb hgb hatb; have hb := Ha.out.grewOb hownb hgb hatb (Nat.le_succ _); obtain ⟨Ob, hOb⟩ : ∃ P, P = Oa ++ [34] := ⟨_, rfl⟩; rw [← hOb] at hownb hb; obtain ⟨Ab, cb, rfl, -, -, -, -⟩ := hownb.form; have Hb := Lib.hid hb; have HOb := Lib.hid hOb; clear hownb hgb hatb hb hOb))
                          have HON : Hid (Ob = nb ((base0 ++ rowT (L1.take m)) ++ dbl ((lS s).take (p + 1)))) := Lib.hid (by
                            rw [HOb.out, HOa.out, HO3.out, HDD.out]
                            simp [nb, dbl])
                          go_wp2
                          go_roundw
                          case rel => exact ⟨p + 1, Ab, cb, Ob, by omega, rfl, by go_num, HON, Hb⟩
                          case measure => simp [intOf]; omega
                        · have f1 : ((x.toNat : Int) == 34) = false := by
                            rw [beq_eq_false_iff_ne]
                            intro e
                            exact x34 (UInt8.toNat_inj.1 (by show x.toNat = 34; omega))
                          have hxlt := x.toNat_lt
                          have HLa : Hid (O3.length + 1 ≤ 140737488355328) := Lib.hid (by have := HL3.out; omega)
                          go_wp2_with (at_builtin; refine wpList_append_lit8 _ rfl _ _ 44 rfl 0 5 i0 Tryd.underlying44 hi hz0 hz1 hz2 _ O3 x.toNat (by rfl) HS3.out.ob (by rfl) x.toNat rfl hxlt HLa.out (Nat.zero_le _) ?_; intro va wa howna hga hata; have ha := HS3.out.grewOb howna hga hata (Nat.le_succ _); obtain ⟨Oa, hOa⟩ : ∃ P, P = O3 ++ [x.toNat] := ⟨_, rfl⟩; rw [← hOa] at howna ha; obtain ⟨Aa, ca, rfl, -, -, -, -⟩ := howna.form; have Ha := Lib.hid ha; have HOa := Lib.hid hOa; clear howna hga hata ha hOa)
                          have HON : Hid (Oa = nb ((base0 ++ rowT (L1.take m)) ++ dbl ((lS s).take (p + 1)))) := Lib.hid (by
                            rw [HOa.out, HO3.out, HDD.out]
                            simp [nb, dbl, x34])
                          go_wp2
                          go_roundw
                          case rel => exact ⟨p + 1, Aa, ca, Oa, by omega, rfl, by go_num, HON, Ha⟩
                          case measure => simp [intOf]; omega
                      · have HTS : Hid ((lS s).take p = lS s) := Lib.hid (List.take_of_length_le (by rw [lS_len]; omega))
                        rw [HTS.out] at HO3
                        have HON : Hid (O3 = nb (base0 ++ rowT (L1.take (m + 1)))) := Lib.hid (by
                          rw [HO3.out, HPRE.out, HFM.out])
                        go_wp2
                        go_roundw
                        case rel => exact ⟨m + 1, A3, c3, O3, by omega, rfl, by go_num, by rw [← HBASE.out]; exact HON, HS3⟩
                        case measure => simp [intOf]; omega
            · have hd1 : decide ((0 : Int) < (m : Int)) = true := decide_eq_true (by omega)
              have hd2 : decide (0 < m) = true := decide_eq_true (by omega)
              have h00' : 0 < m := by omega
              have h00'' : (0 : Int) < (m : Int) := by omega
              have HPRE : Hid (base0 ++ rowT (L1.take (m + 1)) = base0 ++ rowT (L1.take m) ++ [44] ++ fmtF (lS s)) := Lib.hid (by rw [HSN.out, if_neg h00]; simp)
              have HLk : Hid (O2.length + 1 ≤ 140737488355328) := Lib.hid (by
                have h1 := HB0.out
                have h2 := HB1.out
                rw [HO2.out, nb_len, List.length_append]
                omega)
              clear h00
              go_wp2_with (at_builtin; refine wpList_append_lit8 _ rfl _ _ 44 rfl 0 5 i0 Tryd.underlying44 hi hz0 hz1 hz2 _ O2 44 (by rfl) HST2.out.ob (by rfl) 44 rfl (by decide) HLk.out (Nat.zero_le _) ?_; intro vk wk hownk hgk hatk; have hk := HST2.out.grewOb hownk hgk hatk (Nat.le_succ _); obtain ⟨Ok, hOk⟩ : ∃ P, P = O2 ++ [44] := ⟨_, rfl⟩; rw [← hOk] at hownk hk; obtain ⟨Ak, ck, rfl, -, -, -, -⟩ := hownk.form; have Hk := Lib.hid hk; have HOk := Lib.hid hOk; clear hownk hgk hatk hk hOk)
              have HOK : Hid (Ok = nb (base0 ++ rowT (L1.take m) ++ [44])) := Lib.hid (by
                rw [HOk.out, HO2.out]
                simp [nb])
              obtain ⟨wz, hwz⟩ : ∃ z, z = wk := ⟨_, rfl⟩
              try rw [← hwz]
              rw [← hwz] at Hk
              clear hwz
              go_wp2
              go_loopw [8, 9] (fun sp j wy => ∃ p : Nat, p ≤ s.size ∧ j = .int .i64 p ∧ sp = .bool (((lS s).take p).any spc) ∧ wy = wz) (fun _ j _ => s.size - (intOf j).toNat)
              case atStart => exact ⟨0, Nat.zero_le _, rfl, rfl, rfl⟩
              case round =>
                obtain ⟨p, hp, rfl, rfl, rfl⟩ := hrel
                by_cases hps : p < s.size
                · have hpw : p < 140737488355328 := by have := HSS.out; omega
                  obtain ⟨x, hx⟩ : ∃ x : UInt8, s[p]'hps = x := ⟨_, rfl⟩
                  have HTA : Hid (((lS s).take (p + 1)).any spc = (((lS s).take p).any spc || spc x)) := Lib.hid (by
                    have h1 := byte_at s p hps
                    rw [hx] at h1
                    have h2 : (lS s).take (p + 1) = (lS s).take p ++ [x] := by
                      rw [List.take_add_one]
                      unfold lS
                      rw [h1]
                      rfl
                    rw [h2, List.any_append]
                    simp)
                  cases hsp : ((lS s).take p).any spc with
                  | true =>
                    rw [hsp, Bool.true_or] at HTA
                    clear hsp
                    go_wp2
                    go_roundw
                    case rel => exact ⟨p + 1, by omega, by go_num, by rw [HTA.out], by first | rfl | trivial⟩
                    case measure => simp [intOf]; omega
                  | false =>
                    rw [hsp, Bool.false_or] at HTA
                    clear hsp
                    have e0 : ∀ n : Nat, (x.toNat = n) ↔ ((x.toNat : Int) == (n : Int)) = true := fun n => by rw [beq_iff_eq]; omega
                    by_cases x34 : x.toNat = 34
                    · have hs : spc x = true := (spc_nat x).2 (.inl x34)
                      rw [hs] at HTA
                      have f1 : ((x.toNat : Int) == 34) = true := (e0 34).1 x34
                      clear e0 hs x34
                      go_wp2
                      go_roundw
                      case rel => exact ⟨p + 1, by omega, by go_num, by rw [HTA.out], by first | rfl | trivial⟩
                      case measure => simp [intOf]; omega
                    · by_cases x44 : x.toNat = 44
                      · have hs : spc x = true := (spc_nat x).2 (.inr (.inl x44))
                        rw [hs] at HTA
                        have f1 : ((x.toNat : Int) == 34) = false := by rw [beq_eq_false_iff_ne]; omega
                        have f2 : ((x.toNat : Int) == 44) = true := (e0 44).1 x44
                        clear e0 hs x34 x44
                        go_wp2
                        go_roundw
                        case rel => exact ⟨p + 1, by omega, by go_num, by rw [HTA.out], by first | rfl | trivial⟩
                        case measure => simp [intOf]; omega
                      · by_cases x13 : x.toNat = 13
                        · have hs : spc x = true := (spc_nat x).2 (.inr (.inr (.inl x13)))
                          rw [hs] at HTA
                          have f1 : ((x.toNat : Int) == 34) = false := by rw [beq_eq_false_iff_ne]; omega
                          have f2 : ((x.toNat : Int) == 44) = false := by rw [beq_eq_false_iff_ne]; omega
                          have f3 : ((x.toNat : Int) == 13) = true := (e0 13).1 x13
                          clear e0 hs x34 x44 x13
                          go_wp2
                          go_roundw
                          case rel => exact ⟨p + 1, by omega, by go_num, by rw [HTA.out], by first | rfl | trivial⟩
                          case measure => simp [intOf]; omega
                        · have f1 : ((x.toNat : Int) == 34) = false := by rw [beq_eq_false_iff_ne]; omega
                          have f2 : ((x.toNat : Int) == 44) = false := by rw [beq_eq_false_iff_ne]; omega
                          have f3 : ((x.toNat : Int) == 13) = false := by rw [beq_eq_false_iff_ne]; omega
                          have hs : spc x = decide (x.toNat = 10) := by
                            rw [Bool.eq_iff_iff, decide_eq_true_eq]
                            have := spc_nat x
                            unfold isPM at this
                            rw [this]
                            omega
                          by_cases x10 : x.toNat = 10
                          · rw [decide_eq_true x10] at hs
                            rw [hs] at HTA
                            have f4 : ((x.toNat : Int) == 10) = true := (e0 10).1 x10
                            clear e0 hs x34 x44 x13 x10
                            go_wp2
                            go_roundw
                            case rel => exact ⟨p + 1, by omega, by go_num, by rw [HTA.out], by first | rfl | trivial⟩
                            case measure => simp [intOf]; omega
                          · rw [decide_eq_false x10] at hs
                            rw [hs] at HTA
                            have f4 : ((x.toNat : Int) == 10) = false := by rw [beq_eq_false_iff_ne]; omega
                            clear e0 hs x34 x44 x13 x10
                            go_wp2
                            go_roundw
                            case rel => exact ⟨p + 1, by omega, by go_num, by rw [HTA.out], by first | rfl | trivial⟩
                            case measure => simp [intOf]; omega
                · have HTS : Hid ((lS s).take p = lS s) := Lib.hid (List.take_of_length_le (by rw [lS_len]; omega))
                  rw [HTS.out]
                  cases hsp : (lS s).any spc with
                  | true =>
                    have hsp2 : (lS s).any spc = true := hsp
                    have HFM : Hid (fmtF (lS s) = [34] ++ dbl (lS s) ++ [34]) := Lib.hid (by rw [fmt_parts, hsp2]; simp)
                    have HBL : Hid (((base0 ++ rowT (L1.take m) ++ [44]) ++ [34]).length ≤ 4294967296) := Lib.hid (by
                      have h1 := HB0.out
                      have h2 := HB1.out
                      simp
                      omega)
                    have HLq : Hid (Ok.length + 1 ≤ 140737488355328) := Lib.hid (by
                      have h1 := HBL.out
                      rw [List.length_append, List.length_singleton] at h1
                      rw [HOK.out, nb_len]
                      omega)
                    clear hsp hsp2
                    go_wp2_with (at_builtin; refine wpList_append_lit8 _ rfl _ _ 44 rfl 0 5 i0 Tryd.underlying44 hi hz0 hz1 hz2 _ Ok 34 (by rfl) Hk.out.ob (by rfl) 34 rfl (by decide) HLq.out (Nat.zero_le _) ?_; intro vq wq hownq hgq hatq; have hq := Hk.out.grewOb hownq hgq hatq (Nat.le_succ _); obtain ⟨Oq, hOq⟩ : ∃ P, P = Ok ++ [34] := ⟨_, rfl⟩; rw [← hOq] at hownq hq; obtain ⟨Aq, cq, rfl, -, -, -, -⟩ := hownq.form; have Hq := Lib.hid hq; have HOq := Lib.hid hOq; clear hownq hgq hatq hq hOq)
                    have HOQ : Hid (Oq = nb ((base0 ++ rowT (L1.take m) ++ [44]) ++ [34])) := Lib.hid (by
                      rw [HOq.out, HOK.out]
                      simp [nb])
                    go_wp2
                    go_loopw [4, 10] (fun v j wy => ∃ (p : Nat) (A3 : Option Addr) (c3 : Nat) (O3 : List Nat), p ≤ s.size ∧ v = .slice A3 O3.length c3 ∧ j = .int .i64 p ∧ Hid (O3 = nb (((base0 ++ rowT (L1.take m) ++ [44]) ++ [34]) ++ dbl ((lS s).take p))) ∧ Hid (St Zf [ObA 5 (.slice A3 O3.length c3) O3] w wy)) (fun _ j _ => s.size - (intOf j).toNat)
                    case atStart => exact ⟨0, _, _, Oq, Nat.zero_le _, rfl, rfl, Lib.hid (by rw [HOQ.out]; simp [dbl]), Hq⟩
                    case round =>
                      obtain ⟨p, A3, c3, O3, hp, rfl, rfl, HO3, HS3⟩ := hrel
                      have HL3 : Hid (O3.length + 4 ≤ 140737488355328) := Lib.hid (by
                        have h1 := HBL.out
                        have h2 := dbl_len ((lS s).take p)
                        have h3 : ((lS s).take p).length ≤ s.size := by rw [List.length_take, lS_len]; omega
                        have h4 := HSS.out
                        rw [HO3.out, nb_len, List.length_append]
                        omega)
                      by_cases hps : p < s.size
                      · have hpw : p < 140737488355328 := by have := HSS.out; omega
                        obtain ⟨x, hx⟩ : ∃ x : UInt8, s[p]'hps = x := ⟨_, rfl⟩
                        have HDD : Hid (dbl ((lS s).take (p + 1)) = dbl ((lS s).take p) ++ dbl [x]) := Lib.hid (by
                          have h1 := byte_at s p hps
                          rw [hx] at h1
                          have h2 : (lS s).take (p + 1) = (lS s).take p ++ [x] := by
                            rw [List.take_add_one]
                            unfold lS
                            rw [h1]
                            rfl
                          rw [h2, dbl_append])
                        by_cases x34 : x = 34
                        · subst x34
                          have f1 : (((34 : UInt8).toNat : Int) == 34) = true := by decide
                          have HLa : Hid (O3.length + 1 ≤ 140737488355328) := Lib.hid (by have := HL3.out; omega)
                          have HLb : Hid ((O3 ++ [34]).length + 1 ≤ 140737488355328) := Lib.hid (by have := HL3.out; simp; omega)
                          go_wp2_with (first
                            | (at_builtin; refine wpList_append_lit8 _ rfl _ _ 44 rfl 0 5 i0 Tryd.underlying44 hi hz0 hz1 hz2 _ O3 34 (by rfl) HS3.out.ob (by rfl) 34 rfl (by decide) HLa.out (Nat.zero_le _) ?_; intro va wa howna hga hata; have ha := HS3.out.grewOb howna hga hata (Nat.le_succ _); obtain ⟨Oa, hOa⟩ : ∃ P, P = O3 ++ [34] := ⟨_, rfl⟩; rw [← hOa] at howna ha; obtain ⟨Aa, ca, rfl, -, -, -, -⟩ := howna.form; have Ha := Lib.hid ha; have HOa := Lib.hid hOa; clear howna hga hata ha hOa)
                            | (rw [← HOa.out] at HLb; fail)
                            | (at_builtin; refine wpList_append_lit8 _ rfl _ _ 44 rfl 0 5 i0 Tryd.underlying44 hi hz0 hz1 hz2 _ Oa 34 (by rfl) Ha.out.ob (by rfl) 34 rfl (by decide) (by rw [HOa.out]; exact HLb.out) (Nat.zero_le _) ?_; intro vb wb hownb hgb hatb; have hb := Ha.out.grewOb hownb hgb hatb (Nat.le_succ _); obtain ⟨Ob, hOb⟩ : ∃ P, P = Oa ++ [34] := ⟨_, rfl⟩; rw [← hOb] at hownb hb; obtain ⟨Ab, cb, rfl, -, -, -, -⟩ := hownb.form; have Hb := Lib.hid hb; have HOb := Lib.hid hOb; clear hownb hgb hatb hb hOb))
                          have HON : Hid (Ob = nb (((base0 ++ rowT (L1.take m) ++ [44]) ++ [34]) ++ dbl ((lS s).take (p + 1)))) := Lib.hid (by
                            rw [HOb.out, HOa.out, HO3.out, HDD.out]
                            simp [nb, dbl])
                          go_wp2
                          go_roundw
                          case rel => exact ⟨p + 1, Ab, cb, Ob, by omega, rfl, by go_num, HON, Hb⟩
                          case measure => simp [intOf]; omega
                        · have f1 : ((x.toNat : Int) == 34) = false := by
                            rw [beq_eq_false_iff_ne]
                            intro e
                            exact x34 (UInt8.toNat_inj.1 (by show x.toNat = 34; omega))
                          have hxlt := x.toNat_lt
                          have HLa : Hid (O3.length + 1 ≤ 140737488355328) := Lib.hid (by have := HL3.out; omega)
                          go_wp2_with (at_builtin; refine wpList_append_lit8 _ rfl _ _ 44 rfl 0 5 i0 Tryd.underlying44 hi hz0 hz1 hz2 _ O3 x.toNat (by rfl) HS3.out.ob (by rfl) x.toNat rfl hxlt HLa.out (Nat.zero_le _) ?_; intro va wa howna hga hata; have ha := HS3.out.grewOb howna hga hata (Nat.le_succ _); obtain ⟨Oa, hOa⟩ : ∃ P, P = O3 ++ [x.toNat] := ⟨_, rfl⟩; rw [← hOa] at howna ha; obtain ⟨Aa, ca, rfl, -, -, -, -⟩ := howna.form; have Ha := Lib.hid ha; have HOa := Lib.hid hOa; clear howna hga hata ha hOa)
                          have HON : Hid (Oa = nb (((base0 ++ rowT (L1.take m) ++ [44]) ++ [34]) ++ dbl ((lS s).take (p + 1)))) := Lib.hid (by
                            rw [HOa.out, HO3.out, HDD.out]
                            simp [nb, dbl, x34])
                          go_wp2
                          go_roundw
                          case rel => exact ⟨p + 1, Aa, ca, Oa, by omega, rfl, by go_num, HON, Ha⟩
                          case measure => simp [intOf]; omega
                      · have HTS : Hid ((lS s).take p = lS s) := Lib.hid (List.take_of_length_le (by rw [lS_len]; omega))
                        rw [HTS.out] at HO3
                        have HLe : Hid (O3.length + 1 ≤ 140737488355328) := Lib.hid (by have := HL3.out; omega)
                        go_wp2_with (at_builtin; refine wpList_append_lit8 _ rfl _ _ 44 rfl 0 5 i0 Tryd.underlying44 hi hz0 hz1 hz2 _ O3 34 (by rfl) HS3.out.ob (by rfl) 34 rfl (by decide) HLe.out (Nat.zero_le _) ?_; intro ve we howne hge hate; have he := HS3.out.grewOb howne hge hate (Nat.le_succ _); obtain ⟨Oe, hOe⟩ : ∃ P, P = O3 ++ [34] := ⟨_, rfl⟩; rw [← hOe] at howne he; obtain ⟨Ae, ce, rfl, -, -, -, -⟩ := howne.form; have He := Lib.hid he; have HOe := Lib.hid hOe; clear howne hge hate he hOe)
                        have HON : Hid (Oe = nb (base0 ++ rowT (L1.take (m + 1)))) := Lib.hid (by
                          rw [HOe.out, HO3.out, HPRE.out, HFM.out]
                          simp [nb])
                        go_wp2
                        go_roundw
                        case rel => exact ⟨m + 1, Ae, ce, Oe, by omega, rfl, by go_num, by rw [← HBASE.out]; exact HON, He⟩
                        case measure => simp [intOf]; omega
                  | false =>
                    have hsp2 : (lS s).any spc = false := hsp
                    have HFM : Hid (fmtF (lS s) = dbl (lS s)) := Lib.hid (by rw [fmt_parts, hsp2]; simp)
                    have HBL : Hid (((base0 ++ rowT (L1.take m) ++ [44])).length ≤ 4294967296) := Lib.hid (by
                      have h1 := HB0.out
                      have h2 := HB1.out
                      simp
                      omega)
                    clear hsp hsp2
                    go_wp2
                    go_loopw [4, 10] (fun v j wy => ∃ (p : Nat) (A3 : Option Addr) (c3 : Nat) (O3 : List Nat), p ≤ s.size ∧ v = .slice A3 O3.length c3 ∧ j = .int .i64 p ∧ Hid (O3 = nb ((base0 ++ rowT (L1.take m) ++ [44]) ++ dbl ((lS s).take p))) ∧ Hid (St Zf [ObA 5 (.slice A3 O3.length c3) O3] w wy)) (fun _ j _ => s.size - (intOf j).toNat)
                    case atStart => exact ⟨0, _, _, Ok, Nat.zero_le _, rfl, rfl, Lib.hid (by rw [HOK.out]; simp [dbl]), Hk⟩
                    case round =>
                      obtain ⟨p, A3, c3, O3, hp, rfl, rfl, HO3, HS3⟩ := hrel
                      have HL3 : Hid (O3.length + 4 ≤ 140737488355328) := Lib.hid (by
                        have h1 := HBL.out
                        have h2 := dbl_len ((lS s).take p)
                        have h3 : ((lS s).take p).length ≤ s.size := by rw [List.length_take, lS_len]; omega
                        have h4 := HSS.out
                        rw [HO3.out, nb_len, List.length_append]
                        omega)
                      by_cases hps : p < s.size
                      · have hpw : p < 140737488355328 := by have := HSS.out; omega
                        obtain ⟨x, hx⟩ : ∃ x : UInt8, s[p]'hps = x := ⟨_, rfl⟩
                        have HDD : Hid (dbl ((lS s).take (p + 1)) = dbl ((lS s).take p) ++ dbl [x]) := Lib.hid (by
                          have h1 := byte_at s p hps
                          rw [hx] at h1
                          have h2 : (lS s).take (p + 1) = (lS s).take p ++ [x] := by
                            rw [List.take_add_one]
                            unfold lS
                            rw [h1]
                            rfl
                          rw [h2, dbl_append])
                        by_cases x34 : x = 34
                        · subst x34
                          have f1 : (((34 : UInt8).toNat : Int) == 34) = true := by decide
                          have HLa : Hid (O3.length + 1 ≤ 140737488355328) := Lib.hid (by have := HL3.out; omega)
                          have HLb : Hid ((O3 ++ [34]).length + 1 ≤ 140737488355328) := Lib.hid (by have := HL3.out; simp; omega)
                          go_wp2_with (first
                            | (at_builtin; refine wpList_append_lit8 _ rfl _ _ 44 rfl 0 5 i0 Tryd.underlying44 hi hz0 hz1 hz2 _ O3 34 (by rfl) HS3.out.ob (by rfl) 34 rfl (by decide) HLa.out (Nat.zero_le _) ?_; intro va wa howna hga hata; have ha := HS3.out.grewOb howna hga hata (Nat.le_succ _); obtain ⟨Oa, hOa⟩ : ∃ P, P = O3 ++ [34] := ⟨_, rfl⟩; rw [← hOa] at howna ha; obtain ⟨Aa, ca, rfl, -, -, -, -⟩ := howna.form; have Ha := Lib.hid ha; have HOa := Lib.hid hOa; clear howna hga hata ha hOa)
                            | (rw [← HOa.out] at HLb; fail)
                            | (at_builtin; refine wpList_append_lit8 _ rfl _ _ 44 rfl 0 5 i0 Tryd.underlying44 hi hz0 hz1 hz2 _ Oa 34 (by rfl) Ha.out.ob (by rfl) 34 rfl (by decide) (by rw [HOa.out]; exact HLb.out) (Nat.zero_le _) ?_; intro vb wb hownb hgb hatb; have hb := Ha.out.grewOb hownb hgb hatb (Nat.le_succ _); obtain ⟨Ob, hOb⟩ : ∃ P, P = Oa ++ [34] := ⟨_, rfl⟩; rw [← hOb] at hownb hb; obtain ⟨Ab, cb, rfl, -, -, -, -⟩ := hownb.form; have Hb := Lib.hid hb; have HOb := Lib.hid hOb; clear hownb hgb hatb hb hOb))
                          have HON : Hid (Ob = nb ((base0 ++ rowT (L1.take m) ++ [44]) ++ dbl ((lS s).take (p + 1)))) := Lib.hid (by
                            rw [HOb.out, HOa.out, HO3.out, HDD.out]
                            simp [nb, dbl])
                          go_wp2
                          go_roundw
                          case rel => exact ⟨p + 1, Ab, cb, Ob, by omega, rfl, by go_num, HON, Hb⟩
                          case measure => simp [intOf]; omega
                        · have f1 : ((x.toNat : Int) == 34) = false := by
                            rw [beq_eq_false_iff_ne]
                            intro e
                            exact x34 (UInt8.toNat_inj.1 (by show x.toNat = 34; omega))
                          have hxlt := x.toNat_lt
                          have HLa : Hid (O3.length + 1 ≤ 140737488355328) := Lib.hid (by have := HL3.out; omega)
                          go_wp2_with (at_builtin; refine wpList_append_lit8 _ rfl _ _ 44 rfl 0 5 i0 Tryd.underlying44 hi hz0 hz1 hz2 _ O3 x.toNat (by rfl) HS3.out.ob (by rfl) x.toNat rfl hxlt HLa.out (Nat.zero_le _) ?_; intro va wa howna hga hata; have ha := HS3.out.grewOb howna hga hata (Nat.le_succ _); obtain ⟨Oa, hOa⟩ : ∃ P, P = O3 ++ [x.toNat] := ⟨_, rfl⟩; rw [← hOa] at howna ha; obtain ⟨Aa, ca, rfl, -, -, -, -⟩ := howna.form; have Ha := Lib.hid ha; have HOa := Lib.hid hOa; clear howna hga hata ha hOa)
                          have HON : Hid (Oa = nb ((base0 ++ rowT (L1.take m) ++ [44]) ++ dbl ((lS s).take (p + 1)))) := Lib.hid (by
                            rw [HOa.out, HO3.out, HDD.out]
                            simp [nb, dbl, x34])
                          go_wp2
                          go_roundw
                          case rel => exact ⟨p + 1, Aa, ca, Oa, by omega, rfl, by go_num, HON, Ha⟩
                          case measure => simp [intOf]; omega
                      · have HTS : Hid ((lS s).take p = lS s) := Lib.hid (List.take_of_length_le (by rw [lS_len]; omega))
                        rw [HTS.out] at HO3
                        have HON : Hid (O3 = nb (base0 ++ rowT (L1.take (m + 1)))) := Lib.hid (by
                          rw [HO3.out, HPRE.out, HFM.out])
                        go_wp2
                        go_roundw
                        case rel => exact ⟨m + 1, A3, c3, O3, by omega, rfl, by go_num, by rw [← HBASE.out]; exact HON, HS3⟩
                        case measure => simp [intOf]; omega
          · have HTK1 : Hid (L1.take m = L1) := Lib.hid (List.take_of_length_le (by omega))
            rw [HTK1.out] at HO2
            have HLe : Hid (O2.length + 2 ≤ 140737488355328) := Lib.hid (by
              have h1 := HB0.out
              have h2 := rowT_len L1
              have h3 := HRW.out
              rw [HO2.out, nb_len, List.length_append]
              omega)
            have hnb : IsBytes [13, 10] := by
              intro x hx
              simp at hx
              omega
            have hx2 : RB (wr.alloc (.cells #[.int .u8 13, .int .u8 10] 5)) (wr.heap.size + 1) (some ⟨wr.heap.size, 0, none⟩) [13, 10] := RB.lit wr 5 hnb #[.int .u8 13, .int .u8 10] rfl
            have HX2 := Lib.hid hx2
            have HSA := Lib.hid (HST2.out.alloc (.cells #[.int .u8 13, .int .u8 10] 5))
            clear hx2 hnb
            go_wp2_with (at_builtin; refine wpList_append_bytes _ rfl _ _ 44 rfl 0 5 i0 Tryd.underlying44 hi hz0 hz1 hz2 _ O2 (by rfl) HSA.out.ob (some ⟨wr.heap.size, 0, none⟩) 2 (wr.heap.size + 1) [13, 10] 2 rfl (by rfl) HX2.out HLe.out (Nat.zero_le _) ?_; intro v9 w9 hown9 hg9 hat9; have h9 := HSA.out.grewOb hown9 hg9 hat9 (Nat.le_refl _); obtain ⟨O9, hO9⟩ : ∃ P, P = O2 ++ [13, 10] := ⟨_, rfl⟩; rw [← hO9] at hown9 h9; obtain ⟨A9, c9, rfl, -, -, -, -⟩ := hown9.form; have H9 := Lib.hid h9; have HO9 := Lib.hid hO9; clear hown9 hg9 hat9 h9 hO9)
            have HON : Hid (O9 = nb (rowsT (rowsOf (X.take (k + 1))))) := Lib.hid (by
              rw [HO9.out, HO2.out, HTK.out, rowsT_snoc, nb_app, nb_app, nb_app, List.append_assoc]
              rfl)
            have HNN : Hid (∀ r ∈ rowsOf (X.take (k + 1)), r ≠ []) := Lib.hid (by
              intro r hr
              rw [HTK.out] at hr
              rcases List.mem_append.1 hr with hr | hr
              · exact HN.out r hr
              · rw [List.mem_singleton.1 hr]
                exact HNE.out)
            go_wp2
            go_roundw
            case rel => exact ⟨k + 1, A9, c9, O9, by omega, rfl, by go_num, HON, HNN, H9⟩
            case measure => simp [intOf]; omega
    · have HTK : Hid (X.take k = X) := Lib.hid (List.take_of_length_le (by omega))
      rw [HTK.out] at HO HN
      have HPE : Hid (prE (rowsOf X) = 0 ∧ prS (rowsOf X) = strOf O) := Lib.hid (by
        have h1 := prE_ok HN.out
        refine ⟨h1, ?_⟩
        unfold prS
        rw [h1, HO.out, strOf_nb]
        rfl)
      have hcv := run_bytes_str (P := Tryd.prog) (w := wr) 44 9 5 c' Tryd.underlying44 Tryd.underlying5 Tryd.underlying9 HST.out.ob.reads.2.1
      go_wp2
      go_ret2
      refine ⟨?_, HST.out.bel⟩
      rw [HPE.out.1, HPE.out.2]
      rfl
end Go.Proofs.YtmdljfpkbfhbdaaDoor

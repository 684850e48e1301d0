/- slots: Pack. -/
import Derived.Test.YtgpahglmhnnobaaGreatDoorSlPure
import Derived.Test.YtgpahglmhnnobaaGreatDoorValEnc2
import Derived.Test.YtgpahglmhnnobaaGreatDoorWrA
import Derived.Test.YtgpahglmhnnobaaGreatDoorApZeros
namespace Go.Proofs.YtgpahglmhnnobaaGreatDoor
open Go.RowKit
set_option linter.unusedVariables false
set_option linter.unusedSimpArgs false

/-- make([]T, n) within a drawn region -/
theorem step_make_full {P : Program} (w : World) {ops : Array Oper} {o : Oper} {a : Act} {K : Act → World → Prop} {Q : Exit → Act → World → Prop} {E : Prop} (hgd : o.guard = none) (l c : Operand) (t : TypeId) (hop : o.op = Op.makeSlice t l c)
    (base : Nat) (e : TypeId) (i : TypeInfo) (z : Value) (size : Nat) (h1 : P.underlying t = some (.slice e)) (h2 : P.info? e = some i) (h3 : i.zero = some z) (h4 : i.size = size)
    (n : Nat) (hl : a.eval l = .int .i64 (n : Int)) (hc : a.eval c = .int .i64 (n : Int)) (b2 : i.bytes * n ≤ 281474976710656) (b3 : n ≤ maxLen) (b4 : base ≤ w.heap.size) (N : Nat) (hN : w.heap.size = N)
    (hK : ∀ w', w'.ownsRow base e size (.slice (some ⟨N, 0, none⟩) n n) n (madeCells z.cells (n * size)).toList → w.grownBy w' none → K (a.put o.dst (.slice (some ⟨N, 0, none⟩) n n)) w') :
    if Region.wanted o (yielded ops a.tmps) = true then Oper.wp P o a w K Q else E := by
  subst hN
  have hw : Region.wanted o (yielded ops a.tmps) = true := by simp [Region.wanted, hgd]
  rw [if_pos hw]
  obtain ⟨w', hrun, r1, r2⟩ := run_make_full (P := P) w base t e i z size h1 h2 h3 h4 .i64 .i64 n b2 b3 b4
  unfold Oper.wp
  simp [execOp, hop, hl, hc, hrun, Result.andThen]
  exact hK w' r1 r2

theorem St.obR {S : Fp} {l : List Ass} {w0 w : World} {e : TypeId} {A : Option Addr} {n c : Nat} {bs : List Nat} (h : St S (ObA e (.slice A n c) bs :: l) w0 w) : n = bs.length ∧ n ≤ c ∧ c ≤ maxLen ∧ RB w w.heap.size A bs := by
  obtain ⟨A', c', e', h1, h2, h3, -⟩ := h.ob.form
  simp only [Value.slice.injEq] at e'
  obtain ⟨rfl, rfl, rfl⟩ := e'
  exact ⟨rfl, h1, h2, h3⟩
theorem made_zeros (n : Nat) : (madeCells (Value.int .u8 0).cells (n * 1)).toList = cells8 (List.replicate n 0) := by
  rw [show (Value.int .u8 0).cells = #[Value.int .u8 0] from rfl, Nat.mul_one, toList_madeCells_one]
  simp [cells8]
theorem OB.zeros {w : World} {base : Nat} {e : TypeId} {v : Value} {n : Nat} (h : w.ownsRow base e 1 v n (madeCells (Value.int .u8 0).cells (n * 1)).toList) : OB w base e v (List.replicate n 0) := by
  refine ⟨fun x hx => by rw [(List.mem_replicate.1 hx).2]; omega, ?_⟩
  rw [made_zeros] at h
  rw [List.length_replicate]
  exact h
set_option maxHeartbeats 400000 in
theorem slotsFor_any (n : Nat) (hn : n ≤ 1099511627776) (w : World) : Calls Tryz.prog 36 #[.int .i64 (n : Int)] w fun e w' => e = .returned (.int .i64 (need n : Int)) ∧ w = w' := by
  have hq : Int.tdiv (2 + (n : Int) + 8 - 1) 8 = (need n : Int) := by rw [Int.tdiv_eq_ediv_of_nonneg (by omega)]; unfold need; omega
  have hw : wrap64 (need n : Int) = (need n : Int) := by unfold need wrap64; omega
  go_enter Tryz.func36, Tryz.ntmps36
  go_wp2
  go_ret
  exact ⟨ret_int hw, rfl⟩
def isTok (k : Int) : Bool := decide (0 ≤ k ∧ k < 200)
theorem isTok_yes {k : Int} (h : 0 ≤ k ∧ k < 200) : isTok k = true := decide_eq_true h
theorem isTok_no {k : Int} (h : ¬ (0 ≤ k ∧ k < 200)) : isTok k = false := decide_eq_false h
set_option maxHeartbeats 400000 in
theorem isToken_any (k : Int) (w : World) : Calls Tryz.prog 37 #[.int .i64 k] w fun e w' => e = .returned (.bool (isTok k)) ∧ w = w' := by
  by_cases h1 : 0 ≤ k
  · by_cases h2 : k < 200
    · have H := Lib.hid (isTok_yes ⟨h1, h2⟩)
      go_enter Tryz.func37, Tryz.ntmps37
      go_wp2
      go_ret
      exact ⟨ret_bool H.out.symm, rfl⟩
    · have H := Lib.hid (isTok_no (k := k) (by omega))
      go_enter Tryz.func37, Tryz.ntmps37
      go_wp2
      go_ret
      exact ⟨ret_bool H.out.symm, rfl⟩
  · have H := Lib.hid (isTok_no (k := k) (by omega))
    go_enter Tryz.func37, Tryz.ntmps37
    go_wp2
    go_ret
    exact ⟨ret_bool H.out.symm, rfl⟩
set_option maxHeartbeats 400000 in
theorem Need_any (v : Vv) (x : Value) (B : Nat) (w : World) (h : VR w B v x) (hB : B ≤ w.heap.size) :
    Calls Tryz.prog 15 #[x] w fun e w' => e = .returned (.int .i64 (if chk v = 0 then (need (encB v).length : Int) else 0)) ∧ Below w.heap.size w w' := by
  obtain ⟨A, c, A', c', rfl, h1, h2, h3⟩ := h
  have hV : VR w B v (vagg v A c A' c') := ⟨A, c, A', c', rfl, h1, h2, h3⟩
  obtain ⟨wo, hwo⟩ : ∃ x, x = w.alloc (.cells #[.int .i64 v.k, .int .i64 v.n, .string v.s, .slice A v.ns.length c, .slice A' v.ts.length c'] 42) := ⟨_, rfl⟩
  have hVo : VR wo B v (vagg v A c A' c') := by subst hwo; exact hV.alloc hB _
  have hb0 : Below w.heap.size w wo := by subst hwo; exact (Below.refl _ _).alloc (Nat.le_refl _) _
  have Bo : Blk wo w.heap.size 42 #[.int .i64 v.k, .int .i64 v.n, .string v.s, .slice A v.ns.length c, .slice A' v.ts.length c'] := by subst hwo; exact Blk.new _ _ _
  have HC := Lib.hid (Weight_any v _ B wo hVo (by have := hb0.size; omega))
  have HW := Lib.hid hwo
  have HB0 := Lib.hid hb0
  have hz : (encV v).length = 0 ∨ 0 < (encV v).length := by omega
  have hz1 : chk v ≠ 0 → (encV v).length = 0 := fun h => by rw [encV_no h]; rfl
  have hz2 : chk v = 0 → (encV v).length = (encB v).length ∧ 0 < (encV v).length ∧ (encV v).length ≤ 40402 := fun h => by
    rw [encV_ok h]
    exact ⟨rfl, by unfold encB encHead; simp, encB_small h⟩
  clear h1 h2 h3 hV hwo hVo
  unfold vagg at HC ⊢
  by_cases h0 : chk v = 0
  · rw [if_pos h0]
    obtain ⟨e1, e2, e3⟩ := hz2 h0
    have HSF := Lib.hid (fun w => slotsFor_any (encV v).length (by omega) w)
    rw [← e1]
    obtain ⟨n, hn⟩ : ∃ n, n = (encV v).length := ⟨_, rfl⟩
    rw [← hn] at HC HSF e2 ⊢
    have hne : ((n : Int) == 0) = false := by simp; omega
    clear hn e1 e3 hz hz1 hz2 h0 hb0
    go_enter Tryz.func15, Tryz.ntmps15
    go_wp2_with fail
    rw [← HW.out]
    refine (HC.out).mono ?_
    rintro e w1 ⟨rfl, b1⟩
    have HB1 := Lib.hid (HB0.out.trans (b1.mono HB0.out.size))
    clear b1
    go_wp2_with (go_at_call 36; refine (HSF.out _).mono ?_; rintro e w' ⟨rfl, rfl⟩)
    go_ret
    exact ⟨rfl, HB1.out⟩
  · rw [if_neg h0]
    rw [hz1 h0] at HC
    clear hz hz1 hz2 h0 hb0
    go_enter Tryz.func15, Tryz.ntmps15
    go_wp2_with fail
    rw [← HW.out]
    refine (HC.out).mono ?_
    rintro e w1 ⟨rfl, b1⟩
    have HB1 := Lib.hid (HB0.out.trans (b1.mono HB0.out.size))
    clear b1
    go_wp2
    go_ret
    exact ⟨rfl, HB1.out⟩

/-- the packer's block -/
def pkCs (gs go : Nat) (p : Pk) : Array Value := #[.pointer (some ⟨gs, 0, none⟩), .pointer (some ⟨go, 0, none⟩), .int .i64 (p.left : Int), .int .i64 p.key]
def PkL (g gs go : Nat) (p : Pk) : List Ass := [BlkA g 51 (pkCs gs go p), WrA gs p.sl, WrA go p.ov]
instance stablePkL {g gs go : Nat} {p : Pk} : Stable (Sep (PkL g gs go p)) := by
  unfold PkL
  infer_instance
theorem pk_cells {S : Fp} {l : List Ass} {w0 w : World} {g gs go : Nat} {p : Pk} {t : TypeId} (h : St S (BlkA g t (pkCs gs go p) :: l) w0 w) :
    w.cell? ⟨g, 0, none⟩ = some (.pointer (some ⟨gs, 0, none⟩)) ∧ w.cell? ⟨g, 1, none⟩ = some (.pointer (some ⟨go, 0, none⟩)) ∧ w.cell? ⟨g, 2, none⟩ = some (.int .i64 (p.left : Int)) ∧ w.cell? ⟨g, 3, none⟩ = some (.int .i64 p.key) ∧ w.frozen? ⟨g, 2, none⟩ = false ∧ w.frozen? ⟨g, 3, none⟩ = false := by
  have hb := h.blk
  exact ⟨by rw [hb.cell 0]; rfl, by rw [hb.cell 1]; rfl, by rw [hb.cell 2]; rfl, by rw [hb.cell 3]; rfl, hb.frozen 2, hb.frozen 3⟩
section
variable {l : List Ass} {w0 w : World} {g gs go : Nat} {p : Pk}
set_option maxRecDepth 100000 in
set_option maxHeartbeats 800000 in
theorem putOutside_any [Stable (Sep l)] {S : Fp} {A : Option Addr} {c : Nat} {D : List Nat} (h : St S (BlkA g 51 (pkCs gs go p) :: WrA gs p.sl :: WrA go p.ov :: ObA 5 (.slice A D.length c) D :: l) w0 w) (hD : D.length ≤ 40402) (hk : 0 ≤ p.key ∧ p.key < 200) (ho : p.ov.length ≤ 1099511627776) :
    Calls Tryz.prog 40 #[.pointer (some ⟨g, 0, none⟩), .slice A D.length c] w fun e w' => e = .returned (.tuple #[]) ∧
      St S (BlkA g 51 (pkCs gs go p) :: WrA gs p.sl :: WrA go (p.ov ++ (enc 2 (p.key + 1).toNat ++ enc 2 D.length ++ D)) :: ObA 5 (.slice A D.length c) D :: l) w0 w' := by
  obtain ⟨c0, c1, c2, c3, f2, f3⟩ := pk_cells h
  obtain ⟨k, hk1⟩ : ∃ k : Nat, p.key = (k : Int) := ⟨p.key.toNat, by omega⟩
  have hk2 : k < 200 := by omega
  obtain ⟨m, hm⟩ : ∃ m, m = k + 1 := ⟨_, rfl⟩
  have u0 : IntKind.i64.wrap ((k : Int) + 1) = (m : Int) := by rw [IntKind.wrap_i64]; omega
  have u1 : IntKind.u64.wrap (m : Int) = (m : Int) := by rw [IntKind.wrap_u64]; omega
  have u2 : IntKind.u64.wrap (D.length : Int) = (D.length : Int) := by rw [IntKind.wrap_u64]; omega
  have hkn : (p.key + 1).toNat = m := by omega
  rw [hkn]
  rw [hk1] at c3
  obtain ⟨n, hn⟩ : ∃ n, n = D.length := ⟨_, rfl⟩
  have HN := Lib.hid hn
  rw [← hn] at u2 hD h ⊢
  have H := Lib.hid h.bring2
  have HL : Hid (p.ov.length + 8 ≤ 140737488355328 ∧ m < 18446744073709551616 ∧ n < 18446744073709551616 ∧ n ≤ 40402 ∧ p.ov.length ≤ 1099511627776) := Lib.hid (by omega)
  have HK1 := Lib.hid hk1
  clear h hn hk hkn ho hD hk1 hm
  go_enter Tryz.func40, Tryz.ntmps40
  go_wp2_with fail
  refine wp_region_held_drew (S := (fun w' => w'.cell? ⟨g, 1, none⟩ = some (.pointer (some ⟨go, 0, none⟩)) ∧ w'.cell? ⟨g, 3, none⟩ = some (.int .i64 (k : Int)))) (by kernel_rfl) (by (try dsimp only); go_keep) (fun hHeld => ?_)
  refine wpAnyH_take (i := 0) (v := ?_) rfl (by kernel_rfl) (by kernel_rfl) (by kernel_rfl) (fun _ _ _ h => h) (Or.inl ⟨by rfl, ?_⟩) (by assumption) ?_
  rotate_left
  · (intro w hSw; (try dsimp only at hSw); go_simp; try with_reducible rfl)
  try simp only [Act.put, List.getElem_toArray, List.getElem_cons_zero, List.getElem_cons_succ, List.setIfInBounds_toArray, List.set_cons_zero, List.set_cons_succ]
  refine wpAnyH_take (i := 1) (v := ?_) rfl (by kernel_rfl) (by kernel_rfl) (by kernel_rfl) (fun _ _ _ h => h) (Or.inl ⟨by rfl, ?_⟩) (by assumption) ?_
  rotate_left
  · (intro w hSw; (try dsimp only at hSw); go_simp; try with_reducible rfl)
  try simp only [Act.put, List.getElem_toArray, List.getElem_cons_zero, List.getElem_cons_succ, List.setIfInBounds_toArray, List.set_cons_zero, List.set_cons_succ]
  refine wpAnyH_take (i := 2) (v := ?_) rfl (by kernel_rfl) (by kernel_rfl) (by kernel_rfl) (fun _ _ _ h => h) (Or.inl ⟨by rfl, ?_⟩) (by assumption) ?_
  rotate_left
  · (intro w hSw; (try dsimp only at hSw); go_simp; try with_reducible rfl)
  try simp only [Act.put, List.getElem_toArray, List.getElem_cons_zero, List.getElem_cons_succ, List.setIfInBounds_toArray, List.set_cons_zero, List.set_cons_succ]
  refine wpAnyH_take (i := 3) (v := ?_) rfl (by kernel_rfl) (by kernel_rfl) (by kernel_rfl) (fun _ _ _ h => h) (Or.inl ⟨by rfl, ?_⟩) (by assumption) ?_
  rotate_left
  · (intro w hSw; (try dsimp only at hSw); go_simp; try with_reducible rfl)
  try simp only [Act.put, List.getElem_toArray, List.getElem_cons_zero, List.getElem_cons_succ, List.setIfInBounds_toArray, List.set_cons_zero, List.set_cons_succ]
  refine wpAnyH_take (i := 4) (v := ?_) rfl (by kernel_rfl) (by kernel_rfl) (by kernel_rfl) (fun _ _ _ h => h) (Or.inl ⟨by rfl, ?_⟩) (by assumption) ?_
  rotate_left
  · (intro w hSw; (try dsimp only at hSw); go_simp; try with_reducible rfl)
  try simp only [Act.put, List.getElem_toArray, List.getElem_cons_zero, List.getElem_cons_succ, List.setIfInBounds_toArray, List.set_cons_zero, List.set_cons_succ]
  refine wpAnyH_take (i := 5) (v := ?_) rfl (by kernel_rfl) (by kernel_rfl) (by kernel_rfl) (fun _ _ _ h => h) (Or.inl ⟨by rfl, ?_⟩) (by assumption) ?_
  rotate_left
  · (intro w hSw; (try dsimp only at hSw); go_simp; try with_reducible rfl)
  try simp only [Act.put, List.getElem_toArray, List.getElem_cons_zero, List.getElem_cons_succ, List.setIfInBounds_toArray, List.set_cons_zero, List.set_cons_succ]
  refine wpAnyH_take (i := 6) (v := ?_) rfl (by kernel_rfl) (by kernel_rfl) (by kernel_rfl) (fun _ _ _ h => h) (Or.inl ⟨by rfl, ?_⟩) (by assumption) ?_
  rotate_left
  · (intro w hSw; (try dsimp only at hSw); go_simp; try with_reducible rfl)
  try simp only [Act.put, List.getElem_toArray, List.getElem_cons_zero, List.getElem_cons_succ, List.setIfInBounds_toArray, List.set_cons_zero, List.set_cons_succ]
  refine wpAnyH_take (i := 7) (v := ?_) rfl (by kernel_rfl) (by kernel_rfl) (by kernel_rfl) (fun _ _ _ h => h) (Or.inl ⟨by rfl, ?_⟩) (by assumption) ?_
  rotate_left
  · (intro w hSw; (try dsimp only at hSw); go_simp; try with_reducible rfl)
  try simp only [Act.put, List.getElem_toArray, List.getElem_cons_zero, List.getElem_cons_succ, List.setIfInBounds_toArray, List.set_cons_zero, List.set_cons_succ]
  refine wpAnyH_take (i := 8) (v := ?_) rfl (by kernel_rfl) (by kernel_rfl) (by kernel_rfl) (fun _ _ _ h => h) (Or.inl ⟨by rfl, ?_⟩) (by assumption) ?_
  rotate_left
  · (intro w hSw; (try dsimp only at hSw); go_simp; try with_reducible rfl)
  try simp only [Act.put, List.getElem_toArray, List.getElem_cons_zero, List.getElem_cons_succ, List.setIfInBounds_toArray, List.set_cons_zero, List.set_cons_succ]
  refine wpAnyH_take (i := 9) (v := ?_) rfl (by kernel_rfl) (by kernel_rfl) (by kernel_rfl) (fun _ _ _ h => h) (Or.inl ⟨by rfl, ?_⟩) (by assumption) ?_
  rotate_left
  · (intro w hSw; (try dsimp only at hSw); go_simp; try with_reducible rfl)
  try simp only [Act.put, List.getElem_toArray, List.getElem_cons_zero, List.getElem_cons_succ, List.setIfInBounds_toArray, List.set_cons_zero, List.set_cons_succ]
  refine wpAnyH_ready (rs := [10]) (by kernel_rfl) (by simp) ?_
  refine AllReadyH.cons rfl (fun K hK => ?_) AllReadyH.nil
  go_simp
  go_at_call 62
  refine (WNumA (H.out.drew) (d := 2) (dd := 2) rfl (by decide) m HL.out.2.1 HL.out.1).mono ?_
  rintro e w1 ⟨rfl, h1⟩
  obtain ⟨d0, d1, d2, d3, -, -⟩ := pk_cells h1.swap
  rw [HK1.out] at d3
  have H1 := Lib.hid h1
  clear h1 H
  refine hK.out _ _ (by (try dsimp only); go_keep) (fun hHeld => ?_)
  clear hK K
  try simp only [Act.put, List.getElem_toArray, List.getElem_cons_zero, List.getElem_cons_succ, List.setIfInBounds_toArray, List.set_cons_zero, List.set_cons_succ]
  refine wpAnyH_done (by kernel_rfl) ?_ _
  go_wp2_with fail
  refine (WNumA H1.out (d := 2) (dd := 2) rfl (by decide) n HL.out.2.2.1 (by rw [List.length_append, enc_length]; have := HL.out; omega)).mono ?_
  rintro e w2 ⟨rfl, h2⟩
  obtain ⟨e0, e1, -, -, -, -⟩ := pk_cells h2.swap
  have HRA := WRawA h2 A c _ D (h2.bring3.obR.2.2.2) (by rw [List.length_append, List.length_append, enc_length, enc_length, ← HN.out]; have := HL.out; omega)
  rw [← HN.out] at HRA
  have HRA := Lib.hid HRA
  clear h2
  go_wp2_with fail
  refine HRA.out.mono ?_
  rintro e w3 ⟨rfl, h3⟩
  have H3 := Lib.hid h3.back2
  clear h3
  go_wp2
  go_end0
  rw [HN.out]
  refine ⟨rfl, ?_⟩
  have h9 := H3.out
  rw [HN.out] at h9
  simp only [List.append_assoc] at h9 ⊢
  exact h9
set_option maxRecDepth 100000 in
set_option maxHeartbeats 800000 in
theorem putInline_any [Stable (Sep l)] {S : Fp} {A : Option Addr} {c : Nat} {D : List Nat} (h : St S (BlkA g 51 (pkCs gs go p) :: WrA gs p.sl :: WrA go p.ov :: ObA 5 (.slice A D.length c) D :: l) w0 w) (hD : D.length ≤ 40402) (hk : 0 ≤ p.key ∧ p.key < 200) (ho : p.sl.length ≤ 128) (hlf : p.left ≤ 16) (hne : need D.length ≤ p.left) :
    Calls Tryz.prog 39 #[.pointer (some ⟨g, 0, none⟩), .slice A D.length c] w fun e w' => e = .returned (.tuple #[]) ∧
      St S (BlkA g 51 (pkCs gs go ⟨p.sl, p.ov, p.left - need D.length, p.key⟩) :: WrA gs (p.sl ++ (enc 2 (p.key + 1).toNat ++ D ++ List.replicate (need D.length * 8 - 2 - D.length) 0)) :: WrA go p.ov :: ObA 5 (.slice A D.length c) D :: l) w0 w' := by
  obtain ⟨i0, hi, hz0, hz1, hz2⟩ := info_parts u8_info
  obtain ⟨c0, c1, c2, c3, f2, f3⟩ := pk_cells h
  obtain ⟨k, hk1⟩ : ∃ k : Nat, p.key = (k : Int) := ⟨p.key.toNat, by omega⟩
  have hk2 : k < 200 := by omega
  obtain ⟨m, hm⟩ : ∃ m, m = k + 1 := ⟨_, rfl⟩
  have u0 : IntKind.i64.wrap ((k : Int) + 1) = (m : Int) := by rw [IntKind.wrap_i64]; omega
  have u1 : IntKind.u64.wrap (m : Int) = (m : Int) := by rw [IntKind.wrap_u64]; omega
  have hkn : (p.key + 1).toNat = m := by omega
  rw [hkn]
  rw [hk1] at c3
  have HSF := Lib.hid (fun w => slotsFor_any D.length (by omega) w)
  have hnr := need_room D.length
  obtain ⟨n, hn⟩ : ∃ n, n = D.length := ⟨_, rfl⟩
  have HN := Lib.hid hn
  rw [← hn] at hD h HSF hne hnr ⊢
  obtain ⟨q, hq⟩ : ∃ q, q = need n := ⟨_, rfl⟩
  rw [← hq] at hne hnr HSF ⊢
  obtain ⟨z, hz⟩ : ∃ z, z = q * 8 - 2 - n := ⟨_, rfl⟩
  obtain ⟨lf, hlf1⟩ : ∃ lf, lf = p.left := ⟨_, rfl⟩
  rw [← hlf1] at hne hlf c2
  have u3 : wrap64 ((q : Int) * 8) = (q : Int) * 8 := by unfold wrap64; omega
  have u4 : wrap64 ((q : Int) * 8 - 2) = (q : Int) * 8 - 2 := by unfold wrap64; omega
  have u5 : wrap64 ((q : Int) * 8 - 2 - (n : Int)) = (z : Int) := by unfold wrap64; omega
  have v3 : IntKind.i64.wrap ((q : Int) * 8) = (q : Int) * 8 := by rw [IntKind.wrap_i64]; omega
  have v4 : IntKind.i64.wrap ((q : Int) * 8 - 2) = (q : Int) * 8 - 2 := by rw [IntKind.wrap_i64]; omega
  have v5 : IntKind.i64.wrap ((q : Int) * 8 - 2 - (n : Int)) = (z : Int) := by rw [IntKind.wrap_i64]; omega
  have v6 : IntKind.i64.wrap ((lf : Int) - (q : Int)) = ((lf - q : Nat) : Int) := by rw [IntKind.wrap_i64]; omega
  have u6 : wrap64 ((lf : Int) - (q : Int)) = ((lf - q : Nat) : Int) := by unfold wrap64; omega
  rw [← hz]
  have H := Lib.hid h.swap
  have HL : Hid (p.sl.length + 8 ≤ 140737488355328 ∧ m < 18446744073709551616 ∧ n ≤ 200 ∧ p.sl.length ≤ 128 ∧ z ≤ 200) := Lib.hid (by omega)
  have HK1 := Lib.hid hk1
  have HLF := Lib.hid hlf1
  clear h hn hk hkn ho hD hk1 hm hz hnr hne hlf hq
  go_enter Tryz.func39, Tryz.ntmps39
  go_wp2_with (go_at_call 36; refine (HSF.out _).mono ?_; rintro e w' ⟨rfl, rfl⟩)
  refine wp_region_held_drew (S := (fun w' => w'.cell? ⟨g, 0, none⟩ = some (.pointer (some ⟨gs, 0, none⟩)) ∧ w'.cell? ⟨g, 3, none⟩ = some (.int .i64 (k : Int)))) (by kernel_rfl) (by (try dsimp only); go_keep) (fun hHeld => ?_)
  refine wpAnyH_take (i := 0) (v := ?_) rfl (by kernel_rfl) (by kernel_rfl) (by kernel_rfl) (fun _ _ _ h => h) (Or.inl ⟨by rfl, ?_⟩) (by assumption) ?_
  rotate_left
  · (intro w hSw; (try dsimp only at hSw); go_simp; try with_reducible rfl)
  try simp only [Act.put, List.getElem_toArray, List.getElem_cons_zero, List.getElem_cons_succ, List.setIfInBounds_toArray, List.set_cons_zero, List.set_cons_succ]
  refine wpAnyH_take (i := 1) (v := ?_) rfl (by kernel_rfl) (by kernel_rfl) (by kernel_rfl) (fun _ _ _ h => h) (Or.inl ⟨by rfl, ?_⟩) (by assumption) ?_
  rotate_left
  · (intro w hSw; (try dsimp only at hSw); go_simp; try with_reducible rfl)
  try simp only [Act.put, List.getElem_toArray, List.getElem_cons_zero, List.getElem_cons_succ, List.setIfInBounds_toArray, List.set_cons_zero, List.set_cons_succ]
  refine wpAnyH_take (i := 2) (v := ?_) rfl (by kernel_rfl) (by kernel_rfl) (by kernel_rfl) (fun _ _ _ h => h) (Or.inl ⟨by rfl, ?_⟩) (by assumption) ?_
  rotate_left
  · (intro w hSw; (try dsimp only at hSw); go_simp; try with_reducible rfl)
  try simp only [Act.put, List.getElem_toArray, List.getElem_cons_zero, List.getElem_cons_succ, List.setIfInBounds_toArray, List.set_cons_zero, List.set_cons_succ]
  refine wpAnyH_take (i := 3) (v := ?_) rfl (by kernel_rfl) (by kernel_rfl) (by kernel_rfl) (fun _ _ _ h => h) (Or.inl ⟨by rfl, ?_⟩) (by assumption) ?_
  rotate_left
  · (intro w hSw; (try dsimp only at hSw); go_simp; try with_reducible rfl)
  try simp only [Act.put, List.getElem_toArray, List.getElem_cons_zero, List.getElem_cons_succ, List.setIfInBounds_toArray, List.set_cons_zero, List.set_cons_succ]
  refine wpAnyH_take (i := 4) (v := ?_) rfl (by kernel_rfl) (by kernel_rfl) (by kernel_rfl) (fun _ _ _ h => h) (Or.inl ⟨by rfl, ?_⟩) (by assumption) ?_
  rotate_left
  · (intro w hSw; (try dsimp only at hSw); go_simp; try with_reducible rfl)
  try simp only [Act.put, List.getElem_toArray, List.getElem_cons_zero, List.getElem_cons_succ, List.setIfInBounds_toArray, List.set_cons_zero, List.set_cons_succ]
  refine wpAnyH_take (i := 5) (v := ?_) rfl (by kernel_rfl) (by kernel_rfl) (by kernel_rfl) (fun _ _ _ h => h) (Or.inl ⟨by rfl, ?_⟩) (by assumption) ?_
  rotate_left
  · (intro w hSw; (try dsimp only at hSw); go_simp; try with_reducible rfl)
  try simp only [Act.put, List.getElem_toArray, List.getElem_cons_zero, List.getElem_cons_succ, List.setIfInBounds_toArray, List.set_cons_zero, List.set_cons_succ]
  refine wpAnyH_take (i := 6) (v := ?_) rfl (by kernel_rfl) (by kernel_rfl) (by kernel_rfl) (fun _ _ _ h => h) (Or.inl ⟨by rfl, ?_⟩) (by assumption) ?_
  rotate_left
  · (intro w hSw; (try dsimp only at hSw); go_simp; try with_reducible rfl)
  try simp only [Act.put, List.getElem_toArray, List.getElem_cons_zero, List.getElem_cons_succ, List.setIfInBounds_toArray, List.set_cons_zero, List.set_cons_succ]
  refine wpAnyH_take (i := 7) (v := ?_) rfl (by kernel_rfl) (by kernel_rfl) (by kernel_rfl) (fun _ _ _ h => h) (Or.inl ⟨by rfl, ?_⟩) (by assumption) ?_
  rotate_left
  · (intro w hSw; (try dsimp only at hSw); go_simp; try with_reducible rfl)
  try simp only [Act.put, List.getElem_toArray, List.getElem_cons_zero, List.getElem_cons_succ, List.setIfInBounds_toArray, List.set_cons_zero, List.set_cons_succ]
  refine wpAnyH_take (i := 8) (v := ?_) rfl (by kernel_rfl) (by kernel_rfl) (by kernel_rfl) (fun _ _ _ h => h) (Or.inl ⟨by rfl, ?_⟩) (by assumption) ?_
  rotate_left
  · (intro w hSw; (try dsimp only at hSw); go_simp; try with_reducible rfl)
  try simp only [Act.put, List.getElem_toArray, List.getElem_cons_zero, List.getElem_cons_succ, List.setIfInBounds_toArray, List.set_cons_zero, List.set_cons_succ]
  refine wpAnyH_take (i := 9) (v := ?_) rfl (by kernel_rfl) (by kernel_rfl) (by kernel_rfl) (fun _ _ _ h => h) (Or.inl ⟨by rfl, ?_⟩) (by assumption) ?_
  rotate_left
  · (intro w hSw; (try dsimp only at hSw); go_simp; try with_reducible rfl)
  try simp only [Act.put, List.getElem_toArray, List.getElem_cons_zero, List.getElem_cons_succ, List.setIfInBounds_toArray, List.set_cons_zero, List.set_cons_succ]
  refine wpAnyH_ready (rs := [10]) (by kernel_rfl) (by simp) ?_
  refine AllReadyH.cons rfl (fun K hK => ?_) AllReadyH.nil
  go_simp
  go_at_call 62
  refine (WNumA (H.out.drew) (d := 2) (dd := 2) rfl (by decide) m HL.out.2.1 HL.out.1).mono ?_
  rintro e w1 ⟨rfl, h1⟩
  obtain ⟨d0, d1, d2, d3, -, -⟩ := pk_cells h1.swap
  rw [HK1.out] at d3
  have HRA := WRawA h1 A c _ D (h1.bring3.obR.2.2.2) (by rw [List.length_append, enc_length, ← HN.out]; have := HL.out; omega)
  rw [← HN.out] at HRA
  have HRA := Lib.hid HRA
  clear h1 H
  refine hK.out _ _ (by (try dsimp only); go_keep) (fun hHeld => ?_)
  clear hK K
  try simp only [Act.put, List.getElem_toArray, List.getElem_cons_zero, List.getElem_cons_succ, List.setIfInBounds_toArray, List.set_cons_zero, List.set_cons_succ]
  refine wpAnyH_done (by kernel_rfl) ?_ _
  go_wp2_with fail
  refine HRA.out.mono ?_
  rintro e w2 ⟨rfl, h2⟩
  have H2 := Lib.hid h2
  obtain ⟨e0, e1, e2, e3, -, -⟩ := pk_cells h2.swap
  rw [← HLF.out] at e2
  clear h2 HRA
  go_wp2_with fail
  refine wp_region_held_drew (S := (fun w' => w'.cell? ⟨g, 0, none⟩ = some (.pointer (some ⟨gs, 0, none⟩)))) (by kernel_rfl) (by (try dsimp only); go_keep) (fun hHeld => ?_)
  refine wpAnyH_take (i := 0) (v := ?_) rfl (by kernel_rfl) (by kernel_rfl) (by kernel_rfl) (fun _ _ _ h => h) (Or.inl ⟨by rfl, ?_⟩) (by assumption) ?_
  rotate_left
  · (intro w hSw; (try dsimp only at hSw); go_simp; try with_reducible rfl)
  try simp only [Act.put, List.getElem_toArray, List.getElem_cons_zero, List.getElem_cons_succ, List.setIfInBounds_toArray, List.set_cons_zero, List.set_cons_succ]
  refine wpAnyH_take (i := 1) (v := ?_) rfl (by kernel_rfl) (by kernel_rfl) (by kernel_rfl) (fun _ _ _ h => h) (Or.inl ⟨by rfl, ?_⟩) (by assumption) ?_
  rotate_left
  · (intro w hSw; (try dsimp only at hSw); go_simp; try with_reducible rfl)
  try simp only [Act.put, List.getElem_toArray, List.getElem_cons_zero, List.getElem_cons_succ, List.setIfInBounds_toArray, List.set_cons_zero, List.set_cons_succ]
  refine wpAnyH_take (i := 2) (v := ?_) rfl (by kernel_rfl) (by kernel_rfl) (by kernel_rfl) (fun _ _ _ h => h) (Or.inl ⟨by rfl, ?_⟩) (by assumption) ?_
  rotate_left
  · (intro w hSw; (try dsimp only at hSw); go_simp; try with_reducible rfl)
  try simp only [Act.put, List.getElem_toArray, List.getElem_cons_zero, List.getElem_cons_succ, List.setIfInBounds_toArray, List.set_cons_zero, List.set_cons_succ]
  refine wpAnyH_take (i := 3) (v := ?_) rfl (by kernel_rfl) (by kernel_rfl) (by kernel_rfl) (fun _ _ _ h => h) (Or.inl ⟨by rfl, ?_⟩) (by assumption) ?_
  rotate_left
  · (intro w hSw; (try dsimp only at hSw); go_simp; try with_reducible rfl)
  try simp only [Act.put, List.getElem_toArray, List.getElem_cons_zero, List.getElem_cons_succ, List.setIfInBounds_toArray, List.set_cons_zero, List.set_cons_succ]
  refine wpAnyH_take (i := 4) (v := ?_) rfl (by kernel_rfl) (by kernel_rfl) (by kernel_rfl) (fun _ _ _ h => h) (Or.inl ⟨by rfl, ?_⟩) (by assumption) ?_
  rotate_left
  · (intro w hSw; (try dsimp only at hSw); go_simp; try with_reducible rfl)
  try simp only [Act.put, List.getElem_toArray, List.getElem_cons_zero, List.getElem_cons_succ, List.setIfInBounds_toArray, List.set_cons_zero, List.set_cons_succ]
  refine wpAnyH_take (i := 5) (v := ?_) rfl (by kernel_rfl) (by kernel_rfl) (by kernel_rfl) (fun _ _ _ h => h) (Or.inl ⟨by rfl, ?_⟩) (by assumption) ?_
  rotate_left
  · (intro w hSw; (try dsimp only at hSw); go_simp; try with_reducible rfl)
  try simp only [Act.put, List.getElem_toArray, List.getElem_cons_zero, List.getElem_cons_succ, List.setIfInBounds_toArray, List.set_cons_zero, List.set_cons_succ]
  refine wpAnyH_take (i := 6) (v := ?_) rfl (by kernel_rfl) (by kernel_rfl) (by kernel_rfl) (fun _ _ _ h => h) (Or.inl ⟨by rfl, ?_⟩) (by assumption) ?_
  rotate_left
  · (intro w hSw; (try dsimp only at hSw); go_simp; try with_reducible rfl)
  try simp only [Act.put, List.getElem_toArray, List.getElem_cons_zero, List.getElem_cons_succ, List.setIfInBounds_toArray, List.set_cons_zero, List.set_cons_succ]
  refine wpAnyH_take (i := 7) (v := ?_) rfl (by kernel_rfl) (by kernel_rfl) (by kernel_rfl) (fun _ _ _ h => h) (Or.inl ⟨by rfl, ?_⟩) (by assumption) ?_
  rotate_left
  · (intro w hSw; (try dsimp only at hSw); go_simp; try with_reducible rfl)
  try simp only [Act.put, List.getElem_toArray, List.getElem_cons_zero, List.getElem_cons_succ, List.setIfInBounds_toArray, List.set_cons_zero, List.set_cons_succ]
  refine wpAnyH_take (i := 8) (v := ?_) rfl (by kernel_rfl) (by kernel_rfl) (by kernel_rfl) (fun _ _ _ h => h) (Or.inl ⟨by rfl, ?_⟩) (by assumption) ?_
  rotate_left
  · (intro w hSw; (try dsimp only at hSw); go_simp; try with_reducible rfl)
  try simp only [Act.put, List.getElem_toArray, List.getElem_cons_zero, List.getElem_cons_succ, List.setIfInBounds_toArray, List.set_cons_zero, List.set_cons_succ]
  refine wpAnyH_take (i := 9) (v := ?_) rfl (by kernel_rfl) (by kernel_rfl) (by kernel_rfl) (fun _ _ _ h => h) (Or.inl ⟨by rfl, ?_⟩) (by assumption) ?_
  rotate_left
  · (intro w hSw; (try dsimp only at hSw); go_simp; try with_reducible rfl)
  try simp only [Act.put, List.getElem_toArray, List.getElem_cons_zero, List.getElem_cons_succ, List.setIfInBounds_toArray, List.set_cons_zero, List.set_cons_succ]
  refine wpAnyH_ready (rs := [10]) (by kernel_rfl) (by simp) ?_
  refine AllReadyH.cons rfl (fun K hK => ?_) AllReadyH.nil
  refine step_make_full _ (by rfl) _ _ _ (by rfl) 0 5 i0 (.int .u8 0) 1 Tryz.underlying25 hi hz0 hz1 z (by rfl) (by rfl) (by have := HL.out; rw [hz2]; omega) (by have := HL.out; unfold maxLen; omega) (Nat.zero_le _) w2.heap.size rfl ?_
  intro w8 hown8 hg8
  have ho8 := OB.zeros hown8
  have h8 := (((H2.out.drew).nilOb 5).grewOb ho8 hg8 (.inr rfl) (by simp)).swap
  obtain ⟨y0, y1, y2, y3, -, -⟩ := pk_cells h8.bring2
  have HRA := WRawA h8 (some ⟨w2.heap.size, 0, none⟩) z _ (List.replicate z 0) (h8.swap.obR.2.2.2) (by rw [List.length_append, List.length_append, enc_length, ← HN.out, List.length_replicate]; have := HL.out; omega)
  rw [List.length_replicate] at HRA
  have HRA := Lib.hid HRA
  clear h8 ho8 hown8 hg8 H2
  refine hK.out _ _ (by (try dsimp only); go_keep) (fun hHeld => ?_)
  clear hK K
  try simp only [Act.put, List.getElem_toArray, List.getElem_cons_zero, List.getElem_cons_succ, List.setIfInBounds_toArray, List.set_cons_zero, List.set_cons_succ]
  refine wpAnyH_ready (rs := [11]) (by kernel_rfl) (by simp) ?_
  refine AllReadyH.cons rfl (fun K hK => ?_) AllReadyH.nil
  go_simp
  go_at_call 19
  refine HRA.out.mono ?_
  rintro e w9 ⟨rfl, h9⟩
  obtain ⟨b0, b1, b2, b3, f2, f3⟩ := pk_cells h9.bring2
  rw [← HLF.out] at b2
  have H9 := Lib.hid h9
  clear HRA h9
  refine hK.out _ _ (by (try dsimp only); go_keep) (fun hHeld => ?_)
  clear hK K
  try simp only [Act.put, List.getElem_toArray, List.getElem_cons_zero, List.getElem_cons_succ, List.setIfInBounds_toArray, List.set_cons_zero, List.set_cons_succ]
  refine wpAnyH_done (by kernel_rfl) ?_ _
  go_wp2
  go_end0
  refine ⟨rfl, ?_⟩
  have h9 := (H9.out.swap.drop.swap).setBlk 2 (.int .i64 ((lf - q : Nat) : Int))
  rw [HN.out] at h9
  rw [HN.out]
  simp only [List.append_assoc] at h9 ⊢
  have h8 : wrap64 ((lf : Int) - (q : Int)) = ((lf - q : Nat) : Int) := u6
  rw [HLF.out] at h9 h8
  rw [h8]
  exact h9
set_option maxRecDepth 100000 in
set_option maxHeartbeats 1000000 in
theorem add_any [Stable (Sep l)] {x : Kv} {A1 A2 : Option Addr} {c1 c2 B room n : Nat} (h : St Zf (BlkA g 51 (pkCs gs go p) :: WrA gs p.sl :: WrA go p.ov :: l) w0 w) (hv : VR w B x.v (vagg x.v A1 c1 A2 c2)) (hB : B ≤ w.heap.size) (hk : i64ok x.k) (hok : PkOk room n p) (hr : room ≤ 16) (hn : n ≤ 16) :
    Calls Tryz.prog 18 #[.pointer (some ⟨g, 0, none⟩), .agg (kcells x A1 c1 A2 c2)] w fun e w' => e = .returned (.int .i64 (pkErr p.key x)) ∧
      St Zf (BlkA g 51 (pkCs gs go (if pkErr p.key x = 0 then pkPut p x else p)) :: WrA gs (if pkErr p.key x = 0 then pkPut p x else p).sl :: WrA go (if pkErr p.key x = 0 then pkPut p x else p).ov :: l) w0 w' := by
  obtain ⟨w1, hw1⟩ : ∃ w1, w1 = w.alloc (.cells #[.int .i64 x.k, .int .i64 x.v.k, .int .i64 x.v.n, .string x.v.s, .slice A1 x.v.ns.length c1, .slice A2 x.v.ts.length c2] 44) := ⟨_, rfl⟩
  have hV1 : VR w1 B x.v (vagg x.v A1 c1 A2 c2) := by rw [hw1]; exact hv.alloc hB _
  have h1 := h.newBlk 44 #[.int .i64 x.k, .int .i64 x.v.k, .int .i64 x.v.n, .string x.v.s, .slice A1 x.v.ns.length c1, .slice A2 x.v.ts.length c2]
  rw [← hw1] at h1
  have hHC := Encode_any x.v _ B w1 hV1 (by have := h1.blk.lt; omega)
  obtain ⟨c0, cc1, cc2, c3, f2, f3⟩ := pk_cells h1.swap
  have hbx := h1.blk
  have x0 : w1.cell? ⟨w.heap.size, 0, none⟩ = some (.int .i64 x.k) := by rw [hbx.cell 0]; rfl
  have x1 : w1.cell? ⟨w.heap.size, 1, none⟩ = some (.int .i64 x.v.k) := by rw [hbx.cell 1]; rfl
  have x2 : w1.cell? ⟨w.heap.size, 2, none⟩ = some (.int .i64 x.v.n) := by rw [hbx.cell 2]; rfl
  have x3 : w1.cell? ⟨w.heap.size, 3, none⟩ = some (.string x.v.s) := by rw [hbx.cell 3]; rfl
  have x4 : w1.cell? ⟨w.heap.size, 4, none⟩ = some (.slice A1 x.v.ns.length c1) := by rw [hbx.cell 4]; rfl
  have x5 : w1.cell? ⟨w.heap.size, 5, none⟩ = some (.slice A2 x.v.ts.length c2) := by rw [hbx.cell 5]; rfl
  have HT := Lib.hid (fun w => isToken_any x.k w)
  have HW := Lib.hid hw1
  have H1 := Lib.hid h1
  have HOK := Lib.hid hok
  have HB := Lib.hid hbx
  obtain ⟨kx, hkx⟩ : ∃ kx, kx = x.k := ⟨_, rfl⟩
  have HKX := Lib.hid hkx
  obtain ⟨N, hN⟩ : ∃ N, N = w.heap.size := ⟨_, rfl⟩
  have HNN := Lib.hid hN
  by_cases htok : x.k < 0 ∨ 200 ≤ x.k
  · rw [pkErr_tok htok, if_neg (by decide)]
    rw [isTok_no (by omega)] at HT
    clear h hv hHC hbx hV1 hw1 h1 hok htok
    unfold kcells
    go_enter Tryz.func18, Tryz.ntmps18
    go_wp2_with (go_at_call 37; refine (HT.out _).mono ?_; rintro e w' ⟨rfl, rfl⟩)
    go_ret
    rw [← HW.out]
    exact ⟨rfl, H1.out.drop⟩
  · rw [isTok_yes (by omega)] at HT
    by_cases hord : x.k ≤ p.key
    · rw [pkErr_ord htok hord, if_neg (by decide)]
      clear h hv hHC hbx hV1 hw1 h1 hok htok
      unfold kcells
      go_enter Tryz.func18, Tryz.ntmps18
      go_wp2_with (go_at_call 37; refine (HT.out _).mono ?_; rintro e w' ⟨rfl, rfl⟩)
      rw [← HW.out]
      go_quiet (fail)
      go_wp2
      go_ret
      exact ⟨rfl, (H1.out.drop).drewN _⟩
    · rw [pkErr_chk htok hord]
      have hHCq : ∀ nq, Calls Tryz.prog 38 #[vagg x.v A1 c1 A2 c2] (w1.drewN nq) (EncPost x.v (w1.drewN nq)) := fun nq => Encode_any x.v _ B (w1.drewN nq) (hV1.drewN nq) (by have := h1.blk.lt; show B ≤ w1.heap.size; omega)
      have HC := Lib.hid hHCq
      unfold vagg at HC
      have hchk := fun h : chk x.v = 0 => encB_small h
      have HV0 := Lib.hid (@encV_ok x.v)
      have hkey := hok.key
      clear h hv hHC hbx hV1 hw1 h1 hok hHCq
      unfold kcells
      by_cases hc : chk x.v = 0
      · rw [if_pos hc, hc]
        unfold EncPost at HC
        rw [hc, HV0.out hc] at HC
        obtain ⟨D, hD⟩ : ∃ D, D = encB x.v := ⟨_, rfl⟩
        have hDl := hchk hc
        rw [← hD] at HC hDl
        have HD := Lib.hid hD
        have HSF := Lib.hid (fun w => slotsFor_any D.length (by omega) w)
        have HDL := Lib.hid hDl
        have HKY : Hid (0 ≤ x.k ∧ x.k < 200) := Lib.hid (by omega)
        clear hchk HV0 hc hD hDl htok hkey
        go_enter Tryz.func18, Tryz.ntmps18
        go_wp2_with (go_at_call 37; refine (HT.out _).mono ?_; rintro e w' ⟨rfl, rfl⟩)
        rw [← HW.out]
        go_quiet (fail)
        go_wp2_with fail
        refine (HC.out _).mono ?_
        rintro e w2 ⟨y, rfl, ho, hb⟩
        have h2 := ((H1.out.drewN nq).newOb ho hb).bring4.bring4.bring4
        obtain ⟨A3, c3', rfl, -, -, -, -⟩ := ho.form
        obtain ⟨d0, d1, d2, d3, g2, g3⟩ := pk_cells h2
        have hbx := h2.bring4.blk
        have z0 : w2.cell? ⟨w.heap.size, 0, none⟩ = some (.int .i64 x.k) := by rw [hbx.cell 0]; rfl
        obtain ⟨w3, hw3⟩ : ∃ w3, w3 = w2.setCell ⟨g, 3, none⟩ (.int .i64 x.k) := ⟨_, rfl⟩
        have HP' : Hid (St Zf (BlkA g 51 (pkCs gs go ⟨p.sl, p.ov, p.left, x.k⟩) :: WrA gs (⟨p.sl, p.ov, p.left, x.k⟩ : Pk).sl :: WrA go (⟨p.sl, p.ov, p.left, x.k⟩ : Pk).ov :: ObA 5 (.slice A3 D.length c3') D :: BlkA w.heap.size 44 #[.int .i64 x.k, .int .i64 x.v.k, .int .i64 x.v.n, .string x.v.s, .slice A1 x.v.ns.length c1, .slice A2 x.v.ts.length c2] :: l) w0 w3) := Lib.hid (by rw [hw3]; exact h2.setBlk 3 (.int .i64 x.k))
        obtain ⟨b0, b1, b2, b3, -, -⟩ := pk_cells HP'.out
        have HW3 := Lib.hid hw3
        clear ho hb h2 hbx HC HT H1 hw3
        go_wp2_with fail
        rw [← HW3.out]
        by_cases hne : needK x ≤ p.left
        · have HNE := Lib.hid hne
          have hne2 : (need D.length : Int) ≤ (p.left : Int) := by rw [HD.out]; exact Int.ofNat_le.2 hne
          clear hne
          go_quiet ((go_at_call 36; exact Calls.quiet_of_same ((HSF.out _).mono fun e w' h => ⟨h.1, h.2.symm⟩)))
          have HPI := Lib.hid (putInline_any (HP'.out.drewN nq) HDL.out HKY.out (by have := HOK.out.sl; show p.sl.length ≤ 128; omega) (by have := HOK.out.sl; show p.left ≤ 16; omega) (by have := HNE.out; rw [HD.out]; exact this))
          clear HP'
          go_wp2_with fail
          refine HPI.out.mono ?_
          rintro e w5 ⟨rfl, h5⟩
          have H5 := Lib.hid (h5.bring3.drop.bring3.drop)
          clear h5 HPI
          go_wp2
          go_ret
          refine ⟨rfl, ?_⟩
          rw [pkPut_in HNE.out]
          have h6 := H5.out
          rw [HD.out] at h6
          exact h6
        · have HNE := Lib.hid hne
          have hne2 : ¬ (need D.length : Int) ≤ (p.left : Int) := by rw [HD.out]; exact fun h => hne (Int.ofNat_le.1 h)
          clear hne
          go_quiet ((go_at_call 36; exact Calls.quiet_of_same ((HSF.out _).mono fun e w' h => ⟨h.1, h.2.symm⟩)))
          have HPI := Lib.hid (putOutside_any (HP'.out.drewN nq) HDL.out HKY.out (by have := HOK.out.ov; show p.ov.length ≤ 1099511627776; omega))
          clear HP'
          go_wp2_with fail
          refine HPI.out.mono ?_
          rintro e w5 ⟨rfl, h5⟩
          have H5 := Lib.hid (h5.bring3.drop.bring3.drop)
          clear h5 HPI
          go_wp2
          go_ret
          refine ⟨rfl, ?_⟩
          rw [pkPut_out HNE.out]
          have h6 := H5.out
          rw [HD.out] at h6
          exact h6
      · rw [if_neg hc]
        unfold EncPost at HC
        obtain ⟨E, hE⟩ : ∃ E, E = chk x.v := ⟨_, rfl⟩
        rw [← hE] at HC hc ⊢
        have hb : (E != 0) = true := by simpa using hc
        clear hchk HV0 hc hE htok hkey
        go_enter Tryz.func18, Tryz.ntmps18
        go_wp2_with (go_at_call 37; refine (HT.out _).mono ?_; rintro e w' ⟨rfl, rfl⟩)
        rw [← HW.out]
        go_quiet (fail)
        go_wp2_with fail
        refine (HC.out _).mono ?_
        rintro e w2 ⟨y, rfl, -, hb2⟩
        have H2 := Lib.hid ((H1.out.drewN nq).below hb2)
        clear hb2 HC H1
        go_wp2
        go_ret
        exact ⟨rfl, H2.out.drop⟩
end
end Go.Proofs.YtgpahglmhnnobaaGreatDoor

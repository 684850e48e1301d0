/- slots: readOver. -/
import Derived.Test.YtgpahglmhnnobaaGreatDoorSlRead
import Derived.Test.YtgpahglmhnnobaaGreatDoorRdA
namespace Go.Proofs.YtgpahglmhnnobaaGreatDoor
open Go.RowKit
set_option linter.unusedVariables false
set_option linter.unusedSimpArgs false

/-- what a step of the reader gives -/
structure OvS where
  n1 : Nat
  r1 : List Nat
  e1 : Int
  n2 : Nat
  r2 : List Nat
  e2 : Int
  d : List Nat
  r3 : List Nat
  e3 : Int
def ovS1 (b : List Nat) : Nat × List Nat × Int := (getVal b 0 2, restOf b (placeErr b.length 0 2) 2, errBy 0 (placeErr b.length 0 2))
theorem decErr_nil : decErr [] ≠ 0 := by
  have h : prefErr [] = 10 := rfl
  unfold decErr
  rw [h, if_neg (by omega)]
  decide
theorem be_two {b : List Nat} (hb : IsBytes b) : be (b.take 2) < 65536 := by
  by_cases h : 2 ≤ b.length
  · exact be_lt b hb 2 h
  · have h1 := be_lt b hb b.length (Nat.le_refl _)
    rw [List.take_length] at h1
    rw [List.take_of_length_le (by omega)]
    have h2 : 256 ^ b.length ≤ 256 ^ 2 := Nat.pow_le_pow_right (by omega) (by omega)
    have h3 : (256 : Nat) ^ 2 = 65536 := by decide
    omega
theorem num_two (b : List Nat) (e : Int) : (2 ≤ b.length → getVal b 0 2 = be (b.take 2) ∧ restOf b (placeErr b.length 0 2) 2 = b.drop 2 ∧ errBy e (placeErr b.length 0 2) = e) ∧
    (¬ 2 ≤ b.length → getVal b 0 2 = 0 ∧ restOf b (placeErr b.length 0 2) 2 = [] ∧ placeErr b.length 0 2 ≠ 0) := by
  constructor
  · intro h
    obtain ⟨h0, h1⟩ := getVal_zero (d := 2) (bs := b) (by decide) h
    have h0' : placeErr b.length 0 2 = 0 := h0
    have h1' : getVal b 0 2 = be (b.take 2) := h1
    rw [h0', h1', restOf_ok rfl, errBy_ok rfl]
    exact ⟨rfl, rfl, rfl⟩
  · intro h
    obtain ⟨h0, h1⟩ := getVal_short (d := 2) (bs := b) (by decide) (by omega)
    have h0' : placeErr b.length 0 2 = 10 := h0
    have h1' : getVal b 0 2 = 0 := h1
    rw [h0', h1', restOf_no (by decide)]
    exact ⟨rfl, rfl, by decide⟩
/-- the three reads together -/
theorem ov_step {b r1 r2 r3 D : List Nat} {N1 N2 : Nat} {e1 e2 e3 : Int} (hb : IsBytes b) (h1 : N1 = getVal b 0 2) (h2 : r1 = restOf b (placeErr b.length 0 2) 2) (h3 : e1 = errBy 0 (placeErr b.length 0 2))
    (h4 : N2 = getVal r1 0 2) (h5 : r2 = restOf r1 (placeErr r1.length 0 2) 2) (h6 : e2 = errBy e1 (placeErr r1.length 0 2)) (h7 : D = rawVal r2 N2) (h8 : r3 = restOf r2 (rawErr r2.length N2) N2) (h9 : e3 = errBy e2 (rawErr r2.length N2)) :
    (isTok ((N1 : Int) - 1) && decide (decErr D = 0)) = ovOk b ∧ (ovOk b = true → N1 = ovN b ∧ D = ovD b ∧ r3 = b.drop (4 + ovL b) ∧ e3 = 0) ∧ N1 < 65536 ∧ N2 < 65536 ∧ D.length ≤ b.length := by
  by_cases hl : 2 ≤ b.length
  · obtain ⟨a1, a2, a3⟩ := (num_two b 0).1 hl
    rw [a1] at h1
    rw [a2] at h2
    rw [a3] at h3
    have hN1 := be_two hb
    rw [← h1] at hN1
    by_cases hl2 : 2 ≤ r1.length
    · obtain ⟨b1, b2, b3⟩ := (num_two r1 e1).1 hl2
      rw [b1] at h4
      rw [b2, h2, List.drop_drop] at h5
      rw [b3, h3] at h6
      rw [h2, List.length_drop] at hl2
      have hN2 : N2 < 65536 := by rw [h4, h2]; exact be_two (hb.drop 2)
      have hL : N2 = ovL b := by rw [h4, h2]; rfl
      have h4l : r2.length = b.length - 4 := by rw [h5, List.length_drop]
      by_cases hf : N2 ≤ r2.length
      · have hr : rawErr r2.length (N2 : Int) = 0 := rawErr_ok (by omega) (by omega)
        rw [rawVal_ok hr, Int.toNat_natCast, h5, hL] at h7
        rw [restOf_ok hr, Int.toNat_natCast, h5, List.drop_drop, hL] at h8
        rw [errBy_ok hr, h6] at h9
        have hD : D = ovD b := h7
        have e : ovOk b = (isTok ((N1 : Int) - 1) && decide (decErr D = 0)) := by
          unfold ovOk
          rw [decide_eq_true (show 4 ≤ b.length by omega), decide_eq_true (show 4 + ovL b ≤ b.length by omega), ← hD, h1]
          rfl
        refine ⟨e.symm, fun _ => ⟨h1, hD, h8, h9⟩, hN1, hN2, ?_⟩
        rw [h7, List.length_take, List.length_drop]
        omega
      · have hr : rawErr r2.length (N2 : Int) = 10 := rawErr_short (by omega) (by omega)
        rw [rawVal_no (by rw [hr]; decide)] at h7
        have e : ovOk b = false := by
          unfold ovOk
          rw [decide_eq_false (show ¬ 4 + ovL b ≤ b.length by omega)]
          simp
        refine ⟨by rw [e, h7, decide_eq_false decErr_nil, Bool.and_false], (fun h => by rw [e] at h; cases h), hN1, hN2, by rw [h7]; simp⟩
    · obtain ⟨b1, b2, b3⟩ := (num_two r1 e1).2 hl2
      rw [b1] at h4
      rw [b2] at h5
      subst h4 h5
      have hD : D = [] := by rw [h7]; unfold rawVal; split <;> simp
      have e : ovOk b = false := by
        unfold ovOk
        rw [h2, List.length_drop] at hl2
        rw [decide_eq_false (show ¬ 4 ≤ b.length by omega)]
        simp
      refine ⟨by rw [e, hD, decide_eq_false decErr_nil, Bool.and_false], (fun h => by rw [e] at h; cases h), hN1, by omega, by rw [hD]; simp⟩
  · obtain ⟨a1, a2, a3⟩ := (num_two b 0).2 hl
    rw [a1] at h1
    rw [a2] at h2
    subst h1 h2
    obtain ⟨b1, b2, b3⟩ := (num_two [] e1).2 (by simp)
    rw [b1] at h4
    rw [b2] at h5
    subst h4 h5
    have hD : D = [] := by rw [h7]; unfold rawVal; split <;> simp
    have e : ovOk b = false := by
      unfold ovOk
      rw [decide_eq_false (show ¬ 4 ≤ b.length by omega)]
      simp
    refine ⟨by rw [e, hD, decide_eq_false decErr_nil, Bool.and_false], (fun h => by rw [e] at h; cases h), by omega, by omega, by rw [hD]; simp⟩
theorem dec_vokS {bs : List Nat} (hb : IsBytes bs) (h : decErr bs = 0) : Vok (decV bs) := by
  have hp : prefErr bs = 0 := by
    unfold decErr at h
    split at h
    · omega
    · exact h
  have e : decV bs = prefV bs := if_pos h
  rw [e]
  exact (pref_ok hb hp).ok
/-- what readOver leaves -/
def ReadO (r : Option (List Kv)) (w : World) (e : Ending) (w' : World) : Prop := match r with
  | some L => ∃ v X, e = .returned (.tuple #[v, .bool true]) ∧ St Zf [KxA v X] w w' ∧ X.map (·.1) = L.take 17 ∧ ∀ q ∈ X, KvOk q.1
  | none => ∃ v, e = .returned (.tuple #[v, .bool false]) ∧ Below w.heap.size w w'
theorem over_some {r : Option (List Kv)} {L : List Kv} {w w' : World} {e : Ending} (h : r = some L) (k : ∃ v X, e = .returned (.tuple #[v, .bool true]) ∧ St Zf [KxA v X] w w' ∧ X.map (·.1) = L.take 17 ∧ ∀ q ∈ X, KvOk q.1) : ReadO r w e w' := by subst h; exact k
theorem over_none {r : Option (List Kv)} {w w' : World} {e : Ending} (h : r = none) (k : ∃ v, e = .returned (.tuple #[v, .bool false]) ∧ Below w.heap.size w w') : ReadO r w e w' := by subst h; exact k
/-- how many bytes a reader has left -/
def lftOf (w : World) (g : Nat) : Nat := match w.cell? ⟨g, 0, none⟩ with
  | some (.slice _ n _) => n
  | _ => 0
theorem lft_of {S : Fp} {l : List Ass} {w0 w : World} {g : Nat} {bs : List Nat} {err : Int} (h : St S (RdA g bs err :: l) w0 w) : lftOf w g = bs.length ∧ IsBytes bs ∧ bs.length ≤ maxLen := by
  obtain ⟨F, ⟨q, ⟨A, c, hb, hr, -, h1, h2, -⟩, _⟩⟩ := h.head
  refine ⟨?_, hr.1, by omega⟩
  unfold lftOf
  rw [show w.cell? ⟨g, 0, none⟩ = some (.slice A bs.length c) by rw [hb.cell 0]; rfl]
theorem NewReaderA {S : Fp} {l : List Ass} [Stable (Sep l)] {w0 w : World} (h : St S l w0 w) {A : Option Addr} {cap B : Nat} {bs : List Nat} (hr : RB w B A bs) (hB : B ≤ w.heap.size) (hl : bs.length ≤ 140737488355328) :
    Calls Tryz.prog 50 #[.slice A bs.length cap] w fun e w' => ∃ g, e = .returned (.pointer (some ⟨g, 0, none⟩)) ∧ St S (RdA g bs 0 :: l) w0 w' := by
  refine (NewReader_any A cap B bs w hr hB hl).mono ?_
  rintro e w' ⟨g, q, rfl, hd, hb⟩
  have hlt := hd.lt
  refine ⟨g, rfl, h.add (F := fun k => k = g ∨ k = q) hb ⟨q, ?_, rfl⟩ (by rintro k (rfl | rfl) <;> omega)⟩
  obtain ⟨A', c, k1, k2, k3, k4, k5, k6, k7, k8, k9⟩ := hd
  exact ⟨A', c, k1, k2, k3, k4, k5, Nat.zero_le _, Nat.zero_le _, k8, k9⟩
set_option maxRecDepth 100000 in
set_option maxHeartbeats 2000000 in
theorem readOver_any {A : Option Addr} {cap B : Nat} {O : List Nat} (w : World) (h : RB w B A O) (hB : B ≤ w.heap.size) (hl : O.length ≤ 140737488355328) :
    Calls Tryz.prog 28 #[.slice A O.length cap] w (ReadO (inO O) w) := by
  obtain ⟨i0, zz, hi, hz, hs, hby, hzs⟩ := row_info kv_info
  have HNR := Lib.hid (NewReaderA (cap := cap) ((St.start Zf w).nilKx) h hB hl)
  have HO := Lib.hid hl
  clear h hB hl
  go_enter Tryz.func28, Tryz.ntmps28
  go_wp2_with fail
  refine HNR.out.mono ?_
  rintro e w1 ⟨g, rfl, h1⟩
  have HST := Lib.hid h1
  clear h1 HNR
  go_wp2
  go_loopw [4] (fun v wr => ∃ (X : List (Kv × Pl)) (L0 : List Kv) (b : List Nat), Hid (St Zf [RdA g b 0, KxA v X] w wr) ∧ Hid (X.map (·.1) = L0.take 17 ∧ (∀ q ∈ X, KvOk q.1)) ∧ Hid (inO O = (inO b).map (L0 ++ ·)) ∧ Hid (b.length ≤ O.length)) (fun _ wr => lftOf wr g)
  case atStart => exact ⟨[], [], O, HST, Lib.hid ⟨rfl, (fun q hq => nomatch hq)⟩, Lib.hid (by cases h : inO O <;> rfl), Lib.hid (Nat.le_refl _)⟩
  case round =>
    obtain ⟨X, L0, b, HS, HX, HQ, HBO⟩ := hrel
    clear HST
    obtain ⟨A0, c0, rfl⟩ := kx_form HS.out.swap
    obtain ⟨hlf, hbb, hbl⟩ := lft_of HS.out
    have HLF := Lib.hid hlf
    have HBB := Lib.hid hbb
    have HLT := Lib.hid (LeftA HS.out)
    unfold maxLen at hbl
    clear hlf hbb
    by_cases h0 : b.length = 0
    · rw [h0] at HLT
      have HYES : Hid (inO O = some L0) := Lib.hid (by rw [HQ.out, inO_nil h0]; simp)
      clear h0 hbl
      go_wp2_with fail
      refine HLT.out.mono ?_
      rintro e w2 ⟨rfl, rfl⟩
      go_wp2
      go_ret2
      exact over_some HYES.out ⟨_, X, rfl, HS.out.drop, HX.out⟩
    · obtain ⟨N1, HN1⟩ : ∃ N1, Hid (N1 = getVal b 0 2) := ⟨_, Lib.hid rfl⟩
      obtain ⟨r1, HR1⟩ : ∃ r1, Hid (r1 = restOf b (placeErr b.length 0 2) 2) := ⟨_, Lib.hid rfl⟩
      obtain ⟨e1, HE1⟩ : ∃ e1, Hid (e1 = errBy 0 (placeErr b.length 0 2)) := ⟨_, Lib.hid rfl⟩
      obtain ⟨N2, HN2⟩ : ∃ N2, Hid (N2 = getVal r1 0 2) := ⟨_, Lib.hid rfl⟩
      obtain ⟨r2, HR2⟩ : ∃ r2, Hid (r2 = restOf r1 (placeErr r1.length 0 2) 2) := ⟨_, Lib.hid rfl⟩
      obtain ⟨e2, HE2⟩ : ∃ e2, Hid (e2 = errBy e1 (placeErr r1.length 0 2)) := ⟨_, Lib.hid rfl⟩
      obtain ⟨D, HD⟩ : ∃ D, Hid (D = rawVal r2 (N2 : Int)) := ⟨_, Lib.hid rfl⟩
      obtain ⟨r3, HR3⟩ : ∃ r3, Hid (r3 = restOf r2 (rawErr r2.length (N2 : Int)) (N2 : Int)) := ⟨_, Lib.hid rfl⟩
      obtain ⟨e3, HE3⟩ : ∃ e3, Hid (e3 = errBy e2 (rawErr r2.length (N2 : Int))) := ⟨_, Lib.hid rfl⟩
      obtain ⟨s1, s2, s3, s4, s5⟩ := ov_step HBB.out HN1.out HR1.out HE1.out HN2.out HR2.out HE2.out HD.out HR3.out HE3.out
      have HS1 := Lib.hid s1
      have HS2 := Lib.hid s2
      have HN0 := Lib.hid h0
      have hr1l : r1.length ≤ b.length := by rw [HR1.out]; unfold restOf; split <;> simp
      have hr2l : r2.length ≤ b.length := by rw [HR2.out]; unfold restOf; split <;> simp <;> omega
      have hpos : (0 : Int) < (b.length : Int) := by omega
      have HBL : Hid (r2.length ≤ 140737488355328) := Lib.hid (by have := HBO.out; have := HO.out; omega)
      have HRN := RNumA HS.out 2
      rw [← HN1.out, ← HR1.out, ← HE1.out] at HRN
      have HRN := Lib.hid HRN
      obtain ⟨bn, HBN⟩ : ∃ bn, Hid (bn = b.length) := ⟨_, Lib.hid rfl⟩
      rw [← HBN.out] at HLT hpos hbl s5
      clear s1 s2 h0 hr1l hr2l s5 hbl
      go_wp2_with fail
      refine HLT.out.mono ?_
      rintro e w2 ⟨rfl, rfl⟩
      go_wp2_with fail
      refine HRN.out.mono ?_
      rintro e w2 ⟨rfl, h2⟩
      have HRN2 := RNumA h2 2
      rw [← HN2.out, ← HR2.out, ← HE2.out] at HRN2
      have HRN2 := Lib.hid HRN2
      clear h2 HRN HLT
      go_wp2_with fail
      refine HRN2.out.mono ?_
      rintro e w3 ⟨rfl, h3⟩
      have HRW := RRawA h3 (N2 : Int) HBL.out
      rw [← HD.out, ← HR3.out, ← HE3.out] at HRW
      have HRW := Lib.hid HRW
      clear h3 HRN2
      go_wp2_with fail
      refine HRW.out.mono ?_
      rintro e w4 ⟨x, rfl, h4⟩
      obtain ⟨Ax, cx, rfl, -, -, -, -⟩ := h4.ob.form
      obtain ⟨-, hc1, hc2, hrb⟩ := h4.obR
      have hDc := Decode_any Ax cx w4.heap.size D w4 hrb (Nat.le_refl _) hc1 hc2
      unfold DecPost at hDc
      obtain ⟨V, HV⟩ : ∃ V, Hid (V = decV D) := ⟨_, Lib.hid rfl⟩
      obtain ⟨DE, HDE⟩ : ∃ DE, Hid (DE = decErr D) := ⟨_, Lib.hid rfl⟩
      rw [← HV.out, ← HDE.out] at hDc
      have HDC := Lib.hid hDc
      have H4 := Lib.hid h4
      have HDB := Lib.hid hrb.1
      clear h4 hrb hc1 hc2 hDc HRW
      go_wp2_with fail
      refine HDC.out.mono ?_
      rintro e w5 ⟨A1, c1, A2, c2, rfl, o1, o2, hb5⟩
      have h6 := (H4.out.newPp (p := ⟨(N1 : Int) - 1, V⟩) (x := ⟨A1, c1, A2, c2⟩) o1 o2 hb5).newBlk 42 #[.int .i64 V.k, .int .i64 V.n, .string V.s, .slice A1 V.ns.length c1, .slice A2 V.ts.length c2]
      obtain ⟨w6, HW6⟩ : ∃ w6, Hid (w6 = w5.alloc (.cells #[.int .i64 V.k, .int .i64 V.n, .string V.s, .slice A1 V.ns.length c1, .slice A2 V.ts.length c2] 42)) := ⟨_, Lib.hid rfl⟩
      rw [← HW6.out] at h6
      have hbx := h6.blk
      have x0 : w6.cell? ⟨w5.heap.size, 0, none⟩ = some (.int .i64 V.k) := by rw [hbx.cell 0]; rfl
      have x1 : w6.cell? ⟨w5.heap.size, 1, none⟩ = some (.int .i64 V.n) := by rw [hbx.cell 1]; rfl
      have x2 : w6.cell? ⟨w5.heap.size, 2, none⟩ = some (.string V.s) := by rw [hbx.cell 2]; rfl
      have x3 : w6.cell? ⟨w5.heap.size, 3, none⟩ = some (.slice A1 V.ns.length c1) := by rw [hbx.cell 3]; rfl
      have x4 : w6.cell? ⟨w5.heap.size, 4, none⟩ = some (.slice A2 V.ts.length c2) := by rw [hbx.cell 4]; rfl
      have H6 := Lib.hid (h6.drop.swap.drop.bring2)
      have HTK := Lib.hid (fun w => isToken_any ((N1 : Int) - 1) w)
      have HVK : Hid (DE = 0 → KvOk ⟨(N1 : Int) - 1, V⟩) := Lib.hid fun h => ⟨by rw [HV.out]; exact dec_vokS HDB.out (by rw [← HDE.out]; exact h), by show -9223372036854775808 ≤ (N1 : Int) - 1 ∧ (N1 : Int) - 1 ≤ 9223372036854775807; omega⟩
      clear h6 hbx o1 o2 hb5 HDC H4
      go_wp2_with fail
      rw [← HW6.out]
      by_cases htok : 0 ≤ (N1 : Int) - 1 ∧ (N1 : Int) - 1 < 200
      · rw [isTok_yes htok] at HTK HS1
        by_cases hde : DE = 0
        · have hok : ovOk b = true := by rw [← HS1.out, ← HDE.out, hde]; rfl
          obtain ⟨g1, g2, g3, g4⟩ := HS2.out hok
          have HNX : Hid (inO O = (inO r3).map ((L0 ++ [⟨(N1 : Int) - 1, V⟩]) ++ ·)) := Lib.hid (by
            have e3 : ovKv b = ⟨(N1 : Int) - 1, V⟩ := by unfold ovKv; rw [← g1, ← g2, ← HV.out]
            rw [HQ.out, inO_ok HN0.out hok, e3, ← g3]
            cases inO r3 <;> simp)
          have HB3 : Hid (r3.length ≤ O.length) := Lib.hid (by rw [g3, List.length_drop]; have := HBO.out; omega)
          have HLS : Hid (r3.length < lftOf wr g) := Lib.hid (by rw [HLF.out, g3, List.length_drop]; have := HN0.out; omega)
          have HVY := Lib.hid (HVK.out hde)
          have HE30 := Lib.hid g4
          have hXl : X.length = min 17 L0.length := by have := congrArg List.length HX.out.1; simpa using this
          have HXL := Lib.hid hXl
          have HSZ : Hid ((X.length + 1) * 88 ≤ 140737488355328) := Lib.hid (by omega)
          subst hde
          clear hok g1 g2 g3 g4 htok
          by_cases h16 : X.length ≤ 16
          · have H16 := Lib.hid h16
            have h16i : (X.length : Int) ≤ 16 := by omega
            clear h16 hXl
            go_wp2_with (first
              | (go_at_call 37; refine (HTK.out _).mono ?_; rintro e w' ⟨rfl, rfl⟩)
              | (at_builtin; refine wpList_append_row1 _ rfl _ _ 22 rfl 44 i0 zz 6 88 Tryz.underlying22 hi hz hs hby hzs (by decide) (by decide) (.slice A0 X.length c0) X.length _ rfl H6.out.kxRow #[.int .i64 ((N1 : Int) - 1), .int .i64 V.k, .int .i64 V.n, .string V.s, .slice A1 V.ns.length c1, .slice A2 V.ts.length c2] rfl (pcs_one (⟨(N1 : Int) - 1, V⟩, ⟨A1, c1, A2, c2⟩)) (N := w6.heap.size) rfl rfl HSZ.out ?_; intro v' w' ho hg ha; have H9 := Lib.hid ((H6.out.snocKx (q := (⟨(N1 : Int) - 1, V⟩, ⟨A1, c1, A2, c2⟩)) _ ho hg (by simpa using ha)).swap); clear ho hg ha))
            go_roundw
            case rel =>
              refine ⟨X ++ [(⟨(N1 : Int) - 1, V⟩, ⟨A1, c1, A2, c2⟩)], L0 ++ [⟨(N1 : Int) - 1, V⟩], r3, Lib.hid (by rw [HE30.out] at H9; exact H9.out), Lib.hid ⟨?_, ?_⟩, HNX, HB3⟩
              · have := H16.out
                have := HXL.out
                rw [List.map_append, HX.out.1, List.take_of_length_le (show L0.length ≤ 17 by omega), List.take_of_length_le (show (L0 ++ [(⟨(N1 : Int) - 1, V⟩ : Kv)]).length ≤ 17 by rw [List.length_append, List.length_singleton]; omega)]
                rfl
              · intro x hx
                rcases List.mem_append.1 hx with hx | hx
                · exact HX.out.2 x hx
                · rw [List.mem_singleton.1 hx]; exact HVY.out
            case measure =>
              show lftOf w' g < lftOf wr g
              rw [(lft_of H9.out).1]
              exact HLS.out
          · have H16 := Lib.hid h16
            have h16i : ¬ (X.length : Int) ≤ 16 := by omega
            have H9 := Lib.hid H6.out.swap.drop.swap
            clear h16 hXl
            go_wp2_with (go_at_call 37; refine (HTK.out _).mono ?_; rintro e w' ⟨rfl, rfl⟩)
            go_roundw
            case rel =>
              refine ⟨X, L0 ++ [⟨(N1 : Int) - 1, V⟩], r3, Lib.hid (by rw [HE30.out] at H9; exact H9.out), Lib.hid ⟨?_, HX.out.2⟩, HNX, HB3⟩
              have := H16.out
              have := HXL.out
              rw [HX.out.1, List.take_append_of_le_length (by omega)]
            case measure =>
              show lftOf w6 g < lftOf wr g
              rw [(lft_of H9.out).1]
              exact HLS.out
        · have hb : (DE != 0) = true := by simpa using hde
          have HNO : Hid (inO O = none) := Lib.hid (by
            rw [HQ.out, inO_bad HN0.out (by rw [← HS1.out, ← HDE.out, decide_eq_false hde]; rfl)]
            rfl)
          clear hde htok
          go_wp2_with (go_at_call 37; refine (HTK.out _).mono ?_; rintro e w' ⟨rfl, rfl⟩)
          go_ret2
          exact over_none HNO.out ⟨_, rfl, H6.out.bel⟩
      · rw [isTok_no htok] at HTK HS1
        have HNO : Hid (inO O = none) := Lib.hid (by
          rw [HQ.out, inO_bad HN0.out (by rw [← HS1.out]; rfl)]
          rfl)
        clear htok
        go_wp2_with (go_at_call 37; refine (HTK.out _).mono ?_; rintro e w' ⟨rfl, rfl⟩)
        go_ret2
        exact over_none HNO.out ⟨_, rfl, H6.out.bel⟩
end Go.Proofs.YtgpahglmhnnobaaGreatDoor

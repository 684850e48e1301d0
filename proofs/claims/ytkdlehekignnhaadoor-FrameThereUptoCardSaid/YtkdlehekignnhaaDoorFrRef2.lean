/- frame: the document's Frames and Split. -/
import Derived.Test.YtkdlehekignnhaaDoorFrLaw
namespace Go.Proofs.YtkdlehekignnhaaDoor
open Go.RowKit Go.Shelf
set_option linter.unusedVariables false
set_option linter.unusedSimpArgs false

theorem be_inj4 : ∀ (a b : List Nat), a.length = b.length → IsBytes a → IsBytes b → be a = be b → a = b
  | [], [], _, _, _, _ => rfl
  | [], _ :: _, h, _, _, _ => by simp at h
  | _ :: _, [], h, _, _, _ => by simp at h
  | x :: a, y :: b, h, ha, hb, he => by
    have hl : a.length = b.length := by simpa using h
    have ha' : IsBytes a := fun z hz => ha z (List.mem_cons_of_mem _ hz)
    have hb' : IsBytes b := fun z hz => hb z (List.mem_cons_of_mem _ hz)
    rw [be_cons, be_cons, hl] at he
    have h1 := be_all a ha'
    have h2 := be_all b hb'
    rw [hl] at h1
    have hxy : x = y := by
      rcases Nat.lt_trichotomy x y with h | h | h
      · have : (x + 1) * 256 ^ b.length ≤ y * 256 ^ b.length := Nat.mul_le_mul_right _ h
        rw [Nat.add_mul] at this
        omega
      · exact h
      · have : (y + 1) * 256 ^ b.length ≤ x * 256 ^ b.length := Nat.mul_le_mul_right _ h
        rw [Nat.add_mul] at this
        omega
    subst hxy
    rw [be_inj4 a b hl ha' hb' (by omega)]
/-- how many bytes frames have -/
def szF (F : List (Nat × List Nat)) : Nat := (F.map fun f => 9 + f.2.length).sum
theorem szF_snoc (F : List (Nat × List Nat)) (f : Nat × List Nat) : szF (F ++ [f]) = szF F + (9 + f.2.length) := by
  unfold szF
  rw [List.map_append, List.sum_append]
  simp
theorem szF_len (F : List (Nat × List Nat)) : 9 * F.length ≤ szF F := by
  induction F with
  | nil => exact Nat.le_refl _
  | cons f F ih =>
    have e : szF (f :: F) = (9 + f.2.length) + szF F := by unfold szF; rw [List.map_cons, List.sum_cons]
    rw [e, List.length_cons]
    omega
def refErr (b : List Nat) : Int := if (frs b).2 = 10 then 0 else (frs b).2
/-- what a frame's bytes are, where they are right -/
theorem first_is {R : List Nat} (hb : IsBytes R) (h9 : 9 + frN R ≤ R.length) (hm : frN R ≤ 1048576) :
    (R.take (5 + frN R)) = fbody (nth R 0) ((R.take (5 + frN R)).drop 5) ∧ (fbytes (nth R 0) ((R.take (5 + frN R)).drop 5) = R.take (9 + frN R) ↔ firstErr R = 0) := by
  have hd : ((R.take (5 + frN R)).drop 5).length = frN R := by rw [List.length_drop, List.length_take]; omega
  have h0 : R.take 1 = enc 1 (nth R 0) := by
    refine be_inj4 _ _ (by rw [List.length_take, enc_length]; omega) (hb.take 1) (enc_bytes _ _) ?_
    have hlt := hb.nth 0
    rw [be_enc, take_succ_nth R 0 (by omega)]
    simp [be, beFrom]
    omega
  have h4 : (R.take 5).drop 1 = enc 4 (frN R) := by
    refine be_inj4 _ _ (by rw [List.length_drop, List.length_take, enc_length]; omega) ((hb.take 5).drop 1) (enc_bytes _ _) ?_
    rw [be_enc, Nat.mod_eq_of_lt (by omega)]
    rfl
  have hbody : R.take (5 + frN R) = fbody (nth R 0) ((R.take (5 + frN R)).drop 5) := by
    unfold fbody
    rw [hd]
    have e1 : R.take 5 = enc 1 (nth R 0) ++ enc 4 (frN R) := by
      rw [← h0, ← h4]
      have h : (R.take 5) = (R.take 5).take 1 ++ (R.take 5).drop 1 := (List.take_append_drop 1 _).symm
      rw [List.take_take] at h
      exact h
    rw [← e1]
    have h : R.take (5 + frN R) = (R.take (5 + frN R)).take 5 ++ (R.take (5 + frN R)).drop 5 := (List.take_append_drop 5 _).symm
    rw [List.take_take, Nat.min_eq_left (by omega)] at h
    exact h
  refine ⟨hbody, ?_⟩
  unfold firstErr
  rw [if_neg (by omega), if_neg (by omega), if_neg (by omega)]
  unfold fbytes
  rw [← hbody]
  have hsplit : R.take (9 + frN R) = R.take (5 + frN R) ++ (R.take (9 + frN R)).drop (5 + frN R) := by
    have h : R.take (9 + frN R) = (R.take (9 + frN R)).take (5 + frN R) ++ (R.take (9 + frN R)).drop (5 + frN R) := (List.take_append_drop _ _).symm
    rw [List.take_take, Nat.min_eq_left (by omega)] at h
    exact h
  have hcl : crc (R.take (5 + frN R)) < 4294967296 := crc_lt (hb.take _)
  constructor
  · intro h
    rw [hsplit] at h
    have h2 := List.append_cancel_left h
    rw [if_neg]
    rw [← h2, be_enc, Nat.mod_eq_of_lt (by omega)]
    simp
  · intro h
    have h2 : be ((R.take (9 + frN R)).drop (5 + frN R)) = crc (R.take (5 + frN R)) := by
      by_cases hq : be ((R.take (9 + frN R)).drop (5 + frN R)) = crc (R.take (5 + frN R))
      · exact hq
      · rw [if_pos hq] at h
        cases h
    rw [hsplit]
    congr 1
    refine be_inj4 _ _ (by rw [enc_length, List.length_drop, List.length_take]; omega) (enc_bytes _ _) ((hb.take _).drop _) ?_
    rw [be_enc, h2, Nat.mod_eq_of_lt (by omega)]

theorem wrapI_le {x : Int} (h0 : 0 ≤ x) (h : x ≤ 140737488355328) : IntKind.i64.wrap x = x := by
  rw [IntKind.wrap_i64]
  omega
/-- append(s, x) of one struct that lies in a new block -/
theorem wpList_append_row1 {P : Program} (w : World) {ops : Array Oper} {rest : List Oper} {o : Oper} {a : Act} {Q : Exit → Act → World → Prop} (hgd : o.guard = none) (s x : Operand) (t : TypeId)
    (ho : o.op = .call { callee := .builtin .append, args := #[s, x], argTypes := #[t, t] })
    (e : TypeId) (i : TypeInfo) (z : Value) (size bytes : Nat) (ht : P.underlying t = some (.slice e)) (hi : P.info? e = some i) (hz : i.zero = some z) (hsize : i.size = size) (hby : i.bytes = bytes) (hzs : z.cells.size = size) (hsz : 0 < size) (hb0 : 0 < bytes)
    (v : Value) (n : Nat) (xs : List Value) (hs : a.eval s = v) (hown : w.ownsRow 0 e size v n xs) (cs : Array Value) (hcs : cs.toList.length = size) (h1 : ∀ u ∈ cs.toList, u.oneCell' = true)
    {N : Nat} (hN : w.heap.size = N) (hx : a.eval x = .slice (some ⟨N, 0, none⟩) 1 1) (hbytes : (n + 1) * bytes ≤ 140737488355328)
    (h : ∀ v' w', w'.ownsRow 0 e size v' (n + 1) (xs ++ cs.toList) → (w.alloc (.cells cs e)).grownBy w' v.ownBlock → (v'.ownBlock = v.ownBlock ∨ v'.ownBlock = some (w.heap.size + 1)) → wpList P ops Q rest (a.put o.dst v') w') :
    wpList P ops Q (o :: rest) a (w.alloc (.cells cs e)) := by
  subst hN
  have h64 : n + 1 ≤ (n + 1) * bytes := Nat.le_mul_of_pos_right _ hb0
  refine wpList_plain hgd fun K hK => ?_
  obtain ⟨v', w', hrun, h2, h3, _, h5⟩ := run_append_own_at (P := P) (w.alloc (.cells cs e)) 0 t o.type e i z size bytes ht hi hz hsize hby hzs hsz v n xs (hown.alloc _) ⟨w.heap.size, 0, none⟩ 1 1 cs.toList (by rw [hcs, Nat.one_mul]) (World.news_of_block (heap_alloc_new w _)) h1 (by simp only [maxLen]; omega) hbytes (Nat.zero_le _)
  unfold Oper.wp execOp
  simp only [ho, resolve, invoke, builtin, Sem.run_bind, Sem.run_pure, Result.andThen_ok, List.map_toArray, List.map_cons, List.map_nil, hs, hx, hrun]
  exact hK _ _ (h v' w' h2 h3 (by simpa using h5))
theorem wraps_k {k n : Nat} (h : k + n + 9 ≤ 1099511627776) : IntKind.i64.wrap ((k : Int) + 5) = (k : Int) + 5 ∧ IntKind.i64.wrap ((k : Int) + 5 + (n : Int)) = (k : Int) + 5 + (n : Int) ∧ IntKind.i64.wrap ((k : Int) + (n : Int)) = (k : Int) + (n : Int) ∧ IntKind.i64.wrap ((k : Int) + (n : Int) + 9) = (k : Int) + (n : Int) + 9 :=
  ⟨wrapI_le (by omega) (by omega), wrapI_le (by omega) (by omega), wrapI_le (by omega) (by omega), wrapI_le (by omega) (by omega)⟩
def RFramesW (b : List Nat) (w : World) (e : Ending) (w' : World) : Prop :=
  ∃ v X, e = .returned (.tuple #[v, .int .i64 (szF (frs b).1 : Int), .int .i64 (refErr b)]) ∧ St Zf [FsA v X] w w' ∧ X.map Fq.f = (frs b).1
set_option maxRecDepth 100000 in
set_option maxHeartbeats 4000000 in
theorem refFrames_any (A : Option Addr) (c B : Nat) (b : List Nat) (w : World) (hr : RB w B A b) (hB : B ≤ w.heap.size) (hl : b.length ≤ c) (hc : c ≤ maxLen) (hbm : b.length ≤ 1099511627776) :
    Calls Tryd.prog 21 #[.slice A b.length c] w (RFramesW b w) := by
  have HR : Hid (∀ w', Below w.heap.size w w' → RB w' B A b) := Lib.hid fun w' h => hr.below' h hB
  have HBI := Lib.hid hr.1
  have HBw := Lib.hid hB
  have h0 : St Zf [FsA (.slice (some ⟨w.heap.size, 0, none⟩) 0 0) []] w (w.alloc (.cells #[] 25)) :=
    St.pack (l' := [_, _]) (((St.start Zf w).nilSep).newNilOw frF 2 25 rfl)
  have H0 := Lib.hid h0
  obtain ⟨L, hL⟩ : ∃ L, b.length = L := ⟨_, rfl⟩
  have HL := Lib.hid hL
  have HEND : Hid (∀ (k : Nat) (X : List Fq) (v : Value) (wr : World) (e0 : Int), frs b = (X.map Fq.f ++ (frs (b.drop k)).1, (frs (b.drop k)).2) → k = szF (X.map Fq.f) → (frs (b.drop k)).1 = [] → e0 = (if (frs (b.drop k)).2 = 10 then 0 else (frs (b.drop k)).2) → St Zf [FsA v X] w wr → RFramesW b w (.returned (.tuple #[v, .int .i64 (k : Int), .int .i64 e0])) wr) := Lib.hid fun k X v wr e0 h1 h2 h3 h4 h5 => by
    rw [h3, List.append_nil] at h1
    refine ⟨v, X, ?_, h5, by rw [h1]⟩
    have e1 : refErr b = e0 := by
      unfold refErr
      rw [h1, h4]
    rw [e1, h1, ← h2]
  have hLm : L ≤ 1099511627776 := by rw [← hL]; exact hbm
  have hLc : L ≤ c := by rw [← hL]; exact hl
  rw [hL]
  clear hr hB hl hbm h0 hL
  go_enter Tryd.func21, Tryd.ntmps21
  go_wp2_with fail
  go_loopw [5, 6] (fun v i wr => ∃ (k : Nat) (X : List Fq), k ≤ L ∧ i = .int .i64 k ∧ frs b = (X.map Fq.f ++ (frs (b.drop k)).1, (frs (b.drop k)).2) ∧ k = szF (X.map Fq.f) ∧ St Zf [FsA v X] w wr) (fun _ i _ => L - (intOf i).toNat)
  case atStart => exact ⟨0, [], Nat.zero_le _, rfl, rfl, rfl, H0.out⟩
  case round =>
    obtain ⟨k, X, hk, rfl, hfr, hks, hst⟩ := hrel
    obtain ⟨Av, cv, hv, -, -, -⟩ := (St.flat hst).owForm
    subst hv
    obtain ⟨R, hR⟩ : ∃ R, R = b.drop k := ⟨_, rfl⟩
    have hRL : R.length = L - k := by rw [hR, List.length_drop, HL.out]
    have HFR := Lib.hid hfr
    have HKS := Lib.hid hks
    have HST := Lib.hid hst
    have HRE := Lib.hid hR
    have hRI : IsBytes R := by rw [hR]; exact HBI.out.drop k
    have HRI := Lib.hid hRI
    have HRLN := Lib.hid hRL
    have HKL := Lib.hid hk
    have hkI : (k : Int) ≤ (L : Int) := by omega
    by_cases h5 : R.length < 5
    · have hcond : (L : Int) - (k : Int) < 5 := by omega
      have hfrs : (frs R).1 = [] ∧ (if (frs R).2 = 10 then (0 : Int) else (frs R).2) = 0 := by
        rw [frs]
        by_cases h0 : R.length = 0
        · rw [if_pos h0]
          exact ⟨rfl, rfl⟩
        · have he : firstErr R = 10 := if_pos h5
          rw [if_neg h0, if_pos (by rw [he]; decide), he]
          exact ⟨rfl, rfl⟩
      rw [hR] at hfrs
      have HE := Lib.hid (HEND.out k X _ wr 0 HFR.out HKS.out hfrs.1 hfrs.2.symm HST.out)
      clear hfr hks hst hR hRL hRI hk hfrs h5 HST
      go_wp2
      refine bodyPost_ret (results_tmp3 rfl _ _ _) rfl ?_
      exact HE.out
    · have hcond : (5 : Int) ≤ (L : Int) - (k : Int) := by omega
      have hk5 : k + 5 ≤ L := by omega
      obtain ⟨bb, off, hA, -, -⟩ := (HR.out wr hst.bel).all (by rw [HL.out]; omega)
      subst hA
      have hrR : RB wr B (some ⟨bb, off + k, none⟩) R := by
        have h := (HR.out wr hst.bel).cut rfl k b.length (Nat.le_refl _) (by rw [HL.out]; omega)
        rw [List.take_length, ← hR] at h
        exact h
      have hfn : frN R < 4294967296 := by
        have h := be_all _ ((hRI.take 5).drop 1)
        rw [List.length_drop, List.length_take] at h
        have e : min 5 R.length - 1 = 4 := by omega
        rw [e] at h
        exact h
      have HVal : Hid (∀ A' m cc, A' = some ⟨bb, off + (k + 1), none⟩ → m = 4 → Calls Tryd.prog 36 #[.slice A' m cc] wr fun e w' => e = .returned (.int .u64 (frN R : Nat)) ∧ wr = w') := Lib.hid fun A' m cc hA' hm => by
        subst hA' hm
        have h := hrR.cut rfl 1 5 (by omega) (by omega)
        have hl4 : ((R.take 5).drop 1).length = 4 := by rw [List.length_drop, List.length_take]; omega
        have h2 := Val_any (some ⟨bb, off + k + 1, none⟩) cc B _ wr h (by rw [hl4]; decide)
        rw [hl4] at h2
        exact h2
      have HRR := Lib.hid hrR
      have H5 := Lib.hid h5
      by_cases hm : 1048576 < frN R
      · have he : firstErr R = 1 := by unfold firstErr; rw [if_neg h5, if_pos hm]
        have hfrs : (frs R).1 = [] ∧ (if (frs R).2 = 10 then (0 : Int) else (frs R).2) = 1 := by
          rw [frs, if_neg (by omega), if_pos (by rw [he]; decide), he]
          exact ⟨rfl, rfl⟩
        rw [hR] at hfrs
        have HE := Lib.hid (HEND.out k X _ wr 1 HFR.out HKS.out hfrs.1 hfrs.2.symm HST.out)
        have hmI : (1048576 : Int) < (frN R : Int) := by omega
        generalize frN R = n at *
        clear hfr hks hst hR hRL hRI hk hfrs h5 HST he hm hrR HRR H5
        go_wp2_with fail
        refine (HVal.out _ _ _ (by simp) (by omega)).mono ?_
        rintro e w2 ⟨rfl, rfl⟩
        go_wp2_with fail
        refine bodyPost_ret (results_tmp3 rfl _ _ _) rfl ?_
        exact HE.out
      · have hmI : ¬ (1048576 : Int) < (frN R : Int) := by omega
        have u1 : wrap64 (frN R : Int) = (frN R : Int) := by
          simp only [wrap64]
          omega
        by_cases h9 : R.length < 9 + frN R
        · have he : firstErr R = 10 := by unfold firstErr; rw [if_neg h5, if_neg hm, if_pos h9]
          have hfrs : (frs R).1 = [] ∧ (if (frs R).2 = 10 then (0 : Int) else (frs R).2) = 0 := by
            rw [frs, if_neg (by omega), if_pos (by rw [he]; decide), he]
            exact ⟨rfl, rfl⟩
          rw [hR] at hfrs
          have HE := Lib.hid (HEND.out k X _ wr 0 HFR.out HKS.out hfrs.1 hfrs.2.symm HST.out)
          have h9I : (L : Int) - (k : Int) < (frN R : Int) + 9 := by omega
          have hnm : (frN R : Int) ≤ 1048576 := by omega
          generalize frN R = n at *
          clear hfr hks hst hR hRL hRI hk hfrs h5 HST he hm hrR HRR H5 h9
          go_wp2_with fail
          refine (HVal.out _ _ _ (by simp) (by omega)).mono ?_
          rintro e w2 ⟨rfl, rfl⟩
          go_wp2_with fail
          refine bodyPost_ret (results_tmp3 rfl _ _ _) rfl ?_
          exact HE.out
        · obtain ⟨hbody, hiff⟩ := first_is hRI (by omega) (by omega)
          have h9I : ¬ (L : Int) - (k : Int) < (frN R : Int) + 9 := by omega
          have hnm : (frN R : Int) ≤ 1048576 := by omega
          obtain ⟨d, hd⟩ : ∃ d, d = (R.take (5 + frN R)).drop 5 := ⟨_, rfl⟩
          have hdl : d.length = frN R := by rw [hd, List.length_drop, List.length_take]; omega
          rw [← hd] at hbody hiff
          have HDL := Lib.hid hdl
          have HIFF := Lib.hid hiff
          have HDE := Lib.hid hd
          have hrd : RB wr B (some ⟨bb, off + k + 5, none⟩) d := by
            have h := hrR.cut rfl 5 (5 + frN R) (by omega) (by omega)
            rw [← hd] at h
            exact h
          have hr9 : RB wr B (some ⟨bb, off + k, none⟩) (R.take (9 + frN R)) := by
            have h := hrR.cut rfl 0 (9 + frN R) (by omega) (by omega)
            rw [List.drop_zero, Nat.add_zero] at h
            exact h
          have hl9 : (R.take (9 + frN R)).length = 9 + frN R := by rw [List.length_take]; omega
          obtain ⟨Q9, hQ9⟩ : ∃ q, q = R.take (9 + frN R) := ⟨_, rfl⟩
          rw [← hQ9] at hr9 hl9 hiff
          have HQ9 := Lib.hid hQ9
          have HR9 := Lib.hid hr9
          have HRD := Lib.hid hrd
          have HL9 := Lib.hid hl9
          obtain ⟨b1, o1, eA, -, hcell⟩ := hrR.at_ (k := 0) (by omega)
          simp only [Option.some.injEq, Addr.mk.injEq] at eA
          obtain ⟨rfl, rfl, -⟩ := eA
          have hc0 : wr.cell? ⟨bb, off + k, none⟩ = some (.int .u8 (nth R 0 : Nat)) := by simpa using hcell
          have HT0 := Lib.hid (hRI.nth 0)
          have hNB : (nth R 0) < 256 := HT0.out
          have HWI : Hid (IntKind.i64.wrap (nth R 0 : Int) = (nth R 0 : Int)) := Lib.hid (wrapI_small hNB)
          have HBB : Hid (bb < wr.heap.size) := Lib.hid (World.block_lt_of_cell? wr _ hc0)
          have HCopy : Hid (∀ A' m cc w', A' = some ⟨bb, off + (k + 5), none⟩ → m = frN R → Below wr.heap.size wr w' → Calls Tryd.prog 37 #[.slice A' m cc] w' (NewB d w')) := Lib.hid fun A' m cc w' hA' hm' hb => by
            subst hA' hm'
            have hBw : B ≤ wr.heap.size := by have := hst.bel.size; have := HBw.out; omega
            have h := Copy_any (some ⟨bb, off + (k + 5), none⟩) cc B d w' ((show off + (k + 5) = off + k + 5 by omega) ▸ hrd.below' hb hBw) (by have := hb.size; omega) (by rw [hdl]; omega)
            rw [hdl] at h
            exact h
          have HR9b : Hid (∀ w', Below w.heap.size w w' → RB w' B (some ⟨bb, off + k, none⟩) Q9) := Lib.hid fun w' hb => by
            have h := ((HR.out w' hb).cut rfl k (k + (9 + frN R)) (by rw [HL.out]; omega) (by omega))
            rw [List.drop_take, Nat.add_sub_cancel_left, ← hR, ← hQ9] at h
            exact h
          have HSB : Hid (St Zf [BlkA wr.heap.size 25 #[.int .i64 0, .slice none 0 0], FsA (.slice Av X.length cv) X] w (wr.drew.alloc (.cells #[.int .i64 0, .slice none 0 0] 25))) := Lib.hid (hst.drew.newBlk 25 #[.int .i64 0, .slice none 0 0])
          have HB1 : Hid (Below wr.heap.size wr wr.drew) := Lib.hid ((Below.refl _ _).drew)
          have HB2 : Hid (Below wr.heap.size wr (wr.drew.alloc (.cells #[.int .i64 0, .slice none 0 0] 25))) := Lib.hid (((Below.refl _ _).drew).alloc (Nat.le_refl _) _)
          have HPE : Hid (packErr (nth R 0 : Int) d = 0 ∧ packB (nth R 0 : Int) d = fbytes (nth R 0) d) := Lib.hid (by
            have h : packErr (nth R 0 : Int) d = 0 := by
              unfold packErr
              rw [if_neg (by omega), if_neg (by omega)]
            exact ⟨h, by unfold packB; rw [if_pos h]; rfl⟩)
          have y1 : (k : Int) < (L : Int) := by omega
          have y2 : (k : Int) + 5 + (frN R : Int) ≤ (c : Int) := by omega
          have y3 : k + 5 < c := by omega
          have y4 : ¬ c = k + 5 := by omega
          have y5 : ¬ k + 5 = c := by omega
          have y6 : (k : Int) + (frN R : Int) + 9 ≤ (c : Int) := by omega
          have y7 : k < c := by omega
          have y8 : ¬ c = k := by omega
          have y9 : ¬ k = c := by omega
          have y10 : (k : Int) + 5 ≤ (c : Int) := by omega
          have HW : Hid (IntKind.i64.wrap ((k : Int) + 5) = (k : Int) + 5 ∧ IntKind.i64.wrap ((k : Int) + 5 + (frN R : Int)) = (k : Int) + 5 + (frN R : Int) ∧ IntKind.i64.wrap ((k : Int) + (frN R : Int)) = (k : Int) + (frN R : Int) ∧ IntKind.i64.wrap ((k : Int) + (frN R : Int) + 9) = (k : Int) + (frN R : Int) + 9) := Lib.hid (wraps_k (show k + frN R + 9 ≤ 1099511627776 by omega))
          have HENO : Hid (fbytes (nth R 0) d ≠ Q9 → ∀ W, St Zf [FsA (.slice Av X.length cv) X] w W → RFramesW b w (.returned (.tuple #[.slice Av X.length cv, .int .i64 (k : Int), .int .i64 91])) W) := Lib.hid fun hne W hW => by
            have h91 : firstErr R = 91 := by
              have h0 : firstErr R ≠ 0 := fun h => hne (hiff.2 h)
              unfold firstErr at h0 ⊢
              rw [if_neg h5, if_neg hm, if_neg h9] at h0 ⊢
              by_cases hqq : be ((R.take (9 + frN R)).drop (5 + frN R)) ≠ crc (R.take (5 + frN R))
              · rw [if_pos hqq]
              · rw [if_neg hqq] at h0
                exact absurd rfl h0
            have hfrs : (frs (b.drop k)).1 = [] ∧ (if (frs (b.drop k)).2 = 10 then (0 : Int) else (frs (b.drop k)).2) = 91 := by
              rw [← hR, frs, if_neg (by omega), if_pos (by rw [h91]; decide), h91]
              exact ⟨rfl, rfl⟩
            exact HEND.out k X _ W 91 HFR.out HKS.out hfrs.1 hfrs.2.symm hW
          have HYES : Hid (fbytes (nth R 0) d = Q9 → ∀ (A2 : Option Addr) (c2 : Nat), frs b = ((X ++ [(⟨nth R 0, d, A2, c2⟩ : Fq)]).map Fq.f ++ (frs (b.drop (k + (9 + frN R)))).1, (frs (b.drop (k + (9 + frN R)))).2) ∧ k + (9 + frN R) = szF ((X ++ [(⟨nth R 0, d, A2, c2⟩ : Fq)]).map Fq.f)) := Lib.hid fun heq A2 c2 => by
            have h0 : firstErr R = 0 := hiff.1 heq
            have h1 : frs R = ((nth R 0, d) :: (frs (R.drop (9 + frN R))).1, (frs (R.drop (9 + frN R))).2) := by
              rw [frs, if_neg (by omega), if_neg (by simpa using h0)]
              have e1 : frT R = nth R 0 := if_pos h0
              have e2 : frD R = d := by rw [hd]; exact if_pos h0
              rw [e1, e2]
            have h2 : R.drop (9 + frN R) = b.drop (k + (9 + frN R)) := by rw [hR, List.drop_drop]
            have h3 := HFR.out
            rw [← hR, h1, h2] at h3
            refine ⟨?_, ?_⟩
            · rw [h3, List.map_append, List.append_assoc]
              rfl
            · rw [List.map_append]
              show _ = szF (X.map Fq.f ++ [(nth R 0, d)])
              rw [szF_snoc, ← HKS.out]
              show _ = k + (9 + d.length)
              rw [hdl]
          have HX32 : Hid ((X.length + 1) * 32 ≤ 140737488355328) := Lib.hid (by
            have h1 := szF_len (X.map Fq.f)
            rw [List.length_map, ← HKS.out] at h1
            omega)
          have HNN : Hid (9 + frN R ≤ L - k ∧ frN R ≤ 1048576) := Lib.hid (by omega)
          have HH5 := Lib.hid (⟨by omega, by omega⟩ : R.length ≠ 0 ∧ k < L)
          generalize hT : nth R 0 = t0 at *
          generalize hNE : frN R = n at *
          have HNE := Lib.hid hNE
          have HTE := Lib.hid hT
          clear hfr hks hst hR hRL hRI hk h5 hm hrR HRR H5 h9 hbody hiff hd hdl hrd hr9 hl9 hQ9 hcell hNB hT hNE hfn
          go_wp2_with fail
          refine (HVal.out _ _ _ (by simp) (by omega)).mono ?_
          rintro e w2 ⟨rfl, rfl⟩
          go_wp2_with fail
          obtain ⟨w5, w6, -, -⟩ := HW.out
          have z1 : (0 : Int) ≤ (k : Int) + 5 + (n : Int) := by omega
          have z2 : (0 : Int) ≤ (k : Int) + 5 := by omega
          have z3 : (k : Int) + 5 ≤ (k : Int) + 5 + (n : Int) := by omega
          have z4 : max ((k : Int) + 5 + (n : Int)) 0 = (k : Int) + 5 + (n : Int) := by omega
          have z5 : ((k : Int) + 5).toNat = k + 5 := by omega
          have z6 : ((k : Int) + 5 + (n : Int)).toNat = k + 5 + n := by omega
          -- REGION10
          refine wp_region_held_drew (S := (fun w' => w'.cell? ⟨bb, off + k, none⟩ = some (.int .u8 (t0 : Int)))) (by kernel_rfl) (by (try dsimp only); first | with_reducible exact q0 | with_reducible exact m0 | go_keep) (fun hHeld => ?_)
          refine wpAnyH_take (i := 0) (v := ?_) rfl (by kernel_rfl) (by kernel_rfl) (by kernel_rfl) (fun _ _ _ h => h) (Or.inl ⟨by rfl, ?_⟩) (by assumption) ?_
          rotate_left
          · (intro w hSw; (try dsimp only at hSw); go_simp; try with_reducible rfl)
          try simp only [Act.put, List.getElem_toArray, List.getElem_cons_zero, List.getElem_cons_succ, List.setIfInBounds_toArray, List.set_cons_zero, List.set_cons_succ]
          refine wpAnyH_take (i := 1) (v := ?_) rfl (by kernel_rfl) (by kernel_rfl) (by kernel_rfl) (fun _ _ _ h => h) (Or.inl ⟨by rfl, ?_⟩) (by assumption) ?_
          rotate_left
          · (intro w hSw; (try dsimp only at hSw); go_simp; try with_reducible rfl)
          try simp only [Act.put, List.getElem_toArray, List.getElem_cons_zero, List.getElem_cons_succ, List.setIfInBounds_toArray, List.set_cons_zero, List.set_cons_succ]
          refine wpAnyH_take (i := 2) (v := ?_) rfl (by kernel_rfl) (by kernel_rfl) (by kernel_rfl) (fun _ _ _ h => h) (Or.inl ⟨by rfl, ?_⟩) (by assumption) ?_
          rotate_left
          · (intro w hSw; (try dsimp only at hSw); go_simp; try with_reducible rfl)
          try simp only [Act.put, List.getElem_toArray, List.getElem_cons_zero, List.getElem_cons_succ, List.setIfInBounds_toArray, List.set_cons_zero, List.set_cons_succ]
          refine wpAnyH_take (i := 3) (v := ?_) rfl (by kernel_rfl) (by kernel_rfl) (by kernel_rfl) (fun _ _ _ h => h) (Or.inl ⟨by rfl, ?_⟩) (by assumption) ?_
          rotate_left
          · (intro w hSw; (try dsimp only at hSw); go_simp; try with_reducible rfl)
          try simp only [Act.put, List.getElem_toArray, List.getElem_cons_zero, List.getElem_cons_succ, List.setIfInBounds_toArray, List.set_cons_zero, List.set_cons_succ]
          refine wpAnyH_take (i := 4) (v := ?_) rfl (by kernel_rfl) (by kernel_rfl) (by kernel_rfl) (fun _ _ _ h => h) (Or.inl ⟨by rfl, ?_⟩) (by assumption) ?_
          rotate_left
          · (intro w hSw; (try dsimp only at hSw); go_simp; try with_reducible rfl)
          try simp only [Act.put, List.getElem_toArray, List.getElem_cons_zero, List.getElem_cons_succ, List.setIfInBounds_toArray, List.set_cons_zero, List.set_cons_succ]
          refine wpAnyH_take (i := 5) (v := ?_) rfl (by kernel_rfl) (by kernel_rfl) (by kernel_rfl) (fun _ _ _ h => h) (Or.inl ⟨by rfl, ?_⟩) (by assumption) ?_
          rotate_left
          · (intro w hSw; (try dsimp only at hSw); go_simp; try with_reducible rfl)
          try simp only [Act.put, List.getElem_toArray, List.getElem_cons_zero, List.getElem_cons_succ, List.setIfInBounds_toArray, List.set_cons_zero, List.set_cons_succ]
          refine wpAnyH_take (i := 6) (v := ?_) rfl (by kernel_rfl) (by kernel_rfl) (by kernel_rfl) (fun _ _ _ h => h) (Or.inl ⟨by rfl, ?_⟩) (by assumption) ?_
          rotate_left
          · (intro w hSw; (try dsimp only at hSw); go_simp; try with_reducible rfl)
          try simp only [Act.put, List.getElem_toArray, List.getElem_cons_zero, List.getElem_cons_succ, List.setIfInBounds_toArray, List.set_cons_zero, List.set_cons_succ]
          refine wpAnyH_take (i := 7) (v := ?_) rfl (by kernel_rfl) (by kernel_rfl) (by kernel_rfl) (fun _ _ _ h => h) (Or.inl ⟨by rfl, ?_⟩) (by assumption) ?_
          rotate_left
          · (intro w hSw; (try dsimp only at hSw); go_simp; try with_reducible rfl)
          try simp only [Act.put, List.getElem_toArray, List.getElem_cons_zero, List.getElem_cons_succ, List.setIfInBounds_toArray, List.set_cons_zero, List.set_cons_succ]
          refine wpAnyH_take (i := 8) (v := ?_) rfl (by kernel_rfl) (by kernel_rfl) (by kernel_rfl) (fun _ _ _ h => h) (Or.inl ⟨by rfl, ?_⟩) (by assumption) ?_
          rotate_left
          · (intro w hSw; (try dsimp only at hSw); go_simp; try with_reducible rfl)
          try simp only [Act.put, List.getElem_toArray, List.getElem_cons_zero, List.getElem_cons_succ, List.setIfInBounds_toArray, List.set_cons_zero, List.set_cons_succ]
          refine wpAnyH_take (i := 9) (v := ?_) rfl (by kernel_rfl) (by kernel_rfl) (by kernel_rfl) (fun _ _ _ h => h) (Or.inl ⟨by rfl, ?_⟩) (by assumption) ?_
          rotate_left
          · (intro w hSw; (try dsimp only at hSw); go_simp; try with_reducible rfl)
          try simp only [Act.put, List.getElem_toArray, List.getElem_cons_zero, List.getElem_cons_succ, List.setIfInBounds_toArray, List.set_cons_zero, List.set_cons_succ]
          refine wpAnyH_take (i := 10) (v := ?_) rfl (by kernel_rfl) (by kernel_rfl) (by kernel_rfl) (fun _ _ _ h => h) (Or.inl ⟨by rfl, ?_⟩) (by assumption) ?_
          rotate_left
          · (intro w hSw; (try dsimp only at hSw); go_simp; try with_reducible rfl)
          try simp only [Act.put, List.getElem_toArray, List.getElem_cons_zero, List.getElem_cons_succ, List.setIfInBounds_toArray, List.set_cons_zero, List.set_cons_succ]
          refine wpAnyH_take (i := 11) (v := ?_) rfl (by kernel_rfl) (by kernel_rfl) (by kernel_rfl) (fun _ _ _ h => h) (Or.inl ⟨by rfl, ?_⟩) (by assumption) ?_
          rotate_left
          · (intro w hSw; (try dsimp only at hSw); go_simp; try with_reducible rfl)
          try simp only [Act.put, List.getElem_toArray, List.getElem_cons_zero, List.getElem_cons_succ, List.setIfInBounds_toArray, List.set_cons_zero, List.set_cons_succ]
          refine wpAnyH_take (i := 12) (v := ?_) rfl (by kernel_rfl) (by kernel_rfl) (by kernel_rfl) (fun _ _ _ h => h) (Or.inl ⟨by rfl, ?_⟩) (by assumption) ?_
          rotate_left
          · (intro w hSw; (try dsimp only at hSw); go_simp; try with_reducible rfl)
          try simp only [Act.put, List.getElem_toArray, List.getElem_cons_zero, List.getElem_cons_succ, List.setIfInBounds_toArray, List.set_cons_zero, List.set_cons_succ]
          refine wpAnyH_ready (rs := [13, 15]) (by kernel_rfl) (by simp) ?_
          refine AllReadyH.cons rfl (fun K hK => ?_) ?_
          · go_simp
            go_at_call 37
            refine (HCopy.out _ _ _ _ (by simp) (by omega) HB1.out).mono ?_
            rintro e w2 ⟨v2, rfl, ho2, hb2⟩
            obtain ⟨A2, c2, rfl, -, -, -, -⟩ := ho2.form
            rw [HDL.out] at ho2 ⊢
            have h2 := HST.out.drew.newOb ho2 hb2
            have hbs : bb < w2.heap.size := Nat.lt_of_lt_of_le HBB.out (Nat.le_trans (Nat.le_refl _) hb2.size)
            have m0 : w2.cell? ⟨bb, off + k, none⟩ = some (.int .u8 (t0 : Int)) := (hb2.cell (p := ⟨bb, off + k, none⟩) (Nat.lt_of_lt_of_le HBB.out (Nat.le_refl _))).trans hc0
            refine hK.out _ _ (by (try dsimp only); first | with_reducible exact q0 | with_reducible exact m0 | go_keep) (fun hHeld => ?_)
            clear hK K
            try simp only [Act.put, List.getElem_toArray, List.getElem_cons_zero, List.getElem_cons_succ, List.setIfInBounds_toArray, List.set_cons_zero, List.set_cons_succ]
            refine wpAnyH_take (i := 14) (v := ?_) rfl (by kernel_rfl) (by kernel_rfl) (by kernel_rfl) (fun _ _ _ h => h) (Or.inl ⟨by rfl, ?_⟩) (by assumption) ?_
            rotate_left
            · (intro w hSw; (try dsimp only at hSw); go_simp; try with_reducible rfl)
            try simp only [Act.put, List.getElem_toArray, List.getElem_cons_zero, List.getElem_cons_succ, List.setIfInBounds_toArray, List.set_cons_zero, List.set_cons_succ]
            refine wpAnyH_ready (rs := [15]) (by kernel_rfl) (by simp) ?_
            refine AllReadyH.cons rfl (fun K hK => ?_) AllReadyH.nil
            go_simp
            refine hK.out _ _ (by (try dsimp only); first | with_reducible exact q0 | with_reducible exact m0 | go_keep) (fun hHeld => ?_)
            clear hK K
            try simp only [Act.put, List.getElem_toArray, List.getElem_cons_zero, List.getElem_cons_succ, List.setIfInBounds_toArray, List.set_cons_zero, List.set_cons_succ]
            refine wpAnyH_ready (rs := [16]) (by kernel_rfl) (by simp) ?_
            refine AllReadyH.cons rfl (fun K hK => ?_) AllReadyH.nil
            have h3 := h2.newBlk 25 #[.int .i64 0, .slice none 0 0]
            have hnb : bb ≠ w2.heap.size := Nat.ne_of_lt hbs
            have ma := (((Below.refl w2.heap.size w2).alloc (Nat.le_refl _) (.cells #[.int .i64 0, .slice none 0 0] 25)).cell (p := ⟨bb, off + k, none⟩) hbs).trans m0
            have h4 := h3.setRowL #[.int .i64 (t0 : Int), .slice A2 n c2]
            have hgi := h3.blk
            have q0 : (World.setRow (w2.alloc (.cells #[.int .i64 0, .slice none 0 0] 25)) w2.heap.size #[.int .i64 (t0 : Int), .slice A2 n c2]).cell? ⟨bb, off + k, none⟩ = some (.int .u8 (t0 : Int)) := (World.cell?_of_block (setRow_other _ _ _ _ hnb)).trans ma
            refine step_store_row (by rfl) 25 _ _ (by rfl) w2.heap.size #[.int .i64 (t0 : Int), .slice A2 n c2] (by rfl) (by show Value.agg #[.int .i64 (IntKind.i64.wrap (t0 : Int)), .slice A2 n c2] = _; rw [HWI.out]) 25 _ hgi (by kernel_rfl) rfl (by rw [← Array.all_toList]; rfl) ?_
            obtain ⟨W4, hW4⟩ : ∃ q, q = World.setRow (w2.alloc (.cells #[.int .i64 0, .slice none 0 0] 25)) w2.heap.size #[.int .i64 (t0 : Int), .slice A2 n c2] := ⟨_, rfl⟩
            rw [← hW4] at h4 q0 ⊢
            have H4 := Lib.hid h4
            refine hK.out _ _ (by (try dsimp only); first | with_reducible exact q0 | with_reducible exact m0 | go_keep) (fun hHeld => ?_)
            clear hK K
            try simp only [Act.put, List.getElem_toArray, List.getElem_cons_zero, List.getElem_cons_succ, List.setIfInBounds_toArray, List.set_cons_zero, List.set_cons_succ]
            refine wpAnyH_done (by kernel_rfl) ?_ _
            clear h4 h3 hgi h2 hW4 m0 q0 ho2 hb2 ma hnb hbs z1 z2 z3 z4 z5 z6 w5 w6
            obtain ⟨i0, i1⟩ := cells2 H4.out
            have hpk := refPack_any (t0 : Int) A2 c2 _ d W4 H4.out.swap.obR.2.2.2 (Nat.le_refl _) (by rw [HDL.out]; omega)
            unfold RPackW at hpk
            rw [HPE.out.1, HPE.out.2, HDL.out] at hpk
            simp only [fragg] at hpk
            have HPK := Lib.hid hpk
            clear hpk
            go_wp2_with fail
            refine HPK.out.mono ?_
            rintro e w5 ⟨v5, rfl, h5⟩
            have h6 := H4.out.addStL h5
            obtain ⟨A5, c5, rfl, -, -, hr5⟩ := h6.obForm (fbytes_len t0 d)
            rw [HDL.out] at h6 ⊢
            obtain ⟨i0', i1'⟩ := cells2 h6.swap
            have hr9' := HR9b.out w5 h6.bel
            have H6 := Lib.hid h6
            have HR5 := Lib.hid hr5
            have HR9' := Lib.hid hr9'
            clear h5 h6 HPK i0 i1 H4 hr5 hr9'
            have e1 := run_bytes_str (P := Tryd.prog) w5.drew 23 9 5 c5 Tryd.underlying23 Tryd.underlying5 Tryd.underlying9 HR5.out.drew
            have e2 := run_bytes_str (P := Tryd.prog) w5.drew 23 9 5 (c - k) Tryd.underlying23 Tryd.underlying5 Tryd.underlying9 HR9'.out.drew
            rw [fbytes_len, HDL.out] at e1
            rw [HL9.out] at e2
            have hbq : ((strOf (fbytes t0 d)).toList == (strOf Q9).toList) = decide (fbytes t0 d = Q9) := by
              rw [Bool.eq_iff_iff, beq_iff_eq, decide_eq_true_iff]
              exact ⟨fun e => (strOf_inj (fbytes_is t0 HRD.out.1) HR9.out.1).1 (str_eq_of_list e), fun e => by rw [e]⟩
            obtain ⟨-, -, w7, w8⟩ := HW.out
            have z1 : (0 : Int) ≤ (k : Int) + (n : Int) + 9 := by omega
            have z2 : (k : Int) ≤ (k : Int) + (n : Int) + 9 := by omega
            have z4 : max ((k : Int) + (n : Int) + 9) 0 = (k : Int) + (n : Int) + 9 := by omega
            have z6 : ((k : Int) + (n : Int) + 9).toNat = k + n + 9 := by omega
            have z7 : k + n + 9 - k = 9 + n := by omega
            by_cases hq : fbytes t0 d = Q9
            · rw [decide_eq_true hq] at hbq
              go_wp2
              refine wp_region_held_drew (S := (fun _ => True)) (by kernel_rfl) (by (try dsimp only); try trivial) (fun hHeld => ?_)
              refine wpAnyH_take (i := 0) (v := ?_) rfl (by kernel_rfl) (by kernel_rfl) (by kernel_rfl) (fun _ _ _ h => h) (Or.inl ⟨by rfl, ?_⟩) (by assumption) ?_
              rotate_left
              · (intro w hSw; (try dsimp only at hSw); go_simp; try with_reducible rfl)
              try simp only [Act.put, List.getElem_toArray, List.getElem_cons_zero, List.getElem_cons_succ, List.setIfInBounds_toArray, List.set_cons_zero, List.set_cons_succ]
              refine wpAnyH_take (i := 2) (v := ?_) rfl (by kernel_rfl) (by kernel_rfl) (by kernel_rfl) (fun _ _ _ h => h) (Or.inl ⟨by rfl, ?_⟩) (by assumption) ?_
              rotate_left
              · (intro w hSw; (try dsimp only at hSw); go_simp; try with_reducible rfl)
              try simp only [Act.put, List.getElem_toArray, List.getElem_cons_zero, List.getElem_cons_succ, List.setIfInBounds_toArray, List.set_cons_zero, List.set_cons_succ]
              refine wpAnyH_take (i := 3) (v := ?_) rfl (by kernel_rfl) (by kernel_rfl) (by kernel_rfl) (fun _ _ _ h => h) (Or.inl ⟨by rfl, ?_⟩) (by assumption) ?_
              rotate_left
              · (intro w hSw; (try dsimp only at hSw); go_simp; try with_reducible rfl)
              try simp only [Act.put, List.getElem_toArray, List.getElem_cons_zero, List.getElem_cons_succ, List.setIfInBounds_toArray, List.set_cons_zero, List.set_cons_succ]
              refine wpAnyH_take (i := 4) (v := ?_) rfl (by kernel_rfl) (by kernel_rfl) (by kernel_rfl) (fun _ _ _ h => h) (Or.inl ⟨by rfl, ?_⟩) (by assumption) ?_
              rotate_left
              · (intro w hSw; (try dsimp only at hSw); go_simp; try with_reducible rfl)
              try simp only [Act.put, List.getElem_toArray, List.getElem_cons_zero, List.getElem_cons_succ, List.setIfInBounds_toArray, List.set_cons_zero, List.set_cons_succ]
              refine wpAnyH_take (i := 5) (v := ?_) rfl (by kernel_rfl) (by kernel_rfl) (by kernel_rfl) (fun _ _ _ h => h) (Or.inl ⟨by rfl, ?_⟩) (by assumption) ?_
              rotate_left
              · (intro w hSw; (try dsimp only at hSw); go_simp; try with_reducible rfl)
              try simp only [Act.put, List.getElem_toArray, List.getElem_cons_zero, List.getElem_cons_succ, List.setIfInBounds_toArray, List.set_cons_zero, List.set_cons_succ]
              refine wpAnyH_take (i := 6) (v := ?_) rfl (by kernel_rfl) (by kernel_rfl) (by kernel_rfl) (fun _ _ _ h => h) (Or.inl ⟨by rfl, ?_⟩) (by assumption) ?_
              rotate_left
              · (intro w hSw; (try dsimp only at hSw); go_simp; try with_reducible rfl)
              try simp only [Act.put, List.getElem_toArray, List.getElem_cons_zero, List.getElem_cons_succ, List.setIfInBounds_toArray, List.set_cons_zero, List.set_cons_succ]
              refine wpAnyH_take (i := 7) (v := ?_) rfl (by kernel_rfl) (by kernel_rfl) (by kernel_rfl) (fun _ _ _ h => h) (Or.inl ⟨by rfl, ?_⟩) (by assumption) ?_
              rotate_left
              · (intro w hSw; (try dsimp only at hSw); go_simp; try with_reducible rfl)
              try simp only [Act.put, List.getElem_toArray, List.getElem_cons_zero, List.getElem_cons_succ, List.setIfInBounds_toArray, List.set_cons_zero, List.set_cons_succ]
              refine wpAnyH_take (i := 8) (v := ?_) rfl (by kernel_rfl) (by kernel_rfl) (by kernel_rfl) (fun _ _ _ h => h) (Or.inl ⟨by rfl, ?_⟩) (by assumption) ?_
              rotate_left
              · (intro w hSw; (try dsimp only at hSw); go_simp; try with_reducible rfl)
              try simp only [Act.put, List.getElem_toArray, List.getElem_cons_zero, List.getElem_cons_succ, List.setIfInBounds_toArray, List.set_cons_zero, List.set_cons_succ]
              refine wpAnyH_ready (rs := [1, 9]) (by kernel_rfl) (by simp) ?_
              refine AllReadyH.cons rfl (fun K hK => ?_) ?_
              · go_simp
                refine hK.out _ _ (by (try dsimp only); try trivial) (fun hHeld => ?_)
                clear hK K
                try simp only [Act.put, List.getElem_toArray, List.getElem_cons_zero, List.getElem_cons_succ, List.setIfInBounds_toArray, List.set_cons_zero, List.set_cons_succ]
                refine wpAnyH_ready (rs := [9]) (by kernel_rfl) (by simp) ?_
                refine AllReadyH.cons rfl (fun K hK => ?_) AllReadyH.nil
                go_simp
                refine hK.out _ _ (by (try dsimp only); try trivial) (fun hHeld => ?_)
                clear hK K
                try simp only [Act.put, List.getElem_toArray, List.getElem_cons_zero, List.getElem_cons_succ, List.setIfInBounds_toArray, List.set_cons_zero, List.set_cons_succ]
                refine wpAnyH_take (i := 10) (v := ?_) rfl (by kernel_rfl) (by kernel_rfl) (by kernel_rfl) (fun _ _ _ h => h) (Or.inl ⟨by rfl, ?_⟩) (by assumption) ?_
                rotate_left
                · (intro w hSw; (try dsimp only at hSw); go_simp; try with_reducible rfl)
                try simp only [Act.put, List.getElem_toArray, List.getElem_cons_zero, List.getElem_cons_succ, List.setIfInBounds_toArray, List.set_cons_zero, List.set_cons_succ]
                refine wpAnyH_done (by kernel_rfl) ?_ _
                obtain ⟨ii, zz, hi0, hz0, hz1, hz2, hz3⟩ := row_info fr_info
                have hfs0 := (H6.out.drop.drop.drew).swap
                have hfs : St Zf [FsA (.slice Av X.length cv) X, ObA 5 (.slice A2 d.length c2) d] w w5.drew := by
                  rw [HDL.out]
                  exact hfs0
                have HFS := Lib.hid hfs
                have HROW := Lib.hid (St.flat hfs).ow
                have hq2 : (X.length + 1) * 32 ≤ 140737488355328 := HX32.out
                have HY := Lib.hid (HYES.out hq A2 c2)
                have hnx : (k : Int) + ((n : Int) + 9) ≤ 1099511627776 := by have := HNN.out; omega
                have HKN : Hid (k + (9 + n) ≤ L) := Lib.hid (by have := HNN.out; have := HKL.out; omega)
                have HCEQ : Hid (frF (⟨t0, d, A2, c2⟩ : Fq) = [.int .i64 (t0 : Int), .slice A2 n c2]) := Lib.hid (by simp only [frF, HDL.out])
                clear hfs hfs0 e1 e2 hbq HEND HPE HWI HB1 HB2 HSB HCopy w7 w8 z1 z2 z4 z6 z7 hq HR9' HR5
                go_wp2_with (at_builtin; refine wpList_append_row1 w5.drew rfl _ _ 35 rfl 25 ii zz 2 32 Tryd.underlying35 hi0 hz0 hz1 hz2 hz3 (by decide) (by decide) (.slice Av X.length cv) X.length _ (by rfl) HROW.out #[.int .i64 (t0 : Int), .slice A2 n c2] rfl (HCEQ.out ▸ frF_row.one ⟨t0, d, A2, c2⟩) rfl (by rfl) hq2 ?_; intro v' w' ho hg ha; obtain ⟨g', cp', rfl⟩ := ownsRow_succ ho; have hs := HFS.out.snocFs (q := ⟨t0, d, A2, c2⟩) _ (by rw [HCEQ.out]; exact ho) hg ha; have HS := Lib.hid hs; clear hs ho hg ha)
                go_roundw
                case rel => exact ⟨k + (9 + n), X ++ [(⟨t0, d, A2, c2⟩ : Fq)], HKN.out, by go_num, HY.out.1, HY.out.2, HS.out⟩
                case measure =>
                  have := HKN.out
                  have := HKL.out
                  simp [intOf]
                  omega
              refine AllReadyH.cons rfl (fun K hK => ?_) AllReadyH.nil
              go_simp
              refine hK.out _ _ (by (try dsimp only); try trivial) (fun hHeld => ?_)
              clear hK K
              try simp only [Act.put, List.getElem_toArray, List.getElem_cons_zero, List.getElem_cons_succ, List.setIfInBounds_toArray, List.set_cons_zero, List.set_cons_succ]
              refine wpAnyH_ready (rs := [1]) (by kernel_rfl) (by simp) ?_
              refine AllReadyH.cons rfl (fun K hK => ?_) AllReadyH.nil
              go_simp
              refine hK.out _ _ (by (try dsimp only); try trivial) (fun hHeld => ?_)
              clear hK K
              try simp only [Act.put, List.getElem_toArray, List.getElem_cons_zero, List.getElem_cons_succ, List.setIfInBounds_toArray, List.set_cons_zero, List.set_cons_succ]
              refine wpAnyH_take (i := 10) (v := ?_) rfl (by kernel_rfl) (by kernel_rfl) (by kernel_rfl) (fun _ _ _ h => h) (Or.inl ⟨by rfl, ?_⟩) (by assumption) ?_
              rotate_left
              · (intro w hSw; (try dsimp only at hSw); go_simp; try with_reducible rfl)
              try simp only [Act.put, List.getElem_toArray, List.getElem_cons_zero, List.getElem_cons_succ, List.setIfInBounds_toArray, List.set_cons_zero, List.set_cons_succ]
              refine wpAnyH_done (by kernel_rfl) ?_ _
              obtain ⟨ii, zz, hi0, hz0, hz1, hz2, hz3⟩ := row_info fr_info
              have hfs0 := (H6.out.drop.drop.drew).swap
              have hfs : St Zf [FsA (.slice Av X.length cv) X, ObA 5 (.slice A2 d.length c2) d] w w5.drew := by
                rw [HDL.out]
                exact hfs0
              have HFS := Lib.hid hfs
              have HROW := Lib.hid (St.flat hfs).ow
              have hq2 : (X.length + 1) * 32 ≤ 140737488355328 := HX32.out
              have HY := Lib.hid (HYES.out hq A2 c2)
              have hnx : (k : Int) + ((n : Int) + 9) ≤ 1099511627776 := by have := HNN.out; omega
              have HKN : Hid (k + (9 + n) ≤ L) := Lib.hid (by have := HNN.out; have := HKL.out; omega)
              have HCEQ : Hid (frF (⟨t0, d, A2, c2⟩ : Fq) = [.int .i64 (t0 : Int), .slice A2 n c2]) := Lib.hid (by simp only [frF, HDL.out])
              clear hfs hfs0 e1 e2 hbq HEND HPE HWI HB1 HB2 HSB HCopy w7 w8 z1 z2 z4 z6 z7 hq HR9' HR5
              go_wp2_with (at_builtin; refine wpList_append_row1 w5.drew rfl _ _ 35 rfl 25 ii zz 2 32 Tryd.underlying35 hi0 hz0 hz1 hz2 hz3 (by decide) (by decide) (.slice Av X.length cv) X.length _ (by rfl) HROW.out #[.int .i64 (t0 : Int), .slice A2 n c2] rfl (HCEQ.out ▸ frF_row.one ⟨t0, d, A2, c2⟩) rfl (by rfl) hq2 ?_; intro v' w' ho hg ha; obtain ⟨g', cp', rfl⟩ := ownsRow_succ ho; have hs := HFS.out.snocFs (q := ⟨t0, d, A2, c2⟩) _ (by rw [HCEQ.out]; exact ho) hg ha; have HS := Lib.hid hs; clear hs ho hg ha)
              go_roundw
              case rel => exact ⟨k + (9 + n), X ++ [(⟨t0, d, A2, c2⟩ : Fq)], HKN.out, by go_num, HY.out.1, HY.out.2, HS.out⟩
              case measure =>
                have := HKN.out
                have := HKL.out
                simp [intOf]
                omega
            · rw [decide_eq_false hq] at hbq
              go_wp2
              refine wp_region_held_drew (S := (fun _ => True)) (by kernel_rfl) (by (try dsimp only); try trivial) (fun hHeld => ?_)
              refine wpAnyH_take (i := 0) (v := ?_) rfl (by kernel_rfl) (by kernel_rfl) (by kernel_rfl) (fun _ _ _ h => h) (Or.inl ⟨by rfl, ?_⟩) (by assumption) ?_
              rotate_left
              · (intro w hSw; (try dsimp only at hSw); go_simp; try with_reducible rfl)
              try simp only [Act.put, List.getElem_toArray, List.getElem_cons_zero, List.getElem_cons_succ, List.setIfInBounds_toArray, List.set_cons_zero, List.set_cons_succ]
              refine wpAnyH_take (i := 2) (v := ?_) rfl (by kernel_rfl) (by kernel_rfl) (by kernel_rfl) (fun _ _ _ h => h) (Or.inl ⟨by rfl, ?_⟩) (by assumption) ?_
              rotate_left
              · (intro w hSw; (try dsimp only at hSw); go_simp; try with_reducible rfl)
              try simp only [Act.put, List.getElem_toArray, List.getElem_cons_zero, List.getElem_cons_succ, List.setIfInBounds_toArray, List.set_cons_zero, List.set_cons_succ]
              refine wpAnyH_take (i := 3) (v := ?_) rfl (by kernel_rfl) (by kernel_rfl) (by kernel_rfl) (fun _ _ _ h => h) (Or.inl ⟨by rfl, ?_⟩) (by assumption) ?_
              rotate_left
              · (intro w hSw; (try dsimp only at hSw); go_simp; try with_reducible rfl)
              try simp only [Act.put, List.getElem_toArray, List.getElem_cons_zero, List.getElem_cons_succ, List.setIfInBounds_toArray, List.set_cons_zero, List.set_cons_succ]
              refine wpAnyH_take (i := 4) (v := ?_) rfl (by kernel_rfl) (by kernel_rfl) (by kernel_rfl) (fun _ _ _ h => h) (Or.inl ⟨by rfl, ?_⟩) (by assumption) ?_
              rotate_left
              · (intro w hSw; (try dsimp only at hSw); go_simp; try with_reducible rfl)
              try simp only [Act.put, List.getElem_toArray, List.getElem_cons_zero, List.getElem_cons_succ, List.setIfInBounds_toArray, List.set_cons_zero, List.set_cons_succ]
              refine wpAnyH_take (i := 5) (v := ?_) rfl (by kernel_rfl) (by kernel_rfl) (by kernel_rfl) (fun _ _ _ h => h) (Or.inl ⟨by rfl, ?_⟩) (by assumption) ?_
              rotate_left
              · (intro w hSw; (try dsimp only at hSw); go_simp; try with_reducible rfl)
              try simp only [Act.put, List.getElem_toArray, List.getElem_cons_zero, List.getElem_cons_succ, List.setIfInBounds_toArray, List.set_cons_zero, List.set_cons_succ]
              refine wpAnyH_take (i := 6) (v := ?_) rfl (by kernel_rfl) (by kernel_rfl) (by kernel_rfl) (fun _ _ _ h => h) (Or.inl ⟨by rfl, ?_⟩) (by assumption) ?_
              rotate_left
              · (intro w hSw; (try dsimp only at hSw); go_simp; try with_reducible rfl)
              try simp only [Act.put, List.getElem_toArray, List.getElem_cons_zero, List.getElem_cons_succ, List.setIfInBounds_toArray, List.set_cons_zero, List.set_cons_succ]
              refine wpAnyH_take (i := 7) (v := ?_) rfl (by kernel_rfl) (by kernel_rfl) (by kernel_rfl) (fun _ _ _ h => h) (Or.inl ⟨by rfl, ?_⟩) (by assumption) ?_
              rotate_left
              · (intro w hSw; (try dsimp only at hSw); go_simp; try with_reducible rfl)
              try simp only [Act.put, List.getElem_toArray, List.getElem_cons_zero, List.getElem_cons_succ, List.setIfInBounds_toArray, List.set_cons_zero, List.set_cons_succ]
              refine wpAnyH_take (i := 8) (v := ?_) rfl (by kernel_rfl) (by kernel_rfl) (by kernel_rfl) (fun _ _ _ h => h) (Or.inl ⟨by rfl, ?_⟩) (by assumption) ?_
              rotate_left
              · (intro w hSw; (try dsimp only at hSw); go_simp; try with_reducible rfl)
              try simp only [Act.put, List.getElem_toArray, List.getElem_cons_zero, List.getElem_cons_succ, List.setIfInBounds_toArray, List.set_cons_zero, List.set_cons_succ]
              refine wpAnyH_ready (rs := [1, 9]) (by kernel_rfl) (by simp) ?_
              refine AllReadyH.cons rfl (fun K hK => ?_) ?_
              · go_simp
                refine hK.out _ _ (by (try dsimp only); try trivial) (fun hHeld => ?_)
                clear hK K
                try simp only [Act.put, List.getElem_toArray, List.getElem_cons_zero, List.getElem_cons_succ, List.setIfInBounds_toArray, List.set_cons_zero, List.set_cons_succ]
                refine wpAnyH_ready (rs := [9]) (by kernel_rfl) (by simp) ?_
                refine AllReadyH.cons rfl (fun K hK => ?_) AllReadyH.nil
                go_simp
                refine hK.out _ _ (by (try dsimp only); try trivial) (fun hHeld => ?_)
                clear hK K
                try simp only [Act.put, List.getElem_toArray, List.getElem_cons_zero, List.getElem_cons_succ, List.setIfInBounds_toArray, List.set_cons_zero, List.set_cons_succ]
                refine wpAnyH_take (i := 10) (v := ?_) rfl (by kernel_rfl) (by kernel_rfl) (by kernel_rfl) (fun _ _ _ h => h) (Or.inl ⟨by rfl, ?_⟩) (by assumption) ?_
                rotate_left
                · (intro w hSw; (try dsimp only at hSw); go_simp; try with_reducible rfl)
                try simp only [Act.put, List.getElem_toArray, List.getElem_cons_zero, List.getElem_cons_succ, List.setIfInBounds_toArray, List.set_cons_zero, List.set_cons_succ]
                refine wpAnyH_done (by kernel_rfl) ?_ _
                go_wp2
                refine bodyPost_ret (results_tmp3 rfl _ _ _) rfl ?_
                exact HENO.out hq _ H6.out.drop.drop.drop.drew
              refine AllReadyH.cons rfl (fun K hK => ?_) AllReadyH.nil
              go_simp
              refine hK.out _ _ (by (try dsimp only); try trivial) (fun hHeld => ?_)
              clear hK K
              try simp only [Act.put, List.getElem_toArray, List.getElem_cons_zero, List.getElem_cons_succ, List.setIfInBounds_toArray, List.set_cons_zero, List.set_cons_succ]
              refine wpAnyH_ready (rs := [1]) (by kernel_rfl) (by simp) ?_
              refine AllReadyH.cons rfl (fun K hK => ?_) AllReadyH.nil
              go_simp
              refine hK.out _ _ (by (try dsimp only); try trivial) (fun hHeld => ?_)
              clear hK K
              try simp only [Act.put, List.getElem_toArray, List.getElem_cons_zero, List.getElem_cons_succ, List.setIfInBounds_toArray, List.set_cons_zero, List.set_cons_succ]
              refine wpAnyH_take (i := 10) (v := ?_) rfl (by kernel_rfl) (by kernel_rfl) (by kernel_rfl) (fun _ _ _ h => h) (Or.inl ⟨by rfl, ?_⟩) (by assumption) ?_
              rotate_left
              · (intro w hSw; (try dsimp only at hSw); go_simp; try with_reducible rfl)
              try simp only [Act.put, List.getElem_toArray, List.getElem_cons_zero, List.getElem_cons_succ, List.setIfInBounds_toArray, List.set_cons_zero, List.set_cons_succ]
              refine wpAnyH_done (by kernel_rfl) ?_ _
              go_wp2
              refine bodyPost_ret (results_tmp3 rfl _ _ _) rfl ?_
              exact HENO.out hq _ H6.out.drop.drop.drop.drew
          refine AllReadyH.cons rfl (fun K hK => ?_) AllReadyH.nil
          go_simp
          refine hK.out _ _ (by (try dsimp only); first | with_reducible exact q0 | with_reducible exact m0 | go_keep) (fun hHeld => ?_)
          clear hK K
          try simp only [Act.put, List.getElem_toArray, List.getElem_cons_zero, List.getElem_cons_succ, List.setIfInBounds_toArray, List.set_cons_zero, List.set_cons_succ]
          refine wpAnyH_ready (rs := [13]) (by kernel_rfl) (by simp) ?_
          refine AllReadyH.cons rfl (fun K hK => ?_) AllReadyH.nil
          go_simp
          go_at_call 37
          refine (HCopy.out _ _ _ _ (by simp) (by omega) HB2.out).mono ?_
          rintro e w2 ⟨v2, rfl, ho2, hb2⟩
          obtain ⟨A2, c2, rfl, -, -, -, -⟩ := ho2.form
          rw [HDL.out] at ho2 ⊢
          have h2 := HSB.out.newOb ho2 hb2
          have hbs : bb < w2.heap.size := Nat.lt_of_lt_of_le HBB.out (Nat.le_trans HB2.out.size hb2.size)
          have m0 : w2.cell? ⟨bb, off + k, none⟩ = some (.int .u8 (t0 : Int)) := (hb2.cell (p := ⟨bb, off + k, none⟩) (Nat.lt_of_lt_of_le HBB.out HB2.out.size)).trans ((HB2.out.cell (p := ⟨bb, off + k, none⟩) HBB.out).trans hc0)
          refine hK.out _ _ (by (try dsimp only); first | with_reducible exact q0 | with_reducible exact m0 | go_keep) (fun hHeld => ?_)
          clear hK K
          try simp only [Act.put, List.getElem_toArray, List.getElem_cons_zero, List.getElem_cons_succ, List.setIfInBounds_toArray, List.set_cons_zero, List.set_cons_succ]
          refine wpAnyH_take (i := 14) (v := ?_) rfl (by kernel_rfl) (by kernel_rfl) (by kernel_rfl) (fun _ _ _ h => h) (Or.inl ⟨by rfl, ?_⟩) (by assumption) ?_
          rotate_left
          · (intro w hSw; (try dsimp only at hSw); go_simp; try with_reducible rfl)
          try simp only [Act.put, List.getElem_toArray, List.getElem_cons_zero, List.getElem_cons_succ, List.setIfInBounds_toArray, List.set_cons_zero, List.set_cons_succ]
          refine wpAnyH_ready (rs := [16]) (by kernel_rfl) (by simp) ?_
          refine AllReadyH.cons rfl (fun K hK => ?_) AllReadyH.nil
          have h3 := h2.swap
          have hnb : bb ≠ wr.heap.size := Nat.ne_of_lt HBB.out
          have ma := m0
          have h4 := h3.setRowL #[.int .i64 (t0 : Int), .slice A2 n c2]
          have hgi := h3.blk
          have q0 : (World.setRow w2 wr.heap.size #[.int .i64 (t0 : Int), .slice A2 n c2]).cell? ⟨bb, off + k, none⟩ = some (.int .u8 (t0 : Int)) := (World.cell?_of_block (setRow_other _ _ _ _ hnb)).trans ma
          refine step_store_row (by rfl) 25 _ _ (by rfl) wr.heap.size #[.int .i64 (t0 : Int), .slice A2 n c2] (by rfl) (by show Value.agg #[.int .i64 (IntKind.i64.wrap (t0 : Int)), .slice A2 n c2] = _; rw [HWI.out]) 25 _ hgi (by kernel_rfl) rfl (by rw [← Array.all_toList]; rfl) ?_
          obtain ⟨W4, hW4⟩ : ∃ q, q = World.setRow w2 wr.heap.size #[.int .i64 (t0 : Int), .slice A2 n c2] := ⟨_, rfl⟩
          rw [← hW4] at h4 q0 ⊢
          have H4 := Lib.hid h4
          refine hK.out _ _ (by (try dsimp only); first | with_reducible exact q0 | with_reducible exact m0 | go_keep) (fun hHeld => ?_)
          clear hK K
          try simp only [Act.put, List.getElem_toArray, List.getElem_cons_zero, List.getElem_cons_succ, List.setIfInBounds_toArray, List.set_cons_zero, List.set_cons_succ]
          refine wpAnyH_done (by kernel_rfl) ?_ _
          clear h4 h3 hgi h2 hW4 m0 q0 ho2 hb2 ma hnb hbs z1 z2 z3 z4 z5 z6 w5 w6
          obtain ⟨i0, i1⟩ := cells2 H4.out
          have hpk := refPack_any (t0 : Int) A2 c2 _ d W4 H4.out.swap.obR.2.2.2 (Nat.le_refl _) (by rw [HDL.out]; omega)
          unfold RPackW at hpk
          rw [HPE.out.1, HPE.out.2, HDL.out] at hpk
          simp only [fragg] at hpk
          have HPK := Lib.hid hpk
          clear hpk
          go_wp2_with fail
          refine HPK.out.mono ?_
          rintro e w5 ⟨v5, rfl, h5⟩
          have h6 := H4.out.addStL h5
          obtain ⟨A5, c5, rfl, -, -, hr5⟩ := h6.obForm (fbytes_len t0 d)
          rw [HDL.out] at h6 ⊢
          obtain ⟨i0', i1'⟩ := cells2 h6.swap
          have hr9' := HR9b.out w5 h6.bel
          have H6 := Lib.hid h6
          have HR5 := Lib.hid hr5
          have HR9' := Lib.hid hr9'
          clear h5 h6 HPK i0 i1 H4 hr5 hr9'
          have e1 := run_bytes_str (P := Tryd.prog) w5.drew 23 9 5 c5 Tryd.underlying23 Tryd.underlying5 Tryd.underlying9 HR5.out.drew
          have e2 := run_bytes_str (P := Tryd.prog) w5.drew 23 9 5 (c - k) Tryd.underlying23 Tryd.underlying5 Tryd.underlying9 HR9'.out.drew
          rw [fbytes_len, HDL.out] at e1
          rw [HL9.out] at e2
          have hbq : ((strOf (fbytes t0 d)).toList == (strOf Q9).toList) = decide (fbytes t0 d = Q9) := by
            rw [Bool.eq_iff_iff, beq_iff_eq, decide_eq_true_iff]
            exact ⟨fun e => (strOf_inj (fbytes_is t0 HRD.out.1) HR9.out.1).1 (str_eq_of_list e), fun e => by rw [e]⟩
          obtain ⟨-, -, w7, w8⟩ := HW.out
          have z1 : (0 : Int) ≤ (k : Int) + (n : Int) + 9 := by omega
          have z2 : (k : Int) ≤ (k : Int) + (n : Int) + 9 := by omega
          have z4 : max ((k : Int) + (n : Int) + 9) 0 = (k : Int) + (n : Int) + 9 := by omega
          have z6 : ((k : Int) + (n : Int) + 9).toNat = k + n + 9 := by omega
          have z7 : k + n + 9 - k = 9 + n := by omega
          by_cases hq : fbytes t0 d = Q9
          · rw [decide_eq_true hq] at hbq
            go_wp2
            refine wp_region_held_drew (S := (fun _ => True)) (by kernel_rfl) (by (try dsimp only); try trivial) (fun hHeld => ?_)
            refine wpAnyH_take (i := 0) (v := ?_) rfl (by kernel_rfl) (by kernel_rfl) (by kernel_rfl) (fun _ _ _ h => h) (Or.inl ⟨by rfl, ?_⟩) (by assumption) ?_
            rotate_left
            · (intro w hSw; (try dsimp only at hSw); go_simp; try with_reducible rfl)
            try simp only [Act.put, List.getElem_toArray, List.getElem_cons_zero, List.getElem_cons_succ, List.setIfInBounds_toArray, List.set_cons_zero, List.set_cons_succ]
            refine wpAnyH_take (i := 2) (v := ?_) rfl (by kernel_rfl) (by kernel_rfl) (by kernel_rfl) (fun _ _ _ h => h) (Or.inl ⟨by rfl, ?_⟩) (by assumption) ?_
            rotate_left
            · (intro w hSw; (try dsimp only at hSw); go_simp; try with_reducible rfl)
            try simp only [Act.put, List.getElem_toArray, List.getElem_cons_zero, List.getElem_cons_succ, List.setIfInBounds_toArray, List.set_cons_zero, List.set_cons_succ]
            refine wpAnyH_take (i := 3) (v := ?_) rfl (by kernel_rfl) (by kernel_rfl) (by kernel_rfl) (fun _ _ _ h => h) (Or.inl ⟨by rfl, ?_⟩) (by assumption) ?_
            rotate_left
            · (intro w hSw; (try dsimp only at hSw); go_simp; try with_reducible rfl)
            try simp only [Act.put, List.getElem_toArray, List.getElem_cons_zero, List.getElem_cons_succ, List.setIfInBounds_toArray, List.set_cons_zero, List.set_cons_succ]
            refine wpAnyH_take (i := 4) (v := ?_) rfl (by kernel_rfl) (by kernel_rfl) (by kernel_rfl) (fun _ _ _ h => h) (Or.inl ⟨by rfl, ?_⟩) (by assumption) ?_
            rotate_left
            · (intro w hSw; (try dsimp only at hSw); go_simp; try with_reducible rfl)
            try simp only [Act.put, List.getElem_toArray, List.getElem_cons_zero, List.getElem_cons_succ, List.setIfInBounds_toArray, List.set_cons_zero, List.set_cons_succ]
            refine wpAnyH_take (i := 5) (v := ?_) rfl (by kernel_rfl) (by kernel_rfl) (by kernel_rfl) (fun _ _ _ h => h) (Or.inl ⟨by rfl, ?_⟩) (by assumption) ?_
            rotate_left
            · (intro w hSw; (try dsimp only at hSw); go_simp; try with_reducible rfl)
            try simp only [Act.put, List.getElem_toArray, List.getElem_cons_zero, List.getElem_cons_succ, List.setIfInBounds_toArray, List.set_cons_zero, List.set_cons_succ]
            refine wpAnyH_take (i := 6) (v := ?_) rfl (by kernel_rfl) (by kernel_rfl) (by kernel_rfl) (fun _ _ _ h => h) (Or.inl ⟨by rfl, ?_⟩) (by assumption) ?_
            rotate_left
            · (intro w hSw; (try dsimp only at hSw); go_simp; try with_reducible rfl)
            try simp only [Act.put, List.getElem_toArray, List.getElem_cons_zero, List.getElem_cons_succ, List.setIfInBounds_toArray, List.set_cons_zero, List.set_cons_succ]
            refine wpAnyH_take (i := 7) (v := ?_) rfl (by kernel_rfl) (by kernel_rfl) (by kernel_rfl) (fun _ _ _ h => h) (Or.inl ⟨by rfl, ?_⟩) (by assumption) ?_
            rotate_left
            · (intro w hSw; (try dsimp only at hSw); go_simp; try with_reducible rfl)
            try simp only [Act.put, List.getElem_toArray, List.getElem_cons_zero, List.getElem_cons_succ, List.setIfInBounds_toArray, List.set_cons_zero, List.set_cons_succ]
            refine wpAnyH_take (i := 8) (v := ?_) rfl (by kernel_rfl) (by kernel_rfl) (by kernel_rfl) (fun _ _ _ h => h) (Or.inl ⟨by rfl, ?_⟩) (by assumption) ?_
            rotate_left
            · (intro w hSw; (try dsimp only at hSw); go_simp; try with_reducible rfl)
            try simp only [Act.put, List.getElem_toArray, List.getElem_cons_zero, List.getElem_cons_succ, List.setIfInBounds_toArray, List.set_cons_zero, List.set_cons_succ]
            refine wpAnyH_ready (rs := [1, 9]) (by kernel_rfl) (by simp) ?_
            refine AllReadyH.cons rfl (fun K hK => ?_) ?_
            · go_simp
              refine hK.out _ _ (by (try dsimp only); try trivial) (fun hHeld => ?_)
              clear hK K
              try simp only [Act.put, List.getElem_toArray, List.getElem_cons_zero, List.getElem_cons_succ, List.setIfInBounds_toArray, List.set_cons_zero, List.set_cons_succ]
              refine wpAnyH_ready (rs := [9]) (by kernel_rfl) (by simp) ?_
              refine AllReadyH.cons rfl (fun K hK => ?_) AllReadyH.nil
              go_simp
              refine hK.out _ _ (by (try dsimp only); try trivial) (fun hHeld => ?_)
              clear hK K
              try simp only [Act.put, List.getElem_toArray, List.getElem_cons_zero, List.getElem_cons_succ, List.setIfInBounds_toArray, List.set_cons_zero, List.set_cons_succ]
              refine wpAnyH_take (i := 10) (v := ?_) rfl (by kernel_rfl) (by kernel_rfl) (by kernel_rfl) (fun _ _ _ h => h) (Or.inl ⟨by rfl, ?_⟩) (by assumption) ?_
              rotate_left
              · (intro w hSw; (try dsimp only at hSw); go_simp; try with_reducible rfl)
              try simp only [Act.put, List.getElem_toArray, List.getElem_cons_zero, List.getElem_cons_succ, List.setIfInBounds_toArray, List.set_cons_zero, List.set_cons_succ]
              refine wpAnyH_done (by kernel_rfl) ?_ _
              obtain ⟨ii, zz, hi0, hz0, hz1, hz2, hz3⟩ := row_info fr_info
              have hfs0 := (H6.out.drop.drop.drew).swap
              have hfs : St Zf [FsA (.slice Av X.length cv) X, ObA 5 (.slice A2 d.length c2) d] w w5.drew := by
                rw [HDL.out]
                exact hfs0
              have HFS := Lib.hid hfs
              have HROW := Lib.hid (St.flat hfs).ow
              have hq2 : (X.length + 1) * 32 ≤ 140737488355328 := HX32.out
              have HY := Lib.hid (HYES.out hq A2 c2)
              have hnx : (k : Int) + ((n : Int) + 9) ≤ 1099511627776 := by have := HNN.out; omega
              have HKN : Hid (k + (9 + n) ≤ L) := Lib.hid (by have := HNN.out; have := HKL.out; omega)
              have HCEQ : Hid (frF (⟨t0, d, A2, c2⟩ : Fq) = [.int .i64 (t0 : Int), .slice A2 n c2]) := Lib.hid (by simp only [frF, HDL.out])
              clear hfs hfs0 e1 e2 hbq HEND HPE HWI HB1 HB2 HSB HCopy w7 w8 z1 z2 z4 z6 z7 hq HR9' HR5
              go_wp2_with (at_builtin; refine wpList_append_row1 w5.drew rfl _ _ 35 rfl 25 ii zz 2 32 Tryd.underlying35 hi0 hz0 hz1 hz2 hz3 (by decide) (by decide) (.slice Av X.length cv) X.length _ (by rfl) HROW.out #[.int .i64 (t0 : Int), .slice A2 n c2] rfl (HCEQ.out ▸ frF_row.one ⟨t0, d, A2, c2⟩) rfl (by rfl) hq2 ?_; intro v' w' ho hg ha; obtain ⟨g', cp', rfl⟩ := ownsRow_succ ho; have hs := HFS.out.snocFs (q := ⟨t0, d, A2, c2⟩) _ (by rw [HCEQ.out]; exact ho) hg ha; have HS := Lib.hid hs; clear hs ho hg ha)
              go_roundw
              case rel => exact ⟨k + (9 + n), X ++ [(⟨t0, d, A2, c2⟩ : Fq)], HKN.out, by go_num, HY.out.1, HY.out.2, HS.out⟩
              case measure =>
                have := HKN.out
                have := HKL.out
                simp [intOf]
                omega
            refine AllReadyH.cons rfl (fun K hK => ?_) AllReadyH.nil
            go_simp
            refine hK.out _ _ (by (try dsimp only); try trivial) (fun hHeld => ?_)
            clear hK K
            try simp only [Act.put, List.getElem_toArray, List.getElem_cons_zero, List.getElem_cons_succ, List.setIfInBounds_toArray, List.set_cons_zero, List.set_cons_succ]
            refine wpAnyH_ready (rs := [1]) (by kernel_rfl) (by simp) ?_
            refine AllReadyH.cons rfl (fun K hK => ?_) AllReadyH.nil
            go_simp
            refine hK.out _ _ (by (try dsimp only); try trivial) (fun hHeld => ?_)
            clear hK K
            try simp only [Act.put, List.getElem_toArray, List.getElem_cons_zero, List.getElem_cons_succ, List.setIfInBounds_toArray, List.set_cons_zero, List.set_cons_succ]
            refine wpAnyH_take (i := 10) (v := ?_) rfl (by kernel_rfl) (by kernel_rfl) (by kernel_rfl) (fun _ _ _ h => h) (Or.inl ⟨by rfl, ?_⟩) (by assumption) ?_
            rotate_left
            · (intro w hSw; (try dsimp only at hSw); go_simp; try with_reducible rfl)
            try simp only [Act.put, List.getElem_toArray, List.getElem_cons_zero, List.getElem_cons_succ, List.setIfInBounds_toArray, List.set_cons_zero, List.set_cons_succ]
            refine wpAnyH_done (by kernel_rfl) ?_ _
            obtain ⟨ii, zz, hi0, hz0, hz1, hz2, hz3⟩ := row_info fr_info
            have hfs0 := (H6.out.drop.drop.drew).swap
            have hfs : St Zf [FsA (.slice Av X.length cv) X, ObA 5 (.slice A2 d.length c2) d] w w5.drew := by
              rw [HDL.out]
              exact hfs0
            have HFS := Lib.hid hfs
            have HROW := Lib.hid (St.flat hfs).ow
            have hq2 : (X.length + 1) * 32 ≤ 140737488355328 := HX32.out
            have HY := Lib.hid (HYES.out hq A2 c2)
            have hnx : (k : Int) + ((n : Int) + 9) ≤ 1099511627776 := by have := HNN.out; omega
            have HKN : Hid (k + (9 + n) ≤ L) := Lib.hid (by have := HNN.out; have := HKL.out; omega)
            have HCEQ : Hid (frF (⟨t0, d, A2, c2⟩ : Fq) = [.int .i64 (t0 : Int), .slice A2 n c2]) := Lib.hid (by simp only [frF, HDL.out])
            clear hfs hfs0 e1 e2 hbq HEND HPE HWI HB1 HB2 HSB HCopy w7 w8 z1 z2 z4 z6 z7 hq HR9' HR5
            go_wp2_with (at_builtin; refine wpList_append_row1 w5.drew rfl _ _ 35 rfl 25 ii zz 2 32 Tryd.underlying35 hi0 hz0 hz1 hz2 hz3 (by decide) (by decide) (.slice Av X.length cv) X.length _ (by rfl) HROW.out #[.int .i64 (t0 : Int), .slice A2 n c2] rfl (HCEQ.out ▸ frF_row.one ⟨t0, d, A2, c2⟩) rfl (by rfl) hq2 ?_; intro v' w' ho hg ha; obtain ⟨g', cp', rfl⟩ := ownsRow_succ ho; have hs := HFS.out.snocFs (q := ⟨t0, d, A2, c2⟩) _ (by rw [HCEQ.out]; exact ho) hg ha; have HS := Lib.hid hs; clear hs ho hg ha)
            go_roundw
            case rel => exact ⟨k + (9 + n), X ++ [(⟨t0, d, A2, c2⟩ : Fq)], HKN.out, by go_num, HY.out.1, HY.out.2, HS.out⟩
            case measure =>
              have := HKN.out
              have := HKL.out
              simp [intOf]
              omega
          · rw [decide_eq_false hq] at hbq
            go_wp2
            refine wp_region_held_drew (S := (fun _ => True)) (by kernel_rfl) (by (try dsimp only); try trivial) (fun hHeld => ?_)
            refine wpAnyH_take (i := 0) (v := ?_) rfl (by kernel_rfl) (by kernel_rfl) (by kernel_rfl) (fun _ _ _ h => h) (Or.inl ⟨by rfl, ?_⟩) (by assumption) ?_
            rotate_left
            · (intro w hSw; (try dsimp only at hSw); go_simp; try with_reducible rfl)
            try simp only [Act.put, List.getElem_toArray, List.getElem_cons_zero, List.getElem_cons_succ, List.setIfInBounds_toArray, List.set_cons_zero, List.set_cons_succ]
            refine wpAnyH_take (i := 2) (v := ?_) rfl (by kernel_rfl) (by kernel_rfl) (by kernel_rfl) (fun _ _ _ h => h) (Or.inl ⟨by rfl, ?_⟩) (by assumption) ?_
            rotate_left
            · (intro w hSw; (try dsimp only at hSw); go_simp; try with_reducible rfl)
            try simp only [Act.put, List.getElem_toArray, List.getElem_cons_zero, List.getElem_cons_succ, List.setIfInBounds_toArray, List.set_cons_zero, List.set_cons_succ]
            refine wpAnyH_take (i := 3) (v := ?_) rfl (by kernel_rfl) (by kernel_rfl) (by kernel_rfl) (fun _ _ _ h => h) (Or.inl ⟨by rfl, ?_⟩) (by assumption) ?_
            rotate_left
            · (intro w hSw; (try dsimp only at hSw); go_simp; try with_reducible rfl)
            try simp only [Act.put, List.getElem_toArray, List.getElem_cons_zero, List.getElem_cons_succ, List.setIfInBounds_toArray, List.set_cons_zero, List.set_cons_succ]
            refine wpAnyH_take (i := 4) (v := ?_) rfl (by kernel_rfl) (by kernel_rfl) (by kernel_rfl) (fun _ _ _ h => h) (Or.inl ⟨by rfl, ?_⟩) (by assumption) ?_
            rotate_left
            · (intro w hSw; (try dsimp only at hSw); go_simp; try with_reducible rfl)
            try simp only [Act.put, List.getElem_toArray, List.getElem_cons_zero, List.getElem_cons_succ, List.setIfInBounds_toArray, List.set_cons_zero, List.set_cons_succ]
            refine wpAnyH_take (i := 5) (v := ?_) rfl (by kernel_rfl) (by kernel_rfl) (by kernel_rfl) (fun _ _ _ h => h) (Or.inl ⟨by rfl, ?_⟩) (by assumption) ?_
            rotate_left
            · (intro w hSw; (try dsimp only at hSw); go_simp; try with_reducible rfl)
            try simp only [Act.put, List.getElem_toArray, List.getElem_cons_zero, List.getElem_cons_succ, List.setIfInBounds_toArray, List.set_cons_zero, List.set_cons_succ]
            refine wpAnyH_take (i := 6) (v := ?_) rfl (by kernel_rfl) (by kernel_rfl) (by kernel_rfl) (fun _ _ _ h => h) (Or.inl ⟨by rfl, ?_⟩) (by assumption) ?_
            rotate_left
            · (intro w hSw; (try dsimp only at hSw); go_simp; try with_reducible rfl)
            try simp only [Act.put, List.getElem_toArray, List.getElem_cons_zero, List.getElem_cons_succ, List.setIfInBounds_toArray, List.set_cons_zero, List.set_cons_succ]
            refine wpAnyH_take (i := 7) (v := ?_) rfl (by kernel_rfl) (by kernel_rfl) (by kernel_rfl) (fun _ _ _ h => h) (Or.inl ⟨by rfl, ?_⟩) (by assumption) ?_
            rotate_left
            · (intro w hSw; (try dsimp only at hSw); go_simp; try with_reducible rfl)
            try simp only [Act.put, List.getElem_toArray, List.getElem_cons_zero, List.getElem_cons_succ, List.setIfInBounds_toArray, List.set_cons_zero, List.set_cons_succ]
            refine wpAnyH_take (i := 8) (v := ?_) rfl (by kernel_rfl) (by kernel_rfl) (by kernel_rfl) (fun _ _ _ h => h) (Or.inl ⟨by rfl, ?_⟩) (by assumption) ?_
            rotate_left
            · (intro w hSw; (try dsimp only at hSw); go_simp; try with_reducible rfl)
            try simp only [Act.put, List.getElem_toArray, List.getElem_cons_zero, List.getElem_cons_succ, List.setIfInBounds_toArray, List.set_cons_zero, List.set_cons_succ]
            refine wpAnyH_ready (rs := [1, 9]) (by kernel_rfl) (by simp) ?_
            refine AllReadyH.cons rfl (fun K hK => ?_) ?_
            · go_simp
              refine hK.out _ _ (by (try dsimp only); try trivial) (fun hHeld => ?_)
              clear hK K
              try simp only [Act.put, List.getElem_toArray, List.getElem_cons_zero, List.getElem_cons_succ, List.setIfInBounds_toArray, List.set_cons_zero, List.set_cons_succ]
              refine wpAnyH_ready (rs := [9]) (by kernel_rfl) (by simp) ?_
              refine AllReadyH.cons rfl (fun K hK => ?_) AllReadyH.nil
              go_simp
              refine hK.out _ _ (by (try dsimp only); try trivial) (fun hHeld => ?_)
              clear hK K
              try simp only [Act.put, List.getElem_toArray, List.getElem_cons_zero, List.getElem_cons_succ, List.setIfInBounds_toArray, List.set_cons_zero, List.set_cons_succ]
              refine wpAnyH_take (i := 10) (v := ?_) rfl (by kernel_rfl) (by kernel_rfl) (by kernel_rfl) (fun _ _ _ h => h) (Or.inl ⟨by rfl, ?_⟩) (by assumption) ?_
              rotate_left
              · (intro w hSw; (try dsimp only at hSw); go_simp; try with_reducible rfl)
              try simp only [Act.put, List.getElem_toArray, List.getElem_cons_zero, List.getElem_cons_succ, List.setIfInBounds_toArray, List.set_cons_zero, List.set_cons_succ]
              refine wpAnyH_done (by kernel_rfl) ?_ _
              go_wp2
              refine bodyPost_ret (results_tmp3 rfl _ _ _) rfl ?_
              exact HENO.out hq _ H6.out.drop.drop.drop.drew
            refine AllReadyH.cons rfl (fun K hK => ?_) AllReadyH.nil
            go_simp
            refine hK.out _ _ (by (try dsimp only); try trivial) (fun hHeld => ?_)
            clear hK K
            try simp only [Act.put, List.getElem_toArray, List.getElem_cons_zero, List.getElem_cons_succ, List.setIfInBounds_toArray, List.set_cons_zero, List.set_cons_succ]
            refine wpAnyH_ready (rs := [1]) (by kernel_rfl) (by simp) ?_
            refine AllReadyH.cons rfl (fun K hK => ?_) AllReadyH.nil
            go_simp
            refine hK.out _ _ (by (try dsimp only); try trivial) (fun hHeld => ?_)
            clear hK K
            try simp only [Act.put, List.getElem_toArray, List.getElem_cons_zero, List.getElem_cons_succ, List.setIfInBounds_toArray, List.set_cons_zero, List.set_cons_succ]
            refine wpAnyH_take (i := 10) (v := ?_) rfl (by kernel_rfl) (by kernel_rfl) (by kernel_rfl) (fun _ _ _ h => h) (Or.inl ⟨by rfl, ?_⟩) (by assumption) ?_
            rotate_left
            · (intro w hSw; (try dsimp only at hSw); go_simp; try with_reducible rfl)
            try simp only [Act.put, List.getElem_toArray, List.getElem_cons_zero, List.getElem_cons_succ, List.setIfInBounds_toArray, List.set_cons_zero, List.set_cons_succ]
            refine wpAnyH_done (by kernel_rfl) ?_ _
            go_wp2
            refine bodyPost_ret (results_tmp3 rfl _ _ _) rfl ?_
            exact HENO.out hq _ H6.out.drop.drop.drop.drew
          -- END

theorem frs_size (b : List Nat) : szF (frs b).1 ≤ b.length ∧ ((frs b).2 = 0 ↔ szF (frs b).1 = b.length) := by
  induction hn : b.length using Nat.strongRecOn generalizing b with
  | ind n ih =>
    rw [frs]
    by_cases h0 : b.length = 0
    · rw [if_pos h0]
      exact ⟨Nat.zero_le _, by show (0 : Int) = 0 ↔ 0 = n; omega⟩
    · rw [if_neg h0]
      by_cases he : firstErr b = 0
      · rw [if_neg (by simpa using he)]
        obtain ⟨h1, h2, -⟩ := first_long he
        have h3 := ih (b.drop (9 + frN b)).length (by rw [List.length_drop]; omega) _ rfl
        rw [List.length_drop] at h3
        have e : szF ((frT b, frD b) :: (frs (b.drop (9 + frN b))).1) = (9 + frN b) + szF (frs (b.drop (9 + frN b))).1 := by
          unfold szF
          rw [List.map_cons, List.sum_cons]
          show 9 + (frD b).length + _ = _
          rw [h2]
        refine ⟨by rw [e]; omega, ?_⟩
        show (frs (b.drop (9 + frN b))).2 = 0 ↔ _
        rw [h3.2, e]
        omega
      · rw [if_pos he]
        refine ⟨Nat.zero_le _, ?_⟩
        show firstErr b = 0 ↔ 0 = n
        constructor
        · intro h
          exact absurd h he
        · intro h
          omega
def RSplitW (b : List Nat) (w : World) (e : Ending) (w' : World) : Prop :=
  ∃ v X, e = .returned (.tuple #[v, .int .i64 (frs b).2]) ∧ St Zf [FsA v X] w w' ∧ X.map Fq.f = if (frs b).2 = 0 then (frs b).1 else []
set_option maxHeartbeats 1000000 in
theorem refSplit_any (A : Option Addr) (c B : Nat) (b : List Nat) (w : World) (hr : RB w B A b) (hB : B ≤ w.heap.size) (hl : b.length ≤ c) (hc : c ≤ maxLen) (hbm : b.length ≤ 1099511627776) :
    Calls Tryd.prog 18 #[.slice A b.length c] w (RSplitW b w) := by
  have HF := Lib.hid (refFrames_any A c B b w hr hB hl hc hbm)
  obtain ⟨s1, s2⟩ := frs_size b
  obtain ⟨L, hL⟩ : ∃ L, b.length = L := ⟨_, rfl⟩
  have hLm : L ≤ 1099511627776 := by rw [← hL]; exact hbm
  rw [hL] at s1 s2 HF ⊢
  obtain ⟨z, hz⟩ : ∃ z, szF (frs b).1 = z := ⟨_, rfl⟩
  obtain ⟨ee, hee⟩ : ∃ ee, (frs b).2 = ee := ⟨_, rfl⟩
  have HF2 : Hid (Calls Tryd.prog 21 #[.slice A L c] w fun e w' => ∃ v X, e = .returned (.tuple #[v, .int .i64 (z : Int), .int .i64 (if ee = 10 then 0 else ee)]) ∧ St Zf [FsA v X] w w' ∧ X.map Fq.f = (frs b).1) := Lib.hid (by
    refine HF.out.mono ?_
    rintro e w' ⟨v, X, rfl, h1, h2⟩
    refine ⟨v, X, ?_, h1, h2⟩
    unfold refErr
    rw [hz, hee])
  rw [hz, hee] at s2
  rw [hz] at s1
  unfold RSplitW
  rw [hee]
  clear hr hB hl hbm hL HF hz hee
  by_cases h0 : ee = 0
  · have hzL : ¬ (z : Int) < (L : Int) := by have := s2.1 h0; omega
    subst h0
    have HE := Lib.hid HF2.out
    simp only [show ¬ ((0 : Int) = 10) by decide, if_false] at HE
    clear HF2 s1 s2
    go_enter Tryd.func18, Tryd.ntmps18
    go_wp2_with fail
    refine HE.out.mono ?_
    rintro e w1 ⟨v, X, rfl, h1, h2⟩
    have H1 := Lib.hid h1
    have H2 := Lib.hid h2
    clear h1 h2 HE
    go_wp2_with fail
    go_ret2
    exact ⟨v, rfl, X, H1.out, H2.out⟩
  · have hzL : (z : Int) < (L : Int) := by
      have : ¬ z = L := fun h => h0 (s2.2 h)
      omega
    rw [if_neg h0]
    have HZ := Lib.hid h0
    by_cases h10 : ee = 10
    · subst h10
      have HE := Lib.hid HF2.out
      simp only [if_true] at HE
      clear HF2 s1 s2 h0
      go_enter Tryd.func18, Tryd.ntmps18
      go_wp2_with fail
      refine HE.out.mono ?_
      rintro e w1 ⟨v, X, rfl, h1, h2⟩
      have H1 : Hid (St Zf [FsA (.slice (some ⟨w1.heap.size, 0, none⟩) 0 0) []] w (w1.alloc (.cells #[] 25))) := Lib.hid (St.pack (l' := [_, _]) ((h1.drop.nilSep).newNilOw frF 2 25 rfl))
      clear h1 h2 HE
      go_wp2_with fail
      go_ret2
      exact ⟨_, [], rfl, H1.out, rfl⟩
    · have HE := Lib.hid HF2.out
      rw [if_neg h10] at HE
      have hne : ¬ ee = 0 := h0
      clear HF2 s1 s2 h0 h10
      go_enter Tryd.func18, Tryd.ntmps18
      go_wp2_with fail
      refine HE.out.mono ?_
      rintro e w1 ⟨v, X, rfl, h1, h2⟩
      have H1 : Hid (St Zf [FsA (.slice (some ⟨w1.heap.size, 0, none⟩) 0 0) []] w (w1.alloc (.cells #[] 25))) := Lib.hid (St.pack (l' := [_, _]) ((h1.drop.nilSep).newNilOw frF 2 25 rfl))
      clear h1 h2 HE
      go_wp2_with fail
      go_ret2
      exact ⟨_, [], rfl, H1.out, rfl⟩

end Go.Proofs.YtkdlehekignnhaaDoor

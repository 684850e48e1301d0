/- slots: packsInto; Unpack. -/
import Derived.Test.YtgpahglmhnnobaaGreatDoorSlSort
import Derived.Test.YtgpahglmhnnobaaGreatDoorSlPure3
import Derived.Test.YtgpahglmhnnobaaGreatDoorSameS
namespace Go.Proofs.YtgpahglmhnnobaaGreatDoor
open Go.RowKit
set_option linter.unusedVariables false
set_option linter.unusedSimpArgs false

theorem Equal_any (A A' : Option Addr) (cap cap' B B' : Nat) (xs ys : List Nat) (w : World) (h : RB w B A xs) (h' : RB w B' A' ys) (hl : xs.length ≤ maxLen) (hl' : ys.length ≤ maxLen) :
    Calls Tryz.prog 58 #[.slice A xs.length cap, .slice A' ys.length cap'] w fun e w' => e = .returned (.bool (decide (xs = ys))) ∧ w = w' := by
  have h1 := run_bytes_str (P := Tryz.prog) w 25 9 5 cap Tryz.underlying25 Tryz.underlying5 Tryz.underlying9 h
  have h2 := run_bytes_str (P := Tryz.prog) w 25 9 5 cap' Tryz.underlying25 Tryz.underlying5 Tryz.underlying9 h'
  have hb : ((strOf xs).toList == (strOf ys).toList) = decide (xs = ys) := by
    rw [Bool.eq_iff_iff, beq_iff_eq, decide_eq_true_iff]
    exact ⟨fun e => (strOf_inj h.1 h'.1).1 (str_eq_of_list e), fun e => by rw [e]⟩
  go_enter Tryz.func58, Tryz.ntmps58
  go_wp2
  go_ret
  exact ⟨rfl, rfl⟩
/-- append(s, xs...) of a row that is the call's own -/
theorem wpList_append_rows {P : Program} (w : World) {ops : Array Oper} {rest : List Oper} {o : Oper} {a : Act} {Q : Exit → Act → World → Prop} (hgd : o.guard = none) (s x : Operand) (t : TypeId)
    (ho : o.op = .call { callee := .builtin .append, args := #[s, x], argTypes := #[t, t] })
    (e : TypeId) (i : TypeInfo) (z : Value) (size bytes : Nat) (ht : P.underlying t = some (.slice e)) (hi : P.info? e = some i) (hz : i.zero = some z) (hsize : i.size = size) (hby : i.bytes = bytes) (hzs : z.cells.size = size) (hsz : 0 < size) (hb0 : 0 < bytes)
    (v : Value) (n : Nat) (xs : List Value) (hs : a.eval s = v) (hown : w.ownsRow 0 e size v n xs) (v2 : Value) (m : Nat) (ys : List Value) (hx : a.eval x = v2) (hown2 : w.ownsRow 0 e size v2 m ys) (h1 : ∀ u ∈ ys, u.oneCell' = true)
    (hbytes : (n + m) * bytes ≤ 140737488355328)
    (h : ∀ v' w', w'.ownsRow 0 e size v' (n + m) (xs ++ ys) → w.grownBy w' v.ownBlock → (v'.ownBlock = v.ownBlock ∨ v'.ownBlock = some w.heap.size) → wpList P ops Q rest (a.put o.dst v') w') :
    wpList P ops Q (o :: rest) a w := by
  have h64 : n + m ≤ (n + m) * bytes := Nat.le_mul_of_pos_right _ hb0
  refine wpList_plain hgd fun K hK => ?_
  rcases hown2.2 with ⟨hv2, hm0⟩ | ⟨g, cap, cur, hv2, _, hg, hnc, _, _, htk⟩
  · have hy : ys = [] := List.length_eq_zero_iff.1 (by rw [hown2.1, hm0, Nat.zero_mul])
    subst hv2 hm0 hy
    have hrun : (Builtin.append_ #[t, t] o.type #[v, .slice none 0 0]).run P w = .ok v w := by
      rcases hown.2 with ⟨rfl, _⟩ | ⟨g, cap, cur, rfl, _, _, hnc, _⟩
      · simp [Builtin.append_, run_underlying ht, sizeOf, typeInfo, hi, Builtin.lenOf, Builtin.firstCells]
      · simp [Builtin.append_, run_underlying ht, sizeOf, typeInfo, hi, Builtin.lenOf, Builtin.firstCells, hnc, storeCells]
    unfold Oper.wp execOp
    simp only [ho, resolve, invoke, builtin, Sem.run_bind, Sem.run_pure, Result.andThen_ok, List.map_toArray, List.map_cons, List.map_nil, hs, hx, hrun]
    exact hK _ _ (h v w (by simpa using hown) (World.grownBy.refl w _) (.inl rfl))
  · have hnews : ∀ j u, ys[j]? = some u → w.cell? ((⟨g, 0, none⟩ : Addr).add j) = some u := by
      intro j u hu
      have hlt := (List.getElem?_eq_some_iff.1 hu).1
      rw [hown2.1] at hlt
      refine World.news_of_block hg j u ?_
      rw [← htk, List.getElem?_take_of_lt hlt] at hu
      exact hu
    obtain ⟨v', w', hrun, h2, h3, _, h5⟩ := run_append_own_at (P := P) w 0 t o.type e i z size bytes ht hi hz hsize hby hzs hsz v n xs hown ⟨g, 0, none⟩ m cap ys hown2.1 hnews h1 (by simp only [maxLen]; omega) hbytes (Nat.zero_le _)
    unfold Oper.wp execOp
    simp only [ho, resolve, invoke, builtin, Sem.run_bind, Sem.run_pure, Result.andThen_ok, List.map_toArray, List.map_cons, List.map_nil, hs, hx, hv2, hrun]
    exact hK _ _ (h v' w' h2 h3 h5)
theorem Sep.merge {a b l : List Ass} {w : World} {F : Fp} (h : Sep (Sep a :: Sep b :: l) w F) : Sep (Sep (a ++ b) :: l) w F := by
  obtain ⟨G, H, h1, ⟨G2, H2, k1, k2, d2, rfl⟩, d1, rfl⟩ := h
  exact ⟨fun k => G k ∨ G2 k, H2, h1.append k1 (fun k hk h2 => d1 k hk (.inl h2)), k2, (fun k hk h2 => hk.elim (fun q => d1 k q (.inr h2)) (fun q => d2 k q h2)), by funext k; simp [or_assoc]⟩
theorem St.joinKx {S : Fp} {l : List Ass} {w0 w w' : World} [Stable (Sep l)] {v v' v2 : Value} {X Y : List (Kv × Pl)} (h : St S (KxA v X :: KxA v2 Y :: l) w0 w)
    (ho : w'.ownsRow 0 44 6 v' (X.length + Y.length) (X.flatMap pcs ++ Y.flatMap pcs)) (hg : w.grownBy w' v.ownBlock) (ha : v'.ownBlock = v.ownBlock ∨ v'.ownBlock = some w.heap.size) : St S (KxA v' (X ++ Y) :: l) w0 w' := by
  have h1 : St S (RwA 44 6 v X.length (X.flatMap pcs) :: Sep (X.map ppsA) :: KxA v2 Y :: l) w0 w := St.flat (l' := [_, _]) h
  have h2 := h1.grewRw (v' := v') (n' := (X ++ Y).length) (cs' := (X ++ Y).flatMap pcs) (by simpa using ho) hg ha (Nat.le_refl _)
  have h3 : St S (RwA 44 6 v2 Y.length (Y.flatMap pcs) :: Sep (Y.map ppsA) :: RwA 44 6 v' (X ++ Y).length ((X ++ Y).flatMap pcs) :: Sep (X.map ppsA) :: l) w0 w' := St.flat (l' := [_, _]) h2.bring2
  have h4 := (h3.drop.bring2).map fun F hF => Sep.merge hF
  rw [← List.map_append] at h4
  exact St.pack (l' := [_, _]) h4.swap
/-- what is read of a list that is the call's own -/
theorem St.kxR {S : Fp} {l : List Ass} {w0 w : World} {A : Option Addr} {n c : Nat} {X : List (Kv × Pl)} (h : St S (KxA (.slice A n c) X :: l) w0 w) (hok : ∀ q ∈ X, KvOk q.1) : n = X.length ∧ KvsR w w.heap.size A (X.map (·.1)) := by
  obtain ⟨F, hF⟩ := h.head
  have hk : KvsA (.slice A n c) (X.map (·.1)) w F := ⟨X, ⟨rfl, fun p hp => by
    obtain ⟨q, hq, rfl⟩ := List.mem_map.1 hp
    exact hok q hq⟩, by rw [List.length_map]; exact hF⟩
  obtain ⟨A1, c1, e, hr⟩ := hk.reads
  simp only [Value.slice.injEq] at e
  obtain ⟨rfl, e2, -⟩ := e
  exact ⟨by rw [e2, List.length_map], hr⟩
theorem fits_is (L : List Kv) (S O : List Nat) {E : Int} {PS PO : List Nat} (hE : E = packE L ((S.length / 8 : Nat) : Int)) (hS : PS = packS L ((S.length / 8 : Nat) : Int)) (hO : PO = packO L ((S.length / 8 : Nat) : Int)) :
    fitsB L S O = (decide (E = 0) && decide (PS = S) && decide (PO = O)) := by
  subst hE hS hO
  rfl
set_option maxRecDepth 100000 in
set_option maxHeartbeats 1000000 in
theorem packsInto_any {A0 As Ao : Option Addr} {c0 cs co B0 B : Nat} {L : List Kv} {S O : List Nat} (w : World) (hr : KvsR w B0 A0 L) (hB0 : B0 ≤ w.heap.size) (hl : L.length ≤ 1000) (rs : RB w B As S) (ro : RB w B Ao O) (hB : B ≤ w.heap.size) (hs : S.length ≤ 128) (ho : O.length ≤ 140737488355328) :
    Calls Tryz.prog 32 #[.slice A0 L.length c0, .slice As S.length cs, .slice Ao O.length co] w fun e w' => e = .returned (.bool (fitsB L S O)) ∧ Below w.heap.size w w' := by
  have HP := Lib.hid (Pack_any A0 c0 B0 L ((S.length / 8 : Nat) : Int) w hr hB0 (by omega))
  unfold PackW at HP
  have HRS : Hid (∀ w', Below w.heap.size w w' → RB w' B As S ∧ RB w' B Ao O) := Lib.hid fun w' hb => ⟨rs.below' hb hB, ro.below' hb hB⟩
  obtain ⟨E, HE⟩ : ∃ E, Hid (E = packE L ((S.length / 8 : Nat) : Int)) := ⟨_, Lib.hid rfl⟩
  obtain ⟨PS, HPS⟩ : ∃ PS, Hid (PS = packS L ((S.length / 8 : Nat) : Int)) := ⟨_, Lib.hid rfl⟩
  obtain ⟨PO, HPO⟩ : ∃ PO, Hid (PO = packO L ((S.length / 8 : Nat) : Int)) := ⟨_, Lib.hid rfl⟩
  have HF := Lib.hid (fits_is L S O HE.out HPS.out HPO.out)
  rw [← HE.out, ← HPS.out, ← HPO.out] at HP
  obtain ⟨R, HR⟩ : ∃ R, Hid (R = fitsB L S O) := ⟨_, Lib.hid rfl⟩
  rw [← HR.out]
  obtain ⟨n, HN⟩ : ∃ n, Hid (n = S.length) := ⟨_, Lib.hid rfl⟩
  obtain ⟨m, HM⟩ : ∃ m, Hid (m = O.length) := ⟨_, Lib.hid rfl⟩
  rw [← HN.out] at hs HP ⊢
  rw [← HM.out] at ho ⊢
  obtain ⟨q, HQ⟩ : ∃ q, Hid (q = n / 8) := ⟨_, Lib.hid rfl⟩
  rw [← HQ.out] at HP
  have hq : Int.tdiv (n : Int) 8 = (q : Int) := by rw [HQ.out, Int.tdiv_eq_ediv_of_nonneg (by omega)]; omega
  have hq16 : q ≤ 16 := by rw [HQ.out]; omega
  have hqw : wrap64 (q : Int) = (q : Int) := by unfold wrap64; omega
  have HL : Hid (n ≤ maxLen ∧ m ≤ maxLen) := Lib.hid (by unfold maxLen; omega)
  clear hr rs ro hl
  go_enter Tryz.func32, Tryz.ntmps32
  go_wp2_with fail
  refine HP.out.mono ?_
  rintro e w1 ⟨v, v', rfl, h1⟩
  obtain ⟨Av, cv, rfl, -, -, -, -⟩ := h1.ob.form
  obtain ⟨Aw, cw, rfl, -, -, -, -⟩ := h1.drop.ob.form
  obtain ⟨-, a1, a2, a3⟩ := h1.obR
  obtain ⟨-, b1, b2, b3⟩ := h1.drop.obR
  have hq1 := Equal_any Av As cv cs w1.heap.size B PS S w1 a3 (HRS.out w1 h1.bel).1 (Nat.le_trans a1 a2) (by rw [← HN.out]; exact HL.out.1)
  have hq2 := Equal_any Aw Ao cw co w1.heap.size B PO O w1 b3 (HRS.out w1 h1.bel).2 (Nat.le_trans b1 b2) (by rw [← HM.out]; exact HL.out.2)
  rw [← HN.out] at hq1
  rw [← HM.out] at hq2
  have HQ1 := Lib.hid hq1
  have HQ2 := Lib.hid hq2
  have HB1 := Lib.hid h1.bel
  clear h1 a1 a2 a3 b1 b2 b3 hq1 hq2 HP
  by_cases h0 : E = 0
  · subst h0
    by_cases h1 : PS = S
    · rw [decide_eq_true h1] at HQ1
      by_cases h2 : PO = O
      · rw [decide_eq_true h2] at HQ2
        have HV : Hid (R = true) := Lib.hid (by rw [HR.out, HF.out, decide_eq_true h1, decide_eq_true h2]; rfl)
        clear h1 h2
        go_wp2_with fail
        refine HQ1.out.mono ?_
        rintro e w2 ⟨rfl, rfl⟩
        go_wp2_with fail
        refine HQ2.out.mono ?_
        rintro e w2 ⟨rfl, rfl⟩
        go_wp2
        go_ret
        exact ⟨ret_bool HV.out.symm, HB1.out⟩
      · rw [decide_eq_false h2] at HQ2
        have HV : Hid (R = false) := Lib.hid (by rw [HR.out, HF.out, decide_eq_false h2, Bool.and_false])
        clear h1 h2
        go_wp2_with fail
        refine HQ1.out.mono ?_
        rintro e w2 ⟨rfl, rfl⟩
        go_wp2_with fail
        refine HQ2.out.mono ?_
        rintro e w2 ⟨rfl, rfl⟩
        go_wp2
        go_ret
        exact ⟨ret_bool HV.out.symm, HB1.out⟩
    · rw [decide_eq_false h1] at HQ1
      have HV : Hid (R = false) := Lib.hid (by rw [HR.out, HF.out, decide_eq_false h1, Bool.and_false, Bool.false_and])
      clear h1
      go_wp2_with fail
      refine HQ1.out.mono ?_
      rintro e w2 ⟨rfl, rfl⟩
      go_wp2
      go_ret
      exact ⟨ret_bool HV.out.symm, HB1.out⟩
  · have hb : (E == 0) = false := by simpa using h0
    have HV : Hid (R = false) := Lib.hid (by rw [HR.out, HF.out, decide_eq_false h0]; rfl)
    clear h0
    go_wp2
    go_ret
    exact ⟨ret_bool HV.out.symm, HB1.out⟩
set_option maxHeartbeats 400000 in
theorem readSlots_nil (w : World) (A : Option Addr) (c : Nat) : Calls Tryz.prog 27 #[.slice A 0 c] w (ReadW (some []) w) := by
  have HST : Hid (St Zf [KxA (.slice none 0 0) []] w w) := Lib.hid ((St.start Zf w).nilKx)
  go_enter Tryz.func27, Tryz.ntmps27
  go_wp2
  go_loopw [4, 5] (fun v i wr => v = .slice none 0 0 ∧ i = .int .i64 0 ∧ wr = w) (fun _ i _ => 0)
  case atStart => exact ⟨rfl, rfl, rfl⟩
  case round =>
    obtain ⟨rfl, rfl, rfl⟩ := hrel
    go_wp2
    go_ret2
    exact read_some rfl ⟨_, [], rfl, HST.out, rfl, fun q hq => nomatch hq⟩
theorem readSlots_gen {A : Option Addr} {cap B : Nat} {S : List Nat} (w : World) (h : RB w B A S) (hB : B ≤ w.heap.size) (h8 : S.length % 8 = 0) (hl : S.length ≤ 128) (hc : S.length ≤ cap) (hm : cap ≤ maxLen) :
    Calls Tryz.prog 27 #[.slice A S.length cap] w (ReadW (inS S) w) := by
  by_cases h0 : S.length = 0
  · have e : inS S = some [] := inS_nil h0
    rw [e]
    rw [h0]
    exact readSlots_nil w A cap
  · obtain ⟨ad, hA, _⟩ := h.2.2 (by omega)
    obtain ⟨b, off, hA2, _, _⟩ := h.all (by omega)
    rw [hA2] at h ⊢
    exact readSlots_any w h hB h8 hl hc hm
theorem St.addStL {S : Fp} {l : List Ass} {w0 w w' : World} {P : Ass} (h : St S l w0 w) [Stable (Sep l)] (k : St Zf [P] w w') : St S (P :: l) w0 w' := by
  have hb := k.bel
  obtain ⟨F, ⟨G, H, h1, h2, h3, rfl⟩, ho, hf⟩ := k
  exact h.add (F := G) hb h1 fun k hk => (hf k (.inl hk)).elim (fun h => h.elim) id
theorem St.addSts {S : Fp} {l l' : List Ass} {w0 w w' : World} (h : St S l w0 w) [Stable (Sep l)] [Stable (Sep l')] (k : St Zf l' w w') : St S (l' ++ l) w0 w' := by
  have hb := k.bel
  obtain ⟨F, h1, ho, hf⟩ := k
  exact (h.add (Q := Sep l') (F := F) hb h1 fun k hk => (hf k hk).elim (fun h => h.elim) id).flat
/-- what Unpack leaves -/
def UnpW (r : Int × List Kv) (w : World) (e : Ending) (w' : World) : Prop := ∃ v X, e = .returned (.tuple #[v, .int .i64 r.1]) ∧ St Zf [KxA v X] w w' ∧ X.map (·.1) = r.2 ∧ ∀ q ∈ X, KvOk q.1
theorem unp_no {r : Int × List Kv} {E : Int} {w w' : World} (h : r = (E, [])) (hb : Below w.heap.size w w') : UnpW r w (.returned (.tuple #[.slice none 0 0, .int .i64 E])) w' := by
  subst h
  exact ⟨_, [], rfl, ((St.start Zf w).below hb).nilKx, rfl, fun q hq => nomatch hq⟩
set_option maxRecDepth 100000 in
set_option maxHeartbeats 1000000 in
theorem Unpack_any {As Ao : Option Addr} {cs co B : Nat} {S O : List Nat} (w : World) (rs : RB w B As S) (ro : RB w B Ao O) (hB : B ≤ w.heap.size) (hcs : S.length ≤ cs) (hms : cs ≤ maxLen) (ho : O.length ≤ 140737488355328) :
    Calls Tryz.prog 13 #[.slice As S.length cs, .slice Ao O.length co] w (UnpW (unpR S O) w) := by
  obtain ⟨i0, zz, hi, hz, hs, hby, hzs⟩ := row_info kv_info
  obtain ⟨n, HN⟩ : ∃ n, Hid (n = S.length) := ⟨_, Lib.hid rfl⟩
  obtain ⟨o, HO⟩ : ∃ o, Hid (o = O.length) := ⟨_, Lib.hid rfl⟩
  obtain ⟨m, HM⟩ : ∃ m, Hid (m = n % 8) := ⟨_, Lib.hid rfl⟩
  have hm8 : m < 8 := by rw [HM.out]; omega
  have hmt : Int.tmod (n : Int) 8 = (m : Int) := by rw [HM.out, Int.tmod_eq_emod_of_nonneg (by omega)]; omega
  have hmw : wrap64 (m : Int) = (m : Int) := by unfold wrap64; omega
  have HF := Lib.hid fun w' (E : Int) (h : unpR S O = (E, [])) (hb : Below w.heap.size w w') => unp_no h hb
  have HRS : Hid (∀ w', Below w.heap.size w w' → RB w' B As S ∧ RB w' B Ao O ∧ B ≤ w'.heap.size) := Lib.hid fun w' hb => ⟨rs.below' hb hB, ro.below' hb hB, by have := hb.size; omega⟩
  have HOL := Lib.hid ho
  have HB0 := Lib.hid (Below.refl w.heap.size w)
  by_cases hsz : S.length % 8 ≠ 0 ∨ 128 < S.length
  · have HE := Lib.hid (unp_size (O := O) hsz)
    rw [← HN.out, ← HM.out] at hsz
    rw [← HN.out, ← HO.out]
    clear rs ro hcs hms ho
    by_cases h8 : m = 0
    · have h128 : (128 : Int) < (n : Int) := by omega
      subst h8
      clear hsz
      go_enter Tryz.func13, Tryz.ntmps13
      go_wp2
      go_ret2
      exact HF.out _ _ HE.out HB0.out
    · have hb : ((m : Int) != 0) = true := by simp; omega
      clear hsz h8
      go_enter Tryz.func13, Tryz.ntmps13
      go_wp2
      go_ret2
      exact HF.out _ _ HE.out HB0.out
  · have HSZ := Lib.hid hsz
    have hm0 : m = 0 := by rw [HM.out, HN.out]; omega
    have hn128 : n ≤ 128 := by rw [HN.out]; omega
    have hrd := readSlots_gen w rs hB (by omega) (by omega) hcs hms
    rw [← HN.out] at hrd
    have HRD := Lib.hid hrd
    have hHO : ∀ w', Below w.heap.size w w' → Calls Tryz.prog 28 #[.slice Ao O.length co] w' (ReadO (inO O) w') := fun w' hb => readOver_any w' (HRS.out w' hb).2.1 (HRS.out w' hb).2.2 ho
    rw [← HO.out] at hHO
    have HHO := Lib.hid hHO
    have hPI : ∀ (w' : World) (A0 : Option Addr) (c0 B0 : Nat) (L : List Kv), Below w.heap.size w w' → KvsR w' B0 A0 L → B0 ≤ w'.heap.size → L.length ≤ 1000 → Calls Tryz.prog 32 #[.slice A0 L.length c0, .slice As S.length cs, .slice Ao O.length co] w' fun e w'' => e = .returned (.bool (fitsB L S O)) ∧ Below w'.heap.size w' w'' := fun w' A0 c0 B0 L hb hr hB0 hl => packsInto_any w' hr hB0 hl (HRS.out w' hb).1 (HRS.out w' hb).2.1 (HRS.out w' hb).2.2 (by omega) ho
    rw [← HN.out, ← HO.out] at hPI
    have HPI := Lib.hid hPI
    have hshort := inS_short _ S rfl (by omega)
    have HSH := Lib.hid hshort
    rw [← HN.out, ← HO.out]
    have hm00 : ((m : Int) != 0) = false := by simp [hm0]
    have hn128i : ¬ (128 : Int) < (n : Int) := by omega
    clear rs ro hcs hms ho hsz hrd hHO hPI hshort hm0
    cases ha : inS S with
    | none =>
      have HE := Lib.hid (unp_slots (O := O) HSZ.out ha)
      rw [ha] at HRD
      unfold ReadW at HRD
      go_enter Tryz.func13, Tryz.ntmps13
      go_wp2_with fail
      refine HRD.out.mono ?_
      rintro e w1 ⟨v, rfl, hb1⟩
      have HB1 := Lib.hid hb1
      clear hb1 HRD ha
      go_wp2
      go_ret2
      exact HF.out _ _ HE.out HB1.out
    | some a =>
      have hal : 8 * a.length ≤ n := by rw [HN.out]; exact HSH.out a ha
      rw [ha] at HRD
      unfold ReadW at HRD
      cases hb : inO O with
      | none =>
        have HE := Lib.hid (unp_over HSZ.out ha hb)
        rw [hb] at HHO
        unfold ReadO at HHO
        clear ha hb
        go_enter Tryz.func13, Tryz.ntmps13
        go_wp2_with fail
        refine HRD.out.mono ?_
        rintro e w1 ⟨v, X, rfl, h1, hX, hXok⟩
        have HO1 := Lib.hid (HHO.out w1 h1.bel)
        have HB1 := Lib.hid h1.bel
        clear h1 hX hXok HRD
        go_wp2_with fail
        refine HO1.out.mono ?_
        rintro e w2 ⟨v2, rfl, hb2⟩
        have HB2 := Lib.hid (HB1.out.trans (hb2.mono HB1.out.size))
        clear hb2 HO1
        go_wp2
        go_ret2
        exact HF.out _ _ HE.out HB2.out
      | some b =>
        rw [hb] at HHO
        unfold ReadO at HHO
        have HA := Lib.hid ha
        have HBb := Lib.hid hb
        clear ha hb
        go_enter Tryz.func13, Tryz.ntmps13
        go_wp2_with fail
        refine HRD.out.mono ?_
        rintro e w1 ⟨v, X, rfl, h1, hX, hXok⟩
        have HO1 := Lib.hid (HHO.out w1 h1.bel)
        have H1 := Lib.hid h1
        have HX := Lib.hid hX
        have HXK := Lib.hid hXok
        clear h1 hX hXok HRD
        go_wp2_with fail
        refine HO1.out.mono ?_
        rintro e w2 ⟨v2, Y, rfl, h2, hY, hYok⟩
        have H2 := Lib.hid ((H1.out.addStL h2).swap)
        have HYK := Lib.hid hYok
        have hXl : X.length = a.length := by have := congrArg List.length HX.out; simpa using this
        have hYl : Y.length = min 17 b.length := by have := congrArg List.length hY; simpa using this
        have HYY := Lib.hid hY
        have HXL := Lib.hid hXl
        have HYL := Lib.hid hYl
        have HBYT : Hid ((X.length + Y.length) * 88 ≤ 140737488355328) := Lib.hid (by omega)
        have HXY : Hid (X.length ≤ 16 ∧ Y.length ≤ 17) := Lib.hid (by omega)
        have HONE : Hid (∀ u ∈ Y.flatMap pcs, u.oneCell' = true) := Lib.hid fun u hu => by
          obtain ⟨q, -, hq⟩ := List.mem_flatMap.1 hu
          exact pcs_one q u hq
        obtain ⟨z, HZZ⟩ : ∃ z, Hid (z = X.length + Y.length) := ⟨_, Lib.hid rfl⟩
        have hz33 : z ≤ 33 := by rw [HZZ.out]; omega
        have hzf : 16 < z ↔ 16 < a.length + b.length := by rw [HZZ.out]; omega
        clear h2 hYok hY hXl hYl HO1 H1 hal
        by_cases h16 : 16 < z
        · have h16i : (16 : Int) < (z : Int) := by omega
          have HE := Lib.hid (unp_many HSZ.out HA.out HBb.out (hzf.1 h16))
          clear hzf
          go_wp2_with (at_builtin; refine wpList_append_rows _ rfl _ _ 22 rfl 44 i0 zz 6 88 Tryz.underlying22 hi hz hs hby hzs (by decide) (by decide) v X.length _ rfl H2.out.kxRow v2 Y.length _ rfl H2.out.swap.kxRow HONE.out HBYT.out ?_; intro v' w' ho hg ha2; have H3 := Lib.hid (H2.out.joinKx ho hg ha2); obtain ⟨A3, c3, rfl⟩ := kx_form H3.out; obtain ⟨Z, hZ⟩ : ∃ Z, Z = X ++ Y := ⟨_, rfl⟩; rw [← hZ] at H3 ⊢; have HZ := Lib.hid hZ; have hz9 : z = Z.length := (by rw [HZZ.out, hZ, List.length_append]); rw [← hz9]; have HZL := Lib.hid hz9; clear ho hg ha2 hZ hz9)
          go_ret2
          exact HF.out _ _ HE.out H3.out.bel
        · have h16i : ¬ (16 : Int) < (z : Int) := by omega
          have HFEW := Lib.hid (fun h => h16 (hzf.2 h))
          clear hzf
          go_wp2_with (at_builtin; refine wpList_append_rows _ rfl _ _ 22 rfl 44 i0 zz 6 88 Tryz.underlying22 hi hz hs hby hzs (by decide) (by decide) v X.length _ rfl H2.out.kxRow v2 Y.length _ rfl H2.out.swap.kxRow HONE.out HBYT.out ?_; intro v' w' ho hg ha2; have H3 := Lib.hid (H2.out.joinKx ho hg ha2); obtain ⟨A3, c3, rfl⟩ := kx_form H3.out; obtain ⟨Z, hZ⟩ : ∃ Z, Z = X ++ Y := ⟨_, rfl⟩; rw [← hZ] at H3 ⊢; have HZ := Lib.hid hZ; have hz9 : z = Z.length := (by rw [HZZ.out, hZ, List.length_append]); rw [← hz9]; have HZL := Lib.hid hz9; clear ho hg ha2 hZ hz9)
          have hfew : ¬ 16 < a.length + b.length := HFEW.out
          have hZm : Z.map (·.1) = a ++ b := by rw [HZ.out, List.map_append, HX.out, HYY.out, List.take_of_length_le (by omega)]
          have HR := Lib.hid (unp_fits HSZ.out HA.out HBb.out hfew)
          have HZM := Lib.hid hZm
          have HZK : Hid (∀ q ∈ Z, KvOk q.1) := Lib.hid fun q hq => by
            rw [HZ.out] at hq
            rcases List.mem_append.1 hq with h | h
            · exact HXK.out q h
            · exact HYK.out q h
          have HZ16 : Hid (Z.length ≤ 16) := Lib.hid (by rw [← HZL.out]; omega)
          have hso := Sort_any H3.out (Nat.le_trans HZ16.out (by decide))
          rw [← HZL.out] at hso
          have HSO := Lib.hid hso
          clear hso
          clear hfew hZm
          refine HSO.out.mono ?_
          rintro e w4 ⟨rfl, Z', hp, hasc, h4⟩
          obtain ⟨A4, c4, hv4⟩ := kx_form h4
          have hok4 : ∀ q ∈ Z', KvOk q.1 := fun q hq => HZK.out q (hp.subset hq)
          rw [hv4] at h4
          obtain ⟨hl4, hr4⟩ := h4.kxR hok4
          have hpm : (Z'.map (·.1)).Perm (a ++ b) := by have := hp.map (·.1); rwa [HZM.out] at this
          have hpa : (Z'.map (·.1)).Pairwise fun a b => a.k ≤ b.k := List.pairwise_map.2 hasc
          obtain ⟨f1, f2⟩ := fits_same (S := S) (O := O) (hpm.trans (srtK_perm (a ++ b)).symm) hpa (srtK_asc (a ++ b))
          have hpi := HPI.out w4 A4 c4 _ (Z'.map (·.1)) h4.bel hr4 (Nat.le_refl _) (by rw [List.length_map, hp.length_eq]; exact Nat.le_trans HZ16.out (by decide))
          rw [f1, List.length_map] at hpi
          have hz4 : z = Z'.length := by rw [hp.length_eq]; exact HZL.out
          have hA34 : A3 = A4 ∧ c3 = c4 := by
            simp only [Value.slice.injEq] at hv4
            exact ⟨hv4.1, hv4.2.2⟩
          obtain ⟨rfl, rfl⟩ := hA34
          rw [← hz4] at hpi
          have HPP := Lib.hid hpi
          have H4 := Lib.hid h4
          have HF2 := Lib.hid f2
          have HF1 := Lib.hid f1
          have HO4 := Lib.hid hok4
          have HZ4 := Lib.hid hz4
          clear h4 hp hasc hok4 hl4 hr4 hpm hpa f1 f2 hpi hz4 hv4 HSO
          obtain ⟨bf, HBF⟩ : ∃ bf, Hid (bf = fitsB (srtK (a ++ b)) S O) := ⟨_, Lib.hid rfl⟩
          rw [← HBF.out] at HPP
          go_wp2_with fail
          refine HPP.out.mono ?_
          rintro e w5 ⟨rfl, hb5⟩
          have H5 := Lib.hid (H4.out.below hb5)
          clear hb5 HPP
          cases bf
          · have HE : Hid (unpR S O = (162, [])) := Lib.hid (by rw [HR.out, ← HBF.out]; rfl)
            go_wp2
            go_ret2
            exact HF.out _ _ HE.out H5.out.bel
          · have HE : Hid (unpR S O = (0, Z'.map (·.1))) := Lib.hid (by rw [HR.out, ← HBF.out, HF2.out (by rw [HF1.out, ← HBF.out])]; rfl)
            go_wp2
            go_ret2
            rw [HE.out]
            exact ⟨_, Z', rfl, by have := H5.out; rw [← HZ4.out] at this; exact this, rfl, HO4.out⟩
end Go.Proofs.YtgpahglmhnnobaaGreatDoor

/- slots: readSlots. -/
import Derived.Test.YtgpahglmhnnobaaGreatDoorSlPure2
import Derived.Test.YtgpahglmhnnobaaGreatDoorSlCopy
import Derived.Test.YtgpahglmhnnobaaGreatDoorGet
namespace Go.Proofs.YtgpahglmhnnobaaGreatDoor
open Go.RowKit
set_option linter.unusedVariables false
set_option linter.unusedSimpArgs false

/-- append(s, x) of one struct that lies in a new block -/
theorem wpList_append_row1 {P : Program} (w : World) {ops : Array Oper} {rest : List Oper} {o : Oper} {a : Act} {Q : Exit → Act → World → Prop} (hgd : o.guard = none) (s x : Operand) (t : TypeId)
    (ho : o.op = .call { callee := .builtin .append, args := #[s, x], argTypes := #[t, t] })
    (e : TypeId) (i : TypeInfo) (z : Value) (size bytes : Nat) (ht : P.underlying t = some (.slice e)) (hi : P.info? e = some i) (hz : i.zero = some z) (hsize : i.size = size) (hby : i.bytes = bytes) (hzs : z.cells.size = size) (hsz : 0 < size) (hb0 : 0 < bytes)
    (v : Value) (n : Nat) (xs : List Value) (hs : a.eval s = v) (hown : w.ownsRow 0 e size v n xs) (cs : Array Value) (hcs : cs.toList.length = size) (h1 : ∀ u ∈ cs.toList, u.oneCell' = true)
    {N : Nat} (hN : w.heap.size = N) (hx : a.eval x = .slice (some ⟨N, 0, none⟩) 1 1) (hbytes : (n + 1) * bytes ≤ 140737488355328)
    (h : ∀ v' w', w'.ownsRow 0 e size v' (n + 1) (xs ++ cs.toList) → (w.alloc (.cells cs e)).grownBy w' v.ownBlock → (v'.ownBlock = v.ownBlock ∨ v'.ownBlock = some (w.heap.size + 1)) → wpList P ops Q rest (a.put o.dst v') w') :
    wpList P ops Q (o :: rest) a (w.alloc (.cells cs e)) := by
  subst hN
  have h64 : n + 1 ≤ (n + 1) * bytes := Nat.le_mul_of_pos_right _ hb0
  refine wpList_plain hgd fun K hK => ?_
  obtain ⟨v', w', hrun, h2, h3, _, h5⟩ := run_append_own_at (P := P) (w.alloc (.cells cs e)) 0 t o.type e i z size bytes ht hi hz hsize hby hzs hsz v n xs (hown.alloc _) ⟨w.heap.size, 0, none⟩ 1 1 cs.toList (by rw [hcs, Nat.one_mul]) (World.news_of_block (heap_alloc_new w _)) h1 (by simp only [maxLen]; omega) hbytes (Nat.zero_le _)
  unfold Oper.wp execOp
  simp only [ho, resolve, invoke, builtin, Sem.run_bind, Sem.run_pure, Result.andThen_ok, List.map_toArray, List.map_cons, List.map_nil, hs, hx, hrun]
  exact hK _ _ (h v' w' h2 h3 (by simpa using h5))
/-- keys with their values, each list its own -/
def KxA (v : Value) (X : List (Kv × Pl)) : Ass := Sep [RwA 44 6 v X.length (X.flatMap pcs), Sep (X.map ppsA)]
instance stableKx {v : Value} {X : List (Kv × Pl)} : Stable (KxA v X) := inferInstanceAs (Stable (Sep _))
theorem St.nilKx {S : Fp} {l : List Ass} {w0 w : World} (h : St S l w0 w) : St S (KxA (.slice none 0 0) [] :: l) w0 w :=
  St.pack (l' := [_, _]) ((h.nilSep).nilRw 44 6)
theorem St.kxRow {S : Fp} {l : List Ass} {w0 w : World} {v : Value} {X : List (Kv × Pl)} (h : St S (KxA v X :: l) w0 w) : w.ownsRow 0 44 6 v X.length (X.flatMap pcs) := (St.flat (l' := [_, _]) h).rw_
theorem St.snocKx {S : Fp} {l : List Ass} {w0 w w' : World} [Stable (Sep l)] {v v' : Value} {X : List (Kv × Pl)} {q : Kv × Pl} (h : St S (KxA v X :: ppsA q :: l) w0 w) (o : Obj)
    (ho : w'.ownsRow 0 44 6 v' (X.length + 1) (X.flatMap pcs ++ pcs q)) (hg : (w.alloc o).grownBy w' v.ownBlock) (ha : v'.ownBlock = v.ownBlock ∨ v'.ownBlock = some (w.heap.size + 1)) : St S (KxA v' (X ++ [q]) :: l) w0 w' := by
  have h1 : St S (RwA 44 6 v X.length (X.flatMap pcs) :: Sep (X.map ppsA) :: ppsA q :: l) w0 w := St.flat h
  have h2 := (h1.alloc o).grewRw (v' := v') (n' := (X ++ [q]).length) (cs' := (X ++ [q]).flatMap pcs) (by simpa using ho) hg ha (by simp)
  have h3 := (h2.back2.swap).snocSep.swap
  rw [show X.map ppsA ++ [ppsA q] = (X ++ [q]).map ppsA by simp] at h3
  exact St.pack (l' := [_, _]) h3
theorem kx_form {S : Fp} {l : List Ass} {w0 w : World} {v : Value} {X : List (Kv × Pl)} (h : St S (KxA v X :: l) w0 w) : ∃ A c, v = .slice A X.length c := by
  rcases h.kxRow.2 with ⟨rfl, h0⟩ | ⟨g, cap, cur, rfl, _⟩
  · exact ⟨none, 0, by rw [h0]⟩
  · exact ⟨_, _, rfl⟩
/-- what readSlots leaves -/
def ReadW (r : Option (List Kv)) (w : World) (e : Ending) (w' : World) : Prop := match r with
  | some L => ∃ v X, e = .returned (.tuple #[v, .bool true]) ∧ St Zf [KxA v X] w w' ∧ X.map (·.1) = L ∧ ∀ q ∈ X, KvOk q.1
  | none => ∃ v, e = .returned (.tuple #[v, .bool false]) ∧ Below w.heap.size w w'
theorem read_some {r : Option (List Kv)} {L : List Kv} {w w' : World} {e : Ending} (h : r = some L) (k : ∃ v X, e = .returned (.tuple #[v, .bool true]) ∧ St Zf [KxA v X] w w' ∧ X.map (·.1) = L ∧ ∀ q ∈ X, KvOk q.1) : ReadW r w e w' := by subst h; exact k
theorem read_none {r : Option (List Kv)} {w w' : World} {e : Ending} (h : r = none) (k : ∃ v, e = .returned (.tuple #[v, .bool false]) ∧ Below w.heap.size w w') : ReadW r w e w' := by subst h; exact k
theorem slN_get {S : List Nat} {k : Nat} (h : k + 2 ≤ S.length) : getVal S (k : Int) 2 = slN (S.drop k) := by
  have h0 : placeErr S.length (k : Int) 2 = 0 := by unfold placeErr; rw [if_neg (by rw [isW_yes (by decide)]; simp), if_neg (by omega)]
  rw [getVal_ok h0]
  unfold slN
  rw [List.take_drop, Int.toNat_natCast]
  rfl
theorem inS_short : ∀ (n : Nat) (b : List Nat), b.length = n → b.length % 8 = 0 → ∀ L, inS b = some L → 8 * L.length ≤ b.length := by
  intro n
  induction n using Nat.strongRecOn with
  | _ n ih =>
    intro b hn h8 L h
    by_cases h0 : b.length = 0
    · rw [inS_nil h0] at h
      cases h
      simp
    · by_cases hz : slN b = 0
      · rw [inS_zero h0 hz] at h
        split at h
        · cases h; simp
        · cases h
      · by_cases hok : slOk b = true
        · rw [inS_ok h0 hz hok] at h
          obtain ⟨R, hR, rfl⟩ := Option.map_eq_some_iff.1 h
          have hp := slW_pos b
          have := ih _ (by rw [← hn, List.length_drop]; omega) (b.drop (slW b)) rfl (by rw [List.length_drop]; have := slW_mod b; omega) R hR
          rw [List.length_drop] at this
          rw [List.length_cons]
          omega
        · rw [inS_bad h0 hz (by simpa using hok)] at h
          cases h
theorem slN_lt {b : List Nat} (hb : IsBytes b) (hl : 2 ≤ b.length) : slN b < 65536 := be_lt b hb 2 hl
theorem sl_arith {n k N P q W : Nat} (hk : k ≤ n) (hl : n ≤ 128) (hN : N < 65536) (hz : N ≠ 0) (h1 : W ≤ n - k) (h2 : P + 2 ≤ W) (hW : W = q * 8) :
    (wrap64 ((N : Int) - 1) = (N : Int) - 1 ∧ IntKind.i64.wrap (N : Int) = (N : Int) ∧ wrap64 ((k : Int) + 2) = (k : Int) + 2 ∧ wrap64 ((q : Int) * 8) = (W : Int) ∧ wrap64 ((k : Int) + (W : Int)) = (k : Int) + (W : Int) ∧ wrap64 ((k : Int) + 2 + (P : Int)) = (k : Int) + 2 + (P : Int)) ∧ 0 < N ∧ k + W ≤ n ∧ P ≤ 200 ∧ k + 2 + P ≤ k + W := by
  subst hW
  unfold wrap64
  rw [IntKind.wrap_i64]
  refine ⟨⟨by omega, by omega, by omega, by omega, by omega, by omega⟩, by omega, by omega, by omega, by omega⟩
set_option maxRecDepth 100000 in
set_option maxHeartbeats 2000000 in
theorem readSlots_any {b off cap B : Nat} {S : List Nat} (w : World) (h : RB w B (some ⟨b, off, none⟩) S) (hB : B ≤ w.heap.size) (h8 : S.length % 8 = 0) (hl : S.length ≤ 128) (hc : S.length ≤ cap) (hm : cap ≤ maxLen) :
    Calls Tryz.prog 27 #[.slice (some ⟨b, off, none⟩) S.length cap] w (ReadW (inS S) w) := by
  obtain ⟨i0, zz, hi, hz, hs, hby, hzs⟩ := row_info kv_info
  have HR : Hid (∀ w', Below w.heap.size w w' → RB w' B (some ⟨b, off, none⟩) S) := Lib.hid fun w' hb => h.below' hb hB
  have HB := Lib.hid hB
  have HST : Hid (St Zf [KxA (.slice none 0 0) []] w w) := Lib.hid ((St.start Zf w).nilKx)
  obtain ⟨n, hn⟩ : ∃ n, n = S.length := ⟨_, rfl⟩
  have HN := Lib.hid hn
  rw [← hn] at h8 hl hc ⊢
  have HL : Hid (n % 8 = 0 ∧ n ≤ 128 ∧ n ≤ cap ∧ cap ≤ maxLen) := Lib.hid ⟨h8, hl, hc, hm⟩
  have HBY := Lib.hid h.1
  unfold maxLen at hm
  clear h hB hn
  go_enter Tryz.func27, Tryz.ntmps27
  go_wp2
  go_loopw [4, 5] (fun v i wr => ∃ (X : List (Kv × Pl)) (k : Nat), k ≤ n ∧ k % 8 = 0 ∧ i = .int .i64 k ∧ Hid (St Zf [KxA v X] w wr) ∧ Hid ((∀ q ∈ X, KvOk q.1) ∧ 8 * X.length ≤ k) ∧ Hid (inS S = (inS (S.drop k)).map (X.map (·.1) ++ ·))) (fun _ i _ => n - (intOf i).toNat)
  case atStart => exact ⟨[], 0, Nat.zero_le _, by decide, rfl, HST, Lib.hid ⟨(fun q hq => nomatch hq), Nat.le_refl _⟩, Lib.hid (by rw [List.drop_zero]; cases h : inS S <;> rfl)⟩
  case round =>
    obtain ⟨X, k, hk, hk8, rfl, HS, HX, HQ⟩ := hrel
    clear HST
    obtain ⟨A0, c0, rfl⟩ := kx_form HS.out
    by_cases hlt : k < n
    · have hk2 : k + 2 ≤ n := by omega
      have hR := HR.out wr HS.out.bel
      have hg := Get_any (some ⟨b, off, none⟩) cap B S (k : Int) 2 wr hR (by rw [← HN.out]; exact Nat.le_trans hc HL.out.2.2.2) (by rw [← HN.out]; exact hc) HL.out.2.2.2 (by omega) (by omega)
      have hpe : placeErr S.length (k : Int) 2 = 0 := by unfold placeErr; rw [if_neg (by rw [isW_yes (by decide)]; simp), if_neg (by rw [← HN.out]; omega)]
      rw [slN_get (by rw [← HN.out]; exact hk2), hpe, ← HN.out] at hg
      have HG := Lib.hid hg
      have hSl : (S.drop k).length = n - k := by rw [List.length_drop, ← HN.out]
      obtain ⟨D, hD⟩ : ∃ D, D = S.drop k := ⟨_, rfl⟩
      rw [← hD] at HG HQ hSl
      have HD := Lib.hid hD
      have hk9 : (k : Int) < (n : Int) := by omega
      clear hR hg hpe hD
      by_cases hz0 : slN D = 0
      · rw [hz0] at HG
        have hRz : RB wr B (some ⟨b, off + k, none⟩) D := by
          have h1 := (HR.out wr HS.out.bel).cut rfl k n (by rw [← HN.out]; exact Nat.le_refl _) hk
          rwa [HN.out, List.take_length, ← HD.out] at h1
        have hIZ := isZero_any (cap := cap - k) hRz (by omega) (by omega)
        rw [hSl] at hIZ
        have HIZ := Lib.hid hIZ
        have HZ0 := Lib.hid hz0
        clear hRz hIZ hz0 hk2
        go_wp2_with fail
        refine HG.out.mono ?_
        rintro e w1 ⟨rfl, rfl⟩
        go_wp2_with fail
        refine HIZ.out.mono ?_
        rintro e w1 ⟨rfl, rfl⟩
        go_wp2
        go_ret2
        by_cases hzz : allZ D = true
        · refine read_some (L := X.map (·.1)) (by rw [HQ.out, inS_zero (by omega) HZ0.out, if_pos hzz]; simp) ⟨_, X, by rw [hzz]; rfl, HS.out, rfl, HX.out.1⟩
        · refine read_none (by rw [HQ.out, inS_zero (by omega) HZ0.out, if_neg hzz]; rfl) ⟨.slice A0 X.length c0, by rw [Bool.not_eq_true] at hzz; rw [hzz]; rfl, HS.out.bel⟩
      · have hDb : IsBytes D := by rw [HD.out]; exact HBY.out.drop k
        have hd2 : 2 ≤ D.length := by omega
        have hd0 : D.length ≠ 0 := by omega
        have hDB := slW_le (b := D) (by omega) hDb hd0
        have hN16 := slN_lt hDb hd2
        obtain ⟨T, HT⟩ : ∃ T, Hid (T = slT D) := ⟨_, Lib.hid rfl⟩
        rw [← HT.out] at hDB
        have hTl : T.length = n - (k + 2) := by rw [HT.out]; unfold slT; rw [List.length_drop, hSl, Nat.sub_sub]
        obtain ⟨P, HP⟩ : ∃ P, Hid (P = prefN T) := ⟨_, Lib.hid rfl⟩
        obtain ⟨W, HW⟩ : ∃ W, Hid (W = slW D) := ⟨_, Lib.hid rfl⟩
        obtain ⟨N, HNN⟩ : ∃ N, Hid (N = slN D) := ⟨_, Lib.hid rfl⟩
        obtain ⟨q, HQQ⟩ : ∃ q, Hid (q = need P) := ⟨_, Lib.hid rfl⟩
        have hWn : W = q * 8 := by rw [HW.out, HQQ.out, HP.out, HT.out, Nat.mul_comm]; rfl
        rw [← HW.out, ← HP.out, hSl] at hDB
        rw [← HNN.out] at HG hz0 hN16
        have hRd : RB wr B (some ⟨b, off + k, none⟩) D := by
          have h1 := (HR.out wr HS.out.bel).cut rfl k n (by rw [← HN.out]; exact Nat.le_refl _) hk
          rwa [HN.out, List.take_length, ← HD.out] at h1
        have hRt : RB wr B (some ⟨b, off + (k + 2), none⟩) T := by
          have h1 := hRd.cut rfl 2 D.length (Nat.le_refl _) hd2
          rw [List.take_length, Nat.add_assoc] at h1
          rw [HT.out]
          exact h1
        have hRp : ∀ w', RB w' B (some ⟨b, off, none⟩) S → RB w' B (some ⟨b, off + (k + 2 + P), none⟩) (slPad D) := by
          intro w' h0
          have h1 := h0.cut rfl (k + (2 + P)) (k + W) (by rw [← HN.out]; have := hDB.1; omega) (by have := hDB.2; omega)
          rw [show off + (k + (2 + P)) = off + (k + 2 + P) by omega] at h1
          have e : slPad D = (S.take (k + W)).drop (k + (2 + P)) := by
            have e1 : slPad D = (D.take W).drop (2 + P) := by rw [HW.out, HP.out, HT.out]; rfl
            rw [e1, HD.out, List.take_drop, List.drop_drop]
          rw [e]
          exact h1
        have hPl : (slPad D).length = W - (2 + P) := by
          have e : slPad D = (D.take W).drop (2 + P) := by rw [HW.out, HP.out, HT.out]; rfl
          rw [e, List.length_drop, List.length_take, hSl, Nat.min_eq_left hDB.1]
        have hszr := HS.out.bel.size
        have hBw : B ≤ wr.heap.size := Nat.le_trans HB.out hszr
        have hPf := Prefix_any (some ⟨b, off + (k + 2), none⟩) (cap - (k + 2)) B T wr hRt hBw (by rw [hTl]; exact Nat.sub_le_sub_right hc _) (Nat.le_trans (Nat.sub_le _ _) HL.out.2.2.2)
        unfold PrefPost at hPf
        rw [hTl, ← HP.out] at hPf
        obtain ⟨V, HV⟩ : ∃ V, Hid (V = prefV T) := ⟨_, Lib.hid rfl⟩
        obtain ⟨PE, HPE⟩ : ∃ PE, Hid (PE = prefErr T) := ⟨_, Lib.hid rfl⟩
        rw [← HV.out, ← HPE.out] at hPf
        have HPF := Lib.hid hPf
        obtain ⟨⟨w1, w2, w3, w4, w5, w6⟩, hN0, hkW, hP2, hPW⟩ := sl_arith (n := n) (k := k) (N := N) (P := P) (q := q) (W := W) hk hl hN16 hz0 hDB.1 hDB.2 hWn
        have HSF := Lib.hid (fun w => slotsFor_any P (Nat.le_trans hP2 (by decide)) w)
        rw [← HQQ.out] at HSF
        have hzN : ((N : Int) == 0) = false := beq_eq_false_iff_ne.2 (by omega)
        have HTK := Lib.hid (fun w => isToken_any ((N : Int) - 1) w)
        subst hWn
        clear w1 w2 w3 w4 w5 w6
        have HRP := Lib.hid hRp
        have HPL := Lib.hid hPl
        have HDb := Lib.hid hDb
        have HNZ : Hid (N ≠ 0 ∧ D.length ≠ 0) := Lib.hid ⟨hz0, hd0⟩
        clear hRt hRd hRp hPl hDb hz0 hDB hTl hSl hBw hszr hd2 hd0
        clear hPf
        go_wp2_with fail
        refine HG.out.mono ?_
        rintro e w1 ⟨rfl, rfl⟩
        go_wp2_with fail
        refine HPF.out.mono ?_
        rintro e w2 ⟨A1, c1, A2, c2, rfl, o1, o2, hb2⟩
        have h2 := HS.out.newPp (p := ⟨(N : Int) - 1, V⟩) (x := ⟨A1, c1, A2, c2⟩) o1 o2 hb2
        have h3 := h2.newBlk 42 #[.int .i64 V.k, .int .i64 V.n, .string V.s, .slice A1 V.ns.length c1, .slice A2 V.ts.length c2]
        obtain ⟨w3, HW3⟩ : ∃ w3, Hid (w3 = w2.alloc (.cells #[.int .i64 V.k, .int .i64 V.n, .string V.s, .slice A1 V.ns.length c1, .slice A2 V.ts.length c2] 42)) := ⟨_, Lib.hid rfl⟩
        rw [← HW3.out] at h3
        have hbx := h3.blk
        have x0 : w3.cell? ⟨w2.heap.size, 0, none⟩ = some (.int .i64 V.k) := by rw [hbx.cell 0]; rfl
        have x1 : w3.cell? ⟨w2.heap.size, 1, none⟩ = some (.int .i64 V.n) := by rw [hbx.cell 1]; rfl
        have x2 : w3.cell? ⟨w2.heap.size, 2, none⟩ = some (.string V.s) := by rw [hbx.cell 2]; rfl
        have x3 : w3.cell? ⟨w2.heap.size, 3, none⟩ = some (.slice A1 V.ns.length c1) := by rw [hbx.cell 3]; rfl
        have x4 : w3.cell? ⟨w2.heap.size, 4, none⟩ = some (.slice A2 V.ts.length c2) := by rw [hbx.cell 4]; rfl
        have H3 := Lib.hid (h3.swap.bring2)
        have HIZ : Hid (∀ o2 c2 : Nat, (o2 = off + (k + 2 + P) ∧ c2 = cap - (k + 2 + P) ∨ k + q * 8 - (k + 2 + P) = 0) → Calls Tryz.prog 48 #[.slice (some ⟨b, o2, none⟩) (k + q * 8 - (k + 2 + P)) c2] w3 fun e w' => e = .returned (.bool (allZ (slPad D))) ∧ w3 = w') := Lib.hid (by
          have e1 : k + q * 8 - (k + 2 + P) = q * 8 - (2 + P) := by omega
          rw [e1]
          intro o2 c2 ho
          by_cases h0 : q * 8 - (2 + P) = 0
          · have e : slPad D = [] := List.length_eq_zero_iff.1 (by rw [HPL.out]; exact h0)
            have := isZero_any (off := o2) (cap := c2) (b := b) (B := B) (w := w3) (L := []) (RB.of_cells IsBytes.nil _ fun h => absurd h (by simp)) (by simp) (by simp)
            rw [e, h0]
            exact this
          · obtain ⟨rfl, rfl⟩ : o2 = off + (k + 2 + P) ∧ c2 = cap - (k + 2 + P) := by
              rcases ho with h | h
              · exact h
              · exact absurd h h0
            have := isZero_any (cap := cap - (k + 2 + P)) (HRP.out w3 (HR.out w3 h3.bel)) (by rw [HPL.out]; omega) (by rw [HPL.out]; omega)
            rw [HPL.out] at this
            exact this)
        have HSZ : Hid ((X.length + 1) * 88 ≤ 140737488355328) := Lib.hid (by have := HX.out.2; omega)
        clear h2 h3 hbx o1 o2 hb2 HPF HG
        go_wp2_with (go_at_call 36; refine (HSF.out _).mono ?_; rintro e w' ⟨rfl, rfl⟩)
        rw [← HW3.out]
        by_cases htok : 0 ≤ (N : Int) - 1 ∧ (N : Int) - 1 < 200
        · rw [isTok_yes htok] at HTK
          have HTKY := Lib.hid htok
          clear htok
          by_cases hpe : PE = 0
          · subst hpe
            have HVK : Hid (KvOk ⟨(N : Int) - 1, V⟩) := Lib.hid ⟨by rw [HV.out]; exact (pref_ok (by rw [HT.out]; exact HDb.out.drop 2) HPE.out.symm).ok, by show -9223372036854775808 ≤ (N : Int) - 1 ∧ (N : Int) - 1 ≤ 9223372036854775807; omega⟩
            obtain ⟨bz, HBZ⟩ : ∃ bz, Hid (bz = allZ (slPad D)) := ⟨_, Lib.hid rfl⟩
            rw [← HBZ.out] at HIZ
            by_cases hcap : cap = k + 2 + P
            · go_wp2_with (go_at_call 37; refine (HTK.out _).mono ?_; rintro e w' ⟨rfl, rfl⟩)
              refine (HIZ.out _ _ (by first | exact .inl ⟨rfl, rfl⟩ | exact .inr (by omega))).mono ?_
              rintro e w' ⟨rfl, rfl⟩
              cases bz
              · have HNO : Hid (inS S = none) := Lib.hid (by
                  rw [HQ.out, inS_bad HNZ.out.2 (by rw [← HNN.out]; exact HNZ.out.1) (by unfold slOk; rw [← HBZ.out, Bool.and_false])]
                  rfl)
                go_wp2
                go_ret2
                exact read_none HNO.out ⟨_, rfl, H3.out.bel⟩
              · have HNX : Hid (inS S = (inS (S.drop (k + q * 8))).map ((X ++ [((⟨(N : Int) - 1, V⟩ : Kv), (⟨A1, c1, A2, c2⟩ : Pl))]).map (·.1) ++ ·)) := Lib.hid (by
                  have e1 : slOk D = true := by unfold slOk; rw [← HNN.out, isTok_yes HTKY.out, ← HT.out, ← HPE.out, ← HBZ.out]; rfl
                  have e2 : D.drop (slW D) = S.drop (k + q * 8) := by rw [← HW.out, HD.out, List.drop_drop]
                  have e3 : slKv D = ⟨(N : Int) - 1, V⟩ := by unfold slKv; rw [← HNN.out, ← HT.out, ← HV.out]
                  rw [HQ.out, inS_ok HNZ.out.2 (by rw [← HNN.out]; exact HNZ.out.1) e1, e2, e3]
                  cases inS (S.drop (k + q * 8)) <;> simp)
                go_wp2_with (at_builtin; refine wpList_append_row1 _ rfl _ _ 22 rfl 44 i0 zz 6 88 Tryz.underlying22 hi hz hs hby hzs (by decide) (by decide) (.slice A0 X.length c0) X.length _ rfl H3.out.kxRow #[.int .i64 ((N : Int) - 1), .int .i64 V.k, .int .i64 V.n, .string V.s, .slice A1 V.ns.length c1, .slice A2 V.ts.length c2] rfl (pcs_one (⟨(N : Int) - 1, V⟩, ⟨A1, c1, A2, c2⟩)) (N := w3.heap.size) rfl rfl HSZ.out ?_; intro v' w' ho hg ha; have H9 := Lib.hid ((H3.out.snocKx (q := (⟨(N : Int) - 1, V⟩, ⟨A1, c1, A2, c2⟩)) _ ho hg (by simpa using ha)).swap.drop); clear ho hg ha)
                rw [← hcap]
                go_roundw
                case rel =>
                  refine ⟨_, k + q * 8, hkW, by omega, by go_num, H9, Lib.hid ⟨fun x hx => ?_, ?_⟩, HNX⟩
                  · rcases List.mem_append.1 hx with hx | hx
                    · exact HX.out.1 x hx
                    · rw [List.mem_singleton.1 hx]; exact HVK.out
                  · have := HX.out.2
                    rw [List.length_append, List.length_singleton]
                    omega
                case measure => simp [intOf]; omega
            · go_wp2_with (go_at_call 37; refine (HTK.out _).mono ?_; rintro e w' ⟨rfl, rfl⟩)
              refine (HIZ.out _ _ (by first | exact .inl ⟨rfl, rfl⟩ | exact .inr (by omega))).mono ?_
              rintro e w' ⟨rfl, rfl⟩
              cases bz
              · have HNO : Hid (inS S = none) := Lib.hid (by
                  rw [HQ.out, inS_bad HNZ.out.2 (by rw [← HNN.out]; exact HNZ.out.1) (by unfold slOk; rw [← HBZ.out, Bool.and_false])]
                  rfl)
                go_wp2
                go_ret2
                exact read_none HNO.out ⟨_, rfl, H3.out.bel⟩
              · have HNX : Hid (inS S = (inS (S.drop (k + q * 8))).map ((X ++ [((⟨(N : Int) - 1, V⟩ : Kv), (⟨A1, c1, A2, c2⟩ : Pl))]).map (·.1) ++ ·)) := Lib.hid (by
                  have e1 : slOk D = true := by unfold slOk; rw [← HNN.out, isTok_yes HTKY.out, ← HT.out, ← HPE.out, ← HBZ.out]; rfl
                  have e2 : D.drop (slW D) = S.drop (k + q * 8) := by rw [← HW.out, HD.out, List.drop_drop]
                  have e3 : slKv D = ⟨(N : Int) - 1, V⟩ := by unfold slKv; rw [← HNN.out, ← HT.out, ← HV.out]
                  rw [HQ.out, inS_ok HNZ.out.2 (by rw [← HNN.out]; exact HNZ.out.1) e1, e2, e3]
                  cases inS (S.drop (k + q * 8)) <;> simp)
                go_wp2_with (at_builtin; refine wpList_append_row1 _ rfl _ _ 22 rfl 44 i0 zz 6 88 Tryz.underlying22 hi hz hs hby hzs (by decide) (by decide) (.slice A0 X.length c0) X.length _ rfl H3.out.kxRow #[.int .i64 ((N : Int) - 1), .int .i64 V.k, .int .i64 V.n, .string V.s, .slice A1 V.ns.length c1, .slice A2 V.ts.length c2] rfl (pcs_one (⟨(N : Int) - 1, V⟩, ⟨A1, c1, A2, c2⟩)) (N := w3.heap.size) rfl rfl HSZ.out ?_; intro v' w' ho hg ha; have H9 := Lib.hid ((H3.out.snocKx (q := (⟨(N : Int) - 1, V⟩, ⟨A1, c1, A2, c2⟩)) _ ho hg (by simpa using ha)).swap.drop); clear ho hg ha)
                go_roundw
                case rel =>
                  refine ⟨_, k + q * 8, hkW, by omega, by go_num, H9, Lib.hid ⟨fun x hx => ?_, ?_⟩, HNX⟩
                  · rcases List.mem_append.1 hx with hx | hx
                    · exact HX.out.1 x hx
                    · rw [List.mem_singleton.1 hx]; exact HVK.out
                  · have := HX.out.2
                    rw [List.length_append, List.length_singleton]
                    omega
                case measure => simp [intOf]; omega
          · have hb : (PE != 0) = true := by simpa using hpe
            have HNO : Hid (inS S = none) := Lib.hid (by
              rw [HQ.out, inS_bad HNZ.out.2 (by rw [← HNN.out]; exact HNZ.out.1) (by unfold slOk; rw [← HT.out, ← HPE.out, decide_eq_false hpe]; simp)]
              rfl)
            clear hpe
            go_wp2_with (go_at_call 37; refine (HTK.out _).mono ?_; rintro e w' ⟨rfl, rfl⟩)
            go_ret2
            exact read_none HNO.out ⟨_, rfl, H3.out.bel⟩
        · rw [isTok_no htok] at HTK
          have HNO : Hid (inS S = none) := Lib.hid (by
            rw [HQ.out, inS_bad HNZ.out.2 (by rw [← HNN.out]; exact HNZ.out.1) (by unfold slOk; rw [← HNN.out, isTok_no htok]; rfl)]
            rfl)
          clear htok
          go_wp2_with (go_at_call 37; refine (HTK.out _).mono ?_; rintro e w' ⟨rfl, rfl⟩)
          go_ret2
          exact read_none HNO.out ⟨_, rfl, H3.out.bel⟩
    · obtain rfl : k = n := by omega
      have HYES : Hid (inS S = some (X.map (·.1))) := Lib.hid (by
        rw [HQ.out, List.drop_of_length_le (by rw [← HN.out]; exact Nat.le_refl _), inS_nil rfl]
        simp)
      go_wp2
      go_ret2
      exact read_some HYES.out ⟨_, X, rfl, HS.out, rfl, HX.out.1⟩
end Go.Proofs.YtgpahglmhnnobaaGreatDoor

/- lexer: the document's Quote. By tools/mklxq.py. -/
import Derived.Test.YtcfobagcdgnfoaaGreatDoorLxS
import Derived.Laws.BytesArg
namespace Go.Proofs.YtcfobagcdgnfoaaGreatDoor
open Go.RowKit
set_option linter.unusedVariables false
set_option linter.unusedSimpArgs false

def strOf (bs : List Nat) : ByteArray := ⟨(bs.map UInt8.ofNat).toArray⟩
section
variable {P : Program} {w : World}
/-- bytes made a string -/
theorem run_bytes_str {B : Nat} {A : Option Addr} {bs : List Nat} (src dst e : TypeId) (c : Nat) (hs : P.underlying src = some (.slice e)) (he : P.underlying e = some (.int .u8)) (hd : P.underlying dst = some .string)
    (h : RB w B A bs) : (convert src dst (.slice A bs.length c)).run P w = .ok (.string (strOf bs)) w := by
  rcases A with _ | ad
  · have hm : bs.length = 0 := by
      rcases Nat.eq_zero_or_pos bs.length with h0 | h0
      · exact h0
      · obtain ⟨_, h, _⟩ := h.2.2 h0
        cases h
    have hn : bs = [] := List.length_eq_zero_iff.1 hm
    subst hn
    exact run_convert_bytes_nil (w := w) src e hs he _ _ dst hd
  · rcases Nat.eq_zero_or_pos bs.length with h0 | h0
    · have hn : bs = [] := List.length_eq_zero_iff.1 h0
      subst hn
      rw [run_convert_bytes_string w src dst e _ _ c hs he hd]
      have hl := run_loadCells_list (P := P) w ad [] (fun j v hj => by simp at hj)
      rw [run_bytesToString w ad _ c [] (by simpa using hl)]
      rfl
    · obtain ⟨b, off, hA, _, hc⟩ := h.all h0
      injection hA with hA
      subst hA
      have := run_convert_bytes_arg (P := P) w src e hs he b off bs.length c (bs.map fun n : Nat => (n : Int)) (by simp) (fun i hi => by
        rw [hc i hi, nth_lt hi]
        simp [List.getD_eq_getElem?_getD, List.getElem?_eq_getElem hi]) dst hd
      rw [this]
      congr 2
      unfold strOfNums strOf
      congr 2
      simp
end
theorem u8_info : (Tryz.prog.info? 5).map (fun i => (i.zero, i.size, i.bytes)) = some (some (.int .u8 0), 1, 1) := by kernel_rfl
/-- bytes as numbers -/
def nb (l : Bs) : List Nat := l.map UInt8.toNat
theorem nb_app (a b : Bs) : nb (a ++ b) = nb a ++ nb b := by simp [nb]
theorem nb_len (a : Bs) : (nb a).length = a.length := by simp [nb]
theorem strOf_nb (l : Bs) : strOf (nb l) = mkS l := by
  unfold strOf nb mkS
  rw [List.map_map]
  congr 2
  have : (UInt8.ofNat ∘ UInt8.toNat) = id := by
    funext x
    simp
  rw [this, List.map_id]
/-- append(s, x...) of bytes, at a step of a region that draws its order -/
theorem step_append_bytes {P : Program} (w : World) {ops : Array Oper} {o : Oper} {a : Act} {K : Act → World → Prop} {Q : Exit → Act → World → Prop} {E : Prop} (hgd : o.guard = none) (s x : Operand) (t : TypeId)
    (ho : o.op = .call { callee := .builtin .append, args := #[s, x], argTypes := #[t, t] })
    (base : Nat) (e : TypeId) (i : TypeInfo) (ht : P.underlying t = some (.slice e)) (hi : P.info? e = some i) (hz : i.zero = some (.int .u8 0)) (hsize : i.size = 1) (hby : i.bytes = 1)
    (v : Value) (bs : List Nat) (hs : a.eval s = v) (hown : OB w base e v bs)
    (A : Option Addr) (cp B : Nat) (news : List Nat) (m : Nat) (hm : news.length = m) (hx : a.eval x = .slice A m cp) (hr : RB w B A news)
    (hlen : bs.length + m ≤ 140737488355328) (hbase : base ≤ w.heap.size)
    (h : ∀ v' w', OB w' base e v' (bs ++ news) → w.grownBy w' v.ownBlock → (v'.ownBlock = v.ownBlock ∨ v'.ownBlock = some w.heap.size) → K (a.put o.dst v') w') :
    if Region.wanted o (yielded ops a.tmps) = true then Oper.wp P o a w K Q else E := by
  subst hm
  have hw : Region.wanted o (yielded ops a.tmps) = true := by simp [Region.wanted, hgd]
  rw [if_pos hw]
  obtain ⟨v', w', hrun, h2, h3, h4⟩ := run_append_bytes (P := P) w t o.type base e i ht hi hz hsize hby v bs hown A cp B news hr hlen hbase
  unfold Oper.wp execOp
  simp only [ho, resolve, invoke, builtin, Sem.run_bind, Sem.run_pure, Result.andThen_ok, List.map_toArray, List.map_cons, List.map_nil, hs, hx, hrun]
  exact h v' w' h2 h3 h4

theorem lxP_no {x : UInt8} (h : lxP x = false) : (x.toNat : Int) < 32 ∨ (126 : Int) < (x.toNat : Int) := by
  unfold lxP at h
  rw [decide_eq_false_iff_not] at h
  have e1 : (32 ≤ x) ↔ 32 ≤ x.toNat := UInt8.le_iff_toNat_le
  have e2 : (x ≤ 126) ↔ x.toNat ≤ 126 := UInt8.le_iff_toNat_le
  rw [e1, e2] at h
  omega
theorem lxP_yes {x : UInt8} (h : lxP x = true) : ¬ ((x.toNat : Int) < 32) ∧ ¬ ((126 : Int) < (x.toNat : Int)) := by
  unfold lxP at h
  rw [decide_eq_true_eq] at h
  have e1 : (32 ≤ x) ↔ 32 ≤ x.toNat := UInt8.le_iff_toNat_le
  have e2 : (x ≤ 126) ↔ x.toNat ≤ 126 := UInt8.le_iff_toNat_le
  rw [e1, e2] at h
  omega
theorem lit_own (w : World) (n : Nat) (hn : n < 256) : St Zf [ObA 5 (.slice (some ⟨w.heap.size, 0, none⟩) 1 1) [n]] w (w.alloc (.cells #[.int .u8 n] 5)) := by
  have ho := World.ownsRow_lit (base := w.heap.size) (e := 5) (size := 1) w #[.int .u8 n] 1 (Nat.le_refl _) (by decide) rfl
  exact (St.start Zf w).newOb ⟨by intro y hy; rw [List.mem_singleton] at hy; omega, ho⟩ ((Below.refl _ _).alloc (Nat.le_refl _) _)
set_option maxRecDepth 100000 in
set_option maxHeartbeats 4000000 in
theorem refQuote_any (s : ByteArray) (w : World) (hs : s.size ≤ 34000000000000) :
    Calls Tryz.prog 15 #[.string s] w fun e w' => e = .returned (.string (mkS (quoteB (lS s)))) ∧ Below w.heap.size w w' := by
  have H0 := Lib.hid (lit_own w 39 (by decide))
  have HX : Hid (∀ k (h' : k < s.size), (lS s)[k]? = some (s[k]'h')) := Lib.hid fun k h' => byte_at s k h'
  have HKL : Hid (∀ k, (quoteK (lS s) k).length + 4 ≤ 140737488355328) := Lib.hid fun k => by have := quoteK_len (lS s) k; have := lS_len s; omega
  obtain ⟨i0, hi, hz0, hz1, hz2⟩ := info_parts u8_info
  go_enter Tryz.func15, Tryz.ntmps15
  go_wp2
  go_loopw [3, 4, 5] (fun v i _ wr => ∃ (k : Nat) (A : Option Addr) (c : Nat) (O : List Nat), k ≤ s.size ∧ v = .slice A O.length c ∧ i = .int .i64 k ∧ Hid (O = nb (quoteK (lS s) k)) ∧ Hid (St Zf [ObA 5 (.slice A O.length c) O] w wr)) (fun _ i _ _ => s.size - (intOf i).toNat)
  case atStart => exact ⟨0, _, _, [39], Nat.zero_le _, rfl, rfl, Lib.hid rfl, H0⟩
  case round =>
    obtain ⟨k, A, c, O, hk, rfl, rfl, HO, HST⟩ := hrel
    clear H0
    have HLn : Hid (O.length + 1 ≤ 140737488355328 ∧ O.length + 2 ≤ 140737488355328 ∧ O.length + 4 ≤ 140737488355328) := Lib.hid (by have := HKL.out k; rw [HO.out, nb_len]; omega)
    have HLn1 : Hid ((O ++ [92]).length + 1 ≤ 140737488355328) := Lib.hid (by have := HLn.out; rw [List.length_append, List.length_singleton]; omega)
    by_cases hlt : k < s.size
    · have hks : k < s.size := hlt
      have hbyte := HX.out k hks
      obtain ⟨x, hx⟩ : ∃ x, x = s[k]'hks := ⟨_, rfl⟩
      rw [← hx] at hbyte
      have HQ := Lib.hid (quoteK_succ _ _ _ hbyte)
      have hx' := hx.symm
      clear hbyte hx
      by_cases x10 : x = 10
      · subst x10
        have f1 : (((10 : UInt8).toNat : Int) == 10) = true := by decide
        have HON : Hid (nb (quoteK (lS s) k) ++ [92, 110] = nb (quoteK (lS s) (k + 1))) := Lib.hid (by rw [HQ.out, nb_app]; rfl)
        rw [← HO.out] at HON
        clear HX HQ
        go_wp2_with (at_builtin; refine wpList_append_bytes _ rfl _ _ 50 rfl 0 5 i0 Tryz.underlying50 hi hz0 hz1 hz2 _ O (by rfl) (HST.out.alloc (.cells #[.int .u8 92, .int .u8 110] 5)).ob (some ⟨wr.heap.size, 0, none⟩) 2 (wr.heap.size + 1) [92, 110] 2 rfl (by rfl) (RB.lit wr 5 (by unfold IsBytes; decide) _ rfl) HLn.out.2.1 (Nat.zero_le _) ?_; intro va wa howna hga hata; have ha := (HST.out.alloc (.cells #[.int .u8 92, .int .u8 110] 5)).grewOb howna hga hata (Nat.le_refl _); obtain ⟨Oa, hOa⟩ : ∃ P, P = O ++ [92, 110] := ⟨_, rfl⟩; rw [← hOa] at howna ha; obtain ⟨Aa, ca, rfl, -, -, -, -⟩ := howna.form; have Ha := Lib.hid ha; have HOa := Lib.hid hOa; clear howna hga hata ha hOa)
        go_wp2
        go_roundw
        case rel => exact ⟨k + 1, _, _, Oa, by omega, rfl, by go_num, Lib.hid (HOa.out.trans HON.out), Ha⟩
        case measure => simp [intOf]; omega
      · have f10 : ((x.toNat : Int) == 10) = false := by
          rw [beq_eq_false_iff_ne]
          intro e
          exact x10 (UInt8.toNat_inj.1 (by show x.toNat = 10; omega))
        by_cases x13 : x = 13
        · subst x13
          have f1 : (((13 : UInt8).toNat : Int) == 13) = true := by decide
          have HON : Hid (nb (quoteK (lS s) k) ++ [92, 114] = nb (quoteK (lS s) (k + 1))) := Lib.hid (by rw [HQ.out, nb_app]; rfl)
          rw [← HO.out] at HON
          clear HX HQ
          go_wp2_with (at_builtin; refine wpList_append_bytes _ rfl _ _ 50 rfl 0 5 i0 Tryz.underlying50 hi hz0 hz1 hz2 _ O (by rfl) (HST.out.alloc (.cells #[.int .u8 92, .int .u8 114] 5)).ob (some ⟨wr.heap.size, 0, none⟩) 2 (wr.heap.size + 1) [92, 114] 2 rfl (by rfl) (RB.lit wr 5 (by unfold IsBytes; decide) _ rfl) HLn.out.2.1 (Nat.zero_le _) ?_; intro va wa howna hga hata; have ha := (HST.out.alloc (.cells #[.int .u8 92, .int .u8 114] 5)).grewOb howna hga hata (Nat.le_refl _); obtain ⟨Oa, hOa⟩ : ∃ P, P = O ++ [92, 114] := ⟨_, rfl⟩; rw [← hOa] at howna ha; obtain ⟨Aa, ca, rfl, -, -, -, -⟩ := howna.form; have Ha := Lib.hid ha; have HOa := Lib.hid hOa; clear howna hga hata ha hOa)
          go_wp2
          go_roundw
          case rel => exact ⟨k + 1, _, _, Oa, by omega, rfl, by go_num, Lib.hid (HOa.out.trans HON.out), Ha⟩
          case measure => simp [intOf]; omega
        · have f13 : ((x.toNat : Int) == 13) = false := by
            rw [beq_eq_false_iff_ne]
            intro e
            exact x13 (UInt8.toNat_inj.1 (by show x.toNat = 13; omega))
          by_cases x9 : x = 9
          · subst x9
            have f1 : (((9 : UInt8).toNat : Int) == 9) = true := by decide
            have HON : Hid (nb (quoteK (lS s) k) ++ [92, 116] = nb (quoteK (lS s) (k + 1))) := Lib.hid (by rw [HQ.out, nb_app]; rfl)
            rw [← HO.out] at HON
            clear HX HQ
            go_wp2_with (at_builtin; refine wpList_append_bytes _ rfl _ _ 50 rfl 0 5 i0 Tryz.underlying50 hi hz0 hz1 hz2 _ O (by rfl) (HST.out.alloc (.cells #[.int .u8 92, .int .u8 116] 5)).ob (some ⟨wr.heap.size, 0, none⟩) 2 (wr.heap.size + 1) [92, 116] 2 rfl (by rfl) (RB.lit wr 5 (by unfold IsBytes; decide) _ rfl) HLn.out.2.1 (Nat.zero_le _) ?_; intro va wa howna hga hata; have ha := (HST.out.alloc (.cells #[.int .u8 92, .int .u8 116] 5)).grewOb howna hga hata (Nat.le_refl _); obtain ⟨Oa, hOa⟩ : ∃ P, P = O ++ [92, 116] := ⟨_, rfl⟩; rw [← hOa] at howna ha; obtain ⟨Aa, ca, rfl, -, -, -, -⟩ := howna.form; have Ha := Lib.hid ha; have HOa := Lib.hid hOa; clear howna hga hata ha hOa)
            go_wp2
            go_roundw
            case rel => exact ⟨k + 1, _, _, Oa, by omega, rfl, by go_num, Lib.hid (HOa.out.trans HON.out), Ha⟩
            case measure => simp [intOf]; omega
          · have f9 : ((x.toNat : Int) == 9) = false := by
              rw [beq_eq_false_iff_ne]
              intro e
              exact x9 (UInt8.toNat_inj.1 (by show x.toNat = 9; omega))
            have hx255 := x.toNat_lt
            by_cases hp : lxP x = false
            · have HON : Hid (nb (quoteK (lS s) k) ++ [92, 120, (hxD (x.toNat / 16)).toNat, (hxD (x.toNat % 16)).toNat] = nb (quoteK (lS s) (k + 1))) := Lib.hid (by
                rw [HQ.out, nb_app]
                unfold qByte
                rw [if_neg x10, if_neg x13, if_neg x9, if_pos hp]
                rfl)
              rw [← HO.out] at HON
              have hsm : (x.toNat : Int) < 32 ∨ (126 : Int) < (x.toNat : Int) := lxP_no hp
              obtain ⟨u1, u2⟩ := hexL_at (n := x.toNat / 16) (by omega)
              obtain ⟨v1, v2⟩ := hexL_at (n := x.toNat % 16) (by omega)
              have hhi : (x.toNat : Int) / 16 = ((x.toNat / 16 : Nat) : Int) := by omega
              have hlo : (x.toNat : Int) % 16 = ((x.toNat % 16 : Nat) : Int) := by omega
              have hhi2 : (x.toNat : Int).tdiv 16 = ((x.toNat / 16 : Nat) : Int) := by rw [Int.tdiv_eq_ediv_of_nonneg (by omega)]; try omega
              have hlo2 : (x.toNat : Int).tmod 16 = ((x.toNat % 16 : Nat) : Int) := by rw [Int.tmod_eq_emod_of_nonneg (by omega)]; try omega
              have a1 : x.toNat / 16 < 16 := by omega
              have a2 : x.toNat % 16 < 16 := by omega
              generalize hxD (x.toNat / 16) = X at *
              generalize hxD (x.toNat % 16) = Y at *
              generalize x.toNat / 16 = i at *
              generalize x.toNat % 16 = j at *
              have hwi : IntKind.u8.wrap (i : Int) = (i : Int) := by rw [IntKind.wrap_u8]; omega
              have hi16 : (i : Int) < 16 := by omega
              have hj16 : (j : Int) < 16 := by omega
              have hXl := X.toNat_lt
              have hYl := Y.toNat_lt
              clear HX HQ hp x10 x13 x9
              have HXY : Hid (IsBytes [92, 120, X.toNat, Y.toNat]) := Lib.hid (by intro y hy; simp only [List.mem_cons, List.not_mem_nil, or_false] at hy; omega)
              rcases hsm with hsm | hsm
              · skip
                go_wp2_with fail
                refine wp_region_held_drew (S := (fun _ => True)) (by kernel_rfl) (by (try dsimp only); done) (fun hHeld => ?_)
                refine wpAnyH_take (i := 0) (v := ?_) rfl (by kernel_rfl) (by kernel_rfl) (by kernel_rfl) (fun _ _ _ h => h) (Or.inl ⟨by rfl, ?_⟩) (by assumption) ?_
                rotate_left
                · (intro w hSw; (try dsimp only at hSw); go_simp; try with_reducible rfl)
                try simp only [Act.put, List.getElem_toArray, List.getElem_cons_zero, List.getElem_cons_succ, List.setIfInBounds_toArray, List.set_cons_zero, List.set_cons_succ]
                refine wpAnyH_take (i := 1) (v := ?_) rfl (by kernel_rfl) (by kernel_rfl) (by kernel_rfl) (fun _ _ _ h => h) (Or.inl ⟨by rfl, ?_⟩) (by assumption) ?_
                rotate_left
                · (intro w hSw; (try dsimp only at hSw); go_simp; try with_reducible rfl)
                try simp only [Act.put, List.getElem_toArray, List.getElem_cons_zero, List.getElem_cons_succ, List.setIfInBounds_toArray, List.set_cons_zero, List.set_cons_succ]
                refine wpAnyH_take (i := 2) (v := ?_) rfl (by kernel_rfl) (by kernel_rfl) (by kernel_rfl) (fun _ _ _ h => h) (Or.inl ⟨by rfl, ?_⟩) (by assumption) ?_
                rotate_left
                · (intro w hSw; (try dsimp only at hSw); go_simp; try with_reducible rfl)
                try simp only [Act.put, List.getElem_toArray, List.getElem_cons_zero, List.getElem_cons_succ, List.setIfInBounds_toArray, List.set_cons_zero, List.set_cons_succ]
                refine wpAnyH_take (i := 3) (v := ?_) rfl (by kernel_rfl) (by kernel_rfl) (by kernel_rfl) (fun _ _ _ h => h) (Or.inl ⟨by rfl, ?_⟩) (by assumption) ?_
                rotate_left
                · (intro w hSw; (try dsimp only at hSw); go_simp; try with_reducible rfl)
                try simp only [Act.put, List.getElem_toArray, List.getElem_cons_zero, List.getElem_cons_succ, List.setIfInBounds_toArray, List.set_cons_zero, List.set_cons_succ]
                refine wpAnyH_take (i := 4) (v := ?_) rfl (by kernel_rfl) (by kernel_rfl) (by kernel_rfl) (fun _ _ _ h => h) (Or.inl ⟨by rfl, ?_⟩) (by assumption) ?_
                rotate_left
                · (intro w hSw; (try dsimp only at hSw); go_simp; try with_reducible rfl)
                try simp only [Act.put, List.getElem_toArray, List.getElem_cons_zero, List.getElem_cons_succ, List.setIfInBounds_toArray, List.set_cons_zero, List.set_cons_succ]
                refine wpAnyH_take (i := 5) (v := ?_) rfl (by kernel_rfl) (by kernel_rfl) (by kernel_rfl) (fun _ _ _ h => h) (Or.inl ⟨by rfl, ?_⟩) (by assumption) ?_
                rotate_left
                · (intro w hSw; (try dsimp only at hSw); go_simp; try with_reducible rfl)
                try simp only [Act.put, List.getElem_toArray, List.getElem_cons_zero, List.getElem_cons_succ, List.setIfInBounds_toArray, List.set_cons_zero, List.set_cons_succ]
                refine wpAnyH_take (i := 6) (v := ?_) rfl (by kernel_rfl) (by kernel_rfl) (by kernel_rfl) (fun _ _ _ h => h) (Or.inl ⟨by rfl, ?_⟩) (by assumption) ?_
                rotate_left
                · (intro w hSw; (try dsimp only at hSw); go_simp; try with_reducible rfl)
                try simp only [Act.put, List.getElem_toArray, List.getElem_cons_zero, List.getElem_cons_succ, List.setIfInBounds_toArray, List.set_cons_zero, List.set_cons_succ]
                refine wpAnyH_ready (rs := [7]) (by kernel_rfl) (by simp) ?_
                refine AllReadyH.cons rfl (fun K hK => ?_) AllReadyH.nil
                go_simp
                refine hK.out _ _ (by (try dsimp only); done) (fun hHeld => ?_)
                clear hK K
                try simp only [Act.put, List.getElem_toArray, List.getElem_cons_zero, List.getElem_cons_succ, List.setIfInBounds_toArray, List.set_cons_zero, List.set_cons_succ]
                refine wpAnyH_ready (rs := [8]) (by kernel_rfl) (by simp) ?_
                refine AllReadyH.cons rfl (fun K hK => ?_) AllReadyH.nil
                refine step_append_bytes (wr.drew.alloc (.cells #[.int .u8 92, .int .u8 120, .int .u8 (X.toNat : Int), .int .u8 (Y.toNat : Int)] 5)) (by rfl) _ _ 50 (by rfl) 0 5 i0 Tryz.underlying50 hi hz0 hz1 hz2 _ O (by rfl) (HST.out.drew.alloc (.cells #[.int .u8 92, .int .u8 120, .int .u8 (X.toNat : Int), .int .u8 (Y.toNat : Int)] 5)).ob (some ⟨wr.heap.size, 0, none⟩) 4 (wr.heap.size + 1) [92, 120, X.toNat, Y.toNat] 4 rfl (by rfl) (RB.lit wr.drew 5 (HXY.out) _ rfl) HLn.out.2.2 (Nat.zero_le _) ?_
                intro va wa howna hga hata
                have ha := (HST.out.drew.alloc (.cells #[.int .u8 92, .int .u8 120, .int .u8 (X.toNat : Int), .int .u8 (Y.toNat : Int)] 5)).grewOb howna hga hata (Nat.le_refl _)
                obtain ⟨Oa, hOa⟩ : ∃ P, P = O ++ [92, 120, X.toNat, Y.toNat] := ⟨_, rfl⟩
                rw [← hOa] at howna ha
                obtain ⟨Aa, ca, rfl, -, -, -, -⟩ := howna.form
                have Ha := Lib.hid ha
                have HOa := Lib.hid hOa
                clear howna hga hata ha hOa
                refine hK.out _ _ (by (try dsimp only); done) (fun hHeld => ?_)
                clear hK K
                try simp only [Act.put, List.getElem_toArray, List.getElem_cons_zero, List.getElem_cons_succ, List.setIfInBounds_toArray, List.set_cons_zero, List.set_cons_succ]
                refine wpAnyH_take (i := 9) (v := ?_) rfl (by kernel_rfl) (by kernel_rfl) (by kernel_rfl) (fun _ _ _ h => h) (Or.inl ⟨by rfl, ?_⟩) (by assumption) ?_
                rotate_left
                · (intro w hSw; (try dsimp only at hSw); go_simp; try with_reducible rfl)
                try simp only [Act.put, List.getElem_toArray, List.getElem_cons_zero, List.getElem_cons_succ, List.setIfInBounds_toArray, List.set_cons_zero, List.set_cons_succ]
                refine wpAnyH_done (by kernel_rfl) ?_ _
                go_wp2
                go_roundw
                case rel => exact ⟨k + 1, _, _, Oa, by omega, rfl, by go_num, Lib.hid (HOa.out.trans HON.out), Ha⟩
                case measure => simp [intOf]; omega
              · skip
                have hsm2 : ¬ ((x.toNat : Int) < 32) := by omega
                go_wp2_with fail
                refine wp_region_held_drew (S := (fun _ => True)) (by kernel_rfl) (by (try dsimp only); done) (fun hHeld => ?_)
                refine wpAnyH_take (i := 0) (v := ?_) rfl (by kernel_rfl) (by kernel_rfl) (by kernel_rfl) (fun _ _ _ h => h) (Or.inl ⟨by rfl, ?_⟩) (by assumption) ?_
                rotate_left
                · (intro w hSw; (try dsimp only at hSw); go_simp; try with_reducible rfl)
                try simp only [Act.put, List.getElem_toArray, List.getElem_cons_zero, List.getElem_cons_succ, List.setIfInBounds_toArray, List.set_cons_zero, List.set_cons_succ]
                refine wpAnyH_take (i := 1) (v := ?_) rfl (by kernel_rfl) (by kernel_rfl) (by kernel_rfl) (fun _ _ _ h => h) (Or.inl ⟨by rfl, ?_⟩) (by assumption) ?_
                rotate_left
                · (intro w hSw; (try dsimp only at hSw); go_simp; try with_reducible rfl)
                try simp only [Act.put, List.getElem_toArray, List.getElem_cons_zero, List.getElem_cons_succ, List.setIfInBounds_toArray, List.set_cons_zero, List.set_cons_succ]
                refine wpAnyH_take (i := 2) (v := ?_) rfl (by kernel_rfl) (by kernel_rfl) (by kernel_rfl) (fun _ _ _ h => h) (Or.inl ⟨by rfl, ?_⟩) (by assumption) ?_
                rotate_left
                · (intro w hSw; (try dsimp only at hSw); go_simp; try with_reducible rfl)
                try simp only [Act.put, List.getElem_toArray, List.getElem_cons_zero, List.getElem_cons_succ, List.setIfInBounds_toArray, List.set_cons_zero, List.set_cons_succ]
                refine wpAnyH_take (i := 3) (v := ?_) rfl (by kernel_rfl) (by kernel_rfl) (by kernel_rfl) (fun _ _ _ h => h) (Or.inl ⟨by rfl, ?_⟩) (by assumption) ?_
                rotate_left
                · (intro w hSw; (try dsimp only at hSw); go_simp; try with_reducible rfl)
                try simp only [Act.put, List.getElem_toArray, List.getElem_cons_zero, List.getElem_cons_succ, List.setIfInBounds_toArray, List.set_cons_zero, List.set_cons_succ]
                refine wpAnyH_take (i := 4) (v := ?_) rfl (by kernel_rfl) (by kernel_rfl) (by kernel_rfl) (fun _ _ _ h => h) (Or.inl ⟨by rfl, ?_⟩) (by assumption) ?_
                rotate_left
                · (intro w hSw; (try dsimp only at hSw); go_simp; try with_reducible rfl)
                try simp only [Act.put, List.getElem_toArray, List.getElem_cons_zero, List.getElem_cons_succ, List.setIfInBounds_toArray, List.set_cons_zero, List.set_cons_succ]
                refine wpAnyH_take (i := 5) (v := ?_) rfl (by kernel_rfl) (by kernel_rfl) (by kernel_rfl) (fun _ _ _ h => h) (Or.inl ⟨by rfl, ?_⟩) (by assumption) ?_
                rotate_left
                · (intro w hSw; (try dsimp only at hSw); go_simp; try with_reducible rfl)
                try simp only [Act.put, List.getElem_toArray, List.getElem_cons_zero, List.getElem_cons_succ, List.setIfInBounds_toArray, List.set_cons_zero, List.set_cons_succ]
                refine wpAnyH_take (i := 6) (v := ?_) rfl (by kernel_rfl) (by kernel_rfl) (by kernel_rfl) (fun _ _ _ h => h) (Or.inl ⟨by rfl, ?_⟩) (by assumption) ?_
                rotate_left
                · (intro w hSw; (try dsimp only at hSw); go_simp; try with_reducible rfl)
                try simp only [Act.put, List.getElem_toArray, List.getElem_cons_zero, List.getElem_cons_succ, List.setIfInBounds_toArray, List.set_cons_zero, List.set_cons_succ]
                refine wpAnyH_ready (rs := [7]) (by kernel_rfl) (by simp) ?_
                refine AllReadyH.cons rfl (fun K hK => ?_) AllReadyH.nil
                go_simp
                refine hK.out _ _ (by (try dsimp only); done) (fun hHeld => ?_)
                clear hK K
                try simp only [Act.put, List.getElem_toArray, List.getElem_cons_zero, List.getElem_cons_succ, List.setIfInBounds_toArray, List.set_cons_zero, List.set_cons_succ]
                refine wpAnyH_ready (rs := [8]) (by kernel_rfl) (by simp) ?_
                refine AllReadyH.cons rfl (fun K hK => ?_) AllReadyH.nil
                refine step_append_bytes (wr.drew.alloc (.cells #[.int .u8 92, .int .u8 120, .int .u8 (X.toNat : Int), .int .u8 (Y.toNat : Int)] 5)) (by rfl) _ _ 50 (by rfl) 0 5 i0 Tryz.underlying50 hi hz0 hz1 hz2 _ O (by rfl) (HST.out.drew.alloc (.cells #[.int .u8 92, .int .u8 120, .int .u8 (X.toNat : Int), .int .u8 (Y.toNat : Int)] 5)).ob (some ⟨wr.heap.size, 0, none⟩) 4 (wr.heap.size + 1) [92, 120, X.toNat, Y.toNat] 4 rfl (by rfl) (RB.lit wr.drew 5 (HXY.out) _ rfl) HLn.out.2.2 (Nat.zero_le _) ?_
                intro va wa howna hga hata
                have ha := (HST.out.drew.alloc (.cells #[.int .u8 92, .int .u8 120, .int .u8 (X.toNat : Int), .int .u8 (Y.toNat : Int)] 5)).grewOb howna hga hata (Nat.le_refl _)
                obtain ⟨Oa, hOa⟩ : ∃ P, P = O ++ [92, 120, X.toNat, Y.toNat] := ⟨_, rfl⟩
                rw [← hOa] at howna ha
                obtain ⟨Aa, ca, rfl, -, -, -, -⟩ := howna.form
                have Ha := Lib.hid ha
                have HOa := Lib.hid hOa
                clear howna hga hata ha hOa
                refine hK.out _ _ (by (try dsimp only); done) (fun hHeld => ?_)
                clear hK K
                try simp only [Act.put, List.getElem_toArray, List.getElem_cons_zero, List.getElem_cons_succ, List.setIfInBounds_toArray, List.set_cons_zero, List.set_cons_succ]
                refine wpAnyH_take (i := 9) (v := ?_) rfl (by kernel_rfl) (by kernel_rfl) (by kernel_rfl) (fun _ _ _ h => h) (Or.inl ⟨by rfl, ?_⟩) (by assumption) ?_
                rotate_left
                · (intro w hSw; (try dsimp only at hSw); go_simp; try with_reducible rfl)
                try simp only [Act.put, List.getElem_toArray, List.getElem_cons_zero, List.getElem_cons_succ, List.setIfInBounds_toArray, List.set_cons_zero, List.set_cons_succ]
                refine wpAnyH_done (by kernel_rfl) ?_ _
                go_wp2
                go_roundw
                case rel => exact ⟨k + 1, _, _, Oa, by omega, rfl, by go_num, Lib.hid (HOa.out.trans HON.out), Ha⟩
                case measure => simp [intOf]; omega
            · have hp' : lxP x = true := by simpa using hp
              obtain ⟨g1, g2⟩ := lxP_yes hp'
              by_cases hq : x = 39 ∨ x = 92
              · have HON : Hid ((nb (quoteK (lS s) k) ++ [92]) ++ [x.toNat] = nb (quoteK (lS s) (k + 1))) := Lib.hid (by
                  rw [HQ.out, nb_app]
                  unfold qByte
                  rw [if_neg x10, if_neg x13, if_neg x9, if_neg hp, if_pos hq, List.append_assoc]
                  rfl)
                rw [← HO.out] at HON
                clear HX HQ hp hp'
                rcases hq with hq | hq
                · have f1 : ((x.toNat : Int) == 39) = true := by rw [hq]; decide
                  clear hq
                  go_wp2_with (first
                    | (at_builtin; refine wpList_append_lit8 _ rfl _ _ 50 rfl 0 5 i0 Tryz.underlying50 hi hz0 hz1 hz2 _ O 92 (by rfl) HST.out.ob (by rfl) 92 rfl (by decide) HLn.out.1 (Nat.zero_le _) ?_; intro va wa howna hga hata; have ha := HST.out.grewOb howna hga hata (Nat.le_succ _); obtain ⟨Oa, hOa⟩ : ∃ P, P = O ++ [92] := ⟨_, rfl⟩; rw [← hOa] at howna ha; obtain ⟨Aa, ca, rfl, -, -, -, -⟩ := howna.form; have Ha := Lib.hid ha; have HOa := Lib.hid hOa; clear howna hga hata ha hOa)
                    | (at_builtin; refine wpList_append_lit8 _ rfl _ _ 50 rfl 0 5 i0 Tryz.underlying50 hi hz0 hz1 hz2 _ Oa x.toNat (by rfl) Ha.out.ob (by rfl) x.toNat rfl hx255 (by rw [HOa.out]; exact HLn1.out) (Nat.zero_le _) ?_; intro vb wb hownb hgb hatb; have hb := Ha.out.grewOb hownb hgb hatb (Nat.le_succ _); obtain ⟨Ob, hOb⟩ : ∃ P, P = Oa ++ [x.toNat] := ⟨_, rfl⟩; rw [← hOb] at hownb hb; obtain ⟨Ab, cb, rfl, -, -, -, -⟩ := hownb.form; have Hb := Lib.hid hb; have HOb := Lib.hid hOb; clear hownb hgb hatb hb hOb))
                  go_wp2
                  go_roundw
                  case rel => exact ⟨k + 1, _, _, Ob, by omega, rfl, by go_num, Lib.hid (by rw [HOb.out, HOa.out]; exact HON.out), Hb⟩
                  case measure => simp [intOf]; omega
                · have f1 : ((x.toNat : Int) == 92) = true := by rw [hq]; decide
                  have f2 : ((x.toNat : Int) == 39) = false := by rw [hq]; decide
                  clear hq
                  go_wp2_with (first
                    | (at_builtin; refine wpList_append_lit8 _ rfl _ _ 50 rfl 0 5 i0 Tryz.underlying50 hi hz0 hz1 hz2 _ O 92 (by rfl) HST.out.ob (by rfl) 92 rfl (by decide) HLn.out.1 (Nat.zero_le _) ?_; intro va wa howna hga hata; have ha := HST.out.grewOb howna hga hata (Nat.le_succ _); obtain ⟨Oa, hOa⟩ : ∃ P, P = O ++ [92] := ⟨_, rfl⟩; rw [← hOa] at howna ha; obtain ⟨Aa, ca, rfl, -, -, -, -⟩ := howna.form; have Ha := Lib.hid ha; have HOa := Lib.hid hOa; clear howna hga hata ha hOa)
                    | (at_builtin; refine wpList_append_lit8 _ rfl _ _ 50 rfl 0 5 i0 Tryz.underlying50 hi hz0 hz1 hz2 _ Oa x.toNat (by rfl) Ha.out.ob (by rfl) x.toNat rfl hx255 (by rw [HOa.out]; exact HLn1.out) (Nat.zero_le _) ?_; intro vb wb hownb hgb hatb; have hb := Ha.out.grewOb hownb hgb hatb (Nat.le_succ _); obtain ⟨Ob, hOb⟩ : ∃ P, P = Oa ++ [x.toNat] := ⟨_, rfl⟩; rw [← hOb] at hownb hb; obtain ⟨Ab, cb, rfl, -, -, -, -⟩ := hownb.form; have Hb := Lib.hid hb; have HOb := Lib.hid hOb; clear hownb hgb hatb hb hOb))
                  go_wp2
                  go_roundw
                  case rel => exact ⟨k + 1, _, _, Ob, by omega, rfl, by go_num, Lib.hid (by rw [HOb.out, HOa.out]; exact HON.out), Hb⟩
                  case measure => simp [intOf]; omega
              · have HON : Hid (nb (quoteK (lS s) k) ++ [x.toNat] = nb (quoteK (lS s) (k + 1))) := Lib.hid (by
                  rw [HQ.out, nb_app]
                  unfold qByte
                  rw [if_neg x10, if_neg x13, if_neg x9, if_neg hp, if_neg hq]
                  rfl)
                rw [← HO.out] at HON
                have f1 : ((x.toNat : Int) == 39) = false := by rw [beq_eq_false_iff_ne]; intro e; exact hq (.inl (UInt8.toNat_inj.1 (by show x.toNat = 39; omega)))
                have f2 : ((x.toNat : Int) == 92) = false := by rw [beq_eq_false_iff_ne]; intro e; exact hq (.inr (UInt8.toNat_inj.1 (by show x.toNat = 92; omega)))
                clear HX HQ hp hp' hq
                go_wp2_with (at_builtin; refine wpList_append_lit8 _ rfl _ _ 50 rfl 0 5 i0 Tryz.underlying50 hi hz0 hz1 hz2 _ O x.toNat (by rfl) HST.out.ob (by rfl) x.toNat rfl hx255 HLn.out.1 (Nat.zero_le _) ?_; intro vb wb hownb hgb hatb; have hb := HST.out.grewOb hownb hgb hatb (Nat.le_succ _); obtain ⟨Ob, hOb⟩ : ∃ P, P = O ++ [x.toNat] := ⟨_, rfl⟩; rw [← hOb] at hownb hb; obtain ⟨Ab, cb, rfl, -, -, -, -⟩ := hownb.form; have Hb := Lib.hid hb; have HOb := Lib.hid hOb; clear hownb hgb hatb hb hOb)
                go_wp2
                go_roundw
                case rel => exact ⟨k + 1, _, _, Ob, by omega, rfl, by go_num, Lib.hid (HOb.out.trans HON.out), Hb⟩
                case measure => simp [intOf]; omega
    · obtain rfl : k = s.size := by omega
      have HON : Hid (nb (quoteK (lS s) s.size) ++ [39] = nb (quoteB (lS s))) := Lib.hid (by rw [← quoteK_all (lS s) s.size (by rw [lS_len]; omega), nb_app]; rfl)
      rw [← HO.out] at HON
      clear HX
      go_wp2_with (at_builtin; refine wpList_append_lit8 _ rfl _ _ 50 rfl 0 5 i0 Tryz.underlying50 hi hz0 hz1 hz2 _ O 39 (by rfl) HST.out.ob (by rfl) 39 rfl (by decide) HLn.out.1 (Nat.zero_le _) ?_; intro vb wb hownb hgb hatb; have hb := HST.out.grewOb hownb hgb hatb (Nat.le_succ _); obtain ⟨Ob, hOb⟩ : ∃ P, P = O ++ [39] := ⟨_, rfl⟩; rw [← hOb] at hownb hb; obtain ⟨Ab, cb, rfl, -, -, -, -⟩ := hownb.form; have Hb := Lib.hid hb; have HOb := Lib.hid hOb; clear hownb hgb hatb hb hOb; have hconv := run_bytes_str (P := Tryz.prog) (w := wb) 50 9 5 cb Tryz.underlying50 Tryz.underlying5 Tryz.underlying9 Hb.out.ob.reads.2.1)
      go_wp2
      go_ret
      exact ⟨by rw [HOb.out, HON.out, strOf_nb]; rfl, Hb.out.bel⟩
end Go.Proofs.YtcfobagcdgnfoaaGreatDoor

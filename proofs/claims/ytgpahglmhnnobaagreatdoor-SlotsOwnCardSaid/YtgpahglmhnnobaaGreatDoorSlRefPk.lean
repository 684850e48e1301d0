/- slots: the document's Need. -/
import Derived.Test.YtgpahglmhnnobaaGreatDoorSlPack
import Derived.Test.YtgpahglmhnnobaaGreatDoorValEnc4
import Derived.Test.YtgpahglmhnnobaaGreatDoorSlPack2
import Derived.Test.YtgpahglmhnnobaaGreatDoorValRefA
namespace Go.Proofs.YtgpahglmhnnobaaGreatDoor
open Go.RowKit
set_option linter.unusedVariables false
set_option linter.unusedSimpArgs false

set_option maxHeartbeats 800000 in
theorem refNeed_any (v : Vv) (x : Value) (B : Nat) (w : World) (h : VR w B v x) (hB : B ≤ w.heap.size) :
    Calls Tryz.prog 43 #[x] w fun e w' => e = .returned (.int .i64 (if chk v = 0 then (need (encB v).length : Int) else 0)) ∧ Below w.heap.size w w' := by
  obtain ⟨A, c, A', c', rfl, h1, h2, h3⟩ := h
  have hV : VR w B v (vagg v A c A' c') := ⟨A, c, A', c', rfl, h1, h2, h3⟩
  obtain ⟨wo, hwo⟩ : ∃ x, x = w.alloc (.cells #[.int .i64 v.k, .int .i64 v.n, .string v.s, .slice A v.ns.length c, .slice A' v.ts.length c'] 42) := ⟨_, rfl⟩
  have hVo : VR wo B v (vagg v A c A' c') := by subst hwo; exact hV.alloc hB _
  have hb0 : Below w.heap.size w wo := by subst hwo; exact (Below.refl _ _).alloc (Nat.le_refl _) _
  have hC := refEncode_any v _ B wo hVo (by have := hb0.size; omega)
  unfold NewB at hC
  have HW := Lib.hid hwo
  have HB0 := Lib.hid hb0
  have hz1 : chk v ≠ 0 → encV v = [] := fun h => encV_no h
  have hz2 : chk v = 0 → (encV v).length = (encB v).length ∧ 0 < (encV v).length ∧ (encV v).length ≤ 40402 := fun h => by
    rw [encV_ok h]
    exact ⟨rfl, by unfold encB encHead; simp, encB_small h⟩
  clear h1 h2 h3 hV hwo hVo
  unfold vagg at hC ⊢
  by_cases h0 : chk v = 0
  · rw [if_pos h0]
    obtain ⟨e1, e2, e3⟩ := hz2 h0
    rw [← e1]
    obtain ⟨n, HN⟩ : ∃ n, Hid (n = (encV v).length) := ⟨_, Lib.hid rfl⟩
    rw [← HN.out] at e2 e3 ⊢
    have HC := Lib.hid hC
    have hne : ((n : Int) == 0) = false := beq_eq_false_iff_ne.2 (by omega)
    have hnr := need_room n
    obtain ⟨q, HQ⟩ : ∃ q, Hid (q = need n) := ⟨_, Lib.hid rfl⟩
    rw [← HQ.out] at hnr ⊢
    clear e1 hz1 hz2 h0 hb0 hC
    go_enter Tryz.func43, Tryz.ntmps43
    go_wp2_with fail
    rw [← HW.out]
    refine (HC.out).mono ?_
    rintro e w1 ⟨y, rfl, ho, b1⟩
    obtain ⟨Ay, cy, rfl, -, -, -, -⟩ := ho.form
    have HB1 := Lib.hid (HB0.out.trans (b1.mono HB0.out.size))
    rw [← HN.out]
    clear b1 ho HC
    go_wp2
    go_loopw [4] (fun i wr => ∃ k : Nat, k ≤ q ∧ i = .int .i64 k ∧ wr = w1) (fun i _ => q - (intOf i).toNat)
    case atStart => exact ⟨0, Nat.zero_le _, rfl, rfl⟩
    case round =>
      obtain ⟨k, hk, rfl, rfl⟩ := hrel
      by_cases hlt : 8 * k < n + 2
      · have hlt2 : 8 * (k : Int) < (n : Int) + 2 := by omega
        go_wp2
        go_roundw
        case rel => exact ⟨k + 1, by omega, by go_num, trivial⟩
        case measure => simp [intOf]; omega
      · have hlt2 : ¬ 8 * (k : Int) < (n : Int) + 2 := by omega
        obtain rfl : k = q := by omega
        go_wp2
        go_ret
        exact ⟨rfl, HB1.out⟩
  · rw [if_neg h0]
    rw [hz1 h0] at hC
    have HC := Lib.hid hC
    clear hz1 hz2 h0 hb0 hC
    go_enter Tryz.func43, Tryz.ntmps43
    go_wp2_with fail
    rw [← HW.out]
    refine (HC.out).mono ?_
    rintro e w1 ⟨y, rfl, ho, b1⟩
    obtain ⟨Ay, cy, rfl, -, -, -, -⟩ := ho.form
    have HB1 := Lib.hid (HB0.out.trans (b1.mono HB0.out.size))
    clear b1 ho HC
    go_wp2
    go_ret
    exact ⟨rfl, HB1.out⟩
end Go.Proofs.YtgpahglmhnnobaaGreatDoor

/- slots: the document's Pack: put, Fits. -/
namespace Go.Proofs.YtgpahglmhnnobaaGreatDoor
open Go.RowKit
set_option linter.unusedVariables false
set_option linter.unusedSimpArgs false

theorem bool_info : (Tryz.prog.info? 4).map (fun i => (i.zero, i.size, i.bytes)) = some (some (.bool false), 1, 1) := by kernel_rfl
abbrev bvl : Bool → Value := fun b => Value.bool b
theorem bvl_ok (b : Bool) : bvl b ≠ undef ∧ (bvl b).oneCell' = true := ⟨by simp [bvl, undef], rfl⟩
/-- which of the properties are laid in place -/
def fitsL : Pk → List Kv → List Bool
  | _, [] => []
  | p, x :: T => decide (needK x ≤ p.left) :: fitsL (pkPut p x) T
section
variable {l : List Ass} {w0 w : World}
set_option maxRecDepth 100000 in
set_option maxHeartbeats 800000 in
theorem refPut_any [Stable (Sep l)] {S : Fp} {A A2 : Option Addr} {c c2 : Nat} {D M : List Nat} (h : St S (ObA 5 (.slice A D.length c) D :: ObA 5 (.slice A2 M.length c2) M :: l) w0 w) (hl : D.length + M.length ≤ 140737488355327) :
    Calls Tryz.prog 25 #[.slice A D.length c, .slice A2 M.length c2] w fun e w' => ∃ A' c' T, Hid (T = D ++ M) ∧ e = .returned (.slice A' T.length c') ∧ St S (ObA 5 (.slice A' T.length c') T :: ObA 5 (.slice A2 M.length c2) M :: l) w0 w' := by
  obtain ⟨i0, hi, hz0, hz1, hz2⟩ := info_parts u8_info
  obtain ⟨m, HM⟩ : ∃ m, Hid (m = M.length) := ⟨_, Lib.hid rfl⟩
  rw [← HM.out] at hl h ⊢
  have H := Lib.hid h
  clear h
  go_enter Tryz.func25, Tryz.ntmps25
  go_wp2_with fail
  go_loopw [0, 5] (fun v i wr => ∃ (j : Nat) (A' : Option Addr) (c' : Nat), j ≤ m ∧ i = .int .i64 j ∧ v = .slice A' (D ++ M.take j).length c' ∧ Hid (St S (ObA 5 (.slice A' (D ++ M.take j).length c') (D ++ M.take j) :: ObA 5 (.slice A2 m c2) M :: l) w0 wr)) (fun _ i _ => m - (intOf i).toNat)
  case atStart => exact ⟨0, A, c, Nat.zero_le _, rfl, by simp, Lib.hid (by simpa using H.out)⟩
  case round =>
    obtain ⟨j, A', c', hj, rfl, rfl, HS⟩ := hrel
    by_cases hlt : j < m
    · obtain ⟨-, -, -, hrb⟩ := HS.out.drop.obR
      obtain ⟨b, off, rfl, hb, hcs⟩ := hrb.all (by rw [← HM.out]; omega)
      have q := hcs j (by rw [← HM.out]; exact hlt)
      have HST := Lib.hid (take_succ_nth M j (by rw [← HM.out]; exact hlt))
      have hnl := hrb.1.nth j
      have hle : (D ++ M.take j).length + 1 ≤ 140737488355328 := by rw [List.length_append, List.length_take]; omega
      have ho := HS.out.ob
      clear hcs hrb
      go_wp2_with (at_builtin; refine wpList_append_lit8 _ rfl _ _ 25 rfl 0 5 i0 Tryz.underlying25 hi hz0 hz1 hz2 _ _ _ (by rfl) ho (by rfl) _ rfl hnl hle (Nat.zero_le _) ?_; intro v1 w2 hown1 hg1 hat1)
      have h8 := HS.out.grewOb hown1 hg1 hat1 (Nat.le_succ _)
      obtain ⟨A8, c8, rfl, -, -, -, -⟩ := hown1.form
      go_roundw
      case rel => exact ⟨j + 1, A8, c8, by omega, by go_num, by rw [HST.out, ← List.append_assoc], Lib.hid (by rw [HST.out, ← List.append_assoc]; exact h8)⟩
      case measure => simp [intOf]; omega
    · obtain rfl : j = m := by omega
      have htk : M.take j = M := by rw [HM.out]; exact List.take_length
      rw [htk] at HS ⊢
      go_wp2
      go_ret
      exact ⟨_, _, _, Lib.hid rfl, rfl, HS.out⟩
set_option maxRecDepth 100000 in
set_option maxHeartbeats 1000000 in
theorem refFits_any [Stable (Sep l)] (A : Option Addr) (c B : Nat) (L : List Kv) (R : Nat) (h : St Zf l w0 w) (hr : KvsR w0 B A L) (hB : B ≤ w0.heap.size) (hck : ∀ x ∈ L, chk x.v = 0) (hn : L.length ≤ 16) (hR : R ≤ 16) :
    Calls Tryz.prog 22 #[.slice A L.length c, .int .i64 (R : Int)] w fun e w' => ∃ v, e = .returned v ∧ St Zf (OlA bvl 4 v (fitsL (pk0 R) L) :: l) w0 w' := by
  obtain ⟨i0, hi, hz0, hz1, hz2⟩ := info_parts bool_info
  have h1 := h.newNil bvl 4 (n := w.heap.size) rfl
  have H1 := Lib.hid h1
  have HRD : Hid (∀ w', Below w0.heap.size w0 w' → KvsR w' B A L) := Lib.hid fun w' hb => hr.below (hb.mono hB)
  have HCK := Lib.hid hck
  obtain ⟨n, HN⟩ : ∃ n, Hid (n = L.length) := ⟨_, Lib.hid rfl⟩
  rw [← HN.out] at hn ⊢
  clear h hr hck h1
  go_enter Tryz.func22, Tryz.ntmps22
  go_wp2_with fail
  go_loopw [5, 6, 7] (fun v lf i wr => ∃ (k : Nat) (p : Pk) (X : List Bool), k ≤ n ∧ p.left ≤ 16 ∧ X.length = k ∧ i = .int .i64 k ∧ lf = .int .i64 (p.left : Int) ∧ Hid (fitsL (pk0 R) L = X ++ fitsL p (L.drop k)) ∧ Hid (St Zf (OlA bvl 4 v X :: l) w0 wr)) (fun _ _ i _ => n - (intOf i).toNat)
  case atStart => exact ⟨0, pk0 R, [], Nat.zero_le _, hR, rfl, rfl, rfl, Lib.hid rfl, H1⟩
  case round =>
    obtain ⟨k, p, X, hk, hpl, hXl, rfl, rfl, HF, HS⟩ := hrel
    clear H1
    by_cases hlt : k < n
    · obtain ⟨x, hx⟩ : ∃ x, L[k]? = some x := ⟨_, List.getElem?_eq_getElem (by rw [← HN.out]; exact hlt)⟩
      have hd : L.drop k = x :: L.drop (k + 1) := by
        rw [List.drop_eq_getElem_cons (by rw [← HN.out]; exact hlt)]
        rw [List.getElem?_eq_getElem (by rw [← HN.out]; exact hlt)] at hx
        rw [Option.some.inj hx]
      have hc := HCK.out x (List.mem_of_getElem? hx)
      have hbw := HS.out.bel
      have hsz := hbw.size
      obtain ⟨b, off, A1, c1, A5, c5, rfl, hb, hv, hk6, q0, q1, q2, q3, q4, q5⟩ := kv_load (HRD.out wr hbw) hx
      have hcx := refNeed_any x.v _ B wr hv (by omega)
      rw [if_pos hc] at hcx
      obtain ⟨q, HQ⟩ : ∃ q, Hid (q = needK x) := ⟨_, Lib.hid rfl⟩
      rw [show need (encB x.v).length = q from HQ.out.symm] at hcx
      obtain ⟨lf, HLF⟩ : ∃ lf, Hid (lf = p.left) := ⟨_, Lib.hid rfl⟩
      rw [← HLF.out] at hpl ⊢
      have HFD : Hid (fitsL (pk0 R) L = X ++ (decide (q ≤ lf) :: fitsL (pkPut p x) (L.drop (k + 1)))) := Lib.hid (by rw [HF.out, hd, HQ.out, HLF.out]; rfl)
      unfold vagg at hcx
      have HCX := Lib.hid hcx
      clear hx hd hv hcx hc hbw HF
      go_wp2_with fail
      refine HCX.out.mono ?_
      rintro e w6 ⟨rfl, hb6⟩
      have HS6 := Lib.hid (HS.out.below hb6)
      clear hb6 HCX q0 q1 q2 q3 q4 q5 HS
      by_cases hfit : q ≤ lf
      · have hp1 : (pkPut p x).left = lf - q := by rw [pkPut_in (by rw [← HQ.out, ← HLF.out]; exact hfit), HLF.out, HQ.out]
        have hfi : (q : Int) ≤ (lf : Int) := by omega
        have hfd : decide ((q : Int) ≤ (lf : Int)) = true := decide_eq_true hfi
        rw [decide_eq_true hfit] at HFD
        have HP := Lib.hid hp1
        clear hp1
        go_wp2_with (at_builtin; refine wpList_append_elemN _ rfl _ _ 55 rfl 0 4 i0 (.bool false) 1 Tryz.underlying55 hi hz0 hz1 hz2 rfl _ X (by rfl) HS6.out.ol true (bvl_ok true) _ rfl (by rfl) (by omega) (by omega) (Nat.zero_le _) ?_; intro v7 w7 hown7 hg7 hat7; have h7 := HS6.out.grewOl hown7 hg7 hat7 (Nat.le_succ _))
        go_roundw
        case rel => exact ⟨k + 1, pkPut p x, X ++ [true], by omega, by rw [HP.out]; omega, by rw [List.length_append, hXl]; rfl, by go_num, by rw [HP.out]; go_num, Lib.hid (by rw [HFD.out, List.append_assoc]; rfl), Lib.hid h7⟩
        case measure => simp [intOf]; omega
      · have hp1 : (pkPut p x).left = lf := by rw [pkPut_out (by rw [← HQ.out, ← HLF.out]; exact hfit), HLF.out]
        have hfi : ¬ (q : Int) ≤ (lf : Int) := by omega
        have hfd : decide ((q : Int) ≤ (lf : Int)) = false := decide_eq_false hfi
        rw [decide_eq_false hfit] at HFD
        have HP := Lib.hid hp1
        clear hp1
        go_wp2_with (at_builtin; refine wpList_append_elemN _ rfl _ _ 55 rfl 0 4 i0 (.bool false) 1 Tryz.underlying55 hi hz0 hz1 hz2 rfl _ X (by rfl) HS6.out.ol false (bvl_ok false) _ rfl (by rfl) (by omega) (by omega) (Nat.zero_le _) ?_; intro v7 w7 hown7 hg7 hat7; have h7 := HS6.out.grewOl hown7 hg7 hat7 (Nat.le_succ _))
        go_roundw
        case rel => exact ⟨k + 1, pkPut p x, X ++ [false], by omega, by rw [HP.out]; omega, by rw [List.length_append, hXl]; rfl, by go_num, by rw [HP.out], Lib.hid (by rw [HFD.out, List.append_assoc]; rfl), Lib.hid h7⟩
        case measure => simp [intOf]; omega
    · obtain rfl : k = n := by omega
      have hF := HF.out
      rw [List.drop_of_length_le (by rw [← HN.out]; exact Nat.le_refl _)] at hF
      have hF2 : fitsL (pk0 R) L = X := by rw [hF]; simp [fitsL]
      clear hF HF
      go_wp2
      go_ret
      exact ⟨_, rfl, by rw [hF2]; exact HS.out⟩
end
end Go.Proofs.YtgpahglmhnnobaaGreatDoor

/- slots: the document's Pack, whole. -/
namespace Go.Proofs.YtgpahglmhnnobaaGreatDoor
open Go.RowKit
set_option linter.unusedVariables false
set_option linter.unusedSimpArgs false

theorem pk_all : ∀ (L : List Kv) (p : Pk), (pkRun p L).2 = 0 → ∀ x ∈ L, 0 ≤ x.k ∧ x.k < 200 ∧ chk x.v = 0
  | [], p, _ => fun x hx => nomatch hx
  | x :: L, p, h => by
    by_cases he : pkErr p.key x = 0
    · rw [pkRun_ok he] at h
      obtain ⟨k1, k2, _, k4⟩ := pkErr_zero he
      intro y hy
      rcases List.mem_cons.1 hy with rfl | hy
      · exact ⟨k1, k2, k4⟩
      · exact pk_all L (pkPut p x) h y hy
    · rw [pkRun_no he] at h
      exact absurd h he
theorem pack_nil2 {L : List Kv} {room : Int} {w w1 : World} {E : Int} (he : packE L room = E) (h0 : E ≠ 0) (hb : Below w.heap.size w w1) :
    PackW L room w (.returned (.tuple #[.slice (some ⟨w1.heap.size, 0, none⟩) 0 0, .slice (some ⟨w1.heap.size + 1, 0, none⟩) 0 0, .int .i64 E])) ((w1.alloc (.cells #[] 5)).alloc (.cells #[] 5)) := by
  subst he
  refine ⟨_, _, rfl, ?_⟩
  rw [(pack_no h0).1, (pack_no h0).2]
  exact ((((St.start Zf w).below hb).newNilB 5 rfl).newNilB 5 (World.size_alloc _ _)).swap
theorem pk_on {p : Pk} {x : Kv} {T : List Kv} (h : (pkRun p (x :: T)).2 = 0) : pkErr p.key x = 0 ∧ pkRun p (x :: T) = pkRun (pkPut p x) T := by
  by_cases he : pkErr p.key x = 0
  · exact ⟨he, pkRun_ok he⟩
  · rw [pkRun_no he] at h
    exact absurd h he
def lenV : Value → Nat
  | .slice _ n _ => n
  | _ => 0
/-- how far the checks have come -/
def Prev (L : List Kv) (k : Nat) (key : Int) : Prop := k = 0 ∧ key = -1 ∨ ∃ j y, k = j + 1 ∧ L[j]? = some y ∧ key = y.k
set_option maxRecDepth 100000 in
set_option maxHeartbeats 2000000 in
theorem refPack_any (A : Option Addr) (c B : Nat) (L : List Kv) (room : Int) (w : World) (hr : KvsR w B A L) (hB : B ≤ w.heap.size) (hl : L.length ≤ 140737488351232) :
    Calls Tryz.prog 9 #[.slice A L.length c, .int .i64 room] w (PackW L room w) := by
  obtain ⟨i0, hi, hz0, hz1, hz2⟩ := info_parts u8_info
  by_cases hro : room < 0 ∨ 16 < room
  · have he : packE L room = 2 := if_pos hro
    have HF := Lib.hid (fun w1 hb => pack_nil2 (w := w) (w1 := w1) he (by decide) hb)
    clear he hr
    go_enter Tryz.func9, Tryz.ntmps9
    by_cases h0 : room < 0
    · clear hro
      go_wp2
      go_ret3
      exact HF.out _ (Below.refl _ _)
    · have h1 : 16 < room := by omega
      clear hro
      go_wp2
      go_ret3
      exact HF.out _ (Below.refl _ _)
  · obtain ⟨R, rfl⟩ : ∃ R : Nat, room = (R : Int) := ⟨room.toNat, by omega⟩
    have hR : R ≤ 16 := by omega
    have h0 : ¬ (R : Int) < 0 := by omega
    have h1 : ¬ (16 : Int) < (R : Int) := by omega
    by_cases hn : 16 < L.length
    · have he : packE L (R : Int) = 64 := by unfold packE; rw [if_neg hro, if_pos hn]
      have HF := Lib.hid (fun w1 hb => pack_nil2 (w := w) (w1 := w1) he (by decide) hb)
      obtain ⟨n, hnn⟩ : ∃ n, n = L.length := ⟨_, rfl⟩
      rw [← hnn] at hn ⊢
      have hn2 : (16 : Int) < (n : Int) := by omega
      clear he hr hnn hro
      go_enter Tryz.func9, Tryz.ntmps9
      go_wp2
      go_ret3
      exact HF.out _ (Below.refl _ _)
    · have he : packE L (R : Int) = (pkRun (pk0 R) L).2 := by unfold packE; rw [if_neg hro, if_neg hn, Int.toNat_natCast]
      have hs : (pkRun (pk0 R) L).2 = 0 → packS L (R : Int) = (pkRun (pk0 R) L).1.sl ++ List.replicate (8 * (pkRun (pk0 R) L).1.left) 0 ∧ packO L (R : Int) = (pkRun (pk0 R) L).1.ov := fun h => by
        unfold packS packO
        rw [he, if_pos h, if_pos h, Int.toNat_natCast]
        exact ⟨rfl, rfl⟩
      have HE := Lib.hid he
      have HS := Lib.hid hs
      have HF := Lib.hid (fun w1 E (hE : packE L (R : Int) = E) (h0 : E ≠ 0) hb => pack_nil2 (w := w) (w1 := w1) hE h0 hb)
      have HRD : Hid (∀ w', Below w.heap.size w w' → KvsR w' B A L) := Lib.hid fun w' hb => hr.below (hb.mono hB)
      have HR0 := Lib.hid hr
      have HBB := Lib.hid hB
      obtain ⟨n, hnn⟩ : ∃ n, n = L.length := ⟨_, rfl⟩
      have HN := Lib.hid hnn
      rw [← hnn] at hn ⊢
      have hn2 : ¬ (16 : Int) < (n : Int) := by omega
      clear he hr hnn hro hs hl hB
      go_enter Tryz.func9, Tryz.ntmps9
      go_wp2_with fail
      go_loopw [7] (fun i wr => ∃ (k : Nat) (p : Pk), k ≤ n ∧ i = .int .i64 k ∧ Hid (PkOk R k p) ∧ Hid (pkRun (pk0 R) L = pkRun p (L.drop k)) ∧ Hid (Prev L k p.key) ∧ Hid (Below w.heap.size w wr)) (fun i _ => n - (intOf i).toNat)
      case atStart => exact ⟨0, pk0 R, Nat.zero_le _, rfl, Lib.hid (PkOk.start R), Lib.hid rfl, Lib.hid (.inl ⟨rfl, rfl⟩), Lib.hid (Below.refl _ _)⟩
      case round =>
        obtain ⟨k, p, hk, rfl, HOK, HRUN, HPV, HBW⟩ := hrel
        by_cases hlt : k < n
        · obtain ⟨x, hx⟩ : ∃ x, L[k]? = some x := ⟨_, List.getElem?_eq_getElem (by rw [← HN.out]; exact hlt)⟩
          have hsz := HBW.out.size
          obtain ⟨b, off, A1, c1, A5, c5, rfl, hb, hv, hk6, q0, q1, q2, q3, q4, q5⟩ := kv_load (HRD.out wr HBW.out) hx
          have hd : L.drop k = x :: L.drop (k + 1) := by
            rw [List.drop_eq_getElem_cons (by rw [← HN.out]; exact hlt)]
            rw [List.getElem?_eq_getElem (by rw [← HN.out]; exact hlt)] at hx
            rw [Option.some.inj hx]
          have HX := Lib.hid hx
          have hcx := refCheck_any x.v _ B wr hv (by have := HBB.out; omega)
          have hcn : ∀ nq, Calls Tryz.prog 21 #[vagg x.v A1 c1 A5 c5] (wr.drewN nq) (Told (chk x.v) (wr.drewN nq)) := fun nq => refCheck_any x.v _ B (wr.drewN nq) (hv.drewN nq) (by have := HBB.out; show B ≤ wr.heap.size; omega)
          unfold vagg Told at hcx hcn
          have HCX := Lib.hid hcx
          have HCN := Lib.hid hcn
          have HNO : Hid (∀ E : Int, pkErr p.key x = E → E ≠ 0 → packE L (R : Int) = E) := Lib.hid fun E h1 h2 => by rw [HE.out, HRUN.out, hd, pkRun_no (by rw [h1]; exact h2), h1]
          have HYES : Hid (pkErr p.key x = 0 → pkRun (pk0 R) L = pkRun (pkPut p x) (L.drop (k + 1))) := Lib.hid fun h1 => by rw [HRUN.out, hd, pkRun_ok h1]
          obtain ⟨kx, HKX⟩ : ∃ kx : Int, Hid (kx = x.k) := ⟨_, Lib.hid rfl⟩
          obtain ⟨pk, HPK⟩ : ∃ pk : Int, Hid (pk = p.key) := ⟨_, Lib.hid rfl⟩
          rw [← HKX.out] at q0
          clear hx hv hcx hcn hd
          by_cases htok : kx < 0 ∨ 200 ≤ kx
          · have hpe := HNO.out 110 (pkErr_tok (by rw [← HKX.out]; exact htok)) (by decide)
            have HPE := Lib.hid hpe
            clear hpe HPV HCX q1 q2 q3 q4 q5
            by_cases hneg : kx < 0
            · have f1 : decide (kx < 0) = true := decide_eq_true hneg
              clear htok
              go_wp2_with fail
              go_ret3
              exact HF.out _ _ HPE.out (by decide) HBW.out
            · have f1 : decide (kx < 0) = false := decide_eq_false hneg
              have f2 : decide (199 < kx) = true := decide_eq_true (by omega)
              clear htok
              go_wp2_with fail
              go_ret3
              exact HF.out _ _ HPE.out (by decide) HBW.out
          · have f1 : decide (kx < 0) = false := decide_eq_false (by omega)
            have f2 : decide (199 < kx) = false := decide_eq_false (by omega)
            have f3 : ¬ kx < 0 := by omega
            have f4 : ¬ 199 < kx := by omega
            have htok' : ¬ (x.k < 0 ∨ 200 ≤ x.k) := by rw [← HKX.out]; exact htok
            clear htok
            rcases HPV.out with ⟨hz, hkey⟩ | ⟨j, y, hj, hy, hkey⟩
            · have hord : ¬ x.k ≤ p.key := by rw [hkey, ← HKX.out]; omega
              have hk0 : ¬ (0 : Int) < (k : Int) := by omega
              have hk1 : decide ((0 : Int) < (k : Int)) = false := decide_eq_false hk0
              have hk2 : decide (0 < k) = false := decide_eq_false (by omega)
              clear hkey HPV hz
              have HCX : Hid (∀ nq, Calls Tryz.prog 21 #[.agg #[.int .i64 x.v.k, .int .i64 x.v.n, .string x.v.s, .slice A1 x.v.ns.length c1, .slice A5 x.v.ts.length c5]] (wr.drewN nq) fun e w' => e = .returned (.int .i64 (chk x.v)) ∧ Below wr.heap.size (wr.drewN nq) w') := Lib.hid fun nq => HCN.out nq
              have hpe := pkErr_chk htok' hord
              by_cases hc : chk x.v = 0
              · have HY1 := Lib.hid (HYES.out (by rw [hpe]; exact hc))
                have HOK1 := Lib.hid (HOK.out.put (show pkErr p.key x = 0 by rw [hpe]; exact hc))
                have HPV1 : Hid (Prev L (k + 1) (pkPut p x).key) := Lib.hid (.inr ⟨k, x, rfl, HX.out, by unfold pkPut; split <;> rfl⟩)
                rw [hc] at HCX
                clear hpe hc htok' hord
                go_wp2_with fail
                go_big_quiet (fail)
                go_wp2_with fail
                refine (HCX.out nq).mono ?_
                rintro e w6 ⟨rfl, hb6⟩
                have HB6 := Lib.hid (HBW.out.trans ((show Below wr.heap.size wr w6 from ⟨hb6.os, hb6.tape, hb6.output, hb6.size, hb6.block⟩).mono HBW.out.size))
                clear hb6 HCX
                go_wp2_with fail
                go_roundw
                case rel => exact ⟨k + 1, pkPut p x, by omega, by go_num, HOK1, HY1, HPV1, HB6⟩
                case measure => simp [intOf]; omega
              · obtain ⟨E, hE⟩ : ∃ E, E = chk x.v := ⟨_, rfl⟩
                rw [← hE] at HCX hc hpe
                have hbe : (E != 0) = true := by simpa using hc
                have HPE := Lib.hid (HNO.out E hpe hc)
                have HNZ := Lib.hid hc
                clear hpe hE htok' hord hc
                go_wp2_with fail
                go_big_quiet (fail)
                go_wp2_with fail
                refine (HCX.out nq).mono ?_
                rintro e w6 ⟨rfl, hb6⟩
                have HB6 := Lib.hid (HBW.out.trans ((show Below wr.heap.size wr w6 from ⟨hb6.os, hb6.tape, hb6.output, hb6.size, hb6.block⟩).mono HBW.out.size))
                clear hb6 HCX
                go_wp2_with fail
                go_ret3
                exact HF.out _ _ HPE.out HNZ.out HB6.out
            · subst hj
              obtain ⟨b', off', A1', c1', A5', c5', hA', -, -, -, y0, -⟩ := kv_load (HRD.out wr HBW.out) hy
              simp only [Option.some.injEq, Addr.mk.injEq, and_true] at hA'
              obtain ⟨rfl, rfl⟩ := hA'
              obtain ⟨yk, HYK⟩ : ∃ yk : Int, Hid (yk = y.k) := ⟨_, Lib.hid rfl⟩
              rw [← HYK.out] at y0 hkey
              by_cases hle : kx ≤ yk
              · have HPE := Lib.hid (HNO.out 6 (pkErr_ord htok' (by rw [hkey, ← HKX.out]; exact hle)) (by decide))
                have f5 : decide (kx ≤ yk) = true := decide_eq_true hle
                clear htok' hkey HPV hy HCX q1 q2 q3 q4 q5
                go_wp2_with fail
                go_big_quiet (fail)
                go_wp2_with fail
                go_ret3
                exact HF.out _ _ HPE.out (by decide) (below_drewN HBW.out _)
              · have hord : ¬ x.k ≤ p.key := by rw [hkey, ← HKX.out]; exact hle
                have HCX : Hid (∀ nq, Calls Tryz.prog 21 #[.agg #[.int .i64 x.v.k, .int .i64 x.v.n, .string x.v.s, .slice A1 x.v.ns.length c1, .slice A5 x.v.ts.length c5]] (wr.drewN nq) fun e w' => e = .returned (.int .i64 (chk x.v)) ∧ Below wr.heap.size (wr.drewN nq) w') := Lib.hid fun nq => HCN.out nq
                have f5 : decide (kx ≤ yk) = false := decide_eq_false hle
                clear hkey HPV hy
                have hpe := pkErr_chk htok' hord
                by_cases hc : chk x.v = 0
                · have HY1 := Lib.hid (HYES.out (by rw [hpe]; exact hc))
                  have HOK1 := Lib.hid (HOK.out.put (show pkErr p.key x = 0 by rw [hpe]; exact hc))
                  have HPV1 : Hid (Prev L ((j + 1) + 1) (pkPut p x).key) := Lib.hid (.inr ⟨(j + 1), x, rfl, HX.out, by unfold pkPut; split <;> rfl⟩)
                  rw [hc] at HCX
                  clear hpe hc htok' hord
                  go_wp2_with fail
                  go_big_quiet (fail)
                  go_wp2_with fail
                  refine (HCX.out nq).mono ?_
                  rintro e w6 ⟨rfl, hb6⟩
                  have HB6 := Lib.hid (HBW.out.trans ((show Below wr.heap.size wr w6 from ⟨hb6.os, hb6.tape, hb6.output, hb6.size, hb6.block⟩).mono HBW.out.size))
                  clear hb6 HCX
                  go_wp2_with fail
                  go_roundw
                  case rel => exact ⟨(j + 1) + 1, pkPut p x, by omega, by go_num, HOK1, HY1, HPV1, HB6⟩
                  case measure => simp [intOf]; omega
                · obtain ⟨E, hE⟩ : ∃ E, E = chk x.v := ⟨_, rfl⟩
                  rw [← hE] at HCX hc hpe
                  have hbe : (E != 0) = true := by simpa using hc
                  have HPE := Lib.hid (HNO.out E hpe hc)
                  have HNZ := Lib.hid hc
                  clear hpe hE htok' hord hc
                  go_wp2_with fail
                  go_big_quiet (fail)
                  go_wp2_with fail
                  refine (HCX.out nq).mono ?_
                  rintro e w6 ⟨rfl, hb6⟩
                  have HB6 := Lib.hid (HBW.out.trans ((show Below wr.heap.size wr w6 from ⟨hb6.os, hb6.tape, hb6.output, hb6.size, hb6.block⟩).mono HBW.out.size))
                  clear hb6 HCX
                  go_wp2_with fail
                  go_ret3
                  exact HF.out _ _ HPE.out HNZ.out HB6.out
        · obtain rfl : k = n := by omega
          have hrun : pkRun (pk0 R) L = (p, 0) := by rw [HRUN.out, List.drop_of_length_le (by rw [← HN.out]; exact Nat.le_refl _)]; rfl
          have h20 : (pkRun (pk0 R) L).2 = 0 := by rw [hrun]
          obtain ⟨hs1, hs2⟩ := HS.out h20
          have hpe : packE L (R : Int) = 0 := by rw [HE.out]; exact h20
          have HPE := Lib.hid hpe
          have HS1 := Lib.hid hs1
          have HS2 := Lib.hid hs2
          have HALL := Lib.hid (pk_all L _ h20)
          have H20 := Lib.hid h20
          have hfx := refFits_any A c B L R ((St.start Zf w).below HBW.out) HR0.out HBB.out (fun x hx => (HALL.out x hx).2.2) (by rw [← HN.out]; omega) hR
          obtain ⟨F, HFF⟩ : ∃ F, Hid (F = fitsL (pk0 R) L) := ⟨_, Lib.hid rfl⟩
          rw [← HN.out, ← HFF.out] at hfx
          have HFX := Lib.hid hfx
          clear hrun h20 hs1 hs2 hpe hfx HOK HRUN HPV HF HE HS
          go_wp2_with fail
          refine HFX.out.mono ?_
          rintro e w5 ⟨vf, rfl, h5⟩
          obtain ⟨Af, cf, rfl, -, -, -, -⟩ := h5.ol.form
          have h6 := ((h5.newNilB 5 rfl).newNilB 5 (World.size_alloc _ _)).swap
          have H6 := Lib.hid h6
          clear h5 h6 HFX
          go_wp2_with fail
          go_loopw [10, 11, 12] (fun s o i wq => ∃ (j : Nat) (p : Pk) (As Ao : Option Addr) (cs co : Nat), j ≤ k ∧ i = .int .i64 j ∧ s = .slice As p.sl.length cs ∧ o = .slice Ao p.ov.length co ∧ Hid (PkOk R j p) ∧ Hid (pkRun (pk0 R) L = pkRun p (L.drop j)) ∧ Hid (F.drop j = fitsL p (L.drop j)) ∧ Hid (St Zf [ObA 5 (.slice As p.sl.length cs) p.sl, ObA 5 (.slice Ao p.ov.length co) p.ov, OlA bvl 4 (.slice Af F.length cf) F] w wq)) (fun _ _ i _ => k - (intOf i).toNat)
          case atStart => exact ⟨0, pk0 R, _, _, 0, 0, Nat.zero_le _, rfl, rfl, rfl, Lib.hid (PkOk.start R), Lib.hid rfl, Lib.hid (by rw [HFF.out]; rfl), H6⟩
          case round =>
            obtain ⟨j, p', As, Ao, cs, co, hj, rfl, rfl, rfl, HOK, HRUN, HFD, HS⟩ := hrel
            clear H6
            have hosl : p'.sl.length + 8 * p'.left = 8 * R := HOK.out.sl
            have hoov : p'.ov.length ≤ 646496 := by have := HOK.out.ov; omega
            by_cases hlt : j < k
            · obtain ⟨x, hx⟩ : ∃ x, L[j]? = some x := ⟨_, List.getElem?_eq_getElem (by rw [← HN.out]; exact hlt)⟩
              have hd : L.drop j = x :: L.drop (j + 1) := by
                rw [List.drop_eq_getElem_cons (by rw [← HN.out]; exact hlt)]
                rw [List.getElem?_eq_getElem (by rw [← HN.out]; exact hlt)] at hx
                rw [Option.some.inj hx]
              have hbw := HS.out.bel
              have hsz := hbw.size
              obtain ⟨b, off, A0, c0, A6, c6, rfl, hb, hv0, hk6, q0, -⟩ := kv_load (HRD.out wr hbw) hx
              obtain ⟨e1, e2⟩ := pk_on (p := p') (x := x) (T := L.drop (j + 1)) (by rw [← hd, ← HRUN.out]; exact H20.out)
              have HOK1 := Lib.hid (HOK.out.put e1)
              have HRUN1 : Hid (pkRun (pk0 R) L = pkRun (pkPut p' x) (L.drop (j + 1))) := Lib.hid (by rw [HRUN.out, hd]; exact e2)
              obtain ⟨y1, y2, y3⟩ := HALL.out x (List.mem_of_getElem? hx)
              obtain ⟨kx, hkx⟩ : ∃ kx : Nat, x.k = (kx : Int) := ⟨x.k.toNat, by omega⟩
              rw [hkx] at q0
              have hkb : kx < 200 := by omega
              have u1 : IntKind.u64.wrap ((kx : Int) + 1) = (kx : Int) + 1 := by rw [IntKind.wrap_u64]; omega
              have hKB : keyB x = enc 2 (kx + 1) := by unfold keyB; rw [hkx, show ((kx : Int) + 1).toNat = kx + 1 by omega]
              obtain ⟨K, HK⟩ : ∃ K, Hid (K = keyB x) := ⟨_, Lib.hid rfl⟩
              have HKL : Hid (K.length = 2) := Lib.hid (by rw [HK.out, hKB, enc_length])
              have hnm := refNum_any 2 (kx + 1) wr (by omega)
              rw [isW_yes (by omega), if_pos rfl, show (2 : Int).toNat = 2 from rfl, ← hKB, ← HK.out, show ((kx + 1 : Nat) : Int) = (kx : Int) + 1 by omega] at hnm
              unfold NewB at hnm
              have HNM := Lib.hid hnm
              have HX := Lib.hid hx
              have hFD : F.drop j = decide (needK x ≤ p'.left) :: fitsL (pkPut p' x) (L.drop (j + 1)) := by rw [HFD.out, hd]; rfl
              have hFl : j < F.length := by
                have h1 := congrArg List.length hFD
                rw [List.length_drop, List.length_cons] at h1
                omega
              rw [List.drop_eq_getElem_cons hFl] at hFD
              have HFJ : Hid (F[j] = decide (needK x ≤ p'.left)) := Lib.hid (List.cons.inj hFD).1
              have HFD1 : Hid (F.drop (j + 1) = fitsL (pkPut p' x) (L.drop (j + 1))) := Lib.hid (List.cons.inj hFD).2
              have HY3 := Lib.hid y3
              clear hx hd hv0 hk6 e1 e2 y1 y2 y3 hkx hKB hnm hFD hbw HRUN HFD HOK
              go_wp2_with fail
              refine HNM.out.mono ?_
              rintro e w6 ⟨v1, rfl, ho1, hb1⟩
              have h6 := HS.out.newOb ho1 hb1
              obtain ⟨A7, c7, rfl, -, -, -, -⟩ := ho1.form
              have hs6 := h6.bel.size
              obtain ⟨b', off', A1, c1, A5, c5, hA', -, hv, -, z0, z1, z2, z3, z4, z5⟩ := kv_load (HRD.out w6 h6.bel) HX.out
              simp only [Option.some.injEq, Addr.mk.injEq, and_true] at hA'
              obtain ⟨rfl, rfl⟩ := hA'
              have hen := refEncode_any x.v _ B w6 hv (by have := HBB.out; omega)
              rw [encV_ok HY3.out] at hen
              have hDl := encB_small HY3.out
              obtain ⟨D, HD⟩ : ∃ D, Hid (D = encB x.v) := ⟨_, Lib.hid rfl⟩
              rw [← HD.out] at hen hDl
              unfold vagg NewB at hen
              have HEN := Lib.hid hen
              have H6 := Lib.hid h6
              clear hv hen h6 ho1 hb1 HNM q0 HS
              go_wp2_with fail
              refine HEN.out.mono ?_
              rintro e w7 ⟨v2, rfl, ho2, hb2⟩
              have h7 := H6.out.newOb ho2 hb2
              obtain ⟨A9, c9, rfl, -, -, -, -⟩ := ho2.form
              obtain ⟨A8, c8, e8, -, -, hrl, -⟩ := h7.bring4.ol.form
              simp only [Value.slice.injEq] at e8
              obtain ⟨rfl, -, rfl⟩ := e8
              obtain ⟨bf, off2, rfl, -, hcf⟩ := hrl.all (by omega)
              have hcj := hcf j hFl
              rw [HFJ.out] at hcj
              have H7 := Lib.hid h7
              have hFi : (j : Int) < (F.length : Int) := by omega
              clear ho2 hb2 h7 hrl hcf HEN H6 z0 z1 z2 z3 z4 z5
              by_cases hfit : needK x ≤ p'.left
              · rw [decide_eq_true hfit] at hcj
                have hcj : w7.cell? ⟨bf, off2 + j, none⟩ = some (.bool true) := hcj
                have hp1 := refPut_any H7.out.swap.bring2 (by have := HKL.out; omega)
                have HP1 := Lib.hid hp1
                have hnr := need_room D.length
                have hnd : needK x = need D.length := by unfold needK; rw [HD.out]
                obtain ⟨z, hz⟩ : ∃ z, z = need D.length * 8 - 2 - D.length := ⟨_, rfl⟩
                obtain ⟨T, HT⟩ : ∃ T, Hid (T = p'.sl ++ K ++ D) := ⟨_, Lib.hid rfl⟩
                have hTl : T.length = p'.sl.length + 2 + D.length := by rw [HT.out, List.length_append, List.length_append, HKL.out]
                obtain ⟨t, ht⟩ : ∃ t, t = T.length := ⟨_, rfl⟩
                have hps : (pkPut p' x).sl = T ++ List.replicate z 0 := by rw [pkPut_in hfit, HT.out]; unfold inB; rw [← HK.out, ← HD.out, hz]; simp only [List.append_assoc]
                have hpo : (pkPut p' x).ov = p'.ov := by rw [pkPut_in hfit]
                have hzb : z < 8 ∧ (t + z) % 8 = 0 ∧ t + z ≤ 128 := by rw [hnd] at hfit; omega
                have HPS := Lib.hid hps
                have HPO := Lib.hid hpo
                have HTL := Lib.hid ht
                clear hp1 hps hpo hnr hnd hz hTl ht hfit
                go_wp2_with fail
                refine HP1.out.mono ?_
                rintro e w8 ⟨A10, c10, T1, HT1, rfl, h8⟩
                have HP2 := Lib.hid (refPut_any h8.swap.drop (by rw [HT1.out, List.length_append]; have := HKL.out; omega))
                clear h8 H7 HP1 hcj
                go_wp2_with fail
                refine HP2.out.mono ?_
                rintro e w9 ⟨A11, c11, T2, HT2, rfl, h9⟩
                obtain rfl : T = T2 := by rw [HT.out, HT2.out, HT1.out]
                have h10 := h9.swap.drop
                rw [← HTL.out] at h10 ⊢
                have H10 := Lib.hid h10
                clear h9 h10 HP2
                go_wp2_with fail
                go_loopw [10] (fun s wz => ∃ (u : Nat) (A' : Option Addr) (c' : Nat), t ≤ u ∧ u ≤ t + z ∧ s = .slice A' u c' ∧ Hid (St Zf [ObA 5 (.slice A' u c') (T ++ List.replicate (u - t) 0), ObA 5 (.slice Ao p'.ov.length co) p'.ov, OlA bvl 4 (.slice (some ⟨bf, off2, none⟩) F.length cf) F] w wz)) (fun s _ => t + z - lenV s)
                case atStart => exact ⟨t, A11, c11, Nat.le_refl _, by omega, rfl, Lib.hid (by rw [Nat.sub_self, List.replicate_zero, List.append_nil]; exact H10.out)⟩
                case round =>
                  obtain ⟨u, A', c', hu1, hu2, rfl, HS⟩ := hrel
                  clear H10
                  have hm0 : Int.tmod (u : Int) 8 = ((u % 8 : Nat) : Int) := by rw [Int.tmod_eq_emod_of_nonneg (by omega)]; rfl
                  by_cases hu : u < t + z
                  · have hm1 : (Int.tmod (u : Int) 8 == 0) = false := by rw [hm0]; simp; omega
                    have hm2 : (Int.tmod (u : Int) 8 != 0) = true := by rw [hm0]; simp; omega
                    have ho := HS.out.ob
                    have hle : (T ++ List.replicate (u - t) 0).length + 1 ≤ 140737488355328 := by rw [List.length_append, List.length_replicate, ← HTL.out]; omega
                    have hl8 : (T ++ List.replicate (u - t) 0 ++ [0]).length = u + 1 := by rw [List.length_append, List.length_append, List.length_replicate, ← HTL.out]; simp; omega
                    have hr8 : T ++ List.replicate (u + 1 - t) 0 = T ++ List.replicate (u - t) 0 ++ [0] := by rw [show u + 1 - t = (u - t) + 1 by omega, List.replicate_succ', List.append_assoc]
                    have HL8 := Lib.hid hl8
                    have HR8 := Lib.hid hr8
                    clear hm0 hl8 hr8
                    go_wp2_with (at_builtin; refine wpList_append_lit8 _ rfl _ _ 25 rfl 0 5 i0 Tryz.underlying25 hi hz0 hz1 hz2 _ (T ++ List.replicate (u - t) 0) 0 (by rfl) ho (by rfl) _ rfl (by omega) hle (Nat.zero_le _) ?_; intro v1 w2 hown1 hg1 hat1)
                    have h8 := HS.out.grewOb hown1 hg1 hat1 (Nat.le_succ _)
                    obtain ⟨A8, c8, rfl, -, -, -, -⟩ := hown1.form
                    rw [HL8.out] at h8 ⊢
                    go_roundw
                    case rel => exact ⟨u + 1, A8, c8, by omega, by omega, rfl, Lib.hid (by rw [HR8.out]; exact h8)⟩
                    case measure => simp [lenV]; omega
                  · have huz : u = t + z := by omega
                    have hm1 : (Int.tmod (u : Int) 8 == 0) = true := by rw [hm0]; simp; omega
                    have hm2 : (Int.tmod (u : Int) 8 != 0) = false := by rw [hm0]; simp; omega
                    have hpl : (pkPut p' x).sl.length = u := by rw [HPS.out, List.length_append, List.length_replicate, ← HTL.out]; omega
                    have HPL := Lib.hid hpl
                    have HUZ : Hid (z = u - t) := Lib.hid (by omega)
                    clear hm0 hpl huz
                    go_wp2_with fail
                    go_roundw
                    case rel => exact ⟨j + 1, pkPut p' x, A', Ao, c', co, by omega, by go_num, by rw [HPL.out], by rw [HPO.out], HOK1, HRUN1, HFD1, Lib.hid (by rw [HPL.out, HPO.out, HPS.out, HUZ.out]; exact HS.out)⟩
                    case measure => simp [intOf]; omega
              · rw [decide_eq_false hfit] at hcj
                have hcj : w7.cell? ⟨bf, off2 + j, none⟩ = some (.bool false) := hcj
                have hp1 := refPut_any H7.out.swap.bring3 (by have := HKL.out; omega)
                have HP1 := Lib.hid hp1
                have u2 : IntKind.u64.wrap (D.length : Int) = (D.length : Int) := by rw [IntKind.wrap_u64]; omega
                have hps : (pkPut p' x).sl = p'.sl := by rw [pkPut_out hfit]
                have hpo : (pkPut p' x).ov = p'.ov ++ K ++ enc 2 D.length ++ D := by rw [pkPut_out hfit]; unfold outB; rw [← HK.out, ← HD.out]; simp only [List.append_assoc]
                have HPS := Lib.hid hps
                have HPO := Lib.hid hpo
                clear hp1 hps hpo
                go_wp2_with fail
                refine HP1.out.mono ?_
                rintro e w8 ⟨A10, c10, T1, HT1, rfl, h8⟩
                have H8 := Lib.hid h8.swap.drop
                have hn2 := refNum_any 2 D.length w8 (by omega)
                rw [isW_yes (by omega), if_pos rfl, show (2 : Int).toNat = 2 from rfl] at hn2
                obtain ⟨N2, HNE⟩ : ∃ N2, Hid (N2 = enc 2 D.length) := ⟨_, Lib.hid rfl⟩
                rw [← HNE.out] at hn2
                unfold NewB at hn2
                have HN2 := Lib.hid hn2
                clear h8 hn2 H7 HP1 hcj
                go_wp2_with fail
                refine HN2.out.mono ?_
                rintro e w9 ⟨v3, rfl, ho3, hb3⟩
                have h9 := (H8.out.newOb ho3 hb3).swap
                obtain ⟨A11, c11, rfl, -, -, -, -⟩ := ho3.form
                have HP2 := Lib.hid (refPut_any h9 (by rw [HT1.out, HNE.out, List.length_append, enc_length]; have := HKL.out; omega))
                clear h9 ho3 hb3 HN2 H8
                go_wp2_with fail
                refine HP2.out.mono ?_
                rintro e w10 ⟨A12, c12, T2, HT2, rfl, h10⟩
                have HP3 := Lib.hid (refPut_any h10.swap.drop (by rw [HT2.out, HT1.out, HNE.out, List.length_append, List.length_append, enc_length]; have := HKL.out; omega))
                clear h10 HP2
                go_wp2_with fail
                refine HP3.out.mono ?_
                rintro e w11 ⟨A13, c13, T3, HT3, rfl, h11⟩
                have HPO : Hid ((pkPut p' x).ov = T3) := Lib.hid (by rw [HPO.out, HT3.out, HT2.out, HT1.out, HNE.out])
                have H11 := Lib.hid h11.swap.drop.swap
                clear h11 HP3
                go_wp2_with fail
                go_roundw
                case rel => exact ⟨j + 1, pkPut p' x, As, A13, cs, c13, by omega, by go_num, by rw [HPS.out], by rw [HPO.out], HOK1, HRUN1, HFD1, Lib.hid (by rw [HPS.out, HPO.out]; exact H11.out)⟩
                case measure => simp [intOf]; omega
            · obtain rfl : j = k := by omega
              have hrun : pkRun (pk0 R) L = (p', 0) := by rw [HRUN.out, List.drop_of_length_le (by rw [← HN.out]; exact Nat.le_refl _)]; rfl
              have HRX := Lib.hid hrun
              obtain ⟨T, HT⟩ : ∃ T, Hid (T = p'.sl) := ⟨_, Lib.hid rfl⟩
              obtain ⟨t, HTL⟩ : ∃ t, Hid (t = T.length) := ⟨_, Lib.hid rfl⟩
              have HS := HS
              rw [← HT.out, ← HTL.out] at HS
              rw [← HT.out, ← HTL.out] at hosl ⊢
              have HZ : Hid (8 * p'.left = 8 * R - t ∧ t ≤ 8 * R) := Lib.hid (by omega)
              have HXX := HS
              clear hrun
              go_wp2_with fail
              go_loopw [10] (fun s wz => ∃ (u : Nat) (A' : Option Addr) (c' : Nat), t ≤ u ∧ u ≤ 8 * R ∧ s = .slice A' u c' ∧ Hid (St Zf [ObA 5 (.slice A' u c') (T ++ List.replicate (u - t) 0), ObA 5 (.slice Ao p'.ov.length co) p'.ov, OlA bvl 4 (.slice Af F.length cf) F] w wz)) (fun s _ => 8 * R - lenV s)
              case atStart => exact ⟨t, As, cs, Nat.le_refl _, by omega, rfl, Lib.hid (by rw [Nat.sub_self, List.replicate_zero, List.append_nil]; exact HXX.out)⟩
              case round =>
                obtain ⟨u, A', c', hu1, hu2, rfl, HS9⟩ := hrel
                clear HXX HS
                by_cases hu : u < 8 * R
                · have hui : (u : Int) < 8 * (R : Int) := by omega
                  have ho := HS9.out.ob
                  have hle : (T ++ List.replicate (u - t) 0).length + 1 ≤ 140737488355328 := by rw [List.length_append, List.length_replicate, ← HTL.out]; omega
                  have hl8 : (T ++ List.replicate (u - t) 0 ++ [0]).length = u + 1 := by rw [List.length_append, List.length_append, List.length_replicate, ← HTL.out]; simp; omega
                  have hr8 : T ++ List.replicate (u + 1 - t) 0 = T ++ List.replicate (u - t) 0 ++ [0] := by rw [show u + 1 - t = (u - t) + 1 by omega, List.replicate_succ', List.append_assoc]
                  have HL8 := Lib.hid hl8
                  have HR8 := Lib.hid hr8
                  clear hl8 hr8
                  go_wp2_with (at_builtin; refine wpList_append_lit8 _ rfl _ _ 25 rfl 0 5 i0 Tryz.underlying25 hi hz0 hz1 hz2 _ (T ++ List.replicate (u - t) 0) 0 (by rfl) ho (by rfl) _ rfl (by omega) hle (Nat.zero_le _) ?_; intro v1 w2 hown1 hg1 hat1)
                  have h8 := HS9.out.grewOb hown1 hg1 hat1 (Nat.le_succ _)
                  obtain ⟨A8, c8, rfl, -, -, -, -⟩ := hown1.form
                  rw [HL8.out] at h8 ⊢
                  go_roundw
                  case rel => exact ⟨u + 1, A8, c8, by omega, by omega, rfl, Lib.hid (by rw [HR8.out]; exact h8)⟩
                  case measure => simp [lenV]; omega
                · have hui : ¬ (u : Int) < 8 * (R : Int) := by omega
                  have HU : Hid (8 * p'.left = u - t) := Lib.hid (by have := HZ.out; omega)
                  go_wp2_with fail
                  go_ret3
                  refine ⟨_, _, by rw [HPE.out]; rfl, ?_⟩
                  rw [HS1.out, HS2.out, HRX.out]
                  show St Zf [ObA _ _ (p'.sl ++ List.replicate (8 * p'.left) 0), _] _ _
                  rw [HU.out, ← HT.out]
                  exact HS9.out.bring2.drop
end Go.Proofs.YtgpahglmhnnobaaGreatDoor

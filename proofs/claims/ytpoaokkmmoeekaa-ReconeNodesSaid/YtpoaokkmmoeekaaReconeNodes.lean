/- Any node's record is written, or refused, exactly, and read again. -/
import Derived.Test.YtpoaokkmmoeekaaOpen
import Derived.Test.YtpoaokkmmoeekaaRows
import Derived.Test.YtpoaokkmmoeekaaRcOpenN
import Derived.Test.YtpoaokkmmoeekaaRcSameN
import Derived.Test.YtpoaokkmmoeekaaRcSpeak
import Derived.Test.YtpoaokkmmoeekaaRcRefN3
import Derived.Test.YtpoaokkmmoeekaaApList
import Derived.Laws.StructEq
import Derived.Deep.QuietTactic
import Derived.BigQuiet
import Derived.Deep.RegionHeld3
import Derived.Deep.Cut
namespace Go.Proofs.Ytpoaokkmmoeekaa.reconeNodes
open Go.ChangeShapes Go.WideShapes Go.ChangeAt Go.RowKit
open Go.ChangeMaps (open_string shut_string)
set_option linter.unusedVariables false

theorem nint_info : (Try.prog.info? 3).map (fun i => (i.zero, i.size, i.bytes)) = some (some (.int .i64 0), 1, 8) := by kernel_rfl
set_option maxRecDepth 100000 in
set_option maxHeartbeats 4000000 in
theorem walk (w : World) {r p : Int} {A : Option Addr} {L : List Int} {c : Nat} (hx : (isI r ∧ isI p ∧ ∀ x ∈ L, isI x) ∧ RL ivl w w.heap.size A L ∧ L.length ≤ c ∧ c * 8 ≤ 140737488351232) : Calls Try.prog 3 #[.agg #[.int .i64 r, .int .i64 p, .slice A L.length c]] w fun e w' => e = .returned (.bool true) ∧ Below w.heap.size w w' := by
  obtain ⟨hi, hr, hlc, hcb⟩ := hx
  obtain ⟨j0, hj, hy0, hy1, hy2⟩ := info_parts nint_info
  have hml : L.length ≤ maxLen := by unfold maxLen; omega
  have hcm : c ≤ maxLen := by unfold maxLen; omega
  have HP := fun (A5 : Option Addr) (c5 B : Nat) (w1 : World) (h : RL ivl w1 B A5 L) (hB : B ≤ w1.heap.size) (h1 : L.length ≤ c5) (h2 : c5 ≤ maxLen) => putNode_clean A5 c5 B r p L hi w1 h hB h1 h2
  have HR := fun (w1 : World) (h : RL ivl w1 w.heap.size A L) (hB : w.heap.size ≤ w1.heap.size) => refPutNode_any A c w.heap.size r p L w1 h hB hlc hcm
  have hbk := getNode_back r p L
  have hcut : refNodeOk r p L = true → cutLen (pl8 L) 8 = L.length ∧ (pl8 L).take L.length = L := by
    intro h
    have h3 : labR L = true := by
      unfold refNodeOk at h
      simp only [Bool.and_eq_true] at h
      exact h.2
    have h9 : L.length < 9 := by
      unfold labR at h3
      simp only [Bool.and_eq_true, decide_eq_true_eq] at h3
      exact h3.2
    have e := cut_pl8 L h3 (8 - L.length) (by omega)
    rw [show L.length + (8 - L.length) = 8 from by omega] at e
    have e2 := pl8_take L h3
    rw [e] at e2
    exact ⟨e, e2⟩
  obtain ⟨cx, hcx⟩ : ∃ cx : Array Value, cx = #[.int .i64 r, .int .i64 p, .slice A L.length c] := ⟨_, rfl⟩
  obtain ⟨cz, hcz⟩ : ∃ cz : Array Value, cz = #[.int .i64 0, .int .i64 0, .slice none 0 0] := ⟨_, rfl⟩
  have sx : cx.size = 3 := by rw [hcx]; rfl
  have sz : cz.size = 3 := by rw [hcz]; rfl
  have ox : cx.all (·.oneCell') = true := by rw [hcx, ← Array.all_toList]; rfl
  have hix : (Try.prog.info? 24).map (·.size) = some cx.size := by rw [sx]; kernel_rfl
  rw [← hcx] at HR ⊢
  have h0 := (St.start Zf w).newBlk 24 cx
  obtain ⟨wo, hwo⟩ : ∃ wo, wo = w.alloc (.cells cx 24) := ⟨_, rfl⟩
  rw [← hwo] at h0
  have HSP := Lib.hid (speaks_any wo)
  have H0 := Lib.hid h0
  have Hwo := Lib.hid hwo
  have HRL := Lib.hid hr
  have hlen : (refNodeB r p L).length ≤ 24 := by
    have q1 := ptrB_short r
    have q2 := ptrB_short p
    unfold refNodeB
    simp only [List.length_append, labB_length]
    omega
  obtain ⟨bs, hbs⟩ : ∃ bs, bs = refNodeB r p L := ⟨_, rfl⟩
  unfold RefPut at HR HP
  rw [← hbs] at HP HR hbk hlen
  obtain ⟨ok, hok⟩ : ∃ ok, ok = refNodeOk r p L := ⟨_, rfl⟩
  rw [← hok] at HP HR hbk hcut
  obtain ⟨bb, hbb⟩ : ∃ bb : List Nat, bb = if ok = true then bs else [] := ⟨_, rfl⟩
  obtain ⟨ec, hec⟩ : ∃ ec : Int, ec = if ok = true then 0 else 41 := ⟨_, rfl⟩
  rw [← hbb, ← hec] at HP HR
  have hlen : bb.length ≤ 24 := by
    rw [hbb]
    split
    · exact hlen
    · simp
  have HLEN := Lib.hid hlen
  have HBB := Lib.hid hbb
  have HEC := Lib.hid hec
  have HCZ := Lib.hid hcz
  have HCX := Lib.hid hcx
  have HML := Lib.hid hml
  have HP := Lib.hid HP
  have HR := Lib.hid HR
  have HBK := Lib.hid hbk
  have HCUT := Lib.hid hcut
  have HJ := Lib.hid (And.intro hlc hcb)
  clear hcx hcz hwo h0 hbs hok hlen hbb hec hbk hcut hr hml hcm hi hlc hcb
  go_enter Try.func3, Try.ntmps3
  go_upto_region 1 with fail
  rw [← Hwo.out]
  go_upto_region 4 with (first
    | (go_at_call 10; refine (HSP.out).mono ?_; rintro e w1 ⟨rfl, hb1⟩; have h1 := Lib.hid (H0.out.below hb1); have r1 := h1.out.blk; have h2 := h1.out.newBlk 24 cz; have r2 := h2.blk; have h3 := Lib.hid (h2.setRow cx); clear hb1 h2)
    | (refine wpList_load_row rfl 24 _ rfl w.heap.size rfl 24 cx (0, 0) _ r1 Try.underlying24 rfl hix ?_)
    | (rw [← HCZ.out]; refine wpList_store_row rfl 24 _ _ rfl w1.heap.size cx rfl rfl 24 cz r2 hix (by rw [sz, sx]) ox ?_))
  obtain ⟨g, hg⟩ : ∃ g, g = w1.heap.size := ⟨_, rfl⟩
  obtain ⟨w3, hw3⟩ : ∃ w3, w3 = (w1.alloc (.cells cz 24)).setRow w1.heap.size cx := ⟨_, rfl⟩
  rw [← hw3] at h3 ⊢
  rw [← hg] at h3 ⊢
  clear hw3 hg r2
  have h4 := h3.out.newNil ivl 3 rfl
  have hr4 := h4.rl HRL.out (Nat.le_refl _)
  have hby : (([] : List Int).length + L.length) * 8 ≤ 140737488355328 := by have := HJ.out; simp; omega
  have h4c := h4.bring2
  rw [HCX.out] at h4c
  obtain ⟨k0, k1, k2⟩ := cells3 h4c
  clear h4c
  go_upto_region 5 with (at_builtin; refine wpList_append_list _ rfl _ _ 22 rfl 0 3 j0 _ 8 Try.underlying22 hj hy0 hy1 hy2 rfl _ [] (by rfl) h4.ol A c w.heap.size L L.length rfl (by rfl) hr4 hby (by omega) (Nat.zero_le _) ?_; intro v5 w5 hown hgr hat; have h5 := h4.grewOl hown hgr hat (Nat.le_refl _); rw [List.nil_append] at h5; obtain ⟨A5, c5, rfl, hl5, hm5, -, -⟩ := h5.ol.form; have f5 := h5.swap.blk.frozen 2; have h5c := h5.swap; rw [HCX.out] at h5c; obtain ⟨m0, m1, m2⟩ := cells3 h5c; clear hown hgr hat h5c h4 hr4 k0 k1 k2)
  have h6 := h5.swap.setBlk 2 (.slice A5 L.length c5)
  obtain ⟨w6, hw6⟩ : ∃ x, x = w5.setCell ⟨g, 2, none⟩ (.slice A5 L.length c5) := ⟨_, rfl⟩
  rw [← hw6] at h6 ⊢
  obtain ⟨ci, hci⟩ : ∃ ci : Array Value, ci = cx.setIfInBounds 2 (.slice A5 L.length c5) := ⟨_, rfl⟩
  rw [← hci] at h6
  have HCI : Hid (ci = #[.int .i64 r, .int .i64 p, .slice A5 L.length c5]) := Lib.hid (by rw [hci, HCX.out]; rfl)
  have hii : (Try.prog.info? 24).map (·.size) = some ci.size := by rw [HCI.out]; kernel_rfl
  have HP6 := HP.out A5 c5 w6.heap.size w6 h6.swap.ol.reads.2.1 (Nat.le_refl _) hl5 hm5
  rw [← HCI.out] at HP6
  have HP6 := Lib.hid HP6
  have H6 := Lib.hid h6
  have r6 := h6.blk
  clear hw6 hci h5 h6 m0 m1 m2 f5 HP
  go_upto_region 7 with (first
    | (refine wpList_load_row rfl 24 _ rfl g rfl 24 ci (0, 0) _ r6 Try.underlying24 rfl hii ?_)
    | (go_at_call 11; refine (HP6.out).mono ?_; rintro e w7 ⟨v7, rfl, ho7, hb7⟩; have h7 := Lib.hid (H6.out.newOb ho7 hb7); have r7 := h7.out.bring3.blk; have HR7 := Lib.hid (HR.out w7 (h7.out.rl HRL.out (Nat.le_refl _)) h7.out.size); obtain ⟨A7, c7, rfl, -, -, -, -⟩ := ho7.form; clear ho7 hb7 r6)
    | (refine wpList_load_row rfl 24 _ rfl w.heap.size rfl 24 cx (0, 0) _ r7 Try.underlying24 rfl hix ?_)
    | (go_at_call 12; refine (HR7.out).mono ?_; rintro e w8 ⟨v8, rfl, ho8, hb8⟩; have h8 := Lib.hid (h7.out.newOb ho8 hb8); obtain ⟨A8, c8, rfl, -, -, -, -⟩ := ho8.form; clear ho8 hb8 r7))
  have HB5 := Lib.hid (And.intro hl5 hm5)
  have S8 := Lib.hid (same_yes A7 A8 bb.length c7 c8 _ _ bb _ h8.out.swap.ob.reads.2.1 h8.out.ob.reads.2.1 rfl (by have := HLEN.out; unfold maxLen; omega))
  have e1 : (ec == ec) = true := by simp
  have e2 : (ec != ec) = false := by simp
  have e3 : decide (ec = ec) = true := by simp
  have e4 : decide (ec ≠ ec) = false := by simp
  clear hl5 hm5
  go_upto_region 9 with (first
    | (go_at_call 13; refine (S8.out).mono ?_; rintro e w9 ⟨rfl, n9, hw9⟩; have h9 := Lib.hid (h8.out.drewN n9); rw [← hw9] at h9; have h9g := h9.out.bring2; rw [HCI.out] at h9g; obtain ⟨g0, g1, g2⟩ := cells3 h9g; have h9n := h9.out.bring4; rw [HCX.out] at h9n; obtain ⟨n0, n1, n2⟩ := cells3 h9n; have HSN := Lib.hid (sameNode_yes A5 A L.length c5 c w9.heap.size w.heap.size r p L w9 h9.out.bring3.ol.reads.2.1 (h9.out.rl HRL.out (Nat.le_refl _)) rfl HML.out (Nat.le_refl _) h9.out.size); clear hw9 h9g h9n)
    | (go_at_call 14; refine (HSN.out).mono ?_; rintro e w10 ⟨rfl, hb10⟩; have h10 := Lib.hid (h9.out.below hb10); clear hb10 g0 g1 g2 n0 n1 n2))
  clear e1 e2 e3 e4
  cases ok
  · have hec : ec = 41 := by rw [HEC.out]; rfl
    subst hec
    go_wp2
    go_ret
    exact ⟨rfl, h10.out.bel⟩
  · have hec : ec = 0 := by rw [HEC.out]; rfl
    have hbb : bb = bs := by rw [HBB.out]; rfl
    subst hec
    obtain ⟨hE, hR', hP', hPl⟩ := HBK.out rfl
    obtain ⟨q1, q2⟩ := HCUT.out rfl
    have HG := GetNode_any A7 c7 w10.heap.size bb w10 h10.out.swap.ob.reads.2.1 (Nat.le_refl _) (by have := HLEN.out; omega)
    unfold NodeRead at HG
    rw [hbb, hE, hR', hP', hPl, q1] at HG
    simp only [if_true] at HG
    rw [← hbb] at HG
    have n3i : (Try.prog.info? 24).map (·.size) = some 3 := by kernel_rfl
    have HG2 : Calls Try.prog 15 #[.slice A7 bb.length c7] w10 (fun e w' => ∃ (g' : Nat) (cy : Array Value), cy = #[.int .i64 r, .int .i64 p, .slice (some ⟨g', 0, none⟩) L.length 8] ∧ cy.size = 3 ∧ cy.all (·.oneCell') = true ∧ (Try.prog.info? 24).map (·.size) = some cy.size ∧ e = .returned (.tuple #[.agg cy, .int .i64 0]) ∧ St Zf [BlkA g' 3 (icells (pl8 L))] w10 w') := HG.mono (by rintro e w' ⟨g', h1, h2⟩; exact ⟨g', _, rfl, rfl, (by rw [← Array.all_toList]; rfl), n3i, h1, h2⟩)
    have HG := Lib.hid HG2
    have HQ2 := Lib.hid q2
    clear hE hR' hP' hPl q1 q2 hbb HG2
    go_upto_region 12 with (first
      | (go_at_call 15; go_loud (refine (HG.out).mono ?_; rintro e w11 ⟨g', cy, hcy, sy, oy, hiy, rfl, h11⟩; have H11 := Lib.hid h11; have HCY := Lib.hid hcy; clear hcy; have h12 := (h10.out.below h11.bel).newBlk 24 cz; have r12 := h12.blk; have h13 := Lib.hid (h12.setRow cy); have b13 := Lib.hid (((St.start Zf w11).newBlk 24 cz).setRow cy).bel; clear h11 h12))
      | (rw [← HCZ.out]; refine wpList_store_row rfl 24 _ _ rfl w11.heap.size cy rfl rfl 24 cz r12 hiy (by rw [sz, sy]) oy ?_))
    obtain ⟨w13, hw13⟩ : ∃ w13, w13 = (w11.alloc (.cells cz 24)).setRow w11.heap.size cy := ⟨_, rfl⟩
    rw [← hw13] at h13 b13 ⊢
    clear hw13 r12
    have hrl : RL ivl w11 w11.heap.size (some ⟨g', 0, none⟩) L := by
      have := RL.cut H11.out.blk.rl L.length
      rw [HQ2.out] at this
      exact this
    have hrl := hrl.below b13.out
    have HSF := Lib.hid (sameNode_yes (some ⟨g', 0, none⟩) A L.length 8 c w11.heap.size w.heap.size r p L w13 hrl (h13.out.rl HRL.out (Nat.le_refl _)) rfl HML.out b13.out.size h13.out.size)
    have h13y := h13.out
    rw [HCY.out] at h13y
    obtain ⟨y0, y1, y2⟩ := cells3 h13y
    have h13n := h13.out.bring5
    rw [HCX.out] at h13n
    obtain ⟨n0, n1, n2⟩ := cells3 h13n
    clear h13y h13n hrl
    go_wp2_with (go_at_call 14; refine (HSF.out).mono ?_; rintro e w14 ⟨rfl, hb14⟩; have h14 := Lib.hid (h13.out.below hb14); clear hb14 y0 y1 y2 n0 n1 n2)
    go_ret
    exact ⟨rfl, h14.out.bel⟩

/-! ### THE ROW's STEP -/
theorem own : ownKnob Try.prog.godebug = none := by kernel_rfl
theorem laidOut : laidOutB Try.prog = true := by kernel_rfl

set_option maxRecDepth 100000 in
theorem contract (H : Type) (enc : TypeId × Value → H) (W : World) (base : Nat) (args : Array Value) (ds gs : List (DataW H)) (before : List MemPlace)
    (hval0 : ∀ (j : Nat) t v, Try.f3.params[j]? = some t → args[j]? = some v → Value.okWide Try.prog W .any base t v)
    (hW : DataW.Whole enc Try.prog Try.f3.params.toList Rows.reconeNodesSpec.vars false W args.toList ds gs before)
    (hsz : (DataW.weightsEach Try.prog (Try.f3.params.toList ++ (OpenSpec.ofChange Rows.reconeNodesSpec).bare.plain.varTypes Try.prog) (ds ++ gs)).all (· ≤ reachBytes) = true) :
    Calls Try.prog 3 args W fun e W' => ∃ v, e = .returned v ∧ Rows.reconeNodesSpec.post enc Try.prog Try.f3 false true false false W args v W' := by
  have hval : ∀ (j : Nat) t v, Try.f3.params[j]? = some t → args[j]? = some v → Value.okWide Try.prog W .any base t v := hval0
  have hW' := hW
  obtain ⟨p, q, hA0, hV, rfl, hfz, hnd⟩ := hW
  have hA : DataW.TrodAll enc Try.prog W 0 (fun _ => true) true Try.f3.params.toList args.toList ds p := hA0
  rw [Try.params3] at hA hval
  obtain ⟨v0, vs0, d0, ds0, p0, q0, hargs, rfl, rfl, h0, r0⟩ := trodAll_cons hA
  obtain ⟨rfl, rfl, rfl⟩ := trodAll_nil r0
  obtain rfl : args = #[v0] := by cases args; simp_all
  obtain ⟨rfl, rfl⟩ := trodVars_none hV
  have k0 := h0
  have lt0 : ∀ x ∈ p0, x.block < W.heap.size := by obtain ⟨m, hm⟩ := k0; exact DataW.trod_lt m _ _ _ hm
  have w0 := reach_at hsz (j := 0) rfl rfl
  clear hA0 hval0 hsz
  obtain ⟨a0, p0, A0, L0, c0, rfl, hx0⟩ := open_node (hval 0 _ v0 rfl rfl) w0 h0 lt0
  refine (walk W hx0).mono fun e W' ⟨he, bel⟩ => ?_
  subst he
  exact ⟨_, rfl, _, _, _, [], _, [], hW', trodAll_mk1 (shut_bool Try.underlying4 _), (trodAll_cons_mk (Below.trod laidOut (by kernel_rfl) (of_decide_eq_true (by kernel_rfl)) k0 bel lt0) trodAll_mk0), rfl, bel.frame _, fun h => by cases h⟩

set_option maxRecDepth 100000 in
theorem lifted (os : Os) (started : os.Started) (H : Type) (enc : TypeId × Value → H) :
    ReturnsInHanded {} Try.checked os 3 .any (Rows.reconeNodesSpec.pre6 enc Try.prog Try.f3 Rows.reconeNodesRow.domain false) (Rows.reconeNodesSpec.post enc Try.prog Try.f3 false true false false) := by
  refine returnsInHanded_of_change_sized (C := Try.checked) own started (by kernel_rfl) Try.func3
    (ChangeSpec.witness6 (enc := enc) (C := Try.checked) false ⟨#[], #[.agg #[.int .i64 0, .int .i64 0, .slice none 0 0]], []⟩ 8 (by kernel_rfl) (by kernel_rfl) (by kernel_rfl) (by kernel_rfl)) ?_
  intro W base args ds gs before hval hW _ hsz _
  exact contract H enc W base args ds gs before hval hW hsz

/-- THE STATEMENT -/
theorem proved : Rows.ReconeNodesSaid :=
  OpenClaim.holds_of_wide 3 Try.f3 rfl rfl rfl rfl rfl rfl rfl ⟨rfl, rfl, rfl, rfl, rfl⟩ rfl rfl rfl rfl rfl (by kernel_rfl) Try.func3 (by kernel_rfl)
    (of_decide_eq_true (by kernel_rfl)) (by unfold Func.isWrapper; rw [if_neg (of_decide_eq_false (by kernel_rfl))]; exact ⟨rfl, rfl⟩)
    (fun os started H enc _ => lifted os started H enc)
end Go.Proofs.Ytpoaokkmmoeekaa.reconeNodes

/- What a node's record takes and gives are the caller's own. -/
import Derived.Test.YtpoaokkmmoeekaaOpen
import Derived.Test.YtpoaokkmmoeekaaRows
import Derived.Test.YtpoaokkmmoeekaaRcOpenN
import Derived.Test.YtpoaokkmmoeekaaRcStore
import Derived.Test.YtpoaokkmmoeekaaRcSpeak
import Derived.Test.YtpoaokkmmoeekaaRcRefN3
import Derived.Test.YtpoaokkmmoeekaaApList
import Derived.Laws.StructEq
import Derived.Deep.QuietTactic
import Derived.BigQuiet
import Derived.Deep.RegionHeld3
import Derived.Deep.Cut
namespace Go.Proofs.Ytpoaokkmmoeekaa.reconeOwn
open Go.ChangeShapes Go.WideShapes Go.ChangeAt Go.RowKit
open Go.ChangeMaps (open_string shut_string)
set_option linter.unusedVariables false

theorem nint_info : (Try.prog.info? 3).map (fun i => (i.zero, i.size, i.bytes)) = some (some (.int .i64 0), 1, 8) := by kernel_rfl
set_option maxRecDepth 100000 in
set_option maxHeartbeats 4000000 in
theorem walk (w : World) {r p : Int} {A : Option Addr} {L : List Int} {c : Nat} (hx : (isI r ∧ isI p ∧ ∀ x ∈ L, isI x) ∧ RL ivl w w.heap.size A L ∧ L.length ≤ c ∧ c * 8 ≤ 140737488351232) : Calls Try.prog 9 #[.agg #[.int .i64 r, .int .i64 p, .slice A L.length c]] w fun e w' => e = .returned (.bool true) ∧ Below w.heap.size w w' := by
  obtain ⟨hi, hr, hlc, hcb⟩ := hx
  obtain ⟨j0, hj, hy0, hy1, hy2⟩ := info_parts nint_info
  have hml : L.length ≤ maxLen := by unfold maxLen; omega
  have hcm : c ≤ maxLen := by unfold maxLen; omega
  have HP := fun (A5 : Option Addr) (c5 B : Nat) (w1 : World) (h : RL ivl w1 B A5 L) (hB : B ≤ w1.heap.size) (h1 : L.length ≤ c5) (h2 : c5 ≤ maxLen) => putNode_clean A5 c5 B r p L hi w1 h hB h1 h2
  have HR := fun (w1 : World) (h : RL ivl w1 w.heap.size A L) (hB : w.heap.size ≤ w1.heap.size) => refPutNode_any A c w.heap.size r p L w1 h hB hlc hcm
  have hbk := getNode_back r p L
  have hcut : refNodeOk r p L = true → cutLen (pl8 L) 8 = L.length ∧ (pl8 L).take L.length = L := by
    intro h
    have h3 : labR L = true := by
      unfold refNodeOk at h
      simp only [Bool.and_eq_true] at h
      exact h.2
    have h9 : L.length < 9 := by
      unfold labR at h3
      simp only [Bool.and_eq_true, decide_eq_true_eq] at h3
      exact h3.2
    have e := cut_pl8 L h3 (8 - L.length) (by omega)
    rw [show L.length + (8 - L.length) = 8 from by omega] at e
    have e2 := pl8_take L h3
    rw [e] at e2
    exact ⟨e, e2⟩
  obtain ⟨cx, hcx⟩ : ∃ cx : Array Value, cx = #[.int .i64 r, .int .i64 p, .slice A L.length c] := ⟨_, rfl⟩
  obtain ⟨cz, hcz⟩ : ∃ cz : Array Value, cz = #[.int .i64 0, .int .i64 0, .slice none 0 0] := ⟨_, rfl⟩
  have sx : cx.size = 3 := by rw [hcx]; rfl
  have sz : cz.size = 3 := by rw [hcz]; rfl
  have ox : cx.all (·.oneCell') = true := by rw [hcx, ← Array.all_toList]; rfl
  have hix : (Try.prog.info? 24).map (·.size) = some cx.size := by rw [sx]; kernel_rfl
  rw [← hcx] at HR ⊢
  have h0 := (St.start Zf w).newBlk 24 cx
  obtain ⟨wo, hwo⟩ : ∃ wo, wo = w.alloc (.cells cx 24) := ⟨_, rfl⟩
  rw [← hwo] at h0
  have HSP := Lib.hid (speaks_any wo)
  obtain ⟨i0, hi0, hz0, hz1, hz2⟩ := info_parts u8_info
  have n3i : (Try.prog.info? 24).map (·.size) = some 3 := by kernel_rfl
  have H0 := Lib.hid h0
  have Hwo := Lib.hid hwo
  have HRL := Lib.hid hr
  have hlen : (refNodeB r p L).length ≤ 24 := by
    have q1 := ptrB_short r
    have q2 := ptrB_short p
    unfold refNodeB
    simp only [List.length_append, labB_length]
    omega
  obtain ⟨bs, hbs⟩ : ∃ bs, bs = refNodeB r p L := ⟨_, rfl⟩
  unfold RefPut at HR HP
  rw [← hbs] at HP HR hbk hlen
  obtain ⟨ok, hok⟩ : ∃ ok, ok = refNodeOk r p L := ⟨_, rfl⟩
  rw [← hok] at HP HR hbk hcut
  obtain ⟨bb, hbb⟩ : ∃ bb : List Nat, bb = if ok = true then bs else [] := ⟨_, rfl⟩
  obtain ⟨ec, hec⟩ : ∃ ec : Int, ec = if ok = true then 0 else 41 := ⟨_, rfl⟩
  rw [← hbb, ← hec] at HP HR
  have hlen : bb.length ≤ 24 := by
    rw [hbb]
    split
    · exact hlen
    · simp
  have HLEN := Lib.hid hlen
  have HBB := Lib.hid hbb
  have HEC := Lib.hid hec
  have HCZ := Lib.hid hcz
  have HCX := Lib.hid hcx
  have HML := Lib.hid hml
  have HP := Lib.hid HP
  have HR := Lib.hid HR
  have HBK := Lib.hid hbk
  have HCUT := Lib.hid hcut
  have HJ := Lib.hid (And.intro hlc hcb)
  clear hcx hcz hwo h0 hbs hok hlen hbb hec hbk hcut hr hml hcm hi hlc hcb
  have HGO : ∀ (W : World) (A' : Option Addr) (cp : Nat), RB W W.heap.size A' bb → Calls Try.prog 15 #[.slice A' bb.length cp] W fun e w' => ∃ (Ax : Option Addr) (cc : Nat) (X : List Int) (cy : Array Value) (r' p' E : Int), cy = #[.int .i64 r', .int .i64 p', .slice Ax X.length cc] ∧ cy.size = 3 ∧ cy.all (·.oneCell') = true ∧ (Try.prog.info? 24).map (·.size) = some cy.size ∧ e = .returned (.tuple #[.agg cy, .int .i64 E]) ∧ X.length ≤ 8 ∧ (bb.length ≠ 0 → r' = r ∧ p' = p ∧ X = L) ∧ St Zf [OlA ivl 3 (.slice Ax X.length cc) X] W w' := by
    intro W A' cp h
    refine (GetNode_own A' cp W.heap.size bb W h (Nat.le_refl _) (by have := HLEN.out; omega)).mono ?_
    rintro e w' ⟨v, X, rfl, hX, hXe, hs⟩
    obtain ⟨Ax, cc, rfl, -, -, -, -⟩ := hs.ol.form
    refine ⟨Ax, cc, X, _, _, _, _, rfl, rfl, (by rw [← Array.all_toList]; rfl), n3i, rfl, hX, ?_, hs⟩
    intro hne
    cases ok
    · exact absurd (by rw [HBB.out]; rfl) hne
    · have hbb : bb = bs := by rw [HBB.out]; rfl
      obtain ⟨hE, hR', hP', hPl⟩ := HBK.out rfl
      obtain ⟨q1, q2⟩ := HCUT.out rfl
      rw [hbb, hE, hPl, q1, q2] at hXe
      rw [hbb, hE, hR', hP', if_pos rfl, if_pos rfl]
      exact ⟨rfl, rfl, hXe rfl⟩
  have HGO := Lib.hid HGO
  go_enter Try.func9, Try.ntmps9
  go_upto_region 1 with fail
  rw [← Hwo.out]
  go_upto_region 5 with (first
    | (go_at_call 10; refine (HSP.out).mono ?_; rintro e w1 ⟨rfl, hb1⟩; have h1 := Lib.hid (H0.out.below hb1); have r1 := h1.out.blk; have HR1 := Lib.hid (HR.out w1 (h1.out.rl HRL.out (Nat.le_refl _)) h1.out.size); clear hb1)
    | (go_at_call 12; refine (HR1.out).mono ?_; rintro e w2 ⟨v2, rfl, ho2, hb2⟩; have h2 := Lib.hid (h1.out.newOb ho2 hb2); obtain ⟨A2, c2, rfl, -, -, -, -⟩ := ho2.form; have r2 := h2.out.swap.blk; have h3a := h2.out.newBlk 24 cz; have r3 := h3a.blk; have h3 := Lib.hid (h3a.setRow cx); clear ho2 hb2 h3a r1)
    | (refine wpList_load_row rfl 24 _ rfl w.heap.size rfl 24 cx (0, 0) _ r1 Try.underlying24 rfl hix ?_)
    | (refine wpList_load_row rfl 24 _ rfl w.heap.size rfl 24 cx (0, 0) _ r2 Try.underlying24 rfl hix ?_)
    | (rw [← HCZ.out]; refine wpList_store_row rfl 24 _ _ rfl w2.heap.size cx rfl rfl 24 cz r3 hix (by rw [sz, sx]) ox ?_))
  obtain ⟨g, hg⟩ : ∃ g, g = w2.heap.size := ⟨_, rfl⟩
  obtain ⟨w3, hw3⟩ : ∃ w3, w3 = (w2.alloc (.cells cz 24)).setRow w2.heap.size cx := ⟨_, rfl⟩
  rw [← hw3] at h3 ⊢
  rw [← hg] at h3 ⊢
  clear hw3 hg r3 r2
  have h4 := h3.out.newNil ivl 3 rfl
  have hr4 := h4.rl HRL.out (Nat.le_refl _)
  have hby : (([] : List Int).length + L.length) * 8 ≤ 140737488355328 := by have := HJ.out; simp; omega
  have h4c := h4.bring3
  rw [HCX.out] at h4c
  obtain ⟨k0, k1, k2⟩ := cells3 h4c
  clear h4c
  go_upto_region 6 with (at_builtin; refine wpList_append_list _ rfl _ _ 22 rfl 0 3 j0 _ 8 Try.underlying22 hj hy0 hy1 hy2 rfl _ [] (by rfl) h4.ol A c w.heap.size L L.length rfl (by rfl) hr4 hby (by omega) (Nat.zero_le _) ?_; intro v5 w5 hown hgr hat; have h5 := h4.grewOl hown hgr hat (Nat.le_refl _); rw [List.nil_append] at h5; obtain ⟨A5, c5, rfl, hl5, hm5, -, -⟩ := h5.ol.form; have f5 := h5.swap.blk.frozen 2; have h5c := h5.swap; rw [HCX.out] at h5c; obtain ⟨m0, m1, m2⟩ := cells3 h5c; clear hown hgr hat h5c h4 hr4 k0 k1 k2)
  have h6 := h5.swap.setBlk 2 (.slice A5 L.length c5)
  obtain ⟨w6, hw6⟩ : ∃ x, x = w5.setCell ⟨g, 2, none⟩ (.slice A5 L.length c5) := ⟨_, rfl⟩
  rw [← hw6] at h6 ⊢
  obtain ⟨ci, hci⟩ : ∃ ci : Array Value, ci = cx.setIfInBounds 2 (.slice A5 L.length c5) := ⟨_, rfl⟩
  rw [← hci] at h6
  have HCI : Hid (ci = #[.int .i64 r, .int .i64 p, .slice A5 L.length c5]) := Lib.hid (by rw [hci, HCX.out]; rfl)
  have hii : (Try.prog.info? 24).map (·.size) = some ci.size := by rw [HCI.out]; kernel_rfl
  have HP6 := fun (W : World) (h : RL ivl W W.heap.size A5 L) => HP.out A5 c5 W.heap.size W h (Nat.le_refl _) hl5 hm5
  rw [← HCI.out] at HP6
  have HP6 := Lib.hid HP6
  have H6 := Lib.hid h6
  have r6 := h6.blk
  have Q6 := Lib.hid (HP6.out w6 h6.swap.ol.reads.2.1)
  clear hw6 hci h5 h6 m0 m1 m2 f5 HP
  go_upto_region 8 with (first
    | (go_at_call 11; refine (Q6.out).mono ?_; rintro e w7 ⟨v7, rfl, ho7, hb7⟩; have h7 := Lib.hid (H6.out.newOb ho7 hb7); obtain ⟨A7, c7, rfl, hl7, hm7, -, -⟩ := ho7.form; have r7 := h7.out.swap.blk; have Q7 := Lib.hid (HP6.out w7 h7.out.bring2.ol.reads.2.1); clear ho7 hb7)
    | (refine wpList_load_row rfl 24 _ rfl g rfl 24 ci (0, 0) _ r6 Try.underlying24 rfl hii ?_)
    | (clear r6; fail)
    | (go_at_call 11; refine (Q7.out).mono ?_; rintro e w8 ⟨v8, rfl, ho8, hb8⟩; have h8 := Lib.hid (h7.out.newOb ho8 hb8); obtain ⟨A8, c8, rfl, -, -, -, -⟩ := ho8.form; clear ho8 hb8)
    | (refine wpList_load_row rfl 24 _ rfl g rfl 24 ci (0, 0) _ r7 Try.underlying24 rfl hii ?_))
  have H8 := Lib.hid h8.out.swap
  have hlen := HLEN.out
  clear h8 h7 H6 h3 h2 h1
  go_upto_region 9 with fail
  go_loopw [42] (fun i wr => ∃ (j : Nat) (X : List Nat), j ≤ bb.length ∧ i = .int .i64 j ∧ X.length = bb.length ∧ St Zf [ObA 5 (.slice A7 bb.length c7) X, ObA 5 (.slice A8 bb.length c8) bb, BlkA g 24 ci, OlA ivl 3 (.slice A5 L.length c5) L, ObA 5 (.slice A2 bb.length c2) bb, BlkA w.heap.size 24 cx] w wr) (fun i _ => bb.length - (intOf i).toNat)
  case atStart => exact ⟨0, bb, Nat.zero_le _, rfl, rfl, H8.out⟩
  case round =>
    obtain ⟨j, X, hjl, rfl, hX, hst⟩ := hrel
    by_cases hlt : j < bb.length
    · obtain ⟨gg, rfl, ⟨u0, hu0⟩, hfz, hst'⟩ := hst.storeOb hX hlt 238 (by omega)
      have HL := Lib.hid hX
      have HS := Lib.hid hst'
      clear hst hst' hX
      go_wp2
      go_roundw
      case rel => exact ⟨j + 1, X.set j 238, by omega, by go_num, by rw [List.length_set]; exact HL.out, HS.out⟩
      case measure => simp [intOf]; omega
    · obtain rfl : j = bb.length := by omega
      have hX2 := hX
      have hX := Lib.hid hX2
      clear hX2
      obtain ⟨w12, hw12⟩ : ∃ x, x = wr := ⟨_, rfl⟩
      rw [← hw12] at hst ⊢
      clear hw12
      go_upto_region 16 with (first
        | (at_builtin; refine wpList_append_exact _ rfl (.tmp 49) (.tmp 50) 26 rfl 0 5 i0 Try.underlying26 hi0 hz0 hz1 hz2 (.slice A7 bb.length c7) _ (by rfl) (hst.ob.alloc _) (some ⟨w12.heap.size, 0, none⟩) 2 (w12.heap.size + 1) (List.replicate 2 238) 2 rfl (by rfl) (RB.lit w12 5 (IsBytes.replicate 2 (by decide)) _ rfl) (by omega) (by rw [hX.out]; omega) (by simp) ?_; intro u13 w13 hu13 hg13 hat13 hx13; have h13 := (hst.grewOb hu13 ((World.grownBy_alloc w12 _ _).trans hg13) hat13 (by simp)).drop; have S13 := Lib.hid (same_yes A8 A2 bb.length c8 c2 _ _ bb _ h13.ob.reads.2.1 h13.bring3.ob.reads.2.1 rfl (by unfold maxLen; omega)); have H13 := Lib.hid h13.bring3.drop.bring2.drop.swap.drop; clear hu13 hg13 hat13 hx13 h13 hst)
        | (go_at_call 13; refine (S13.out).mono ?_; rintro e w14 ⟨rfl, n14, hw14⟩; have h14 := Lib.hid (H13.out.drewN n14); rw [← hw14] at h14; have Q14 := Lib.hid (HGO.out w14 A8 c8 h14.out.ob.reads.2.1); clear hw14))
      go_upto_region 17 with (first
        | (go_at_call 15; refine (Q14.out).mono ?_; rintro e w17 ⟨A17, c17, X17, cy17, r17', p17', E17, hcy17, sy17, oy17, hiy17, rfl, hXl17, hXe17, hs17⟩; have HCY17 := Lib.hid hcy17; have HXE17 := Lib.hid hXe17; have h17a := (h14.out.addSt hs17).newBlk 24 cz; have rr17 := h17a.blk; have h17b := Lib.hid (h17a.setRow cy17); clear hcy17 hXe17 hs17 h17a)
        | (rw [← HCZ.out]; refine wpList_store_row rfl 24 _ _ rfl w17.heap.size cy17 rfl rfl 24 cz rr17 hiy17 (by rw [sz, sy17]) oy17 ?_))
      obtain ⟨g17, hg17⟩ : ∃ x, x = w17.heap.size := ⟨_, rfl⟩
      obtain ⟨w17b, hw17⟩ : ∃ x, x = (w17.alloc (.cells cz 24)).setRow w17.heap.size cy17 := ⟨_, rfl⟩
      rw [← hw17] at h17b ⊢
      rw [← hg17] at h17b ⊢
      clear hw17 hg17 rr17
      have Q17 := Lib.hid (HGO.out w17b A8 c8 h17b.out.bring2.ob.reads.2.1)
      go_upto_region 18 with (first
        | (go_at_call 15; refine (Q17.out).mono ?_; rintro e w18 ⟨A18, c18, X18, cy18, r18', p18', E18, hcy18, sy18, oy18, hiy18, rfl, hXl18, hXe18, hs18⟩; have HCY18 := Lib.hid hcy18; have HXE18 := Lib.hid hXe18; have h18a := (h17b.out.addSt hs18).newBlk 24 cz; have rr18 := h18a.blk; have h18b := Lib.hid (h18a.setRow cy18); clear hcy18 hXe18 hs18 h18a)
        | (rw [← HCZ.out]; refine wpList_store_row rfl 24 _ _ rfl w18.heap.size cy18 rfl rfl 24 cz rr18 hiy18 (by rw [sz, sy18]) oy18 ?_))
      obtain ⟨g18, hg18⟩ : ∃ x, x = w18.heap.size := ⟨_, rfl⟩
      obtain ⟨w18b, hw18⟩ : ∃ x, x = (w18.alloc (.cells cz 24)).setRow w18.heap.size cy18 := ⟨_, rfl⟩
      rw [← hw18] at h18b ⊢
      rw [← hg18] at h18b ⊢
      clear hw18 hg18 rr18
      have hx := h18b.out.bring3
      have hxc := h18b.out.bring2
      rw [HCY17.out] at hxc
      obtain ⟨x0, x1, x2⟩ := cells3 hxc
      have Hx := Lib.hid hx
      clear hx hxc h14 h17b h18b H13 S13 Q14 Q17
      go_upto_region 19 with fail
      clear x0 x1 x2
      go_loopw [69] (fun i wr => ∃ (j : Nat) (X : List Int), j ≤ X17.length ∧ i = .int .i64 j ∧ X.length = X17.length ∧ St Zf [OlA ivl 3 (.slice A17 X17.length c17) X, BlkA g18 24 cy18, OlA ivl 3 (.slice A18 X18.length c18) X18, BlkA g17 24 cy17, ObA 5 (.slice A8 bb.length c8) bb, BlkA w.heap.size 24 cx] w wr) (fun i _ => X17.length - (intOf i).toNat)
      case atStart => exact ⟨0, X17, Nat.zero_le _, rfl, rfl, Hx.out⟩
      case round =>
        obtain ⟨j, X, hjl, rfl, hX2, hst⟩ := hrel
        have hb := hst.bring3
        rw [HCY17.out] at hb
        obtain ⟨x0, x1, x2⟩ := cells3 hb
        clear hb
        by_cases hlt : j < X17.length
        · obtain ⟨gg, rfl, ⟨u0, hu0⟩, hfz, hst'⟩ := hst.storeOl hX2 hlt (-7) (ivl_ok (-7))
          have HL := Lib.hid hX2
          have HS := Lib.hid hst'
          clear hst hst' hX2
          go_wp2
          go_roundw
          case rel => exact ⟨j + 1, X.set j (-7), by omega, by go_num, by rw [List.length_set]; exact HL.out, HS.out⟩
          case measure => simp [intOf]; omega
        · obtain rfl : j = X17.length := by omega
          obtain ⟨w22, hw22⟩ : ∃ x, x = wr := ⟨_, rfl⟩
          rw [← hw22] at hst x0 x1 x2 ⊢
          clear hw22
          have hb8 : (X.length + 1) * 8 ≤ 140737488355328 := by omega
          go_upto_region 24 with (at_builtin; refine wpList_append_elemN _ rfl _ _ 22 rfl 0 3 j0 (.int .i64 0) 8 Try.underlying22 hj hy0 hy1 hy2 rfl _ X (by rfl) hst.ol (-7) (ivl_ok (-7)) w22.heap.size rfl (by rfl) hb8 (by omega) (Nat.zero_le _) ?_; intro v23 w23 hown23 hg23 hat23; have h23 := hst.grewOl hown23 hg23 hat23 (Nat.le_succ _); obtain ⟨A23, c23, rfl, -, -, -, -⟩ := hown23.form; have h23b := h23.bring3; have f23 := h23b.blk.frozen 2; have h23c := h23b; rw [HCY17.out] at h23c; obtain ⟨m0, m1, m2⟩ := cells3 h23c; have H23 := Lib.hid h23b; clear hown23 hg23 hat23 h23 h23b h23c hst x0 x1 x2)
          have h24 := (H23.out.setBlk 2 (.slice A23 (X17.length + 1) c23)).drop.drop.bring2
          obtain ⟨w24, hw24⟩ : ∃ x, x = w23.setCell ⟨g17, 2, none⟩ (.slice A23 (X17.length + 1) c23) := ⟨_, rfl⟩
          rw [← hw24] at h24 ⊢
          have H24 := Lib.hid h24
          clear hw24 h24 m0 m1 m2 f23 H23 hX2
          go_upto_region 25 with fail
          go_loopw [84] (fun i wr => ∃ (j : Nat) (Y : List Nat), j ≤ bb.length ∧ i = .int .i64 j ∧ Y.length = bb.length ∧ St Zf [ObA 5 (.slice A8 bb.length c8) Y, BlkA g18 24 cy18, OlA ivl 3 (.slice A18 X18.length c18) X18, BlkA w.heap.size 24 cx] w wr) (fun i _ => bb.length - (intOf i).toNat)
          case atStart => exact ⟨0, bb, Nat.zero_le _, rfl, rfl, H24.out⟩
          case round =>
            obtain ⟨j, Y, hjl, rfl, hY, hst⟩ := hrel
            by_cases hlt : j < bb.length
            · obtain ⟨gg, rfl, ⟨u0, hu0⟩, hfz, hst'⟩ := hst.storeOb hY hlt 238 (by omega)
              have HL := Lib.hid hY
              have HS := Lib.hid hst'
              clear hst hst' hY
              go_wp2
              go_roundw
              case rel => exact ⟨j + 1, Y.set j 238, by omega, by go_num, by rw [List.length_set]; exact HL.out, HS.out⟩
              case measure => simp [intOf]; omega
            · obtain rfl : j = bb.length := by omega
              obtain ⟨w28, hw28⟩ : ∃ x, x = wr := ⟨_, rfl⟩
              rw [← hw28] at hst ⊢
              clear hw28
              have H28 := Lib.hid hst
              by_cases h0 : bb.length = 0
              · have e1 : ((bb.length : Int) == 0) = true := by simp [h0]
                have e2 : decide ((bb.length : Int) = 0) = true := by simp [h0]
                clear hst
                go_wp2
                go_ret
                exact ⟨rfl, H28.out.bel⟩
              · have h0i : (bb.length : Int) ≠ 0 := by omega
                have e1 : ((bb.length : Int) == 0) = false := beq_eq_false_iff_ne.2 h0i
                have e2 : decide ((bb.length : Int) = 0) = false := decide_eq_false h0i
                obtain ⟨q1, q2, q3⟩ := HXE18.out h0
                have hcy := HCY18.out
                rw [q1, q2, q3] at hcy
                rw [q3] at hst
                have hy := hst.swap
                rw [hcy] at hy
                obtain ⟨y0, y1, y2⟩ := cells3 hy
                have hn := hst.bring3
                rw [HCX.out] at hn
                obtain ⟨n0, n1, n2⟩ := cells3 hn
                have HSF := Lib.hid (sameNode_yes A18 A L.length c18 c w28.heap.size w.heap.size r p L w28 hst.bring2.ol.reads.2.1 (hst.rl HRL.out (Nat.le_refl _)) rfl HML.out (Nat.le_refl _) hst.size)
                clear hst hy hn hcy
                go_wp2_with (go_at_call 14; refine (HSF.out).mono ?_; rintro e w29 ⟨rfl, hb29⟩; have h29 := Lib.hid (H28.out.below hb29); clear hb29 y0 y1 y2 n0 n1 n2)
                go_ret
                exact ⟨rfl, h29.out.bel⟩

/-! ### THE ROW's STEP -/
theorem own : ownKnob Try.prog.godebug = none := by kernel_rfl
theorem laidOut : laidOutB Try.prog = true := by kernel_rfl

set_option maxRecDepth 100000 in
theorem contract (H : Type) (enc : TypeId × Value → H) (W : World) (base : Nat) (args : Array Value) (ds gs : List (DataW H)) (before : List MemPlace)
    (hval0 : ∀ (j : Nat) t v, Try.f9.params[j]? = some t → args[j]? = some v → Value.okWide Try.prog W .any base t v)
    (hW : DataW.Whole enc Try.prog Try.f9.params.toList Rows.reconeOwnSpec.vars false W args.toList ds gs before)
    (hsz : (DataW.weightsEach Try.prog (Try.f9.params.toList ++ (OpenSpec.ofChange Rows.reconeOwnSpec).bare.plain.varTypes Try.prog) (ds ++ gs)).all (· ≤ reachBytes) = true) :
    Calls Try.prog 9 args W fun e W' => ∃ v, e = .returned v ∧ Rows.reconeOwnSpec.post enc Try.prog Try.f9 false true false false W args v W' := by
  have hval : ∀ (j : Nat) t v, Try.f9.params[j]? = some t → args[j]? = some v → Value.okWide Try.prog W .any base t v := hval0
  have hW' := hW
  obtain ⟨p, q, hA0, hV, rfl, hfz, hnd⟩ := hW
  have hA : DataW.TrodAll enc Try.prog W 0 (fun _ => true) true Try.f9.params.toList args.toList ds p := hA0
  rw [Try.params9] at hA hval
  obtain ⟨v0, vs0, d0, ds0, p0, q0, hargs, rfl, rfl, h0, r0⟩ := trodAll_cons hA
  obtain ⟨rfl, rfl, rfl⟩ := trodAll_nil r0
  obtain rfl : args = #[v0] := by cases args; simp_all
  obtain ⟨rfl, rfl⟩ := trodVars_none hV
  have k0 := h0
  have lt0 : ∀ x ∈ p0, x.block < W.heap.size := by obtain ⟨m, hm⟩ := k0; exact DataW.trod_lt m _ _ _ hm
  have w0 := reach_at hsz (j := 0) rfl rfl
  clear hA0 hval0 hsz
  obtain ⟨a0, p0, A0, L0, c0, rfl, hx0⟩ := open_node (hval 0 _ v0 rfl rfl) w0 h0 lt0
  refine (walk W hx0).mono fun e W' ⟨he, bel⟩ => ?_
  subst he
  exact ⟨_, rfl, _, _, _, [], _, [], hW', trodAll_mk1 (shut_bool Try.underlying4 _), (trodAll_cons_mk (Below.trod laidOut (by kernel_rfl) (of_decide_eq_true (by kernel_rfl)) k0 bel lt0) trodAll_mk0), rfl, bel.frame _, fun h => by cases h⟩

set_option maxRecDepth 100000 in
theorem lifted (os : Os) (started : os.Started) (H : Type) (enc : TypeId × Value → H) :
    ReturnsInHanded {} Try.checked os 9 .any (Rows.reconeOwnSpec.pre6 enc Try.prog Try.f9 Rows.reconeOwnRow.domain false) (Rows.reconeOwnSpec.post enc Try.prog Try.f9 false true false false) := by
  refine returnsInHanded_of_change_sized (C := Try.checked) own started (by kernel_rfl) Try.func9
    (ChangeSpec.witness6 (enc := enc) (C := Try.checked) false ⟨#[], #[.agg #[.int .i64 0, .int .i64 0, .slice none 0 0]], []⟩ 8 (by kernel_rfl) (by kernel_rfl) (by kernel_rfl) (by kernel_rfl)) ?_
  intro W base args ds gs before hval hW _ hsz _
  exact contract H enc W base args ds gs before hval hW hsz

/-- THE STATEMENT -/
theorem proved : Rows.ReconeOwnSaid :=
  OpenClaim.holds_of_wide 9 Try.f9 rfl rfl rfl rfl rfl rfl rfl ⟨rfl, rfl, rfl, rfl, rfl⟩ rfl rfl rfl rfl rfl (by kernel_rfl) Try.func9 (by kernel_rfl)
    (of_decide_eq_true (by kernel_rfl)) (by unfold Func.isWrapper; rw [if_neg (of_decide_eq_false (by kernel_rfl))]; exact ⟨rfl, rfl⟩)
    (fun os started H enc _ => lifted os started H enc)
end Go.Proofs.Ytpoaokkmmoeekaa.reconeOwn

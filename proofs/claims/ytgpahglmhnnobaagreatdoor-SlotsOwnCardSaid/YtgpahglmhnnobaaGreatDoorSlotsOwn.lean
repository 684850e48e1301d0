/- Slots and properties are told in new memory. utf8's tables stand as the program's text lays them (the card ties them; no walk reads them). -/
import Derived.Test.YtgpahglmhnnobaaGreatDoorOpen
import Derived.Test.YtgpahglmhnnobaaGreatDoorCards
import Derived.Test.YtgpahglmhnnobaaGreatDoorTie
import Derived.Deep.DeepHandedRow
import Derived.Lib.LaidTab
import Derived.Test.YtgpahglmhnnobaaGreatDoorSlSpeak
import Derived.Test.YtgpahglmhnnobaaGreatDoorSlEnds
import Derived.Test.YtgpahglmhnnobaaGreatDoorSlRefPk
namespace Go.Proofs.YtgpahglmhnnobaaGreatDoor.slotsOwn
open Go.ChangeShapes Go.WideShapes Go.ChangeAt Go.RowKit
open Go.ChangeMaps (open_string shut_string)
set_option linter.unusedVariables false
set_option linter.unusedSimpArgs false

theorem pack_len (L : List Kv) (room : Int) : (packS L room).length ≤ 1000000 ∧ (packO L room).length ≤ 1000000 := by
  by_cases h : packE L room = 0
  · obtain ⟨f1, f2, f3, f4, f5⟩ := pack_facts h
    have hok := (run_ok L _ _ 0 (PkOk.start room.toNat) f4).ov
    refine ⟨by rw [f5]; omega, ?_⟩
    unfold packO
    rw [if_pos h]
    omega
  · rw [(pack_no h).1, (pack_no h).2]
    exact ⟨by simp, by simp⟩
theorem ee8 : IsBytes (List.replicate 8 238) := fun x hx => by rw [(List.mem_replicate.1 hx).2]; omega
theorem dd4 : IsBytes (List.replicate 4 221) := fun x hx => by rw [(List.mem_replicate.1 hx).2]; omega
set_option maxRecDepth 100000 in
set_option maxHeartbeats 4000000 in
theorem walk (w : World) {A : Option Addr} {L : List Kv} {c : Nat} (hx : KvsR w w.heap.size A L ∧ L.length * 88 ≤ 140737488351232) {room : Int} (hroom : -9223372036854775808 ≤ room ∧ room ≤ 9223372036854775807) :
    Calls Tryz.prog 5 #[.slice A L.length c, .int .i64 room] w fun e w' => e = .returned (.bool true) ∧ Below w.heap.size w w' := by
  obtain ⟨i0, hi, hz0, hz1, hz2⟩ := info_parts u8_info
  obtain ⟨hr, hl⟩ := hx
  clear hroom
  have HR : Hid (∀ w', Below w.heap.size w w' → KvsR w' w.heap.size A L) := Lib.hid fun w' hb => hr.below hb
  have HL := Lib.hid hl
  have HVK : Hid (∀ x ∈ L, Vok x.v) := Lib.hid fun x hx => by
    obtain ⟨k, hk⟩ := List.mem_iff_getElem?.1 hx
    obtain ⟨b, off, _, _, A1, c1, A2, c2, _, _, _, hv, _⟩ := hr k x hk
    exact hv
  have HCP : Hid (∀ w', Below w.heap.size w w' → Calls Tryz.prog 7 #[.slice A L.length c] w' (NewKvs L w')) := Lib.hid fun w' hb => refCopyKv_any A c w.heap.size L w' (HR.out w' hb) hb.size hl
  obtain ⟨n, HN⟩ : ∃ n, Hid (n = L.length) := ⟨_, Lib.hid rfl⟩
  obtain ⟨E, HE⟩ : ∃ E, Hid (E = packE L room) := ⟨_, Lib.hid rfl⟩
  obtain ⟨PS, HPS⟩ : ∃ PS, Hid (PS = packS L room) := ⟨_, Lib.hid rfl⟩
  obtain ⟨PO, HPO⟩ : ∃ PO, Hid (PO = packO L room) := ⟨_, Lib.hid rfl⟩
  have HLEN : Hid (PS.length ≤ 1000000 ∧ PO.length ≤ 1000000) := Lib.hid (by rw [HPS.out, HPO.out]; exact pack_len L room)
  obtain ⟨ls, HLS⟩ : ∃ ls, Hid (ls = PS.length) := ⟨_, Lib.hid rfl⟩
  obtain ⟨lo, HLO⟩ : ∃ lo, Hid (lo = PO.length) := ⟨_, Lib.hid rfl⟩
  have hlsb : ls ≤ 1000000 := by rw [HLS.out]; exact HLEN.out.1
  have hlob : lo ≤ 1000000 := by rw [HLO.out]; exact HLEN.out.2
  have HRP : Hid (∀ w', Below w.heap.size w w' → Calls Tryz.prog 9 #[.slice A n c, .int .i64 room] w' fun e w'' => ∃ v v', e = .returned (.tuple #[v, v', .int .i64 E]) ∧ St Zf [ObA 5 v PS, ObA 5 v' PO] w' w'') := Lib.hid fun w' hb => by
    have h := refPack_any A c w.heap.size L room w' (HR.out w' hb) hb.size (by omega)
    unfold PackW at h
    rw [← HN.out, ← HE.out, ← HPS.out, ← HPO.out] at h
    exact h
  have HPK : Hid (∀ A2 c2 w', KvsR w' w'.heap.size A2 L → Calls Tryz.prog 8 #[.slice A2 n c2, .int .i64 room] w' fun e w'' => ∃ v v', e = .returned (.tuple #[v, v', .int .i64 E]) ∧ St Zf [ObA 5 v PS, ObA 5 v' PO] w' w'') := Lib.hid fun A2 c2 w' h2 => by
    have h := Pack_any A2 c2 w'.heap.size L room w' h2 (Nat.le_refl _) (by omega)
    unfold PackW at h
    rw [← HN.out, ← HE.out, ← HPS.out, ← HPO.out] at h
    exact h
  rw [← HN.out] at HCP hl ⊢
  clear hr
  go_enter Tryz.func5, Tryz.ntmps5
  go_wp2_with fail
  refine (speaks16_any w).mono ?_
  rintro e w1 ⟨rfl, hb1⟩
  have HC1 := Lib.hid (HCP.out w1 hb1)
  have H1 := Lib.hid ((St.start Zf w).below hb1)
  clear hb1
  go_wp2_with fail
  unfold NewKvs at HC1
  refine HC1.out.mono ?_
  rintro e w2 ⟨v, F, rfl, hF, hF2, hb2⟩
  obtain ⟨A2, c2, rfl, hr2⟩ := hF.reads
  have HP1 := Lib.hid (HPK.out A2 c2 w2 hr2)
  have H2 := Lib.hid (H1.out.below hb2)
  rw [← HN.out]
  clear hF hF2 hb2 hr2 HC1 H1
  go_wp2_with fail
  refine HP1.out.mono ?_
  rintro e w3 ⟨v3, v4, rfl, h3⟩
  obtain ⟨A3, c3, rfl, -, -, -, -⟩ := h3.ob.form
  obtain ⟨A4, c4, rfl, -, -, -, -⟩ := h3.drop.ob.form
  have h4 := H2.out.addSts h3
  simp only [List.cons_append, List.nil_append] at h4
  rw [← HLS.out, ← HLO.out] at h4 ⊢
  have HC2 := Lib.hid (HCP.out w3 h4.bel)
  have H3 := Lib.hid h4
  clear h3 h4 H2 HP1
  go_wp2_with fail
  unfold NewKvs at HC2
  refine HC2.out.mono ?_
  rintro e w4 ⟨v, F, rfl, hF, hF2, hb2⟩
  obtain ⟨A5, c5, rfl, hr2⟩ := hF.reads
  have HP1 := Lib.hid (HPK.out A5 c5 w4 hr2)
  have H4 := Lib.hid (H3.out.below hb2)
  rw [← HN.out]
  clear hF hF2 hb2 hr2 HC2 H3
  go_wp2_with fail
  refine HP1.out.mono ?_
  rintro e w5 ⟨v3, v4, rfl, h3⟩
  obtain ⟨A6, c6, rfl, -, -, -, -⟩ := h3.ob.form
  obtain ⟨A7, c7, rfl, -, -, -, -⟩ := h3.drop.ob.form
  have h5 := H4.out.addSts h3
  simp only [List.cons_append, List.nil_append] at h5
  have h5 := h5.bring3.bring3
  rw [← HLS.out, ← HLO.out] at h5 ⊢
  have HR5 := Lib.hid (HRP.out w5 h5.bel)
  have H5 := Lib.hid h5
  clear h3 h5 H4 HP1
  go_wp2_with fail
  refine HR5.out.mono ?_
  rintro e w6 ⟨v5, v6, rfl, h3⟩
  obtain ⟨A8, c8, rfl, -, -, -, -⟩ := h3.ob.form
  obtain ⟨A9, c9, rfl, -, -, -, -⟩ := h3.drop.ob.form
  have h6 := H5.out.addSts h3
  simp only [List.cons_append, List.nil_append] at h6
  have h6 := h6.bring2
  rw [← HLS.out, ← HLO.out] at h6 ⊢
  have H6 := Lib.hid h6
  clear h3 h6 H5 HR5
  go_wp2_with fail
  go_loopw [47] (fun i wr => ∃ (k : Nat) (b' : List Nat), k ≤ ls ∧ i = .int .i64 k ∧ b'.length = ls ∧ Hid (St Zf (ObA 5 (.slice A3 ls c3) b' :: [ObA 5 (.slice A8 ls c8) PS, ObA 5 (.slice A9 lo c9) PO, ObA 5 (.slice A4 lo c4) PO, ObA 5 (.slice A6 ls c6) PS, ObA 5 (.slice A7 lo c7) PO]) w wr)) (fun i _ => ls - (intOf i).toNat)
  case atStart => exact ⟨0, _, Nat.zero_le _, rfl, HLS.out.symm, H6⟩
  case round =>
    obtain ⟨k, b', hk, rfl, hb, HST⟩ := hrel
    by_cases hlt : k < ls
    · obtain ⟨g, hA, ⟨u0, hu0⟩, hfz, hst2⟩ := HST.out.storeObB hb hlt 238 (by decide)
      subst hA
      have H2 := Lib.hid hst2
      have HBL : Hid ((b'.set k 238).length = ls) := Lib.hid (by rw [List.length_set, hb])
      have hkI : (k : Int) < (ls : Int) := by omega
      clear hst2 hb hk
      go_wp2_with fail
      go_roundw
      case rel => exact ⟨k + 1, _, hlt, by go_num, HBL.out, H2⟩
      case measure => simp [intOf]; omega
    · have hkI : ¬ (k : Int) < (ls : Int) := by omega
      have hke : k = ls := by omega
      have H7 := Lib.hid HST.out.bring3
      obtain ⟨s1, HSL⟩ : ∃ s1, Hid (s1 = b' ∧ s1.length = ls) := ⟨_, Lib.hid ⟨rfl, hb⟩⟩
      rw [← HSL.out.1] at H7
      clear HST hb hk hke H6
      go_wp2_with fail
      go_loopw [56] (fun i wr => ∃ (k : Nat) (b' : List Nat), k ≤ lo ∧ i = .int .i64 k ∧ b'.length = lo ∧ Hid (St Zf (ObA 5 (.slice A4 lo c4) b' :: [ObA 5 (.slice A3 ls c3) s1, ObA 5 (.slice A8 ls c8) PS, ObA 5 (.slice A9 lo c9) PO, ObA 5 (.slice A6 ls c6) PS, ObA 5 (.slice A7 lo c7) PO]) w wr)) (fun i _ => lo - (intOf i).toNat)
      case atStart => exact ⟨0, _, Nat.zero_le _, rfl, HLO.out.symm, H7⟩
      case round =>
        obtain ⟨k, b', hk, rfl, hb, HST⟩ := hrel
        by_cases hlt : k < lo
        · obtain ⟨g, hA, ⟨u0, hu0⟩, hfz, hst2⟩ := HST.out.storeObB hb hlt 221 (by decide)
          subst hA
          have H2 := Lib.hid hst2
          have HBL : Hid ((b'.set k 221).length = lo) := Lib.hid (by rw [List.length_set, hb])
          have hkI : (k : Int) < (lo : Int) := by omega
          clear hst2 hb hk
          go_wp2_with fail
          go_roundw
          case rel => exact ⟨k + 1, _, hlt, by go_num, HBL.out, H2⟩
          case measure => simp [intOf]; omega
        · have hkI : ¬ (k : Int) < (lo : Int) := by omega
          have hke : k = lo := by omega
          have HBL := Lib.hid hb
          have h8 := HST.out.swap
          have hn1 : s1.length + 8 ≤ 140737488355328 := by rw [HSL.out.2]; omega
          have hn2 : b'.length + 4 ≤ 140737488355328 := by rw [HBL.out]; omega
          have H8 := Lib.hid h8
          clear h8 HST hb hk hke H7
          go_wp2_with (at_builtin; first | (refine wpList_append_exact _ rfl _ _ 25 rfl 0 5 i0 Tryz.underlying25 hi hz0 hz1 hz2 (.slice A3 ls c3) s1 (by rfl) (H8.out.ob.alloc _) (some ⟨wr.heap.size, 0, none⟩) 8 (wr.heap.size + 1) (List.replicate 8 238) 8 rfl (by rfl) (RB.lit wr 5 ee8 _ rfl) (by decide) hn1 (Nat.zero_le _) ?_; intro u1 w8 hu1 hg1 hat1 hx1; have H9 := Lib.hid (((H8.out.below ((Below.refl _ _).alloc (Nat.le_refl _) _)).grewOb hu1 hg1 hat1 (Nat.le_refl _)).swap)) | (refine wpList_append_exact _ rfl _ _ 25 rfl 0 5 i0 Tryz.underlying25 hi hz0 hz1 hz2 (.slice A4 lo c4) b' (by rfl) (H9.out.ob.alloc _) (some ⟨w8.heap.size, 0, none⟩) 4 (w8.heap.size + 1) (List.replicate 4 221) 4 rfl (by rfl) (RB.lit w8 5 dd4 _ rfl) (by decide) hn2 (Nat.zero_le _) ?_; intro u2 w9 hu2 hg2 hat2 hx2; have H10 := Lib.hid (((H9.out.below ((Below.refl _ _).alloc (Nat.le_refl _) _)).grewOb hu2 hg2 hat2 (Nat.le_refl _)).drop.drop)))
          have HT : Hid (St Zf [ObA 5 (.slice A8 ls c8) PS, ObA 5 (.slice A9 lo c9) PO, ObA 5 (.slice A6 ls c6) PS, ObA 5 (.slice A7 lo c7) PO] w w9) := H10
          have HS1 := Lib.hid (same_yes A6 A8 ls c6 c8 _ _ PS w9 HT.out.bring2.obR.2.2.2 HT.out.obR.2.2.2 HLS.out.symm (by unfold maxLen; omega))
          have HS2 : Hid (∀ k, Calls Tryz.prog 10 #[.slice A7 lo c7, .slice A9 lo c9] (w9.drewN k) (SameB true (w9.drewN k))) := Lib.hid fun k => same_yes A7 A9 lo c7 c9 _ _ PO (w9.drewN k) (HT.out.drewN k).bring3.obR.2.2.2 (HT.out.drewN k).drop.obR.2.2.2 HLO.out.symm (by unfold maxLen; omega)
          clear H8 H9 H10 hu1 hg1 hat1 hx1 hu2 hg2 hat2 hx2
          refine HS1.out.mono ?_
          rintro e w10 ⟨rfl, k6, hw6⟩
          have HS3 := Lib.hid (HS2.out k6)
          rw [← hw6] at HS3
          have H11 : Hid (St Zf [ObA 5 (.slice A8 ls c8) PS, ObA 5 (.slice A9 lo c9) PO, ObA 5 (.slice A6 ls c6) PS, ObA 5 (.slice A7 lo c7) PO] w w10) := Lib.hid (by rw [hw6]; exact HT.out.drewN k6)
          clear hw6 HS2 HS1 HT
          go_wp2_with fail
          refine HS3.out.mono ?_
          rintro e w11 ⟨rfl, k7, hw7⟩
          have H12 : Hid (St Zf [ObA 5 (.slice A8 ls c8) PS, ObA 5 (.slice A9 lo c9) PO, ObA 5 (.slice A6 ls c6) PS, ObA 5 (.slice A7 lo c7) PO] w w11) := Lib.hid (by rw [hw7]; exact H11.out.drewN k7)
          clear hw7 HS3 H11
          by_cases h0 : E = 0
          · have hpe : packE L room = 0 := by rw [← HE.out]; exact h0
            subst h0
            have hz := H12.out.bring2.obR
            have hun := Unpack_any (As := A6) (Ao := A7) (cs := c6) (co := c7) w11 H12.out.bring2.obR.2.2.2 H12.out.bring3.obR.2.2.2 (Nat.le_refl _) (by rw [← HLS.out]; exact hz.2.1) hz.2.2.1 (by rw [← HLO.out]; omega)
            rw [show unpR PS PO = (0, L) by rw [HPS.out, HPO.out]; exact unp_there hpe HVK.out] at hun
            unfold UnpW at hun
            rw [← HLS.out, ← HLO.out] at hun
            have HUN := Lib.hid hun
            clear hpe hz hun
            go_wp2_with fail
            refine HUN.out.mono ?_
            rintro e w12 ⟨v5, X, rfl, h4, hX, hok⟩
            obtain ⟨A10, c10, rfl⟩ := kx_form h4
            have hXl : X.length = n := by rw [HN.out]; have := congrArg List.length hX; simpa using this
            have H13 := Lib.hid ((H12.out.addStL h4).bring3)
            have HXX : Hid (X.map (·.1) = L ∧ ∀ q ∈ X, KvOk q.1) := Lib.hid ⟨hX, hok⟩
            rw [hXl] at H13 ⊢
            clear h4 hX hok HUN H12
            go_wp2_with fail
            go_loopw [89] (fun i wr => ∃ (k : Nat) (b' : List Nat), k ≤ ls ∧ i = .int .i64 k ∧ b'.length = ls ∧ Hid (St Zf (ObA 5 (.slice A6 ls c6) b' :: [KxA (.slice A10 n c10) X, ObA 5 (.slice A8 ls c8) PS, ObA 5 (.slice A9 lo c9) PO, ObA 5 (.slice A7 lo c7) PO]) w wr)) (fun i _ => ls - (intOf i).toNat)
            case atStart => exact ⟨0, _, Nat.zero_le _, rfl, HLS.out.symm, H13⟩
            case round =>
              obtain ⟨k, b', hk, rfl, hb, HST⟩ := hrel
              by_cases hlt : k < ls
              · obtain ⟨g, hA, ⟨u0, hu0⟩, hfz, hst2⟩ := HST.out.storeObB hb hlt 238 (by decide)
                subst hA
                have H2 := Lib.hid hst2
                have HBL : Hid ((b'.set k 238).length = ls) := Lib.hid (by rw [List.length_set, hb])
                have hkI : (k : Int) < (ls : Int) := by omega
                clear hst2 hb hk
                go_wp2_with fail
                go_roundw
                case rel => exact ⟨k + 1, _, hlt, by go_num, HBL.out, H2⟩
                case measure => simp [intOf]; omega
              · have hkI : ¬ (k : Int) < (ls : Int) := by omega
                have hke : k = ls := by omega
                have H14 := Lib.hid HST.out.bring4
                obtain ⟨s2, HSL2⟩ : ∃ s2, Hid (s2 = b' ∧ s2.length = ls) := ⟨_, Lib.hid ⟨rfl, hb⟩⟩
                rw [← HSL2.out.1] at H14
                clear HST hb hk hke H13
                go_wp2_with fail
                go_loopw [98] (fun i wr => ∃ (k : Nat) (b' : List Nat), k ≤ lo ∧ i = .int .i64 k ∧ b'.length = lo ∧ Hid (St Zf (ObA 5 (.slice A7 lo c7) b' :: [ObA 5 (.slice A6 ls c6) s2, KxA (.slice A10 n c10) X, ObA 5 (.slice A8 ls c8) PS, ObA 5 (.slice A9 lo c9) PO]) w wr)) (fun i _ => lo - (intOf i).toNat)
                case atStart => exact ⟨0, _, Nat.zero_le _, rfl, HLO.out.symm, H14⟩
                case round =>
                  obtain ⟨k, b', hk, rfl, hb, HST⟩ := hrel
                  by_cases hlt : k < lo
                  · obtain ⟨g, hA, ⟨u0, hu0⟩, hfz, hst2⟩ := HST.out.storeObB hb hlt 238 (by decide)
                    subst hA
                    have H2 := Lib.hid hst2
                    have HBL : Hid ((b'.set k 238).length = lo) := Lib.hid (by rw [List.length_set, hb])
                    have hkI : (k : Int) < (lo : Int) := by omega
                    clear hst2 hb hk
                    go_wp2_with fail
                    go_roundw
                    case rel => exact ⟨k + 1, _, hlt, by go_num, HBL.out, H2⟩
                    case measure => simp [intOf]; omega
                  · have hkI : ¬ (k : Int) < (lo : Int) := by omega
                    have hke : k = lo := by omega
                    have h15 := HST.out.drop.drop
                    obtain ⟨-, hq⟩ := h15.kxR HXX.out.2
                    rw [HXX.out.1] at hq
                    have hb15 := h15.bel
                    have hsm := refSameKv_yes A10 A c10 c wr.heap.size L wr hq ((HR.out wr hb15).more hb15.size) (Nat.le_refl _) (by have := HL.out; omega)
                    rw [← HN.out] at hsm
                    have HSM := Lib.hid hsm
                    have HB15 := Lib.hid hb15
                    clear h15 hq hb15 hsm HST hb hk hke H14
                    go_wp2_with fail
                    refine HSM.out.mono ?_
                    rintro e w16 ⟨rfl, hb16⟩
                    have HB16 := Lib.hid (HB15.out.trans (hb16.mono HB15.out.size))
                    clear hb16 HSM
                    go_wp2
                    go_ret
                    exact ⟨rfl, HB16.out⟩
          · have hbe : (E != 0) = true := by simpa using h0
            have HB12 := Lib.hid H12.out.bel
            clear H12 h0
            go_wp2
            go_ret
            exact ⟨rfl, HB12.out⟩

/-! ### THE ROW's STEP -/
theorem own : ownKnob Tryz.prog.godebug = none := by kernel_rfl
theorem laidOut : laidOutB Tryz.prog = true := by kernel_rfl

set_option maxRecDepth 100000 in
theorem contract (H : Type) (enc : TypeId × Value → H) (W : World) (base : Nat) (args : Array Value) (ds gs : List (DataW H)) (before : List MemPlace)
    (hval0 : ∀ (j : Nat) t v, Tryz.f5.params[j]? = some t → args[j]? = some v → Value.okWide Tryz.prog W .any base t v)
    (hW : DataW.Whole enc Tryz.prog Tryz.f5.params.toList Rows.slotsOwnSpec.vars false W args.toList ds gs before)
    (hsz : (DataW.weightsEach Tryz.prog (Tryz.f5.params.toList ++ (OpenSpec.ofChange Rows.slotsOwnSpec).bare.plain.varTypes Tryz.prog) (ds ++ gs)).all (· ≤ reachBytes) = true) (hL : laidMetH Tryz.prog Rows.slotsOwnRow.laid W) (hSh : W.ShapedOpen Tryz.prog) :
    Calls Tryz.prog 5 args W fun e W' => ∃ v, e = .returned v ∧ Rows.slotsOwnSpec.post enc Tryz.prog Tryz.f5 false true false false W args v W' := by
  have hval : ∀ (j : Nat) t v, Tryz.f5.params[j]? = some t → args[j]? = some v → Value.okWide Tryz.prog W .any base t v := hval0
  have hW' := hW
  obtain ⟨p, q, hA0, hV, rfl, hfz, hnd⟩ := hW
  have hA : DataW.TrodAll enc Tryz.prog W 0 (fun _ => true) true Tryz.f5.params.toList args.toList ds p := hA0
  rw [Tryz.params5] at hA hval
  obtain ⟨v0, vs0, d0, ds0, p0, q0, hargs, rfl, rfl, h0, r0⟩ := trodAll_cons hA
  obtain ⟨v1, vs1, d1, ds1, p1, q1, rfl, rfl, rfl, h1, r1⟩ := trodAll_cons r0
  obtain ⟨rfl, rfl, rfl⟩ := trodAll_nil r1
  obtain rfl : args = #[v0, v1] := by cases args; simp_all
  obtain ⟨rfl, rfl⟩ := trodVars_none hV
  have k0 := h0
  have lt0 : ∀ x ∈ p0, x.block < W.heap.size := by obtain ⟨m, hm⟩ := k0; exact DataW.trod_lt m _ _ _ hm
  have w0 := reach_at hsz (j := 0) rfl rfl
  have k1 := h1
  have lt1 : ∀ x ∈ p1, x.block < W.heap.size := by obtain ⟨m, hm⟩ := k1; exact DataW.trod_lt m _ _ _ hm
  have w1 := reach_at hsz (j := 1) rfl rfl
  clear hA0 hval0 hsz
  obtain ⟨A0, L0, c0, rfl, hx0⟩ := open_kvs (hval 0 _ v0 rfl rfl) w0 h0 lt0
  obtain ⟨a1, rfl, rfl, rfl, wf1⟩ := open_int Tryz.underlying3 (hval 1 3 v1 rfl rfl) h1
  refine (walk W hx0 (bounds_i64 wf1)).mono fun e W' ⟨he, bel⟩ => ?_
  subst he
  exact ⟨_, rfl, _, _, _, [], _, [], hW', trodAll_mk1 (shut_bool Tryz.underlying4 _), (trodAll_cons_mk (Below.trod laidOut (by kernel_rfl) (of_decide_eq_true (by kernel_rfl)) k0 bel lt0) (trodAll_cons_mk (Below.trod laidOut (by kernel_rfl) (of_decide_eq_true (by kernel_rfl)) k1 bel lt1) trodAll_mk0)), rfl, bel.frame _, fun h => by cases h⟩

theorem laid_met (os : Os) : laidMet Tryz.prog Rows.slotsOwnRow.laid ((laidWorld os).forCall (fun _ _ => 0) ⟨#[], #[.slice none 0 0, .int .i64 0], []⟩).memory :=
  laid_met0 os
theorem reads (os : Os) {H : Type} (enc : TypeId × Value → H) : ∃ places, DataW.whole enc Tryz.prog ((laidWorld os).forCall (fun _ _ => 0) ⟨#[], #[.slice none 0 0, .int .i64 0], []⟩).memory Tryz.f5.params.toList Rows.slotsOwnSpec.vars false (#[.slice none 0 0, .int .i64 0] : Array Value).toList 8 = some ([.nil, .lit (.int .i64 0)], [], places) :=
  ⟨[], by kernel_rfl⟩

set_option maxRecDepth 100000 in
theorem lifted (os : Os) (started : os.Started) (H : Type) (enc : TypeId × Value → H) (F : Stop.Interp) :
    ReturnsInHanded {} Tryz.checked os 5 .any ((OpenSpec.ofChange Rows.slotsOwnSpec).preRow enc Tryz.prog Tryz.f5 Rows.slotsOwnRow.domain false Rows.slotsOwnRow.laid) (((OpenSpec.ofChange Rows.slotsOwnSpec).at F).post enc Tryz.prog Tryz.f5 false true false false) := by
  obtain ⟨places, hx⟩ := reads os enc
  refine returnsInHanded_of_row (C := Tryz.checked) (s := (OpenSpec.ofChange Rows.slotsOwnSpec)) own started (by kernel_rfl) Tryz.func5
    (witness_row_at (enc := enc) (C := Tryz.checked) false (laidWorld os) #[.slice none 0 0, .int .i64 0] rfl (by kernel_rfl) (by kernel_rfl) (by kernel_rfl)
      (OpenSpec.preRow_of_cond 8 hx (by kernel_rfl) (fun k hk => by cases hk) (by kernel_rfl) (laid_met os))) ?_
  intro W base args ds gs before hval hW _ hcond hsz hL hSh _
  exact contract H enc W base args ds gs before hval hW hsz hL hSh

theorem said : Rows.SlotsOwnSaid :=
  OpenClaim.holds_of_cond 5 Tryz.f5 rfl rfl rfl rfl rfl rfl rfl ⟨rfl, rfl, rfl, rfl, rfl⟩ rfl rfl rfl rfl rfl (by kernel_rfl) Tryz.func5 (by kernel_rfl)
    (of_decide_eq_true (by kernel_rfl)) (by unfold Func.isWrapper; rw [if_neg (of_decide_eq_false (by kernel_rfl))]; exact ⟨rfl, rfl⟩)
    (fun os started H enc _ F => by rw [OpenClaim.pre_eq_preRow]; exact lifted os started H enc F)

theorem noStandIn : ∀ t ∈ ([22, 3] : List TypeId), Tryz.prog.wantsStandIn t = false := by
  intro t ht
  simp only [List.mem_cons, List.not_mem_nil, or_false] at ht
  rcases ht with rfl | rfl
  · exact (show Tryz.prog.wantsStandIn 22 = false by kernel_rfl)
  · exact (show Tryz.prog.wantsStandIn 3 = false by kernel_rfl)
theorem plain (f : FuncId) (fn : Func) (hf : Tryz.pinned.checked.prog.funcNamed "satchel/satchellaw16.SlotsOwn" = some f) (hfn : Tryz.pinned.checked.prog.funcs[f]? = some fn) :
    false = Tryz.pinned.checked.prog.looks [] ∧ ∀ (j : Nat) t, fn.params[j]? = some t → Tryz.pinned.checked.prog.wantsStandIn t = false := by
  obtain rfl : f = 5 := Option.some.inj ((show Tryz.prog.funcNamed "satchel/satchellaw16.SlotsOwn" = some 5 by kernel_rfl).symm.trans hf) |>.symm
  obtain rfl : fn = Tryz.f5 := (Option.some.inj (Tryz.func5.symm.trans hfn)).symm
  refine ⟨by kernel_rfl, fun j t ht => ?_⟩
  rw [Tryz.params5] at ht
  exact noStandIn t (by simpa using Array.mem_of_getElem? ht)

/-- THE CARD -/
theorem proved : Rows.SlotsOwnCardSaid :=
  Claim7.holds_tied_plain_at .later [] _ _ _ _ said (fun _ h => by cases h) (by kernel_rfl) (fun _ h => by cases h) slotsOwn_row_tie rfl ⟨rfl, rfl⟩ (by kernel_rfl) rfl plain (by kernel_rfl)
end Go.Proofs.YtgpahglmhnnobaaGreatDoor.slotsOwn

/- What is walked are unlike live relationships that touch the node, no more than there are, for any list within the form's reach. -/
import Derived.Test.YtpdaiiakdlngjaaOpen
import Derived.Test.YtpdaiiakdlngjaaRows
import Derived.Test.YtpdaiiakdlngjaaLkSpeak
import Derived.Test.YtpdaiiakdlngjaaLkOpen
import Derived.Test.YtpdaiiakdlngjaaLkPure2
import Derived.Test.YtpdaiiakdlngjaaLkB
import Derived.Deep.QuietTactic
import Derived.BigQuiet
import Derived.Deep.Cut
namespace Go.Proofs.Ytpdaiiakdlngjaa.linksSound
open Go.ChangeShapes Go.WideShapes Go.ChangeAt Go.RowKit
open Go.ChangeMaps (open_string shut_string)
set_option linter.unusedVariables false

set_option maxRecDepth 100000 in
set_option maxHeartbeats 4000000 in
theorem walk (w : World) {A : Option Addr} {L : List LkC} {c : Nat} (hx : RR lkc 7 w w.heap.size A L ∧ L.length * 56 ≤ 140737488351232) {node : Int} (hn : -9223372036854775808 ≤ node ∧ node ≤ 9223372036854775807) {head : Int} (hh : -9223372036854775808 ≤ head ∧ head ≤ 9223372036854775807) :
    Calls Try.prog 8 #[.slice A L.length c, .int .i64 node, .int .i64 head] w fun e w' => e = .returned (.bool true) ∧ Below w.heap.size w w' := by
  obtain ⟨hr, hl⟩ := hx
  obtain ⟨j0, hj, hy0, hy1, hy2⟩ := info_parts nb_info
  have hl2 : L.length * 56 ≤ 140737488355328 := by omega
  have HS := Lib.hid (lkSpeaks_any w)
  have HR := Lib.hid hr
  have hwl := walkP_len L node head
  have hfew := walkP_few L node head
  have hgd := walkP_good L node head
  have htc := walkP_touch L node head
  have hno := walkP_none (L := L) (node := node) (head := head)
  have hhd := walkP_head (L := L) (node := node) (head := head)
  clear hr hn hh
  have HI0 := fun (A2 : Option Addr) (c2 B : Nat) (W : World) (h : RR lkc 7 W B A2 L) (hB : B ≤ W.heap.size) => Walk_any A2 c2 B L node head W h hB hl2
  unfold NewW at HI0
  obtain ⟨W, hW⟩ : ∃ W, W = (walkP L node head).1 := ⟨_, rfl⟩
  obtain ⟨E, hE⟩ : ∃ E, E = (walkP L node head).2 := ⟨_, rfl⟩
  rw [← hW] at hwl hfew hgd htc hno hhd HI0
  rw [← hE] at hno hhd HI0
  have HIX := Lib.hid HI0
  have HNO := Lib.hid hno
  have HHD := Lib.hid hhd
  have HGD := Lib.hid hgd
  have HTC := Lib.hid htc
  have HFEW := Lib.hid hfew
  clear HI0 hno hhd hgd htc hfew hW hE
  go_enter Try.func8, Try.ntmps8
  go_upto_region 3 with (go_at_call 10; refine (HS.out).mono ?_; rintro e w1 ⟨rfl, hb1⟩)
  have h1 := (St.start Zf w).below hb1
  have HC := Lib.hid (copied_any A c w.heap.size L w1 (h1.rr HR.out (Nat.le_refl _)) h1.size hl2)
  go_upto_region 4 with (first
    | (go_at_call 11; refine (HC.out).mono ?_; rintro e w2 ⟨v2, rfl, ho2, hb2⟩; have h2 := h1.newOw ho2 hb2; obtain ⟨A2, c2, rfl, -, -, hr2⟩ := h2.owForm; have HI := Lib.hid (HIX.out A2 c2 w2.heap.size w2 hr2 (Nat.le_refl _)); have H2 := Lib.hid h2.drop; clear h2 hr2 ho2 hb2)
    | (go_at_call 18; refine (HI.out).mono ?_; rintro e w3 ⟨v3, rfl, ho3, hb3⟩; have h3 := H2.out.newOl ho3 hb3; obtain ⟨A3, c3, rfl, -, -, -, -⟩ := h3.ol.form))
  have H3 := Lib.hid h3
  clear h1 h3 ho3 hb3 hb1 HC HS HI H2
  by_cases hE : E = 0
  · subst hE
    have hhd := HHD.out rfl
    have e0 : ((0 : Int) != 0) = false := by decide
    have hby : j0.bytes * L.length ≤ 281474976710656 := by rw [hy2]; omega
    have HBY := Lib.hid hby
    clear hby
    go_upto_region 8 with (refine wpList_make_full _ rfl _ _ 44 rfl 0 4 j0 _ 1 Try.underlying44 hj hy0 hy1 .i64 .i64 (L.length : Int) (L.length : Int) L.length (by rfl) (by rfl) rfl rfl HBY.out (by unfold maxLen; omega) (Nat.zero_le _) ?_; intro w4 hown4 hg4; have h4 := H3.out.nilOl bvl 4; have h4 := h4.grewOl (OL.made hown4) hg4 (.inr rfl) (Nat.le_refl _); have H4 := Lib.hid h4; clear hown4 hg4 h4)
    obtain ⟨g, hgN⟩ : ∃ g, g = w3.heap.size := ⟨_, rfl⟩
    rw [← hgN] at H4 ⊢
    clear hgN H3
    go_loopw [32] (fun i wr => ∃ k : Nat, k ≤ W.length ∧ i = .int .i64 k ∧ St Zf [OlA bvl 4 (.slice (some ⟨g, 0, none⟩) L.length L.length) (metB W k (List.replicate L.length false)), OlA ivl 3 (.slice A3 W.length c3) W] w wr) (fun i _ => W.length - (intOf i).toNat)
    case atStart => exact ⟨0, Nat.zero_le _, rfl, H4.out⟩
    case round =>
      obtain ⟨k, hk, rfl, hst⟩ := hrel
      by_cases hlt : k < W.length
      · have hmem : nthI W k ∈ W := by rw [nthI_lt hlt]; exact List.getElem_mem hlt
        obtain ⟨m, hm, hml, hlv, htb⟩ := tch_ok (HTC.out _ hmem)
        have hnn : ∀ j, j < k → (0 : Int) ≤ nthI W j := fun j hj => by
          have hme : nthI W j ∈ W := by rw [nthI_lt (by omega)]; exact List.getElem_mem (by omega)
          obtain ⟨q, hq, -⟩ := tch_ok (HTC.out _ hme)
          omega
        have hml2 : (metB W k (List.replicate L.length false)).length = L.length := by rw [metB_len, List.length_replicate]
        have hget := metB_at W L.length m hml k hk hnn
        have hno2 : ¬ ((m : Int) ∈ W.take k) := fun hin => by
          obtain ⟨j, hj, he⟩ := List.mem_take_iff_getElem.1 hin
          have h1 : W[j]? = some (m : Int) := by rw [← he]; exact List.getElem?_eq_getElem _
          have h2 : W[k]? = some (m : Int) := by rw [← hm, nthI_lt hlt]; exact List.getElem?_eq_getElem _
          exact HGD.out.unlike j k _ (by omega) h1 h2
        have hsucc : metB W (k + 1) (List.replicate L.length false) = (metB W k (List.replicate L.length false)).set m true := by
          show List.set _ (nthI W k).toNat true = _
          rw [hm, Int.toNat_natCast]
        rw [decide_eq_false hno2] at hget
        obtain ⟨M, hM⟩ : ∃ M, M = metB W k (List.replicate L.length false) := ⟨_, rfl⟩
        rw [← hM] at hst hml2 hget hsucc
        obtain ⟨g', hg', ⟨u0, hu0⟩, hfz, hst'⟩ := hst.storeOlL hml2 hml true (bvl_ok true)
        simp only [Option.some.injEq, Addr.mk.injEq, and_true] at hg'
        subst hg'
        obtain ⟨b2, off2, hA2, -, hcell⟩ := hst.ol.reads.2.1.all (by omega)
        simp only [Option.some.injEq, Addr.mk.injEq, and_true] at hA2
        obtain ⟨rfl, rfl⟩ := hA2
        have hmc := hcell m (by omega)
        have hMm : M[m]'(by omega) = false := by
          have := List.getElem?_eq_getElem (l := M) (i := m) (by omega)
          rw [this] at hget
          exact Option.some.inj hget
        rw [hMm, Nat.zero_add] at hmc
        obtain ⟨b3, off3, hA3, -, hcell3⟩ := hst.swap.ol.reads.2.1.allI (by omega)
        have hc3 := hcell3 k hlt
        rw [hm] at hc3
        obtain ⟨b, off, hA, -, hcs⟩ := (hst.rr HR.out (Nat.le_refl _)).all lkc_f (by omega)
        obtain ⟨q0, q1, q2, -⟩ := lk_cells (hcs m _ (nthD_get hml))
        have hx0 : (k : Int) = 0 → (m : Int) = head := fun h0 => by
          have hk0 : k = 0 := by omega
          subst hk0
          rcases hhd with ⟨-, hWn⟩ | ⟨-, R, hWn⟩
          · rw [hWn] at hlt
            simp at hlt
          · rw [hWn] at hm
            exact hm.symm
        obtain ⟨x, hxe⟩ : ∃ x, x = nthD L m := ⟨_, rfl⟩
        rw [← hxe] at q0 q1 q2 hlv htb
        rw [hlv] at q0
        obtain ⟨fr, hfr⟩ : ∃ f, f = x.fr := ⟨_, rfl⟩
        obtain ⟨to, hto⟩ : ∃ f, f = x.to := ⟨_, rfl⟩
        have htb' : (decide (fr = node) || decide (to = node)) = true := by rw [hfr, hto]; exact htb
        rw [← hfr] at q1
        rw [← hto] at q2
        have HS' := Lib.hid hst'
        have HSU := Lib.hid hsucc
        have hnneg : decide ((m : Int) < 0) = false := decide_eq_false (by omega)
        have hnge : decide ((L.length : Int) ≤ (m : Int)) = false := decide_eq_false (by omega)
        have HX0 := Lib.hid hx0
        subst hA hA3
        clear hmem hm hlv htb hnn hml2 hget hno2 hsucc hM hst hst' hcell hMm hcell3 hcs hx0 hxe hfr hto hu0
        by_cases hk0 : (k : Int) = 0
        · have f1 : ((k : Int) == 0) = true := by simp [hk0]
          have f2 : ((m : Int) != head) = false := by simp [HX0.out hk0]
          by_cases hf : fr = node
          · have f3 : (fr != node) = false := by simp [hf]
            clear hf htb' hk0
            go_wp2
            go_roundw
            case rel => exact ⟨k + 1, by omega, by go_num, by rw [HSU.out]; exact HS'.out⟩
            case measure => simp [intOf]; omega
          · have f3 : (fr != node) = true := by simp [hf]
            have f4 : (to != node) = false := by
              rw [decide_eq_false hf, Bool.false_or, decide_eq_true_eq] at htb'
              simp [htb']
            have f5 : decide (fr = node) = false := decide_eq_false hf
            clear hf htb' hk0
            go_wp2
            go_roundw
            case rel => exact ⟨k + 1, by omega, by go_num, by rw [HSU.out]; exact HS'.out⟩
            case measure => simp [intOf]; omega
        · have f1 : ((k : Int) == 0) = false := beq_eq_false_iff_ne.2 hk0
          have f6 : decide ((k : Int) = 0) = false := decide_eq_false hk0
          by_cases hf : fr = node
          · have f3 : (fr != node) = false := by simp [hf]
            clear hf htb' hk0
            go_wp2
            go_roundw
            case rel => exact ⟨k + 1, by omega, by go_num, by rw [HSU.out]; exact HS'.out⟩
            case measure => simp [intOf]; omega
          · have f3 : (fr != node) = true := by simp [hf]
            have f4 : (to != node) = false := by
              rw [decide_eq_false hf, Bool.false_or, decide_eq_true_eq] at htb'
              simp [htb']
            have f5 : decide (fr = node) = false := decide_eq_false hf
            clear hf htb' hk0
            go_wp2
            go_roundw
            case rel => exact ⟨k + 1, by omega, by go_num, by rw [HSU.out]; exact HS'.out⟩
            case measure => simp [intOf]; omega
      · obtain rfl : k = W.length := by omega
        obtain ⟨w5, hw5⟩ : ∃ q, q = wr := ⟨_, rfl⟩
        rw [← hw5] at hst ⊢
        have HC5 := Lib.hid (copied_any A c w.heap.size L w5 (hst.rr HR.out (Nat.le_refl _)) hst.size hl2)
        have H5 := Lib.hid hst
        have hfew := HFEW.out
        obtain ⟨n, hn⟩ : ∃ n, n = (incK L node L.length).length := ⟨_, rfl⟩
        rw [← hn] at hfew
        have f1 : decide ((W.length : Int) ≤ (n : Int)) = true := decide_eq_true (by omega)
        have f1' : decide (W.length ≤ n) = true := decide_eq_true (by omega)
        have HNN := Lib.hid hn
        have hcase : ((W.length : Int) == 0) = (head == -1) := by
          rcases hhd with ⟨h1, h2⟩ | ⟨h1, R, h2⟩
          · rw [h1, h2]; rfl
          · rw [h2, List.length_cons, beq_eq_false_iff_ne.2 h1]
            exact beq_eq_false_iff_ne.2 (by omega)
        have hcase2 : decide ((W.length : Int) = 0) = (head == -1) := by rw [← hcase, ibeq]
        obtain ⟨bb, hbb⟩ : ∃ bb, bb = (head == -1) := ⟨_, rfl⟩
        have hbb2 : decide (head = -1) = bb := by rw [hbb, ibeq]
        have hbb1 := hbb.symm
        rw [← hbb] at hcase hcase2
        clear hst hfew hn hhd hw5 hbb
        cases bb
        all_goals
          go_wp2_with (first
            | (go_at_call 11; refine (HC5.out).mono ?_; rintro e w6 ⟨v6, rfl, ho6, hb6⟩; have h6 := H5.out.newOw ho6 hb6; obtain ⟨A6, c6, rfl, -, -, hr6⟩ := h6.owForm; have HI6 := Lib.hid (Incident_any A6 c6 w6.heap.size L node w6 hr6 (Nat.le_refl _) hl2); have H6 := Lib.hid h6; clear h6 hr6 ho6 hb6)
            | (go_at_call 13; refine (HI6.out).mono ?_; rintro e w7 ⟨v7, rfl, ho7, hb7⟩; have h7 := H6.out.newOl ho7 hb7; obtain ⟨A7, c7, rfl, -, -, -, -⟩ := h7.ol.form; rw [← HNN.out]; have H7 := Lib.hid h7.bel; clear h7 ho7 hb7))
          go_ret
          exact ⟨rfl, H7.out⟩
  · have hWn := HNO.out hE
    have e0 : (E != 0) = true := by simp [hE]
    subst hWn
    clear hE
    go_wp2
    go_ret
    exact ⟨rfl, H3.out.bel⟩

/-! ### THE ROW's STEP -/
theorem own : ownKnob Try.prog.godebug = none := by kernel_rfl
theorem laidOut : laidOutB Try.prog = true := by kernel_rfl

set_option maxRecDepth 100000 in
theorem contract (H : Type) (enc : TypeId × Value → H) (W : World) (base : Nat) (args : Array Value) (ds gs : List (DataW H)) (before : List MemPlace)
    (hval0 : ∀ (j : Nat) t v, Try.f8.params[j]? = some t → args[j]? = some v → Value.okWide Try.prog W .any base t v)
    (hW : DataW.Whole enc Try.prog Try.f8.params.toList Rows.linksSoundSpec.vars false W args.toList ds gs before)
    (hsz : (DataW.weightsEach Try.prog (Try.f8.params.toList ++ (OpenSpec.ofChange Rows.linksSoundSpec).bare.plain.varTypes Try.prog) (ds ++ gs)).all (· ≤ reachBytes) = true) :
    Calls Try.prog 8 args W fun e W' => ∃ v, e = .returned v ∧ Rows.linksSoundSpec.post enc Try.prog Try.f8 false true false false W args v W' := by
  have hval : ∀ (j : Nat) t v, Try.f8.params[j]? = some t → args[j]? = some v → Value.okWide Try.prog W .any base t v := hval0
  have hW' := hW
  obtain ⟨p, q, hA0, hV, rfl, hfz, hnd⟩ := hW
  have hA : DataW.TrodAll enc Try.prog W 0 (fun _ => true) true Try.f8.params.toList args.toList ds p := hA0
  rw [Try.params8] at hA hval
  obtain ⟨v0, vs0, d0, ds0, p0, q0, hargs, rfl, rfl, h0, r0⟩ := trodAll_cons hA
  obtain ⟨v1, vs1, d1, ds1, p1, q1, rfl, rfl, rfl, h1, r1⟩ := trodAll_cons r0
  obtain ⟨v2, vs2, d2, ds2, p2, q2, rfl, rfl, rfl, h2, r2⟩ := trodAll_cons r1
  obtain ⟨rfl, rfl, rfl⟩ := trodAll_nil r2
  obtain rfl : args = #[v0, v1, v2] := by cases args; simp_all
  obtain ⟨rfl, rfl⟩ := trodVars_none hV
  have k0 := h0
  have lt0 : ∀ x ∈ p0, x.block < W.heap.size := by obtain ⟨m, hm⟩ := k0; exact DataW.trod_lt m _ _ _ hm
  have w0 := reach_at hsz (j := 0) rfl rfl
  have k1 := h1
  have lt1 : ∀ x ∈ p1, x.block < W.heap.size := by obtain ⟨m, hm⟩ := k1; exact DataW.trod_lt m _ _ _ hm
  have w1 := reach_at hsz (j := 1) rfl rfl
  have k2 := h2
  have lt2 : ∀ x ∈ p2, x.block < W.heap.size := by obtain ⟨m, hm⟩ := k2; exact DataW.trod_lt m _ _ _ hm
  have w2 := reach_at hsz (j := 2) rfl rfl
  clear hA0 hval0 hsz
  obtain ⟨A0, L0, c0, rfl, hx0⟩ := open_links (hval 0 _ v0 rfl rfl) w0 h0 lt0
  obtain ⟨a1, rfl, rfl, rfl, wf1⟩ := open_int Try.underlying3 (hval 1 3 v1 rfl rfl) h1
  obtain ⟨a2, rfl, rfl, rfl, wf2⟩ := open_int Try.underlying3 (hval 2 3 v2 rfl rfl) h2
  refine (walk W hx0 (bounds_i64 wf1) (bounds_i64 wf2)).mono fun e W' ⟨he, bel⟩ => ?_
  subst he
  exact ⟨_, rfl, _, _, _, [], _, [], hW', trodAll_mk1 (shut_bool Try.underlying4 _), (trodAll_cons_mk (Below.trod laidOut (by kernel_rfl) (of_decide_eq_true (by kernel_rfl)) k0 bel lt0) (trodAll_cons_mk (Below.trod laidOut (by kernel_rfl) (of_decide_eq_true (by kernel_rfl)) k1 bel lt1) (trodAll_cons_mk (Below.trod laidOut (by kernel_rfl) (of_decide_eq_true (by kernel_rfl)) k2 bel lt2) trodAll_mk0))), rfl, bel.frame _, fun h => by cases h⟩

set_option maxRecDepth 100000 in
theorem lifted (os : Os) (started : os.Started) (H : Type) (enc : TypeId × Value → H) :
    ReturnsInHanded {} Try.checked os 8 .any (Rows.linksSoundSpec.pre6 enc Try.prog Try.f8 Rows.linksSoundRow.domain false) (Rows.linksSoundSpec.post enc Try.prog Try.f8 false true false false) := by
  refine returnsInHanded_of_change_sized (C := Try.checked) own started (by kernel_rfl) Try.func8
    (ChangeSpec.witness6 (enc := enc) (C := Try.checked) false ⟨#[], #[.slice none 0 0, .int .i64 0, .int .i64 0], []⟩ 8 (by kernel_rfl) (by kernel_rfl) (by kernel_rfl) (by kernel_rfl)) ?_
  intro W base args ds gs before hval hW _ hsz _
  exact contract H enc W base args ds gs before hval hW hsz

/-- THE STATEMENT -/
theorem proved : Rows.LinksSoundSaid :=
  OpenClaim.holds_of_wide 8 Try.f8 rfl rfl rfl rfl rfl rfl rfl ⟨rfl, rfl, rfl, rfl, rfl⟩ rfl rfl rfl rfl rfl (by kernel_rfl) Try.func8 (by kernel_rfl)
    (of_decide_eq_true (by kernel_rfl)) (by unfold Func.isWrapper; rw [if_neg (of_decide_eq_false (by kernel_rfl))]; exact ⟨rfl, rfl⟩)
    (fun os started H enc _ => lifted os started H enc)
end Go.Proofs.Ytpdaiiakdlngjaa.linksSound

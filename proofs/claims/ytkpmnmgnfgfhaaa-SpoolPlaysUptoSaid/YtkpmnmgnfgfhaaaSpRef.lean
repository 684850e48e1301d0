/- The document's spool: what each method does to it. -/
import Derived.Test.YtkpmnmgnfgfhaaaSp
namespace Go.Proofs.Ytkpmnmgnfgfhaaa
open Go.RowKit
set_option linter.unusedVariables false

set_option maxHeartbeats 400000 in
theorem Copy7_any (A : Option Addr) (cap B : Nat) (bs : List Nat) (w : World) (h : RB w B A bs) (hB : B ≤ w.heap.size) (hl : bs.length ≤ 140737488355328) :
    Calls Try.prog 9 #[.slice A bs.length cap] w (NewB bs w) := by
  obtain ⟨i0, hi, hz0, hz1, hz2⟩ := info_parts u8_info
  go_enter Try.func9, Try.ntmps9
  go_wp2
  go_loopw [3, 4] (fun v i wr => ∃ k : Nat, k ≤ bs.length ∧ i = .int .i64 k ∧ OB wr w.heap.size 5 v (bs.take k) ∧ Below w.heap.size w wr) (fun _ i _ => bs.length - (intOf i).toNat)
  case atStart => exact ⟨0, Nat.zero_le _, rfl, ⟨IsBytes.nil, World.ownsRow_lit w #[] 0 (Nat.le_refl _) (Nat.zero_le _) rfl⟩, (Below.refl _ _).alloc (Nat.le_refl _) _⟩
  case round =>
    obtain ⟨k, hk, rfl, hown, hbw⟩ := hrel
    by_cases hlt : k < bs.length
    · have hbytes := h.1
      have hr := (h.below' hbw hB)
      obtain ⟨b, off, rfl, hbB, hc⟩ := hr.at_ hlt
      have htk : (bs.take k).length = k := by simp; omega
      go_wp2_with (at_builtin; go_loud (refine wpList_append_lit8 _ rfl _ _ 22 rfl w.heap.size 5 i0 Try.underlying22 hi hz0 hz1 hz2 _ (bs.take k) (nth bs k) (by rfl) hown (by rfl) _ rfl (hbytes.nth k) (by rw [htk]; omega) hbw.size ?_); intro v1 w1 hown1 hg1 hat1)
      have hbw1 := hown.belowTo hbw (Nat.le_refl _) hg1 hbw.size
      go_roundw
      case rel => exact ⟨k + 1, by omega, by go_num, by rw [take_succ_nth bs k hlt]; exact hown1, hbw1⟩
      case measure => simp [intOf]; omega
    · go_wp2
      go_ret
      exact ⟨_, rfl, by rw [List.take_of_length_le (by omega)] at hown; exact hown, hbw⟩

/-- a write, as it stands in the list of writes -/
abbrev El := Option Addr × Nat × List Nat
abbrev slv (x : El) : Value := .slice x.1 x.2.2.length x.2.1
theorem slv_ok (x : El) : slv x ≠ undef ∧ (slv x).oneCell' = true := ⟨by simp [slv, undef], rfl⟩
def wsOf (E : List El) : List (List Nat) := E.map fun x => x.2.2
theorem wsOf_length (E : List El) : (wsOf E).length = E.length := by simp [wsOf]
theorem wsOf_snoc (E : List El) (x : El) : wsOf (E ++ [x]) = wsOf E ++ [x.2.2] := by simp [wsOf]
def elA (x : El) : Ass := ObA 5 (slv x) x.2.2
instance stableEl {x : El} : Stable (elA x) := inferInstanceAs (Stable (ObA _ _ _))
theorem slice_info : (Try.prog.info? 22).map (fun i => (i.zero, i.size, i.bytes)) = some (some (.slice none 0 0), 1, 24) := by kernel_rfl

/-- the document's spool at block g -/
def RfA (g : Nat) (b : List Nat) (ws : List (List Nat)) : Ass := Ex fun p : Value × Value × List El => Wh (wsOf p.2.2 = ws) (Sep [BlkA g 39 #[p.1, p.2.1], ObA 5 p.1 b, OlA slv 22 p.2.1 p.2.2, Sep (p.2.2.map elA)])
instance stableRf {g : Nat} {b : List Nat} {ws : List (List Nat)} : Stable (RfA g b ws) := inferInstanceAs (Stable (Ex _))

section
variable {S : Fp} {l : List Ass} {w0 w w' : World} {g : Nat} {b : List Nat} {ws : List (List Nat)}
theorem rf_open (h : St S (RfA g b ws :: l) w0 w) : ∃ vb vw E, wsOf E = ws ∧ St S (BlkA g 39 #[vb, vw] :: ObA 5 vb b :: OlA slv 22 vw E :: Sep (E.map elA) :: l) w0 w := by
  obtain ⟨p, h⟩ := St.ex (l := l) h
  obtain ⟨hw, h⟩ := h.wh
  exact ⟨p.1, p.2.1, p.2.2, hw, h.flat⟩
theorem rf_shut {vb vw : Value} {E : List El} (h : St S (BlkA g 39 #[vb, vw] :: ObA 5 vb b :: OlA slv 22 vw E :: Sep (E.map elA) :: l) w0 w) (hw : wsOf E = ws) : St S (RfA g b ws :: l) w0 w := by
  refine (St.pack (l' := [_, _, _, _]) h).mapHead fun F h => ?_
  exact ⟨(vb, vw, E), hw, h⟩

/-- the document's spool, read -/
def RfR (w : World) (B g : Nat) (A0 : Option Addr) (d0 : Nat) (A1 : Option Addr) (d1 : Nat) (b : List Nat) (E : List El) : Prop :=
  g < B ∧ (w.cell? ⟨g, 0, none⟩ = some (.slice A0 b.length d0) ∧ w.cell? ⟨g, 1, none⟩ = some (.slice A1 E.length d1)) ∧ RB w B A0 b ∧ RL slv w B A1 E ∧ ∀ x ∈ E, RB w B x.1 x.2.2
theorem RfR.below {w w' : World} {B g : Nat} {A0 : Option Addr} {d0 : Nat} {A1 : Option Addr} {d1 : Nat} {b : List Nat} {E : List El} (h : RfR w B g A0 d0 A1 d1 b E) (hb : Below B w w') : RfR w' B g A0 d0 A1 d1 b E := by
  obtain ⟨h0, ⟨c0, c1⟩, h1, h2, h3⟩ := h
  exact ⟨h0, ⟨(hb.cell (p := ⟨g, 0, none⟩) h0).trans c0, (hb.cell (p := ⟨g, 1, none⟩) h0).trans c1⟩, h1.below hb, h2.below hb, fun x hx => (h3 x hx).below hb⟩
theorem rf_cells {g : Nat} {t : TypeId} {a c : Value} (h : St S (BlkA g t #[a, c] :: l) w0 w) : w.cell? ⟨g, 0, none⟩ = some a ∧ w.cell? ⟨g, 1, none⟩ = some c := by
  have hb := h.blk
  exact ⟨by rw [hb.cell 0]; rfl, by rw [hb.cell 1]; rfl⟩
theorem rf_read (h : St S (RfA g b ws :: l) w0 w) : ∃ A0 d0 A1 d1 E, wsOf E = ws ∧ RfR w w.heap.size g A0 d0 A1 d1 b E := by
  obtain ⟨vb, vw, E, hw, h⟩ := rf_open h
  obtain ⟨c0, c1⟩ := rf_cells h
  obtain ⟨A0, d0, rfl, -, -, r0, -⟩ := h.swap.ob.form
  obtain ⟨A1, d1, rfl, -, -, r1, -⟩ := h.bring2.ol.form
  refine ⟨A0, d0, A1, d1, E, hw, h.blk.lt, ⟨c0, c1⟩, r0, r1, fun x hx => ?_⟩
  obtain ⟨F, he⟩ := h.bring3.head
  obtain ⟨G, ho, -⟩ := Sep.mem he (List.mem_map_of_mem (f := elA) hx)
  exact ho.reads.2.1

set_option maxHeartbeats 400000 in
theorem rfNew_any [Stable (Sep l)] (h : St S l w0 w) (A : Option Addr) (cap B : Nat) (bs : List Nat) (hr : RB w B A bs) (hB : B ≤ w.heap.size) (hl : bs.length ≤ 140737488355328) :
    Calls Try.prog 13 #[.slice A bs.length cap] w fun e w' => ∃ g, e = .returned (.pointer (some ⟨g, 0, none⟩)) ∧ St S (RfA g bs [] :: l) w0 w' := by
  have Hc := Lib.hid (Copy7_any A cap B bs w hr hB hl)
  have H := Lib.hid h
  clear h hr
  go_enter Try.func13, Try.ntmps13
  go_wp2_with (go_at_call 9; refine (Hc.out).mono ?_; rintro e w1 ⟨v1, rfl, ho, hb⟩; have H1 := Lib.hid (H.out.newOb ho hb); obtain ⟨A1, c1, rfl, -, -, -, -⟩ := ho.form; clear ho hb)
  go_ret
  refine ⟨_, rfl, rf_shut (b := bs) (ws := []) (vb := .slice A1 bs.length c1) (vw := .slice none 0 0) (E := []) ?_ rfl⟩
  exact ((H1.out.newBlk _ _).nilSep.nilOl _ _).bring3.bring3

set_option maxHeartbeats 1000000 in
theorem rfSeen_new {B : Nat} {A0 : Option Addr} {d0 : Nat} {A1 : Option Addr} {d1 : Nat} {E : List El} (h : RfR w B g A0 d0 A1 d1 b E) (hB : B ≤ w.heap.size) (hl : (seenOf b (wsOf E)).length ≤ 1099511627776) (hn : E.length < 1099511627776) :
    Calls Try.prog 21 #[.pointer (some ⟨g, 0, none⟩)] w (NewB (seenOf b (wsOf E)) w) := by
  obtain ⟨i0, hi, hz0, hz1, hz2⟩ := info_parts u8_info
  have hbl : b.length ≤ (seenOf b (wsOf E)).length := by simp [seenOf]
  have HC := Lib.hid (Copy7_any A0 d0 B b w h.2.2.1 hB (by omega))
  have HI := Lib.hid h
  have c00 := h.2.1.1
  clear h
  go_enter Try.func21, Try.ntmps21
  go_wp2_with fail
  refine HC.out.mono ?_
  rintro e w1 ⟨v1, rfl, ho1, hb1⟩
  clear c00
  go_wp2
  go_loopw [3, 4, 5] (fun ov i _ wr => ∃ (k : Nat), k ≤ E.length ∧ i = .int .i64 k ∧ OB wr w.heap.size 5 ov (b ++ ((wsOf E).take k).flatten) ∧ Below w.heap.size w wr) (fun _ i _ _ => E.length - (intOf i).toNat)
  case atStart => exact ⟨0, Nat.zero_le _, rfl, by simpa using ho1, hb1⟩
  case round =>
    obtain ⟨k, hk, rfl, ho, hbw⟩ := hrel
    clear ho1 hb1
    obtain ⟨wo, rfl⟩ : ∃ wo : World, wo = wr := ⟨_, rfl⟩
    obtain ⟨-, ⟨-, c1⟩, -, r1, re⟩ := HI.out.below (hbw.mono hB)
    by_cases hlt : k < E.length
    · have hkw : k < (wsOf E).length := by rw [wsOf_length]; exact hlt
      have hpre := startOf_le b (wsOf E) k
      have hsl := startOf_le b (wsOf E) (k + 1)
      have hss := startOf_succ (b := b) hkw
      have htk := takeW hkw
      obtain ⟨P, hP⟩ : ∃ P, P = b ++ ((wsOf E).take k).flatten := ⟨_, rfl⟩
      have hPl : P.length = startOf b (wsOf E) k := by rw [hP]; simp [startOf]
      have hPn : b ++ ((wsOf E).take (k + 1)).flatten = P ++ nthW (wsOf E) k := by rw [htk, hP]; simp
      obtain ⟨x, hx⟩ : ∃ x, E[k]? = some x := ⟨_, List.getElem?_eq_getElem hlt⟩
      have hxm := List.mem_of_getElem? hx
      have hxw : nthW (wsOf E) k = x.2.2 := by simp [nthW, wsOf, List.getD_eq_getElem?_getD, hx]
      rw [hxw] at hPn hss
      rw [← hP] at ho
      have hPx : P.length + x.2.2.length ≤ 1099511627776 := by omega
      obtain ⟨Ax, cx, xs⟩ := x
      simp only at hPn hPx
      have HPn := Lib.hid hPn
      have HX : Hid (∀ w', Below w.heap.size w w' → RfR w' B g A0 d0 A1 d1 b E ∧ RB w' B Ax xs) := Lib.hid fun w' hb' => ⟨HI.out.below (hb'.mono hB), (HI.out.below (hb'.mono hB)).2.2.2.2 _ hxm⟩
      obtain ⟨eb, eo, rfl, -, hce⟩ := r1.all (by omega)
      have hcx : ∀ w', Below w.heap.size w w' → w'.cell? ⟨eb, eo + k, none⟩ = some (.slice Ax xs.length cx) := fun w' hb' => by
        obtain ⟨eb', eo', e, -, hc⟩ := (HI.out.below (hb'.mono hB)).2.2.2.1.all (by omega)
        injection e with e
        injection e with e1 e2
        subst e1 e2
        rw [hc k hlt]
        rw [List.getElem?_eq_getElem hlt] at hx
        injection hx with hx
        rw [hx]
      have HcX := Lib.hid hcx
      clear hpre hsl hss htk hPl hPn hxw hP hx hxm hce hcx r1 re
      have q0 := HcX.out wo hbw
      go_wp2
      go_loopw [3, 5] (fun ov j wr => ∃ (m : Nat), m ≤ xs.length ∧ j = .int .i64 m ∧ OB wr w.heap.size 5 ov (P ++ xs.take m) ∧ Below w.heap.size w wr) (fun _ j _ => xs.length - (intOf j).toNat)
      case atStart => exact ⟨0, Nat.zero_le _, rfl, by simpa using ho, hbw⟩
      case round =>
        obtain ⟨m, hm, rfl, ho2, hbw2⟩ := hrel
        clear ho hbw q0 c1
        have c1 := (HX.out wr hbw2).1.2.1.2
        have q0 := HcX.out wr hbw2
        have hrx := (HX.out wr hbw2).2
        by_cases hml : m < xs.length
        · obtain ⟨b', off', rfl, -, hcm⟩ := hrx.at_ hml
          have htk : (P ++ xs.take m).length = P.length + m := by simp; omega
          have hby := hrx.1.nth m
          have Htk := Lib.hid htk
          have Hst : Hid (P ++ xs.take (m + 1) = P ++ xs.take m ++ [nth xs m]) := Lib.hid (by rw [take_succ_nth xs m hml, List.append_assoc])
          clear htk hrx
          go_wp2_with (at_builtin; refine wpList_append_lit8 _ rfl _ _ 22 rfl w.heap.size 5 i0 Try.underlying22 hi hz0 hz1 hz2 _ (P ++ xs.take m) (nth xs m) (by rfl) ho2 (by rfl) _ rfl hby (by rw [Htk.out]; omega) hbw2.size ?_; intro v3 w3 hown3 hg3 hat3; have hbw3 := ho2.belowTo hbw2 (Nat.le_refl _) hg3 hbw2.size)
          go_roundw
          case rel => exact ⟨m + 1, by omega, by go_num, by rw [Hst.out]; exact hown3, hbw3⟩
          case measure => simp [intOf]; omega
        · go_wp2
          go_roundw
          case rel => exact ⟨k + 1, by omega, by go_num, by rw [HPn.out]; rw [List.take_of_length_le (by omega)] at ho2; exact ho2, hbw2⟩
          case measure => simp [intOf]; omega
    · have hk' : (wsOf E).take k = wsOf E := List.take_of_length_le (by rw [wsOf_length]; omega)
      rw [hk'] at ho
      clear hk'
      go_wp2
      go_ret
      exact ⟨_, rfl, ho, hbw⟩
theorem rfSeen_any [Stable (Sep l)] (h : St S (RfA g b ws :: l) w0 w) (hl : (seenOf b ws).length ≤ 1099511627776) (hn : ws.length < 1099511627776) :
    Calls Try.prog 21 #[.pointer (some ⟨g, 0, none⟩)] w fun e w' => ∃ v, e = .returned v ∧ St S (ObA 5 v (seenOf b ws) :: RfA g b ws :: l) w0 w' := by
  obtain ⟨A0, d0, A1, d1, E, rfl, hr⟩ := rf_read h
  refine (rfSeen_new hr (Nat.le_refl _) hl (by rwa [wsOf_length] at hn)).mono ?_
  rintro e w' ⟨v, rfl, ho, hb⟩
  exact ⟨v, rfl, h.newOb ho hb⟩

set_option maxHeartbeats 1000000 in
theorem rfSync_any [Stable (Sep l)] (h : St S (RfA g b ws :: l) w0 w) (hl : (seenOf b ws).length ≤ 1099511627776) (hn : ws.length < 1099511627776) :
    Calls Try.prog 17 #[.pointer (some ⟨g, 0, none⟩)] w fun e w' => e = .returned (.tuple #[]) ∧ St S (RfA g (seenOf b ws) [] :: l) w0 w' := by
  have HC := Lib.hid (rfSeen_any h hl hn)
  clear h
  go_enter Try.func17, Try.ntmps17
  go_wp2_with fail
  refine HC.out.mono ?_
  rintro e w1 ⟨v1, rfl, h1⟩
  obtain ⟨vb, vw, E, -, h2⟩ := rf_open h1.swap
  obtain ⟨c0, c1⟩ := rf_cells h2
  obtain ⟨A1, n1, rfl, -, -, -, -⟩ := h1.ob.form
  have f0 := h2.blk.frozen 0
  have f1 := h2.blk.frozen 1
  have hg : g < w1.heap.size := h2.blk.lt
  have H2 := Lib.hid h2
  clear h1 h2
  go_wp2
  go_end0
  refine ⟨rfl, rf_shut (b := seenOf b ws) (ws := []) (vb := .slice A1 (seenOf b ws).length n1) (vw := .slice (some ⟨w1.heap.size, 0, none⟩) 0 0) (E := []) ?_ rfl⟩
  exact (((((H2.out.setBlk 0 (.slice A1 (seenOf b ws).length n1)).setBlk 1 (.slice (some ⟨w1.heap.size, 0, none⟩) 0 0)).swap.drop.swap.drop.swap.drop).nilSep).newNil slv 22 (n := w1.heap.size) (by simp [World.setCell])).bring3.bring3

set_option maxHeartbeats 1000000 in
theorem rfAppend_any [Stable (Sep l)] (h : St S (RfA g b ws :: l) w0 w) (A : Option Addr) (cap B : Nat) (news : List Nat) (hr : RB w B A news) (hB : B ≤ w.heap.size) (hl : news.length ≤ 1099511627776) (hn : ws.length < 1099511627776) :
    Calls Try.prog 15 #[.pointer (some ⟨g, 0, none⟩), .slice A news.length cap] w fun e w' => e = .returned (.tuple #[]) ∧ St S (RfA g b (putW ws news) :: l) w0 w' := by
  by_cases h0 : news.length = 0
  · have HP := Lib.hid (putW_nil ws h0)
    have H := Lib.hid h
    obtain rfl := List.length_eq_zero_iff.1 h0
    clear h h0
    go_enter Try.func15, Try.ntmps15
    go_wp2
    go_end0
    rw [HP.out]
    exact ⟨rfl, H.out⟩
  · obtain ⟨j0, hj, hy0, hy1, hy2⟩ := info_parts slice_info
    have HP := Lib.hid (putW_cons ws h0)
    have hb : decide (0 < news.length) = true := by simp; omega
    have hb1 : 0 < news.length := by omega
    obtain ⟨vb, vw, E, hE, h⟩ := rf_open h
    have hEl : E.length < 1099511627776 := by rw [← wsOf_length, hE]; exact hn
    have HE := Lib.hid hE
    obtain ⟨c0, c1⟩ := rf_cells h
    obtain ⟨A1, d1, rfl, hd1, -, -, -⟩ := h.bring2.ol.form
    have hg : g < w.heap.size := h.blk.lt
    have HC := Lib.hid (Copy7_any A cap B news (w.drewN 1) hr hB (by omega))
    have e1 : w.drewN 1 = w.drew := rfl
    rw [e1] at HC
    have H := Lib.hid (h.drewN 1)
    have hby : (E.length + 1) * 24 ≤ 140737488355328 := by omega
    clear h hE h0 hr e1
    go_enter Try.func15, Try.ntmps15
    go_wp2
    go_region_law (first | (refine step_append_elem _ (by rfl) _ _ _ (by rfl) 0 22 j0 _ 24 Try.underlying37 hj hy0 hy1 hy2 rfl (.slice A1 E.length d1) E (by rfl) (H1.out.bring3.ol.alloc _) (An, cn, news) (slv_ok _) w1.heap.size (by rfl) (heap_alloc_new w1 _) hby (by omega) (Nat.zero_le _) ?_; intro gg cap3 w3 hown3 hgrow hat hltg; have H3 := Lib.hid ((H1.out.alloc (.cells #[slv (An, cn, news)] 22)).bring3.grewOl hown3 hgrow (hat.elim (fun e => .inl e.symm) fun e => .inr (congrArg some e)) (Nat.le_refl _)); obtain ⟨q0, q1⟩ := rf_cells H3.out.bring2; have f3 := H3.out.bring2.blk.frozen 1) | (go_simp; go_at_call 9; refine HC.out.mono ?_; rintro e w1 ⟨v1, rfl, ho, hb⟩; have H1 := Lib.hid (H.out.newOb ho hb); obtain ⟨An, cn, rfl, -, -, -, -⟩ := ho.form; obtain ⟨k0, k1⟩ := rf_cells H1.out.swap; obtain ⟨a0, a1⟩ := rf_cells (H1.out.swap.alloc (.cells #[slv (An, cn, news)] 22)); clear ho hb))
    all_goals
      go_wp2
      go_end0
      refine ⟨rfl, ?_⟩
      rw [HP.out]
      refine rf_shut (vb := vb) (vw := .slice (some ⟨gg, 0, none⟩) (E.length + 1) cap3) (E := E ++ [(An, cn, news)]) ?_ (by rw [wsOf_snoc, HE.out])
      rw [List.map_append]
      exact (St.snocSep (P := elA (An, cn, news)) ((H3.out.bring2.setBlk 1 (.slice (some ⟨gg, 0, none⟩) (E.length + 1) cap3)).bring4.bring3)).bring2.bring3.bring3
set_option maxHeartbeats 2000000 in
theorem rfAfter_new {B : Nat} {A0 : Option Addr} {d0 : Nat} {A1 : Option Addr} {d1 : Nat} {E : List El} (h : RfR w B g A0 d0 A1 d1 b E) (hB : B ≤ w.heap.size) (A : Option Addr) (cap : Nat) (ks : List Bool) (hr : RL bvl w B A ks) (hl : (seenOf b (wsOf E)).length ≤ 1099511627776) (hn : E.length < 1099511627776) (hkl : ks.length ≤ 140737488355328) :
    Calls Try.prog 19 #[.pointer (some ⟨g, 0, none⟩), .slice A ks.length cap] w (NewB (aft b 0 (wsOf E) ks) w) := by
  obtain ⟨i0, hi, hz0, hz1, hz2⟩ := info_parts u8_info
  have hbl : b.length ≤ (seenOf b (wsOf E)).length := by simp [seenOf]
  have HC := Lib.hid (Copy7_any A0 d0 B b w h.2.2.1 hB (by omega))
  have HI := Lib.hid h
  have HK := Lib.hid hr
  have c00 := h.2.1.1
  clear h hr
  go_enter Try.func19, Try.ntmps19
  go_wp2_with fail
  refine HC.out.mono ?_
  rintro e w1 ⟨v1, rfl, ho1, hb1⟩
  obtain ⟨Av, cv, rfl, -, -, -, -⟩ := ho1.form
  clear c00
  go_wp2
  go_loopw [5, 6, 7, 8] (fun ov av ev i wr => ∃ (k gap at_ : Nat) (left : List Nat), k ≤ E.length ∧ i = .int .i64 k ∧ av = .int .i64 at_ ∧ ev = .int .i64 (left.length : Int) ∧ at_ = left.length + gap ∧ at_ = startOf b (wsOf E) k ∧ aft left gap ((wsOf E).drop k) (ks.drop k) = aft b 0 (wsOf E) ks ∧ OB wr w.heap.size 5 ov (left ++ List.replicate gap 0) ∧ Below w.heap.size w wr) (fun _ _ _ i _ => E.length - (intOf i).toNat)
  case atStart => exact ⟨0, 0, b.length, b, Nat.zero_le _, rfl, rfl, rfl, rfl, (startOf_zero b _).symm, rfl, by simpa using ho1, hb1⟩
  case round =>
    obtain ⟨k, gap, at_, left, hk, rfl, rfl, rfl, hat, hst, haft, ho, hbw⟩ := hrel
    clear ho1 hb1
    obtain ⟨wo, rfl⟩ : ∃ wo : World, wo = wr := ⟨_, rfl⟩
    obtain ⟨-, ⟨-, c1⟩, -, r1, re⟩ := HI.out.below (hbw.mono hB)
    by_cases hlt : k < E.length
    · have hkw : k < (wsOf E).length := by rw [wsOf_length]; exact hlt
      have hsl := startOf_le b (wsOf E) (k + 1)
      have hss := startOf_succ (b := b) hkw
      obtain ⟨P, hP⟩ : ∃ P, P = left ++ List.replicate gap 0 := ⟨_, rfl⟩
      have hPl : P.length = at_ := by rw [hP, hat]; simp
      obtain ⟨x, hx⟩ : ∃ x, E[k]? = some x := ⟨_, List.getElem?_eq_getElem hlt⟩
      have hxm := List.mem_of_getElem? hx
      have hxw : nthW (wsOf E) k = x.2.2 := by simp [nthW, wsOf, List.getD_eq_getElem?_getD, hx]
      have hyes := aft_yes (left := left) (gap := gap) (ks := ks) hkw
      have hno := aft_no (left := left) (gap := gap) (ks := ks) hkw
      rw [hxw] at hss hyes hno
      rw [← hP] at ho hyes
      have hPx : P.length + x.2.2.length ≤ 1099511627776 := by omega
      obtain ⟨Ax, cx, xs⟩ := x
      simp only at hPx hss hyes hno
      have hnew : at_ + xs.length = startOf b (wsOf E) (k + 1) := by omega
      have HP := Lib.hid hP
      have HPl := Lib.hid hPl
      have Hat := Lib.hid hat
      have Hnew := Lib.hid hnew
      have Haft := Lib.hid haft
      have Hyes := Lib.hid hyes
      have Hno := Lib.hid hno
      have HX : Hid (∀ w', Below w.heap.size w w' → RfR w' B g A0 d0 A1 d1 b E ∧ RB w' B Ax xs) := Lib.hid fun w' hb' => ⟨HI.out.below (hb'.mono hB), (HI.out.below (hb'.mono hB)).2.2.2.2 _ hxm⟩
      obtain ⟨eb, eo, rfl, -, hce⟩ := r1.all (by omega)
      have hcx : ∀ w', Below w.heap.size w w' → w'.cell? ⟨eb, eo + k, none⟩ = some (.slice Ax xs.length cx) := fun w' hb' => by
        obtain ⟨eb', eo', e, -, hc⟩ := (HI.out.below (hb'.mono hB)).2.2.2.1.all (by omega)
        injection e with e
        injection e with e1 e2
        subst e1 e2
        rw [hc k hlt]
        rw [List.getElem?_eq_getElem hlt] at hx
        injection hx with hx
        rw [hx]
      have HcX := Lib.hid hcx
      have hal : at_ + xs.length ≤ 1099511627776 := by omega
      clear hsl hss hPl hP hx hxm hxw hce hcx r1 re hat hst haft hyes hno hnew
      have q0 := HcX.out wo hbw
      by_cases hkk : nthK ks k = true
      · have hkl2 : k < ks.length := by
          rcases Nat.lt_or_ge k ks.length with h | h
          · exact h
          · rw [nthK_ge h] at hkk; cases hkk
        obtain ⟨kb, ko, rfl, hkb, hck⟩ := (HK.out.below (hbw.mono hB)).allB (by omega)
        have hck1 := hck k hkl2
        rw [hkk] at hck1
        have Hkk := Lib.hid hkk
        clear hck hkk
        go_wp2
        go_loopw [5, 6, 10, 11] (fun ov av j _ wr => ∃ (m a2 : Nat), m ≤ xs.length ∧ j = .int .i64 m ∧ av = .int .i64 a2 ∧ a2 = at_ + m ∧ OB wr w.heap.size 5 ov (P ++ xs.take m) ∧ Below w.heap.size w wr) (fun _ _ j _ _ => xs.length - (intOf j).toNat)
        case atStart => exact ⟨0, at_, Nat.zero_le _, rfl, rfl, rfl, by simpa using ho, hbw⟩
        case round =>
          obtain ⟨m, a2, hm, rfl, rfl, ha2, ho2, hbw2⟩ := hrel
          clear ho hbw q0 c1
          have c1 := (HX.out wr hbw2).1.2.1.2
          have q0 := HcX.out wr hbw2
          have hrx := (HX.out wr hbw2).2
          have Ha2 := Lib.hid ha2
          have ha2l : a2 ≤ at_ + m := by omega
          clear ha2
          by_cases hml : m < xs.length
          · obtain ⟨b', off', rfl, -, hcm⟩ := hrx.at_ hml
            have htk : (P ++ xs.take m).length = P.length + m := by simp; try omega
            have hby := hrx.1.nth m
            have Htk := Lib.hid htk
            have Hst : Hid (P ++ xs.take (m + 1) = P ++ xs.take m ++ [nth xs m]) := Lib.hid (by rw [take_succ_nth xs m hml, List.append_assoc])
            clear htk hrx
            go_wp2_with (at_builtin; refine wpList_append_lit8 _ rfl _ _ 22 rfl w.heap.size 5 i0 Try.underlying22 hi hz0 hz1 hz2 _ (P ++ xs.take m) (nth xs m) (by rfl) ho2 (by rfl) _ rfl (by omega) (by rw [Htk.out]; omega) hbw2.size ?_; intro v3 w3 hown3 hg3 hat3; have hbw3 := ho2.belowTo hbw2 (Nat.le_refl _) hg3 hbw2.size)
            go_roundw
            case rel => exact ⟨m + 1, a2 + 1, by omega, by go_num, by go_num, by have := Ha2.out; omega, by rw [Hst.out]; exact hown3, hbw3⟩
            case measure => simp [intOf]; omega
          · obtain rfl : m = xs.length := by omega
            go_wp2
            go_roundw
            case rel => exact ⟨k + 1, 0, a2, P ++ xs, by omega, by go_num, rfl, int_eq (by have := Ha2.out; have := HPl.out; rw [List.length_append]; omega), by have := Ha2.out; have := HPl.out; rw [List.length_append]; omega, by have := Ha2.out; have := Hnew.out; omega, by rw [← Haft.out, Hyes.out Hkk.out], by rw [List.take_length] at ho2; simpa using ho2, hbw2⟩
            case measure => simp [intOf]; omega
      · have hkk : nthK ks k = false := by simpa using hkk
        by_cases hkl2 : k < ks.length
        · obtain ⟨kb, ko, rfl, hkb, hck⟩ := (HK.out.below (hbw.mono hB)).allB (by omega)
          have hck1 := hck k hkl2
          rw [hkk] at hck1
          have Hkk := Lib.hid hkk
          clear hck hkk
          go_wp2
          go_loopw [5, 6, 10, 11] (fun ov av j _ wr => ∃ (m a2 : Nat), m ≤ xs.length ∧ j = .int .i64 m ∧ av = .int .i64 a2 ∧ a2 = at_ + m ∧ OB wr w.heap.size 5 ov (P ++ List.replicate m 0) ∧ Below w.heap.size w wr) (fun _ _ j _ _ => xs.length - (intOf j).toNat)
          case atStart => exact ⟨0, at_, Nat.zero_le _, rfl, rfl, rfl, by simpa using ho, hbw⟩
          case round =>
            obtain ⟨m, a2, hm, rfl, rfl, ha2, ho2, hbw2⟩ := hrel
            clear ho hbw q0 c1
            have c1 := (HX.out wr hbw2).1.2.1.2
            have q0 := HcX.out wr hbw2
            have hrx := (HX.out wr hbw2).2
            have Ha2 := Lib.hid ha2
            have ha2l : a2 ≤ at_ + m := by omega
            clear ha2
            by_cases hml : m < xs.length
            · obtain ⟨b', off', rfl, -, hcm⟩ := hrx.at_ hml
              have htk : (P ++ List.replicate m 0).length = P.length + m := by simp; try omega
              have hby := hrx.1.nth m
              have Htk := Lib.hid htk
              have Hst : Hid (P ++ List.replicate (m + 1) 0 = P ++ List.replicate m 0 ++ [0]) := Lib.hid (by rw [List.replicate_succ', List.append_assoc])
              clear htk hrx
              go_wp2_with (at_builtin; refine wpList_append_lit8 _ rfl _ _ 22 rfl w.heap.size 5 i0 Try.underlying22 hi hz0 hz1 hz2 _ (P ++ List.replicate m 0) (0) (by rfl) ho2 (by rfl) _ rfl (by omega) (by rw [Htk.out]; omega) hbw2.size ?_; intro v3 w3 hown3 hg3 hat3; have hbw3 := ho2.belowTo hbw2 (Nat.le_refl _) hg3 hbw2.size)
              go_roundw
              case rel => exact ⟨m + 1, a2 + 1, by omega, by go_num, by go_num, by have := Ha2.out; omega, by rw [Hst.out]; exact hown3, hbw3⟩
              case measure => simp [intOf]; omega
            · obtain rfl : m = xs.length := by omega
              go_wp2
              go_roundw
              case rel => exact ⟨k + 1, gap + xs.length, a2, left, by omega, by go_num, rfl, rfl, by have := Ha2.out; have := Hat.out; omega, by have := Ha2.out; have := Hnew.out; omega, by rw [← Haft.out, Hno.out Hkk.out], by rw [HP.out, List.append_assoc, List.replicate_append_replicate] at ho2; exact ho2, hbw2⟩
              case measure => simp [intOf]; omega
        · have Hkk := Lib.hid hkk
          clear hkk
          go_wp2
          go_loopw [5, 6, 10, 11] (fun ov av j _ wr => ∃ (m a2 : Nat), m ≤ xs.length ∧ j = .int .i64 m ∧ av = .int .i64 a2 ∧ a2 = at_ + m ∧ OB wr w.heap.size 5 ov (P ++ List.replicate m 0) ∧ Below w.heap.size w wr) (fun _ _ j _ _ => xs.length - (intOf j).toNat)
          case atStart => exact ⟨0, at_, Nat.zero_le _, rfl, rfl, rfl, by simpa using ho, hbw⟩
          case round =>
            obtain ⟨m, a2, hm, rfl, rfl, ha2, ho2, hbw2⟩ := hrel
            clear ho hbw q0 c1
            have c1 := (HX.out wr hbw2).1.2.1.2
            have q0 := HcX.out wr hbw2
            have hrx := (HX.out wr hbw2).2
            have Ha2 := Lib.hid ha2
            have ha2l : a2 ≤ at_ + m := by omega
            clear ha2
            by_cases hml : m < xs.length
            · obtain ⟨b', off', rfl, -, hcm⟩ := hrx.at_ hml
              have htk : (P ++ List.replicate m 0).length = P.length + m := by simp; try omega
              have hby := hrx.1.nth m
              have Htk := Lib.hid htk
              have Hst : Hid (P ++ List.replicate (m + 1) 0 = P ++ List.replicate m 0 ++ [0]) := Lib.hid (by rw [List.replicate_succ', List.append_assoc])
              clear htk hrx
              go_wp2_with (at_builtin; refine wpList_append_lit8 _ rfl _ _ 22 rfl w.heap.size 5 i0 Try.underlying22 hi hz0 hz1 hz2 _ (P ++ List.replicate m 0) (0) (by rfl) ho2 (by rfl) _ rfl (by omega) (by rw [Htk.out]; omega) hbw2.size ?_; intro v3 w3 hown3 hg3 hat3; have hbw3 := ho2.belowTo hbw2 (Nat.le_refl _) hg3 hbw2.size)
              go_roundw
              case rel => exact ⟨m + 1, a2 + 1, by omega, by go_num, by go_num, by have := Ha2.out; omega, by rw [Hst.out]; exact hown3, hbw3⟩
              case measure => simp [intOf]; omega
            · obtain rfl : m = xs.length := by omega
              go_wp2
              go_roundw
              case rel => exact ⟨k + 1, gap + xs.length, a2, left, by omega, by go_num, rfl, rfl, by have := Ha2.out; have := Hat.out; omega, by have := Ha2.out; have := Hnew.out; omega, by rw [← Haft.out, Hno.out Hkk.out], by rw [HP.out, List.append_assoc, List.replicate_append_replicate] at ho2; exact ho2, hbw2⟩
              case measure => simp [intOf]; omega
    · obtain rfl : k = E.length := by omega
      rw [aft_end (by rw [wsOf_length]; exact Nat.le_refl _)] at haft
      have Haft := Lib.hid haft
      obtain ⟨Ao, co, rfl, hco, -, hro, -⟩ := ho.form
      have hlo : left.length ≤ (left ++ List.replicate gap 0).length := by simp
      have hlc : (left.length : Int) ≤ (co : Int) := by omega
      have hl0 : (0 : Int) ≤ (left.length : Int) := by omega
      have Hro := Lib.hid ho
      clear haft hat hst hro ho
      go_wp2
      go_ret
      exact ⟨_, rfl, by rw [← Haft.out]; exact Hro.out.begin, hbw⟩
theorem rfAfter_any [Stable (Sep l)] (h : St S (RfA g b ws :: l) w0 w) (A : Option Addr) (cap : Nat) (ks : List Bool) (hr : RL bvl w w.heap.size A ks) (hl : (seenOf b ws).length ≤ 1099511627776) (hn : ws.length < 1099511627776) (hkl : ks.length ≤ 140737488355328) :
    Calls Try.prog 19 #[.pointer (some ⟨g, 0, none⟩), .slice A ks.length cap] w fun e w' => ∃ v, e = .returned v ∧ St S (ObA 5 v (aft b 0 ws ks) :: RfA g b ws :: l) w0 w' := by
  obtain ⟨A0, d0, A1, d1, E, rfl, hsr⟩ := rf_read h
  refine (rfAfter_new hsr (Nat.le_refl _) A cap ks hr hl (by rwa [wsOf_length] at hn) hkl).mono ?_
  rintro e w' ⟨v, rfl, ho, hb⟩
  exact ⟨v, rfl, h.newOb ho hb⟩

end

end Go.Proofs.Ytkpmnmgnfgfhaaa

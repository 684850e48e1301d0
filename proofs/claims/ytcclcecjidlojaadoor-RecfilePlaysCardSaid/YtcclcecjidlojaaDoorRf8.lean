/- recfile: readHeader. -/
import Derived.Test.YtcclcecjidlojaaDoorRf7
import Derived.Test.YtcclcecjidlojaaDoorRNum
import Derived.Test.YtcclcecjidlojaaDoorRRaw
import Derived.OwnWalk
namespace Go.Proofs.YtcclcecjidlojaaDoor
open Go.RowKit
set_option linter.unusedVariables false
section
variable {S0 : Fp} {l : List Ass} {w0 w : World} {g : Nat} {K V S : Int} {R : List Nat} {lv lo : Int}

/-- d bytes of the head, at place o, as a number -/
def hd (bs : List Nat) (o d : Nat) : Nat := be (((bs.take 16).drop o).take d)
def hdErr (bs : List Nat) : Int :=
  if bs.length < 16 then 10 else if bs.take 4 = [83, 82, 69, 67] then (if hd bs 12 4 = crc (bs.take 12) then (if (decide (2 ≤ (hd bs 6 2 : Int)) && decide ((hd bs 6 2 : Int) ≤ 255)) = true then 0 else 4) else 91) else 90
/-- a Reader that the call made -/
def RS (N : Nat) (w w1 : World) (g q : Nat) (bs : List Nat) : Prop := Rd w1 N g q bs 0 ∧ Below N w w1
theorem RS.lt {N : Nat} {w w1 : World} {g q : Nat} {bs : List Nat} (h : RS N w w1 g q bs) : N ≤ g ∧ g < w1.heap.size := ⟨h.1.lt.1, h.1.lt.2.2.2⟩
theorem getVal_at {bs : List Nat} {d : Nat} (hd : d = 1 ∨ d = 2 ∨ d = 4) (hl : d ≤ bs.length) : placeErr bs.length 0 (d : Int) = 0 ∧ getVal bs 0 (d : Int) = be (bs.take d) ∧ restOf bs 0 (d : Int) = bs.drop d := by
  have h1 : isW (d : Int) = true := isW_yes (by omega)
  have h0 : placeErr bs.length 0 (d : Int) = 0 := placeErr_ok (by rw [h1]; simp) (by omega)
  refine ⟨h0, ?_, ?_⟩
  · rw [getVal_ok h0]
    simp
  · rw [restOf_ok rfl, Int.toNat_natCast]
theorem rs_num {N : Nat} {w w1 : World} {g q : Nat} {bs : List Nat} (h : RS N w w1 g q bs) (d : Nat) (dI : Int) (hdI : dI = (d : Int)) (hd : d = 1 ∨ d = 2 ∨ d = 4) (hl : d ≤ bs.length) :
    Calls Tryd.prog 68 #[.pointer (some ⟨g, 0, none⟩), .int .i64 dI] w1 fun e w2 => e = .returned (.int .u64 (be (bs.take d) : Nat)) ∧ RS N w w2 g q (bs.drop d) ∧ Only (fun k => k = g) w1 w2 := by
  subst hdI
  obtain ⟨h0, h1, h2⟩ := getVal_at hd hl
  refine (RNum_any N g q bs 0 (d : Int) w1 h.1).mono ?_
  rintro e w2 ⟨rfl, h3, h4⟩
  rw [h0, h2, errBy_ok rfl] at h3
  rw [h1]
  refine ⟨rfl, ⟨h3, h.2.trans (h4.below (Nat.le_trans h.lt.1 (Nat.le_of_lt h.lt.2)) fun k hk hS => by rw [hS]; exact h.lt.1)⟩, h4⟩
theorem rs_raw {N : Nat} {w w1 : World} {g q : Nat} {bs : List Nat} (h : RS N w w1 g q bs) (m : Nat) (hl : m ≤ bs.length) (hl8 : bs.length ≤ 140737488355328) :
    Calls Tryd.prog 67 #[.pointer (some ⟨g, 0, none⟩), .int .i64 (m : Int)] w1 fun e w2 => ∃ v, e = .returned v ∧ OB w2 w1.heap.size 5 v (bs.take m) ∧ RS N w w2 g q (bs.drop m) ∧ Only (fun k => k = g) w1 w2 := by
  have h0 : rawErr bs.length (m : Int) = 0 := rawErr_ok (by omega) (by omega)
  refine (RRaw_any N g q bs 0 (m : Int) w1 h.1 hl8).mono ?_
  rintro e w2 ⟨v, rfl, ho, h3, h4⟩
  rw [h0, restOf_ok rfl, errBy_ok rfl, Int.toNat_natCast] at h3
  rw [rawVal_ok h0, Int.toNat_natCast] at ho
  refine ⟨v, rfl, ho, ⟨h3, h.2.trans (h4.below (Nat.le_trans h.lt.1 (Nat.le_of_lt h.lt.2)) fun k hk hS => by rw [hS]; exact h.lt.1)⟩, h4⟩
set_option maxHeartbeats 400000 in
theorem readHeader_short {A : Option Addr} {cap : Nat} {bs : List Nat} (hl : bs.length < 16) :
    Calls Tryd.prog 48 #[.slice A bs.length cap] w fun e w' => e = .returned (.tuple #[.pointer none, .int .i64 0, .int .i64 10]) ∧ w = w' := by
  have e0 : decide ((bs.length : Int) < 16) = true := decide_eq_true (by omega)
  have e1 : decide (bs.length < 16) = true := decide_eq_true hl
  clear hl
  go_enter Tryd.func48, Tryd.ntmps48
  go_wp2
  go_ret3
  exact ⟨rfl, rfl⟩
theorem srec_eq {L : List Nat} (h : IsBytes L) : ((strOf L).toList == [83, 82, 69, 67]) = decide (L = [83, 82, 69, 67]) := by
  by_cases hL : L = [83, 82, 69, 67]
  · subst hL
    have h1 : (strOf [83, 82, 69, 67]).toList = [83, 82, 69, 67] := by rw [Lib.toList_data]; rfl
    rw [h1]
    rfl
  · rw [decide_eq_false hL]
    refine beq_eq_false_iff_ne.2 fun e => hL ?_
    have h1 := strBytes_strOf h
    rw [← h1]
    unfold strBytes
    rw [← Lib.toList_data, e]
    rfl
theorem take_len16 {bs : List Nat} (h : 16 ≤ bs.length) : (bs.take 16).length = 16 := by rw [List.length_take]; omega
theorem hd_lt {bs : List Nat} (h : IsBytes bs) (o d : Nat) (hd' : o + d ≤ 16) (hl : 16 ≤ bs.length) : hd bs o d < 256 ^ d := by
  unfold hd
  exact be_lt _ (fun x hx => h x (List.mem_of_mem_take (List.mem_of_mem_drop hx))) d (by rw [List.length_drop, take_len16 hl]; omega)
set_option maxRecDepth 100000 in
set_option maxHeartbeats 1000000 in
theorem readHeader_any {A : Option Addr} {cap B : Nat} {bs : List Nat} (hr : RB w B A bs) (hB : B ≤ w.heap.size) (hT : TabW w) (hl : 16 ≤ bs.length) (hl2 : bs.length ≤ 140737488355328) (hcap : bs.length ≤ cap) :
    Calls Tryd.prog 48 #[.slice A bs.length cap] w fun e w' =>
      (hdErr bs ≠ 0 ∧ e = .returned (.tuple #[.pointer none, .int .i64 0, .int .i64 (hdErr bs)]) ∧ Below w.heap.size w w') ∨
      (hdErr bs = 0 ∧ ∃ g, e = .returned (.tuple #[.pointer (some ⟨g, 0, none⟩), .int .i64 (hd bs 8 4 : Nat), .int .i64 0]) ∧ w.heap.size ≤ g ∧ Below w.heap.size w w' ∧ Blk w' g 72 #[.int .i64 (hd bs 4 1 : Nat), .int .i64 (hd bs 5 1 : Nat), .int .i64 (hd bs 6 2 : Nat), .slice none 0 0, .int .i64 0, .int .i64 0]) := by
  obtain ⟨b, off, rfl, hbB, hcells⟩ := hr.all (by omega)
  have h16 := take_len16 hl
  have hcut : RB w B (some ⟨b, off, none⟩) (bs.take 16) := by
    have := hr.cut rfl 0 16 hl (by omega)
    rwa [List.drop_zero, Nat.add_zero] at this
  have hcut12 : RB w B (some ⟨b, off, none⟩) (bs.take 12) := by
    have := hr.cut rfl 0 12 (by omega) (by omega)
    rwa [List.drop_zero, Nat.add_zero] at this
  have hl12 : (bs.take 12).length = 12 := by rw [List.length_take]; omega
  have hk1 := hd_lt hr.1 4 1 (by omega) hl
  have hk2 := hd_lt hr.1 5 1 (by omega) hl
  have hk3 := hd_lt hr.1 6 2 (by omega) hl
  have hk4 := hd_lt hr.1 8 4 (by omega) hl
  have hk5 := hd_lt hr.1 12 4 (by omega) hl
  obtain ⟨D, hD⟩ : ∃ D, D = bs.take 16 := ⟨_, rfl⟩
  have e1 : hd bs 4 1 = be ((D.drop 4).take 1) := by rw [hD]; rfl
  have e2 : hd bs 5 1 = be (((D.drop 4).drop 1).take 1) := by rw [hD, List.drop_drop]; rfl
  have e3 : hd bs 6 2 = be ((((D.drop 4).drop 1).drop 1).take 2) := by rw [hD, List.drop_drop, List.drop_drop]; rfl
  have e4 : hd bs 8 4 = be (((((D.drop 4).drop 1).drop 1).drop 2).take 4) := by rw [hD, List.drop_drop, List.drop_drop, List.drop_drop]; rfl
  have e5 : hd bs 12 4 = be ((((((D.drop 4).drop 1).drop 1).drop 2).drop 4).take 4) := by rw [hD, List.drop_drop, List.drop_drop, List.drop_drop, List.drop_drop]; rfl
  have e6 : D.take 4 = bs.take 4 := by rw [hD, List.take_take]; rfl
  obtain ⟨kd, hkd⟩ : ∃ x, x = hd bs 4 1 := ⟨_, rfl⟩
  obtain ⟨vr, hvr⟩ : ∃ x, x = hd bs 5 1 := ⟨_, rfl⟩
  obtain ⟨sz, hsz⟩ : ∃ x, x = hd bs 6 2 := ⟨_, rfl⟩
  obtain ⟨ct, hct⟩ : ∃ x, x = hd bs 8 4 := ⟨_, rfl⟩
  obtain ⟨sm, hsm⟩ : ∃ x, x = hd bs 12 4 := ⟨_, rfl⟩
  have hE : hdErr bs = if bs.take 4 = [83, 82, 69, 67] then (if sm = crc (bs.take 12) then (if (decide (2 ≤ (sz : Int)) && decide ((sz : Int) ≤ 255)) = true then 0 else 4) else 91) else 90 := by
    unfold hdErr
    rw [if_neg (by omega), ← hsz, ← hsm]
  rw [← hkd] at hk1 e1
  rw [← hvr] at hk2 e2
  rw [← hsz] at hk3 e3
  rw [← hct] at hk4 e4
  rw [← hsm] at hk5 e5
  rw [← hkd, ← hvr, ← hsz, ← hct]
  rw [← hD] at h16 hcut
  have w1 : wrap64 (kd : Int) = (kd : Int) := rfwrap (by omega) (by omega)
  have w2 : wrap64 (vr : Int) = (vr : Int) := rfwrap (by omega) (by omega)
  have w3 : wrap64 (sz : Int) = (sz : Int) := rfwrap (by omega) (by omega)
  have w4 : wrap64 (ct : Int) = (ct : Int) := rfwrap (by omega) (by omega)
  have w5 : IntKind.u32.wrap (sm : Int) = (sm : Int) := by rw [IntKind.wrap_u32]; omega
  have w6 : wrap64 ((16 : Int) - 4) = 12 := by rw [rfwrap (by omega) (by omega)]; rfl
  have w7 : IntKind.u64.wrap (sm : Int) = (sm : Int) := by rw [IntKind.wrap_u64]; omega
  obtain ⟨r0, q0⟩ : ∃ r, r = D.drop 4 := ⟨_, rfl⟩
  obtain ⟨r1, q1⟩ : ∃ r, r = r0.drop 1 := ⟨_, rfl⟩
  obtain ⟨r2, q2⟩ : ∃ r, r = r1.drop 1 := ⟨_, rfl⟩
  obtain ⟨r3, q3⟩ : ∃ r, r = r2.drop 2 := ⟨_, rfl⟩
  obtain ⟨r4, q4⟩ : ∃ r, r = r3.drop 4 := ⟨_, rfl⟩
  rw [← q0] at e1 e2 e3 e4 e5
  rw [← q1] at e2 e3 e4 e5
  rw [← q2] at e3 e4 e5
  rw [← q3] at e4 e5
  rw [← q4] at e5
  have l0 : r0.length = 12 := by rw [q0, List.length_drop, h16]
  have l1 : r1.length = 11 := by rw [q1, List.length_drop, l0]
  have l2 : r2.length = 10 := by rw [q2, List.length_drop, l1]
  have l3 : r3.length = 8 := by rw [q3, List.length_drop, l2]
  have l4 : r4.length = 4 := by rw [q4, List.length_drop, l3]
  obtain ⟨L4, hL4⟩ : ∃ L, L = D.take 4 := ⟨_, rfl⟩
  have lL4 : L4.length = 4 := by rw [hL4, List.length_take, h16]; rfl
  have HQ := Lib.hid (And.intro q0 (And.intro q1 (And.intro q2 (And.intro q3 (And.intro q4 hL4)))))
  have HLN := Lib.hid (And.intro h16 (And.intro l0 (And.intro l1 (And.intro l2 (And.intro l3 (And.intro l4 lL4))))))
  have HEE := Lib.hid (And.intro e1 (And.intro e2 (And.intro e3 (And.intro e4 e5))))
  have hnr := NewReader_any (some ⟨b, off, none⟩) cap w.heap.size D w (hcut.more hB) (Nat.le_refl _) (by rw [h16]; decide)
  rw [h16] at hnr
  obtain ⟨N, hN⟩ : ∃ N, N = w.heap.size := ⟨_, rfl⟩
  rw [← hN] at hnr hB ⊢
  have HNR := Lib.hid hnr
  have HE := Lib.hid hE
  have HC12 := Lib.hid hcut12
  have HL12 := Lib.hid hl12
  have HBB := Lib.hid hB
  have HT := Lib.hid hT
  have HN := Lib.hid hN
  have HBs : Hid (L4 = bs.take 4 ∧ IsBytes L4) := Lib.hid ⟨by rw [hL4, e6], by rw [hL4, e6]; exact fun x hx => hr.1 x (List.mem_of_mem_take hx)⟩
  have i0 : decide ((bs.length : Int) < 16) = false := decide_eq_false (by omega)
  have i1 : decide (bs.length < 16) = false := decide_eq_false (by omega)
  have i2 : (16 : Int) ≤ (cap : Int) := by omega
  have i3 : (12 : Int) ≤ (cap : Int) := by omega
  have HBL := Lib.hid (fun W : World => run_build (P := Tryd.prog) W 72 #[(0, .int .i64 (kd : Int)), (1, .int .i64 (vr : Int)), (2, .int .i64 (sz : Int))] #[.int .i64 (kd : Int), .int .i64 (vr : Int), .int .i64 (sz : Int), .slice none 0 0, .int .i64 0, .int .i64 0] (by kernel_rfl))
  clear hr hl hl2 hcap hcells h16 hcut hcut12 hl12 hk1 hk2 hk3 hk4 hk5 hD e1 e2 e3 e4 e5 e6 hkd hvr hsz hct hsm hE q0 q1 q2 q3 q4 l0 l1 l2 l3 l4 hL4 lL4 hnr hN hB hT hbB
  go_enter Tryd.func48, Tryd.ntmps48
  go_upto_region 5 with (first
    | (go_at_call 66; refine (HNR.out).mono ?_; rintro e w1 ⟨g1, p1, rfl, hrd, hb1⟩; have HR1 := Lib.hid (show RS N w w1 g1 p1 D from ⟨hrd, hb1⟩); clear hrd hb1)
    | (go_at_call 67; refine (rs_raw HR1.out 4 (by rw [HLN.out.1]; decide) (by rw [HLN.out.1]; decide)).mono ?_; rintro e w2 ⟨v2, rfl, ho2, hr2, -⟩; rw [← HQ.out.1] at hr2; rw [← HQ.out.2.2.2.2.2] at ho2; obtain ⟨A4, c4, rfl, -, -, hl4, ho4⟩ := ho2.form; have hne : ∀ a, A4 = some a → ¬ a.block = g1 := (fun a ha hE => by have h1 := (ho4 a.block (by rw [ha]; rfl)).1; have h2 := HR1.out.lt.2; omega); have HR2 := Lib.hid hr2; have HL2 := Lib.hid hl4; have HNE := Lib.hid hne; clear hr2 hl4 ho4 hne ho2))
  have HB2 := HBL.out
  go_upto_region 6 with (first
    | (go_at_call 68; (with_reducible refine (rs_num HR2.out 1 1 rfl (by decide) (by rw [HLN.out.2.1]; decide)).mono ?_); rintro e w3 ⟨rfl, hr3, hon⟩; rw [← HEE.out.1]; rw [← HQ.out.2.1] at hr3; have HL3 := Lib.hid ((HL2.out.one hon (Nat.le_refl _) HNE.out).more hon.size); have HR3 := Lib.hid hr3; have HO3 := Lib.hid hon; clear hr3 hon)
    | (go_at_call 68; (with_reducible refine (rs_num HR3.out 1 1 rfl (by decide) (by rw [HLN.out.2.2.1]; decide)).mono ?_); rintro e w4 ⟨rfl, hr4, hon⟩; rw [← HEE.out.2.1]; rw [← HQ.out.2.2.1] at hr4; have HL4 := Lib.hid ((HL3.out.one hon (Nat.le_refl _) HNE.out).more hon.size); have HR4 := Lib.hid hr4; have HO4 := Lib.hid hon; clear hr4 hon)
    | (go_at_call 68; (with_reducible refine (rs_num HR4.out 2 2 rfl (by decide) (by rw [HLN.out.2.2.2.1]; decide)).mono ?_); rintro e w5 ⟨rfl, hr5, hon⟩; rw [← HEE.out.2.2.1]; rw [← HQ.out.2.2.2.1] at hr5; have HL5 := Lib.hid ((HL4.out.one hon (Nat.le_refl _) HNE.out).more hon.size); have HR5 := Lib.hid hr5; have HO5 := Lib.hid hon; clear hr5 hon))
  have hf6 := Blk.new w5 72 #[.int .i64 (kd : Int), .int .i64 (vr : Int), .int .i64 (sz : Int), .slice none 0 0, .int .i64 0, .int .i64 0]
  have hb6 : Below w5.heap.size w5 (w5.alloc (.cells #[.int .i64 (kd : Int), .int .i64 (vr : Int), .int .i64 (sz : Int), .slice none 0 0, .int .i64 0, .int .i64 0] 72)) := (Below.refl _ _).alloc (Nat.le_refl _) _
  have hgf : ¬ w5.heap.size = g1 := fun e => by have := HR5.out.lt.2; omega
  have hgN : N ≤ w5.heap.size := Nat.le_trans HR5.out.lt.1 (Nat.le_of_lt HR5.out.lt.2)
  obtain ⟨w6, hw6⟩ : ∃ q, q = w5.alloc (.cells #[.int .i64 (kd : Int), .int .i64 (vr : Int), .int .i64 (sz : Int), .slice none 0 0, .int .i64 0, .int .i64 0] 72) := ⟨_, rfl⟩
  have hr6 : RS N w w6 g1 p1 r3 := by rw [hw6]; exact ⟨HR5.out.1.below hb6, HR5.out.2.trans (hb6.mono hgN)⟩
  have hl6 : RB w6 w6.heap.size A4 L4 := by rw [hw6]; exact (HL5.out.alloc (Nat.le_refl _) _).more hb6.size
  rw [← hw6] at hf6 ⊢
  obtain ⟨gF, hgF⟩ : ∃ q, q = w5.heap.size := ⟨_, rfl⟩
  rw [← hgF] at hf6 hgf hgN ⊢
  have HF6 := Lib.hid hf6
  have HGF := Lib.hid hgf
  have HGN := Lib.hid hgN
  have HR6 := Lib.hid hr6
  have HL6 := Lib.hid hl6
  clear hw6 hf6 hb6 hgf hr6 hl6 hgF hgN HB2 HR2 HL2 HR3 HL3 HR4 HL4 HR5 HL5 HO3 HO4 HO5 HBL HNR
  go_upto_region 9 with (first
    | (go_at_call 68; (with_reducible refine (rs_num HR6.out 4 4 rfl (by decide) (by rw [HLN.out.2.2.2.2.1]; decide)).mono ?_); rintro e w7 ⟨rfl, hr7, hon⟩; rw [← HEE.out.2.2.2.1]; rw [← HQ.out.2.2.2.2.1] at hr7; have HL7 := Lib.hid ((HL6.out.one hon (Nat.le_refl _) HNE.out).more hon.size); have HR7 := Lib.hid hr7; have HF7 := Lib.hid (HF6.out.only hon HGF.out); clear hr7 hon)
    | (go_at_call 69; refine (Left_any N g1 p1 r4 0 w7 HR7.out.1).mono ?_; rintro e w9 ⟨rfl, rfl⟩; rw [HLN.out.2.2.2.2.2.1])
    | (go_at_call 68; (refine (rs_num HR7.out 4 4 rfl (by decide) (by rw [HLN.out.2.2.2.2.2.1]; decide)).mono ?_); rintro e w8 ⟨rfl, hr8, hon⟩; rw [← HEE.out.2.2.2.2]; have HL8 := Lib.hid ((HL7.out.one hon (Nat.le_refl _) HNE.out).more hon.size); have HR8 := Lib.hid hr8; have HF8 := Lib.hid (HF7.out.only hon HGF.out); clear hr8 hon))
  clear HF6 HL6 HR6 HF7 HL7 HR7 HGF HNE HQ HLN HEE HR1
  have hcv := run_bytes_str (P := Tryd.prog) (w := w8) 34 9 5 c4 Tryd.underlying34 Tryd.underlying5 Tryd.underlying9 HL8.out
  have hse := srec_eq HBs.out.2
  obtain ⟨Sx, hSx⟩ : ∃ Sx, Sx = strOf L4 := ⟨_, rfl⟩
  rw [← hSx] at hcv hse
  obtain ⟨bq, hbq⟩ : ∃ q, q = decide (L4 = [83, 82, 69, 67]) := ⟨_, rfl⟩
  rw [← hbq] at hse
  have HBQ := Lib.hid hbq
  have HB8 := Lib.hid HR8.out.2
  clear hSx hbq HR8 HL8
  have HE2 : Hid (hdErr bs = if bq = true then (if sm = crc (bs.take 12) then (if (decide (2 ≤ (sz : Int)) && decide ((sz : Int) ≤ 255)) = true then 0 else 4) else 91) else 90) := Lib.hid (by
    rw [HE.out, ← HBs.out.1]
    by_cases h : L4 = [83, 82, 69, 67]
    · have hb : bq = true := by rw [HBQ.out]; exact decide_eq_true h
      rw [if_pos h, hb]
      rfl
    · have hb : bq = false := by rw [HBQ.out]; exact decide_eq_false h
      rw [if_neg h, hb]
      rfl)
  clear HE HBQ HBs
  cases bq
  · have he : Hid (hdErr bs = 90) := Lib.hid (by rw [HE2.out, if_neg (by decide)])
    clear HE2
    go_wp2
    go_ret3
    exact .inl ⟨by rw [he.out]; decide, by rw [he.out]; rfl, HB8.out⟩
  · have HT8 := Lib.hid (HT.out.below HB8.out (by have := HN.out; have := HT.out.1; omega))
    have HC8 := Lib.hid (HC12.out.below' HB8.out HBB.out)
    obtain ⟨cy, hcy⟩ : ∃ x, x = crc (bs.take 12) := ⟨_, rfl⟩
    have hsum := Sum_any (some ⟨b, off, none⟩) cap B (bs.take 12) w8 HT8.out HC8.out (by rw [HL12.out]; decide)
    rw [HL12.out, ← hcy] at hsum
    have HSUM := Lib.hid hsum
    have HE3 : Hid (hdErr bs = if sm = cy then (if (decide (2 ≤ (sz : Int)) && decide ((sz : Int) ≤ 255)) = true then 0 else 4) else 91) := Lib.hid (by rw [HE2.out, if_pos rfl, hcy])
    clear HE2 hsum hcy
    by_cases hc : sm = cy
    · subst hc
      obtain ⟨gz, hgz⟩ : ∃ q, q = (decide (2 ≤ (sz : Int)) && decide ((sz : Int) ≤ 255)) := ⟨_, rfl⟩
      have HG := Lib.hid (goodSize_any (sz : Int))
      rw [← hgz] at HG
      have HE4 : Hid (hdErr bs = if gz = true then 0 else 4) := Lib.hid (by rw [HE3.out, if_pos rfl, hgz])
      have c82 : w8.cell? ⟨gF, 2, none⟩ = some (.int .i64 (sz : Int)) := by rw [HF8.out.cell]; rfl
      clear HE3 hgz
      cases gz
      · have he : Hid (hdErr bs = 4) := Lib.hid (by rw [HE4.out, if_neg (by decide)])
        clear HE4
        go_wp2_with (first
          | (go_at_call 43; refine (HSUM.out).mono ?_; rintro e w10 ⟨rfl, rfl⟩)
          | (go_at_call 36; refine (HG.out _).mono ?_; rintro e w11 ⟨rfl, rfl⟩))
        go_ret3
        exact .inl ⟨by rw [he.out]; decide, by rw [he.out]; rfl, HB8.out⟩
      · have he : Hid (hdErr bs = 0) := Lib.hid (by rw [HE4.out, if_pos rfl])
        clear HE4
        go_wp2_with (first
          | (go_at_call 43; refine (HSUM.out).mono ?_; rintro e w10 ⟨rfl, rfl⟩)
          | (go_at_call 36; refine (HG.out _).mono ?_; rintro e w11 ⟨rfl, rfl⟩))
        go_ret3
        exact .inr ⟨he.out, gF, rfl, HGN.out, HB8.out, HF8.out⟩
    · have he : Hid (hdErr bs = 91) := Lib.hid (by rw [HE3.out, if_neg hc])
      have x1 : ((sm : Int) != (cy : Int)) = true := by
        have : (sm : Int) ≠ (cy : Int) := by omega
        simp [this]
      clear HE3 hc
      go_wp2_with (go_at_call 43; refine (HSUM.out).mono ?_; rintro e w10 ⟨rfl, rfl⟩)
      go_ret3
      exact .inl ⟨by rw [he.out]; decide, by rw [he.out]; rfl, HB8.out⟩
end
end Go.Proofs.YtcclcecjidlojaaDoor

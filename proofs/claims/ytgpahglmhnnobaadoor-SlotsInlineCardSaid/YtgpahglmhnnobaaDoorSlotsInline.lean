/- A property stands in place exactly if its need is not more than the slots that those ahead of it left. utf8's tables stand as the program's text lays them (the card ties them; no walk reads them). -/
import Derived.Test.YtgpahglmhnnobaaDoorOpen
import Derived.Test.YtgpahglmhnnobaaDoorCards
import Derived.Test.YtgpahglmhnnobaaDoorTie
import Derived.Deep.DeepHandedRow
import Derived.Lib.LaidTab
import Derived.Test.YtgpahglmhnnobaaDoorSlSpeak
import Derived.Test.YtgpahglmhnnobaaDoorSlLaid
import Derived.Test.YtgpahglmhnnobaaDoorSlOpen
namespace Go.Proofs.YtgpahglmhnnobaaDoor.slotsInline
open Go.ChangeShapes Go.WideShapes Go.ChangeAt Go.RowKit
open Go.ChangeMaps (open_string shut_string)
set_option linter.unusedVariables false
set_option linter.unusedSimpArgs false

theorem packO_len {L : List Kv} {room : Int} (h : packE L room = 0) : (packO L room).length ≤ 646496 := by
  obtain ⟨_, _, f3, f4, _⟩ := pack_facts h
  have hok := (run_ok L _ _ 0 (PkOk.start room.toNat) f4).ov
  unfold packO
  rw [if_pos h]
  omega
theorem nth_left {a b : List Nat} {i : Nat} (h : i < a.length) : nth (a ++ b) i = nth a i := by
  unfold nth
  rw [List.getD_eq_getElem?_getD, List.getD_eq_getElem?_getD, List.getElem?_append_left h]
theorem nth_right {a b : List Nat} {n : Nat} (i : Nat) (h : a.length = n) : nth (a ++ b) (n + i) = nth b i := by
  subst h
  unfold nth
  rw [List.getD_eq_getElem?_getD, List.getD_eq_getElem?_getD, List.getElem?_append_right (by omega), Nat.add_sub_cancel_left]
theorem be_pair {L : List Nat} (h : L.length = 2) : be L = nth L 0 * 256 + nth L 1 := by
  match L, h with
  | [a, b], _ => simp [be, beFrom, nth]
theorem run_on {p : Pk} {x : Kv} {T : List Kv} (h : (pkRun p (x :: T)).2 = 0) : pkErr p.key x = 0 ∧ pkRun p (x :: T) = pkRun (pkPut p x) T := by
  by_cases he : pkErr p.key x = 0
  · exact ⟨he, pkRun_ok he⟩
  · rw [pkRun_no he] at h
    exact absurd h he
theorem key_pair {x : Kv} (hx : KvGood x) (r : List Nat) : nth (keyB x ++ r) 0 * 256 + nth (keyB x ++ r) 1 = (x.k + 1).toNat := by
  rw [nth_left (by rw [keyB_len]; omega), nth_left (by rw [keyB_len]; omega), ← be_pair (keyB_len x), be_key hx]
/-- what stands in place of the next property -/
theorem in_at {p : Pk} {x : Kv} {T : List Kv} (hx : KvGood x) (h : (pkRun p (x :: T)).2 = 0) (hn : needK x ≤ p.left) {z S : List Nat} (hS : S = (pkRun p (x :: T)).1.sl ++ z) :
    p.sl.length + 8 * needK x ≤ S.length ∧ nth S p.sl.length * 256 + nth S (p.sl.length + 1) = (x.k + 1).toNat := by
  obtain ⟨he, hr⟩ := run_on h
  rw [hr] at h hS
  obtain ⟨h1, -, -, -⟩ := run_parts T (pkPut p x) h
  have e1 : (pkPut p x).sl = p.sl ++ inB x := by rw [pkPut_in hn]
  rw [h1, e1] at hS
  obtain ⟨r, hr2⟩ : ∃ r, r = (inP (pkPut p x) T).flatMap inB := ⟨_, rfl⟩
  rw [← hr2] at hS
  refine ⟨?_, ?_⟩
  · rw [hS, List.length_append, List.length_append, List.length_append, inB_len]
    omega
  · obtain ⟨t, ht⟩ : ∃ t, S = p.sl ++ (keyB x ++ t) := ⟨encB x.v ++ (List.replicate (need (encB x.v).length * 8 - 2 - (encB x.v).length) 0 ++ (r ++ z)), by rw [hS]; unfold inB; simp only [List.append_assoc]⟩
    rw [ht]
    have a0 := nth_right (a := p.sl) (b := keyB x ++ t) 0 rfl
    have a1 := nth_right (a := p.sl) (b := keyB x ++ t) 1 rfl
    rw [Nat.add_zero] at a0
    rw [a0, a1]
    exact key_pair hx t
/-- what stands beside of the next property -/
theorem out_at {p : Pk} {x : Kv} {T : List Kv} (hx : KvGood x) (h : (pkRun p (x :: T)).2 = 0) (hn : ¬ needK x ≤ p.left) {S : List Nat} (hS : S = (pkRun p (x :: T)).1.ov) :
    p.ov.length + 4 + (encB x.v).length ≤ S.length ∧ nth S p.ov.length * 256 + nth S (p.ov.length + 1) = (x.k + 1).toNat ∧ nth S (p.ov.length + 2) * 256 + nth S (p.ov.length + 3) = (encB x.v).length := by
  obtain ⟨he, hr⟩ := run_on h
  rw [hr] at h hS
  obtain ⟨-, h1, -, -⟩ := run_parts T (pkPut p x) h
  have e1 : (pkPut p x).ov = p.ov ++ outB x := by rw [pkPut_out hn]
  rw [h1, e1] at hS
  obtain ⟨r, hr2⟩ : ∃ r, r = (outP (pkPut p x) T).flatMap outB := ⟨_, rfl⟩
  rw [← hr2] at hS
  refine ⟨?_, ?_⟩
  · rw [hS, List.length_append, List.length_append, outB_len]
    omega
  · obtain ⟨t, ht⟩ : ∃ t, S = p.ov ++ (keyB x ++ (enc 2 (encB x.v).length ++ t)) := ⟨encB x.v ++ r, by rw [hS]; unfold outB; simp only [List.append_assoc]⟩
    rw [ht]
    have a0 := nth_right (a := p.ov) (b := keyB x ++ (enc 2 (encB x.v).length ++ t)) 0 rfl
    have a1 := nth_right (a := p.ov) (b := keyB x ++ (enc 2 (encB x.v).length ++ t)) 1 rfl
    have a2 := nth_right (a := p.ov) (b := keyB x ++ (enc 2 (encB x.v).length ++ t)) 2 rfl
    have a3 := nth_right (a := p.ov) (b := keyB x ++ (enc 2 (encB x.v).length ++ t)) 3 rfl
    rw [Nat.add_zero] at a0
    rw [a0, a1, a2, a3]
    refine ⟨key_pair hx _, ?_⟩
    have b2 := nth_right (a := keyB x) (b := enc 2 (encB x.v).length ++ t) 0 (keyB_len x)
    have b3 := nth_right (a := keyB x) (b := enc 2 (encB x.v).length ++ t) 1 (keyB_len x)
    rw [show 2 + 0 = 2 from rfl] at b2
    rw [show 2 + 1 = 3 from rfl] at b3
    have hl : (enc 2 (encB x.v).length).length = 2 := enc_length _ _
    rw [b2, b3, nth_left (by rw [hl]; omega), nth_left (by rw [hl]; omega), ← be_pair hl]
    have hsm := encB_small hx.c
    exact be_enc' (by have h1 : (256 : Nat) ^ 2 = 65536 := by decide
                      omega)
theorem tail_zero {s S : List Nat} {z j : Nat} (hS : S = s ++ List.replicate z 0) (hj : s.length ≤ j) : nth S j = 0 := by
  obtain ⟨i, rfl⟩ : ∃ i, j = s.length + i := ⟨j - s.length, by omega⟩
  rw [hS, nth_right i rfl]
  exact zeros_nth z i
set_option maxRecDepth 100000 in
set_option maxHeartbeats 2000000 in
theorem walk (w : World) {A : Option Addr} {L : List Kv} {c : Nat} (hx : KvsR w w.heap.size A L ∧ L.length * 88 ≤ 140737488351232) {room : Int} (hroom : -9223372036854775808 ≤ room ∧ room ≤ 9223372036854775807) :
    Calls Tryd.prog 7 #[.slice A L.length c, .int .i64 room] w fun e w' => e = .returned (.bool true) ∧ Below w.heap.size w w' := by
  obtain ⟨hr, hl⟩ := hx
  clear hroom
  have HR : Hid (∀ w', Below w.heap.size w w' → KvsR w' w.heap.size A L) := Lib.hid fun w' hb => hr.below hb
  have hvk : ∀ x ∈ L, Vok x.v := fun x hx => by
    obtain ⟨k, hk⟩ := List.mem_iff_getElem?.1 hx
    obtain ⟨b, off, _, _, A1, c1, A2, c2, _, _, _, hv, _⟩ := hr k x hk
    exact hv
  have HVK := Lib.hid hvk
  have HCP : Hid (∀ w', Below w.heap.size w w' → Calls Tryd.prog 13 #[.slice A L.length c] w' (NewKvs L w')) := Lib.hid fun w' hb => refCopyKv_any A c w.heap.size L w' (HR.out w' hb) hb.size hl
  obtain ⟨n, HN⟩ : ∃ n, Hid (n = L.length) := ⟨_, Lib.hid rfl⟩
  obtain ⟨E, HE⟩ : ∃ E, Hid (E = packE L room) := ⟨_, Lib.hid rfl⟩
  rw [← HN.out] at HCP hl ⊢
  clear hr hvk
  go_enter Tryd.func7, Tryd.ntmps7
  go_wp2_with fail
  refine (speaks16_any w).mono ?_
  rintro e w1 ⟨rfl, hb1⟩
  have HC1 := Lib.hid (HCP.out w1 hb1)
  have HB1 := Lib.hid hb1
  clear hb1
  go_wp2_with fail
  unfold NewKvs at HC1
  refine HC1.out.mono ?_
  rintro e w2 ⟨v, F, rfl, hF, hF2, hb2⟩
  have h2 : St Zf [KvsA v L] w1 w2 := (St.start Zf w1).add hb2 hF fun k hk => hF2 k hk
  obtain ⟨A2, c2, rfl, hr2⟩ := hF.reads
  have hpk := Pack_any A2 c2 w2.heap.size L room w2 hr2 (Nat.le_refl _) (by rw [← HN.out]; omega)
  unfold PackW at hpk
  obtain ⟨PS, HPS⟩ : ∃ PS, Hid (PS = packS L room) := ⟨_, Lib.hid rfl⟩
  obtain ⟨PO, HPO⟩ : ∃ PO, Hid (PO = packO L room) := ⟨_, Lib.hid rfl⟩
  rw [← HE.out, ← HN.out, ← HPS.out, ← HPO.out] at hpk
  rw [← HN.out]
  have HPK := Lib.hid hpk
  have HB2 := Lib.hid (HB1.out.trans (hb2.mono HB1.out.size))
  clear hF hF2 hb2 h2 hr2 hpk HC1
  go_wp2_with fail
  refine HPK.out.mono ?_
  rintro e w3 ⟨v3, v4, rfl, h3⟩
  obtain ⟨A3, c3, rfl, -, -, -, -⟩ := h3.ob.form
  obtain ⟨A4, c4, rfl, -, -, -, -⟩ := h3.drop.ob.form
  obtain ⟨-, a1, a2, a3⟩ := h3.obR
  obtain ⟨-, b1, b2, b3⟩ := h3.drop.obR
  have HB3 := Lib.hid (HB2.out.trans (h3.bel.mono HB2.out.size))
  by_cases h0 : E = 0
  · have hpe : packE L room = 0 := by rw [← HE.out]; exact h0
    subst h0
    obtain ⟨f1, f2, f3, f4, f5⟩ := pack_facts hpe
    obtain ⟨-, -, -, hall⟩ := run_parts L _ f4
    have HG : Hid (∀ x ∈ L, KvGood x) := Lib.hid fun x hx => ⟨⟨(hall x hx).1, (hall x hx).2.1⟩, (hall x hx).2.2, HVK.out x hx⟩
    obtain ⟨R, hR⟩ : ∃ R : Nat, room = (R : Int) := ⟨room.toNat, by omega⟩
    have hRt : room.toNat = R := by omega
    have HS : Hid (PS = (pkRun (pk0 R) L).1.sl ++ List.replicate (8 * (pkRun (pk0 R) L).1.left) 0) := Lib.hid (by rw [HPS.out]; unfold packS; rw [if_pos hpe, hRt])
    have HO : Hid (PO = (pkRun (pk0 R) L).1.ov) := Lib.hid (by rw [HPO.out]; unfold packO; rw [if_pos hpe, hRt])
    have HRN : Hid ((pkRun (pk0 R) L).2 = 0) := Lib.hid (by rw [hRt] at f4; exact f4)
    have hpl : PS.length = 8 * R := by rw [HPS.out, f5, hR]; rfl
    obtain ⟨m, HM⟩ : ∃ m, Hid (m = PO.length) := ⟨_, Lib.hid rfl⟩
    have hmb : m ≤ 646496 := by rw [HM.out, HPO.out]; exact packO_len hpe
    have HPL := Lib.hid hpl
    rw [hpl, ← HM.out]
    have hb8 : (((8 * R : Nat) : Int) == 8 * (R : Int)) = true := by simp
    have hR16 : R ≤ 16 := by omega
    have hn16 : n ≤ 16 := by rw [HN.out]; exact f3
    subst hR
    have HRS : Hid (∀ w', Below w3.heap.size w3 w' → RB w' w3.heap.size A3 PS) := Lib.hid fun w' hb => a3.below hb
    have HRO : Hid (∀ w', Below w3.heap.size w3 w' → RB w' w3.heap.size A4 PO) := Lib.hid fun w' hb => b3.below hb
    rw [hpl] at a1
    rw [← HM.out] at b1
    clear h3 a3 b3 hpe f1 f2 f3 f4 f5 hpl hall hRt HPS HPO HPK HE
    go_wp2_with fail
    go_loopw [8, 9, 10, 33] (fun l b a i wr => ∃ (k : Nat) (p : Pk), k ≤ n ∧ i = .int .i64 k ∧ l = .int .i64 (p.left : Int) ∧ b = .int .i64 (p.ov.length : Int) ∧ a = .int .i64 (p.sl.length : Int) ∧ Hid (PkOk R k p) ∧ Hid (pkRun (pk0 R) L = pkRun p (L.drop k)) ∧ Hid (Below w.heap.size w wr ∧ Below w3.heap.size w3 wr)) (fun _ _ _ i _ => n - (intOf i).toNat)
    case atStart => exact ⟨0, pk0 R, Nat.zero_le _, rfl, rfl, rfl, rfl, Lib.hid (PkOk.start R), Lib.hid rfl, Lib.hid ⟨HB3.out, Below.refl _ _⟩⟩
    case round =>
      obtain ⟨k, p, hk, rfl, rfl, rfl, rfl, HOK, HRUN, HBW⟩ := hrel
      obtain ⟨a, HA⟩ : ∃ a, Hid (a = p.sl.length) := ⟨_, Lib.hid rfl⟩
      obtain ⟨o, HOV⟩ : ∃ o, Hid (o = p.ov.length) := ⟨_, Lib.hid rfl⟩
      obtain ⟨lf, HLF⟩ : ∃ lf, Hid (lf = p.left) := ⟨_, Lib.hid rfl⟩
      rw [← HA.out, ← HOV.out, ← HLF.out]
      have hab : a + 8 * lf = 8 * R := by rw [HA.out, HLF.out]; exact HOK.out.sl
      have hob : o ≤ 646496 := by have := HOK.out.ov; rw [HOV.out]; omega
      by_cases hlt : k < n
      · obtain ⟨x, hx⟩ : ∃ x, L[k]? = some x := ⟨_, List.getElem?_eq_getElem (by rw [← HN.out]; exact hlt)⟩
        have hgd := HG.out x (List.mem_of_getElem? hx)
        have HGD := Lib.hid hgd
        have hxk := hgd.k
        have hd : L.drop k = x :: L.drop (k + 1) := by
          rw [List.drop_eq_getElem_cons (by rw [← HN.out]; exact hlt)]
          rw [List.getElem?_eq_getElem (by rw [← HN.out]; exact hlt)] at hx
          rw [Option.some.inj hx]
        have hr0 : (pkRun p (x :: L.drop (k + 1))).2 = 0 := by rw [← hd, ← HRUN.out]; exact HRN.out
        have HR0 := Lib.hid hr0
        have hS : PS = (pkRun p (x :: L.drop (k + 1))).1.sl ++ List.replicate (8 * (pkRun (pk0 R) L).1.left) 0 := by rw [← hd, ← HRUN.out]; exact HS.out
        have HS1 := Lib.hid hS
        have hO : PO = (pkRun p (x :: L.drop (k + 1))).1.ov := by rw [← hd, ← HRUN.out]; exact HO.out
        have HO1 := Lib.hid hO
        have HRUN1 : Hid (pkRun (pk0 R) L = pkRun (pkPut p x) (L.drop (k + 1))) := Lib.hid (by rw [HRUN.out, hd]; exact (run_on hr0).2)
        have HPE : Hid (pkErr p.key x = 0) := Lib.hid (run_on hr0).1
        have hsz := HBW.out.1.size
        obtain ⟨b, off, A1, c1, A5, c5, rfl, hb, hv, hk6, q0, q1, q2, q3, q4, q5⟩ := kv_load (HR.out wr HBW.out.1) hx
        obtain ⟨wo, hwo⟩ : ∃ wo, wo = wr.alloc (.cells #[.int .i64 x.k, .int .i64 x.v.k, .int .i64 x.v.n, .string x.v.s, .slice A1 x.v.ns.length c1, .slice A5 x.v.ts.length c5] 43) := ⟨_, rfl⟩
        have hbo : Below wr.heap.size wr wo := by subst hwo; exact (Below.refl _ _).alloc (Nat.le_refl _) _
        have hBo : Blk wo wr.heap.size 43 #[.int .i64 x.k, .int .i64 x.v.k, .int .i64 x.v.n, .string x.v.s, .slice A1 x.v.ns.length c1, .slice A5 x.v.ts.length c5] := by subst hwo; exact Blk.new _ _ _
        have hcx := refCopy_any x.v _ w.heap.size wo (by rw [hwo]; exact hv.alloc hsz _) (Nat.le_trans hsz hbo.size)
        unfold vagg NewV at hcx
        have HCX := Lib.hid hcx
        have HW := Lib.hid hwo
        have HBO := Lib.hid hBo
        have HBB := Lib.hid hbo
        obtain ⟨q, HQ⟩ : ∃ q, Hid (q = needK x) := ⟨_, Lib.hid rfl⟩
        have hq1 : 1 ≤ q := by rw [HQ.out]; exact need_pos _
        have hq2 : q ≤ 6000 := by
          have h1 := encB_small hgd.c
          have h2 := need_room (encB x.v).length
          rw [HQ.out]
          unfold needK
          omega
        obtain ⟨kx, HKX⟩ : ∃ kx : Int, Hid (kx = x.k) := ⟨_, Lib.hid rfl⟩
        rw [← HKX.out] at hxk
        clear hx hd hS hO hv hcx hwo hbo hBo hgd hr0
        go_wp2_with fail
        rw [← HW.out]
        refine HCX.out.mono ?_
        rintro e w6 ⟨y, rfl, hy, hb6⟩
        have hny := Need_any x.v y w6.heap.size w6 hy (Nat.le_refl _)
        rw [if_pos HGD.out.c, show need (encB x.v).length = q from HQ.out.symm] at hny
        have HNY := Lib.hid hny
        have HK6 : Hid (Blk w6 wr.heap.size 43 #[.int .i64 x.k, .int .i64 x.v.k, .int .i64 x.v.n, .string x.v.s, .slice A1 x.v.ns.length c1, .slice A5 x.v.ts.length c5]) := Lib.hid (HBO.out.below hb6 HBO.out.lt)
        have HB6 := Lib.hid (HBB.out.trans (hb6.mono HBB.out.size))
        clear hny hb6 hy q0 q1 q2 q3 q4 q5 HCX
        go_wp2_with fail
        refine HNY.out.mono ?_
        rintro e w7 ⟨rfl, hb7⟩
        have hk7 := HK6.out.below hb7 HK6.out.lt
        have z0 : w7.cell? ⟨wr.heap.size, 0, none⟩ = some (.int .i64 kx) := by rw [hk7.cell 0, HKX.out]; rfl
        have hb67 := HB6.out.trans (hb7.mono HB6.out.size)
        have HB7 : Hid (Below w.heap.size w w7 ∧ Below w3.heap.size w3 w7) := Lib.hid ⟨HBW.out.1.trans (hb67.mono HBW.out.1.size), HBW.out.2.trans (hb67.mono HBW.out.2.size)⟩
        clear hk7 hb7 hb67 HNY HK6 HB6 HBB HBO HW
        by_cases hfit : q ≤ lf
        · have hf2 : needK x ≤ p.left := by rw [← HQ.out, ← HLF.out]; exact hfit
          obtain ⟨g1, g2⟩ := in_at HGD.out HR0.out hf2 HS1.out
          rw [← HA.out, ← HQ.out, HPL.out] at g1
          rw [← HA.out, ← HKX.out] at g2
          have hrb := HRS.out w7 HB7.out.2
          obtain ⟨b1, off1, rfl, hb1, hcs⟩ := hrb.all (by rw [HPL.out]; omega)
          have c0 := hcs a (by rw [HPL.out]; omega)
          have c1 := hcs (a + 1) (by rw [HPL.out]; omega)
          have hu := hrb.1.nth a
          have hv := hrb.1.nth (a + 1)
          obtain ⟨u, hu2⟩ : ∃ u, u = nth PS a := ⟨_, rfl⟩
          obtain ⟨y2, hv2⟩ : ∃ y2, y2 = nth PS (a + 1) := ⟨_, rfl⟩
          rw [← hu2] at c0 hu g2
          rw [← hv2] at c1 hv g2
          have e1 : ((u : Int) * 256 + (y2 : Int) == kx + 1) = true := by simp; omega
          have e2 : ((u : Int) * 256 + (y2 : Int) != kx + 1) = false := by simp; omega
          have e3 : decide ((u : Int) * 256 + (y2 : Int) = kx + 1) = true := decide_eq_true (by omega)
          have e4 : decide (((8 * R : Nat) : Int) ≤ (a : Int) + 1) = false := decide_eq_false (by omega)
          have e5 : decide (8 * (R : Int) ≤ (a : Int) + 1) = false := decide_eq_false (by omega)
          have e6 : decide (8 * R ≤ a + 1) = false := decide_eq_false (by omega)
          have hp1 : (pkPut p x).left = lf - q := by rw [pkPut_in hf2, HLF.out, HQ.out]
          have hp2 : (pkPut p x).ov.length = o := by rw [pkPut_in hf2, HOV.out]
          have hp3 : (pkPut p x).sl.length = a + 8 * q := by rw [pkPut_in hf2, List.length_append, inB_len, HA.out, HQ.out]
          have HP := Lib.hid (And.intro hp1 (And.intro hp2 hp3))
          have HOK1 := Lib.hid (HOK.out.put HPE.out)
          have hfi : (q : Int) ≤ (lf : Int) := by omega
          have hq0 : ¬ (q : Int) < 1 := by omega
          clear hrb hcs hu2 hv2 hp1 hp2 hp3 hf2 g2
          go_wp2_with fail
          go_big_quiet (fail)
          go_wp2_with fail
          go_roundw
          case rel => exact ⟨k + 1, pkPut p x, by omega, by go_num, by rw [HP.out.1]; go_num, by rw [HP.out.2.1], by rw [HP.out.2.2]; go_num, HOK1, HRUN1, Lib.hid ⟨below_drewN HB7.out.1 nq, below_drewN HB7.out.2 nq⟩⟩
          case measure => simp [intOf]; omega
        · have hf2 : ¬ needK x ≤ p.left := by rw [← HQ.out, ← HLF.out]; exact hfit
          obtain ⟨g1, g2, g3⟩ := out_at HGD.out HR0.out hf2 HO1.out
          obtain ⟨d, HD⟩ : ∃ d, Hid (d = (encB x.v).length) := ⟨_, Lib.hid rfl⟩
          rw [← HOV.out, ← HD.out, ← HM.out] at g1
          rw [← HOV.out, ← HKX.out] at g2
          rw [← HOV.out, ← HD.out] at g3
          have hrb := HRO.out w7 HB7.out.2
          obtain ⟨b1, off1, rfl, hb1, hcs⟩ := hrb.all (by rw [← HM.out]; omega)
          have c0 := hcs o (by rw [← HM.out]; omega)
          have c1 := hcs (o + 1) (by rw [← HM.out]; omega)
          have c2 := hcs (o + 2) (by rw [← HM.out]; omega)
          have c3 := hcs (o + 3) (by rw [← HM.out]; omega)
          have hu := hrb.1.nth o
          have hv := hrb.1.nth (o + 1)
          have hs := hrb.1.nth (o + 2)
          have ht := hrb.1.nth (o + 3)
          obtain ⟨u, hu2⟩ : ∃ u, u = nth PO o := ⟨_, rfl⟩
          obtain ⟨y2, hv2⟩ : ∃ y2, y2 = nth PO (o + 1) := ⟨_, rfl⟩
          obtain ⟨s, hs2⟩ : ∃ s, s = nth PO (o + 2) := ⟨_, rfl⟩
          obtain ⟨t, ht2⟩ : ∃ t, t = nth PO (o + 3) := ⟨_, rfl⟩
          rw [← hu2] at c0 hu g2
          rw [← hv2] at c1 hv g2
          rw [← hs2] at c2 hs g3
          rw [← ht2] at c3 ht g3
          have e1 : ((u : Int) * 256 + (y2 : Int) == kx + 1) = true := by simp; omega
          have e2 : ((u : Int) * 256 + (y2 : Int) != kx + 1) = false := by simp; omega
          have e3 : decide ((u : Int) * 256 + (y2 : Int) = kx + 1) = true := decide_eq_true (by omega)
          have e4 : decide ((m : Int) - (o : Int) < 4) = false := decide_eq_false (by omega)
          have hp1 : (pkPut p x).left = lf := by rw [pkPut_out hf2, HLF.out]
          have hp2 : (pkPut p x).ov.length = o + (4 + d) := by rw [pkPut_out hf2, List.length_append, outB_len, HOV.out, HD.out]
          have hp3 : (pkPut p x).sl.length = a := by rw [pkPut_out hf2, HA.out]
          have HP := Lib.hid (And.intro hp1 (And.intro hp2 hp3))
          have HG3 := Lib.hid g3
          have HOK1 := Lib.hid (HOK.out.put HPE.out)
          have hfi : ¬ (q : Int) ≤ (lf : Int) := by omega
          have hq0 : ¬ (q : Int) < 1 := by omega
          clear hrb hcs hu2 hv2 hs2 ht2 hp1 hp2 hp3 hf2 g2 g3
          go_wp2_with fail
          go_big_quiet (fail)
          go_wp2_with fail
          go_quiet (fail)
          go_wp2_with fail
          go_roundw
          case rel => exact ⟨k + 1, pkPut p x, by omega, by go_num, by rw [HP.out.1], by rw [HP.out.2.1, ← HG3.out]; go_num, by rw [HP.out.2.2], HOK1, HRUN1, Lib.hid ⟨below_drewN HB7.out.1 _, below_drewN HB7.out.2 _⟩⟩
          case measure => simp [intOf]; omega
      · obtain rfl : k = n := by omega
        have hrun : pkRun (pk0 R) L = (p, 0) := by rw [HRUN.out, List.drop_of_length_le (by rw [← HN.out]; exact Nat.le_refl _)]; rfl
        have hS := HS.out
        have hO := HO.out
        rw [hrun] at hS hO
        have HZ : Hid (∀ j, a ≤ j → nth PS j = 0) := Lib.hid fun j hj => tail_zero hS (by rw [← HA.out]; exact hj)
        have hom : o = m := by rw [HOV.out, HM.out, hO]
        subst hom
        have HBX := Lib.hid HBW.out
        clear hrun hS hO
        go_wp2_with fail
        go_loopw [14] (fun i wq => ∃ j : Nat, a ≤ j ∧ j ≤ 8 * R ∧ i = .int .i64 j ∧ wq = wr) (fun i _ => 8 * R - (intOf i).toNat)
        case atStart => exact ⟨a, Nat.le_refl _, by omega, rfl, rfl⟩
        case round =>
          obtain ⟨j, hja, hj, rfl, rfl⟩ := hrel
          by_cases hjl : j < 8 * R
          · have hrb := HRS.out wr HBX.out.2
            obtain ⟨b1, off1, rfl, hb1, hcs⟩ := hrb.all (by rw [HPL.out]; omega)
            have c0 : wr.cell? ⟨b1, off1 + j, none⟩ = some (.int .u8 0) := by
              have h1 := hcs j (by rw [HPL.out]; omega)
              rw [HZ.out j hja] at h1
              exact h1
            have hji : (j : Int) < 8 * (R : Int) := by omega
            clear hrb hcs
            go_wp2_with fail
            go_roundw
            case rel => exact ⟨j + 1, by omega, by omega, by go_num, trivial⟩
            case measure => simp [intOf]; omega
          · obtain rfl : j = 8 * R := by omega
            have hji : ¬ (8 * (R : Int)) < 8 * (R : Int) := by omega
            go_wp2_with fail
            go_ret
            exact ⟨by simp, HBX.out.1⟩
  · have hbe : (E != 0) = true := by simpa using h0
    obtain ⟨g1, g2⟩ := pack_no (L := L) (room := room) (by rw [← HE.out]; exact h0)
    rw [← HPS.out] at g1
    rw [← HPO.out] at g2
    subst g1 g2
    clear h3 a1 a2 a3 b1 b2 b3 h0
    go_wp2
    go_ret
    exact ⟨rfl, HB3.out⟩

/-! ### THE ROW's STEP -/
theorem own : ownKnob Tryd.prog.godebug = none := by kernel_rfl
theorem laidOut : laidOutB Tryd.prog = true := by kernel_rfl

set_option maxRecDepth 100000 in
theorem contract (H : Type) (enc : TypeId × Value → H) (W : World) (base : Nat) (args : Array Value) (ds gs : List (DataW H)) (before : List MemPlace)
    (hval0 : ∀ (j : Nat) t v, Tryd.f7.params[j]? = some t → args[j]? = some v → Value.okWide Tryd.prog W .any base t v)
    (hW : DataW.Whole enc Tryd.prog Tryd.f7.params.toList Rows.slotsInlineSpec.vars false W args.toList ds gs before)
    (hsz : (DataW.weightsEach Tryd.prog (Tryd.f7.params.toList ++ (OpenSpec.ofChange Rows.slotsInlineSpec).bare.plain.varTypes Tryd.prog) (ds ++ gs)).all (· ≤ reachBytes) = true) (hL : laidMetH Tryd.prog Rows.slotsInlineRow.laid W) (hSh : W.ShapedOpen Tryd.prog) :
    Calls Tryd.prog 7 args W fun e W' => ∃ v, e = .returned v ∧ Rows.slotsInlineSpec.post enc Tryd.prog Tryd.f7 false true false false W args v W' := by
  have hval : ∀ (j : Nat) t v, Tryd.f7.params[j]? = some t → args[j]? = some v → Value.okWide Tryd.prog W .any base t v := hval0
  have hW' := hW
  obtain ⟨p, q, hA0, hV, rfl, hfz, hnd⟩ := hW
  have hA : DataW.TrodAll enc Tryd.prog W 0 (fun _ => true) true Tryd.f7.params.toList args.toList ds p := hA0
  rw [Tryd.params7] at hA hval
  obtain ⟨v0, vs0, d0, ds0, p0, q0, hargs, rfl, rfl, h0, r0⟩ := trodAll_cons hA
  obtain ⟨v1, vs1, d1, ds1, p1, q1, rfl, rfl, rfl, h1, r1⟩ := trodAll_cons r0
  obtain ⟨rfl, rfl, rfl⟩ := trodAll_nil r1
  obtain rfl : args = #[v0, v1] := by cases args; simp_all
  obtain ⟨rfl, rfl⟩ := trodVars_none hV
  have k0 := h0
  have lt0 : ∀ x ∈ p0, x.block < W.heap.size := by obtain ⟨m, hm⟩ := k0; exact DataW.trod_lt m _ _ _ hm
  have w0 := reach_at hsz (j := 0) rfl rfl
  have k1 := h1
  have lt1 : ∀ x ∈ p1, x.block < W.heap.size := by obtain ⟨m, hm⟩ := k1; exact DataW.trod_lt m _ _ _ hm
  have w1 := reach_at hsz (j := 1) rfl rfl
  clear hA0 hval0 hsz
  obtain ⟨A0, L0, c0, rfl, hx0⟩ := open_kvs (hval 0 _ v0 rfl rfl) w0 h0 lt0
  obtain ⟨a1, rfl, rfl, rfl, wf1⟩ := open_int Tryd.underlying3 (hval 1 3 v1 rfl rfl) h1
  refine (walk W hx0 (bounds_i64 wf1)).mono fun e W' ⟨he, bel⟩ => ?_
  subst he
  exact ⟨_, rfl, _, _, _, [], _, [], hW', trodAll_mk1 (shut_bool Tryd.underlying4 _), (trodAll_cons_mk (Below.trod laidOut (by kernel_rfl) (of_decide_eq_true (by kernel_rfl)) k0 bel lt0) (trodAll_cons_mk (Below.trod laidOut (by kernel_rfl) (of_decide_eq_true (by kernel_rfl)) k1 bel lt1) trodAll_mk0)), rfl, bel.frame _, fun h => by cases h⟩

theorem laid_met (os : Os) : laidMet Tryd.prog Rows.slotsInlineRow.laid ((laidWorld os).forCall (fun _ _ => 0) ⟨#[], #[.slice none 0 0, .int .i64 0], []⟩).memory :=
  laid_met0 os
theorem reads (os : Os) {H : Type} (enc : TypeId × Value → H) : ∃ places, DataW.whole enc Tryd.prog ((laidWorld os).forCall (fun _ _ => 0) ⟨#[], #[.slice none 0 0, .int .i64 0], []⟩).memory Tryd.f7.params.toList Rows.slotsInlineSpec.vars false (#[.slice none 0 0, .int .i64 0] : Array Value).toList 8 = some ([.nil, .lit (.int .i64 0)], [], places) :=
  ⟨[], by kernel_rfl⟩

set_option maxRecDepth 100000 in
theorem lifted (os : Os) (started : os.Started) (H : Type) (enc : TypeId × Value → H) (F : Stop.Interp) :
    ReturnsInHanded {} Tryd.checked os 7 .any ((OpenSpec.ofChange Rows.slotsInlineSpec).preRow enc Tryd.prog Tryd.f7 Rows.slotsInlineRow.domain false Rows.slotsInlineRow.laid) (((OpenSpec.ofChange Rows.slotsInlineSpec).at F).post enc Tryd.prog Tryd.f7 false true false false) := by
  obtain ⟨places, hx⟩ := reads os enc
  refine returnsInHanded_of_row (C := Tryd.checked) (s := (OpenSpec.ofChange Rows.slotsInlineSpec)) own started (by kernel_rfl) Tryd.func7
    (witness_row_at (enc := enc) (C := Tryd.checked) false (laidWorld os) #[.slice none 0 0, .int .i64 0] rfl (by kernel_rfl) (by kernel_rfl) (by kernel_rfl)
      (OpenSpec.preRow_of_cond 8 hx (by kernel_rfl) (fun k hk => by cases hk) (by kernel_rfl) (laid_met os))) ?_
  intro W base args ds gs before hval hW _ hcond hsz hL hSh _
  exact contract H enc W base args ds gs before hval hW hsz hL hSh

theorem said : Rows.SlotsInlineSaid :=
  OpenClaim.holds_of_cond 7 Tryd.f7 rfl rfl rfl rfl rfl rfl rfl ⟨rfl, rfl, rfl, rfl, rfl⟩ rfl rfl rfl rfl rfl (by kernel_rfl) Tryd.func7 (by kernel_rfl)
    (of_decide_eq_true (by kernel_rfl)) (by unfold Func.isWrapper; rw [if_neg (of_decide_eq_false (by kernel_rfl))]; exact ⟨rfl, rfl⟩)
    (fun os started H enc _ F => by rw [OpenClaim.pre_eq_preRow]; exact lifted os started H enc F)

theorem noStandIn : ∀ t ∈ ([30, 3] : List TypeId), Tryd.prog.wantsStandIn t = false := by
  intro t ht
  simp only [List.mem_cons, List.not_mem_nil, or_false] at ht
  rcases ht with rfl | rfl
  · exact (show Tryd.prog.wantsStandIn 30 = false by kernel_rfl)
  · exact (show Tryd.prog.wantsStandIn 3 = false by kernel_rfl)
theorem plain (f : FuncId) (fn : Func) (hf : Tryd.pinned.checked.prog.funcNamed "satchel/satchellaw16.SlotsInline" = some f) (hfn : Tryd.pinned.checked.prog.funcs[f]? = some fn) :
    false = Tryd.pinned.checked.prog.looks [] ∧ ∀ (j : Nat) t, fn.params[j]? = some t → Tryd.pinned.checked.prog.wantsStandIn t = false := by
  obtain rfl : f = 7 := Option.some.inj ((show Tryd.prog.funcNamed "satchel/satchellaw16.SlotsInline" = some 7 by kernel_rfl).symm.trans hf) |>.symm
  obtain rfl : fn = Tryd.f7 := (Option.some.inj (Tryd.func7.symm.trans hfn)).symm
  refine ⟨by kernel_rfl, fun j t ht => ?_⟩
  rw [Tryd.params7] at ht
  exact noStandIn t (by simpa using Array.mem_of_getElem? ht)

/-- THE CARD -/
theorem proved : Rows.SlotsInlineCardSaid :=
  Claim7.holds_tied_plain_at .later [] _ _ _ _ said (fun _ h => by cases h) (by kernel_rfl) (fun _ h => by cases h) slotsInline_row_tie rfl ⟨rfl, rfl⟩ (by kernel_rfl) rfl plain (by kernel_rfl)
end Go.Proofs.YtgpahglmhnnobaaDoor.slotsInline

/- slots: what the law asks of the program first. -/
import Derived.Test.YtgpahglmhnnobaaGreatDoorSlUnp
import Derived.Test.YtgpahglmhnnobaaGreatDoorSlThere
import Derived.Test.YtgpahglmhnnobaaGreatDoorSlSame
import Derived.KernelRfl
namespace Go.Proofs.YtgpahglmhnnobaaGreatDoor
open Go.RowKit
set_option linter.unusedVariables false
set_option linter.unusedSimpArgs false

theorem St.litB {S : Fp} {l : List Ass} {w0 w : World} [Stable (Sep l)] (h : St S l w0 w) (e : TypeId) (L : List Nat) (hL : IsBytes L) (n : Nat) (hn : L.length = n) (hm : n ≤ maxLen) (cs : Array Value) (hcs : cs.toList = cells8 L) (N : Nat) (hN : w.heap.size = N) :
    St S (ObA e (.slice (some ⟨N, 0, none⟩) n n) L :: l) w0 (w.alloc (.cells cs e)) := by
  subst hN hn
  have hl : cs.size = L.length * 1 := by rw [← Array.length_toList, hcs, cells8_length, Nat.mul_one]
  have ho := World.ownsRow_lit (base := w.heap.size) (e := e) (size := 1) w cs L.length (Nat.le_refl _) hm hl
  rw [hcs] at ho
  exact h.newOb ⟨hL, ho⟩ ((Below.refl _ _).alloc (Nat.le_refl _) _)
theorem St.obForm {S : Fp} {l : List Ass} {w0 w : World} {e : TypeId} {v : Value} {bs : List Nat} {n : Nat} (h : St S (ObA e v bs :: l) w0 w) (hn : bs.length = n) : ∃ A c, v = .slice A n c ∧ n ≤ c ∧ c ≤ maxLen ∧ RB w w.heap.size A bs := by
  subst hn
  obtain ⟨A, c, hv, h1, h2, h3, -⟩ := h.ob.form
  exact ⟨A, c, hv, h1, h2, h3⟩
def strAP : ByteArray := ⟨#[97, 98, 99, 100, 101, 102, 103, 104, 105, 106, 107, 108, 109, 110, 111, 112]⟩
def kv0 : Kv := ⟨0, ⟨2, 258, ⟨#[]⟩, [], []⟩⟩
def kv1 : Kv := ⟨1, ⟨4, 0, strAP, [], []⟩⟩
def kv2 : Kv := ⟨2, ⟨1, 1, ⟨#[]⟩, [], []⟩⟩
def L3 : List Kv := [kv0, kv1, kv2]
def sS : List Nat := [0, 1, 2, 0, 0, 0, 0, 0, 0, 1, 2, 0, 0, 0, 0, 0, 0, 3, 1, 1, 0, 0, 0, 0, 0, 0, 0, 0, 0, 0, 0, 0]
def sO : List Nat := [0, 2, 0, 19, 4, 0, 16, 97, 98, 99, 100, 101, 102, 103, 104, 105, 106, 107, 108, 109, 110, 111, 112]
theorem s_err : packE L3 4 = 0 := by kernel_rfl
theorem s_sl : packS L3 4 = sS := by kernel_rfl
theorem s_ov : packO L3 4 = sO := by kernel_rfl
theorem sS_len : sS.length = 32 := rfl
theorem sO_len : sO.length = 23 := rfl
theorem s_need : need (encB kv1.v).length = 3 := by kernel_rfl
theorem s_chk : chk kv1.v = 0 := by kernel_rfl
theorem vok_s {k n : Int} {s : ByteArray} (h1 : -9223372036854775808 ≤ k) (h2 : k ≤ 9223372036854775807) (h3 : -9223372036854775808 ≤ n) (h4 : n ≤ 9223372036854775807) (hs : s.size ≤ 140737488351232) : Vok ⟨k, n, s, [], []⟩ :=
  ⟨h1, h2, h3, h4, hs, (fun x h => by cases h), (by simp), (fun x h => by cases h), (by simp)⟩
theorem L3_vok : ∀ x ∈ L3, Vok x.v := by
  intro x hx
  simp only [L3, List.mem_cons, List.not_mem_nil, or_false] at hx
  rcases hx with rfl | rfl | rfl
  · exact vok_s (by decide) (by decide) (by decide) (by decide) (by decide)
  · exact vok_s (by decide) (by decide) (by decide) (by decide) (by decide)
  · exact vok_s (by decide) (by decide) (by decide) (by decide) (by decide)
def cs18 : Array Value := #[.int .i64 0, .int .i64 2, .int .i64 258, .string ⟨#[]⟩, .slice none 0 0, .slice none 0 0, .int .i64 1, .int .i64 4, .int .i64 0, .string strAP, .slice none 0 0, .slice none 0 0, .int .i64 2, .int .i64 1, .int .i64 1, .string ⟨#[]⟩, .slice none 0 0, .slice none 0 0]
theorem L3_at {w : World} {g : Nat} (h : Blk w g 44 cs18) : KvsR w w.heap.size (some ⟨g, 0, none⟩) L3 := by
  have one : ∀ (k : Nat) (x : Kv), Vok x.v → i64ok x.k → x.v.ns = [] → x.v.ts = [] → (∀ i u, (kcells x none 0 none 0)[i]? = some u → cs18[0 + k * 6 + i]? = some u) → KvAt w w.heap.size g (0 + k * 6) x := by
    intro k x hv hk hn ht hc
    refine ⟨none, 0, none, 0, fun i u hu => ?_, by rw [hn]; exact RL.empty _ _ _ _, by rw [ht]; exact RL.empty _ _ _ _, hv, hk⟩
    rw [h.cell]
    exact hc i u hu
  intro k x hx
  refine ⟨g, 0, rfl, h.lt, ?_⟩
  have hlt := (List.getElem?_eq_some_iff.1 hx).1
  have hl : L3.length = 3 := rfl
  have six : ∀ (x : Kv) (k : Nat), (cs18[0 + k * 6 + 0]? = (kcells x none 0 none 0)[0]? ∧ cs18[0 + k * 6 + 1]? = (kcells x none 0 none 0)[1]? ∧ cs18[0 + k * 6 + 2]? = (kcells x none 0 none 0)[2]? ∧ cs18[0 + k * 6 + 3]? = (kcells x none 0 none 0)[3]? ∧ cs18[0 + k * 6 + 4]? = (kcells x none 0 none 0)[4]? ∧ cs18[0 + k * 6 + 5]? = (kcells x none 0 none 0)[5]?) → ∀ i u, (kcells x none 0 none 0)[i]? = some u → cs18[0 + k * 6 + i]? = some u := by
    rintro x k ⟨h0, h1, h2, h3, h4, h5⟩ i u hu
    have hi : i < 6 := (Array.getElem?_eq_some_iff.1 hu).1
    match i, hi with
    | 0, _ => rw [h0]; exact hu
    | 1, _ => rw [h1]; exact hu
    | 2, _ => rw [h2]; exact hu
    | 3, _ => rw [h3]; exact hu
    | 4, _ => rw [h4]; exact hu
    | 5, _ => rw [h5]; exact hu
  match k, (by omega : k < 3) with
  | 0, _ =>
    obtain rfl : kv0 = x := Option.some.inj hx
    exact one 0 kv0 (L3_vok kv0 (by simp [L3])) ⟨by decide, by decide⟩ rfl rfl (six kv0 0 ⟨rfl, rfl, rfl, rfl, rfl, rfl⟩)
  | 1, _ =>
    obtain rfl : kv1 = x := Option.some.inj hx
    exact one 1 kv1 (L3_vok kv1 (by simp [L3])) ⟨by decide, by decide⟩ rfl rfl (six kv1 1 ⟨rfl, rfl, rfl, rfl, rfl, rfl⟩)
  | 2, _ =>
    obtain rfl : kv2 = x := Option.some.inj hx
    exact one 2 kv2 (L3_vok kv2 (by simp [L3])) ⟨by decide, by decide⟩ rfl rfl (six kv2 2 ⟨rfl, rfl, rfl, rfl, rfl, rfl⟩)
set_option maxRecDepth 100000 in
set_option maxHeartbeats 2000000 in
theorem speaks16_any (w : World) : Calls Tryz.prog 6 #[] w fun e w' => e = .returned (.bool true) ∧ Below w.heap.size w w' := by
  have h0 := (St.start Zf w).newBlk 44 cs18
  have hP := Pack_any (some ⟨w.heap.size, 0, none⟩) 3 _ L3 4 _ (L3_at h0.blk) (Nat.le_refl _) (by decide)
  unfold PackW at hP
  rw [s_err, s_sl, s_ov] at hP
  have HP := Lib.hid hP
  have H0 := Lib.hid h0
  clear h0 hP
  obtain ⟨ap, hap⟩ : ∃ ap, ap = strAP := ⟨_, rfl⟩
  go_enter Tryz.func6, Tryz.ntmps6
  go_wp2_with fail
  refine HP.out.mono ?_
  rintro e w1 ⟨v, v', rfl, h1⟩
  have h2 : St Zf [ObA 5 v sS, ObA 5 v' sO, BlkA w.heap.size 44 cs18] w w1 := H0.out.addSts h1
  obtain ⟨A1, c1, rfl, hc1, hm1, hr1⟩ := h2.obForm sS_len
  obtain ⟨A2, c2, rfl, hc2, hm2, hr2⟩ := h2.drop.obForm sO_len
  have H1 := Lib.hid h2
  clear h1 h2 HP H0
  obtain ⟨b1, o1, rfl, -, -⟩ := hr1.all (by rw [sS_len]; decide)
  obtain ⟨b2, o2, rfl, -, -⟩ := hr2.all (by rw [sO_len]; decide)
  have k1 : (32 : Int) ≤ (c1 : Int) := by omega
  have k2 : (23 : Int) ≤ (c2 : Int) := by omega
  have HR : Hid (∀ w', Below w1.heap.size w1 w' → RB w' w1.heap.size (some ⟨b1, o1, none⟩) sS ∧ RB w' w1.heap.size (some ⟨b2, o2, none⟩) sO) := Lib.hid fun w' hb => ⟨hr1.below' hb (Nat.le_refl _), hr2.below' hb (Nat.le_refl _)⟩
  have HCM : Hid (32 ≤ c1 ∧ c1 ≤ maxLen ∧ 23 ≤ c2 ∧ c2 ≤ maxLen) := Lib.hid ⟨hc1, hm1, hc2, hm2⟩
  have HB1 := Lib.hid (Below.refl w1.heap.size w1)
  clear hr1 hr2
  have q1 := (HR.out w1 HB1.out).1.cut rfl 0 11 (by rw [sS_len]; decide) (by decide)
  have q1b : RB w1 w1.heap.size (some ⟨b1, o1, none⟩) [0, 1, 2, 0, 0, 0, 0, 0, 0, 1, 2] := q1
  have l1 := RB.lit w1 5 (bs := [0, 1, 2, 0, 0, 0, 0, 0, 0, 1, 2]) (by unfold IsBytes; decide) #[.int .u8 0, .int .u8 1, .int .u8 2, .int .u8 0, .int .u8 0, .int .u8 0, .int .u8 0, .int .u8 0, .int .u8 0, .int .u8 1, .int .u8 2] rfl
  have HS1 := Lib.hid (same_yes (some ⟨b1, o1, none⟩) _ 11 (c1) 11 _ _ _ _ (q1b.alloc HB1.out.size (.cells #[.int .u8 0, .int .u8 1, .int .u8 2, .int .u8 0, .int .u8 0, .int .u8 0, .int .u8 0, .int .u8 0, .int .u8 0, .int .u8 1, .int .u8 2] 5)) l1 rfl (by decide))
  have HBA1 := Lib.hid (HB1.out.alloc HB1.out.size (.cells #[.int .u8 0, .int .u8 1, .int .u8 2, .int .u8 0, .int .u8 0, .int .u8 0, .int .u8 0, .int .u8 0, .int .u8 0, .int .u8 1, .int .u8 2] 5))
  clear q1 q1b l1
  go_wp2_with fail
  refine HS1.out.mono ?_
  rintro e w10 ⟨rfl, n1, hw1⟩
  have HB2 : Hid (Below w1.heap.size w1 w10) := Lib.hid (by rw [hw1]; exact below_drewN HBA1.out _)
  clear hw1 HS1 HBA1
  go_wp2_with fail
  have q2 := (HR.out w10 HB2.out).1.cut rfl 16 20 (by rw [sS_len]; decide) (by decide)
  have q2b : RB w10 w1.heap.size (some ⟨b1, o1 + 16, none⟩) [0, 3, 1, 1] := q2
  have l2 := RB.lit w10 5 (bs := [0, 3, 1, 1]) (by unfold IsBytes; decide) #[.int .u8 0, .int .u8 3, .int .u8 1, .int .u8 1] rfl
  have HS2 := Lib.hid (same_yes (some ⟨b1, o1 + 16, none⟩) _ 4 (c1 - 16) 4 _ _ _ _ (q2b.alloc HB2.out.size (.cells #[.int .u8 0, .int .u8 3, .int .u8 1, .int .u8 1] 5)) l2 rfl (by decide))
  have HBA2 := Lib.hid (HB2.out.alloc HB2.out.size (.cells #[.int .u8 0, .int .u8 3, .int .u8 1, .int .u8 1] 5))
  clear q2 q2b l2
  refine HS2.out.mono ?_
  rintro e w20 ⟨rfl, n2, hw2⟩
  have HB3 : Hid (Below w1.heap.size w1 w20) := Lib.hid (by rw [hw2]; exact below_drewN HBA2.out _)
  clear hw2 HS2 HBA2
  go_wp2_with fail
  have q3 := (HR.out w20 HB3.out).2.cut rfl 0 8 (by rw [sO_len]; decide) (by decide)
  have q3b : RB w20 w1.heap.size (some ⟨b2, o2, none⟩) [0, 2, 0, 19, 4, 0, 16, 97] := q3
  have l3 := RB.lit w20 5 (bs := [0, 2, 0, 19, 4, 0, 16, 97]) (by unfold IsBytes; decide) #[.int .u8 0, .int .u8 2, .int .u8 0, .int .u8 19, .int .u8 4, .int .u8 0, .int .u8 16, .int .u8 97] rfl
  have HS3 := Lib.hid (same_yes (some ⟨b2, o2, none⟩) _ 8 (c2) 8 _ _ _ _ (q3b.alloc HB3.out.size (.cells #[.int .u8 0, .int .u8 2, .int .u8 0, .int .u8 19, .int .u8 4, .int .u8 0, .int .u8 16, .int .u8 97] 5)) l3 rfl (by decide))
  have HBA3 := Lib.hid (HB3.out.alloc HB3.out.size (.cells #[.int .u8 0, .int .u8 2, .int .u8 0, .int .u8 19, .int .u8 4, .int .u8 0, .int .u8 16, .int .u8 97] 5))
  clear q3 q3b l3
  refine HS3.out.mono ?_
  rintro e w30 ⟨rfl, n3, hw3⟩
  have HB4 : Hid (Below w1.heap.size w1 w30) := Lib.hid (by rw [hw3]; exact below_drewN HBA3.out _)
  clear hw3 HS3 HBA3
  go_wp2_with fail
  have hu := Unpack_any (cs := c1) (co := c2) w30 (HR.out w30 HB4.out).1 (HR.out w30 HB4.out).2 HB4.out.size (by rw [sS_len]; exact HCM.out.1) HCM.out.2.1 (by rw [sO_len]; decide)
  rw [show unpR sS sO = (0, L3) by rw [← s_sl, ← s_ov]; exact unp_there s_err L3_vok] at hu
  unfold UnpW at hu
  refine hu.mono ?_
  rintro e w4 ⟨vq, X, rfl, h4, hX, hok⟩
  have hXl : X.length = 3 := by have := congrArg List.length hX; simpa [L3] using this
  obtain ⟨A3, c3, rfl⟩ := kx_form h4
  obtain ⟨-, hq⟩ := h4.kxR hok
  rw [show X.map (·.1) = L3 from hX] at hq
  rw [hXl]
  have hb4 : Below w1.heap.size w1 w4 := HB4.out.trans (h4.bel.mono HB4.out.size)
  have hst := H1.out.below hb4
  have hS := refSameKv_yes (some ⟨w.heap.size, 0, none⟩) A3 3 c3 w4.heap.size L3 w4 (L3_at hst.drop.drop.blk) hq (Nat.le_refl _) (by decide)
  have HSM := Lib.hid hS
  have H4 := Lib.hid hst
  clear hu h4 hX hok hXl hq hb4 hst hS H1
  go_wp2_with fail
  refine HSM.out.mono ?_
  rintro e w5 ⟨rfl, hb5⟩
  have hst := H4.out.below hb5
  have hbk := hst.drop.drop.blk
  have y0 : w5.cell? ⟨w.heap.size, 7, none⟩ = some (.int .i64 4) := by rw [hbk.cell 7]; rfl
  have y1 : w5.cell? ⟨w.heap.size, 8, none⟩ = some (.int .i64 0) := by rw [hbk.cell 8]; rfl
  have y2 : w5.cell? ⟨w.heap.size, 9, none⟩ = some (.string strAP) := by rw [hbk.cell 9]; rfl
  have y3 : w5.cell? ⟨w.heap.size, 10, none⟩ = some (.slice none 0 0) := by rw [hbk.cell 10]; rfl
  have y4 : w5.cell? ⟨w.heap.size, 11, none⟩ = some (.slice none 0 0) := by rw [hbk.cell 11]; rfl
  have hN := Need_any kv1.v (vagg kv1.v none 0 none 0) 0 w5 ⟨none, 0, none, 0, rfl, RL.empty _ _ _ _, RL.empty _ _ _ _, L3_vok kv1 (by simp [L3])⟩ (Nat.zero_le _)
  rw [if_pos s_chk, s_need] at hN
  have HN := Lib.hid hN
  have H5 := Lib.hid hst
  clear hbk hst hN HSM H4 hb5
  go_wp2_with fail
  refine HN.out.mono ?_
  rintro e w6 ⟨rfl, hb6⟩
  have H6 := Lib.hid (H5.out.below hb6)
  clear hb6 HN H5
  go_wp2
  go_ret
  exact ⟨rfl, H6.out.bel⟩
end Go.Proofs.YtgpahglmhnnobaaGreatDoor

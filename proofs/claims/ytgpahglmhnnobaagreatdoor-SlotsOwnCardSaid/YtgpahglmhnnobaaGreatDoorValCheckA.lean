/- Check of the program and of the document: both tell the first thing that is wrong with a value. -/
import Derived.Test.YtgpahglmhnnobaaGreatDoorValChk
import Derived.RegionTactic
import Derived.LoopTactic
namespace Go.Proofs.YtgpahglmhnnobaaGreatDoor
open Go.RowKit
set_option linter.unusedVariables false

/-- a value -/
structure Vv where
  k : Int
  n : Int
  s : ByteArray
  ns : List Int
  ts : List ByteArray
/-- what of it is in reach -/
structure Vok (v : Vv) : Prop where
  k1 : -9223372036854775808 ≤ v.k
  k2 : v.k ≤ 9223372036854775807
  n1 : -9223372036854775808 ≤ v.n
  n2 : v.n ≤ 9223372036854775807
  s1 : v.s.size ≤ 140737488351232
  ns1 : ∀ x ∈ v.ns, -9223372036854775808 ≤ x ∧ x ≤ 9223372036854775807
  ns2 : v.ns.length * 8 ≤ 140737488351232
  ts1 : ∀ x ∈ v.ts, x.size ≤ 140737488351232
  ts2 : v.ts.length * 16 ≤ 140737488351232
def vagg (v : Vv) (A : Option Addr) (c : Nat) (A' : Option Addr) (c' : Nat) : Value := .agg #[.int .i64 v.k, .int .i64 v.n, .string v.s, .slice A v.ns.length c, .slice A' v.ts.length c']
/-- x reads as v; its lists lie below block B -/
def VR (w : World) (B : Nat) (v : Vv) (x : Value) : Prop := ∃ A c A' c', x = vagg v A c A' c' ∧ RL ivl w B A v.ns ∧ RL svl w B A' v.ts ∧ Vok v
section
variable {w w' : World} {B B' : Nat} {v : Vv} {x : Value}
theorem VR.ok (h : VR w B v x) : Vok v := by obtain ⟨_, _, _, _, _, _, _, h⟩ := h; exact h
theorem VR.below (h : VR w B v x) (hb : Below B w w') : VR w' B v x := by
  obtain ⟨A, c, A', c', e, h1, h2, h3⟩ := h; exact ⟨A, c, A', c', e, h1.below hb, h2.below hb, h3⟩
theorem VR.more (h : VR w B v x) (hB : B ≤ B') : VR w B' v x := by
  obtain ⟨A, c, A', c', e, h1, h2, h3⟩ := h; exact ⟨A, c, A', c', e, h1.more hB, h2.more hB, h3⟩
theorem VR.alloc (h : VR w B v x) (hB : B ≤ w.heap.size) (o : Obj) : VR (w.alloc o) B v x := by
  obtain ⟨A, c, A', c', e, h1, h2, h3⟩ := h; exact ⟨A, c, A', c', e, h1.alloc hB o, h2.alloc hB o, h3⟩
theorem VR.drewN (h : VR w B v x) (n : Nat) : VR (w.drewN n) B v x := h
end

/-! ### the elements -/
def numsOf (v : Vv) : List Int := if 4 < v.k then v.ns else if v.k = 4 then [] else [v.n]
def txtsOf (v : Vv) : List ByteArray := if 4 < v.k then v.ts else if v.k = 4 then [v.s] else []
theorem numsOf_list {v : Vv} (h : 4 < v.k) : numsOf v = v.ns := if_pos h
theorem numsOf_text {v : Vv} (h : v.k = 4) : numsOf v = [] := by unfold numsOf; rw [if_neg (by omega), if_pos h]
theorem numsOf_num {v : Vv} (h : v.k < 4) : numsOf v = [v.n] := by unfold numsOf; rw [if_neg (by omega), if_neg (by omega)]
theorem txtsOf_list {v : Vv} (h : 4 < v.k) : txtsOf v = v.ts := if_pos h
theorem txtsOf_text {v : Vv} (h : v.k = 4) : txtsOf v = [v.s] := by unfold txtsOf; rw [if_neg (by omega), if_pos h]
theorem txtsOf_num {v : Vv} (h : v.k < 4) : txtsOf v = [] := by unfold txtsOf; rw [if_neg (by omega), if_neg (by omega)]
theorem numsOf_ok {v : Vv} (h : Vok v) : (∀ x ∈ numsOf v, -9223372036854775808 ≤ x ∧ x ≤ 9223372036854775807) ∧ (numsOf v).length ≤ 17592186043905 := by
  have h1 := h.ns1
  have h2 := h.ns2
  rcases (show 4 < v.k ∨ v.k = 4 ∨ v.k < 4 by omega) with hk | hk | hk
  · rw [numsOf_list hk]; exact ⟨h1, by omega⟩
  · rw [numsOf_text hk]; simp
  · rw [numsOf_num hk]; simp; exact ⟨h.n1, h.n2⟩
theorem txtsOf_ok {v : Vv} (h : Vok v) : (∀ x ∈ txtsOf v, x.size ≤ 140737488351232) ∧ (txtsOf v).length ≤ 17592186043905 := by
  have h1 := h.ts1
  have h2 := h.ts2
  rcases (show 4 < v.k ∨ v.k = 4 ∨ v.k < 4 by omega) with hk | hk | hk
  · rw [txtsOf_list hk]; exact ⟨h1, by omega⟩
  · rw [txtsOf_text hk]; simp; exact h.s1
  · rw [txtsOf_num hk]; simp

/-- a slice that reads as L, made or handed on -/
def Gave {α : Type} (f : α → Value) (L : List α) (B : Nat) (w : World) (e : Ending) (w' : World) : Prop := ∃ A c, e = .returned (.slice A L.length c) ∧ RL f w' w'.heap.size A L ∧ (0 < L.length → ∃ a, A = some a ∧ (a.block < B ∨ w.heap.size ≤ a.block)) ∧ Below w.heap.size w w'

set_option maxHeartbeats 1000000 in
theorem numbers_any (v : Vv) (x : Value) (B : Nat) (w : World) (h : VR w B v x) (hB : B ≤ w.heap.size) :
    Calls Tryz.prog 64 #[x] w (Gave ivl (numsOf v) B w) := by
  obtain ⟨A, c, A', c', rfl, h1, h2, h3⟩ := h
  have hx1 : Hid (∀ o, Gave ivl v.ns B w (.returned (.slice A v.ns.length c)) (w.alloc o)) := Lib.hid fun o => ⟨A, c, rfl, (h1.alloc hB o).more (by simp; omega), (fun hp => by obtain ⟨b, off, e, hb, _⟩ := h1.all hp; exact ⟨_, e, .inl hb⟩), (Below.refl _ _).alloc (Nat.le_refl _) _⟩
  have hx2 : Hid (∀ o, Gave ivl [] B w (.returned (.slice none 0 0)) (w.alloc o)) := Lib.hid fun o => ⟨none, 0, rfl, RL.empty _ _ _ _, (fun hp => absurd hp (by simp)), (Below.refl _ _).alloc (Nat.le_refl _) _⟩
  have hx3 : Hid (∀ o, Gave ivl [v.n] B w (.returned (.slice (some ⟨(w.alloc o).heap.size, 0, none⟩) 1 1)) ((w.alloc o).alloc (.cells #[.int .i64 v.n] 2))) := Lib.hid fun o => ⟨_, 1, rfl, (RL.oneI (w.alloc o) 2 v.n).more (by simp), (fun _ => ⟨_, rfl, .inr (by simp)⟩), ((Below.refl _ _).alloc (Nat.le_refl _) _).alloc (by simp) _⟩
  rcases (show 4 < v.k ∨ v.k = 4 ∨ v.k < 4 by omega) with hk | hk | hk
  · rw [numsOf_list hk]
    unfold vagg
    obtain ⟨k, n, s, ns, ts⟩ := v
    simp only at hk hx1
    clear h1 h2 h3 hx2 hx3
    go_enter Tryz.func64, Tryz.ntmps64
    go_wp2_with (go_at_call 63; refine (isList_yes hk _).mono ?_; rintro e w' ⟨rfl, rfl⟩)
    go_ret
    exact hx1.out _
  · rw [numsOf_text hk]
    unfold vagg
    obtain ⟨k, n, s, ns, ts⟩ := v
    simp only at hk
    subst hk
    clear h1 h2 h3 hx1 hx3
    go_enter Tryz.func64, Tryz.ntmps64
    go_wp2_with (go_at_call 63; refine (isList_no (by decide) _).mono ?_; rintro e w' ⟨rfl, rfl⟩)
    go_ret
    exact hx2.out _
  · rw [numsOf_num hk]
    unfold vagg
    obtain ⟨k, n, s, ns, ts⟩ := v
    simp only at hk hx3
    have hb : (k == 4) = false := by simp; omega
    clear h1 h2 h3 hx1 hx2
    go_enter Tryz.func64, Tryz.ntmps64
    go_wp2_with (go_at_call 63; refine (isList_no (by omega) _).mono ?_; rintro e w' ⟨rfl, rfl⟩)
    go_ret
    have := hx3.out (.cells #[.int .i64 k, .int .i64 n, .string s, .slice A ns.length c, .slice A' ts.length c'] 42)
    simpa using this

set_option maxHeartbeats 1000000 in
theorem texts_any (v : Vv) (x : Value) (B : Nat) (w : World) (h : VR w B v x) (hB : B ≤ w.heap.size) :
    Calls Tryz.prog 67 #[x] w (Gave svl (txtsOf v) B w) := by
  obtain ⟨A, c, A', c', rfl, h1, h2, h3⟩ := h
  have hx1 : Hid (∀ o, Gave svl v.ts B w (.returned (.slice A' v.ts.length c')) (w.alloc o)) := Lib.hid fun o => ⟨A', c', rfl, (h2.alloc hB o).more (by simp; omega), (fun hp => by obtain ⟨b, off, e, hb, _⟩ := h2.all hp; exact ⟨_, e, .inl hb⟩), (Below.refl _ _).alloc (Nat.le_refl _) _⟩
  have hx2 : Hid (∀ o, Gave svl [] B w (.returned (.slice none 0 0)) (w.alloc o)) := Lib.hid fun o => ⟨none, 0, rfl, RL.empty _ _ _ _, (fun hp => absurd hp (by simp)), (Below.refl _ _).alloc (Nat.le_refl _) _⟩
  have hx3 : Hid (∀ o, Gave svl [v.s] B w (.returned (.slice (some ⟨(w.alloc o).heap.size, 0, none⟩) 1 1)) ((w.alloc o).alloc (.cells #[.string v.s] 9))) := Lib.hid fun o => ⟨_, 1, rfl, (RL.oneS (w.alloc o) 9 v.s).more (by simp), (fun _ => ⟨_, rfl, .inr (by simp)⟩), ((Below.refl _ _).alloc (Nat.le_refl _) _).alloc (by simp) _⟩
  rcases (show 4 < v.k ∨ v.k = 4 ∨ v.k < 4 by omega) with hk | hk | hk
  · rw [txtsOf_list hk]
    unfold vagg
    obtain ⟨k, n, s, ns, ts⟩ := v
    simp only at hk hx1
    clear h1 h2 h3 hx2 hx3
    go_enter Tryz.func67, Tryz.ntmps67
    go_wp2_with (go_at_call 63; refine (isList_yes hk _).mono ?_; rintro e w' ⟨rfl, rfl⟩)
    go_ret
    exact hx1.out _
  · rw [txtsOf_text hk]
    unfold vagg
    obtain ⟨k, n, s, ns, ts⟩ := v
    simp only at hk hx3
    subst hk
    clear h1 h2 h3 hx1 hx2
    go_enter Tryz.func67, Tryz.ntmps67
    go_wp2_with (go_at_call 63; refine (isList_no (by decide) _).mono ?_; rintro e w' ⟨rfl, rfl⟩)
    go_ret
    have := hx3.out (.cells #[.int .i64 4, .int .i64 n, .string s, .slice A ns.length c, .slice A' ts.length c'] 42)
    simpa using this
  · rw [txtsOf_num hk]
    unfold vagg
    obtain ⟨k, n, s, ns, ts⟩ := v
    simp only at hk
    have hb : (k == 4) = false := by simp; omega
    clear h1 h2 h3 hx1 hx3
    go_enter Tryz.func67, Tryz.ntmps67
    go_wp2_with (go_at_call 63; refine (isList_no (by omega) _).mono ?_; rintro e w' ⟨rfl, rfl⟩)
    go_ret
    exact hx2.out _

/-! ### the fields -/
def ownB (v : Vv) : Bool := decide ((3 < v.k → v.n = 0) ∧ (v.k ≠ 4 → v.s.toList = []) ∧ ((v.k < 5 ∨ v.k = 8) → v.ns = []) ∧ (v.k ≠ 8 → v.ts = []))
set_option maxRecDepth 100000 in
set_option maxHeartbeats 1000000 in
theorem uses_any (v : Vv) (x : Value) (B : Nat) (w : World) (h : VR w B v x) (hk1 : 1 ≤ v.k) (hk2 : v.k ≤ 8) :
    Calls Tryz.prog 86 #[x] w fun e w' => e = .returned (.bool (ownB v)) ∧ Below w.heap.size w w' := by
  obtain ⟨A, c, A', c', rfl, h1, h2, h3⟩ := h
  have hn := h3.ns2
  have ht := h3.ts2
  have hs := h3.s1
  unfold vagg ownB
  obtain ⟨k, n, s, ns, ts⟩ := v
  simp only at hn ht hs hk1 hk2
  clear h1 h2 h3
  go_enter Tryz.func86, Tryz.ntmps86
  go_wp2
  go_quiet (fail)
  go_wp2
  all_goals (go_ret; refine ⟨ret_bool ?_, ?_⟩)
  all_goals first
    | exact below_drewN ((Below.refl _ _).alloc (Nat.le_refl _) _) _
    | skip
  all_goals (clear hs hn ht; grind)

/-! ### the elements' errors -/
def txtW (s : ByteArray) : Int := if 1000 < s.size then 44 else 0
def el (v : Vv) : Int := if fe (numW (elK v.k)) (numsOf v) = 0 then fe txtW (txtsOf v) else fe (numW (elK v.k)) (numsOf v)
theorem el_num {v : Vv} (h : fe (numW (elK v.k)) (numsOf v) ≠ 0) : el v = fe (numW (elK v.k)) (numsOf v) := if_neg h
theorem el_txt {v : Vv} (h : fe (numW (elK v.k)) (numsOf v) = 0) : el v = fe txtW (txtsOf v) := if_pos h
theorem feI_step {f : Int → Int} {L : List Int} {k : Nat} (hk : k < L.length) (h0 : fe f (L.take k) = 0) : fe f (L.take (k + 1)) = f (nthI L k) := by
  rw [takeI_succ hk, fe_append, if_pos h0]; simp [fe]; exact fun h => h.symm
theorem feS_step {f : ByteArray → Int} {L : List ByteArray} {k : Nat} (hk : k < L.length) (h0 : fe f (L.take k) = 0) : fe f (L.take (k + 1)) = f (nthS L k) := by
  rw [takeS_succ hk, fe_append, if_pos h0]; simp [fe]; exact fun h => h.symm

end Go.Proofs.YtgpahglmhnnobaaGreatDoor

/- Check of the program and of the document, whole. -/
namespace Go.Proofs.YtgpahglmhnnobaaGreatDoor
open Go.RowKit
set_option linter.unusedVariables false

set_option maxRecDepth 100000 in
set_option maxHeartbeats 1000000 in
theorem checkElements_any (v : Vv) (x : Value) (B : Nat) (w : World) (h : VR w B v x) (hB : B ≤ w.heap.size) (hk1 : 1 ≤ v.k) (hk2 : v.k ≤ 8) :
    Calls Tryz.prog 88 #[x] w fun e w' => e = .returned (.int .i64 (el v)) ∧ Below w.heap.size w w' := by
  obtain ⟨A, c, A', c', rfl, h1, h2, h3⟩ := h
  have hN := numsOf_ok h3
  have hT := txtsOf_ok h3
  have HE1 := Lib.hid (@el_num v)
  have HE2 := Lib.hid (@el_txt v)
  obtain ⟨k, n, s, ns, ts⟩ := v
  simp only at hk1 hk2
  have hV : VR w B ⟨k, n, s, ns, ts⟩ (.agg #[.int .i64 k, .int .i64 n, .string s, .slice A ns.length c, .slice A' ts.length c']) := ⟨A, c, A', c', rfl, h1, h2, h3⟩
  unfold vagg
  simp only at HE1 HE2 ⊢
  obtain ⟨L, hL⟩ : ∃ L, L = numsOf ⟨k, n, s, ns, ts⟩ := ⟨_, rfl⟩
  obtain ⟨M, hM⟩ : ∃ M, M = txtsOf ⟨k, n, s, ns, ts⟩ := ⟨_, rfl⟩
  rw [← hL] at hN HE1 HE2
  rw [← hM] at hT HE2
  have HL := Lib.hid hL
  have HM := Lib.hid hM
  have hLl := hN.2
  have hMl := hT.2
  have HN := Lib.hid hN.1
  have HT := Lib.hid hT.1
  obtain ⟨E, hE⟩ : ∃ E, E = el ⟨k, n, s, ns, ts⟩ := ⟨_, rfl⟩
  rw [← hE] at HE1 HE2 ⊢
  clear h1 h2 h3 hL hM hN hT hE
  go_enter Tryz.func88, Tryz.ntmps88
  go_wp2_with fail
  obtain ⟨wo, hwo⟩ : ∃ x, x = w.alloc (.cells #[.int .i64 k, .int .i64 n, .string s, .slice A ns.length c, .slice A' ts.length c'] 42) := ⟨_, rfl⟩
  rw [← hwo]
  have hVo : VR wo B ⟨k, n, s, ns, ts⟩ (.agg #[.int .i64 k, .int .i64 n, .string s, .slice A ns.length c, .slice A' ts.length c']) := by subst hwo; exact hV.alloc hB _
  have hb0 : Below w.heap.size w wo := by subst hwo; exact (Below.refl _ _).alloc (Nat.le_refl _) _
  have Bo : Blk wo w.heap.size 42 #[.int .i64 k, .int .i64 n, .string s, .slice A ns.length c, .slice A' ts.length c'] := by subst hwo; exact Blk.new _ _ _
  have hso := hb0.size
  clear hwo hV
  refine (numbers_any _ _ B wo hVo (by omega)).mono ?_
  rintro e w1 ⟨A1, c1, rfl, r1, -, b1⟩
  rw [← HL.out] at r1 ⊢
  have hV1 := hVo.below (b1.mono (show B ≤ wo.heap.size by omega))
  have B1 := Bo.below b1 Bo.lt
  have hb1 := hb0.trans (b1.mono hb0.size)
  have q0 : w1.cell? ⟨w.heap.size, 0, none⟩ = some (.int .i64 k) := by rw [B1.cell 0]; rfl
  have q1 : w1.cell? ⟨w.heap.size, 1, none⟩ = some (.int .i64 n) := by rw [B1.cell 1]; rfl
  have q2 : w1.cell? ⟨w.heap.size, 2, none⟩ = some (.string s) := by rw [B1.cell 2]; rfl
  have q3 : w1.cell? ⟨w.heap.size, 3, none⟩ = some (.slice A ns.length c) := by rw [B1.cell 3]; rfl
  have q4 : w1.cell? ⟨w.heap.size, 4, none⟩ = some (.slice A' ts.length c') := by rw [B1.cell 4]; rfl
  have hs1 := hb1.size
  clear hVo Bo B1 b1 hb0
  go_wp2_with fail
  go_loop [12] (fun i => ∃ j : Nat, j ≤ L.length ∧ i = .int .i64 j ∧ fe (numW (elK k)) (L.take j) = 0) (fun i => L.length - (intOf i).toNat)
  case atStart => exact ⟨0, Nat.zero_le _, rfl, rfl⟩
  case round =>
    obtain ⟨j, hj, rfl, hz⟩ := hrel
    by_cases hlt : j < L.length
    · obtain ⟨b, off, rfl, -, hc⟩ := r1.allI (by omega)
      have q := hc j hlt
      have hst := feI_step hlt hz
      have hft := fe_take (numW (elK k)) L (j + 1)
      have hr := HN.out (nthI L j) (by rw [nthI_lt hlt]; exact List.getElem_mem hlt)
      have HC := Lib.hid (checkNumber_any (elK k) (nthI L j) w1 hr.1 hr.2)
      obtain ⟨z, hzz⟩ : ∃ z, z = numW (elK k) (nthI L j) := ⟨_, rfl⟩
      rw [← hzz] at HC hst
      by_cases h0 : z = 0
      · subst h0
        have Hst := Lib.hid hst
        clear hst hft hc hz hzz hr
        go_wp2_with (first | (go_at_call 66; refine (elementKind_any _ _ hk1 hk2).mono ?_; rintro e w' ⟨rfl, rfl⟩) | (go_at_call 103; refine (HC.out).mono ?_; rintro e w' ⟨rfl, rfl⟩))
        go_round
        case rel => exact ⟨j + 1, by omega, by go_num, Hst.out⟩
        case measure => simp [intOf]; omega
      · have hb : (z != 0) = true := by simpa using h0
        have HF : Hid (E = z) := Lib.hid (by
          have h5 : fe (numW (elK k)) L = z := by rw [hft (by rw [hst]; exact h0), hst]
          have := HE1.out (by rw [h5]; exact h0)
          rw [this, h5])
        clear hst hft hc hz hzz h0 hr
        go_wp2_with (first | (go_at_call 66; refine (elementKind_any _ _ hk1 hk2).mono ?_; rintro e w' ⟨rfl, rfl⟩) | (go_at_call 103; refine (HC.out).mono ?_; rintro e w' ⟨rfl, rfl⟩))
        go_ret
        exact ⟨ret_int HF.out.symm, hb1⟩
    · obtain rfl : j = L.length := by omega
      rw [List.take_length] at hz
      have HZ := Lib.hid (HE2.out hz)
      clear hz
      go_wp2_with fail
      refine (texts_any _ _ B w1 hV1 (by omega)).mono ?_
      rintro e w2 ⟨A2, c2, rfl, r2, -, b2⟩
      rw [← HM.out] at r2 ⊢
      have hb2 := hb1.trans (b2.mono hb1.size)
      clear b2
      go_wp2_with fail
      go_loop [28] (fun i => ∃ j : Nat, j ≤ M.length ∧ i = .int .i64 j ∧ fe txtW (M.take j) = 0) (fun i => M.length - (intOf i).toNat)
      case atStart => exact ⟨0, Nat.zero_le _, rfl, rfl⟩
      case round =>
        obtain ⟨j, hj, rfl, hz⟩ := hrel
        by_cases hlt : j < M.length
        · obtain ⟨b, off, rfl, -, hc⟩ := r2.allS (by omega)
          have q := hc j hlt
          have hst := feS_step hlt hz
          have hft := fe_take txtW M (j + 1)
          have hr := HT.out (nthS M j) (by rw [nthS_lt hlt]; exact List.getElem_mem hlt)
          obtain ⟨t, ht⟩ : ∃ t, t = nthS M j := ⟨_, rfl⟩
          rw [← ht] at q hst hr
          have HC := Lib.hid (checkLength_any (t.size : Int) w2)
          have hw : txtW t = if 1000 < (t.size : Int) then 44 else 0 := by unfold txtW; split <;> split <;> omega
          rw [← hw] at HC
          obtain ⟨z, hzz⟩ : ∃ z, z = txtW t := ⟨_, rfl⟩
          rw [← hzz] at HC hst
          by_cases h0 : z = 0
          · subst h0
            have Hst := Lib.hid hst
            clear hst hft hc hz hzz hw ht
            go_wp2_with (go_at_call 104; refine (HC.out).mono ?_; rintro e w' ⟨rfl, rfl⟩)
            go_round
            case rel => exact ⟨j + 1, by omega, by go_num, Hst.out⟩
            case measure => simp [intOf]; omega
          · have hb : (z != 0) = true := by simpa using h0
            have HF : Hid (E = z) := Lib.hid (by rw [HZ.out, hft (by rw [hst]; exact h0), hst])
            clear hst hft hc hz hzz h0 hw ht
            go_wp2_with (go_at_call 104; refine (HC.out).mono ?_; rintro e w' ⟨rfl, rfl⟩)
            go_ret
            exact ⟨ret_int HF.out.symm, hb2⟩
        · obtain rfl : j = M.length := by omega
          rw [List.take_length] at hz
          have HF : Hid (E = 0) := Lib.hid (by rw [HZ.out, hz])
          clear hz
          go_wp2
          go_ret
          exact ⟨ret_int HF.out.symm, hb2⟩

/-- what is wrong first -/
def chk (v : Vv) : Int := if gk v.k = false then 40 else if ownB v = false then 41 else if 40 < v.ns.length + v.ts.length then 45 else el v
theorem chk_kind {v : Vv} (h : gk v.k = false) : chk v = 40 := if_pos h
theorem chk_field {v : Vv} (h : gk v.k = true) (h2 : ownB v = false) : chk v = 41 := by unfold chk; rw [if_neg (by simp [h]), if_pos h2]
theorem chk_list {v : Vv} (h : gk v.k = true) (h2 : ownB v = true) (h3 : 40 < v.ns.length + v.ts.length) : chk v = 45 := by unfold chk; rw [if_neg (by simp [h]), if_neg (by simp [h2]), if_pos h3]
theorem chk_el {v : Vv} (h : gk v.k = true) (h2 : ownB v = true) (h3 : ¬ 40 < v.ns.length + v.ts.length) : chk v = el v := by unfold chk; rw [if_neg (by simp [h]), if_neg (by simp [h2]), if_neg h3]

end Go.Proofs.YtgpahglmhnnobaaGreatDoor

/- Values: plain facts (nothing of the program is walked here). -/
namespace Go.Proofs.YtgpahglmhnnobaaGreatDoor
open Go.RowKit
set_option linter.unusedVariables false

theorem own_true {v : Vv} (h : ownB v = true) : (3 < v.k → v.n = 0) ∧ (v.k ≠ 4 → v.s.toList = []) ∧ ((v.k < 5 ∨ v.k = 8) → v.ns = []) ∧ (v.k ≠ 8 → v.ts = []) := by unfold ownB at h; exact of_decide_eq_true h
theorem own_false {v : Vv} (h : ownB v = false) : ¬ ((3 < v.k → v.n = 0) ∧ (v.k ≠ 4 → v.s.toList = []) ∧ ((v.k < 5 ∨ v.k = 8) → v.ns = []) ∧ (v.k ≠ 8 → v.ts = [])) := by unfold ownB at h; exact of_decide_eq_false h
theorem el_lo {v : Vv} (h : v.k < 4) : el v = numW v.k v.n := by
  unfold el
  rw [numsOf_num h, txtsOf_num h, elK_no (by omega)]
  by_cases h0 : numW v.k v.n = 0 <;> simp [fe, h0]
theorem el_four {v : Vv} (h : v.k = 4) : el v = txtW v.s := by
  unfold el
  rw [numsOf_text h, txtsOf_text h]
  by_cases h0 : txtW v.s = 0 <;> simp [fe, h0]

/-- what the call leaves -/
def Told (E : Int) (w : World) (e : Ending) (w' : World) : Prop := e = .returned (.int .i64 E) ∧ Below w.heap.size w w'

/-- the loops over the lists -/
theorem el_eight {v : Vv} (h : v.k = 8) (hn : v.ns = []) : el v = fe txtW v.ts := by
  unfold el
  rw [numsOf_list (by omega), txtsOf_list (by omega), hn]
  simp [fe]
theorem el_nums {v : Vv} (h : 4 < v.k) (hn : v.ts = []) : el v = fe (numW (v.k - 4)) v.ns := by
  unfold el
  rw [numsOf_list (by omega), txtsOf_list (by omega), hn, elK_yes h]
  by_cases h0 : fe (numW (v.k - 4)) v.ns = 0 <;> simp [fe, h0]

theorem str_inj {a b : ByteArray} (h : a.toList = b.toList) : a = b := by
  rw [ByteArray.toList_eq, ByteArray.toList_eq] at h
  cases a; cases b
  simp only at h
  rw [Array.toList_inj.1 h]
/-- are they one -/
def sameV (a b : Vv) : Bool := decide (a.k = b.k ∧ a.n = b.n ∧ a.s = b.s ∧ a.ns = b.ns ∧ a.ts = b.ts)
theorem sameV_eq (a b : Vv) : sameV a b = decide (a.k = b.k ∧ a.n = b.n ∧ a.s = b.s ∧ a.ns = b.ns ∧ a.ts = b.ts) := rfl
theorem sameV_self (a : Vv) : sameV a a = true := decide_eq_true ⟨rfl, rfl, rfl, rfl, rfl⟩
theorem sameV_yes {a b : Vv} (h : sameV a b = true) : a = b := by
  unfold sameV at h
  obtain ⟨h1, h2, h3, h4, h5⟩ := of_decide_eq_true h
  cases a; cases b; simp_all

/-- what a Bool call leaves -/
def Says (b : Bool) (w : World) (e : Ending) (w' : World) : Prop := e = .returned (.bool b) ∧ Below w.heap.size w w'


end Go.Proofs.YtgpahglmhnnobaaGreatDoor

/- Check of the program, and the document's Check: the same number. -/
namespace Go.Proofs.YtgpahglmhnnobaaGreatDoor
open Go.RowKit
set_option linter.unusedVariables false

/-- a value boxed in a block of its own, and what stays known of it -/
theorem box_cells {w : World} {g : Nat} {t : TypeId} {k n : Int} {s : ByteArray} {x y : Value} (h : Blk w g t #[.int .i64 k, .int .i64 n, .string s, x, y]) :
    w.cell? ⟨g, 0, none⟩ = some (.int .i64 k) ∧ w.cell? ⟨g, 1, none⟩ = some (.int .i64 n) ∧ w.cell? ⟨g, 2, none⟩ = some (.string s) ∧ w.cell? ⟨g, 3, none⟩ = some x ∧ w.cell? ⟨g, 4, none⟩ = some y :=
  ⟨by rw [h.cell 0]; rfl, by rw [h.cell 1]; rfl, by rw [h.cell 2]; rfl, by rw [h.cell 3]; rfl, by rw [h.cell 4]; rfl⟩

set_option maxRecDepth 100000 in
set_option maxHeartbeats 1000000 in
theorem Check_any (v : Vv) (x : Value) (B : Nat) (w : World) (h : VR w B v x) (hB : B ≤ w.heap.size) :
    Calls Tryz.prog 61 #[x] w fun e w' => e = .returned (.int .i64 (chk v)) ∧ Below w.heap.size w w' := by
  obtain ⟨A, c, A', c', rfl, h1, h2, h3⟩ := h
  have hk1 := h3.k1
  have hk2 := h3.k2
  have hn2 := h3.ns2
  have ht2 := h3.ts2
  have Hk := Lib.hid (@chk_kind v)
  have Hf := Lib.hid (@chk_field v)
  have Hl := Lib.hid (@chk_list v)
  have He := Lib.hid (@chk_el v)
  obtain ⟨k, n, s, ns, ts⟩ := v
  simp only at hk1 hk2 hn2 ht2
  have hV : VR w B ⟨k, n, s, ns, ts⟩ (.agg #[.int .i64 k, .int .i64 n, .string s, .slice A ns.length c, .slice A' ts.length c']) := ⟨A, c, A', c', rfl, h1, h2, h3⟩
  unfold vagg
  simp only at Hk Hf Hl He ⊢
  obtain ⟨E, hE⟩ : ∃ E, E = chk ⟨k, n, s, ns, ts⟩ := ⟨_, rfl⟩
  rw [← hE] at Hk Hf Hl He ⊢
  clear h1 h2 h3 hE
  by_cases hg : gk k = true
  · have hkk : 1 ≤ k ∧ k ≤ 8 := by unfold gk at hg; exact of_decide_eq_true hg
    obtain ⟨g1, g2⟩ := hkk
    have HG := Lib.hid (goodKind_any k (w.alloc (.cells #[.int .i64 k, .int .i64 n, .string s, .slice A ns.length c, .slice A' ts.length c'] 42)))
    rw [hg] at HG
    have HU := Lib.hid (uses_any ⟨k, n, s, ns, ts⟩ _ B (w.alloc (.cells #[.int .i64 k, .int .i64 n, .string s, .slice A ns.length c, .slice A' ts.length c'] 42)) (hV.alloc hB _) g1 g2)
    obtain ⟨o, ho⟩ : ∃ o, o = ownB ⟨k, n, s, ns, ts⟩ := ⟨_, rfl⟩
    rw [← ho] at HU Hf Hl He
    have hV1 := hV.alloc hB (.cells #[.int .i64 k, .int .i64 n, .string s, .slice A ns.length c, .slice A' ts.length c'] 42)
    have Bo : Blk (w.alloc (.cells #[.int .i64 k, .int .i64 n, .string s, .slice A ns.length c, .slice A' ts.length c'] 42)) w.heap.size 42 _ := Blk.new w 42 #[.int .i64 k, .int .i64 n, .string s, .slice A ns.length c, .slice A' ts.length c']
    have hb0 : Below w.heap.size w (w.alloc (.cells #[.int .i64 k, .int .i64 n, .string s, .slice A ns.length c, .slice A' ts.length c'] 42)) := (Below.refl _ _).alloc (Nat.le_refl _) _
    by_cases hown : o = true
    · subst hown
      have hfin : E = if 40 < ns.length + ts.length then 45 else el ⟨k, n, s, ns, ts⟩ := by
        by_cases h40 : 40 < ns.length + ts.length
        · rw [if_pos h40]; exact Hl.out hg rfl h40
        · rw [if_neg h40]; exact He.out hg rfl h40
      have HF := Lib.hid hfin
      clear Hk Hf Hl He hg hfin ho
      go_enter Tryz.func61, Tryz.ntmps61
      go_wp2_with (go_at_call 85; refine (HG.out).mono ?_; rintro e w' ⟨rfl, rfl⟩)
      refine (HU.out).mono ?_
      rintro e w1 ⟨rfl, b1⟩
      have hV2 := hV1.below (b1.mono (by simp; omega))
      have B1 := Bo.below b1 (by simp)
      have hb1 := hb0.trans (b1.mono (by simp))
      obtain ⟨q0, q1, q2, q3, q4⟩ := box_cells B1
      have hs1 := hb1.size
      clear hV1 Bo B1 b1 hb0 HU HG
      by_cases h40 : 40 < ns.length + ts.length
      · have HF2 : Hid (E = 45) := Lib.hid (by rw [HF.out, if_pos h40])
        have hi40 : (40 : Int) < (ns.length : Int) + (ts.length : Int) := by omega
        have HC := Lib.hid (checkCount_any ((ns.length : Int) + (ts.length : Int)) w1)
        rw [if_pos hi40] at HC
        clear h40 hi40
        go_wp2_with (go_at_call 87; refine (HC.out).mono ?_; rintro e w' ⟨rfl, rfl⟩)
        go_ret
        exact ⟨ret_int HF2.out.symm, hb1⟩
      · have HF2 : Hid (E = el ⟨k, n, s, ns, ts⟩) := Lib.hid (by rw [HF.out, if_neg h40])
        have hi40 : ¬ (40 : Int) < (ns.length : Int) + (ts.length : Int) := by omega
        have HC := Lib.hid (checkCount_any ((ns.length : Int) + (ts.length : Int)) w1)
        rw [if_neg hi40] at HC
        have HEl := Lib.hid (checkElements_any ⟨k, n, s, ns, ts⟩ _ B w1 hV2 (by omega) g1 g2)
        rw [← HF2.out] at HEl
        clear h40 hi40
        go_wp2_with (first | (go_at_call 87; refine (HC.out).mono ?_; rintro e w' ⟨rfl, rfl⟩) | (go_at_call 88; refine (HEl.out).mono ?_; rintro e w2 ⟨rfl, b2⟩))
        go_ret
        exact ⟨rfl, hb1.trans (b2.mono hb1.size)⟩
    · have hown : o = false := by simpa using hown
      subst hown
      have HF := Lib.hid (Hf.out hg rfl)
      clear Hk Hf Hl He hg ho
      go_enter Tryz.func61, Tryz.ntmps61
      go_wp2_with (go_at_call 85; refine (HG.out).mono ?_; rintro e w' ⟨rfl, rfl⟩)
      refine (HU.out).mono ?_
      rintro e w1 ⟨rfl, b1⟩
      have hb1 := hb0.trans (b1.mono (by simp))
      go_wp2
      go_ret
      exact ⟨ret_int HF.out.symm, hb1⟩
  · have hg : gk k = false := by simpa using hg
    have HF := Lib.hid (Hk.out hg)
    have HG := Lib.hid (goodKind_any k (w.alloc (.cells #[.int .i64 k, .int .i64 n, .string s, .slice A ns.length c, .slice A' ts.length c'] 42)))
    rw [hg] at HG
    clear Hk Hf Hl He hg
    go_enter Tryz.func61, Tryz.ntmps61
    go_wp2_with (go_at_call 85; refine (HG.out).mono ?_; rintro e w' ⟨rfl, rfl⟩)
    go_ret
    exact ⟨ret_int HF.out.symm, (Below.refl _ _).alloc (Nat.le_refl _) _⟩

/-! ### the document's -/
set_option maxRecDepth 100000 in
set_option maxHeartbeats 1000000 in
theorem numWrong_any (k n : Int) (w : World) (h1 : -9223372036854775808 ≤ n) (h2 : n ≤ 9223372036854775807) : Calls Tryz.prog 42 #[.int .i64 k, .int .i64 n] w fun e w' => e = .returned (.int .i64 (numW k n)) ∧ w = w' := by
  by_cases hk1 : k = 1
  · subst hk1
    by_cases hn0 : n = 0
    · subst hn0
      rw [numW_bool0]
      go_enter Tryz.func42, Tryz.ntmps42
      go_wp2
      go_ret
      exact ⟨rfl, rfl⟩
    by_cases hn1 : n = 1
    · subst hn1
      rw [numW_bool1]
      go_enter Tryz.func42, Tryz.ntmps42
      go_wp2
      go_ret
      exact ⟨rfl, rfl⟩
    rw [numW_bool hn0 hn1]
    have b0 : (n != 0) = true := by simpa using hn0
    have b1 : (n != 1) = true := by simpa using hn1
    clear hn0 hn1
    go_enter Tryz.func42, Tryz.ntmps42
    go_wp2
    go_ret
    exact ⟨rfl, rfl⟩
  by_cases hk3 : k = 3
  · subst hk3
    have hw := u64_wrap n
    have hu := u64_lt n
    have HN1 := Lib.hid (@numW_nan n)
    have HN2 := Lib.hid (@numW_float n)
    have HB : Hid (nanBad n = decide (u64 n / 4503599627370496 % 2048 = 2047 ∧ u64 n % 4503599627370496 ≠ 0 ∧ u64 n ≠ 9221120237041090560)) := Lib.hid rfl
    obtain ⟨u, hu'⟩ : ∃ u, u = u64 n := ⟨_, rfl⟩
    rw [← hu'] at hw hu HB
    clear hu' hk1
    have e1 : (u : Int) / 4503599627370496 % 2048 = ((u / 4503599627370496 % 2048 : Nat) : Int) := by omega
    have e2 : (u : Int) % 4503599627370496 = ((u % 4503599627370496 : Nat) : Int) := by omega
    by_cases c1 : u / 4503599627370496 % 2048 = 2047
    · have b1 : ((u : Int) / 4503599627370496 % 2048 == 2047) = true := by rw [beq_iff_eq]; omega
      by_cases c2 : u % 4503599627370496 = 0
      · have b2 : ((u : Int) % 4503599627370496 != 0) = false := by rw [bne_eq_false_iff_eq]; omega
        have HF := Lib.hid (HN2.out (by rw [HB.out]; exact decide_eq_false (fun h => h.2.1 c2)))
        clear HN1 HN2 HB e1 e2 c1 c2
        go_enter Tryz.func42, Tryz.ntmps42
        go_wp2
        go_ret
        exact ⟨ret_int HF.out.symm, rfl⟩
      · have b2 : ((u : Int) % 4503599627370496 != 0) = true := by rw [bne_iff_ne]; omega
        by_cases c3 : u = 9221120237041090560
        · have b3 : ((u : Int) != 9221120237041090560) = false := by rw [bne_eq_false_iff_eq]; omega
          have HF := Lib.hid (HN2.out (by rw [HB.out]; exact decide_eq_false (fun h => h.2.2 c3)))
          clear HN1 HN2 HB e1 e2 c1 c2 c3
          go_enter Tryz.func42, Tryz.ntmps42
          go_wp2
          go_ret
          exact ⟨ret_int HF.out.symm, rfl⟩
        · have b3 : ((u : Int) != 9221120237041090560) = true := by rw [bne_iff_ne]; omega
          have HF := Lib.hid (HN1.out (by rw [HB.out]; exact decide_eq_true ⟨c1, c2, c3⟩))
          clear HN1 HN2 HB e1 e2 c1 c2 c3
          go_enter Tryz.func42, Tryz.ntmps42
          go_wp2
          go_ret
          exact ⟨ret_int HF.out.symm, rfl⟩
    · have b1 : ((u : Int) / 4503599627370496 % 2048 == 2047) = false := by rw [beq_eq_false_iff_ne]; omega
      have HF := Lib.hid (HN2.out (by rw [HB.out]; exact decide_eq_false (fun h => c1 h.1)))
      clear HN1 HN2 HB e1 e2 c1
      go_enter Tryz.func42, Tryz.ntmps42
      go_wp2
      go_ret
      exact ⟨ret_int HF.out.symm, rfl⟩
  · rw [numW_other hk1 hk3]
    have b0 : (k == 1) = false := by simpa using hk1
    have b1 : (k == 3) = false := by simpa using hk3
    clear hk1 hk3
    go_enter Tryz.func42, Tryz.ntmps42
    go_wp2
    go_ret
    exact ⟨rfl, rfl⟩

end Go.Proofs.YtgpahglmhnnobaaGreatDoor

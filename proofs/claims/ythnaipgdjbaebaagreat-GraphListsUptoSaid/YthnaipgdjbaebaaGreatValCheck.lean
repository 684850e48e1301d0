/- Check of the program and of the document: both tell the first thing that is wrong with a value. -/
import Derived.Test.YthnaipgdjbaebaaGreatValChk
namespace Go.Proofs.YthnaipgdjbaebaaGreat
open Go.RowKit
set_option linter.unusedVariables false

/-- a value -/
structure Vv where
  k : Int
  n : Int
  s : ByteArray
  ns : List Int
  ts : List ByteArray
/-- what of it is in reach -/
structure Vok (v : Vv) : Prop where
  k1 : -9223372036854775808 ≤ v.k
  k2 : v.k ≤ 9223372036854775807
  n1 : -9223372036854775808 ≤ v.n
  n2 : v.n ≤ 9223372036854775807
  s1 : v.s.size ≤ 140737488351232
  ns1 : ∀ x ∈ v.ns, -9223372036854775808 ≤ x ∧ x ≤ 9223372036854775807
  ns2 : v.ns.length * 8 ≤ 140737488351232
  ts1 : ∀ x ∈ v.ts, x.size ≤ 140737488351232
  ts2 : v.ts.length * 16 ≤ 140737488351232
def vagg (v : Vv) (A : Option Addr) (c : Nat) (A' : Option Addr) (c' : Nat) : Value := .agg #[.int .i64 v.k, .int .i64 v.n, .string v.s, .slice A v.ns.length c, .slice A' v.ts.length c']
/-- x reads as v; its lists lie below block B -/
def VR (w : World) (B : Nat) (v : Vv) (x : Value) : Prop := ∃ A c A' c', x = vagg v A c A' c' ∧ RL ivl w B A v.ns ∧ RL svl w B A' v.ts ∧ Vok v
section
variable {w w' : World} {B B' : Nat} {v : Vv} {x : Value}
theorem VR.ok (h : VR w B v x) : Vok v := by obtain ⟨_, _, _, _, _, _, _, h⟩ := h; exact h
theorem VR.below (h : VR w B v x) (hb : Below B w w') : VR w' B v x := by
  obtain ⟨A, c, A', c', e, h1, h2, h3⟩ := h; exact ⟨A, c, A', c', e, h1.below hb, h2.below hb, h3⟩
theorem VR.more (h : VR w B v x) (hB : B ≤ B') : VR w B' v x := by
  obtain ⟨A, c, A', c', e, h1, h2, h3⟩ := h; exact ⟨A, c, A', c', e, h1.more hB, h2.more hB, h3⟩
theorem VR.alloc (h : VR w B v x) (hB : B ≤ w.heap.size) (o : Obj) : VR (w.alloc o) B v x := by
  obtain ⟨A, c, A', c', e, h1, h2, h3⟩ := h; exact ⟨A, c, A', c', e, h1.alloc hB o, h2.alloc hB o, h3⟩
theorem VR.drewN (h : VR w B v x) (n : Nat) : VR (w.drewN n) B v x := h
end

/-! ### the elements -/
def numsOf (v : Vv) : List Int := if 4 < v.k then v.ns else if v.k = 4 then [] else [v.n]
def txtsOf (v : Vv) : List ByteArray := if 4 < v.k then v.ts else if v.k = 4 then [v.s] else []
theorem numsOf_list {v : Vv} (h : 4 < v.k) : numsOf v = v.ns := if_pos h
theorem numsOf_text {v : Vv} (h : v.k = 4) : numsOf v = [] := by unfold numsOf; rw [if_neg (by omega), if_pos h]
theorem numsOf_num {v : Vv} (h : v.k < 4) : numsOf v = [v.n] := by unfold numsOf; rw [if_neg (by omega), if_neg (by omega)]
theorem txtsOf_list {v : Vv} (h : 4 < v.k) : txtsOf v = v.ts := if_pos h
theorem txtsOf_text {v : Vv} (h : v.k = 4) : txtsOf v = [v.s] := by unfold txtsOf; rw [if_neg (by omega), if_pos h]
theorem txtsOf_num {v : Vv} (h : v.k < 4) : txtsOf v = [] := by unfold txtsOf; rw [if_neg (by omega), if_neg (by omega)]
theorem numsOf_ok {v : Vv} (h : Vok v) : (∀ x ∈ numsOf v, -9223372036854775808 ≤ x ∧ x ≤ 9223372036854775807) ∧ (numsOf v).length ≤ 17592186043905 := by
  have h1 := h.ns1
  have h2 := h.ns2
  rcases (show 4 < v.k ∨ v.k = 4 ∨ v.k < 4 by omega) with hk | hk | hk
  · rw [numsOf_list hk]; exact ⟨h1, by omega⟩
  · rw [numsOf_text hk]; simp
  · rw [numsOf_num hk]; simp; exact ⟨h.n1, h.n2⟩
theorem txtsOf_ok {v : Vv} (h : Vok v) : (∀ x ∈ txtsOf v, x.size ≤ 140737488351232) ∧ (txtsOf v).length ≤ 17592186043905 := by
  have h1 := h.ts1
  have h2 := h.ts2
  rcases (show 4 < v.k ∨ v.k = 4 ∨ v.k < 4 by omega) with hk | hk | hk
  · rw [txtsOf_list hk]; exact ⟨h1, by omega⟩
  · rw [txtsOf_text hk]; simp; exact h.s1
  · rw [txtsOf_num hk]; simp

/-- a slice that reads as L, made or handed on -/
def Gave {α : Type} (f : α → Value) (L : List α) (B : Nat) (w : World) (e : Ending) (w' : World) : Prop := ∃ A c, e = .returned (.slice A L.length c) ∧ RL f w' w'.heap.size A L ∧ (0 < L.length → ∃ a, A = some a ∧ (a.block < B ∨ w.heap.size ≤ a.block)) ∧ Below w.heap.size w w'

set_option maxHeartbeats 1000000 in
theorem numbers_any (v : Vv) (x : Value) (B : Nat) (w : World) (h : VR w B v x) (hB : B ≤ w.heap.size) :
    Calls Tryz.prog 107 #[x] w (Gave ivl (numsOf v) B w) := by
  obtain ⟨A, c, A', c', rfl, h1, h2, h3⟩ := h
  have hx1 : Hid (∀ o, Gave ivl v.ns B w (.returned (.slice A v.ns.length c)) (w.alloc o)) := Lib.hid fun o => ⟨A, c, rfl, (h1.alloc hB o).more (by simp; omega), (fun hp => by obtain ⟨b, off, e, hb, _⟩ := h1.all hp; exact ⟨_, e, .inl hb⟩), (Below.refl _ _).alloc (Nat.le_refl _) _⟩
  have hx2 : Hid (∀ o, Gave ivl [] B w (.returned (.slice none 0 0)) (w.alloc o)) := Lib.hid fun o => ⟨none, 0, rfl, RL.empty _ _ _ _, (fun hp => absurd hp (by simp)), (Below.refl _ _).alloc (Nat.le_refl _) _⟩
  have hx3 : Hid (∀ o, Gave ivl [v.n] B w (.returned (.slice (some ⟨(w.alloc o).heap.size, 0, none⟩) 1 1)) ((w.alloc o).alloc (.cells #[.int .i64 v.n] 2))) := Lib.hid fun o => ⟨_, 1, rfl, (RL.oneI (w.alloc o) 2 v.n).more (by simp), (fun _ => ⟨_, rfl, .inr (by simp)⟩), ((Below.refl _ _).alloc (Nat.le_refl _) _).alloc (by simp) _⟩
  rcases (show 4 < v.k ∨ v.k = 4 ∨ v.k < 4 by omega) with hk | hk | hk
  · rw [numsOf_list hk]
    unfold vagg
    obtain ⟨k, n, s, ns, ts⟩ := v
    simp only at hk hx1
    clear h1 h2 h3 hx2 hx3
    go_enter Tryz.func107, Tryz.ntmps107
    go_wp2_with (go_at_call 106; refine (isList_yes hk _).mono ?_; rintro e w' ⟨rfl, rfl⟩)
    go_ret
    exact hx1.out _
  · rw [numsOf_text hk]
    unfold vagg
    obtain ⟨k, n, s, ns, ts⟩ := v
    simp only at hk
    subst hk
    clear h1 h2 h3 hx1 hx3
    go_enter Tryz.func107, Tryz.ntmps107
    go_wp2_with (go_at_call 106; refine (isList_no (by decide) _).mono ?_; rintro e w' ⟨rfl, rfl⟩)
    go_ret
    exact hx2.out _
  · rw [numsOf_num hk]
    unfold vagg
    obtain ⟨k, n, s, ns, ts⟩ := v
    simp only at hk hx3
    have hb : (k == 4) = false := by simp; omega
    clear h1 h2 h3 hx1 hx2
    go_enter Tryz.func107, Tryz.ntmps107
    go_wp2_with (go_at_call 106; refine (isList_no (by omega) _).mono ?_; rintro e w' ⟨rfl, rfl⟩)
    go_ret
    have := hx3.out (.cells #[.int .i64 k, .int .i64 n, .string s, .slice A ns.length c, .slice A' ts.length c'] 43)
    simpa using this

set_option maxHeartbeats 1000000 in
theorem texts_any (v : Vv) (x : Value) (B : Nat) (w : World) (h : VR w B v x) (hB : B ≤ w.heap.size) :
    Calls Tryz.prog 110 #[x] w (Gave svl (txtsOf v) B w) := by
  obtain ⟨A, c, A', c', rfl, h1, h2, h3⟩ := h
  have hx1 : Hid (∀ o, Gave svl v.ts B w (.returned (.slice A' v.ts.length c')) (w.alloc o)) := Lib.hid fun o => ⟨A', c', rfl, (h2.alloc hB o).more (by simp; omega), (fun hp => by obtain ⟨b, off, e, hb, _⟩ := h2.all hp; exact ⟨_, e, .inl hb⟩), (Below.refl _ _).alloc (Nat.le_refl _) _⟩
  have hx2 : Hid (∀ o, Gave svl [] B w (.returned (.slice none 0 0)) (w.alloc o)) := Lib.hid fun o => ⟨none, 0, rfl, RL.empty _ _ _ _, (fun hp => absurd hp (by simp)), (Below.refl _ _).alloc (Nat.le_refl _) _⟩
  have hx3 : Hid (∀ o, Gave svl [v.s] B w (.returned (.slice (some ⟨(w.alloc o).heap.size, 0, none⟩) 1 1)) ((w.alloc o).alloc (.cells #[.string v.s] 9))) := Lib.hid fun o => ⟨_, 1, rfl, (RL.oneS (w.alloc o) 9 v.s).more (by simp), (fun _ => ⟨_, rfl, .inr (by simp)⟩), ((Below.refl _ _).alloc (Nat.le_refl _) _).alloc (by simp) _⟩
  rcases (show 4 < v.k ∨ v.k = 4 ∨ v.k < 4 by omega) with hk | hk | hk
  · rw [txtsOf_list hk]
    unfold vagg
    obtain ⟨k, n, s, ns, ts⟩ := v
    simp only at hk hx1
    clear h1 h2 h3 hx2 hx3
    go_enter Tryz.func110, Tryz.ntmps110
    go_wp2_with (go_at_call 106; refine (isList_yes hk _).mono ?_; rintro e w' ⟨rfl, rfl⟩)
    go_ret
    exact hx1.out _
  · rw [txtsOf_text hk]
    unfold vagg
    obtain ⟨k, n, s, ns, ts⟩ := v
    simp only at hk hx3
    subst hk
    clear h1 h2 h3 hx1 hx2
    go_enter Tryz.func110, Tryz.ntmps110
    go_wp2_with (go_at_call 106; refine (isList_no (by decide) _).mono ?_; rintro e w' ⟨rfl, rfl⟩)
    go_ret
    have := hx3.out (.cells #[.int .i64 4, .int .i64 n, .string s, .slice A ns.length c, .slice A' ts.length c'] 43)
    simpa using this
  · rw [txtsOf_num hk]
    unfold vagg
    obtain ⟨k, n, s, ns, ts⟩ := v
    simp only at hk
    have hb : (k == 4) = false := by simp; omega
    clear h1 h2 h3 hx1 hx3
    go_enter Tryz.func110, Tryz.ntmps110
    go_wp2_with (go_at_call 106; refine (isList_no (by omega) _).mono ?_; rintro e w' ⟨rfl, rfl⟩)
    go_ret
    exact hx2.out _

/-! ### the fields -/
def ownB (v : Vv) : Bool := decide ((3 < v.k → v.n = 0) ∧ (v.k ≠ 4 → v.s.toList = []) ∧ ((v.k < 5 ∨ v.k = 8) → v.ns = []) ∧ (v.k ≠ 8 → v.ts = []))
set_option maxRecDepth 100000 in
set_option maxHeartbeats 1000000 in
theorem uses_any (v : Vv) (x : Value) (B : Nat) (w : World) (h : VR w B v x) (hk1 : 1 ≤ v.k) (hk2 : v.k ≤ 8) :
    Calls Tryz.prog 135 #[x] w fun e w' => e = .returned (.bool (ownB v)) ∧ Below w.heap.size w w' := by
  obtain ⟨A, c, A', c', rfl, h1, h2, h3⟩ := h
  have hn := h3.ns2
  have ht := h3.ts2
  have hs := h3.s1
  unfold vagg ownB
  obtain ⟨k, n, s, ns, ts⟩ := v
  simp only at hn ht hs hk1 hk2
  clear h1 h2 h3
  go_enter Tryz.func135, Tryz.ntmps135
  go_wp2
  go_quiet (fail)
  go_wp2
  all_goals (go_ret; refine ⟨ret_bool ?_, ?_⟩)
  all_goals first
    | exact below_drewN ((Below.refl _ _).alloc (Nat.le_refl _) _) _
    | skip
  all_goals (clear hs hn ht; grind)

/-! ### the elements' errors -/
def txtW (s : ByteArray) : Int := if 1000 < s.size then 44 else 0
def el (v : Vv) : Int := if fe (numW (elK v.k)) (numsOf v) = 0 then fe txtW (txtsOf v) else fe (numW (elK v.k)) (numsOf v)
theorem el_num {v : Vv} (h : fe (numW (elK v.k)) (numsOf v) ≠ 0) : el v = fe (numW (elK v.k)) (numsOf v) := if_neg h
theorem el_txt {v : Vv} (h : fe (numW (elK v.k)) (numsOf v) = 0) : el v = fe txtW (txtsOf v) := if_pos h
theorem feI_step {f : Int → Int} {L : List Int} {k : Nat} (hk : k < L.length) (h0 : fe f (L.take k) = 0) : fe f (L.take (k + 1)) = f (nthI L k) := by
  rw [takeI_succ hk, fe_append, if_pos h0]; simp [fe]; exact fun h => h.symm
theorem feS_step {f : ByteArray → Int} {L : List ByteArray} {k : Nat} (hk : k < L.length) (h0 : fe f (L.take k) = 0) : fe f (L.take (k + 1)) = f (nthS L k) := by
  rw [takeS_succ hk, fe_append, if_pos h0]; simp [fe]; exact fun h => h.symm

end Go.Proofs.YthnaipgdjbaebaaGreat

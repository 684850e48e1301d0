/- links: the document's Touches and Incident. -/
import Derived.Test.YtpdaiiakdlngjaaLk3
namespace Go.Proofs.Ytpdaiiakdlngjaa
open Go.RowKit
set_option linter.unusedVariables false

set_option maxHeartbeats 1000000 in
theorem refTouches_any (A : Option Addr) (cap B : Nat) (L : List LkC) (node id : Int) (w : World) (h : RR lkc 7 w B A L) (hl : L.length ≤ 140737488355328) : Calls Try.prog 22 #[.slice A L.length cap, .int .i64 node, .int .i64 id] w fun e w' => e = .returned (.int .i64 (tch L node id)) ∧ w = w' := by
  have ha : tch L node id = if id < 0 ∨ (L.length : Int) ≤ id then 3 else if (nthD L id.toNat).lv = false then 3 else if tb (nthD L id.toNat) node = true then 0 else 65 := rfl
  rw [ha]
  clear ha
  by_cases h0 : id < 0
  · have e1 : decide (id < 0) = true := decide_eq_true h0
    rw [if_pos (.inl h0)]
    go_enter Try.func22, Try.ntmps22
    go_wp2
    go_ret
    exact ⟨rfl, rfl⟩
  · by_cases h1 : (L.length : Int) ≤ id
    · have e1 : decide (id < 0) = false := decide_eq_false h0
      have e2 : decide ((L.length : Int) ≤ id) = true := decide_eq_true h1
      rw [if_pos (.inr h1)]
      go_enter Try.func22, Try.ntmps22
      go_wp2
      go_ret
      exact ⟨rfl, rfl⟩
    · obtain ⟨k, rfl⟩ : ∃ k : Nat, id = k := ⟨id.toNat, by omega⟩
      have hk : k < L.length := by omega
      rw [if_neg (by omega), Int.toNat_natCast]
      obtain ⟨b, off, rfl, _, hc⟩ := h.all lkc_f (by omega)
      have hx := hc k _ (nthD_get hk)
      obtain ⟨x, hxe⟩ : ∃ x, x = nthD L k := ⟨_, rfl⟩
      rw [← hxe] at hx ⊢
      obtain ⟨c0, c1, c2, -⟩ := lk_cells hx
      have e1 : decide ((k : Int) < 0) = false := decide_eq_false h0
      have e2 : decide ((L.length : Int) ≤ k) = false := decide_eq_false h1
      obtain ⟨v, hv⟩ : ∃ v, v = x.lv := ⟨_, rfl⟩
      obtain ⟨f, hf⟩ : ∃ v, v = x.fr := ⟨_, rfl⟩
      obtain ⟨t, ht⟩ : ∃ v, v = x.to := ⟨_, rfl⟩
      have htb : tb x node = (decide (f = node) || decide (t = node)) := by rw [hf, ht]; rfl
      rw [htb]
      rw [← hv] at c0 ⊢
      rw [← hf] at c1
      rw [← ht] at c2
      clear h hc h0 h1 hx hxe ht hv hf htb
      cases v
      · go_enter Try.func22, Try.ntmps22
        go_wp2
        go_ret
        exact ⟨rfl, rfl⟩
      · by_cases hf : f = node
        · have e3 : (f != node) = false := by simp [hf]
          have e4 : decide (f = node) = true := decide_eq_true hf
          rw [e4]
          clear hf e4
          go_enter Try.func22, Try.ntmps22
          go_wp2
          go_ret
          exact ⟨rfl, rfl⟩
        · have e3 : (f != node) = true := by simp [hf]
          have e4 : decide (f = node) = false := decide_eq_false hf
          rw [e4]
          clear hf e4
          by_cases ht : t = node
          · have e5 : (t != node) = false := by simp [ht]
            have e6 : decide (t = node) = true := decide_eq_true ht
            rw [e6]
            clear ht e6
            go_enter Try.func22, Try.ntmps22
            go_wp2
            go_ret
            exact ⟨rfl, rfl⟩
          · have e5 : (t != node) = true := by simp [ht]
            have e6 : decide (t = node) = false := decide_eq_false ht
            rw [e6]
            clear ht e6
            go_enter Try.func22, Try.ntmps22
            go_wp2
            go_ret
            exact ⟨rfl, rfl⟩
set_option maxRecDepth 100000 in
set_option maxHeartbeats 2000000 in
theorem refIncident_any (A : Option Addr) (cap B : Nat) (L : List LkC) (node : Int) (w : World) (h : RR lkc 7 w B A L) (hB : B ≤ w.heap.size) (hl : L.length * 56 ≤ 140737488355328) :
    Calls Try.prog 14 #[.slice A L.length cap, .int .i64 node] w (NewI (incK L node L.length) w) := by
  obtain ⟨j0, hj, hy0, hy1, hy2⟩ := info_parts nint_info
  have hll : L.length * 8 + 8 ≤ 140737488355328 := by omega
  have h0 := (St.start Zf w).newNil ivl 3 rfl
  go_enter Try.func14, Try.ntmps14
  go_wp2
  go_loopw [5, 6] (fun v i wr => ∃ k : Nat, k ≤ L.length ∧ i = .int .i64 k ∧ St Zf [OlA ivl 3 v (incK L node k)] w wr) (fun _ i _ => L.length - (intOf i).toNat)
  case atStart => exact ⟨0, Nat.zero_le _, rfl, h0⟩
  case round =>
    obtain ⟨k, hk, rfl, hst⟩ := hrel
    have hst2 := hst
    obtain ⟨Av, cv, rfl, -, -, -, -⟩ := hst2.ol.form
    clear hst2
    by_cases hlt : k < L.length
    · have HT := Lib.hid (refTouches_any A cap B L node k wr (hst.rr h hB) (by omega))
      have HS := incK_succ L node k
      have hln := incK_len L node k
      have hby : ((incK L node k).length + 1) * 8 ≤ 140737488355328 := by omega
      have HA := Lib.hid hst
      obtain ⟨t, ht⟩ : ∃ t, t = tch L node k := ⟨_, rfl⟩
      rw [← ht] at HT HS
      clear ht h0 hst
      by_cases h9 : t = 0
      · subst h9
        have E0 := Lib.hid HS
        clear HS
        go_wp2_with (first
          | (go_at_call 22; refine (HT.out).mono ?_; rintro e w5 ⟨rfl, rfl⟩)
          | (at_builtin; refine wpList_append_elem _ rfl _ _ 26 rfl 0 3 j0 _ 8 Try.underlying26 hj hy0 hy1 hy2 rfl _ (incK L node k) (by rfl) HA.out.ol (k : Int) (ivl_ok _) (by rfl) hby (by omega) (Nat.zero_le _) ?_; intro v7 w7 hown7 hg7 hat7; have h7 := Lib.hid (HA.out.grewOl hown7 hg7 hat7 (Nat.le_succ _)); clear hown7 hg7 hat7))
        go_roundw
        case rel => exact ⟨k + 1, by omega, by go_num, by rw [E0.out]; exact h7.out⟩
        case measure => simp [intOf]; omega
      · have e1 : (t == 0) = false := beq_eq_false_iff_ne.2 h9
        have e2 : decide (t = 0) = false := decide_eq_false h9
        rw [if_neg h9, List.append_nil] at HS
        have E0 := Lib.hid HS
        clear HS h9
        go_wp2_with (go_at_call 22; refine (HT.out).mono ?_; rintro e w5 ⟨rfl, rfl⟩)
        go_roundw
        case rel => exact ⟨k + 1, by omega, by go_num, by rw [E0.out]; exact HA.out⟩
        case measure => simp [intOf]; omega
    · obtain rfl : k = L.length := by omega
      have HST := Lib.hid hst
      clear hst h h0
      go_wp2
      go_ret
      exact ⟨_, rfl, HST.out.ownI, HST.out.bel⟩
end Go.Proofs.Ytpdaiiakdlngjaa

/- The document's Labels. -/
import Derived.Test.YtpoaokkmmoeekaaRcPureLab
import Derived.Test.YtpoaokkmmoeekaaApList
namespace Go.Proofs.Ytpoaokkmmoeekaa
open Go.RowKit
set_option linter.unusedVariables false

theorem firstP_at (Q : List Nat) : ∀ (k : Nat), k ≤ Q.length → (∀ j, j < k → nth Q j ≠ 0) → (k = Q.length ∨ nth Q k = 0) → firstP Q = (Q.take k).map byteI := by
  induction Q with
  | nil => intro k hk _ _; have : k = 0 := by simpa using hk
           subst this; rfl
  | cons b r ih =>
    intro k hk h1 h2
    cases k with
    | zero =>
      rcases h2 with h2 | h2
      · simp at h2
      · have hb : b = 0 := h2
        show (if b = 0 then [] else byteI b :: firstP r) = []
        rw [if_pos hb]
    | succ k =>
      have hb : b ≠ 0 := h1 0 (by omega)
      have := ih k (by simpa using hk) (fun j hj => h1 (j + 1) (by omega)) (by
        rcases h2 with h2 | h2
        · exact .inl (by simpa using h2)
        · exact .inr h2)
      show (if b = 0 then [] else byteI b :: firstP r) = byteI b :: (r.take k).map byteI
      rw [if_neg hb, this]
section
variable {l : List Ass} {w0 w w' : World}
set_option maxRecDepth 100000 in
set_option maxHeartbeats 2000000 in
theorem LabelsD_any [Stable (Sep l)] (h : St Zf l w0 w) (A : Option Addr) (cap B : Nat) (Q : List Nat) (hr : RB w0 B A Q) (hB : B ≤ w0.heap.size) (hq : Q.length ≤ 1000) :
    Calls Try.prog 36 #[.slice A Q.length cap] w fun e w' => ∃ a d, e = .returned (.slice a (firstP Q).length d) ∧ (firstP Q).length ≤ d ∧ d ≤ maxLen ∧ St Zf (OlA ivl 3 (.slice a (firstP Q).length d) (firstP Q) :: l) w0 w' := by
  obtain ⟨j0, hj, hy0, hy1, hy2⟩ : ∃ j, Try.prog.info? 3 = some j ∧ j.zero = some (.int .i64 0) ∧ j.size = 1 ∧ j.bytes = 8 := ⟨_, rfl, by kernel_rfl, by kernel_rfl, by kernel_rfl⟩
  have H := Lib.hid (h.newNil ivl 3 (n := w.heap.size) rfl)
  have HQ := Lib.hid hq
  clear h
  go_enter Try.func36, Try.ntmps36
  go_wp2
  go_loopw [3, 4] (fun a i wr => ∃ k : Nat, k ≤ Q.length ∧ i = .int .i64 k ∧ Hid (∀ j, j < k → nth Q j ≠ 0) ∧ Hid (St Zf (OlA ivl 3 a ((Q.take k).map byteI) :: l) w0 wr)) (fun _ i _ => Q.length - (intOf i).toNat)
  case atStart => exact ⟨0, Nat.zero_le _, rfl, Lib.hid (fun j hj => absurd hj (by omega)), by simpa using H⟩
  case round =>
    obtain ⟨k, hk, rfl, HNZ, Hk⟩ := hrel
    obtain ⟨O, hO⟩ : ∃ O, O = (Q.take k).map byteI := ⟨_, rfl⟩
    rw [← hO] at Hk
    have HO := Lib.hid hO
    have hOl : O.length = k := by rw [hO, List.length_map, List.length_take]; omega
    clear hO
    by_cases hlt : k < Q.length
    · obtain ⟨b, off, rfl, hb, hc⟩ := (Hk.out.rb hr hB).at_ hlt
      have hby := hr.1.nth k
      by_cases hz : nth Q k = 0
      · have hF : Hid (firstP Q = O) := Lib.hid (by rw [HO.out]; exact firstP_at Q k hk HNZ.out (.inr hz))
        rw [hz] at hc
        obtain ⟨Ak, ck, rfl, hl5, hm5, -, -⟩ := Hk.out.ol.form
        clear hz hby hOl
        have HL5 := Lib.hid hl5
        have HM5 := Lib.hid hm5
        clear hl5 hm5
        go_wp2
        go_ret
        rw [hF.out]
        exact ⟨Ak, ck, rfl, HL5.out, HM5.out, Hk.out⟩
      · have hO1 : Hid (O ++ [byteI (nth Q k)] = (Q.take (k + 1)).map byteI) := Lib.hid (by rw [take_succ_nth Q k hlt, List.map_append, ← HO.out]; rfl)
        have hnz1 : Hid (∀ j, j < k + 1 → nth Q j ≠ 0) := Lib.hid (fun j hj => by
          rcases Nat.lt_succ_iff_lt_or_eq.mp hj with h | h
          · exact HNZ.out j h
          · rw [h]; exact hz)
        have hne : ((nth Q k : Int) != 0) = true := by rw [bne_iff_ne]; omega
        have hs : wrap64 ((nth Q k : Int) - 1) = byteI (nth Q k) := by rw [wrap64_eq]; unfold byteI; omega
        have hs0 : wrap64 (nth Q k : Int) = (nth Q k : Int) := by rw [wrap64_eq]; omega
        obtain ⟨y, hy⟩ : ∃ y, y = byteI (nth Q k) := ⟨_, rfl⟩
        obtain ⟨u, hu⟩ : ∃ u : Int, u = (nth Q k : Int) := ⟨_, rfl⟩
        rw [← hy] at hO1 hs
        rw [← hu] at hne hs hs0 hc
        obtain ⟨Ak, ck, rfl, -, -, -, -⟩ := Hk.out.ol.form
        have hb8 : (O.length + 1) * 8 ≤ 140737488355328 := by have := HQ.out; omega
        have HB8 := Lib.hid hb8
        have hHN : Hid (wr.heap.size = wr.heap.size) := Lib.hid rfl
        clear hz hby hy hu hOl hb8
        go_wp2_with (at_builtin; refine wpList_append_elemN _ rfl _ _ 22 rfl 0 3 j0 (.int .i64 0) 8 Try.underlying22 hj hy0 hy1 hy2 rfl _ O (by rfl) Hk.out.ol y (ivl_ok y) wr.heap.size rfl (by rfl) HB8.out (by omega) (Nat.zero_le _) ?_; intro v7 w7 hown7 hg7 hat7; rw [hO1.out] at hown7; have h7 := Lib.hid (Hk.out.grewOl hown7 hg7 hat7 (by simp)); clear hown7 hg7 hat7)
        go_roundw
        case rel => exact ⟨k + 1, by omega, by go_num, hnz1, h7⟩
        case measure => simp [intOf]; omega
    · have hk2 : k = Q.length := by omega
      have hF : Hid (firstP Q = O) := Lib.hid (by rw [HO.out]; exact firstP_at Q k hk HNZ.out (.inl hk2))
      obtain ⟨Ak, ck, rfl, hl5, hm5, -, -⟩ := Hk.out.ol.form
      have HL5 := Lib.hid hl5
      have HM5 := Lib.hid hm5
      clear hl5 hm5 hOl
      go_wp2
      go_ret
      rw [hF.out]
      exact ⟨Ak, ck, rfl, HL5.out, HM5.out, Hk.out⟩
end
end Go.Proofs.Ytpoaokkmmoeekaa

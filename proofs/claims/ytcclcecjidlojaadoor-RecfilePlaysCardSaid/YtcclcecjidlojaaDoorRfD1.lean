/- recfile: the document's file in memory; New, and what is told of it. -/
import Derived.Test.YtcclcecjidlojaaDoorRfDoc
namespace Go.Proofs.YtcclcecjidlojaaDoor
open Go.RowKit
set_option linter.unusedVariables false

/-- the document's file: its block, its records' row, the records' bytes -/
def DfA (g : Nat) (K V S : Int) (L : List Rc) : Ass := Ex fun q : Value × List Rq => Wh (q.2.map (·.r) = L) (Sep [BlkA g 67 #[.int .i64 K, .int .i64 V, .int .i64 S, q.1], OwA rcF 2 82 q.1 q.2, PoolA (poolOf q.2)])
instance stableDf {g : Nat} {K V S : Int} {L : List Rc} : Stable (DfA g K V S L) := stableEx
section
variable {S0 : Fp} {l : List Ass} {w0 w : World} {g : Nat} {K V S : Int} {L : List Rc}
theorem df_open (h : St S0 (DfA g K V S L :: l) w0 w) : ∃ v X, X.map (·.r) = L ∧ St S0 (BlkA g 67 #[.int .i64 K, .int .i64 V, .int .i64 S, v] :: OwA rcF 2 82 v X :: PoolA (poolOf X) :: l) w0 w := by
  obtain ⟨⟨v, X⟩, h⟩ := h.ex
  obtain ⟨hm, h⟩ := h.wh
  exact ⟨v, X, hm, h.flat⟩
theorem df_shut {v : Value} {X : List Rq} (hm : X.map (·.r) = L) (h : St S0 (BlkA g 67 #[.int .i64 K, .int .i64 V, .int .i64 S, v] :: OwA rcF 2 82 v X :: PoolA (poolOf X) :: l) w0 w) : St S0 (DfA g K V S L :: l) w0 w :=
  St.mapHead (h.pack (l' := [BlkA g 67 #[.int .i64 K, .int .i64 V, .int .i64 S, v], OwA rcF 2 82 v X, PoolA (poolOf X)])) fun F hF => ⟨(v, X), hm, hF⟩
theorem df_cells {v : Value} (h : St S0 (BlkA g 67 #[.int .i64 K, .int .i64 V, .int .i64 S, v] :: l) w0 w) :
    w.cell? ⟨g, 0, none⟩ = some (.int .i64 K) ∧ w.cell? ⟨g, 1, none⟩ = some (.int .i64 V) ∧ w.cell? ⟨g, 2, none⟩ = some (.int .i64 S) ∧ w.cell? ⟨g, 3, none⟩ = some v := by
  have := h.blk.cell
  exact ⟨by rw [this]; rfl, by rw [this]; rfl, by rw [this]; rfl, by rw [this]; rfl⟩

/-- what a method of the document's that only reads finds -/
def DfR (w : World) (g : Nat) (K V S : Int) (A : Option Addr) (cap : Nat) (X : List Rq) : Prop :=
  (w.cell? ⟨g, 0, none⟩ = some (.int .i64 K) ∧ w.cell? ⟨g, 1, none⟩ = some (.int .i64 V) ∧ w.cell? ⟨g, 2, none⟩ = some (.int .i64 S) ∧ w.cell? ⟨g, 3, none⟩ = some (.slice A X.length cap)) ∧
  RR rcF 2 w w.heap.size A X ∧ (X.length ≤ cap ∧ cap ≤ maxLen) ∧ ∀ q ∈ X, RB w w.heap.size q.A q.r.data ∧ q.r.data.length ≤ q.c ∧ q.c ≤ maxLen
theorem df_readX {v : Value} {X : List Rq} (h : St S0 (BlkA g 67 #[.int .i64 K, .int .i64 V, .int .i64 S, v] :: OwA rcF 2 82 v X :: PoolA (poolOf X) :: l) w0 w) : ∃ A cap, v = .slice A X.length cap ∧ DfR w g K V S A cap X := by
  have hc := df_cells h
  obtain ⟨A, cap, rfl, h1, h2, h3⟩ := h.swap.owForm
  refine ⟨A, cap, rfl, hc, h3, ⟨h1, h2⟩, fun q hq => ?_⟩
  obtain ⟨A', c', hv, h4, h5, h6⟩ := h.bring2.pool (poolOf_mem hq)
  simp only [Rq.v, Value.slice.injEq, true_and] at hv
  obtain ⟨rfl, rfl⟩ := hv
  exact ⟨h6, h4, h5⟩
theorem df_read (h : St S0 (DfA g K V S L :: l) w0 w) : ∃ A cap X, X.map (·.r) = L ∧ DfR w g K V S A cap X := by
  obtain ⟨v, X, hm, h⟩ := df_open h
  obtain ⟨A, cap, -, h⟩ := df_readX h
  exact ⟨A, cap, X, hm, h⟩
theorem DfR.drewN {A : Option Addr} {cap : Nat} {X : List Rq} (h : DfR w g K V S A cap X) (n : Nat) : DfR (w.drewN n) g K V S A cap X := h
theorem DfR.at_ {A : Option Addr} {cap : Nat} {X : List Rq} (h : DfR w g K V S A cap X) (h0 : 0 < X.length) : ∃ b off, A = some ⟨b, off, none⟩ ∧ ∀ k, k < X.length → w.cell? ⟨b, off + k * 2, none⟩ = some (.bool (nthD X k).r.used) ∧ w.cell? ⟨b, off + k * 2 + 1, none⟩ = some (.slice (nthD X k).A (nthD X k).r.data.length (nthD X k).c) := by
  obtain ⟨b, off, hA, -, hc⟩ := h.2.1.all rcF_row h0
  refine ⟨b, off, hA, fun k hk => ?_⟩
  have := hc k _ (nthD_get hk)
  exact ⟨this 0 _ rfl, this 1 _ rfl⟩
theorem nthD_map {X : List Rq} (hm : X.map (·.r) = L) {k : Nat} (hk : k < X.length) : (nthD X k).r = nthD L k := by
  subst hm
  rw [nthD_lt hk, nthD_lt (by simpa using hk), List.getElem_map]
theorem mapLen {X : List Rq} (hm : X.map (·.r) = L) : X.length = L.length := by rw [← hm, List.length_map]

set_option maxHeartbeats 400000 in
theorem refNew_ok [Stable (Sep l)] (h : St S0 l w0 w) (k v s : Int) (he : newErr k v s = 0) :
    Calls Tryd.prog 13 #[.int .i64 k, .int .i64 v, .int .i64 s] w fun e w' => ∃ g, e = .returned (.tuple #[.pointer (some ⟨g, 0, none⟩), .int .i64 0]) ∧ St S0 (DfA g k v s [] :: l) w0 w' := by
  unfold newErr at he
  split at he
  · rename_i h1
    split at he
    · rename_i h2
      simp only [Bool.and_eq_true, decide_eq_true_eq] at h1 h2
      have H := Lib.hid h
      have a1 : decide (k < 0) = false := decide_eq_false (by omega)
      have a2 : decide ((255 : Int) < k) = false := decide_eq_false (by omega)
      have a3 : decide (v < 0) = false := decide_eq_false (by omega)
      have a4 : decide ((255 : Int) < v) = false := decide_eq_false (by omega)
      have a5 : decide (s < 2) = false := decide_eq_false (by omega)
      have a6 : decide ((255 : Int) < s) = false := decide_eq_false (by omega)
      clear h h1 h2 he
      have hbl := fun W : World => run_build (P := Tryd.prog) W 67 #[(0, .int .i64 k), (1, .int .i64 v), (2, .int .i64 s)] #[.int .i64 k, .int .i64 v, .int .i64 s, .slice none 0 0] (by kernel_rfl)
      go_enter Tryd.func13, Tryd.ntmps13
      go_wp2
      go_ret2
      exact ⟨_, rfl, df_shut (X := []) rfl ((((H.out.nilPool).nilOw rcF 2 82).newBlk _ _))⟩
    · exact absurd he (by decide)
  · exact absurd he (by decide)
set_option maxHeartbeats 400000 in
theorem refNew_no (k v s : Int) (he : newErr k v s ≠ 0) :
    Calls Tryd.prog 13 #[.int .i64 k, .int .i64 v, .int .i64 s] w fun e w' => e = .returned (.tuple #[.pointer none, .int .i64 (newErr k v s)]) ∧ w = w' := by
  obtain ⟨p, hp⟩ : ∃ p, decide (k < 0) = p := ⟨_, rfl⟩
  obtain ⟨q, hq⟩ : ∃ p, decide ((255 : Int) < k) = p := ⟨_, rfl⟩
  obtain ⟨p', hp'⟩ : ∃ p, decide (v < 0) = p := ⟨_, rfl⟩
  obtain ⟨q', hq'⟩ : ∃ p, decide ((255 : Int) < v) = p := ⟨_, rfl⟩
  obtain ⟨r, hr⟩ : ∃ p, decide (s < 2) = p := ⟨_, rfl⟩
  obtain ⟨t, ht⟩ : ∃ p, decide ((255 : Int) < s) = p := ⟨_, rfl⟩
  have hN : newErr k v s = if (p || q || p' || q') = true then 2 else if (r || t) = true then 4 else 0 := by
    subst hp hq hp' hq' hr ht
    unfold newErr
    simp only [Bool.and_eq_true, Bool.or_eq_true, decide_eq_true_eq]
    by_cases h1 : (0 ≤ k ∧ k ≤ 255) ∧ 0 ≤ v ∧ v ≤ 255
    · by_cases h2 : 2 ≤ s ∧ s ≤ 255
      · rw [if_pos h1, if_pos h2, if_neg (by omega), if_neg (by omega)]
      · have h3 : s < 2 ∨ 255 < s := by omega
        rw [if_pos h1, if_neg h2, if_neg (by omega), if_pos h3]
    · have h3 : ((k < 0 ∨ 255 < k) ∨ v < 0) ∨ 255 < v := by omega
      rw [if_neg h1, if_pos h3]
  rw [hN] at he ⊢
  clear hN
  cases p
  case' false => cases q
  case' false.false => cases p'
  case' false.false.false => cases q'
  case' false.false.false.false => cases r
  case' false.false.false.false.false => cases t
  case false.false.false.false.false.false => exact absurd rfl he
  all_goals
    clear he
    go_enter Tryd.func13, Tryd.ntmps13
    go_wp2
    go_ret2
    exact ⟨rfl, rfl⟩

set_option maxHeartbeats 400000 in
theorem refUsed_any {A : Option Addr} {cap : Nat} {X : List Rq} (hr : DfR w g K V S A cap X) (hm : X.map (·.r) = L) (hl : L.length ≤ 1099511627776) (id : Int) :
    Calls Tryd.prog 59 #[.pointer (some ⟨g, 0, none⟩), .int .i64 id] w fun e w' => e = .returned (.bool (usedL L id)) ∧ w = w' := by
  obtain ⟨c0, c1, c2, c3⟩ := hr.1
  have hlen := mapLen hm
  by_cases h0 : id < 0
  · have e0 : decide (id < 0) = true := decide_eq_true h0
    have hu : usedL L id = false := by unfold usedL; rw [decide_eq_false (by omega)]; rfl
    rw [hu]
    clear hr hm h0 hu
    go_enter Tryd.func59, Tryd.ntmps59
    go_wp2
    go_ret
    exact ⟨rfl, rfl⟩
  · obtain ⟨k, rfl⟩ := Int.eq_ofNat_of_zero_le (Int.not_lt.1 h0)
    by_cases h1 : k < L.length
    · obtain ⟨b, off, rfl, hc⟩ := hr.at_ (by omega)
      have hc1 := (hc k (by omega)).1
      rw [nthD_map hm (by omega)] at hc1
      rw [usedL_at h1]
      have b0 : decide ((k : Int) < 0) = false := decide_eq_false (by omega)
      have b1 : decide (X.length ≤ k) = false := decide_eq_false (by omega)
      have b2 : k < X.length := by omega
      obtain ⟨n, hn⟩ : ∃ n, n = X.length := ⟨_, rfl⟩
      rw [← hn] at c3 b1 b2
      obtain ⟨u, hu⟩ : ∃ u, u = (nthD L k).used := ⟨_, rfl⟩
      rw [← hu] at hc1 ⊢
      clear hr hm h0 h1 hc hlen hn hl hu
      go_enter Tryd.func59, Tryd.ntmps59
      go_wp2
      go_ret
      exact ⟨rfl, rfl⟩
    · have hu : usedL L (k : Int) = false := by
        unfold usedL
        rw [decide_eq_false (p := (k : Int) < (L.length : Int)) (by omega), Bool.and_false]
        rfl
      rw [hu]
      have b0 : decide ((k : Int) < 0) = false := decide_eq_false (by omega)
      have b1 : decide (X.length ≤ k) = true := decide_eq_true (by omega)
      obtain ⟨n, hn⟩ : ∃ n, n = X.length := ⟨_, rfl⟩
      rw [← hn] at c3 b1
      clear hr hm h0 h1 hlen hn hl hu
      go_enter Tryd.func59, Tryd.ntmps59
      go_wp2
      go_ret
      exact ⟨rfl, rfl⟩
theorem liveL_succ {k : Nat} (h : k < L.length) : liveL L (k + 1) = liveL L k + if (nthD L k).used = true then 1 else 0 := by
  unfold liveL
  rw [takeD_succ h, List.countP_append]
  cases hu : (nthD L k).used <;> simp [hu]
theorem liveL_le (k : Nat) : liveL L k ≤ k := Nat.le_trans List.countP_le_length (List.length_take_le _ _)
set_option maxHeartbeats 400000 in
theorem refLive_any {A : Option Addr} {cap : Nat} {X : List Rq} (hr : DfR w g K V S A cap X) (hm : X.map (·.r) = L) (hl : L.length ≤ 1099511627776) :
    Calls Tryd.prog 39 #[.pointer (some ⟨g, 0, none⟩)] w fun e w' => e = .returned (.int .i64 (liveL L L.length : Nat)) ∧ w = w' := by
  obtain ⟨c0, c1, c2, c3⟩ := hr.1
  have hlen := mapLen hm
  rw [hlen] at c3
  have HL := Lib.hid hl
  have HR := Lib.hid hr
  have HM := Lib.hid hm
  have HLN := Lib.hid hlen
  clear hr hm hlen hl
  go_enter Tryd.func39, Tryd.ntmps39
  go_wp2
  go_loop [3, 4] (fun n i => ∃ k : Nat, k ≤ L.length ∧ i = .int .i64 k ∧ n = .int .i64 (liveL L k : Nat)) (fun _ i => L.length - (intOf i).toNat)
  case atStart => exact ⟨0, Nat.zero_le _, rfl, rfl⟩
  case round =>
    obtain ⟨k, hk, rfl, rfl⟩ := hrel
    by_cases hlt : k < L.length
    · obtain ⟨b, off, hA, hc⟩ := HR.out.at_ (by have := HLN.out; omega)
      have hc1 := (hc k (by have := HLN.out; omega)).1
      rw [nthD_map HM.out (by have := HLN.out; omega)] at hc1
      have hs := liveL_succ hlt
      have hle := liveL_le (L := L) k
      subst hA
      obtain ⟨u, hu⟩ : ∃ u, u = (nthD L k).used := ⟨_, rfl⟩
      rw [← hu] at hc1 hs
      obtain ⟨m, hm⟩ : ∃ m, m = liveL L k := ⟨_, rfl⟩
      rw [← hm] at hs hle
      have hmb : m ≤ 1099511627776 := by have := HL.out; omega
      have HS := Lib.hid hs
      have HM2 := Lib.hid hm
      have hkb : k ≤ 1099511627776 := by have := HL.out; omega
      rw [← HM2.out]
      clear hc hs hle hu hm
      cases u
      · go_wp2
        go_round
        case rel => exact ⟨k + 1, hlt, by go_num, by rw [HS.out]; rfl⟩
        case measure => simp [intOf]; omega
      · go_wp2
        go_round
        case rel => exact ⟨k + 1, hlt, by go_num, by rw [HS.out]; rfl⟩
        case measure => simp [intOf]; omega
    · obtain rfl : k = L.length := by omega
      go_wp2
      go_ret
      exact ⟨rfl, rfl⟩
/-- a list of zeros, its own -/
theorem rep_succ (k : Nat) : List.replicate k 0 ++ [0] = List.replicate (k + 1) (0 : Nat) := by rw [List.replicate_succ']
set_option maxHeartbeats 400000 in
theorem zeros_any (n : Nat) (w : World) (hn : n ≤ 1000) :
    Calls Tryd.prog 60 #[.int .i64 (n : Int)] w (NewB (List.replicate n 0) w) := by
  obtain ⟨i0, hi, hz0, hz1, hz2⟩ := info_parts u8_info
  go_enter Tryd.func60, Tryd.ntmps60
  go_wp2
  go_loopw [3, 4] (fun v i wr => ∃ k : Nat, k ≤ n ∧ i = .int .i64 k ∧ OB wr w.heap.size 5 v (List.replicate k 0) ∧ Below w.heap.size w wr) (fun _ i _ => n - (intOf i).toNat)
  case atStart => exact ⟨0, Nat.zero_le _, rfl, ⟨IsBytes.nil, World.ownsRow_lit w #[] 0 (Nat.le_refl _) (Nat.zero_le _) rfl⟩, (Below.refl _ _).alloc (Nat.le_refl _) _⟩
  case round =>
    obtain ⟨k, hk, rfl, hown, hbw⟩ := hrel
    by_cases hlt : k < n
    · go_wp2_with (at_builtin; go_loud (refine wpList_append_lit8 _ rfl _ _ 34 rfl w.heap.size 5 i0 Tryd.underlying34 hi hz0 hz1 hz2 _ (List.replicate k 0) 0 (by rfl) hown (by rfl) _ rfl (by decide) (by rw [List.length_replicate]; omega) hbw.size ?_); intro v1 w1 hown1 hg1 hat1)
      have hbw1 := hown.belowTo hbw (Nat.le_refl _) hg1 hbw.size
      go_roundw
      case rel => exact ⟨k + 1, by omega, by go_num, by rw [← rep_succ]; exact hown1, hbw1⟩
      case measure => simp [intOf]; omega
    · obtain rfl : k = n := by omega
      go_wp2
      go_ret
      exact ⟨_, rfl, hown, hbw⟩
end
end Go.Proofs.YtcclcecjidlojaaDoor

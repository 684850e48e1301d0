/- A node's chains: what a walk of a laid chain gives; facts on walks. No program is named here. -/
import Derived.Test.YtpdaiiakdlngjaaLkPure
namespace Go.Proofs.Ytpdaiiakdlngjaa
open Go.RowKit
set_option linter.unusedVariables false

theorem wk_good (L : List LkC) (node : Int) : ∀ (n : Nat) (W : List Int) (id : Int), Gd L node W → Gd L node (wk L node n W id).1
  | 0, W, id, h => h
  | n + 1, W, id, h => by
    unfold wk
    split
    · exact h
    · split
      · rename_i h1
        exact wk_good L node n _ _ (h.snoc h1)
      · exact Gd.nil _ _
theorem walkP_good (L : List LkC) (node head : Int) : Gd L node (walkP L node head).1 := wk_good L node _ _ _ (Gd.nil _ _)
theorem walkP_len (L : List LkC) (node head : Int) : (walkP L node head).1.length ≤ L.length := (walkP_good L node head).len
theorem wErr_tch {L : List LkC} {node : Int} {W : List Int} {id : Int} (h : wErr L node W id = 0) : tch L node id = 0 := by
  unfold wErr at h
  split at h
  · assumption
  · exact h
theorem wk_touch (L : List LkC) (node : Int) : ∀ (n : Nat) (W : List Int) (id : Int), (∀ x ∈ W, tch L node x = 0) → ∀ x ∈ (wk L node n W id).1, tch L node x = 0
  | 0, W, id, h => h
  | n + 1, W, id, h => by
    unfold wk
    split
    · exact h
    · split
      · rename_i h1
        refine wk_touch L node n _ _ fun x hx => ?_
        rcases List.mem_append.1 hx with hx | hx
        · exact h x hx
        · simp only [List.mem_singleton] at hx
          subst hx
          exact wErr_tch h1
      · intro x hx
        cases hx
theorem walkP_touch (L : List LkC) (node head : Int) : ∀ x ∈ (walkP L node head).1, tch L node x = 0 := wk_touch L node _ _ _ fun x hx => by cases hx
theorem wk_none (L : List LkC) (node : Int) : ∀ (n : Nat) (W : List Int) (id : Int), (wk L node n W id).2 ≠ 0 → (wk L node n W id).1 = []
  | 0, W, id, h => absurd rfl h
  | n + 1, W, id, h => by
    unfold wk at h ⊢
    split at h
    · exact absurd rfl h
    · rename_i h0
      rw [if_neg h0]
      split at h
      · rename_i h1
        rw [if_pos h1]
        exact wk_none L node n _ _ h
      · rename_i h1
        rw [if_neg h1]
theorem walkP_none {L : List LkC} {node head : Int} (h : (walkP L node head).2 ≠ 0) : (walkP L node head).1 = [] := wk_none L node _ _ _ h
theorem wk_pre (L : List LkC) (node : Int) : ∀ (n : Nat) (W : List Int) (id : Int), (wk L node n W id).2 = 0 → ∃ R, (wk L node n W id).1 = W ++ R
  | 0, W, id, _ => ⟨[], (List.append_nil W).symm⟩
  | n + 1, W, id, h => by
    unfold wk at h ⊢
    split at h
    · rename_i h0
      rw [if_pos h0]
      exact ⟨[], (List.append_nil W).symm⟩
    · rename_i h0
      rw [if_neg h0]
      split at h
      · rename_i h1
        rw [if_pos h1]
        obtain ⟨R, e⟩ := wk_pre L node n _ _ h
        exact ⟨id :: R, by rw [e, List.append_assoc]; rfl⟩
      · rename_i h1
        exact absurd h h1
theorem walkP_head {L : List LkC} {node head : Int} (h : (walkP L node head).2 = 0) : (head = -1 ∧ (walkP L node head).1 = []) ∨ (head ≠ -1 ∧ ∃ R, (walkP L node head).1 = head :: R) := by
  unfold walkP wk at h ⊢
  split at h
  · rename_i h0
    rw [if_pos h0]
    exact .inl ⟨h0, rfl⟩
  · rename_i h0
    rw [if_neg h0]
    split at h
    · rename_i h1
      rw [if_pos h1]
      obtain ⟨R, e⟩ := wk_pre L node _ _ _ h
      exact .inr ⟨h0, R, e⟩
    · rename_i h1
      exact absurd h h1
theorem sub_len {α : Type} [DecidableEq α] : ∀ (W M : List α), W.Nodup → (∀ x ∈ W, x ∈ M) → W.length ≤ M.length
  | [], M, _, _ => Nat.zero_le _
  | x :: r, M, hn, h => by
    obtain ⟨h1, h2⟩ := List.nodup_cons.1 hn
    have hx := h x List.mem_cons_self
    have := sub_len r (M.erase x) h2 fun y hy => (List.mem_erase_of_ne (by rintro rfl; exact h1 hy)).2 (h y (List.mem_cons_of_mem _ hy))
    rw [List.length_erase_of_mem hx] at this
    have hpos := List.length_pos_of_mem hx
    simp only [List.length_cons]
    omega
theorem mem_incK {L : List LkC} {node : Int} {m n : Nat} (hm : m < n) (h : tch L node (m : Int) = 0) : (m : Int) ∈ incK L node n := by
  unfold incK
  refine List.mem_map.2 ⟨m, List.mem_filter.2 ⟨List.mem_range.2 hm, ?_⟩, rfl⟩
  simpa using h
theorem walkP_few (L : List LkC) (node head : Int) : (walkP L node head).1.length ≤ (incK L node L.length).length :=
  sub_len _ _ (walkP_good L node head).nodup fun x hx => by
    obtain ⟨k, rfl, hk⟩ := (walkP_good L node head).mem hx
    exact mem_incK hk (walkP_touch L node head _ hx)

/-! ### a chain that was laid -/
theorem prv_lay (node p n : Int) (x : LkC) : prv node (layL node p n x) = p := by
  unfold prv layL
  by_cases h : x.fr = node
  · rw [if_pos h]
    by_cases h2 : x.to = node
    · rw [if_pos h2, if_pos h]
    · rw [if_neg h2, if_pos h]
  · rw [if_neg h, if_neg h]
theorem nxt_lay (node p n : Int) (x : LkC) : nxt node (layL node p n x) = n := by
  unfold nxt layL
  by_cases h : x.fr = node
  · rw [if_pos h]
    by_cases h2 : x.to = node
    · rw [if_pos h2, if_pos h]
    · rw [if_neg h2, if_pos h]
  · rw [if_neg h, if_neg h]
theorem lop_lay {node : Int} (p n : Int) {x : LkC} (ht : tb x node = true) : lop (layL node p n x) = false := by
  unfold lop layL
  by_cases h : x.fr = node
  · rw [if_pos h]
    by_cases h2 : x.to = node
    · rw [if_pos h2]
      simp
    · rw [if_neg h2]
      have : ¬ x.fr = x.to := fun e => h2 (e ▸ h)
      simp [this]
  · rw [if_neg h]
    have h2 : x.to = node := by
      unfold tb at ht
      simpa [h] using ht
    have : ¬ x.fr = x.to := fun e => h (e.trans h2)
    simp [this]
theorem tb_lay (node' node p n : Int) (x : LkC) : tb (layL node p n x) node' = tb x node' ∧ (layL node p n x).lv = x.lv := by
  unfold tb layL
  split
  · split <;> exact ⟨rfl, rfl⟩
  · exact ⟨rfl, rfl⟩
/-- another node's side stays -/
theorem other_lay {a b p n : Int} {x : LkC} (hab : a ≠ b) (ha : tb x a = true) (hb : tb x b = true) : prv a (layL b p n x) = prv a x ∧ nxt a (layL b p n x) = nxt a x ∧ lop (layL b p n x) = false := by
  refine ⟨?_, ?_, lop_lay p n hb⟩
  all_goals
    unfold tb at ha hb
    simp only [Bool.or_eq_true, decide_eq_true_eq] at ha hb
    by_cases h : x.fr = b
    · have h2 : ¬ x.fr = a := fun e => hab (e.symm.trans h)
      have h3 : ¬ x.to = b := fun e => hab ((ha.resolve_left h2).symm.trans e)
      first | unfold prv layL | unfold nxt layL
      rw [if_pos h, if_neg h3, if_neg h2, if_neg h2]
    · have h3 := hb.resolve_left h
      have h2 : x.fr = a := ha.resolve_right fun e => hab (e.symm.trans h3)
      first | unfold prv layL | unfold nxt layL
      rw [if_neg h, if_pos h2, if_pos h2]
theorem nthD_setP {α : Type} [Inhabited α] {L : List α} {k : Nat} (h : k < L.length) (y : α) : nthD (L.set k y) k = y := by
  rw [nthD_lt (by simpa using h)]
  simp
theorem nthD_setN {α : Type} [Inhabited α] {L : List α} {k m : Nat} (h : m ≠ k) (y : α) : nthD (L.set m y) k = nthD L k := by
  simp [nthD, List.getD_eq_getElem?_getD, h]
theorem feP_zero {α : Type} {f : α → Int} : ∀ {L : List α}, fe f L = 0 → ∀ x ∈ L, f x = 0
  | [], _, x, hx => by cases hx
  | y :: r, h, x, hx => by
    have h2 : (if f y = 0 then fe f r else f y) = 0 := h
    split at h2
    · rename_i h0
      rcases List.mem_cons.1 hx with rfl | hx
      · exact h0
      · exact feP_zero h2 x hx
    · rename_i h0
      exact absurd h2 h0
theorem chkP_at {L : List LkC} {node : Int} {O : List Int} (h : chk L node O = 0) {k : Nat} (hk : k < O.length) : ∃ m : Nat, nthI O k = m ∧ m < L.length ∧ (nthD L m).lv = true ∧ tb (nthD L m) node = true ∧ ¬ (nthI O k ∈ O.take k) := by
  have h1 : cErr L node O k = 0 := feP_zero h k (by simpa using hk)
  unfold cErr at h1
  split at h1
  · rename_i h2
    split at h1
    · cases h1
    · rename_i h3
      obtain ⟨m, h4, h5, h6, h7⟩ := tch_ok h2
      exact ⟨m, h4, h5, h6, h7, h3⟩
  · rename_i h2
    exact absurd h1 h2
/-- the order has unlike ids -/
theorem chkP_unlike {L : List LkC} {node : Int} {O : List Int} (h : chk L node O = 0) {i j : Nat} (hij : i < j) (hj : j < O.length) : nthI O i ≠ nthI O j := fun e => by
  obtain ⟨m, _, _, _, _, h5⟩ := chkP_at h hj
  apply h5
  rw [← e, nthI_lt (by omega)]
  exact List.mem_take_iff_getElem.2 ⟨i, by omega, rfl⟩
theorem thrK_out (L : List LkC) (node : Int) (O : List Int) (m : Nat) : ∀ k, k ≤ O.length → (∀ j, j < k → (nthI O j).toNat ≠ m) → nthD (thrK L node O k) m = nthD L m
  | 0, _, _ => rfl
  | k + 1, hk, h => by
    have ih := thrK_out L node O m k (by omega) fun j hj => h j (by omega)
    unfold thrK
    rw [nthD_setN (h k (by omega))]
    exact ih
theorem thrK_in {L : List LkC} {node : Int} {O : List Int} (hc : chk L node O = 0) (k m : Nat) (hm : nthI O k = (m : Int)) (hml : m < L.length) : ∀ j, k < j → j ≤ O.length → nthD (thrK L node O j) m = layL node (atI O ((k : Int) - 1)) (atI O ((k : Int) + 1)) (nthD L m)
  | 0, h, _ => by omega
  | j + 1, h, hj => by
    rcases Nat.lt_or_ge k j with h1 | h1
    · have ih := thrK_in hc k m hm hml j h1 (by omega)
      unfold thrK
      rw [nthD_setN ?_]
      · exact ih
      · obtain ⟨q, hq, _⟩ := chkP_at hc (k := j) (by omega)
        have := chkP_unlike hc h1 (by omega)
        rw [hm, hq] at this
        rw [hq]
        omega
    · obtain rfl : j = k := by omega
      have ho := thrK_out L node O m j (by omega) fun i hi => by
        obtain ⟨q, hq, _⟩ := chkP_at hc (k := i) (by omega)
        have := chkP_unlike hc hi (by omega)
        rw [hm, hq] at this
        rw [hq]
        omega
      unfold thrK
      rw [hm, Int.toNat_natCast, nthD_setP (by rw [thrK_len]; exact hml), ho]
/-- what a list must be, for a chain to be walked -/
def Laid (U : List LkC) (node : Int) (O : List Int) : Prop := ∀ k, k < O.length → ∃ m : Nat, nthI O k = m ∧ m < U.length ∧ (nthD U m).lv = true ∧ tb (nthD U m) node = true ∧ prv node (nthD U m) = atI O ((k : Int) - 1) ∧ nxt node (nthD U m) = atI O ((k : Int) + 1) ∧ lop (nthD U m) = false
theorem atI_in {O : List Int} {k : Nat} (h : k < O.length) : atI O k = nthI O k := by
  unfold atI
  rw [if_neg (by omega), Int.toNat_natCast]
theorem atI_end {O : List Int} {k : Int} (h : (O.length : Int) ≤ k) : atI O k = -1 := by
  unfold atI
  rw [if_pos (.inr h)]
theorem lst_takeI {O : List Int} {k : Nat} (hk : k ≤ O.length) : lst (O.take k) = atI O ((k : Int) - 1) := by
  rcases Nat.eq_zero_or_pos k with rfl | h0
  · unfold atI
    rw [if_pos (by omega)]
    rfl
  · obtain ⟨q, rfl⟩ : ∃ q, k = q + 1 := ⟨k - 1, by omega⟩
    rw [show (((q + 1 : Nat) : Int) - 1) = (q : Int) from by omega, atI_in (by omega), nthI_lt (by omega)]
    exact lst_take (List.getElem?_eq_getElem (by omega))
theorem walk_laid {U : List LkC} {node : Int} {O : List Int} (h : Laid U node O) : ∀ (r k fuel : Nat), k + r = O.length → r < fuel → wk U node fuel (O.take k) (atI O k) = (O, 0)
  | 0, k, fuel, hk, hf => by
    obtain ⟨f, rfl⟩ : ∃ f, fuel = f + 1 := ⟨fuel - 1, by omega⟩
    unfold wk
    rw [atI_end (by omega), if_pos rfl, List.take_of_length_le (by omega)]
  | r + 1, k, fuel, hk, hf => by
    obtain ⟨f, rfl⟩ : ∃ f, fuel = f + 1 := ⟨fuel - 1, by omega⟩
    obtain ⟨m, h1, h2, h3, h4, h5, h6, h7⟩ := h k (by omega)
    have he : wErr U node (O.take k) (m : Int) = 0 := by
      unfold wErr
      rw [if_pos (tch_at h2 h3 h4), Int.toNat_natCast, h5, lst_takeI (by omega), if_pos rfl, h7]
      rfl
    unfold wk
    rw [atI_in (by omega), h1, if_neg (by omega), if_pos he, Int.toNat_natCast, h6, ← h1, ← takeI_succ (by omega)]
    exact walk_laid h r (k + 1) f (by omega) (by omega)
theorem Laid.len {U : List LkC} {node : Int} {O : List Int} (h : Laid U node O) (hu : ∀ i j, i < j → j < O.length → nthI O i ≠ nthI O j) : O.length ≤ U.length := by
  have h1 := few U.length (O.map Int.toNat) (fun x hx => by
    obtain ⟨y, hy, rfl⟩ := List.mem_map.1 hx
    obtain ⟨k, hk, e⟩ := List.mem_iff_getElem.1 hy
    obtain ⟨m, h1, h2, _⟩ := h k hk
    rw [nthI_lt hk, e] at h1
    omega) (by
    rw [List.Nodup, List.pairwise_iff_getElem]
    intro i j hi hj hij e
    simp only [List.length_map] at hi hj
    simp only [List.getElem_map] at e
    obtain ⟨m, h1, _⟩ := h i hi
    obtain ⟨q, h2, _⟩ := h j hj
    have := hu i j hij hj
    rw [nthI_lt hi] at h1 this
    rw [nthI_lt hj] at h2 this
    omega)
  simpa using h1
theorem walkP_laid {U : List LkC} {node : Int} {O : List Int} (h : Laid U node O) (hu : ∀ i j, i < j → j < O.length → nthI O i ≠ nthI O j) : walkP U node (atI O 0) = (O, 0) := by
  have := walk_laid h O.length 0 (U.length + 1) (by omega) (by have := h.len hu; omega)
  unfold walkP
  simpa using this
theorem Laid.thr {L : List LkC} {node : Int} {O : List Int} (hc : chk L node O = 0) : Laid (thrK L node O O.length) node O := fun k hk => by
  obtain ⟨m, h1, h2, h3, h4, h5⟩ := chkP_at hc hk
  have hin := thrK_in hc k m h1 h2 O.length hk (Nat.le_refl _)
  refine ⟨m, h1, by rw [thrK_len]; exact h2, ?_⟩
  rw [hin]
  exact ⟨(tb_lay 0 _ _ _ _).2.trans h3, (tb_lay _ _ _ _ _).1.trans h4, prv_lay _ _ _ _, nxt_lay _ _ _ _, lop_lay _ _ h4⟩
/-- a walk from a place that is no head -/
theorem walkP_mid {U : List LkC} {node : Int} {O : List Int} (h : Laid U node O) {k : Nat} (h0 : 0 < k) (hk : k < O.length) : walkP U node (nthI O k) = ([], 101) := by
  obtain ⟨m, h1, h2, h3, h4, h5, h6, h7⟩ := h k hk
  obtain ⟨q, e1, _⟩ := h (k - 1) (by omega)
  have e2 : atI O ((k : Int) - 1) = (q : Int) := by rw [show (k : Int) - 1 = ((k - 1 : Nat) : Int) from by omega, atI_in (by omega), e1]
  have he : wErr U node [] (m : Int) = 101 := by
    unfold wErr
    rw [if_pos (tch_at h2 h3 h4), Int.toNat_natCast, h5, e2, if_neg]
    intro e
    have : lst [] = -1 := rfl
    omega
  unfold walkP wk
  rw [h1, if_neg (by omega), he, if_neg (by decide)]
/-- another node's chain stays -/
theorem Laid.apart {T : List LkC} {a b : Int} {O O' : List Int} (hab : a ≠ b) (h : Laid T a O) (hc : chk T b O' = 0) : Laid (thrK T b O' O'.length) a O := fun k hk => by
  obtain ⟨m, h1, h2, h3, h4, h5, h6, h7⟩ := h k hk
  refine ⟨m, h1, by rw [thrK_len]; exact h2, ?_⟩
  by_cases hin : ∃ j, j < O'.length ∧ nthI O' j = (m : Int)
  · obtain ⟨j, hj, hje⟩ := hin
    obtain ⟨q, k1, k2, k3, k4, k5⟩ := chkP_at hc hj
    obtain rfl : q = m := by omega
    rw [thrK_in hc j q hje k2 O'.length hj (Nat.le_refl _)]
    obtain ⟨o1, o2, o3⟩ := other_lay (p := atI O' ((j : Int) - 1)) (n := atI O' ((j : Int) + 1)) hab h4 k4
    exact ⟨(tb_lay 0 _ _ _ _).2.trans h3, (tb_lay _ _ _ _ _).1.trans h4, o1.trans h5, o2.trans h6, o3⟩
  · rw [thrK_out T b O' m O'.length (Nat.le_refl _) fun j hj e => hin ⟨j, hj, by
      obtain ⟨q, k1, _⟩ := chkP_at hc hj
      omega⟩]
    exact ⟨h3, h4, h5, h6, h7⟩
theorem chk_nil (L : List LkC) (node : Int) : chk L node [] = 0 := rfl
end Go.Proofs.Ytpdaiiakdlngjaa

/- recfile: a file's bytes as a list of records (pure). -/
import Derived.Test.YtcclcecjidlojaaDoorRfBack
import Derived.Test.YtcclcecjidlojaaDoorPool
namespace Go.Proofs.YtcclcecjidlojaaDoor
open Go.RowKit
set_option linter.unusedVariables false

def flagN (b : Bool) : Nat := if b = true then 1 else 0
def rcB (r : Rc) : List Nat := flagN r.used :: r.data
/-- the records' bytes -/
def recB (L : List Rc) : List Nat := L.flatMap rcB
/-- a record that isn't in use -/
def offR (s : Nat) : Rc := ⟨false, List.replicate (s - 1) 0⟩
def RcOk (s : Nat) (r : Rc) : Prop := r.data.length + 1 = s ∧ IsBytes r.data ∧ (r.used = false → r.data = List.replicate (s - 1) 0)
def Rcs (L : List Rc) (s : Nat) : Prop := ∀ r ∈ L, RcOk s r
def usedL (L : List Rc) (id : Int) : Bool := decide (0 ≤ id) && decide (id < (L.length : Int)) && (nthD L id.toNat).used
def grownL (L : List Rc) (s id : Nat) : List Rc := L ++ List.replicate (id + 1 - L.length) (offR s)
def putL (L : List Rc) (s id : Nat) (D : List Nat) : List Rc := (grownL L s id).set id ⟨true, D⟩
def freeL (L : List Rc) (s id : Nat) : List Rc := L.set id (offR s)
def liveL (L : List Rc) (k : Nat) : Nat := (L.take k).countP Rc.used
theorem offR_ok {s : Nat} (hs : 0 < s) : RcOk s (offR s) := ⟨by simp [offR]; omega, zeros_bytes _, fun _ => rfl⟩
theorem flagN_lt (b : Bool) : flagN b < 256 := by cases b <;> decide
theorem recB_app (A B : List Rc) : recB (A ++ B) = recB A ++ recB B := List.flatMap_append
theorem recB_len {L : List Rc} {s : Nat} (h : Rcs L s) : (recB L).length = L.length * s := by
  induction L with
  | nil => simp [recB]
  | cons x r ih =>
    have h1 := (h x List.mem_cons_self).1
    have h2 := ih fun y hy => h y (List.mem_cons_of_mem _ hy)
    have e : recB (x :: r) = rcB x ++ recB r := rfl
    rw [e, List.length_append, h2, List.length_cons, Nat.add_mul]
    simp only [rcB, List.length_cons]
    omega
theorem recB_bytes {L : List Rc} {s : Nat} (h : Rcs L s) : IsBytes (recB L) := by
  intro x hx
  obtain ⟨r, hr, hx⟩ := List.mem_flatMap.1 hx
  simp only [rcB, List.mem_cons] at hx
  rcases hx with rfl | hx
  · exact flagN_lt _
  · exact (h r hr).2.1 x hx
theorem Rcs.take {L : List Rc} {s : Nat} (h : Rcs L s) (k : Nat) : Rcs (L.take k) s := fun r hr => h r (List.mem_of_mem_take hr)
theorem Rcs.at_ {L : List Rc} {s k : Nat} (h : Rcs L s) (hk : k < L.length) : RcOk s (nthD L k) := by rw [nthD_lt hk]; exact h _ (List.getElem_mem hk)
theorem recB_split {L : List Rc} {k : Nat} (h : k < L.length) : recB L = recB (L.take k) ++ (rcB (nthD L k) ++ recB (L.drop (k + 1))) := by
  have e : recB L = recB (L.take k ++ (nthD L k :: L.drop (k + 1))) := by rw [← dropD h, List.take_append_drop]
  rw [e, recB_app]
  rfl
theorem recB_pre {L : List Rc} {s k : Nat} (h : Rcs L s) (hk : k < L.length) : (recB (L.take k)).length = k * s := by
  rw [recB_len (h.take k), List.length_take, Nat.min_eq_left (by omega)]
theorem recB_flag {L : List Rc} {s k : Nat} (h : Rcs L s) (hk : k < L.length) : nth (recB L) (k * s) = flagN (nthD L k).used := by
  have hp := recB_pre h hk
  rw [recB_split hk]
  unfold nth
  rw [List.getD_eq_getElem?_getD, List.getElem?_append_right (by omega), hp, Nat.sub_self]
  rfl
theorem recB_data {L : List Rc} {s k : Nat} (h : Rcs L s) (hk : k < L.length) : recD (recB L) s k = (nthD L k).data := by
  have hp := recB_pre h hk
  have hd := (h.at_ hk).1
  unfold recD
  rw [recB_split hk, List.drop_take, List.drop_append, List.drop_of_length_le (by omega), hp, show k * s + 1 - k * s = 1 from by omega, show k * s + s - (k * s + 1) = (nthD L k).data.length from by omega]
  show (([] ++ ((nthD L k).data ++ recB (L.drop (k + 1)))).take _) = _
  rw [List.nil_append, List.take_left']
  rfl
theorem flag_one (b : Bool) : decide (flagN b = 1) = b := by cases b <;> rfl
theorem usedB_recB {L : List Rc} {s : Nat} (h : Rcs L s) (id : Int) : usedB (recB L) s L.length id = usedL L id := by
  unfold usedB usedL
  by_cases h0 : 0 ≤ id
  · by_cases h1 : id < (L.length : Int)
    · rw [recB_flag h (by omega), flag_one]
    · simp [h1]
  · simp [h0]
theorem usedL_nat {L : List Rc} {id : Int} (h : usedL L id = true) : ∃ k : Nat, id = k ∧ k < L.length ∧ (nthD L k).used = true := by
  unfold usedL at h
  simp only [Bool.and_eq_true, decide_eq_true_eq] at h
  exact ⟨id.toNat, by omega, by omega, h.2⟩
theorem usedL_at {L : List Rc} {k : Nat} (hk : k < L.length) : usedL L (k : Int) = (nthD L k).used := by
  unfold usedL
  simp [hk]
theorem liveN_recB {L : List Rc} {s : Nat} (h : Rcs L s) : ∀ k, k ≤ L.length → liveN (recB L) s k = liveL L k
  | 0, _ => by simp [liveN, liveL]
  | k + 1, hk => by
    show liveN (recB L) s k + (if nth (recB L) (k * s) = 1 then 1 else 0) = _
    rw [liveN_recB h k (by omega), recB_flag h (by omega)]
    unfold liveL
    rw [takeD_succ (by omega), List.countP_append]
    cases hu : (nthD L k).used <;> simp [flagN, hu]
theorem recB_off (s m : Nat) (hs : 0 < s) : recB (List.replicate m (offR s)) = List.replicate (m * s) 0 := by
  induction m with
  | zero => simp [recB]
  | succ m ih =>
    rw [List.replicate_succ]
    have e : ∀ r, recB (offR s :: r) = rcB (offR s) ++ recB r := fun _ => rfl
    have e2 : rcB (offR s) = List.replicate s 0 := by
      obtain ⟨q, rfl⟩ : ∃ q, s = q + 1 := ⟨s - 1, by omega⟩
      rfl
    rw [e, ih, e2, List.replicate_append_replicate, Nat.add_mul]
    congr 1
    omega
theorem grownL_len (L : List Rc) (s id : Nat) : (grownL L s id).length = max L.length (id + 1) := by
  unfold grownL
  rw [List.length_append, List.length_replicate]
  omega
theorem grownL_ok {L : List Rc} {s : Nat} (h : Rcs L s) (hs : 0 < s) (id : Nat) : Rcs (grownL L s id) s := by
  intro r hr
  rcases List.mem_append.1 hr with hr | hr
  · exact h r hr
  · rw [List.eq_of_mem_replicate hr]
    exact offR_ok hs
theorem grown_recB {L : List Rc} {s : Nat} (h : Rcs L s) (hs : 0 < s) (id : Nat) : growR (recB L) (id * s + s) = recB (grownL L s id) := by
  unfold growR grownL
  rw [recB_app, recB_off _ _ hs, recB_len h]
  congr 2
  rw [Nat.sub_mul, Nat.add_mul, Nat.one_mul]
theorem grown_lt {L : List Rc} {s id k : Nat} (h : k < L.length) : nthD (grownL L s id) k = nthD L k := by
  unfold nthD grownL
  rw [List.getD_eq_getElem?_getD, List.getD_eq_getElem?_getD, List.getElem?_append_left h]
theorem grown_ge {L : List Rc} {s id k : Nat} (h : L.length ≤ k) (h2 : k ≤ id) : nthD (grownL L s id) k = offR s := by
  unfold nthD grownL
  rw [List.getD_eq_getElem?_getD, List.getElem?_append_right h, List.getElem?_replicate, if_pos (by omega)]
  rfl
theorem set_rec {M : List Rc} {s id : Nat} (h : Rcs M s) (hid : id < M.length) (x : Rc) (hx : x.data.length + 1 = s) : recB (M.set id x) = recB (M.take id) ++ (rcB x ++ recB (M.drop (id + 1))) := by
  rw [List.set_eq_take_append_cons_drop, if_pos hid, recB_app]
  rfl
theorem flag_rec {M : List Rc} {s id : Nat} (h : Rcs M s) (hid : id < M.length) : (recB M).set (id * s) 1 = recB (M.set id ⟨true, (nthD M id).data⟩) := by
  have hp := recB_pre h hid
  rw [set_rec h hid ⟨true, (nthD M id).data⟩ (h.at_ hid).1, recB_split hid, ← hp, List.set_append_right _ _ (Nat.le_refl _), Nat.sub_self]
  rfl
theorem lay_rec {M : List Rc} {s id : Nat} (h : Rcs M s) (hid : id < M.length) (D : List Nat) (hD : D.length + 1 = s) : layB (recB M) (id * s + 1) D = recB (M.set id ⟨(nthD M id).used, D⟩) := by
  have hp := recB_pre h hid
  have hd := (h.at_ hid).1
  have hl : id * s + 1 + D.length ≤ (recB M).length := by
    rw [recB_split hid, List.length_append, List.length_append, hp]
    simp only [rcB, List.length_cons]
    omega
  have h1 : (recB M).take (id * s + 1) = recB (M.take id) ++ [flagN (nthD M id).used] := by
    rw [recB_split hid, show id * s + 1 = (recB (M.take id)).length + 1 from by omega, List.take_length_add_append]
    rfl
  have h2 : (recB M).drop (id * s + 1 + D.length) = recB (M.drop (id + 1)) := by
    rw [recB_split hid, show id * s + 1 + D.length = (recB (M.take id)).length + ((nthD M id).data.length + 1) from by omega, List.drop_length_add_append]
    exact List.drop_left' rfl
  rw [set_rec h hid _ hD, layB_eq _ _ _ hl, h1, h2, List.append_assoc]
  rfl
theorem free_rec {M : List Rc} {s id : Nat} (h : Rcs M s) (hs : 0 < s) (hid : id < M.length) : layB (recB M) (id * s) (List.replicate s 0) = recB (freeL M s id) := by
  have hp := recB_pre h hid
  have hd := (h.at_ hid).1
  have hl : id * s + (List.replicate s 0).length ≤ (recB M).length := by
    rw [recB_split hid, List.length_append, List.length_append, hp, List.length_replicate]
    simp only [rcB, List.length_cons]
    omega
  unfold freeL
  rw [set_rec h hid _ (offR_ok hs).1, layB_eq _ _ _ hl, recB_split hid, List.take_left' hp, List.drop_append, List.drop_of_length_le (by omega), hp, List.length_replicate,
    show id * s + s - id * s = (rcB (nthD M id)).length from by simp only [rcB, List.length_cons]; omega, List.drop_left' rfl, List.nil_append]
  congr 2
  obtain ⟨q, rfl⟩ : ∃ q, s = q + 1 := ⟨s - 1, by omega⟩
  rfl
theorem set_ok {M : List Rc} {s : Nat} (h : Rcs M s) (id : Nat) {x : Rc} (hx : RcOk s x) : Rcs (M.set id x) s := by
  intro r hr
  rcases List.mem_or_eq_of_mem_set hr with hr | rfl
  · exact h r hr
  · exact hx
theorem nthD_set {α : Type} [Inhabited α] {M : List α} {id : Nat} (hid : id < M.length) (x : α) : nthD (M.set id x) id = x := by
  rw [nthD_lt (by simpa using hid), List.getElem_set_self]
theorem taken_rec {L : List Rc} {s id : Nat} (h : Rcs L s) (hs : 0 < s) : takenR (recB L) s L.length id = recB ((grownL L s id).set id ⟨true, (nthD (grownL L s id) id).data⟩) := by
  have hg := grownL_ok h hs id
  have hl := grownL_len L s id
  rw [← flag_rec hg (by omega), ← grown_recB h hs]
  unfold takenR
  split
  · rename_i hu
    have hlt := usedB_lt hu
    rw [usedB_recB h, usedL_at hlt] at hu
    have hin := rec_in (recB_len h) hlt
    rw [growR_no hin]
    have hf := recB_flag h hlt
    rw [hu] at hf
    have hk : id * s < (recB L).length := by omega
    rw [nth_lt hk] at hf
    exact (by rw [show (1 : Nat) = (recB L)[id * s] from hf.symm, List.set_getElem_self] : recB L = (recB L).set (id * s) 1)
  · rfl
/-- Put, of the bytes and of the records -/
theorem put_rec {L : List Rc} {s id : Nat} (h : Rcs L s) (hs : 0 < s) (D : List Nat) (hD : D.length + 1 = s) (hb : IsBytes D) :
    layB (takenR (recB L) s L.length id) (id * s + 1) D = recB (putL L s id D) ∧ Rcs (putL L s id D) s ∧ (putL L s id D).length = putN (recB L) s L.length id ∧ id < (putL L s id D).length := by
  have hg := grownL_ok h hs id
  have hl := grownL_len L s id
  have hid : id < (grownL L s id).length := by omega
  have h1 : Rcs ((grownL L s id).set id ⟨true, (nthD (grownL L s id) id).data⟩) s := set_ok hg id ⟨(hg.at_ hid).1, (hg.at_ hid).2.1, fun h => by cases h⟩
  refine ⟨?_, set_ok hg id ⟨hD, hb, fun h => by cases h⟩, ?_, ?_⟩
  · rw [taken_rec h hs, lay_rec h1 (by simpa using hid) D hD, nthD_set hid, List.set_set]
    rfl
  · unfold putL putN
    rw [List.length_set, hl, usedB_recB h]
    split
    · rename_i hu
      obtain ⟨k, hk, hk2, -⟩ := usedL_nat hu
      omega
    · rfl
  · unfold putL
    rw [List.length_set]
    exact hid
/-- Alloc, of the bytes and of the records -/
theorem alloc_rec {L : List Rc} {s F : Nat} (h : Rcs L s) (hs : 0 < s) (hu : usedL L (F : Int) = false) : (growR (recB L) (F * s + s)).set (F * s) 1 = recB (putL L s F (List.replicate (s - 1) 0)) := by
  have hg := grownL_ok h hs F
  have hl := grownL_len L s F
  have hid : F < (grownL L s F).length := by omega
  rw [grown_recB h hs, flag_rec hg hid]
  unfold putL
  congr 3
  refine (hg.at_ hid).2.2 ?_
  rcases Nat.lt_or_ge F L.length with h2 | h2
  · rw [usedL_at h2] at hu
    rw [grown_lt h2]
    exact hu
  · rw [grown_ge h2 (Nat.le_refl _)]
    rfl
/-- the records that bytes are -/
def docL (R : List Nat) (s : Nat) (n : Nat) : List Rc := (List.range n).map fun j => ⟨decide (nth R (j * s) = 1), recD R s j⟩
theorem docL_len (R : List Nat) (s n : Nat) : (docL R s n).length = n := by simp [docL]
theorem docL_succ (R : List Nat) (s n : Nat) : docL R s (n + 1) = docL R s n ++ [⟨decide (nth R (n * s) = 1), recD R s n⟩] := by
  unfold docL
  rw [List.range_succ, List.map_append]
  rfl
theorem rec_flag {R : List Nat} {s j : Nat} (h : recErr R s j = 0) : nth R (j * s) = flagN (decide (nth R (j * s) = 1)) ∧ (nth R (j * s) ≠ 1 → zeroB ((R.take (j * s + s)).drop (j * s)) = true) := by
  unfold recErr at h
  by_cases h0 : nth R (j * s) = 0
  · rw [if_pos h0] at h
    refine ⟨by rw [h0]; rfl, fun _ => ?_⟩
    by_cases hz : zeroB ((R.take (j * s + s)).drop (j * s)) = true
    · exact hz
    · rw [if_neg hz] at h
      exact absurd h (by decide)
  · rw [if_neg h0] at h
    by_cases h1 : nth R (j * s) = 1
    · exact ⟨by rw [h1]; rfl, fun h => absurd h1 h⟩
    · rw [if_neg h1] at h
      exact absurd h (by decide)
theorem rec_cut {R : List Nat} {s n j : Nat} (hs : 0 < s) (hR : R.length = n * s) (hj : j < n) : (R.take (j * s + s)).drop (j * s) = nth R (j * s) :: recD R s j := by
  have hin := rec_in hR hj
  unfold recD
  have hlt : j * s < (R.take (j * s + s)).length := by rw [List.length_take]; omega
  rw [List.drop_eq_getElem_cons hlt, List.getElem_take, ← nth_lt]
theorem all_zero {L : List Nat} (h : zeroB L = true) : L = List.replicate L.length 0 := by
  refine List.ext_getElem (by simp) fun i h1 h2 => ?_
  have := (zeroB_iff.2 h) i
  rw [nth_lt h1] at this
  rw [this]
  simp
theorem docL_rec {R : List Nat} {s n : Nat} (hs : 0 < s) (hb : IsBytes R) (hR : R.length = n * s) (he : ∀ j, j < n → recErr R s j = 0) : ∀ k, k ≤ n → recB (docL R s k) = R.take (k * s) ∧ Rcs (docL R s k) s
  | 0, _ => ⟨by simp [docL, recB], fun r hr => by simp [docL] at hr⟩
  | k + 1, hk => by
    obtain ⟨h1, h2⟩ := docL_rec hs hb hR he k (by omega)
    obtain ⟨h3, h4⟩ := rec_flag (he k (by omega))
    have hc := rec_cut (s := s) hs hR (j := k) (by omega)
    have hin := rec_in hR (show k < n by omega)
    rw [docL_succ]
    refine ⟨?_, ?_⟩
    · rw [recB_app, h1, Nat.add_mul, Nat.one_mul]
      have e : R.take (k * s + s) = R.take (k * s) ++ (R.take (k * s + s)).drop (k * s) := by
        conv => lhs; rw [← List.take_append_drop (k * s) (R.take (k * s + s))]
        rw [List.take_take, Nat.min_eq_left (by omega)]
      rw [e, hc]
      congr 1
      show (flagN _ :: recD R s k) ++ [] = _
      rw [List.append_nil, ← h3]
    · intro r hr
      rcases List.mem_append.1 hr with hr | hr
      · exact h2 r hr
      · simp only [List.mem_singleton] at hr
        subst hr
        refine ⟨by show (recD R s k).length + 1 = s; rw [recD_len hin]; omega, (hb.take _).drop _, fun hu => ?_⟩
        have hz := h4 (of_decide_eq_false hu)
        rw [hc] at hz
        have hz2 : zeroB (recD R s k) = true := by
          unfold zeroB at hz ⊢
          rw [List.all_cons, Bool.and_eq_true] at hz
          exact hz.2
        have := all_zero hz2
        rw [recD_len hin] at this
        exact this
theorem docL_all {R : List Nat} {s n : Nat} (hs : 0 < s) (hb : IsBytes R) (hR : R.length = n * s) (he : ∀ j, j < n → recErr R s j = 0) : recB (docL R s n) = R ∧ Rcs (docL R s n) s := by
  obtain ⟨h1, h2⟩ := docL_rec hs hb hR he n (Nat.le_refl _)
  exact ⟨by rw [h1, ← hR, List.take_length], h2⟩
end Go.Proofs.YtcclcecjidlojaaDoor

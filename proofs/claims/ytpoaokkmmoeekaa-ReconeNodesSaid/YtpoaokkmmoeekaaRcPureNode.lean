/- A node's record, written: pure. -/
import Derived.Test.YtpoaokkmmoeekaaRcPureA
import Derived.Test.YtpoaokkmmoeekaaRcNode2
namespace Go.Proofs.Ytpoaokkmmoeekaa
open Go.RowKit
set_option linter.unusedVariables false

/-- labels that may stand, behind p -/
def okTo (p : Int) : List Int → Bool
  | [] => true
  | x :: r => inR 0 200 x && decide (p < x) && okTo x r
theorem okTo_eq : ∀ (L : List Int) (p : Int), -1 ≤ p → (L.all (inR (-1) 200) && asc p L) = okTo p L
  | [], _, _ => rfl
  | x :: r, p, hp => by
    by_cases h : p < x
    · have h1 : inR (-1) 200 x = inR 0 200 x := by
        unfold inR
        rw [decide_eq_true (by omega : (-1 : Int) ≤ x), decide_eq_true (by omega : (0 : Int) ≤ x)]
      have ih := okTo_eq r x (by omega)
      simp only [List.all_cons, asc, okTo, h1, decide_eq_true h, Bool.and_true, Bool.true_and]
      rw [← ih]
      cases inR 0 200 x <;> cases r.all (inR (-1) 200) <;> rfl
    · simp only [List.all_cons, asc, okTo, decide_eq_false h, Bool.false_and, Bool.and_false]
def labR (L : List Int) : Bool := okTo (-1) L && decide (L.length < 9)
/-- a label's byte -/
def labN (x : Int) : Nat := uIn (wrap64 (x + 1)) % 256
def labB (L : List Int) : List Nat := (pl8 L).map labN
def refNodeOk (r p : Int) (L : List Int) : Bool := inR (-1) 2048 r && inR (-1) 65536 p && labR L
def refNodeB (r p : Int) (L : List Int) : List Nat := ptrB r ++ ptrB p ++ labB L
theorem labB_length (L : List Int) : (labB L).length = 8 := by unfold labB; rw [List.length_map, pl8_length]
theorem labS_w (B : List Nat) (P : List Int) : ∀ k, k ≤ P.length → labS (.w B) P k = .w (B ++ (P.take k).map labN)
  | 0, _ => by simp [labS]
  | k + 1, h => by
    unfold labS
    rw [labS_w B P k (by omega)]
    unfold Cs.go Cs.aft
    simp only
    rw [putNum_one, fIn_one, takeI_succ (by omega), List.map_append, ← List.append_assoc]
    rfl
theorem labV_w (B : List Nat) (P : List Int) (hP : ∀ x ∈ P, isI x) (k : Nat) (h : k < P.length) : labV (.w B) P k = nthI P k := by
  unfold labV
  rw [labS_w B P k (by omega)]
  unfold Cs.val Cs.num
  simp only
  exact out_in _ _ (hP _ (by rw [nthI_lt h]; exact List.getElem_mem h)) (by omega)
theorem labW_w (B : List Nat) (w : Bool) (P : List Int) (hP : ∀ x ∈ P, isI x) : ∀ k, k ≤ P.length → labW (.w B) w P k = (w || !(P.take k).all (inR (-1) 200))
  | 0, _ => by simp [labW]
  | k + 1, h => by
    unfold labW
    rw [labW_w B w P hP k (by omega), labV_w B P hP k (by omega), takeI_succ (by omega), List.all_append]
    simp only [List.all_cons, List.all_nil, Bool.and_true]
    cases w <;> cases (P.take k).all (inR (-1) 200) <;> rfl
theorem pl8_isI (L : List Int) (hL : ∀ x ∈ L, isI x) : ∀ x ∈ pl8 L, isI x := by
  intro x hx
  unfold pl8 at hx
  rcases List.mem_append.1 hx with h | h
  · exact hL x (List.mem_of_mem_take h)
  · obtain ⟨-, rfl⟩ := List.mem_replicate.1 h
    unfold isI
    omega
theorem pl8_all (L : List Int) (h : L.length ≤ 8) : (pl8 L).all (inR (-1) 200) = L.all (inR (-1) 200) := by
  unfold pl8
  rw [List.take_of_length_le h, List.all_append]
  have : (List.replicate (8 - L.length) (-1 : Int)).all (inR (-1) 200) = true := by
    rw [List.all_eq_true]
    intro x hx
    obtain ⟨-, rfl⟩ := List.mem_replicate.1 hx
    decide
  rw [this, Bool.and_true]
theorem putNQ_eq (r p : Int) (L : List Int) (hr : isI r) (hp : isI p) (hL : ∀ x ∈ L, isI x) : putNQ r p L = (.w (refNodeB r p L), !refNodeOk r p L) := by
  have e1 : nodeQ1 (.w [], false) r = (.w ([] ++ putNum 4 (fIn r (-1))), false || !inR (-1) 2048 r) := fld_w _ _ _ _ _ _ hr (by omega)
  have e2 : nodeQ2 (.w [], false) r p = (.w ([] ++ putNum 4 (fIn r (-1)) ++ putNum 4 (fIn p (-1))), (false || !inR (-1) 2048 r) || !inR (-1) 65536 p) := by
    unfold nodeQ2
    rw [e1]
    exact fld_w _ _ _ _ _ _ hp (by omega)
  unfold putNQ nodeQ
  rw [e2]
  have h8 : (8 : Nat) ≤ (pl8 L).length := by rw [pl8_length]; omega
  unfold labWr labOut
  simp only
  rw [labS_w _ _ 8 h8, labW_w _ _ _ (pl8_isI L hL) 8 h8, List.take_of_length_le (by rw [pl8_length]; omega)]
  refine Prod.ext ?_ ?_
  · show Cs.w _ = Cs.w _
    unfold refNodeB ptrB labB
    rw [fIn_one, fIn_one, List.nil_append]
  · show (_ || !(decide ((if (Cs.w ([] ++ putNum 4 (fIn r (-1)) ++ putNum 4 (fIn p (-1)))).isw = true then L else _).length ≤ 8) && asc (-1) (if (Cs.w ([] ++ putNum 4 (fIn r (-1)) ++ putNum 4 (fIn p (-1)))).isw = true then L else _))) = _
    have hw : (Cs.w ([] ++ putNum 4 (fIn r (-1)) ++ putNum 4 (fIn p (-1)))).isw = true := rfl
    rw [if_pos hw]
    show _ = !refNodeOk r p L
    unfold refNodeOk labR
    by_cases hl : L.length ≤ 8
    · rw [pl8_all L hl, ← okTo_eq L (-1) (by omega), decide_eq_true hl, decide_eq_true (by omega : L.length < 9)]
      cases inR (-1) 2048 r <;> cases inR (-1) 65536 p <;> cases L.all (inR (-1) 200) <;> cases asc (-1) L <;> rfl
    · rw [decide_eq_false hl, decide_eq_false (by omega : ¬ L.length < 9)]
      cases inR (-1) 2048 r <;> cases inR (-1) 65536 p <;> cases (pl8 L).all (inR (-1) 200) <;> cases okTo (-1) L <;> rfl
theorem putNode_clean (A : Option Addr) (cap B : Nat) (r p : Int) (L : List Int) (hi : isI r ∧ isI p ∧ ∀ x ∈ L, isI x) (w : World) (hr : RL ivl w B A L) (hB : B ≤ w.heap.size) (hcap : L.length ≤ cap) (hm : cap ≤ maxLen) :
    Calls Try.prog 11 #[.agg #[.int .i64 r, .int .i64 p, .slice A L.length cap]] w (RefPut (refNodeOk r p L) (refNodeB r p L) w) := by
  have h := PutNode_any A cap B r p L w hr hB hcap hm
  have e : putNE r p L = if refNodeOk r p L = true then 0 else 41 := by
    unfold putNE
    rw [putNQ_eq r p L hi.1 hi.2.1 hi.2.2]
    unfold Cs.endE
    simp only
    cases refNodeOk r p L <;> rfl
  have e2 : (putNQ r p L).1.bytes = refNodeB r p L := by rw [putNQ_eq r p L hi.1 hi.2.1 hi.2.2]; rfl
  rw [e, e2] at h
  refine h.mono ?_
  rintro e' w' ⟨v, rfl, ho, hb⟩
  refine ⟨v, rfl, ?_, hb⟩
  by_cases hok : refNodeOk r p L = true
  · rw [if_pos hok, if_pos rfl] at ho
    rw [if_pos hok]
    exact ho
  · rw [if_neg hok, if_neg (by decide)] at ho
    rw [if_neg hok]
    exact ho
end Go.Proofs.Ytpoaokkmmoeekaa

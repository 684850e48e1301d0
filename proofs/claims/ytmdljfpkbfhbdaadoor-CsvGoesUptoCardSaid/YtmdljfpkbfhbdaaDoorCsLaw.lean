/- csv: what the laws share. -/
import Derived.Test.YtmdljfpkbfhbdaaDoorCsSpeak
namespace Go.Proofs.YtmdljfpkbfhbdaaDoor
open Go.RowKit
set_option linter.unusedVariables false

abbrev fsum (r : Rw) : Nat := (r.map fun f => 2 * f.size + 3).sum
theorem rd_weight : ∀ (l : Bs) (st : Cst) (row : Rw) (fd : Bs), rowsW (rd st row fd l).1 ≤ fsum row + 2 * fd.length + 5 + 7 * l.length
  | [], st, row, fd => by
    have h : rowsW [row ++ [mkS fd]] = fsum row + 2 * fd.length + 5 := by
      simp only [rowsW, rowW, List.map_cons, List.map_nil, List.sum_cons, List.sum_nil, List.map_append, List.sum_append, mkS_size, fsum]
      omega
    have h0 : rowsW [] = 0 := rfl
    cases st <;> simp only [rd]
    case b => split <;> simp only [h, h0] <;> omega
    case p => split <;> simp only [h, h0] <;> omega
    case c => split <;> simp only [h, h0] <;> omega
    all_goals (simp only [h0]; omega)
  | c :: l, st, row, fd => by
    have ih := fun st row fd => rd_weight l st row fd
    have h0 : rowsW [] = 0 := rfl
    have hs : fsum (row ++ [mkS fd]) = fsum row + (2 * fd.length + 3) := by simp [fsum, mkS_size]
    have hl : (c :: l).length = l.length + 1 := rfl
    have hn : fsum [] = 0 := rfl
    rw [hl]
    cases st with
    | k =>
      by_cases hc : c = 10
      · have e : rd .k row fd (c :: l) = consR row (rd .b [] [] l) := by simp [rd, hc]
        rw [e]
        have := ih .b [] []
        have h2 : rowsW (consR row (rd .b [] [] l)).1 = fsum row + 2 + rowsW (rd .b [] [] l).1 := by simp [consR, rowsW, rowW, fsum]
        rw [h2]
        simp only [hn, List.length_nil] at this
        omega
      · have e : rd .k row fd (c :: l) = ([], 211) := by simp [rd, hc]
        rw [e]
        simp only [h0]
        omega
    | q =>
      by_cases hc : c = 34
      · have e : rd .q row fd (c :: l) = rd .c row fd l := by simp [rd, hc]
        rw [e]
        have := ih .c row fd
        omega
      · have e : rd .q row fd (c :: l) = rd .q row (fd ++ [c]) l := by simp [rd, hc]
        rw [e]
        have := ih .q row (fd ++ [c])
        rw [List.length_append, List.length_singleton] at this
        omega
    | b | p | c =>
      simp only [rd]
      repeat' split
      all_goals first
        | (simp only [h0]; omega)
        | (have := ih .q row fd; omega)
        | (have := ih .q row (fd ++ [c]); rw [List.length_append, List.length_singleton] at this; omega)
        | (have := ih .p row (fd ++ [c]); rw [List.length_append, List.length_singleton] at this; omega)
        | (have := ih .b (row ++ [mkS fd]) []; rw [hs, List.length_nil] at this; omega)
        | (have := ih .k (row ++ [mkS fd]) []; rw [hs, List.length_nil] at this; omega)
theorem csvR_weight (l : Bs) : rowsW (csvR l).1 ≤ 5 + 7 * l.length := by
  have := rd_weight l .b [] []
  unfold csvR
  simpa [fsum] using this
theorem rows_few : ∀ X : List Rw, X.length ≤ rowsW X
  | [] => Nat.le_refl _
  | r :: X => by
    have := rows_few X
    have h : rowsW (r :: X) = rowW r + rowsW X := by simp [rowsW]
    have h2 : 2 ≤ rowW r := by unfold rowW; omega
    simp only [List.length_cons]
    omega
theorem Same_w (A A' : Option Addr) (cap cap' B B' : Nat) (X Y : List Rq) (w : World) (h : RsR w B A X) (h' : RsR w B' A' Y) (hb : rowsW (rowsOf X) ≤ 1073741824) (hb' : rowsW (rowsOf Y) ≤ 1073741824) :
    Calls Tryd.prog 14 #[.slice A X.length cap, .slice A' Y.length cap'] w (SameB (decide (rowsOf X = rowsOf Y)) w) := by
  have k : ∀ X : List Rq, rowsW (rowsOf X) ≤ 1073741824 → X.length ≤ 140737488351232 ∧ ∀ q ∈ X, q.L.length ≤ 140737488351232 := by
    intro X hb
    have h1 := rows_few (rowsOf X)
    rw [List.length_map] at h1
    refine ⟨by omega, fun q hq => ?_⟩
    have h2 := row_few q.L
    have h3 := row_le (X := rowsOf X) (List.mem_map.2 ⟨q, hq, rfl⟩)
    omega
  exact Same_any A A' cap cap' B B' X Y w h h' (k X hb).1 (k Y hb').1 (k X hb).2 (k Y hb').2
theorem Copy_w (A : Option Addr) (c B : Nat) (X : List Rq) (w : World) (hr : RsR w B A X) (hB : B ≤ w.heap.size) (hc : X.length ≤ c) (hb : rowsW (rowsOf X) ≤ 1073741824) :
    Calls Tryd.prog 11 #[.slice A X.length c] w fun e w' => ∃ A' c' Y, e = .returned (.slice A' X.length c') ∧ Y.length = X.length ∧ rowsOf Y = rowsOf X ∧ St Zf [RwsA (.slice A' X.length c') Y] w w' := by
  have h1 := rows_few (rowsOf X)
  rw [List.length_map] at h1
  refine (Copy_any A c B X w hr hB (by omega) hc (fun q hq => ?_)).mono ?_
  · have h2 := row_few q.L
    have h3 := row_le (X := rowsOf X) (List.mem_map.2 ⟨q, hq, rfl⟩)
    omega
  · rintro e w' ⟨A', c', Y, rfl, hY, h⟩
    have hl : Y.length = X.length := by
      have := congrArg List.length hY
      simpa using this
    rw [hl] at h ⊢
    exact ⟨A', c', Y, rfl, hl, hY, h⟩
/-- what Parse gives, in letters -/
def rowsP (s : ByteArray) : List Rw := if (csvR (lS s)).2 = 0 then (csvR (lS s)).1 else []
def errP (s : ByteArray) : Int := (csvR (lS s)).2
theorem rowsP_weight (s : ByteArray) : rowsW (rowsP s) ≤ 5 + 7 * s.size := by
  have h := csvR_weight (lS s)
  rw [lS_len] at h
  unfold rowsP
  split
  · exact h
  · exact Nat.zero_le _
theorem Parse_w (s : ByteArray) (w : World) (hl : s.size ≤ 1073741824) :
    Calls Tryd.prog 15 #[.string s] w fun e w' => ∃ A c X n, e = .returned (.tuple #[.slice A n c, .int .i64 (errP s)]) ∧ X.length = n ∧ rowsOf X = rowsP s ∧ St Zf [RwsA (.slice A n c) X] w w' := by
  refine (Parse_any s w hl).mono ?_
  rintro e w' ⟨v, X, rfl, h, hX⟩
  obtain ⟨A, c, rfl⟩ := h.rwsForm
  exact ⟨A, c, X, X.length, rfl, rfl, hX, h⟩
theorem RParse_w (s : ByteArray) (w : World) (hl : s.size ≤ 1073741824) :
    Calls Tryd.prog 16 #[.string s] w fun e w' => ∃ A c X n, e = .returned (.tuple #[.slice A n c, .int .i64 (errP s)]) ∧ X.length = n ∧ rowsOf X = rowsP s ∧ St Zf [RwsA (.slice A n c) X] w w' := by
  refine (RParse_any s w hl).mono ?_
  rintro e w' ⟨A, c, X, rfl, hX, h⟩
  exact ⟨A, c, X, X.length, rfl, rfl, hX, h⟩
theorem parse_back {R : List Rw} (h : ∀ r ∈ R, r ≠ []) : errP (mkS (rowsT R)) = 0 ∧ rowsP (mkS (rowsT R)) = R := by
  have h1 : csvR (lS (mkS (rowsT R))) = (R, 0) := csvR_rowsT R h
  unfold errP rowsP
  rw [h1]
  exact ⟨rfl, rfl⟩
theorem print_ok {R : List Rw} (h : ∀ r ∈ R, r ≠ []) : prE R = 0 ∧ prS R = mkS (rowsT R) := by
  have h1 := prE_ok h
  exact ⟨h1, by unfold prS; rw [if_pos h1]⟩
end Go.Proofs.YtmdljfpkbfhbdaaDoor

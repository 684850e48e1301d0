/- Values: plain facts (nothing of the program is walked here). -/
import Derived.Test.YthnaipgdjbaebaaGreatValCheck2
namespace Go.Proofs.YthnaipgdjbaebaaGreat
open Go.RowKit
set_option linter.unusedVariables false

theorem own_true {v : Vv} (h : ownB v = true) : (3 < v.k → v.n = 0) ∧ (v.k ≠ 4 → v.s.toList = []) ∧ ((v.k < 5 ∨ v.k = 8) → v.ns = []) ∧ (v.k ≠ 8 → v.ts = []) := by unfold ownB at h; exact of_decide_eq_true h
theorem own_false {v : Vv} (h : ownB v = false) : ¬ ((3 < v.k → v.n = 0) ∧ (v.k ≠ 4 → v.s.toList = []) ∧ ((v.k < 5 ∨ v.k = 8) → v.ns = []) ∧ (v.k ≠ 8 → v.ts = [])) := by unfold ownB at h; exact of_decide_eq_false h
theorem el_lo {v : Vv} (h : v.k < 4) : el v = numW v.k v.n := by
  unfold el
  rw [numsOf_num h, txtsOf_num h, elK_no (by omega)]
  by_cases h0 : numW v.k v.n = 0 <;> simp [fe, h0]
theorem el_four {v : Vv} (h : v.k = 4) : el v = txtW v.s := by
  unfold el
  rw [numsOf_text h, txtsOf_text h]
  by_cases h0 : txtW v.s = 0 <;> simp [fe, h0]

/-- what the call leaves -/
def Told (E : Int) (w : World) (e : Ending) (w' : World) : Prop := e = .returned (.int .i64 E) ∧ Below w.heap.size w w'

/-- the loops over the lists -/
theorem el_eight {v : Vv} (h : v.k = 8) (hn : v.ns = []) : el v = fe txtW v.ts := by
  unfold el
  rw [numsOf_list (by omega), txtsOf_list (by omega), hn]
  simp [fe]
theorem el_nums {v : Vv} (h : 4 < v.k) (hn : v.ts = []) : el v = fe (numW (v.k - 4)) v.ns := by
  unfold el
  rw [numsOf_list (by omega), txtsOf_list (by omega), hn, elK_yes h]
  by_cases h0 : fe (numW (v.k - 4)) v.ns = 0 <;> simp [fe, h0]

theorem str_inj {a b : ByteArray} (h : a.toList = b.toList) : a = b := by
  rw [ByteArray.toList_eq, ByteArray.toList_eq] at h
  cases a; cases b
  simp only at h
  rw [Array.toList_inj.1 h]
/-- are they one -/
def sameV (a b : Vv) : Bool := decide (a.k = b.k ∧ a.n = b.n ∧ a.s = b.s ∧ a.ns = b.ns ∧ a.ts = b.ts)
theorem sameV_eq (a b : Vv) : sameV a b = decide (a.k = b.k ∧ a.n = b.n ∧ a.s = b.s ∧ a.ns = b.ns ∧ a.ts = b.ts) := rfl
theorem sameV_self (a : Vv) : sameV a a = true := decide_eq_true ⟨rfl, rfl, rfl, rfl, rfl⟩
theorem sameV_yes {a b : Vv} (h : sameV a b = true) : a = b := by
  unfold sameV at h
  obtain ⟨h1, h2, h3, h4, h5⟩ := of_decide_eq_true h
  cases a; cases b; simp_all

/-- what a Bool call leaves -/
def Says (b : Bool) (w : World) (e : Ending) (w' : World) : Prop := e = .returned (.bool b) ∧ Below w.heap.size w w'


end Go.Proofs.YthnaipgdjbaebaaGreat

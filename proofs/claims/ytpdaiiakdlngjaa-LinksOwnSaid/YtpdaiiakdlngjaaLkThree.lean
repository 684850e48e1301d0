/- links: the law's three. -/
import Derived.Test.YtpdaiiakdlngjaaLk2
import Derived.Deep.Cut
import Derived.BigRegion
namespace Go.Proofs.Ytpdaiiakdlngjaa
open Go.RowKit
set_option linter.unusedVariables false
def threeL : List LkC := [⟨true, 5, 6, -1, -1, -1, -1⟩, ⟨true, 5, 5, -1, -1, -1, -1⟩, ⟨true, 6, 5, -1, -1, -1, -1⟩]
theorem below4 {n : Nat} {w w1 : World} (h : Below n w w1) (hn : n ≤ w1.heap.size) (a b c d : Obj) : Below n w ((((w1.alloc a).alloc b).alloc c).alloc d) :=
  (((h.alloc hn a).alloc (by simp; omega) b).alloc (by simp; omega) c).alloc (by simp; omega) d
theorem own_lit3 {base : Nat} {e : TypeId} (w1 : World) (a b c : Obj) (cs : Array Value) (hb : base ≤ w1.heap.size) (hs : cs.size = 3 * 7) :
    ((((w1.alloc a).alloc b).alloc c).alloc (.cells cs e)).ownsRow base e 7 (.slice (some ⟨w1.heap.size + 1 + 1 + 1, 0, none⟩) 3 3) 3 cs.toList := by
  have := World.ownsRow_lit (base := base) (e := e) (size := 7) (((w1.alloc a).alloc b).alloc c) cs 3 (by simp; omega) (by unfold maxLen; omega) hs
  simpa using this
set_option maxRecDepth 100000 in
set_option maxHeartbeats 4000000 in
theorem three_any (w : World) : Calls Try.prog 20 #[] w (NewLk threeL w) := by
  have hb := fun w : World => run_build (P := Try.prog) w 46 #[(0, .bool true), (3, .int .i64 (-1)), (5, .int .i64 (-1)), (4, .int .i64 (-1)), (6, .int .i64 (-1))] #[.bool true, .int .i64 0, .int .i64 0, .int .i64 (-1), .int .i64 (-1), .int .i64 (-1), .int .i64 (-1)] (by kernel_rfl)
  go_enter Try.func20, Try.ntmps20
  go_upto_region 2 with fail
  have hB := Blk.new w 46 #[.bool true, .int .i64 0, .int .i64 0, .int .i64 (-1), .int .i64 (-1), .int .i64 (-1), .int .i64 (-1)]
  obtain ⟨w1, hw1⟩ : ∃ q, q = w.alloc (Obj.cells #[.bool true, .int .i64 0, .int .i64 0, .int .i64 (-1), .int .i64 (-1), .int .i64 (-1), .int .i64 (-1)] 46) := ⟨_, rfl⟩
  have hs1 : w.heap.size < w1.heap.size := by rw [hw1]; simp
  have HB := Lib.hid ((Below.refl w.heap.size w).alloc (Nat.le_refl _) (Obj.cells #[.bool true, .int .i64 0, .int .i64 0, .int .i64 (-1), .int .i64 (-1), .int .i64 (-1), .int .i64 (-1)] 46))
  rw [← hw1] at hB HB ⊢
  have HS := Lib.hid (Nat.le_of_lt hs1)
  obtain ⟨H, hH⟩ : ∃ q, q = w.heap.size := ⟨_, rfl⟩
  rw [← hH] at hB hs1 ⊢
  clear hw1 hH hb
  have c00 : (w1).cell? ⟨H, 0, none⟩ = some (.bool true) := by rw [(hB).cell]; rfl
  have c01 : (w1).cell? ⟨H, 1, none⟩ = some (.int .i64 0) := by rw [(hB).cell]; rfl
  have c02 : (w1).cell? ⟨H, 2, none⟩ = some (.int .i64 0) := by rw [(hB).cell]; rfl
  have c03 : (w1).cell? ⟨H, 3, none⟩ = some (.int .i64 (-1)) := by rw [(hB).cell]; rfl
  have c04 : (w1).cell? ⟨H, 4, none⟩ = some (.int .i64 (-1)) := by rw [(hB).cell]; rfl
  have c05 : (w1).cell? ⟨H, 5, none⟩ = some (.int .i64 (-1)) := by rw [(hB).cell]; rfl
  have c06 : (w1).cell? ⟨H, 6, none⟩ = some (.int .i64 (-1)) := by rw [(hB).cell]; rfl
  have c10 : ∀ a : Array Value, ((w1).alloc (Obj.cells a 46)).cell? ⟨H, 0, none⟩ = some (.bool true) := by intro a; rw [((hB).alloc (Obj.cells a 46)).cell]; rfl
  have c11 : ∀ a : Array Value, ((w1).alloc (Obj.cells a 46)).cell? ⟨H, 1, none⟩ = some (.int .i64 0) := by intro a; rw [((hB).alloc (Obj.cells a 46)).cell]; rfl
  have c12 : ∀ a : Array Value, ((w1).alloc (Obj.cells a 46)).cell? ⟨H, 2, none⟩ = some (.int .i64 0) := by intro a; rw [((hB).alloc (Obj.cells a 46)).cell]; rfl
  have c13 : ∀ a : Array Value, ((w1).alloc (Obj.cells a 46)).cell? ⟨H, 3, none⟩ = some (.int .i64 (-1)) := by intro a; rw [((hB).alloc (Obj.cells a 46)).cell]; rfl
  have c14 : ∀ a : Array Value, ((w1).alloc (Obj.cells a 46)).cell? ⟨H, 4, none⟩ = some (.int .i64 (-1)) := by intro a; rw [((hB).alloc (Obj.cells a 46)).cell]; rfl
  have c15 : ∀ a : Array Value, ((w1).alloc (Obj.cells a 46)).cell? ⟨H, 5, none⟩ = some (.int .i64 (-1)) := by intro a; rw [((hB).alloc (Obj.cells a 46)).cell]; rfl
  have c16 : ∀ a : Array Value, ((w1).alloc (Obj.cells a 46)).cell? ⟨H, 6, none⟩ = some (.int .i64 (-1)) := by intro a; rw [((hB).alloc (Obj.cells a 46)).cell]; rfl
  have c20 : ∀ a b : Array Value, (((w1).alloc (Obj.cells a 46)).alloc (Obj.cells b 46)).cell? ⟨H, 0, none⟩ = some (.bool true) := by intro a b; rw [(((hB).alloc (Obj.cells a 46)).alloc (Obj.cells b 46)).cell]; rfl
  have c21 : ∀ a b : Array Value, (((w1).alloc (Obj.cells a 46)).alloc (Obj.cells b 46)).cell? ⟨H, 1, none⟩ = some (.int .i64 0) := by intro a b; rw [(((hB).alloc (Obj.cells a 46)).alloc (Obj.cells b 46)).cell]; rfl
  have c22 : ∀ a b : Array Value, (((w1).alloc (Obj.cells a 46)).alloc (Obj.cells b 46)).cell? ⟨H, 2, none⟩ = some (.int .i64 0) := by intro a b; rw [(((hB).alloc (Obj.cells a 46)).alloc (Obj.cells b 46)).cell]; rfl
  have c23 : ∀ a b : Array Value, (((w1).alloc (Obj.cells a 46)).alloc (Obj.cells b 46)).cell? ⟨H, 3, none⟩ = some (.int .i64 (-1)) := by intro a b; rw [(((hB).alloc (Obj.cells a 46)).alloc (Obj.cells b 46)).cell]; rfl
  have c24 : ∀ a b : Array Value, (((w1).alloc (Obj.cells a 46)).alloc (Obj.cells b 46)).cell? ⟨H, 4, none⟩ = some (.int .i64 (-1)) := by intro a b; rw [(((hB).alloc (Obj.cells a 46)).alloc (Obj.cells b 46)).cell]; rfl
  have c25 : ∀ a b : Array Value, (((w1).alloc (Obj.cells a 46)).alloc (Obj.cells b 46)).cell? ⟨H, 5, none⟩ = some (.int .i64 (-1)) := by intro a b; rw [(((hB).alloc (Obj.cells a 46)).alloc (Obj.cells b 46)).cell]; rfl
  have c26 : ∀ a b : Array Value, (((w1).alloc (Obj.cells a 46)).alloc (Obj.cells b 46)).cell? ⟨H, 6, none⟩ = some (.int .i64 (-1)) := by intro a b; rw [(((hB).alloc (Obj.cells a 46)).alloc (Obj.cells b 46)).cell]; rfl
  have c30 : ∀ a b c : Array Value, ((((w1).alloc (Obj.cells a 46)).alloc (Obj.cells b 46)).alloc (Obj.cells c 46)).cell? ⟨H, 0, none⟩ = some (.bool true) := by intro a b c; rw [((((hB).alloc (Obj.cells a 46)).alloc (Obj.cells b 46)).alloc (Obj.cells c 46)).cell]; rfl
  have c31 : ∀ a b c : Array Value, ((((w1).alloc (Obj.cells a 46)).alloc (Obj.cells b 46)).alloc (Obj.cells c 46)).cell? ⟨H, 1, none⟩ = some (.int .i64 0) := by intro a b c; rw [((((hB).alloc (Obj.cells a 46)).alloc (Obj.cells b 46)).alloc (Obj.cells c 46)).cell]; rfl
  have c32 : ∀ a b c : Array Value, ((((w1).alloc (Obj.cells a 46)).alloc (Obj.cells b 46)).alloc (Obj.cells c 46)).cell? ⟨H, 2, none⟩ = some (.int .i64 0) := by intro a b c; rw [((((hB).alloc (Obj.cells a 46)).alloc (Obj.cells b 46)).alloc (Obj.cells c 46)).cell]; rfl
  have c33 : ∀ a b c : Array Value, ((((w1).alloc (Obj.cells a 46)).alloc (Obj.cells b 46)).alloc (Obj.cells c 46)).cell? ⟨H, 3, none⟩ = some (.int .i64 (-1)) := by intro a b c; rw [((((hB).alloc (Obj.cells a 46)).alloc (Obj.cells b 46)).alloc (Obj.cells c 46)).cell]; rfl
  have c34 : ∀ a b c : Array Value, ((((w1).alloc (Obj.cells a 46)).alloc (Obj.cells b 46)).alloc (Obj.cells c 46)).cell? ⟨H, 4, none⟩ = some (.int .i64 (-1)) := by intro a b c; rw [((((hB).alloc (Obj.cells a 46)).alloc (Obj.cells b 46)).alloc (Obj.cells c 46)).cell]; rfl
  have c35 : ∀ a b c : Array Value, ((((w1).alloc (Obj.cells a 46)).alloc (Obj.cells b 46)).alloc (Obj.cells c 46)).cell? ⟨H, 5, none⟩ = some (.int .i64 (-1)) := by intro a b c; rw [((((hB).alloc (Obj.cells a 46)).alloc (Obj.cells b 46)).alloc (Obj.cells c 46)).cell]; rfl
  have c36 : ∀ a b c : Array Value, ((((w1).alloc (Obj.cells a 46)).alloc (Obj.cells b 46)).alloc (Obj.cells c 46)).cell? ⟨H, 6, none⟩ = some (.int .i64 (-1)) := by intro a b c; rw [((((hB).alloc (Obj.cells a 46)).alloc (Obj.cells b 46)).alloc (Obj.cells c 46)).cell]; rfl
  have hlt : H < w1.heap.size := hs1
  go_region
  all_goals
    clear c00 c01 c02 c03 c04 c05 c06 c10 c11 c12 c13 c14 c15 c16 c20 c21 c22 c23 c24 c25 c26 c30 c31 c32 c33 c34 c35 c36
    go_wp2
    go_ret
    exact ⟨_, rfl, own_lit3 w1 _ _ _ _ HS.out rfl, (below4 HB.out HS.out _ _ _ _).drew⟩
end Go.Proofs.Ytpdaiiakdlngjaa

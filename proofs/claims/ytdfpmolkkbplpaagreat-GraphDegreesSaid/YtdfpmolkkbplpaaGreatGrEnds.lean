/- The set of the nodes' ids. -/
import Derived.Test.YtdfpmolkkbplpaaGreatGrChkN
import Derived.Maps.Own
import Derived.Maps.OwnSet
import Derived.Maps.Views
namespace Go.Proofs.YtdfpmolkkbplpaaGreat
open Go.RowKit Go.Maps
set_option linter.unusedVariables false

theorem lawI : Keyed Tryz.prog 3 := int_keyed Tryz.underlying3
/-- ids as keys -/
def idKeys (L : List Nv) : List Lit := L.map fun n => Lit.int .i64 n.id
theorem idKeys_snoc (L : List Nv) (n : Nv) : idKeys (L ++ [n]) = idKeys L ++ [Lit.int .i64 n.id] := by simp [idKeys]
theorem takeN {L : List Nv} {k : Nat} (h : k < L.length) : L.take (k + 1) = L.take k ++ [nthN L k] := by
  have := nthN_get h
  rw [List.getElem?_eq_getElem h] at this
  injection this with this
  rw [List.take_succ_eq_append_getElem h, this]
/-- the ids' map -/
def idSet (L : List Nv) : DataW Unit := setOf (.agg []) (idKeys L)

set_option maxRecDepth 100000 in
set_option maxHeartbeats 1000000 in
theorem nodeIds_any (A : Option Addr) (cap B : Nat) (L : List Nv) (w : World) (h : NodesR w B A L) (hB : B ≤ w.heap.size) (hl : L.length ≤ 140737488351232) :
    Calls Tryz.prog 39 #[.slice A L.length cap] w fun e w' => e = .returned (.map (some w.heap.size)) ∧ w'.ownsMap Tryz.prog 3 unitElem w.heap.size L.length (idSet L) ∧ Below w.heap.size w w' := by
  have hmm := @run_makeMap Tryz.prog
  have H := Lib.hid h
  clear h
  go_enter Tryz.func39, Tryz.ntmps39
  go_wp2
  go_loopw [9] (fun i wr => ∃ k : Nat, k ≤ L.length ∧ i = .int .i64 k ∧ wr.ownsMap Tryz.prog 3 unitElem w.heap.size k (idSet (L.take k)) ∧ Below w.heap.size w wr ∧ w.heap.size < wr.heap.size) (fun i _ => L.length - (intOf i).toNat)
  case atStart => exact ⟨0, Nat.zero_le _, rfl, World.ownsMap_made _ _ _ _, (Below.refl _ _).alloc (Nat.le_refl _) _, by simp⟩
  case round =>
    obtain ⟨k, hk, rfl, hown, hbw, hws⟩ := hrel
    by_cases hlt : k < L.length
    · obtain ⟨b, off, rfl, hbB, A1, c1, A2, c2, hc, -, -, ⟨i1, i2⟩, -⟩ := (NodesR.below H.out (hbw.mono hB)) k _ (nthN_get hlt)
      obtain ⟨q0, q1, q2⟩ := node_cells hc
      have hst : idSet (L.take (k + 1)) = (idSet (L.take k)).put (Lit.int .i64 (nthN L k).id) (.agg []) := by
        unfold idSet
        rw [takeN hlt, idKeys_snoc, setOf_snoc]
      generalize nthN L k = x at *
      obtain ⟨xi, xl, xp⟩ := x
      simp only at q0 q1 q2 i1 i2 hst
      have hkey : keyOf Tryz.prog 3 (.int .i64 xi) = some (.int .i64 xi) := keyOf_int_mk Tryz.underlying3 (WalkArith.wf_i64 (by omega))
      have Hst := Lib.hid hst
      have hbo := hbw.alloc hbw.size (.cells #[.int .i64 xi, .slice A1 xl.length c1, .slice A2 xp.length c2] 40)
      clear hc hst
      go_wp2_with (at_mapUpdate; refine wpList_mapUpdate_own _ rfl _ _ _ 65 rfl 3 86 lawI Tryz.underlying65 (unitElem (H := Unit)) w.heap.size k _ rfl (hown.alloc _) (by unfold maxLen; omega) _ _ _ rfl rfl hkey _ [] unitElem_mk ?_; intro w1 hown1 hgrow1)
      have s1 := hgrow1.size
      simp at s1
      have hb1 : Below w.heap.size w w1 := hbo.grown hgrow1 (by simp; omega) (fun j hj => by cases hj; exact Nat.le_refl _)
      go_roundw
      case rel => exact ⟨k + 1, by omega, by go_num, by rw [Hst.out]; exact hown1, hb1, by omega⟩
      case measure => simp [intOf]; omega
    · rw [List.take_of_length_le (by omega)] at hown
      obtain rfl : k = L.length := by omega
      go_wp2
      go_ret
      exact ⟨rfl, hown, hbw⟩

/-- is there a node of that id? -/
def hasId (L : List Nv) (n : Int) : Bool := L.any fun x => decide (x.id = n)
theorem has_idSet (L : List Nv) (n : Int) (h : ∀ x ∈ L, i64ok x.id) : Maps.has (idSet L) (Lit.int .i64 n) = hasId L n := by
  unfold idSet
  rw [has_setOf]
  · unfold idKeys hasId
    rw [List.any_map]
    congr 1
    funext x
    simp [Lit.sameKey]
  · intro x hx
    unfold idKeys at hx
    obtain ⟨y, hy, rfl⟩ := List.mem_map.1 hx
    trivial

/-- the first error of a relationship -/
def crel (r : Rv) (prev : Int) (L : List Nv) : Int :=
  if cid r.id prev 2048 62 = 0 then (if goodN r.typ = false then 60 else if hasId L r.src = true ∧ hasId L r.dst = true then cpropsAll r.props else 65) else cid r.id prev 2048 62

end Go.Proofs.YtdfpmolkkbplpaaGreat

/- The run of a spool that the document fixes. -/
import Derived.Test.YtkpmnmgnfgfhaaaSpLaw
namespace Go.Proofs.Ytkpmnmgnfgfhaaa
open Go.RowKit
set_option linter.unusedVariables false

theorem RL.lit {α : Type} {f : α → Value} (w : World) (e : TypeId) (L : List α) (h1 : ∀ x ∈ L, f x ≠ undef ∧ (f x).oneCell' = true) (cs : Array Value) (hcs : cs.toList = L.map f) : RL f (w.alloc (.cells cs e)) (w.heap.size + 1) (some ⟨w.heap.size, 0, none⟩) L := by
  refine ⟨⟨by simp, fun _ => ⟨_, rfl, Nat.lt_succ_self _, fun j u hj => ?_⟩⟩, h1⟩
  exact World.news_of_block (heap_alloc_new w (.cells cs e)) j u (by rw [hcs]; exact hj)
theorem bvl_ok (b : Bool) : bvl b ≠ undef ∧ (bvl b).oneCell' = true := ⟨by simp [bvl, undef], rfl⟩

set_option maxRecDepth 100000 in
set_option maxHeartbeats 2000000 in
theorem speaks7_any (w : World) : Calls Try.prog 8 #[] w fun e w' => e = .returned (.bool true) ∧ Below w.heap.size w w' := by
  have h0 := St.start Zf w
  go_enter Try.func8, Try.ntmps8
  go_wp2_with fail
  refine (New_any (h0.alloc _) _ 2 (w.heap.size + 1) [1, 2] (RB.lit w 5 (by unfold IsBytes; decide) _ rfl) (by simp) (by decide)).mono ?_
  rintro e w1 ⟨g, rfl, h1⟩
  clear h0
  go_wp2_with fail
  refine (Append_any (h1.alloc _) _ 2 (w1.heap.size + 1) [3, 4] (RB.lit w1 5 (by unfold IsBytes; decide) _ rfl) (by decide) (by decide)).mono ?_
  rintro e w2 ⟨rfl, h2⟩
  clear h1
  go_wp2_with fail
  refine (Append_any (h2.alloc _) _ 1 (w2.heap.size + 1) [5] (RB.lit w2 5 (by unfold IsBytes; decide) _ rfl) (by decide) (by decide)).mono ?_
  rintro e w3 ⟨rfl, h3⟩
  clear h2
  have hp : putW (putW [] [3, 4]) [5] = [[3, 4], [5]] := by decide
  rw [hp] at h3
  clear hp
  go_wp2_with fail
  refine (After_any (h3.alloc _) _ 2 [false, true] ((RL.lit w3 4 [false, true] (fun x _ => bvl_ok x) #[.bool false, .bool true] rfl).more (by simp)) (by decide) (by decide) (by decide) (by decide)).mono ?_
  rintro e w4 ⟨v4, rfl, h4⟩
  have ha : aft [1, 2] 0 [[3, 4], [5]] [false, true] = [1, 2, 0, 0, 5] := by decide
  rw [ha] at h4
  obtain ⟨A4, c4, rfl, -, -, -, -⟩ := h4.ob.form
  clear h3 ha
  go_wp2_with fail
  refine (same_yes A4 _ 5 c4 5 _ (w4.heap.size + 1) [1, 2, 0, 0, 5] _ (h4.alloc _).ob.reads.2.1 (RB.lit w4 5 (by unfold IsBytes; decide) _ rfl) rfl (by unfold maxLen; decide)).mono ?_
  rintro e w5 ⟨rfl, n5, rfl⟩
  have h5 := (h4.drop.alloc (.cells #[.int .u8 1, .int .u8 2, .int .u8 0, .int .u8 0, .int .u8 5] 5)).drewN n5
  clear h4
  go_wp2_with fail
  refine (Seen_any h5 (by decide)).mono ?_
  rintro e w6 ⟨v6, rfl, h6⟩
  have hs : seenOf [1, 2] [[3, 4], [5]] = [1, 2, 3, 4, 5] := by decide
  rw [hs] at h6
  obtain ⟨A6, c6, rfl, -, -, -, -⟩ := h6.ob.form
  clear h5 hs
  go_wp2_with fail
  refine (same_yes A6 _ 5 c6 5 _ (w6.heap.size + 1) [1, 2, 3, 4, 5] _ (h6.alloc _).ob.reads.2.1 (RB.lit w6 5 (by unfold IsBytes; decide) _ rfl) rfl (by unfold maxLen; decide)).mono ?_
  rintro e w7 ⟨rfl, n7, rfl⟩
  have h7 := (h6.drop.alloc (.cells #[.int .u8 1, .int .u8 2, .int .u8 3, .int .u8 4, .int .u8 5] 5)).drewN n7
  clear h6
  go_wp2_with fail
  refine (Safe_any h7 (by decide)).mono ?_
  rintro e w8 ⟨v8, rfl, h8⟩
  obtain ⟨A8, c8, rfl, -, -, -, -⟩ := h8.ob.form
  clear h7
  go_wp2_with fail
  refine (same_yes A8 _ 2 c8 2 _ (w8.heap.size + 1) [1, 2] _ (h8.alloc _).ob.reads.2.1 (RB.lit w8 5 (by unfold IsBytes; decide) _ rfl) rfl (by unfold maxLen; decide)).mono ?_
  rintro e w9 ⟨rfl, n9, rfl⟩
  have h9 := (h8.drop.alloc (.cells #[.int .u8 1, .int .u8 2] 5)).drewN n9
  clear h8
  go_wp2_with fail
  refine (Pending_any h9).mono ?_
  rintro e w10 ⟨rfl, rfl⟩
  go_wp2_with fail
  refine (Size_any h9).mono ?_
  rintro e w11 ⟨rfl, rfl⟩
  have hz : (seenOf [1, 2] [[3, 4], [5]]).length = 5 := by decide
  rw [hz]
  have hb := h9.bel
  clear h9 hz
  go_wp2
  go_ret
  exact ⟨rfl, hb⟩

end Go.Proofs.Ytkpmnmgnfgfhaaa

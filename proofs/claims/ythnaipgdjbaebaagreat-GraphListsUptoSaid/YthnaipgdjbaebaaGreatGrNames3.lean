/- The program's set of keys: it ranges over the iterator. -/
import Derived.Test.YthnaipgdjbaebaaGreatGrNames
import Derived.Test.YthnaipgdjbaebaaGreatGrWeight
import Derived.Maps.OwnIn
namespace Go.Proofs.YthnaipgdjbaebaaGreat
open Go.RowKit Go.Shelf Go.Maps
set_option linter.unusedVariables false
attribute [local go_sem] Oper.semAt_some

def keysOf {W0 : World} {B : Nat} (xs : List (Pel W0 B)) : List ByteArray := xs.map fun x => x.1.p.key
theorem keysOf_snoc {W0 : World} {B : Nat} (xs : List (Pel W0 B)) (x : Pel W0 B) : keysOf (xs ++ [x]) = keysOf xs ++ [x.1.p.key] := by simp [keysOf]

set_option maxRecDepth 100000 in
set_option maxHeartbeats 2000000 in
theorem names3_any {W0 : World} {B : Nat} (EN : List (NEl W0 B)) (ER : List (REl W0 B)) (A A' : Option Addr) (c c' : Nat) (w : World) (hN : NElsAt w A EN) (hR : RElsAt w A' ER) (hB : B ≤ w.heap.size)
    (hl : EN.length ≤ 140737488351232) (hl' : ER.length ≤ 140737488351232) (hall : (allN EN ++ allR ER).length ≤ 1152921504606846976) :
    Calls Tryz.prog 56 #[.agg #[.slice A EN.length c, .slice A' ER.length c'], .int .i64 3] w (NamesPost (keysOf (allN EN ++ allR ER)) w) := by
  have hmm := @run_makeMap Tryz.prog
  refine (callsIn_wide (n := 5)).1 ?_
  refine callsIn_of_wp_marks Tryz.func56 rfl trivial ?_ rfl
  simp only [Tryz.ntmps56, List.size_toArray, List.length_cons, List.length_nil, Nat.reduceAdd, Nat.reduceSub, Array.replicate_succ, Array.replicate_zero, List.push_toArray, List.append_toArray, List.nil_append, List.cons_append]
  gi_wp2_with fail
  refine ⟨trivial, ?_⟩
  refine (callsIn_wide.2 (properties_any A A' EN.length c ER.length c' _)).mono ?_
  rintro e w' ⟨rfl, rfl⟩
  gi_wp2_with fail
  obtain ⟨w1, hw1⟩ : ∃ x, x = (((w.alloc (.cells #[.slice A EN.length c, .slice A' ER.length c'] 27)).alloc (.map #[] 0)).alloc (.cells #[.map (some (w.heap.size + 1))] 85)).alloc (.cells #[.slice A EN.length c, .slice A' ER.length c'] 27) := ⟨_, rfl⟩
  rw [← hw1]
  have hsz : w1.heap.size = w.heap.size + 4 := by rw [hw1]; simp
  have hb1 : Below w.heap.size w w1 := by rw [hw1]; exact ((((Below.refl _ _).alloc (Nat.le_refl _) _).alloc (by simp) _).alloc (by simp; omega) _).alloc (by simp; omega) _
  have bm1 : w1.ownsMap Tryz.prog 9 (unitElem (H := Unit)) (w.heap.size + 1) 0 (nameSet []) := by
    rw [hw1]
    refine World.ownsMap.alloc (World.ownsMap.alloc ?_ _) _
    have := World.ownsMap_made (w.alloc (.cells #[.slice A EN.length c, .slice A' ER.length c'] 27)) Tryz.prog 9 (unitElem (H := Unit))
    have e : nameSet [] = .map [] := rfl
    rw [e]
    simpa using this
  have bb1 : Blk w1 (w.heap.size + 1 + 1) 85 #[.map (some (w.heap.size + 1))] := by
    rw [hw1]
    refine Blk.alloc ?_ _
    have := Blk.new ((w.alloc (.cells #[.slice A EN.length c, .slice A' ER.length c'] 27)).alloc (.map #[] 0)) 85 #[.map (some (w.heap.size + 1))]
    simpa using this
  have bg1 : Blk w1 (w.heap.size + 1 + 1 + 1) 27 #[.slice A EN.length c, .slice A' ER.length c'] := by
    rw [hw1]
    have := Blk.new (((w.alloc (.cells #[.slice A EN.length c, .slice A' ER.length c'] 27)).alloc (.map #[] 0)).alloc (.cells #[.map (some (w.heap.size + 1))] 85)) 27 #[.slice A EN.length c, .slice A' ER.length c']
    simpa using this
  have hN1 : NElsAt w1 A EN := hN.below (hb1.mono hB)
  have hR1 : RElsAt w1 A' ER := hR.below (hb1.mono hB)
  clear hw1
  refine wpIn_rangeFunc_ownH (F := Fence.wide) rfl (by omega) (gf := 81) (lb := #[.pointer (some ⟨w.heap.size + 1 + 1 + 1, 0, none⟩)]) rfl trivial (enters_of Tryz.func81 (by kernel_rfl) rfl)
    (props_stops Fence.wide rfl trivial trivial rfl _ w.heap.size (w.heap.size + 1 + 1 + 1) EN ER A A' c c' w1 hN1 hR1 hB (by omega) (by omega) (by rw [bg1.cell 0]; rfl) (by rw [bg1.cell 1]; rfl) hl hl')
    KB.trans (fun W l o o' hl1 hl2 hl3 hl4 => ⟨belowK_b (w := w1) (by omega) W l o o' hl1 hl2 hl3 hl4, putObj_other W l o' (by omega)⟩) (Below.refl _ _) (fun _ => rfl)
    (fun pre W => W.ownsMap Tryz.prog 9 (unitElem (H := Unit)) (w.heap.size + 1) pre.length (nameSet (keysOf pre)) ∧ Blk W (w.heap.size + 1 + 1) 85 #[.map (some (w.heap.size + 1))] ∧ Below w.heap.size w W ∧ w1.heap.size ≤ W.heap.size) (fun _ _ _ => False)
    (OwnFrom.and (fun _ _ _ row hs hg hr => hs.kept hg (fun e => by have := (hr _ e.symm).1; omega)) (OwnFrom.and (fun _ _ _ row hs hg hr => hs.grown hg (fun e => by have := (hr _ e.symm).1; omega)) (OwnFrom.and (ownFrom_below (Nat.le_refl _) (by omega)) (fun _ _ _ _ hs hg _ => Nat.le_trans hs hg.size)))) (fun _ _ _ _ _ hs _ _ => hs) ⟨bm1, bb1, hb1, Nat.le_refl _⟩
    (fun x a' W => ∃ Bx, w.heap.size + 3 < Bx ∧ Blk W Bx 45 (pcells x.1.p x.1.A x.1.c x.1.A' x.1.c') ∧ a' = { tmps := #[.agg #[.slice A EN.length c, .slice A' ER.length c'], .int .i64 3, .pointer (some ⟨w.heap.size, 0, none⟩), undef, .map none, .pointer (some ⟨w.heap.size + 1 + 1, 0, none⟩), undef, undef, undef, undef, undef, undef, .pointer (some ⟨Bx, 0, none⟩), .map (some (w.heap.size + 1)), .int .i64 3, .bool false, .bool false, undef, undef, undef, undef, undef, undef, undef, undef, undef, undef, undef, undef, undef, undef, undef, undef, undef, undef, undef, .bool false, .bool false, undef, undef, undef, undef, undef, undef, undef, undef, undef, undef, undef, undef, .bool true, .bool true, .agg #[.slice A EN.length c, .slice A' ER.length c'], .func (.func 81) #[] #[.pointer (some ⟨w.heap.size + 1 + 1 + 1, 0, none⟩)], .agg #[.string x.1.p.key, .int .i64 x.1.p.val.k, .int .i64 x.1.p.val.n, .string x.1.p.val.s, .slice x.1.A x.1.p.val.ns.length x.1.c, .slice x.1.A' x.1.p.val.ts.length x.1.c'], undef, undef, undef, undef, undef], defers := [] })
    (fun x a' s X Y row ⟨Bx, h1, hb, e⟩ hg hr => ⟨Bx, h1, hb.grown hg (fun e2 => by
      obtain ⟨_, o, ho, hc⟩ := hr Bx e2.symm
      unfold Blk at hb
      rw [hb] at ho
      cases ho
      cases hc), e⟩) ?assign ?body ?done ?stop
  case assign =>
    rintro l pre x W K ⟨bS, bB, hBW, hw3⟩ hK
    have hWs := hBW.size
    unfold encP
    gi_wp2
    refine hK _ _ ((KeepsOthers.alloc _ _).from _) ((KB.refl _ _ _).alloc (by omega) (by omega) _) ⟨bS.alloc _, bB.alloc _, hBW.alloc hWs _, by simp; omega⟩ ⟨W.heap.size, by omega, Blk.new _ _ _, rfl⟩
  case body =>
    rintro l pre x a' W hl1 ⟨r, hr⟩ ⟨bS, bB, hBW, hw3⟩ ⟨Bx, hBx, bX, rfl⟩ hlt
    have hst : nameSet (keysOf (pre ++ [x])) = (nameSet (keysOf pre)).put (Lit.string x.1.p.key.data.toList) (.agg []) := by rw [keysOf_snoc, nameSet_snoc]
    have hks := x.2.2.2.2
    have hlen : (pre ++ [x]).length = pre.length + 1 := by simp
    obtain ⟨⟨⟨key, ⟨vk, vn, vs, ns, ts⟩⟩, A2, c2, A3, c3⟩, hx⟩ := x
    simp only at hst hks
    have hWs := hBW.size
    have q0 : W.cell? ⟨Bx, 0, none⟩ = some (.string key) := by rw [bX.cell 0]; rfl
    have hbc : W.cell? ⟨w.heap.size + 1 + 1, 0, none⟩ = some (.map (some (w.heap.size + 1))) := by rw [bB.cell 0]; rfl
    have hkey : keyOf Tryz.prog 9 (.string key) = some (.string key.data.toList) := WideMaps.keyOf_string_mk Tryz.underlying9 (by unfold maxLen; omega)
    have Hst := Lib.hid hst
    have Hlen := Lib.hid hlen
    clear bX hst hlen
    gi_wp2_with (gi_at_mapUpdate; refine wpListIn_mapUpdate_own _ rfl _ _ _ 85 rfl 9 86 lawS Tryz.underlying85 (unitElem (H := Unit)) (w.heap.size + 1) pre.length _ rfl bS (by unfold maxLen; omega) _ _ _ rfl rfl hkey _ [] unitElem_mk ?_; intro w9 hown9 hgrow9)
    have s1 := hgrow9.size
    refine ⟨KeepsFrom.of_grownBy hgrow9 (fun j e => by cases e; omega), ⟨(Below.refl _ W).grown hgrow9 hWs (fun j hj => by cases hj; omega), hgrow9.block _ (by omega) (fun e => by injection e; omega)⟩, ?_, bB.grown hgrow9 (fun e => by injection e; omega), hBW.grown hgrow9 hWs (fun j hj => by cases hj; omega), by omega⟩
    rw [Hst.out, Hlen.out]
    exact hown9
  case done =>
    rintro D ys W hD rfl ⟨bS, bB, hBW, hw3⟩ hK
    have hbc : W.cell? ⟨w.heap.size + 1 + 1, 0, none⟩ = some (.map (some (w.heap.size + 1))) := by rw [bB.cell 0]; rfl
    gi_wp2
    refine ⟨by simp, .inl ⟨_, _, rfl, run_takeDeferred hK, ?_⟩⟩
    exact ⟨_, results_tmp rfl _ _ _, _, _, rfl, bS.kept (grownBy_putObj' _ D (.deferred none)) (fun e => by injection e; omega), hBW.trans (belowK_b (w := w1) (by omega) W D _ _ (by omega) hK rfl rfl), by omega⟩
  case stop =>
    rintro D c0 pre W _ _ h _
    exact h.elim

end Go.Proofs.YthnaipgdjbaebaaGreat

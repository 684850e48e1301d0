/- The program's sets of names. -/
import Derived.Test.YthnaipgdjbaebaaGreatGrSeq2
namespace Go.Proofs.YthnaipgdjbaebaaGreat
open Go.RowKit Go.Maps
set_option linter.unusedVariables false

theorem lawS : Keyed Tryz.prog 9 := string_keyed Tryz.underlying9
/-- texts as keys -/
def skeys (L : List ByteArray) : List Lit := L.map fun s => Lit.string s.data.toList
theorem skeys_snoc (L : List ByteArray) (s : ByteArray) : skeys (L ++ [s]) = skeys L ++ [Lit.string s.data.toList] := by simp [skeys]
/-- the set of texts, as a map -/
def nameSet (L : List ByteArray) : DataW Unit := setOf (.agg []) (skeys L)
theorem nameSet_snoc (L : List ByteArray) (s : ByteArray) : nameSet (L ++ [s]) = (nameSet L).put (Lit.string s.data.toList) (.agg []) := by
  unfold nameSet; rw [skeys_snoc, setOf_snoc]
/-- what names answers -/
def NamesPost (L : List ByteArray) (w : World) (e : Ending) (w' : World) : Prop := ∃ b n, e = .returned (.map (some b)) ∧ w'.ownsMap Tryz.prog 9 unitElem b n (nameSet L) ∧ Below w.heap.size w w' ∧ w.heap.size ≤ b
def typesOf (L : List Rv) : List ByteArray := L.map (·.typ)

set_option maxRecDepth 100000 in
set_option maxHeartbeats 1000000 in
theorem names2_any (A A' : Option Addr) (n c c' B : Nat) (L : List Rv) (w : World) (h : RelsR w B A' L) (hB : B ≤ w.heap.size) (hl : L.length ≤ 140737488351232) :
    Calls Tryz.prog 56 #[.agg #[.slice A n c, .slice A' L.length c'], .int .i64 2] w (NamesPost (typesOf L) w) := by
  have hmm := @run_makeMap Tryz.prog
  have H := Lib.hid h
  clear h
  go_enter Tryz.func56, Tryz.ntmps56
  go_wp2
  go_loopw [41] (fun i wr => ∃ k : Nat, k ≤ L.length ∧ i = .int .i64 k ∧ wr.ownsMap Tryz.prog 9 unitElem (w.heap.size + 1) k (nameSet (typesOf (L.take k))) ∧ Blk wr (w.heap.size + 1 + 1) 85 #[.map (some (w.heap.size + 1))] ∧ Below w.heap.size w wr ∧ w.heap.size + 2 < wr.heap.size) (fun i _ => L.length - (intOf i).toNat)
  case atStart =>
    refine ⟨0, Nat.zero_le _, rfl, ?_, ?_, (((Below.refl _ _).alloc (Nat.le_refl _) _).alloc (by simp) _).alloc (by simp; omega) _, by simp⟩
    · refine World.ownsMap.alloc ?_ _
      have := World.ownsMap_made (w.alloc (.cells #[.slice A n c, .slice A' L.length c'] 27)) Tryz.prog 9 (unitElem (H := Unit))
      have e : nameSet (typesOf (L.take 0)) = .map [] := rfl
      rw [e]
      simpa using this
    · have := Blk.new ((w.alloc (.cells #[.slice A n c, .slice A' L.length c'] 27)).alloc (.map #[] 0)) 85 #[.map (some (w.heap.size + 1))]
      simpa using this
  case round =>
    obtain ⟨k, hk, rfl, hown, hbk, hbw, hws⟩ := hrel
    have hbc : wr.cell? ⟨w.heap.size + 1 + 1, 0, none⟩ = some (.map (some (w.heap.size + 1))) := by rw [hbk.cell 0]; rfl
    by_cases hlt : k < L.length
    · obtain ⟨b, off, rfl, hbB, A1, c1, hc, -, -, -, -, hty, -⟩ := (RelsR.below H.out (hbw.mono hB)) k _ (nthR_get hlt)
      obtain ⟨q0, q1, q2, q3, q4⟩ := rel_cells hc
      have hst : nameSet (typesOf (L.take (k + 1))) = (nameSet (typesOf (L.take k))).put (Lit.string (nthR L k).typ.data.toList) (.agg []) := by
        rw [takeR hlt, ← nameSet_snoc]
        simp [typesOf]
      generalize nthR L k = x at *
      obtain ⟨xi, xt, xs, xd, xp⟩ := x
      simp only at q0 q1 q2 q3 q4 hst hty
      have hkey : keyOf Tryz.prog 9 (.string xt) = some (.string xt.data.toList) := WideMaps.keyOf_string_mk Tryz.underlying9 (by unfold maxLen; omega)
      have Hst := Lib.hid hst
      have hbo := hbw.alloc hbw.size (.cells #[.int .i64 xi, .string xt, .int .i64 xs, .int .i64 xd, .slice A1 xp.length c1] 47)
      have hbk1 := hbk.alloc (.cells #[.int .i64 xi, .string xt, .int .i64 xs, .int .i64 xd, .slice A1 xp.length c1] 47)
      clear hc hst
      go_wp2_with (at_mapUpdate; refine wpList_mapUpdate_own _ rfl _ _ _ 85 rfl 9 86 lawS Tryz.underlying85 (unitElem (H := Unit)) (w.heap.size + 1) k _ rfl (hown.alloc _) (by unfold maxLen; omega) _ _ _ rfl rfl hkey _ [] unitElem_mk ?_; intro w1 hown1 hgrow1)
      have s1 := hgrow1.size
      simp at s1
      have hb1 : Below w.heap.size w w1 := hbo.grown hgrow1 (by simp; omega) (fun j hj => by cases hj; omega)
      have hbk2 := hbk1.grown hgrow1 (fun e => by injection e; omega)
      go_roundw
      case rel => exact ⟨k + 1, by omega, by go_num, by rw [Hst.out]; exact hown1, hbk2, hb1, by omega⟩
      case measure => simp [intOf]; omega
    · rw [List.take_of_length_le (by omega)] at hown
      go_wp2
      go_ret
      exact ⟨_, k, rfl, hown, hbw, by omega⟩

def labelsOf (L : List Nv) : List ByteArray := L.flatMap (·.labels)
theorem labelsOf_snoc (L : List Nv) (n : Nv) : labelsOf (L ++ [n]) = labelsOf L ++ n.labels := by simp [labelsOf]
theorem labelsOf_take (L : List Nv) (k : Nat) : (labelsOf (L.take k)).length ≤ (labelsOf L).length := by
  have := congrArg (fun l => (labelsOf l).length) (List.take_append_drop k L)
  simp only [labelsOf, List.flatMap_append, List.length_append] at this ⊢
  omega

set_option maxRecDepth 100000 in
set_option maxHeartbeats 2000000 in
theorem names1_any (A A' : Option Addr) (n c c' B : Nat) (L : List Nv) (w : World) (h : NodesR w B A L) (hB : B ≤ w.heap.size) (hl : L.length ≤ 140737488351232) (hall : (labelsOf L).length ≤ 1152921504606846976) :
    Calls Tryz.prog 56 #[.agg #[.slice A L.length c, .slice A' n c'], .int .i64 1] w (NamesPost (labelsOf L) w) := by
  have hmm := @run_makeMap Tryz.prog
  have H := Lib.hid h
  clear h
  go_enter Tryz.func56, Tryz.ntmps56
  go_wp2
  go_loopw [20] (fun i wr => ∃ k : Nat, k ≤ L.length ∧ i = .int .i64 k ∧ wr.ownsMap Tryz.prog 9 unitElem (w.heap.size + 1) (labelsOf (L.take k)).length (nameSet (labelsOf (L.take k))) ∧ Blk wr (w.heap.size + 1 + 1) 85 #[.map (some (w.heap.size + 1))] ∧ Below w.heap.size w wr ∧ w.heap.size + 2 < wr.heap.size) (fun i _ => L.length - (intOf i).toNat)
  case atStart =>
    refine ⟨0, Nat.zero_le _, rfl, ?_, ?_, (((Below.refl _ _).alloc (Nat.le_refl _) _).alloc (by simp) _).alloc (by simp; omega) _, by simp⟩
    · refine World.ownsMap.alloc ?_ _
      have := World.ownsMap_made (w.alloc (.cells #[.slice A L.length c, .slice A' n c'] 27)) Tryz.prog 9 (unitElem (H := Unit))
      have e : nameSet (labelsOf (L.take 0)) = .map [] := rfl
      have e2 : (labelsOf (L.take 0)).length = 0 := rfl
      rw [e, e2]
      simpa using this
    · have := Blk.new ((w.alloc (.cells #[.slice A L.length c, .slice A' n c'] 27)).alloc (.map #[] 0)) 85 #[.map (some (w.heap.size + 1))]
      simpa using this
  case round =>
    obtain ⟨k, hk, rfl, hown, hbk, hbw, hws⟩ := hrel
    obtain ⟨wq, rfl⟩ : ∃ wq : World, wq = wr := ⟨_, rfl⟩
    by_cases hlt : k < L.length
    · obtain ⟨b, off, rfl, hbB, A1, c1, A2, c2, hc, hr1, -, -, hs1, -, hs3⟩ := (NodesR.below H.out (hbw.mono hB)) k _ (nthN_get hlt)
      obtain ⟨q0, q1, q2⟩ := node_cells hc
      have hst : labelsOf (L.take (k + 1)) = labelsOf (L.take k) ++ (nthN L k).labels := by rw [takeN hlt, labelsOf_snoc]
      have hcount := labelsOf_take L (k + 1)
      rw [hst, List.length_append] at hcount
      generalize nthN L k = x at *
      obtain ⟨xi, xl, xp⟩ := x
      simp only at q0 q1 q2 hst hr1 hs1 hs3 hcount
      obtain ⟨P, hP⟩ : ∃ P, P = labelsOf (L.take k) := ⟨_, rfl⟩
      rw [← hP] at hst hcount hown
      have Hst := Lib.hid hst
      have Hs3 := Lib.hid hs3
      have hbo := hbw.alloc hbw.size (.cells #[.int .i64 xi, .slice A1 xl.length c1, .slice A2 xp.length c2] 40)
      have hbk1 := hbk.alloc (.cells #[.int .i64 xi, .slice A1 xl.length c1, .slice A2 xp.length c2] 40)
      have hown1 := hown.alloc (.cells #[.int .i64 xi, .slice A1 xl.length c1, .slice A2 xp.length c2] 40)
      have HR : Hid (∀ w', Below w.heap.size w w' → Below w.heap.size wq w' → RL svl w' B A1 xl) := Lib.hid fun w' _ h' => hr1.below (h'.mono hB)
      have hbq : Below w.heap.size wq (wq.alloc (.cells #[.int .i64 xi, .slice A1 xl.length c1, .slice A2 xp.length c2] 40)) := (Below.refl _ _).alloc hbw.size _
      clear hc hst hP hr1 hs3 hown hbk
      go_wp2
      go_loopw [27] (fun i wr => ∃ m : Nat, m ≤ xl.length ∧ i = .int .i64 m ∧ wr.ownsMap Tryz.prog 9 unitElem (w.heap.size + 1) (P.length + m) (nameSet (P ++ xl.take m)) ∧ Blk wr (w.heap.size + 1 + 1) 85 #[.map (some (w.heap.size + 1))] ∧ Below w.heap.size w wr ∧ Below w.heap.size wq wr ∧ w.heap.size + 2 < wr.heap.size) (fun i _ => xl.length - (intOf i).toNat)
      case atStart => exact ⟨0, Nat.zero_le _, rfl, by simpa using hown1, hbk1, hbo, hbq, by simp; omega⟩
      case round =>
        obtain ⟨m, hm, rfl, hown2, hbk2, hbw2, hbq2, hws2⟩ := hrel
        clear hown1 hbk1 hbo hbq
        have hbc : wr.cell? ⟨w.heap.size + 1 + 1, 0, none⟩ = some (.map (some (w.heap.size + 1))) := by rw [hbk2.cell 0]; rfl
        by_cases hml : m < xl.length
        · obtain ⟨lb, lo, rfl, -, hlc⟩ := (HR.out wr hbw2 hbq2).allS (by omega)
          have hlk := hlc m hml
          have hsz := Hs3.out (nthS xl m) (by rw [nthS_lt hml]; exact List.getElem_mem hml)
          have hst2 : nameSet (P ++ xl.take (m + 1)) = (nameSet (P ++ xl.take m)).put (Lit.string (nthS xl m).data.toList) (.agg []) := by
            rw [takeS_succ hml, ← List.append_assoc, nameSet_snoc]
          generalize nthS xl m = t at *
          have hkey : keyOf Tryz.prog 9 (.string t) = some (.string t.data.toList) := WideMaps.keyOf_string_mk Tryz.underlying9 (by unfold maxLen; omega)
          have Hst2 := Lib.hid hst2
          clear hst2 hlc
          go_wp2_with (at_mapUpdate; refine wpList_mapUpdate_own _ rfl _ _ _ 85 rfl 9 86 lawS Tryz.underlying85 (unitElem (H := Unit)) (w.heap.size + 1) (P.length + m) _ rfl hown2 (by unfold maxLen; omega) _ _ _ rfl rfl hkey _ [] unitElem_mk ?_; intro w1 hown3 hgrow1)
          have s1 := hgrow1.size
          have hb1 : Below w.heap.size w w1 := hbw2.grown hgrow1 (by omega) (fun j hj => by cases hj; omega)
          have hb2 : Below w.heap.size wq w1 := hbq2.grown hgrow1 (by omega) (fun j hj => by cases hj; omega)
          have hbk3 := hbk2.grown hgrow1 (fun e => by injection e; omega)
          go_roundw
          case rel => exact ⟨m + 1, by omega, by go_num, by rw [Hst2.out]; exact hown3, hbk3, hb1, hb2, by omega⟩
          case measure => simp [intOf]; omega
        · obtain rfl : m = xl.length := by omega
          rw [List.take_length] at hown2
          go_wp2
          go_roundw
          case rel => exact ⟨k + 1, by omega, by go_num, by rw [Hst.out, List.length_append]; exact hown2, hbk2, hbw2, hws2⟩
          case measure => simp [intOf]; omega
    · rw [List.take_of_length_le (by omega)] at hown
      have hbc : wq.cell? ⟨w.heap.size + 1 + 1, 0, none⟩ = some (.map (some (w.heap.size + 1))) := by rw [hbk.cell 0]; rfl
      go_wp2
      go_ret
      exact ⟨_, _, rfl, hown, hbw, by omega⟩

end Go.Proofs.YthnaipgdjbaebaaGreat

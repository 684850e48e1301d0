/- The program's Names: the same list as the document's; any other sort has none. -/
import Derived.Test.YthnaipgdjbaebaaGreatGrSortedA
import Derived.Test.YthnaipgdjbaebaaGreatGrSorted
import Derived.Test.YthnaipgdjbaebaaGreatGrWhole
import Derived.Sort.KeysCollected
namespace Go.Proofs.YthnaipgdjbaebaaGreat
open Go.RowKit Go.Maps Go.Sort Go.Shelf
set_option linter.unusedVariables false

theorem fold_keys : ∀ (L : List ByteArray) (es : List (Lit × DataW Unit)), ∃ es' : List (Lit × DataW Unit), (skeys L).foldl (fun m x => DataW.put m x (.agg [])) (.map es) = .map es' ∧ ∀ k, (∃ p ∈ es', p.1 = k) ↔ (∃ p ∈ es, p.1 = k) ∨ k ∈ skeys L
  | [], es => ⟨es, rfl, fun k => by simp [skeys]⟩
  | s :: L, es => by
    obtain ⟨es', h1, h2⟩ := fold_keys L (DataW.insert (Lit.string s.data.toList, .agg []) (es.filter fun p => !p.1.sameKey (Lit.string s.data.toList)))
    refine ⟨es', h1, fun k => ?_⟩
    rw [h2 k]
    have hp := WideShapes.insert_perm (Lit.string s.data.toList, (.agg [] : DataW Unit)) (es.filter fun p => !p.1.sameKey (Lit.string s.data.toList))
    have hk : (∃ p ∈ DataW.insert (Lit.string s.data.toList, (.agg [] : DataW Unit)) (es.filter fun p => !p.1.sameKey (Lit.string s.data.toList)), p.1 = k) ↔ (∃ p ∈ es, p.1 = k) ∨ k = Lit.string s.data.toList := by
      constructor
      · rintro ⟨p, hq, rfl⟩
        rcases List.mem_cons.1 (hp.mem_iff.1 hq) with rfl | hq
        · exact .inr rfl
        · exact .inl ⟨p, (List.mem_filter.1 hq).1, rfl⟩
      · rintro (⟨p, hq, rfl⟩ | rfl)
        · by_cases hs : p.1.sameKey (Lit.string s.data.toList) = true
          · exact ⟨_, hp.mem_iff.2 List.mem_cons_self, (WideAt.sameKey_eq hs).symm⟩
          · exact ⟨p, hp.mem_iff.2 (List.mem_cons_of_mem _ (List.mem_filter.2 ⟨hq, by simpa using hs⟩)), rfl⟩
        · exact ⟨_, hp.mem_iff.2 List.mem_cons_self, rfl⟩
    rw [hk, or_assoc]
    simp [skeys]
theorem strKeys_names (L : List ByteArray) : (strKeys (nameSet L)).Perm ((srt L).map fun s => s.data.toList) := by
  obtain ⟨es, h1, h2⟩ := fold_keys L []
  obtain ⟨es2, e2, hp⟩ := tidy_setOf (.agg [] : DataW Unit) (skeys L) (fun x hx => by
    simp only [skeys, List.mem_map] at hx
    obtain ⟨s, _, rfl⟩ := hx
    trivial)
  have he : nameSet L = .map es := h1
  have : es2 = es := by
    have h3 : (DataW.map es2 : DataW Unit) = .map es := e2.symm.trans h1
    injection h3
  subst this
  have hstr : ∀ p ∈ es2, ∃ s : ByteArray, p.1 = Lit.string s.data.toList ∧ s ∈ L := fun p hq => by
    rcases (h2 p.1).1 ⟨p, hq, rfl⟩ with ⟨q, hq, _⟩ | h
    · cases hq
    · simp only [skeys, List.mem_map] at h
      obtain ⟨s, hs, e⟩ := h
      exact ⟨s, e.symm, hs⟩
  rw [he]
  show (es2.map fun p => Go.strOf p.1).Perm _
  have hs := srt_sorted L.length L (Nat.le_refl _)
  have n1 : (es2.map fun p => Go.strOf p.1).Nodup := by
    refine List.pairwise_map.2 (hp.imp_of_mem fun {a b} ha hb h e => ?_)
    obtain ⟨s, es, _⟩ := hstr a ha
    obtain ⟨t, et, _⟩ := hstr b hb
    rw [es, et] at h e
    exact h (by rw [show s.data.toList = t.data.toList from e])
  have n2 : ((srt L).map fun s => s.data.toList).Nodup := by
    refine List.pairwise_map.2 (hs.imp fun {a b} h e => ?_)
    have e2 : a.toList = b.toList := by
      have : a = b := by cases a; cases b; simp_all
      rw [this]
    unfold ltS at h
    rw [e2] at h
    exact List.lt_irrefl _ h
  refine (List.perm_ext_iff_of_nodup n1 n2).2 fun z => ?_
  simp only [List.mem_map]
  constructor
  · rintro ⟨p, hq, rfl⟩
    obtain ⟨s, e, hm⟩ := hstr p hq
    exact ⟨s, (srt_mem s L.length L (Nat.le_refl _)).2 hm, by rw [e]; rfl⟩
  · rintro ⟨s, hm, rfl⟩
    have hm := (srt_mem s L.length L (Nat.le_refl _)).1 hm
    obtain ⟨p, hq, e⟩ := (h2 (Lit.string s.data.toList)).2 (.inr (List.mem_map.2 ⟨s, hm, rfl⟩))
    exact ⟨p, hq, by rw [e]; rfl⟩
theorem toList_data (s : ByteArray) : s.toList = s.data.toList := by simp [ByteArray.toList_eq]
theorem sorted_names (L : List ByteArray) {ss : List (List UInt8)} (h : ss.Perm (strKeys (nameSet L))) : (ss.mergeSort fun x y => decide (x ≤ y)) = (srt L).map fun s => s.data.toList := by
  rw [mergeSort_of_perm (h.trans (strKeys_names L))]
  refine List.mergeSort_of_pairwise (List.pairwise_map.2 ((srt_sorted L.length L (Nat.le_refl _)).imp fun {a b} h => ?_))
  unfold ltS at h
  rw [toList_data, toList_data] at h
  simpa using List.le_of_lt h
/-- the program's Names, as the document's -/
theorem gNamesSt_of (s : Int) (L : List ByteArray) (A A' : Option Addr) (n c n' c' : Nat) (w : World) (hl : L.length ≤ 1099511627776)
    (hn : Calls Tryz.prog 56 #[.agg #[.slice A n c, .slice A' n' c'], .int .i64 s] (w.alloc (.cells #[.slice A n c, .slice A' n' c'] 27)) (NamesPost L (w.alloc (.cells #[.slice A n c, .slice A' n' c'] 27)))) :
    Calls Tryz.prog 28 #[.agg #[.slice A n c, .slice A' n' c'], .int .i64 s] w (NewSt (srt L) w) := by
  refine (gNames_of s L A A' n c n' c' w hl hn).mono ?_
  rintro e w' ⟨v, ss, rfl, hp, hrow, -, hb⟩
  have e1 := sorted_names L hp
  have e2 : ss.length = (srt L).length := by
    have := congrArg List.length e1
    rwa [List.length_mergeSort, List.length_map] at this
  refine ⟨v, rfl, ⟨fun x _ => svl_ok x, ?_⟩, hb⟩
  rw [e1, e2, List.map_map] at hrow
  exact hrow

set_option maxRecDepth 100000 in
set_option maxHeartbeats 1000000 in
theorem names0_any (s : Int) (hs1 : s ≠ 1) (hs2 : s ≠ 2) (hs3 : s ≠ 3) (A A' : Option Addr) (n c n' c' : Nat) (w : World) :
    Calls Tryz.prog 56 #[.agg #[.slice A n c, .slice A' n' c'], .int .i64 s] w (NamesPost [] w) := by
  have hmm := @run_makeMap Tryz.prog
  have f1 : (s == 1) = false := by simp [hs1]
  have f2 : (s == 2) = false := by simp [hs2]
  have f3 : (s == 3) = false := by simp [hs3]
  have g1 : ((1 : Int) == s) = false := by simp [Ne.symm hs1]
  have g2 : ((2 : Int) == s) = false := by simp [Ne.symm hs2]
  have g3 : ((3 : Int) == s) = false := by simp [Ne.symm hs3]
  clear hs1 hs2 hs3
  go_enter Tryz.func56, Tryz.ntmps56
  go_wp2
  go_ret
  refine ⟨_, 0, rfl, ?_, (((Below.refl _ _).alloc (Nat.le_refl _) _).alloc (by simp) _).alloc (by simp; omega) _, by simp⟩
  refine World.ownsMap.alloc ?_ _
  have := World.ownsMap_made (w.alloc (.cells #[.slice A n c, .slice A' n' c'] 27)) Tryz.prog 9 (unitElem (H := Unit))
  have e : nameSet [] = .map [] := rfl
  rw [e]
  simpa using this
end Go.Proofs.YthnaipgdjbaebaaGreat

/- The program's Names: the sorted keys of a set; Degree. -/
import Derived.Test.YthnaipgdjbaebaaGreatGrNames
import Derived.Test.YthnaipgdjbaebaaGreatShelf
import Derived.Maps.OwnIn
namespace Go.Proofs.YthnaipgdjbaebaaGreat
open Go.RowKit Go.Maps Go.Sort Go.Shelf
set_option linter.unusedVariables false

theorem sorts_any (m : Nat) : AnyZ.SortsIn Tryz.prog Tryz.sortedA_ren Fence.wide m :=
  ⟨fun blk off cap ss W hH hblk hsz => callsIn_wide.2 (AnyM.slices_Sort_string Tryz.sortA blk off cap ss W hH hblk hsz),
   fun p cap W => callsIn_wide.2 (AnyM.slices_Sort_string_none Tryz.sortA p cap W)⟩
theorem sortNil_any (p : Option Addr) (cap : Nat) (W : World) : Calls Tryz.prog 79 #[.slice p 0 cap] W fun e w' => e = .returned (.tuple #[]) ∧ w' = W := AnyM.slices_Sort_string_none Tryz.sortA p cap W
theorem keys_in (mb : Option Nat) (W : World) : CallsIn Fence.wide 5 Tryz.prog 55 #[.map mb] W fun e w' => e = .returned (.func (.func 80) #[] #[.pointer (some ⟨W.heap.size, 0, none⟩)]) ∧ w' = W.alloc (.cells #[.map mb] 85) :=
  AnyZ.keys_in Tryz.keysA Fence.wide 5 trivial rfl mb W

set_option maxHeartbeats 1000000 in
theorem sorted_in {H : Type} (b nn : Nat) (D0 : DataW H) (R : Value → Option (DataW H × List MemPlace)) (w : World) (hown : w.ownsMap Tryz.prog 9 R b nn D0) (hmax : Maps.size D0 ≤ maxLen) (hbytes : Maps.size D0 * 16 ≤ 140737488355328) :
    CallsIn Fence.wide 5 Tryz.prog 54 #[.func (.func 80) #[] #[.pointer (some ⟨w.heap.size, 0, none⟩)]] (w.alloc (.cells #[.map (some b)] 85)) fun e w' => ∃ (v : Value) (ss : List (List UInt8)), e = .returned v ∧ ss.Perm (strKeys D0) ∧
      w'.ownsRow (w.alloc (.cells #[.map (some b)] 85)).heap.size 9 1 v ss.length ((ss.mergeSort (fun x y => decide (x ≤ y))).map encStr) ∧ (v = .slice none 0 0 ↔ ss = []) ∧ Below (w.alloc (.cells #[.map (some b)] 85)).heap.size (w.alloc (.cells #[.map (some b)] 85)) w' := by
  have hbl := hown.lt
  have hseq : SeqGives Fence.wide 2 Tryz.prog 80 #[.pointer (some ⟨w.heap.size, 0, none⟩)] encStr (fun ss => ss.Perm (strKeys D0)) (Maps.size D0) (w.alloc (.cells #[.map (some b)] 85)) :=
    AnyZ.keys_gives (ρ := Tryz.keysA_ren) { Tryz.keysA with } Fence.wide _ trivial rfl (by omega) w.heap.size b nn D0 _ (by simp) (by simp) (by
      obtain ⟨es, clock, hb, Ft, hs, hD⟩ := hown
      exact ⟨es, clock, (Below.heap_alloc _ _ b hbl).trans hb, Ft, hs, hD⟩)
  exact AnyZ.sorted_in Tryz.sortedA Fence.wide 5 trivial trivial trivial trivial rfl (by omega) (sorts_any _) (enters_of Tryz.func79 (by kernel_rfl) rfl) 80 #[.pointer (some ⟨w.heap.size, 0, none⟩)] trivial (enters_of Tryz.func80 (by kernel_rfl) rfl) _ _ hmax hbytes _ hseq

theorem addKeys_len : ∀ (xs acc : List Lit), (xs.foldl addKey acc).length ≤ acc.length + xs.length
  | [], acc => by simp
  | x :: r, acc => by
    have := addKeys_len r (addKey acc x)
    have h2 : (addKey acc x).length ≤ acc.length + 1 := by
      unfold addKey
      split
      · omega
      · simp
    simp only [List.foldl_cons, List.length_cons]
    omega
theorem nameSet_size (L : List ByteArray) : Maps.size (nameSet L) ≤ L.length := by
  unfold nameSet
  rw [size_setOf _ _ (fun x hx => by
    simp only [skeys, List.mem_map] at hx
    obtain ⟨s, _, rfl⟩ := hx
    trivial)]
  have := addKeys_len (skeys L) []
  simpa [skeys] using this

/-- what Names answers -/
def SortedPost (L : List ByteArray) (w : World) (e : Ending) (w' : World) : Prop := ∃ (v : Value) (ss : List (List UInt8)), e = .returned v ∧ ss.Perm (strKeys (nameSet L)) ∧
  w'.ownsRow w.heap.size 9 1 v ss.length ((ss.mergeSort (fun x y => decide (x ≤ y))).map encStr) ∧ (v = .slice none 0 0 ↔ ss = []) ∧ Below w.heap.size w w'

set_option maxHeartbeats 1000000 in
theorem gNames_of (s : Int) (L : List ByteArray) (A A' : Option Addr) (n c n' c' : Nat) (w : World) (hl : L.length ≤ 1099511627776)
    (hn : Calls Tryz.prog 56 #[.agg #[.slice A n c, .slice A' n' c'], .int .i64 s] (w.alloc (.cells #[.slice A n c, .slice A' n' c'] 27)) (NamesPost L (w.alloc (.cells #[.slice A n c, .slice A' n' c'] 27)))) :
    Calls Tryz.prog 28 #[.agg #[.slice A n c, .slice A' n' c'], .int .i64 s] w (SortedPost L w) := by
  have hz := nameSet_size L
  have Hn := Lib.hid hn
  obtain ⟨wo, hwo⟩ : ∃ x, x = w.alloc (.cells #[.slice A n c, .slice A' n' c'] 27) := ⟨_, rfl⟩
  have hbo : Below w.heap.size w wo := by rw [hwo]; exact (Below.refl _ _).alloc (Nat.le_refl _) _
  rw [← hwo] at hn
  have Hwo := Lib.hid hwo
  have Hn := Lib.hid hn
  clear hn hwo
  have hfK : Fence.wide.fn 55 := trivial
  have hfS : Fence.wide.fn 54 := trivial
  have hfN : Fence.wide.fn 56 := trivial
  refine (callsIn_wide (n := 6)).1 ?_
  refine callsIn_of_wp Tryz.func28 rfl trivial ?_ rfl
  simp only [Tryz.ntmps28, List.size_toArray, List.length_cons, List.length_nil, Nat.reduceAdd, Nat.reduceSub, Array.replicate_succ, Array.replicate_zero, List.push_toArray, List.append_toArray, List.nil_append, List.cons_append]
  gi_wp2_with fail
  rw [← Hwo.out]
  refine (callsIn_wide.2 Hn.out).mono ?_
  rintro e w1 ⟨b, nn, rfl, hown, hb1, hlb⟩
  have hbw := hbo.trans (hb1.mono hbo.size)
  have HS := Lib.hid (sorted_in b nn (nameSet L) unitElem w1 hown (by unfold maxLen; omega) (by omega))
  clear hown
  gi_wp2_with fail
  refine (keys_in _ _).mono ?_
  rintro e w' ⟨rfl, rfl⟩
  gi_wp2_with fail
  refine HS.out.mono ?_
  rintro e w2 ⟨v, ss, rfl, hS, hrow, hnil, hb2⟩
  have hs1 := hbw.size
  have hb3 : Below w.heap.size w w2 := (hbw.alloc hs1 _).trans (hb2.mono (by simp; omega))
  have hrow2 := ownsRow_base_a hrow (show w.heap.size ≤ _ by simp; omega)
  clear hrow hb2
  gi_wp2
  go_ret
  exact ⟨v, ss, rfl, hS, hrow2, hnil, hb3⟩

set_option maxHeartbeats 1000000 in
theorem gDegree_any (A A' : Option Addr) (m c cap B : Nat) (L : List Rv) (n : Int) (w : World) (h : RelsR w B A' L) (hB : B ≤ w.heap.size) (hl : L.length ≤ 140737488351232) (hb : L.length * 8 ≤ 140737488355328) (hn : i64ok n) :
    Calls Tryz.prog 25 #[.agg #[.slice A m c, .slice A' L.length cap], .int .i64 n] w fun e w' => e = .returned (.int .i64 ((touchIds L n).length : Int)) ∧ Below w.heap.size w w' := by
  obtain ⟨wo, hwo⟩ : ∃ x, x = w.alloc (.cells #[.slice A m c, .slice A' L.length cap] 27) := ⟨_, rfl⟩
  have hbo : Below w.heap.size w wo := by rw [hwo]; exact (Below.refl _ _).alloc (Nat.le_refl _) _
  have HT := Lib.hid (touching_any A' cap B L n wo (h.below (hbo.mono hB)) (Nat.le_trans hB hbo.size) hl hb hn)
  have Hwo := Lib.hid hwo
  clear hwo h
  go_enter Tryz.func25, Tryz.ntmps25
  go_wp2_with fail
  rw [← Hwo.out]
  refine HT.out.mono ?_
  rintro e w1 ⟨v, rfl, ho, hb1⟩
  have hb2 := hbo.trans (hb1.mono hbo.size)
  obtain ⟨A1, c1, rfl, -, -, -, -⟩ := ho.form
  clear ho hb1
  go_wp2
  go_ret
  exact ⟨rfl, hb2⟩

end Go.Proofs.YthnaipgdjbaebaaGreat

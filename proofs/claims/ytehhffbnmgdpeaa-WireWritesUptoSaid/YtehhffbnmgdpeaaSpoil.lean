/- The law's 'spoil': every place of a slice is written over, and the slice is grown: what it may touch, and what it leaves. -/
import Derived.Test.YtehhffbnmgdpeaaSet
namespace Go.Proofs.Ytehhffbnmgdpeaa
open Go.RowKit
set_option linter.unusedVariables false

/-- what spoil leaves of a row of the call's own -/
def Spoilt (base : Nat) (v : Value) (n mark : Nat) (w : World) (e : Ending) (w' : World) : Prop :=
  e = .returned (.tuple #[]) ∧ OB w' base 5 v (List.replicate n mark) ∧ w.grownBy w' v.ownBlock

theorem IsBytes.replicate {m : Nat} (n : Nat) (h : m < 256) : IsBytes (List.replicate n m) := by
  intro x hx
  rw [List.mem_replicate] at hx
  omega
theorem set_cells8 (bs : List Nat) (k m : Nat) : (cells8 bs).set k (.int .u8 (m : Int)) = cells8 (bs.set k m) := by
  unfold cells8
  rw [List.map_set]
/-- a store into a row of the call's own -/
theorem OB.stored {w : World} {base : Nat} {e : TypeId} {g c : Nat} {bs : List Nat} (h : OB w base e (.slice (some ⟨g, 0, none⟩) bs.length c) bs) (k m : Nat) (hm : m < 256) :
    OB (w.setCell ⟨g, k, none⟩ (.int .u8 (m : Int))) base e (.slice (some ⟨g, 0, none⟩) bs.length c) (bs.set k m) ∧ w.grownBy (w.setCell ⟨g, k, none⟩ (.int .u8 (m : Int))) (some g) := by
  have h1 := h.2.stored k (.int .u8 (m : Int))
  refine ⟨⟨fun x hx => ?_, ?_⟩, h1.2⟩
  · rcases List.mem_or_eq_of_mem_set hx with h2 | h2
    · exact h.1 x h2
    · omega
  · rw [List.length_set, ← set_cells8]
    exact h1.1
theorem spoil_set (n k m : Nat) (bs : List Nat) (hn : bs.length = n) (hk : k < n) : (List.replicate k m ++ bs.drop k).set k m = List.replicate (k + 1) m ++ bs.drop (k + 1) := by
  rw [List.set_append_right _ _ (by simp), List.length_replicate, Nat.sub_self, drop_nth bs k (by omega), List.set_cons_zero, List.replicate_succ', List.append_assoc]
  rfl
theorem replicate_add' (n k m : Nat) : List.replicate n m ++ List.replicate k m = List.replicate (n + k) m := by rw [List.replicate_append_replicate]

/-- g grows out of v: in v's own block, or away from it -/
def Off (v u : Value) (n k : Nat) : Prop := (∃ g c, v = .slice (some ⟨g, 0, none⟩) n c ∧ u = .slice (some ⟨g, 0, none⟩) (n + k) c) ∨ (v.ownBlock = none ∨ v.ownBlock ≠ u.ownBlock)
theorem Off.start {w : World} {base : Nat} {e : TypeId} {v : Value} {bs : List Nat} (h : OB w base e v bs) : Off v v bs.length 0 := by
  rcases h.2.2 with ⟨rfl, _⟩ | ⟨g, c, _, rfl, _⟩
  · exact .inr (.inl rfl)
  · exact .inl ⟨g, c, rfl, rfl⟩
theorem Off.step {w w' : World} {base : Nat} {e : TypeId} {v u u' : Value} {n k m : Nat} (hv : OB w base e v (List.replicate n m)) (hu : OB w base e u (List.replicate (n + k) m)) (hu' : OB w' base e u' (List.replicate (n + k + 1) m)) (ho : Off v u n k)
    (hg : w.grownBy w' u.ownBlock) (hx : Onto w w' u u' (n + k) 1) : OB w' base e v (List.replicate n m) ∧ Off v u' n (k + 1) := by
  rcases ho with ⟨g, c, rfl, rfl⟩ | ho
  · rcases hx with ⟨g', c', h1, rfl⟩ | ⟨h1, h2⟩
    · simp only [Value.slice.injEq, Option.some.injEq, Addr.mk.injEq, and_true, true_and] at h1
      obtain ⟨rfl, rfl⟩ := h1
      refine ⟨?_, .inl ⟨g, c, rfl, rfl⟩⟩
      rw [Nat.add_assoc, ← replicate_add'] at hu'
      have := hu'.prefix
      rwa [List.length_replicate] at this
    · refine ⟨hv.kept h1 (.inr (by simp [Value.ownBlock])), .inr (.inr ?_)⟩
      have := (hv.2.lt g rfl).2
      rw [h2]
      intro e
      injection e with e
      simp at e
      omega
  · refine ⟨hv.kept hg ?_, ?_⟩
    · exact ho
    · rcases hx with ⟨g', c', rfl, rfl⟩ | ⟨_, h2⟩
      · exact .inr ho
      · rcases ho with h | h
        · exact .inr (.inl h)
        · rcases hvb : v.ownBlock with _ | g
          · exact .inr (.inl hvb)
          · have := (hv.2.lt g hvb).2
            refine .inr (.inr ?_)
            rw [h2, hvb]
            intro e
            injection e with e
            omega

set_option maxRecDepth 100000 in
set_option maxHeartbeats 1000000 in
theorem spoil_any (base : Nat) (v : Value) (bs : List Nat) (mark : Nat) (w : World) (h : OB w base 5 v bs) (hB : base ≤ w.heap.size) (hl : bs.length + 20 ≤ 140737488355328) (hm : mark < 256) :
    Calls Try.prog 20 #[v, .int .u8 (mark : Int)] w (Spoilt base v bs.length mark w) := by
  obtain ⟨i0, hi, hz0, hz1, hz2⟩ := info_parts u8_info
  obtain ⟨A, cap, rfl, hc, hcm, _, _⟩ := h.form
  have hmm : (mark : Int) ≤ 255 := by omega
  unfold maxLen at hcm
  go_enter Try.func20, Try.ntmps20
  go_wp2
  go_loopw [10] (fun i wr => ∃ k : Nat, k ≤ bs.length ∧ i = .int .i64 k ∧ OB wr base 5 (.slice A bs.length cap) (List.replicate k mark ++ bs.drop k) ∧ w.grownBy wr (Value.ownBlock (.slice A bs.length cap))) (fun i _ => bs.length - (intOf i).toNat)
  case atStart => exact ⟨0, Nat.zero_le _, rfl, by simpa using h, World.grownBy.refl w _⟩
  case round =>
    obtain ⟨k, hk, rfl, hown, hg⟩ := hrel
    have hln : (List.replicate k mark ++ bs.drop k).length = bs.length := by simp; omega
    by_cases hlt : k < bs.length
    · obtain ⟨g, cap', hv, _, hgl⟩ := hown.2.form (by rw [hln]; omega)
      simp only [Value.slice.injEq] at hv
      obtain ⟨rfl, -, -⟩ := hv
      have hcell := (hown.2.cells (g := g) rfl) k
      have hfz : wr.frozen? ⟨g, k, none⟩ = false := by
        have := hown.2
        rw [hln] at this
        exact this.frozenAt k
      obtain ⟨u, hu⟩ : ∃ u, wr.cell? ⟨g, k, none⟩ = some u := by
        have h1 : k < (cells8 (List.replicate k mark ++ bs.drop k)).length := by rw [cells8_length, hln]; exact hlt
        have := hcell _ (List.getElem?_eq_getElem h1)
        rw [add_none, Nat.zero_add] at this
        exact ⟨_, this⟩
      have hst := OB.stored (by rw [hln]; exact hown) k mark hm
      rw [spoil_set bs.length k mark bs rfl hlt, hln] at hst
      have Hst := Lib.hid hst
      have Hln := Lib.hid hln
      clear hcell hst hln
      go_wp2
      go_roundw
      case rel => exact ⟨k + 1, by omega, by go_num, Hst.out.1, hg.trans Hst.out.2⟩
      case measure => simp [intOf]; omega
    · obtain rfl : k = bs.length := by omega
      obtain ⟨wo, rfl⟩ : ∃ wo : World, wo = wr := ⟨_, rfl⟩
      have hown1 : OB wo base 5 (.slice A bs.length cap) (List.replicate bs.length mark) := by simpa using hown
      clear hown hln
      have hsz := hg.size
      go_wp2
      go_loopw [5, 6] (fun u i wr => ∃ k : Nat, k ≤ 16 ∧ i = .int .i64 k ∧ OB wr base 5 u (List.replicate (bs.length + k) mark) ∧ OB wr base 5 (.slice A bs.length cap) (List.replicate bs.length mark) ∧ Off (.slice A bs.length cap) u bs.length k ∧ Grew wo wr (.slice A bs.length cap) u) (fun _ i _ => 16 - (intOf i).toNat)
      case atStart => 
        refine ⟨0, Nat.zero_le _, rfl, hown1, hown1, ?_, Grew.refl _ _⟩
        have := Off.start hown1
        rwa [List.length_replicate] at this
      case round =>
        obtain ⟨k, hk, rfl, hu, hv, hoff, hgr⟩ := hrel
        have hsz1 := hgr.1.size
        have L : ∀ n m : Nat, (List.replicate n m).length = n := fun n m => List.length_replicate
        have HL := Lib.hid L
        clear L
        by_cases hlt : k < 16
        · go_wp2_with (at_builtin; refine wpList_append_exact _ rfl _ _ 22 rfl base 5 i0 Try.underlying22 hi hz0 hz1 hz2 _ _ (by rfl) (hu.alloc _) (some ⟨wr.heap.size, 0, none⟩) 1 (wr.heap.size + 1) [mark] 1 rfl (by rfl) (RB.lit wr 5 (IsBytes.single hm) _ rfl) (by omega) (by rw [HL.out]; omega) (by simp; omega) ?_; intro u1 w1 hu1 hg1 hat1 hx1)
          rw [HL.out] at hx1
          rw [show [mark] = List.replicate 1 mark from rfl, replicate_add'] at hu1
          have hs2 := Off.step (hv.alloc _) (hu.alloc _) hu1 hoff hg1 hx1
          have hgr2 := hgr.trans (Grew.of ((World.grownBy_alloc wr _ _).trans hg1) hat1 (by simp))
          go_roundw
          case rel => exact ⟨k + 1, by omega, by go_num, hu1, hs2.1, hs2.2, hgr2⟩
          case measure => simp [intOf]; omega
        · obtain ⟨w3, rfl⟩ : ∃ w3 : World, w3 = wr := ⟨_, rfl⟩
          go_wp2_with (at_builtin; refine wpList_append_exact _ rfl (.tmp 27) (.tmp 48) 22 rfl base 5 i0 Try.underlying22 hi hz0 hz1 hz2 (.slice A bs.length cap) _ (by rfl) (hv.alloc _) (some ⟨w3.heap.size, 0, none⟩) 20 (w3.heap.size + 1) (List.replicate 20 mark) 20 rfl (by rfl) (RB.lit w3 5 (IsBytes.replicate 20 hm) _ rfl) (by omega) (by rw [HL.out]; omega) (by simp; omega) ?_; intro u1 w1 hu1 hg1 hat1 hx1)
          have hst := (hv.alloc (.cells #[.int .u8 (mark : Int), .int .u8 (mark : Int), .int .u8 (mark : Int), .int .u8 (mark : Int), .int .u8 (mark : Int), .int .u8 (mark : Int), .int .u8 (mark : Int), .int .u8 (mark : Int), .int .u8 (mark : Int), .int .u8 (mark : Int), .int .u8 (mark : Int), .int .u8 (mark : Int), .int .u8 (mark : Int), .int .u8 (mark : Int), .int .u8 (mark : Int), .int .u8 (mark : Int), .int .u8 (mark : Int), .int .u8 (mark : Int), .int .u8 (mark : Int), .int .u8 (mark : Int)] 5)).still hu1 hx1
          have hgf : w.grownBy w1 (Value.ownBlock (.slice A bs.length cap)) := (hg.trans hgr.1).trans ((World.grownBy_alloc w3 _ _).trans hg1)
          go_end0
          exact ⟨rfl, hst, hgf⟩

end Go.Proofs.Ytehhffbnmgdpeaa

/- Contracts of the Writer's methods. -/
import Derived.Test.YtgpahglmhnnobaaGreatDoorSet
import Derived.WalkSpells
namespace Go.Proofs.YtgpahglmhnnobaaGreatDoor
open Go.RowKit
set_option linter.unusedVariables false

/-- A Writer at block g: it holds the slice v, which owns bs. -/
def Wr (w : World) (base g : Nat) (v : Value) (bs : List Nat) : Prop := Blk w g 70 #[v] ∧ base ≤ g ∧ OB w base 5 v bs
/-- its blocks -/
def wfp (g : Nat) (v : Value) (k : Nat) : Prop := k = g ∨ v.ownBlock = some k

theorem Wr.only {S : Nat → Prop} {w w' : World} {base g : Nat} {v : Value} {bs : List Nat} (h : Wr w base g v bs) (hb : Only S w w') (hg : ∀ k, wfp g v k → ¬ S k) : Wr w' base g v bs :=
  ⟨h.1.only hb (hg g (.inl rfl)), h.2.1, h.2.2.only hb fun k hk => hg k (.inr hk)⟩
theorem Wr.below {w w' : World} {base g : Nat} {v : Value} {bs : List Nat} (h : Wr w base g v bs) (hb : Below w.heap.size w w') : Wr w' base g v bs := h.only (Only.of_below hb (fun _ => False)) fun _ _ hf => hf
theorem Wr.lt {w : World} {base g : Nat} {v : Value} {bs : List Nat} (h : Wr w base g v bs) : ∀ k, wfp g v k → base ≤ k ∧ k < w.heap.size := by
  rintro k (rfl | hk)
  · exact ⟨h.2.1, h.1.lt⟩
  · exact h.2.2.2.lt k hk

set_option maxHeartbeats 400000 in
theorem NewWriter_any (w : World) : Calls Tryz.prog 17 #[] w fun e w' => e = .returned (.pointer (some ⟨w.heap.size, 0, none⟩)) ∧ w.alloc (.cells #[.slice none 0 0] 70) = w' := by
  go_enter Tryz.func17, Tryz.ntmps17
  go_wp2
  go_ret
  exact ⟨rfl, rfl⟩

/-- what a call on a Writer leaves -/
def Wrote (base g : Nat) (v : Value) (bs : List Nat) (w : World) (e : Ending) (w' : World) : Prop :=
  e = .returned (.tuple #[]) ∧ ∃ v', Wr w' base g v' bs ∧ Only (wfp g v) w w' ∧ ∀ k, wfp g v' k → wfp g v k ∨ w.heap.size ≤ k

/-- the store of the new slice into the Writer, behind an append -/
theorem wrote_of {w w1 : World} {base g : Nat} {v v1 : Value} {bs bs1 : List Nat} (h : Wr w base g v bs) (h1 : OB w1 base 5 v1 bs1) (hg : Grew w w1 v v1) :
    Blk w1 g 70 #[v] ∧ Wr (w1.setCell ⟨g, 0, none⟩ v1) base g v1 bs1 ∧ Only (wfp g v) w (w1.setCell ⟨g, 0, none⟩ v1) ∧ ∀ k, wfp g v1 k → wfp g v k ∨ w.heap.size ≤ k := by
  have hne : v.ownBlock ≠ some g := own_blk_ne h.2.2.2 h.1 (by decide)
  have hb1 : Blk w1 g 70 #[v] := h.1.grown hg.1 (fun e => hne e.symm)
  have hne1 : v1.ownBlock ≠ some g := own_blk_ne h1.2 hb1 (by decide)
  have ho : Only (wfp g v) w w1 := (Only.of_grown hg.1).mono fun i _ hi => .inr hi
  refine ⟨hb1, ⟨?_, h.2.1, ?_⟩, ho.setCell (.inl (.inl rfl)) _, ?_⟩
  · simpa using hb1.set_ 0 v1
  · exact h1.keep fun k hk => Below.heap_setCell _ _ _ _ (fun e => hne1 (by rw [hk, e]))
  · rintro k (rfl | hk)
    · exact .inl (.inl rfl)
    · rcases hg.2 with e | ⟨g', e, hge⟩
      · exact .inl (.inr (e ▸ hk))
      · rw [e] at hk
        injection hk with hk
        exact .inr (by omega)

set_option maxHeartbeats 400000 in
theorem Raw_any (base g : Nat) (v : Value) (bs : List Nat) (A : Option Addr) (cap B : Nat) (news : List Nat) (w : World) (h : Wr w base g v bs) (hr : RB w B A news) (hl : bs.length + news.length ≤ 140737488355328) :
    Calls Tryz.prog 19 #[.pointer (some ⟨g, 0, none⟩), .slice A news.length cap] w (Wrote base g v (bs ++ news) w) := by
  obtain ⟨i0, hi, hz0, hz1, hz2⟩ := info_parts u8_info
  have hbase : base ≤ w.heap.size := by have := h.1.lt; have := h.2.1; omega
  obtain ⟨A0, c0, rfl, hc0, hcm0, _, _⟩ := h.2.2.form
  have hcell : w.cell? ⟨g, 0, none⟩ = some (.slice A0 bs.length c0) := by rw [h.1.cell 0]; rfl
  have H := Lib.hid h
  clear h
  go_enter Tryz.func19, Tryz.ntmps19
  go_wp2_with (at_builtin; refine wpList_append_bytes _ rfl _ _ 25 rfl base 5 i0 Tryz.underlying25 hi hz0 hz1 hz2 (.slice A0 bs.length c0) bs (by rfl) H.out.2.2 A cap B news news.length rfl (by rfl) hr hl hbase ?_; intro v1 w1 hown1 hg1 hat1; obtain ⟨hb1, hw1, ho1, hf1⟩ := wrote_of H.out hown1 (Grew.of hg1 hat1 (Nat.le_refl _)); obtain ⟨A1, c1, rfl, _, _, _, _⟩ := hown1.form; have hcell1 : w1.cell? ⟨g, 0, none⟩ = some (.slice A0 bs.length c0) := (by rw [hb1.cell 0]; rfl); have hfz1 := hb1.frozen 0)
  simp only [List.length_append] at hw1 ho1 hf1
  go_end0
  exact ⟨rfl, _, hw1, ho1, hf1⟩

/-- what Num puts -/
def putNum (width : Int) (n : Nat) : List Nat := if isW width = true then enc width.toNat n else []
theorem putNum_yes {width : Int} {n : Nat} (h : isW width = true) : putNum width n = enc width.toNat n := if_pos h
theorem putNum_no {width : Int} {n : Nat} (h : isW width = false) : putNum width n = [] := by unfold putNum; rw [h]; rfl

set_option maxHeartbeats 400000 in
theorem WNum_any (base g : Nat) (v : Value) (bs : List Nat) (width : Int) (n : Nat) (w : World) (h : Wr w base g v bs) (hn : n < 18446744073709551616) (hl : bs.length + 8 ≤ 140737488355328) :
    Calls Tryz.prog 62 #[.pointer (some ⟨g, 0, none⟩), .int .i64 width, .int .u64 n] w (Wrote base g v (bs ++ putNum width n) w) := by
  by_cases h1 : isW width = false
  · have hp := putNum_no (n := n) h1
    have Hgw := Lib.hid (goodWidth_any width w)
    rw [h1] at Hgw
    have H := Lib.hid h
    have HP := Lib.hid hp
    clear h hp h1
    go_enter Tryz.func62, Tryz.ntmps62
    go_wp2_with (go_at_call 89; refine (Hgw.out).mono ?_; rintro e w' ⟨rfl, rfl⟩)
    go_end0
    exact ⟨rfl, v, by rw [HP.out, List.append_nil]; exact H.out, Only.refl _ _, fun k hk => .inl hk⟩
  · have h1 : isW width = true := by simpa using h1
    have hwd : width = 1 ∨ width = 2 ∨ width = 4 ∨ width = 8 := of_decide_eq_true h1
    obtain ⟨d, rfl⟩ : ∃ d : Nat, width = d := ⟨width.toNat, by omega⟩
    have hd : d ≤ 8 := by omega
    have hp : putNum (d : Int) n = enc d n := by rw [putNum_yes h1, Int.toNat_natCast]
    have Hgw := Lib.hid (goodWidth_any (d : Int) w)
    rw [h1] at Hgw
    have hbase : base ≤ w.heap.size := by have := h.1.lt; have := h.2.1; omega
    obtain ⟨A0, c0, rfl, hc0, hcm0, _, _⟩ := h.2.2.form
    have hcell : w.cell? ⟨g, 0, none⟩ = some (.slice A0 bs.length c0) := by rw [h.1.cell 0]; rfl
    have H := Lib.hid h
    have HP := Lib.hid hp
    clear h hp h1 hwd
    go_enter Tryz.func62, Tryz.ntmps62
    go_wp2_with (first | (go_at_call 89; refine (Hgw.out).mono ?_; rintro e w' ⟨rfl, rfl⟩) | (go_at_call 90; refine (appendNum_any base (.slice A0 bs.length c0) bs d n w H.out.2.2 hbase (by omega) hd hn).mono ?_; rintro e w1 ⟨v1, rfl, hown1, hg1⟩; obtain ⟨hb1, hw1, ho1, hf1⟩ := wrote_of H.out hown1 hg1; obtain ⟨A1, c1, rfl, _, _, _, _⟩ := hown1.form; have hcell1 : w1.cell? ⟨g, 0, none⟩ = some (.slice A0 bs.length c0) := (by rw [hb1.cell 0]; rfl); have hfz1 := hb1.frozen 0))
    simp only [List.length_append] at hw1 ho1 hf1
    go_end0
    exact ⟨rfl, _, by rw [HP.out]; exact hw1, ho1, hf1⟩

/-! ### bytes.Clone -/
set_option maxHeartbeats 400000 in
theorem Clone_any (A : Option Addr) (cap B : Nat) (bs : List Nat) (w : World) (h : RB w B A bs) (hB : B ≤ w.heap.size) (hl : bs.length ≤ 140737488355328) :
    Calls Tryz.prog 41 #[.slice A bs.length cap] w (NewB bs w) := by
  obtain ⟨i0, hi, hz0, hz1, hz2⟩ := info_parts u8_info
  have hnil := Lib.run_eql_slice_nil (P := Tryz.prog) w 25 5 A bs.length cap 0 0 Tryz.underlying25
  rcases A with _ | a
  · have hbs : bs = [] := by
      rcases Nat.eq_zero_or_pos bs.length with h0 | h0
      · exact List.length_eq_zero_iff.1 h0
      · obtain ⟨_, h, _⟩ := h.2.2 h0
        cases h
    subst hbs
    simp only [Option.isNone_none, List.length_nil] at hnil
    go_enter Tryz.func41, Tryz.ntmps41
    go_wp2
    go_ret
    exact ⟨_, rfl, OB.nil _ _ _, Below.refl _ _⟩
  · simp only [Option.isNone_some] at hnil
    go_enter Tryz.func41, Tryz.ntmps41
    go_wp2_with (at_builtin; refine wpList_append_bytes _ rfl _ _ 25 rfl w.heap.size 5 i0 Tryz.underlying25 hi hz0 hz1 hz2 (.slice (some ⟨w.heap.size, 0, none⟩) 0 0) [] (by rfl) ⟨IsBytes.nil, World.ownsRow_lit w #[] 0 (Nat.le_refl _) (Nat.zero_le _) rfl⟩ (some a) cap B bs bs.length rfl (by rfl) (h.alloc hB _) (by simpa using hl) (by simp) ?_; intro v1 w1 hown1 hg1 hat1)
    have hb1 : Below w.heap.size w w1 := below_own (((Below.refl _ _).alloc (Nat.le_refl _) _)) (World.ownsRow_lit (base := w.heap.size) (size := 1) w #[] 0 (Nat.le_refl _) (Nat.zero_le _) rfl) (Nat.le_refl _) hg1 (by simp)
    go_ret
    exact ⟨_, rfl, by simpa using hown1, hb1⟩

set_option maxHeartbeats 400000 in
theorem Bytes_any (base g : Nat) (v : Value) (bs : List Nat) (w : World) (h : Wr w base g v bs) (hl : bs.length ≤ 140737488355328) :
    Calls Tryz.prog 20 #[.pointer (some ⟨g, 0, none⟩)] w (NewB bs w) := by
  obtain ⟨A0, c0, rfl, hc0, hcm0, hr, _⟩ := h.2.2.form
  have hcell : w.cell? ⟨g, 0, none⟩ = some (.slice A0 bs.length c0) := by rw [h.1.cell 0]; rfl
  have Hc := Lib.hid (Clone_any A0 c0 w.heap.size bs w hr (Nat.le_refl _) hl)
  clear h hr
  go_enter Tryz.func20, Tryz.ntmps20
  go_wp2_with (go_at_call 41; refine (Hc.out).mono ?_; rintro e w' ⟨v', rfl, ho, hb⟩)
  go_ret
  exact ⟨_, rfl, ho, hb⟩

end Go.Proofs.YtgpahglmhnnobaaGreatDoor

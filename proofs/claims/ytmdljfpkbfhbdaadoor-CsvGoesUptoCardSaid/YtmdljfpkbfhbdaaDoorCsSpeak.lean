/- csv: the law's example; what a law does with rows. -/
import Derived.Test.YtmdljfpkbfhbdaaDoorCsRefR
namespace Go.Proofs.YtmdljfpkbfhbdaaDoor
open Go.RowKit
set_option linter.unusedVariables false

theorem RL.litR {α : Type} {f : α → Value} (w : World) (e : TypeId) (L : List α) (cs : Array Value) (hcs : cs.toList = L.map f) (hok : ∀ x ∈ L, f x ≠ undef ∧ (f x).oneCell' = true) (hm : L.length ≤ maxLen) : RL f (w.alloc (.cells cs e)) (w.heap.size + 1) (some ⟨w.heap.size, 0, none⟩) L := by
  have h := World.ownsRow_lit (base := 0) (e := e) (size := 1) w cs L.length (Nat.zero_le _) hm (by rw [← Array.length_toList, hcs, List.length_map, Nat.mul_one])
  rw [hcs] at h
  have := RL.of_own (f := f) hok h
  simpa using this
def r21a : Rw := [⟨#[97]⟩, ⟨#[98]⟩]
def r21b : Rw := [⟨#[]⟩]
def r21c : Rw := [⟨#[120, 34, 121]⟩, ⟨#[49, 44, 50]⟩]
def r21 : List Rw := [r21a, r21b, r21c]
def s21 : ByteArray := ⟨#[97, 44, 98, 13, 10, 13, 10, 34, 120, 34, 34, 121, 34, 44, 34, 49, 44, 50, 34, 13, 10]⟩
theorem r21_pr : prE r21 = 0 ∧ prS r21 = s21 := ⟨by kernel_rfl, by kernel_rfl⟩
theorem s21_rd : csvR (lS s21) = (r21, 0) := by kernel_rfl
theorem t21_rd : csvR (lS ⟨#[97, 34, 98]⟩) = ([], 210) := by kernel_rfl
theorem r21_w : rowsW r21 ≤ 1073741824 := by decide
/-- the rows of an object read -/
theorem RwsA.reads {A : Option Addr} {n c : Nat} {X : List Rq} {w : World} {F : Fp} (h : RwsA (.slice A n c) X w F) : n = X.length ∧ n ≤ c ∧ c ≤ maxLen ∧ RsR w w.heap.size A X := by
  obtain ⟨G, H, ⟨h1, -⟩, ⟨G2, H2, h2, -⟩, -⟩ := h
  obtain ⟨e1, e2, e3, e4⟩ := h1.reads
  refine ⟨e1, e3, e4, e2, fun q hq => ?_⟩
  obtain ⟨G3, h3⟩ := Sep.mem h2 (List.mem_map.2 ⟨q, hq, rfl⟩)
  obtain ⟨h4, -⟩ := h3
  obtain ⟨-, f2, f3, f4⟩ := OL.reads (A := q.A) (n := q.L.length) (c := q.c) h4
  exact ⟨f2, f3, f4⟩
theorem St.rws {S : Fp} {l : List Ass} {w0 w : World} {A : Option Addr} {n c : Nat} {X : List Rq} (h : St S (RwsA (.slice A n c) X :: l) w0 w) : n = X.length ∧ n ≤ c ∧ c ≤ maxLen ∧ RsR w w.heap.size A X := by
  obtain ⟨F, h1⟩ := h.head
  exact h1.reads
theorem St.rwsForm {S : Fp} {l : List Ass} {w0 w : World} {v : Value} {X : List Rq} (h : St S (RwsA v X :: l) w0 w) : ∃ A c, v = .slice A X.length c := by
  obtain ⟨A, c, e, -⟩ := (St.flat (l' := [_, _]) h).ol.form
  exact ⟨A, c, e⟩
theorem rows3 {X : List Rq} (h : rowsOf X = r21) : ∃ q1 q2 q3 : Rq, X = [q1, q2, q3] ∧ q3.L = r21c := by
  have hl : X.length = 3 := by
    have := congrArg List.length h
    simpa [r21] using this
  match X, hl, h with
  | [q1, q2, q3], _, h =>
    have h' : [q1.L, q2.L, q3.L] = [r21a, r21b, r21c] := h
    simp only [List.cons.injEq, and_true] at h'
    exact ⟨q1, q2, q3, rfl, h'.2.2⟩
set_option maxRecDepth 100000 in
set_option maxHeartbeats 1000000 in
theorem speaks21_any (w : World) (hM : MW w) : Calls Tryd.prog 10 #[] w fun e w' => e = .returned (.bool true) ∧ Below w.heap.size w w' := by
  obtain ⟨W1, hW1⟩ : ∃ z, z = w.alloc (.cells #[.string ⟨#[97]⟩, .string ⟨#[98]⟩] 9) := ⟨_, rfl⟩
  obtain ⟨W2, hW2⟩ : ∃ z, z = W1.alloc (.cells #[.string ⟨#[]⟩] 9) := ⟨_, rfl⟩
  obtain ⟨W3, hW3⟩ : ∃ z, z = W2.alloc (.cells #[.string ⟨#[120, 34, 121]⟩, .string ⟨#[49, 44, 50]⟩] 9) := ⟨_, rfl⟩
  obtain ⟨W4, hW4⟩ : ∃ z, z = W3.alloc (.cells #[.slice (some ⟨w.heap.size, 0, none⟩) 2 2, .slice (some ⟨w.heap.size + 1, 0, none⟩) 1 1, .slice (some ⟨w.heap.size + 1 + 1, 0, none⟩) 2 2] 40) := ⟨_, rfl⟩
  have z1 : W1.heap.size = w.heap.size + 1 := by rw [hW1]; simp
  have z2 : W2.heap.size = w.heap.size + 1 + 1 := by rw [hW2, World.size_alloc, z1]
  have z3 : W3.heap.size = w.heap.size + 1 + 1 + 1 := by rw [hW3, World.size_alloc, z2]
  have z4 : W4.heap.size = w.heap.size + 1 + 1 + 1 + 1 := by rw [hW4, World.size_alloc, z3]
  have b1 : Below w.heap.size w W1 := by rw [hW1]; exact (Below.refl _ _).alloc (Nat.le_refl _) _
  have b12 : Below W1.heap.size W1 W2 := by rw [hW2]; exact (Below.refl _ _).alloc (Nat.le_refl _) _
  have b23 : Below W2.heap.size W2 W3 := by rw [hW3]; exact (Below.refl _ _).alloc (Nat.le_refl _) _
  have b34 : Below W3.heap.size W3 W4 := by rw [hW4]; exact (Below.refl _ _).alloc (Nat.le_refl _) _
  have bw : Below w.heap.size w W4 := ((b1.trans (b12.mono (by omega))).trans (b23.mono (by omega))).trans (b34.mono (by omega))
  have ra : RL svl W1 (w.heap.size + 1) (some ⟨w.heap.size, 0, none⟩) r21a := by rw [hW1]; exact RL.litR w _ r21a _ rfl (fun x _ => svl_ok x) (by decide)
  have rb : RL svl W2 (W1.heap.size + 1) (some ⟨W1.heap.size, 0, none⟩) r21b := by rw [hW2]; exact RL.litR W1 _ r21b _ rfl (fun x _ => svl_ok x) (by decide)
  have rc : RL svl W3 (W2.heap.size + 1) (some ⟨W2.heap.size, 0, none⟩) r21c := by rw [hW3]; exact RL.litR W2 _ r21c _ rfl (fun x _ => svl_ok x) (by decide)
  obtain ⟨X0, hX0⟩ : ∃ X : List Rq, X = [⟨some ⟨w.heap.size, 0, none⟩, 2, r21a⟩, ⟨some ⟨w.heap.size + 1, 0, none⟩, 1, r21b⟩, ⟨some ⟨w.heap.size + 1 + 1, 0, none⟩, 2, r21c⟩] := ⟨_, rfl⟩
  have ro : RL Rq.v W4 (W3.heap.size + 1) (some ⟨W3.heap.size, 0, none⟩) X0 := by rw [hW4]; exact RL.litR W3 _ X0 _ (by rw [hX0]; rfl) (fun q _ => rqv_ok q) (by rw [hX0]; show 3 ≤ 9223372036854775807; decide)
  have hXr : rowsOf X0 = r21 := by rw [hX0]; rfl
  have hXl : X0.length = 3 := by rw [hX0]; rfl
  rw [z1] at rb
  rw [z2] at rc
  rw [z3] at ro
  have rs : RsR W4 W4.heap.size (some ⟨w.heap.size + 1 + 1 + 1, 0, none⟩) X0 := by
    refine ⟨ro.more (by omega), fun q hq => ?_⟩
    rw [hX0] at hq
    simp only [List.mem_cons, List.not_mem_nil, or_false] at hq
    rcases hq with rfl | rfl | rfl
    · exact ⟨(((ra.below' b12 (by omega)).below' b23 (by omega)).below' b34 (by omega)).more (by omega), by show 2 ≤ 2; decide, by show 2 ≤ 9223372036854775807; decide⟩
    · exact ⟨((rb.below' b23 (by omega)).below' b34 (by omega)).more (by omega), by show 1 ≤ 1; decide, by show 1 ≤ 9223372036854775807; decide⟩
    · exact ⟨(rc.below' b34 (by omega)).more (by omega), by show 2 ≤ 2; decide, by show 2 ≤ 9223372036854775807; decide⟩
  have HP : Hid (Calls Tryd.prog 12 #[.slice (some ⟨w.heap.size + 1 + 1 + 1, 0, none⟩) 3 3] W4 fun e w' => e = .returned (.tuple #[.string s21, .int .i64 0]) ∧ Below w.heap.size w w') := Lib.hid (by
    have h := Print_any _ 3 _ X0 W4 (hM.below bw hM.pos) rs (Nat.le_refl _) (by omega) (by decide) (by rw [hXr]; exact r21_w)
    rw [hXl, hXr, r21_pr.1, r21_pr.2] at h
    exact h.mono fun e w' ⟨h1, h2⟩ => ⟨h1, bw.trans (h2.mono bw.size)⟩)
  obtain ⟨s, hs⟩ : ∃ s, s = s21 := ⟨_, rfl⟩
  have hss : (s.toList == [97, 44, 98, 13, 10, 13, 10, 34, 120, 34, 34, 121, 34, 44, 34, 49, 44, 50, 34, 13, 10]) = true := by rw [hs, ByteArray.toList_eq]; decide
  rw [← hs] at HP
  have HPS : Hid (∀ w, Calls Tryd.prog 15 #[.string s] w fun e w' => ∃ A c q1 q2 q3, e = .returned (.tuple #[.slice A 3 c, .int .i64 0]) ∧ St Zf [RwsA (.slice A 3 c) [q1, q2, q3]] w w' ∧ q3.L = r21c) := Lib.hid fun w => by
    refine (Parse_any s w (by rw [hs]; decide)).mono ?_
    rintro e w' ⟨v, X, h1, h2, h3⟩
    rw [hs, s21_rd] at h1 h3
    rw [if_pos rfl] at h3
    obtain ⟨q1, q2, q3, rfl, hq⟩ := rows3 h3
    obtain ⟨A, c, rfl⟩ := h2.rwsForm
    exact ⟨A, c, q1, q2, q3, h1, h2, hq⟩
  have HPT : Hid (∀ w, Calls Tryd.prog 15 #[.string ⟨#[97, 34, 98]⟩] w fun e w' => ∃ v, e = .returned (.tuple #[v, .int .i64 210]) ∧ Below w.heap.size w w') := Lib.hid fun w => by
    refine (Parse_any ⟨#[97, 34, 98]⟩ w (by decide)).mono ?_
    rintro e w' ⟨v, X, h1, h2, h3⟩
    rw [t21_rd] at h1
    exact ⟨v, h1, h2.bel⟩
  have HW4 : Hid (W4 = (((w.alloc (.cells #[.string ⟨#[97]⟩, .string ⟨#[98]⟩] 9)).alloc (.cells #[.string ⟨#[]⟩] 9)).alloc (.cells #[.string ⟨#[120, 34, 121]⟩, .string ⟨#[49, 44, 50]⟩] 9)).alloc (.cells #[.slice (some ⟨w.heap.size, 0, none⟩) 2 2, .slice (some ⟨w.heap.size + 1, 0, none⟩) 1 1, .slice (some ⟨w.heap.size + 1 + 1, 0, none⟩) 2 2] 40)) := Lib.hid (by rw [hW4, hW3, hW2, hW1])
  clear hW1 hW2 hW3 hW4 z1 z2 z3 z4 b1 b12 b23 b34 bw ra rb rc hX0 ro hXr hXl rs hs hM
  go_enter Tryd.func10, Tryd.ntmps10
  go_wp2_with fail
  rw [← HW4.out]
  refine HP.out.mono ?_
  rintro e w1 ⟨rfl, hb1⟩
  have HB1 := Lib.hid hb1
  clear hb1
  go_wp2_with fail
  refine (HPS.out _).mono ?_
  rintro e w2 ⟨A, c, q1, q2, q3, rfl, h2, hq⟩
  have H2 := Lib.hid h2
  have HQ := Lib.hid hq
  clear h2 hq
  go_wp2_with fail
  refine (HPT.out _).mono ?_
  rintro e w3 ⟨v3, rfl, hb3⟩
  have h3 := H2.out.below hb3
  obtain ⟨-, -, -, hr1, hr2⟩ := h3.rws
  obtain ⟨g, off, rfl, hg, hcell⟩ := hr1.allD (by simp)
  have c2 : w3.cell? ⟨g, off + 2, none⟩ = some (.slice q3.A 2 q3.c) := by
    have := hcell 2 (by simp)
    have e : (nthD [q1, q2, q3] 2).v = .slice q3.A 2 q3.c := by
      show Value.slice q3.A q3.L.length q3.c = _
      rw [HQ.out]
      rfl
    rw [e] at this
    exact this
  obtain ⟨hr3, -, -⟩ := hr2 q3 (by simp)
  rw [HQ.out] at hr3
  obtain ⟨g2, off2, hA2, hg2, hcell2⟩ := hr3.allS (by decide)
  have d0 : w3.cell? ⟨g2, off2, none⟩ = some (.string ⟨#[120, 34, 121]⟩) := hcell2 0 (by decide)
  rw [hA2] at c2
  have HB3 : Hid (Below w.heap.size w w3) := Lib.hid (HB1.out.trans ((H2.out.bel.mono HB1.out.size).trans (hb3.mono (Nat.le_trans HB1.out.size H2.out.size))))
  clear hr1 hr2 hcell hr3 hcell2 hA2 hb3 h3
  go_wp2
  go_ret
  exact ⟨rfl, HB3.out⟩
end Go.Proofs.YtmdljfpkbfhbdaaDoor

/- frame: Next. -/
import Derived.Test.YtkdlehekignnhaaDoorFr6
namespace Go.Proofs.YtkdlehekignnhaaDoor
open Go.RowKit Go.Shelf
set_option linter.unusedVariables false

theorem St.unSep {S : Fp} {l L : List Ass} {w0 w : World} {P : Ass} (h : St S (Sep (P :: L) :: l) w0 w) : St S (P :: Sep L :: l) w0 w := h.map (l := Sep (P :: L) :: l) fun F hF => by
  obtain ⟨_, H, ⟨A, B, h1, h2, h3, rfl⟩, h4, h5, rfl⟩ := hF
  refine ⟨A, _, h1, ⟨B, H, h2, h4, fun k hb hh => h5 k (.inr hb) hh, rfl⟩, ?_, ?_⟩
  · rintro k ha (hb | hh)
    · exact h3 k ha hb
    · exact h5 k (.inl ha) hh
  · funext k
    exact propext or_assoc
/-- the block of a list of frames from whose front frames have been taken -/
def QuA (v : Value) (X : List Fq) : Ass := fun w F =>
  (X = [] ∧ (∃ A c, v = .slice A 0 c) ∧ F = fun _ => False) ∨
  ∃ b o cap cs, v = .slice (some ⟨b, o, none⟩) X.length cap ∧ Blk w b 25 cs ∧ X.length ≤ cap ∧ cap ≤ maxLen ∧
    (∀ i q, X[i]? = some q → cs[o + 2 * i]? = some (.int .i64 (q.t : Int)) ∧ cs[o + 2 * i + 1]? = some q.v) ∧ F = fun k => k = b
instance stableQu {v : Value} {X : List Fq} : Stable (QuA v X) where
  lt := by
    rintro w F (⟨_, _, rfl⟩ | ⟨b, o, cap, cs, _, h, _, _, _, rfl⟩) k hk
    · exact hk.elim
    · obtain rfl : k = b := hk
      exact h.lt
  keep := by
    rintro w w' F (⟨h1, h2, rfl⟩ | ⟨b, o, cap, cs, h1, h, h3, h4, h5, rfl⟩) hs hk
    · exact .inl ⟨h1, h2, rfl⟩
    · exact .inr ⟨b, o, cap, cs, h1, h.keep (hk b rfl), h3, h4, h5, rfl⟩
/-- the Reader, frames being taken -/
def NxA (g : Nat) (bs : List Nat) (X : List Fq) (err : Int) : Ass := Ex fun i : Value × Value => Sep [BlkA g 72 #[i.1, i.2, .int .i64 err], ObA 5 i.1 bs, QuA i.2 X, Sep (X.map datA)]
instance stableNx {g : Nat} {bs : List Nat} {X : List Fq} {err : Int} : Stable (NxA g bs X err) := inferInstanceAs (Stable (Ex _))
section
variable {S : Fp} {l : List Ass} {w0 w w' : World} {g : Nat} {bs : List Nat} {Fs : List (Nat × List Nat)} {X : List Fq} {err : Int}
theorem nx_open (h : St S (NxA g bs X err :: l) w0 w) : ∃ sl v : Value, St S (BlkA g 72 #[sl, v, .int .i64 err] :: ObA 5 sl bs :: QuA v X :: Sep (X.map datA) :: l) w0 w := by
  obtain ⟨⟨sl, v⟩, h⟩ := St.ex (l := l) h
  exact ⟨sl, v, h.flat⟩
theorem nx_shut {sl v : Value} (h : St S (BlkA g 72 #[sl, v, .int .i64 err] :: ObA 5 sl bs :: QuA v X :: Sep (X.map datA) :: l) w0 w) : St S (NxA g bs X err :: l) w0 w :=
  (St.pack (l' := [_, _, _, _]) h).mapHead fun F h => ⟨(sl, v), h⟩
theorem ow_qu {v : Value} {F : Fp} (h : OwA frF 2 25 v X w F) : QuA v X w F := by
  obtain ⟨h, rfl⟩ := h
  have hl := flat_len frF_row.len X
  obtain ⟨A, cap, hv, h1, h2, -⟩ := own_formR h
  rcases h.2 with ⟨hv0, h0⟩ | ⟨b, cap', cur, hv', _, hg, k1, k2, k3, k4⟩
  · have hX : X = [] := List.length_eq_zero_iff.1 (by simpa using h0)
    exact .inl ⟨hX, ⟨none, 0, hv0⟩, by rw [hv0]; funext k; simp [rfp, Value.ownBlock]⟩
  · rw [hv] at hv'
    simp only [Value.slice.injEq] at hv'
    obtain ⟨rfl, -, rfl⟩ := hv'
    refine .inr ⟨b, 0, cap, cur, hv, hg, h1, h2, fun i q hq => ?_, by rw [hv]; funext k; simp [rfp, Value.ownBlock, eq_comm]⟩
    have hi := (List.getElem?_eq_some_iff.1 hq).1
    have f0 := flat_at frF_row.len X i q 0 hq (by decide)
    have f1 := flat_at frF_row.len X i q 1 hq (by decide)
    rw [← k4, List.getElem?_take_of_lt (by omega), Array.getElem?_toList] at f0 f1
    rw [show 0 + 2 * i = i * 2 + 0 by omega, show i * 2 + 0 + 1 = i * 2 + 1 by omega, f0, f1]
    exact ⟨rfl, rfl⟩
theorem nx_of (h : St S (RdrA g bs Fs err :: l) w0 w) : ∃ X, X.map Fq.f = Fs ∧ St S (NxA g bs X err :: l) w0 w := by
  obtain ⟨sl, v, X, hX, h1⟩ := rdr_open h
  have h2 : St S (OwA frF 2 25 v X :: Sep (X.map datA) :: BlkA g 72 #[sl, v, .int .i64 err] :: ObA 5 sl bs :: l) w0 w := h1.bring2.flat
  exact ⟨X, hX, nx_shut ((h2.mapHead fun F h => ow_qu h).bring3.bring3)⟩

/-- the zero frame's address in a result that holds none -/
def noFr : Value := fragg 0 none 0 0
set_option maxHeartbeats 400000 in
theorem Next_no [Stable (Sep l)] (h : St S (NxA g bs [] err :: l) w0 w) : Calls Tryd.prog 23 #[.pointer (some ⟨g, 0, none⟩)] w fun e w' => e = .returned (.tuple #[noFr, .bool false]) ∧ St S (NxA g bs [] err :: l) w0 w' := by
  obtain ⟨sl, v, h1⟩ := nx_open h
  obtain ⟨F, hF⟩ := h1.bring2.head
  have hv : ∃ A c, v = .slice A 0 c := by
    rcases hF with ⟨_, h, _⟩ | ⟨b, o, cap, cs, h, _⟩
    · exact h
    · exact ⟨_, _, h⟩
  obtain ⟨A, c, rfl⟩ := hv
  obtain ⟨k0, k1, k2⟩ := cells3 h1
  have hg := h1.blk.lt
  have h2 := h.newBlk 25 #[.int .i64 0, .slice none 0 0]
  have H := Lib.hid h2
  clear h h1 hF k0 k2 h2
  go_enter Tryd.func23, Tryd.ntmps23
  go_wp2_with fail
  refine bodyPost_ret (results_row_tmp rfl _ _ w.heap.size 25 #[.int .i64 0, .slice none 0 0] _ rfl H.out.blk Tryd.underlying25 rfl (by kernel_rfl)) rfl ?_
  exact ⟨rfl, H.out.drop⟩
theorem nx_fin [Stable (Sep l)] {q : Fq} {sl v' : Value} {b o : Nat} {cs : Array Value} (hcs : ∀ i q', (q :: X)[i]? = some q' → cs[o + 2 * i]? = some (.int .i64 (q'.t : Int)) ∧ cs[o + 2 * i + 1]? = some q'.v)
    (hv' : (X = [] ∧ ∃ A c, v' = .slice A 0 c) ∨ (∃ c', v' = .slice (some ⟨b, o + 2, none⟩) X.length c' ∧ X.length ≤ c' ∧ c' ≤ maxLen)) {u1 u2 : Value}
    (h7 : St S (BlkA b 25 ((cs.setIfInBounds o u1).setIfInBounds (o + 1) u2) :: BlkA g 72 #[sl, v', .int .i64 err] :: ObA 5 sl bs :: Sep ((q :: X).map datA) :: l) w0 w) : St S (datA q :: NxA g bs X err :: l) w0 w := by
  have h8 : St S (QuA v' X :: BlkA g 72 #[sl, v', .int .i64 err] :: ObA 5 sl bs :: Sep ((q :: X).map datA) :: l) w0 w := by
    rcases hv' with ⟨rfl, hq⟩ | ⟨c', rfl, hv2, hv3⟩
    · obtain ⟨F, k1, k2, k3⟩ := h7.drop
      exact ⟨F, ⟨fun _ => False, F, .inl ⟨rfl, hq, rfl⟩, k1, fun _ h => h.elim, by funext k; simp⟩, k2, k3⟩
    · refine h7.mapHead fun F hF => ?_
      obtain ⟨hF1, rfl⟩ := hF
      refine .inr ⟨b, o + 2, c', _, rfl, hF1, hv2, hv3, fun i q' hq' => ?_, rfl⟩
      obtain ⟨e0, e1⟩ := hcs (i + 1) q' (by simpa using hq')
      rw [show o + 2 * (i + 1) = o + 2 + 2 * i by omega] at e0 e1
      simp only [Array.getElem?_setIfInBounds]
      rw [if_neg (by omega), if_neg (by omega), if_neg (by omega), if_neg (by omega)]
      exact ⟨e0, e1⟩
  have h9 : St S (Sep (datA q :: X.map datA) :: QuA v' X :: BlkA g 72 #[sl, v', .int .i64 err] :: ObA 5 sl bs :: l) w0 w := h8.bring3
  exact (nx_shut (h9.unSep.swap.bring2.bring4.bring4)).swap
set_option maxRecDepth 100000 in
set_option maxHeartbeats 1000000 in
theorem Next_yes [Stable (Sep l)] {q : Fq} (h : St S (NxA g bs (q :: X) err :: l) w0 w) : Calls Tryd.prog 23 #[.pointer (some ⟨g, 0, none⟩)] w fun e w' => e = .returned (.tuple #[fragg q.t q.A q.d.length q.c, .bool true]) ∧ St S (datA q :: NxA g bs X err :: l) w0 w' := by
  obtain ⟨sl, v, h1⟩ := nx_open h
  obtain ⟨F, hF⟩ := h1.bring2.head
  have hv : ∃ b o cap, v = .slice (some ⟨b, o, none⟩) (X.length + 1) cap ∧ X.length + 1 ≤ cap ∧ cap ≤ maxLen := by
    rcases hF with ⟨h, _⟩ | ⟨b, o, cap, cs, h, _, h2, h3, _⟩
    · cases h
    · exact ⟨b, o, cap, h, h2, h3⟩
  obtain ⟨b, o, cap, rfl, hc1, hc2⟩ := hv
  have h2 : ∃ cs, (∀ i q', (q :: X)[i]? = some q' → cs[o + 2 * i]? = some (.int .i64 (q'.t : Int)) ∧ cs[o + 2 * i + 1]? = some q'.v) ∧
      St S (BlkA b 25 cs :: BlkA g 72 #[sl, .slice (some ⟨b, o, none⟩) (X.length + 1) cap, .int .i64 err] :: ObA 5 sl bs :: Sep ((q :: X).map datA) :: l) w0 w := by
    obtain ⟨G, ⟨G1, H1, hq, hr, hd, e⟩, hst⟩ := h1.bring2
    rcases hq with ⟨h, _⟩ | ⟨b', o', cap', cs, hv, hb, _, _, hcs, rfl⟩
    · cases h
    · simp only [Value.slice.injEq, Option.some.injEq, Addr.mk.injEq] at hv
      obtain ⟨⟨rfl, rfl, -⟩, -, rfl⟩ := hv
      exact ⟨cs, hcs, G, ⟨_, H1, ⟨hb, rfl⟩, hr, hd, e⟩, hst⟩
  obtain ⟨cs, hcs, h3⟩ := h2
  obtain ⟨q0, q1⟩ := hcs 0 q rfl
  have hbb := h3.blk
  have hgg := h3.swap.blk
  have c0 : w.cell? ⟨b, o, none⟩ = some (.int .i64 (q.t : Int)) := by rw [hbb.cell o]; exact q0
  have c1 : w.cell? ⟨b, o + 1, none⟩ = some (.slice q.A q.d.length q.c) := by rw [hbb.cell (o + 1)]; exact q1
  have f0 := hbb.frozen o
  have f1 := hbb.frozen (o + 1)
  have g1 : w.cell? ⟨g, 1, none⟩ = some (.slice (some ⟨b, o, none⟩) (X.length + 1) cap) := by rw [hgg.cell 1]; rfl
  have fg := hgg.frozen 1
  have hbN := hbb.lt
  have hgN := hgg.lt
  have hne : b ≠ g := hbb.ne_ hgg (by decide)
  have hne' : g ≠ b := Ne.symm hne
  have HEND : Hid (∀ v', (X = [] ∧ ∃ A c, v' = .slice A 0 c) ∨ (∃ c', v' = .slice (some ⟨b, o + 2, none⟩) X.length c' ∧ X.length ≤ c' ∧ c' ≤ maxLen) →
      ∃ w', w' = ((((w.setCell ⟨b, o, none⟩ (.int .i64 0)).setCell ⟨b, o + 1, none⟩ (.slice none 0 0)).setCell ⟨g, 1, none⟩ v').alloc (.cells #[.int .i64 (q.t : Int), .slice q.A q.d.length q.c] 25)).alloc (.cells #[.int .i64 (q.t : Int), .slice q.A q.d.length q.c] 25) ∧
        Blk w' w.heap.size 25 #[.int .i64 (q.t : Int), .slice q.A q.d.length q.c] ∧ St S (datA q :: NxA g bs X err :: l) w0 w') := Lib.hid fun v' hv' => by
    have h5 := (((h3.setBlk o (.int .i64 0)).setBlk (o + 1) (.slice none 0 0)).swap.setBlk 1 v').swap
    have h6 := (h5.newBlk 25 #[.int .i64 (q.t : Int), .slice q.A q.d.length q.c]).newBlk 25 #[.int .i64 (q.t : Int), .slice q.A q.d.length q.c]
    refine ⟨_, rfl, ?_, ?_⟩
    · have h7 := h6.swap.blk
      simpa only [World.size_setCell] using h7
    · exact nx_fin hcs hv' h6.drop.drop
  clear h h1 hF h3 hbb hgg hcs q0 q1
  by_cases hcap : cap = 1
  · subst hcap
    have hX : X = [] := List.length_eq_zero_iff.1 (by omega)
    subst hX
    obtain ⟨w', hw', hb', hs'⟩ := HEND.out (.slice (some ⟨b, o, none⟩) 0 0) (.inl ⟨rfl, _, _, rfl⟩)
    have HW := Lib.hid hw'
    have HB := Lib.hid hb'
    have HS := Lib.hid hs'
    clear hw' hb' hs' HEND
    simp only [List.length_nil, Nat.zero_add] at g1
    go_enter Tryd.func23, Tryd.ntmps23
    go_wp2_with fail
    rw [← HW.out]
    refine bodyPost_ret (results_row_tmp rfl _ _ w.heap.size 25 #[.int .i64 (q.t : Int), .slice q.A q.d.length q.c] _ rfl HB.out Tryd.underlying25 rfl (by kernel_rfl)) rfl ?_
    exact ⟨rfl, HS.out⟩
  · have hcap1 : 1 < cap := by omega
    have hcap2 : ¬ 1 = cap := by omega
    obtain ⟨w', hw', hb', hs'⟩ := HEND.out (.slice (some ⟨b, o + 2, none⟩) X.length (cap - 1)) (.inr ⟨_, rfl, by omega, by omega⟩)
    have HW := Lib.hid hw'
    have HB := Lib.hid hb'
    have HS := Lib.hid hs'
    clear hw' hb' hs' HEND
    go_enter Tryd.func23, Tryd.ntmps23
    go_wp2_with fail
    rw [← HW.out]
    refine bodyPost_ret (results_row_tmp rfl _ _ w.heap.size 25 #[.int .i64 (q.t : Int), .slice q.A q.d.length q.c] _ rfl HB.out Tryd.underlying25 rfl (by kernel_rfl)) rfl ?_
    exact ⟨rfl, HS.out⟩
end

end Go.Proofs.YtkdlehekignnhaaDoor

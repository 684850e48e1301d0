/- The document's Prefix where the head is wrong. -/
import Derived.Test.YtcopofdoelcgcaaValRP
namespace Go.Proofs.Ytcopofdoelcgcaa
open Go.RowKit
set_option linter.unusedVariables false

/-- the third block, and what is there at its making -/
theorem three_blocks {w wo w1 : World} {kn : Int} (hw1 : w1 = wo.alloc (.cells #[.int .i64 kn, .int .i64 0, .string ⟨#[]⟩, .slice none 0 0, .slice none 0 0] 26))
    (B0 : Blk wo w.heap.size 26 #[.int .i64 0, .int .i64 0, .string ⟨#[]⟩, .slice none 0 0, .slice none 0 0]) (B1 : Blk wo (w.heap.size + 1) 26 #[.int .i64 0, .int .i64 0, .string ⟨#[]⟩, .slice none 0 0, .slice none 0 0])
    (hb : Below w.heap.size w wo) (hs : wo.heap.size = w.heap.size + 2) {B : Nat} {A : Option Addr} {bs : List Nat} (hB : B ≤ w.heap.size) (hr : RB wo B A bs) :
    Blk w1 w.heap.size 26 #[.int .i64 0, .int .i64 0, .string ⟨#[]⟩, .slice none 0 0, .slice none 0 0] ∧ Blk w1 (w.heap.size + 1) 26 #[.int .i64 0, .int .i64 0, .string ⟨#[]⟩, .slice none 0 0, .slice none 0 0] ∧
    Blk w1 wo.heap.size 26 #[.int .i64 kn, .int .i64 0, .string ⟨#[]⟩, .slice none 0 0, .slice none 0 0] ∧ Below w.heap.size w w1 ∧ RB w1 B A bs := by
  subst hw1
  exact ⟨B0.alloc _, B1.alloc _, Blk.new _ _ _, hb.alloc (by omega) _, hr.alloc (by omega) _⟩

set_option maxRecDepth 100000 in
set_option maxHeartbeats 1000000 in
theorem rpref_kind (b off cap B : Nat) (bs : List Nat) (w : World) (h : RB w B (some ⟨b, off, none⟩) bs) (hB : B ≤ w.heap.size) (hc : bs.length ≤ cap) (hm : cap ≤ maxLen) (kn : Nat) (r : List Nat) (hbs : bs = kn :: r) (hk : ¬ (1 ≤ kn ∧ kn ≤ 8)) :
    Calls Try.prog 27 #[.slice (some ⟨b, off, none⟩) bs.length cap] w (PrefPost bs w) := by
  unfold maxLen at hm
  have hp := fun w' => @bad_post bs w w' 40 (by rw [hbs, prefix_kind hk]; rfl) (by decide)
  have hlen : 0 < bs.length := by rw [hbs]; simp
  have hn0 : nth bs 0 = kn := by rw [hbs]; rfl
  have hkb : kn < 256 := h.1 kn (by rw [hbs]; exact List.mem_cons_self ..)
  obtain ⟨wo, hwo, B0, B1, hb0, hso⟩ := two_blocks w
  have Ro := h.below' hb0 hB
  have c0 := Ro.get (k := 0) (by omega)
  rw [hn0, Nat.add_zero] at c0
  have l0 : ((bs.length : Int) == 0) = false := by rw [beq_eq_false_iff_ne]; omega
  have hwk : IntKind.i64.wrap (kn : Int) = (kn : Int) := by rw [IntKind.wrap_i64]; omega
  obtain ⟨w1, hw1⟩ : ∃ x, x = wo.alloc (.cells #[.int .i64 (kn : Int), .int .i64 0, .string ⟨#[]⟩, .slice none 0 0, .slice none 0 0] 26) := ⟨_, rfl⟩
  obtain ⟨C0, C1, C2, hb1, R1⟩ := three_blocks hw1 B0 B1 hb0 hso hB Ro
  have HW := Lib.hid hwo
  have HW1 := Lib.hid hw1
  have hl0 := C0.lt
  have hl1 := C1.lt
  have hl2 := C2.lt
  obtain ⟨z0, z1, z2, z3, z4⟩ := box_cells C0
  obtain ⟨y0, y1, y2, y3, y4⟩ := box_cells C1
  obtain ⟨x0, x1, x2, x3, x4⟩ := box_cells C2
  obtain ⟨f0, f1, f2, f3, f4⟩ := free_cells C0
  clear hwo hw1 B0 B1 C0 C1 C2 h Ro hbs hn0 hso
  go_enter Try.func27, Try.ntmps27
  go_upto_region 4 with fail
  rw [← HW.out]
  go_upto_region 5 with fail
  rw [← HW1.out]
  rcases (show kn < 1 ∨ 8 < kn by omega) with hk | hk
  all_goals
    go_wp2
    refine bodyPost_ret (v := .tuple #[.agg #[.int .i64 0, .int .i64 0, .string ⟨#[]⟩, .slice none 0 0, .slice none 0 0], .int .i64 0, .int .i64 40]) (by simp [results, Try.results27, go_sem, *]) rfl (hp _ ?_)
    exact set5_below hb1 (Nat.le_refl _)

set_option maxRecDepth 100000 in
set_option maxHeartbeats 1000000 in
theorem rpref_short (b off cap B : Nat) (bs : List Nat) (w : World) (h : RB w B (some ⟨b, off, none⟩) bs) (hB : B ≤ w.heap.size) (hc : bs.length ≤ cap) (hm : cap ≤ maxLen) (kn : Nat) (hbs : bs = [kn]) (hk : 1 ≤ kn ∧ kn ≤ 8) (hk4 : ¬ kn ≤ 4) :
    Calls Try.prog 27 #[.slice (some ⟨b, off, none⟩) bs.length cap] w (PrefPost bs w) := by
  unfold maxLen at hm
  have hp := fun w' => @bad_post bs w w' 10 (by rw [hbs, prefix_short hk hk4]; rfl) (by decide)
  have hlen : bs.length = 1 := by rw [hbs]; rfl
  have hn0 : nth bs 0 = kn := by rw [hbs]; rfl
  obtain ⟨wo, hwo, B0, B1, hb0, hso⟩ := two_blocks w
  have Ro := h.below' hb0 hB
  have c0 := Ro.get (k := 0) (by omega)
  rw [hn0, Nat.add_zero] at c0
  have hwk : IntKind.i64.wrap (kn : Int) = (kn : Int) := by rw [IntKind.wrap_i64]; omega
  obtain ⟨w1, hw1⟩ : ∃ x, x = wo.alloc (.cells #[.int .i64 (kn : Int), .int .i64 0, .string ⟨#[]⟩, .slice none 0 0, .slice none 0 0] 26) := ⟨_, rfl⟩
  obtain ⟨C0, C1, C2, hb1, R1⟩ := three_blocks hw1 B0 B1 hb0 hso hB Ro
  have HW := Lib.hid hwo
  have HW1 := Lib.hid hw1
  have hl0 := C0.lt
  have hl1 := C1.lt
  have hl2 := C2.lt
  obtain ⟨z0, z1, z2, z3, z4⟩ := box_cells C0
  obtain ⟨y0, y1, y2, y3, y4⟩ := box_cells C1
  obtain ⟨x0, x1, x2, x3, x4⟩ := box_cells C2
  obtain ⟨f0, f1, f2, f3, f4⟩ := free_cells C0
  rw [hlen]
  clear hwo hw1 B0 B1 C0 C1 C2 h Ro hbs hn0 hso hlen
  obtain ⟨hk1, hk2⟩ := hk
  go_enter Try.func27, Try.ntmps27
  go_upto_region 4 with fail
  rw [← HW.out]
  go_upto_region 5 with fail
  rw [← HW1.out]
  go_wp2_with fail
  go_quiet (fail)
  go_wp2
  refine bodyPost_ret (v := .tuple #[.agg #[.int .i64 0, .int .i64 0, .string ⟨#[]⟩, .slice none 0 0, .slice none 0 0], .int .i64 0, .int .i64 10]) (by simp [results, Try.results27, go_sem, *]) rfl (hp _ ?_)
  exact set5_below (below_drewN hb1 _) (Nat.le_refl _)

set_option maxRecDepth 100000 in
set_option maxHeartbeats 1000000 in
theorem rpref_many (b off cap B : Nat) (bs : List Nat) (w : World) (h : RB w B (some ⟨b, off, none⟩) bs) (hB : B ≤ w.heap.size) (hc : bs.length ≤ cap) (hm : cap ≤ maxLen) (kn m : Nat) (r : List Nat) (hbs : bs = kn :: m :: r) (hk : 1 ≤ kn ∧ kn ≤ 8) (hk4 : ¬ kn ≤ 4) (hm40 : 40 < m) :
    Calls Try.prog 27 #[.slice (some ⟨b, off, none⟩) bs.length cap] w (PrefPost bs w) := by
  unfold maxLen at hm
  have hp := fun w' => @bad_post bs w w' 45 (by rw [hbs, prefix_many hk hk4 hm40]; rfl) (by decide)
  have hlen : bs.length = r.length + 2 := by rw [hbs]; rfl
  have hn0 : nth bs 0 = kn := by rw [hbs]; rfl
  have hn1 : nth bs 1 = m := by rw [hbs]; rfl
  have hmb : m < 256 := h.1 m (by rw [hbs]; simp)
  obtain ⟨wo, hwo, B0, B1, hb0, hso⟩ := two_blocks w
  have Ro := h.below' hb0 hB
  have c0 := Ro.get (k := 0) (by omega)
  rw [hn0, Nat.add_zero] at c0
  have hwk : IntKind.i64.wrap (kn : Int) = (kn : Int) := by rw [IntKind.wrap_i64]; omega
  have hwm : IntKind.i64.wrap (m : Int) = (m : Int) := by rw [IntKind.wrap_i64]; omega
  have l0 : ((bs.length : Int) == 0) = false := by rw [beq_eq_false_iff_ne]; omega
  have l1 : ((bs.length : Int) == 1) = false := by rw [beq_eq_false_iff_ne]; omega
  obtain ⟨w1, hw1⟩ : ∃ x, x = wo.alloc (.cells #[.int .i64 (kn : Int), .int .i64 0, .string ⟨#[]⟩, .slice none 0 0, .slice none 0 0] 26) := ⟨_, rfl⟩
  obtain ⟨C0, C1, C2, hb1, R1⟩ := three_blocks hw1 B0 B1 hb0 hso hB Ro
  have c1 := R1.get (k := 1) (by omega)
  rw [hn1] at c1
  have HW := Lib.hid hwo
  have HW1 := Lib.hid hw1
  have hl0 := C0.lt
  have hl1 := C1.lt
  have hl2 := C2.lt
  obtain ⟨z0, z1, z2, z3, z4⟩ := box_cells C0
  obtain ⟨y0, y1, y2, y3, y4⟩ := box_cells C1
  obtain ⟨x0, x1, x2, x3, x4⟩ := box_cells C2
  obtain ⟨f0, f1, f2, f3, f4⟩ := free_cells C0
  have hlb : 1 < bs.length := by omega
  clear hwo hw1 B0 B1 C0 C1 C2 h Ro hbs hn0 hn1 hso hlen R1
  obtain ⟨hk1, hk2⟩ := hk
  go_enter Try.func27, Try.ntmps27
  go_upto_region 4 with fail
  rw [← HW.out]
  go_upto_region 5 with fail
  rw [← HW1.out]
  go_wp2_with fail
  go_quiet (fail)
  go_wp2_with fail
  go_quiet (fail)
  go_wp2
  refine bodyPost_ret (v := .tuple #[.agg #[.int .i64 0, .int .i64 0, .string ⟨#[]⟩, .slice none 0 0, .slice none 0 0], .int .i64 0, .int .i64 45]) (by simp [results, Try.results27, go_sem, *]) rfl (hp _ ?_)
  exact set5_below (below_drewN hb1 _) (Nat.le_refl _)

end Go.Proofs.Ytcopofdoelcgcaa

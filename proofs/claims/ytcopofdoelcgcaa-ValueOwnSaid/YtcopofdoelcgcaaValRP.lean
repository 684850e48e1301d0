/- The document's Prefix: what it leaves. -/
import Derived.Test.YtcopofdoelcgcaaValPref
import Derived.Deep.Cut
import Derived.Deep.RegionHeld3
import Derived.Deep.QuietTactic
import Derived.BigQuiet
namespace Go.Proofs.Ytcopofdoelcgcaa
open Go.RowKit
set_option linter.unusedVariables false

theorem RB.get {w : World} {B b off : Nat} {bs : List Nat} (h : RB w B (some ⟨b, off, none⟩) bs) {k : Nat} (hk : k < bs.length) : w.cell? ⟨b, off + k, none⟩ = some (.int .u8 ((nth bs k : Nat) : Int)) := by
  obtain ⟨b', off', e, _, hc⟩ := h.at_ hk
  injection e with e
  injection e with e1 e2
  subst e1 e2
  exact hc

theorem pref_bad {bs : List Nat} {E : Int} (h : (prefixE bs).q.e = E) (hE : E ≠ 0) : prefV bs = vnone ∧ prefN bs = 0 ∧ prefErr bs = E := by
  refine ⟨?_, ?_, h⟩
  · unfold prefV; rw [if_neg (by rw [h]; exact hE)]
  · unfold prefN; rw [if_neg (by rw [h]; exact hE)]
theorem pref_good {bs : List Nat} {k : Int} {hd : Nat} {xs : List Int} {ts : List ByteArray} {c : Nat} {q : El} (kn : Nat) (hk : k = kn) (h : prefixE bs = ⟨kn, hd, q⟩) (hq : q = ⟨xs, ts, c, 0⟩) : prefV bs = mkV k xs ts ∧ prefN bs = hd + c ∧ prefErr bs = 0 := by
  subst hq hk
  unfold prefV prefN prefErr
  rw [h]
  exact ⟨rfl, rfl, rfl⟩

theorem bad_post {bs : List Nat} {w w' : World} {E : Int} (h : (prefixE bs).q.e = E) (hE : E ≠ 0) (hb : Below w.heap.size w w') :
    PrefPost bs w (.returned (.tuple #[.agg #[.int .i64 0, .int .i64 0, .string ⟨#[]⟩, .slice none 0 0, .slice none 0 0], .int .i64 0, .int .i64 E])) w' := by
  obtain ⟨h1, h2, h3⟩ := pref_bad h hE
  unfold PrefPost
  rw [h1, h2, h3]
  exact ⟨none, 0, none, 0, rfl, OL.nil _ _ _ _, OL.nil _ _ _ _, hb⟩
theorem good_post {bs : List Nat} {w w' : World} {v : Vv} {n : Nat} {A A' : Option Addr} {c c' : Nat} (h1 : prefV bs = v) (h2 : prefN bs = n) (h3 : prefErr bs = 0)
    (ho : OL ivl w' w.heap.size 2 (.slice A v.ns.length c) v.ns) (ho' : OL svl w' w.heap.size 9 (.slice A' v.ts.length c') v.ts) (hb : Below w.heap.size w w') :
    PrefPost bs w (.returned (.tuple #[.agg #[.int .i64 v.k, .int .i64 v.n, .string v.s, .slice A v.ns.length c, .slice A' v.ts.length c'], .int .i64 (n : Nat), .int .i64 0])) w' := by
  unfold PrefPost
  rw [h1, h2, h3]
  exact ⟨A, c, A', c', rfl, ho, ho', hb⟩

theorem free_cells {w : World} {g : Nat} {t : TypeId} {cs : Array Value} (h : Blk w g t cs) : w.frozen? ⟨g, 0, none⟩ = false ∧ w.frozen? ⟨g, 1, none⟩ = false ∧ w.frozen? ⟨g, 2, none⟩ = false ∧ w.frozen? ⟨g, 3, none⟩ = false ∧ w.frozen? ⟨g, 4, none⟩ = false :=
  ⟨h.frozen 0, h.frozen 1, h.frozen 2, h.frozen 3, h.frozen 4⟩

/-- the two blocks that the call makes first -/
theorem two_blocks (w : World) : ∃ wo, wo = (w.alloc (.cells #[.int .i64 0, .int .i64 0, .string ⟨#[]⟩, .slice none 0 0, .slice none 0 0] 26)).alloc (.cells #[.int .i64 0, .int .i64 0, .string ⟨#[]⟩, .slice none 0 0, .slice none 0 0] 26) ∧
    Blk wo w.heap.size 26 #[.int .i64 0, .int .i64 0, .string ⟨#[]⟩, .slice none 0 0, .slice none 0 0] ∧ Blk wo (w.heap.size + 1) 26 #[.int .i64 0, .int .i64 0, .string ⟨#[]⟩, .slice none 0 0, .slice none 0 0] ∧ Below w.heap.size w wo ∧ wo.heap.size = w.heap.size + 2 := by
  refine ⟨_, rfl, (Blk.new _ _ _).alloc _, ?_, ((Below.refl _ _).alloc (Nat.le_refl _) _).alloc (by simp) _, by simp⟩
  have := Blk.new (w.alloc (.cells #[.int .i64 0, .int .i64 0, .string ⟨#[]⟩, .slice none 0 0, .slice none 0 0] 26)) 26 #[.int .i64 0, .int .i64 0, .string ⟨#[]⟩, .slice none 0 0, .slice none 0 0]
  simpa using this

set_option maxRecDepth 100000 in
set_option maxHeartbeats 1000000 in
/-- no value begins there -/
theorem rpref_none (A : Option Addr) (cap : Nat) (w : World) : Calls Try.prog 27 #[.slice A 0 cap] w (PrefPost [] w) := by
  obtain ⟨wo, hwo, B0, B1, hb0, hso⟩ := two_blocks w
  have hp := @bad_post [] w
  have HW := Lib.hid hwo
  have hl0 := B0.lt
  have hl1 := B1.lt
  obtain ⟨z0, z1, z2, z3, z4⟩ := box_cells B0
  obtain ⟨x0, x1, x2, x3, x4⟩ := box_cells B1
  obtain ⟨f0, f1, f2, f3, f4⟩ := free_cells B0
  clear hwo B0 B1
  go_enter Try.func27, Try.ntmps27
  go_upto_region 2 with fail
  rw [← HW.out]
  go_wp2
  refine bodyPost_ret (v := .tuple #[.agg #[.int .i64 0, .int .i64 0, .string ⟨#[]⟩, .slice none 0 0, .slice none 0 0], .int .i64 0, .int .i64 10]) (by simp [results, Try.results27, go_sem, *]) rfl (hp rfl (by decide) ?_)
  exact set5_below hb0 (Nat.le_refl _)

end Go.Proofs.Ytcopofdoelcgcaa

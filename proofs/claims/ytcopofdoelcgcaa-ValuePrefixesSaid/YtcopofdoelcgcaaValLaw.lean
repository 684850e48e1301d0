/- What was read, as a value that laws hold against another. -/
import Derived.Test.YtcopofdoelcgcaaValRDec
import Derived.Test.YtcopofdoelcgcaaValSpeak
namespace Go.Proofs.Ytcopofdoelcgcaa
open Go.RowKit
set_option linter.unusedVariables false

theorem vok_none : Vok vnone := vok_small (k := 0) (n := 0) (s := .empty) (by omega) (by omega) (by omega) (by omega) (by decide)
theorem pref_vok {bs : List Nat} (hb : IsBytes bs) : Vok (prefV bs) := by
  by_cases h : prefErr bs = 0
  · exact (pref_ok hb h).ok
  · rw [(pref_bad rfl h).1]; exact vok_none
theorem dec_vok {bs : List Nat} (hb : IsBytes bs) : Vok (decV bs) := by
  unfold decV
  split
  · exact pref_vok hb
  · exact vok_none
/-- a value whose lists are the call's own, read -/
theorem vr_of {w : World} {base B : Nat} {v : Vv} {A : Option Addr} {c : Nat} {A' : Option Addr} {c' : Nat} (h : OL ivl w base 2 (.slice A v.ns.length c) v.ns) (h' : OL svl w base 9 (.slice A' v.ts.length c') v.ts) (hv : Vok v) (hB : w.heap.size ≤ B) :
    VR w B v (.agg #[.int .i64 v.k, .int .i64 v.n, .string v.s, .slice A v.ns.length c, .slice A' v.ts.length c']) :=
  ⟨A, c, A', c', rfl, (own_form h).more hB, (own_form h').more hB, hv⟩
/-- a value laid into a block of its own -/
theorem boxed {w w' : World} {cs : Array Value} (h : w' = w.alloc (.cells cs 26)) : Blk w' w.heap.size 26 cs ∧ Below w.heap.size w w' := by
  subst h
  exact ⟨Blk.new _ _ _, (Below.refl _ _).alloc (Nat.le_refl _) _⟩
theorem dec_le {bs : List Nat} : prefErr bs = 0 → decErr bs = 0 → bs.length ≤ prefN bs := by
  intro h h2
  unfold decErr at h2
  by_cases hh : prefErr bs = 0 ∧ prefN bs < bs.length
  · rw [if_pos hh] at h2; omega
  · omega
theorem dec_pref {bs : List Nat} (h : decErr bs = 0) : prefErr bs = 0 := by
  unfold decErr at h
  split at h
  · omega
  · exact h
/-- what Decode takes whole -/
theorem dec_whole {bs : List Nat} (hb : IsBytes bs) (h : decErr bs = 0) : Right (decV bs) ∧ Vok (decV bs) ∧ encB (decV bs) = bs := by
  have hp := dec_pref h
  have hv : decV bs = prefV bs := if_pos h
  have ho := pref_ok hb hp
  rw [hv]
  refine ⟨ho.right, ho.ok, ?_⟩
  rw [ho.bytes, List.take_of_length_le (dec_le hp h)]

end Go.Proofs.Ytcopofdoelcgcaa

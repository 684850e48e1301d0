/- What was read, as a value that laws hold against another. -/
import Derived.Test.YtcopofdoelcgcaaValRDec
import Derived.Test.YtcopofdoelcgcaaValSpeak
import Derived.Deep.DeepAppendWide
namespace Go.Proofs.Ytcopofdoelcgcaa
open Go.RowKit
set_option linter.unusedVariables false

theorem vok_none : Vok vnone := vok_small (k := 0) (n := 0) (s := .empty) (by omega) (by omega) (by omega) (by omega) (by decide)
theorem pref_vok {bs : List Nat} (hb : IsBytes bs) : Vok (prefV bs) := by
  by_cases h : prefErr bs = 0
  · exact (pref_ok hb h).ok
  · rw [(pref_bad rfl h).1]; exact vok_none
theorem dec_vok {bs : List Nat} (hb : IsBytes bs) : Vok (decV bs) := by
  unfold decV
  split
  · exact pref_vok hb
  · exact vok_none
/-- a value whose lists are the call's own, read -/
theorem vr_of {w : World} {base B : Nat} {v : Vv} {A : Option Addr} {c : Nat} {A' : Option Addr} {c' : Nat} (h : OL ivl w base 2 (.slice A v.ns.length c) v.ns) (h' : OL svl w base 9 (.slice A' v.ts.length c') v.ts) (hv : Vok v) (hB : w.heap.size ≤ B) :
    VR w B v (.agg #[.int .i64 v.k, .int .i64 v.n, .string v.s, .slice A v.ns.length c, .slice A' v.ts.length c']) :=
  ⟨A, c, A', c', rfl, (own_form h).more hB, (own_form h').more hB, hv⟩
/-- a value laid into a block of its own -/
theorem boxed {w w' : World} {cs : Array Value} (h : w' = w.alloc (.cells cs 26)) : Blk w' w.heap.size 26 cs ∧ Below w.heap.size w w' := by
  subst h
  exact ⟨Blk.new _ _ _, (Below.refl _ _).alloc (Nat.le_refl _) _⟩
theorem dec_le {bs : List Nat} : prefErr bs = 0 → decErr bs = 0 → bs.length ≤ prefN bs := by
  intro h h2
  unfold decErr at h2
  by_cases hh : prefErr bs = 0 ∧ prefN bs < bs.length
  · rw [if_pos hh] at h2; omega
  · omega
theorem dec_pref {bs : List Nat} (h : decErr bs = 0) : prefErr bs = 0 := by
  unfold decErr at h
  split at h
  · omega
  · exact h
/-- what Decode takes whole -/
theorem dec_whole {bs : List Nat} (hb : IsBytes bs) (h : decErr bs = 0) : Right (decV bs) ∧ Vok (decV bs) ∧ encB (decV bs) = bs := by
  have hp := dec_pref h
  have hv : decV bs = prefV bs := if_pos h
  have ho := pref_ok hb hp
  rw [hv]
  refine ⟨ho.right, ho.ok, ?_⟩
  rw [ho.bytes, List.take_of_length_le (dec_le hp h)]

theorem dec_there {v : Vv} (h : Right v) (hn : Vok v) : decErr (encB v) = 0 ∧ decV (encB v) = v := by
  obtain ⟨h1, h2, h3⟩ := pref_there h hn []
  rw [List.append_nil] at h1 h2 h3
  obtain ⟨a, b⟩ := dec_ok h1 (by rw [h3]; omega)
  exact ⟨a, b.trans h2⟩
theorem blk_set5 {w : World} {g : Nat} {t : TypeId} {a0 b0 c0 d0 e0 : Value} (h : Blk w g t #[a0, b0, c0, d0, e0]) (a b c d e : Value) : Blk (set5 w g a b c d e) g t #[a, b, c, d, e] :=
  ((((h.set_ 0 a).set_ 1 b).set_ 2 c).set_ 3 d).set_ 4 e
theorem blk_far5 {w : World} {g g' : Nat} {t : TypeId} {cs : Array Value} (h : Blk w g t cs) (hg : g ≠ g') (a b c d e : Value) : Blk (set5 w g' a b c d e) g t cs := (set5_heap hg).trans h

/-- append(s, bs...): the sum may be nearly twice as long as a slice that is read -/
theorem wpList_append_bytes_wide {P : Program} (w : World) {ops : Array Oper} {rest : List Oper} {o : Oper} {a : Act} {Q : Exit → Act → World → Prop} (hgd : o.guard = none) (s x : Operand) (t : TypeId)
    (ho : o.op = .call { callee := .builtin .append, args := #[s, x], argTypes := #[t, t] })
    (base : Nat) (e : TypeId) (i : TypeInfo) (ht : P.underlying t = some (.slice e)) (hi : P.info? e = some i) (hz : i.zero = some (.int .u8 0)) (hsize : i.size = 1) (hby : i.bytes = 1)
    (v : Value) (bs : List Nat) (hs : a.eval s = v) (hown : OB w base e v bs)
    (A : Option Addr) (cp B : Nat) (news : List Nat) (m : Nat) (hm : news.length = m) (hx : a.eval x = .slice A m cp) (hr : RB w B A news)
    (hlen : bs.length + m ≤ 211106232532992) (hl0 : bs.length ≤ 140737488355328) (hbase : base ≤ w.heap.size)
    (h : ∀ v' w', OB w' base e v' (bs ++ news) → w.grownBy w' v.ownBlock → wpList P ops Q rest (a.put o.dst v') w') :
    wpList P ops Q (o :: rest) a w := by
  subst hm
  rcases Nat.eq_zero_or_pos news.length with h0 | h0
  · have hn : news = [] := List.length_eq_zero_iff.1 h0
    subst hn
    exact wpList_append_bytes w hgd s x t ho base e i ht hi hz hsize hby v bs hs hown A cp B [] 0 rfl hx hr (by omega) hbase fun v' w' h1 h2 _ => h v' w' h1 h2
  · obtain ⟨ad, rfl, _, hc⟩ := hr.2.2 h0
    exact wpList_append_own_wide w hgd s x t ho base e i (.int .u8 0) 1 1 ht hi hz hsize hby rfl (by omega) v bs.length (cells8 bs) hs hown.2 ad news.length cp (cells8 news) hx (by simp [cells8]) hc (cells8_oneCell _) (by simp only [maxLen]; omega) (by omega) hbase
      fun v' w' h1 h2 _ => h v' w' ⟨hown.1.append hr.1, by rw [cells8_append]; simpa using h1⟩ h2

end Go.Proofs.Ytcopofdoelcgcaa

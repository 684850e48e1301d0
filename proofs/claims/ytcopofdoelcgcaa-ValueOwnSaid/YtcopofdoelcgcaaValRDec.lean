/- The document's Prefix and Decode, whole. -/
import Derived.Test.YtcopofdoelcgcaaValRPrefA
import Derived.Test.YtcopofdoelcgcaaValRPrefB
import Derived.Test.YtcopofdoelcgcaaValRPrefC
import Derived.Test.YtcopofdoelcgcaaValRPrefD
import Derived.Test.YtcopofdoelcgcaaValRPrefE
import Derived.Test.YtcopofdoelcgcaaValRPrefF
namespace Go.Proofs.Ytcopofdoelcgcaa
open Go.RowKit
set_option linter.unusedVariables false

theorem refPrefix_any (A : Option Addr) (cap B : Nat) (bs : List Nat) (w : World) (h : RB w B A bs) (hB : B ≤ w.heap.size) (hc : bs.length ≤ cap) (hm : cap ≤ maxLen) :
    Calls Try.prog 27 #[.slice A bs.length cap] w (PrefPost bs w) := by
  rcases hbs : bs with _ | ⟨k, r⟩
  · exact rpref_none A cap w
  · rw [← hbs]
    obtain ⟨b, off, rfl, _, _⟩ := h.all (by rw [hbs]; simp)
    by_cases hk : 1 ≤ k ∧ k ≤ 8
    · by_cases h4 : k ≤ 4
      · rcases (show k = 1 ∨ (2 ≤ k ∧ k ≤ 3) ∨ k = 4 by omega) with e | e | e
        · exact rprefC b off cap B bs w h hB hc hm k r hbs (by omega) (by omega)
        · exact rprefD b off cap B bs w h hB hc hm k r hbs (by omega) (by omega)
        · exact rprefF b off cap B bs w h hB hc hm k r hbs (by omega) (by omega)
      · rcases r with _ | ⟨m, r⟩
        · exact rpref_short b off cap B bs w h hB hc hm k hbs hk h4
        · by_cases h40 : 40 < m
          · exact rpref_many b off cap B bs w h hB hc hm k m r hbs hk h4 h40
          · rcases (show k = 5 ∨ (6 ≤ k ∧ k ≤ 7) ∨ k = 8 by omega) with e | e | e
            · exact rprefA b off cap B bs w h hB hc hm k m r hbs (by omega) (by omega) h40
            · exact rprefB b off cap B bs w h hB hc hm k m r hbs (by omega) (by omega) h40
            · exact rprefE b off cap B bs w h hB hc hm k m r hbs (by omega) (by omega) h40
    · exact rpref_kind b off cap B bs w h hB hc hm k r hbs hk

set_option maxRecDepth 100000 in
set_option maxHeartbeats 2000000 in
theorem refDecode_any (A : Option Addr) (cap B : Nat) (bs : List Nat) (w : World) (h : RB w B A bs) (hB : B ≤ w.heap.size) (hc : bs.length ≤ cap) (hm : cap ≤ maxLen) :
    Calls Try.prog 25 #[.slice A bs.length cap] w (DecPost bs w) := by
  obtain ⟨wo, hwo⟩ : ∃ x, x = w.alloc (.cells #[.int .i64 0, .int .i64 0, .string ⟨#[]⟩, .slice none 0 0, .slice none 0 0] 26) := ⟨_, rfl⟩
  have B1 : Blk wo w.heap.size 26 #[.int .i64 0, .int .i64 0, .string ⟨#[]⟩, .slice none 0 0, .slice none 0 0] := by subst hwo; exact Blk.new _ _ _
  have hb0 : Below w.heap.size w wo := by subst hwo; exact (Below.refl _ _).alloc (Nat.le_refl _) _
  have hso := B1.lt
  have HP := Lib.hid (refPrefix_any A cap B bs wo (by subst hwo; exact h.alloc hB _) (by omega) hc hm)
  have HW := Lib.hid hwo
  have HD1 := Lib.hid (@dec_bad bs)
  have HD2 := Lib.hid (@dec_tail bs)
  have HD3 := Lib.hid (@dec_ok bs)
  have HB := Lib.hid (fun h0 => (@pref_bad bs _ rfl h0).1)
  have HL := Lib.hid (fun h0 => (@pref_ok bs h.1 h0).len)
  unfold maxLen at hm
  unfold DecPost
  unfold PrefPost at HP
  obtain ⟨E, hE⟩ : ∃ x, x = prefErr bs := ⟨_, rfl⟩
  obtain ⟨N, hN⟩ : ∃ x, x = prefN bs := ⟨_, rfl⟩
  obtain ⟨V, hV⟩ : ∃ x, x = prefV bs := ⟨_, rfl⟩
  have HB : Hid (E ≠ 0 → V = vnone) := Lib.hid (fun h0 => by rw [hV]; exact HB.out (by rw [hE] at h0; exact h0))
  rw [← hE, ← hN, ← hV] at HP
  rw [← hE] at HD1 HD2 HD3 HL
  rw [← hN] at HD2 HD3 HL
  rw [← hV] at HD3
  obtain ⟨v1, v2, v3, v4, v5⟩ := V
  clear hwo h hE hN hV
  go_enter Try.func25, Try.ntmps25
  go_wp2_with fail
  rw [← HW.out]
  refine (HP.out).mono ?_
  rintro e w2 ⟨A3, c3, A4, c4, rfl, o1, o2, b2⟩
  simp only at o1 o2 ⊢
  obtain ⟨w3, hw3⟩ : ∃ x, x = w2.alloc (.cells #[.int .i64 v1, .int .i64 v2, .string v3, .slice A3 v4.length c3, .slice A4 v5.length c4] 26) := ⟨_, rfl⟩
  have D1 : Blk w3 w.heap.size 26 #[.int .i64 0, .int .i64 0, .string ⟨#[]⟩, .slice none 0 0, .slice none 0 0] := by rw [hw3]; exact (B1.below b2 B1.lt).alloc _
  have D2 : Blk w3 w2.heap.size 26 #[.int .i64 v1, .int .i64 v2, .string v3, .slice A3 v4.length c3, .slice A4 v5.length c4] := by rw [hw3]; exact Blk.new _ _ _
  have hb3 : Below w.heap.size w w3 := by rw [hw3]; exact (hb0.trans (b2.mono hb0.size)).alloc (hb0.trans (b2.mono hb0.size)).size _
  have HO1 := Lib.hid (show OL ivl w3 w.heap.size 2 (.slice A3 v4.length c3) v4 by rw [hw3]; exact (o1.mono (Nat.le_of_lt hso)).alloc _)
  have HO2 := Lib.hid (show OL svl w3 w.heap.size 9 (.slice A4 v5.length c4) v5 by rw [hw3]; exact (o2.mono (Nat.le_of_lt hso)).alloc _)
  have n1 := own_blk_ne HO1.out.2 D1 (by decide)
  have n2 := own_blk_ne HO2.out.2 D1 (by decide)
  have HW3 := Lib.hid hw3
  have hs3 := b2.size
  obtain ⟨z0, z1, z2, z3, z4⟩ := box_cells D1
  obtain ⟨x0, x1, x2, x3, x4⟩ := box_cells D2
  obtain ⟨f0, f1, f2, f3, f4⟩ := free_cells D1
  have hl1 := D1.lt
  have hl2 := D2.lt
  have hne2 : w.heap.size < w2.heap.size := by omega
  clear hw3 o1 o2 b2 hb0 B1 D1 D2
  go_upto_region 2 with fail
  rw [← HW3.out]
  by_cases h0 : E = 0
  case neg =>
    have hne : (E == 0) = false := by simpa using h0
    obtain ⟨e1, e2⟩ := HD1.out h0
    have HE1 := Lib.hid e1
    have HE2 := Lib.hid (e2.trans (HB.out h0).symm)
    clear h0 e1 e2
    go_wp2
    refine bodyPost_ret (v := .tuple #[.agg #[.int .i64 v1, .int .i64 v2, .string v3, .slice A3 v4.length c3, .slice A4 v5.length c4], .int .i64 E]) (by simp [results, Try.results25, go_sem, *]) rfl ⟨A3, c3, A4, c4, ?_, ?_, ?_, ?_⟩
    · rw [HE1.out, HE2.out]
    · rw [HE2.out]; exact OL.set5 HO1.out n1 _ _ _ _ _
    · rw [HE2.out]; exact OL.set5 HO2.out n2 _ _ _ _ _
    · exact set5_below hb3 (Nat.le_refl _)
  subst h0
  have hNl := HL.out rfl
  by_cases hlt : N < bs.length
  · have hd : ((N : Int) != (bs.length : Int)) = true := by rw [bne_iff_ne]; omega
    obtain ⟨e1, e2⟩ := HD2.out rfl hlt
    have HE1 := Lib.hid e1
    have HE2 := Lib.hid e2
    clear e1 e2
    go_wp2
    refine bodyPost_ret (v := .tuple #[.agg #[.int .i64 0, .int .i64 0, .string ⟨#[]⟩, .slice none 0 0, .slice none 0 0], .int .i64 11]) (by simp [results, Try.results25, go_sem, *]) rfl ⟨none, 0, none, 0, ?_, ?_, ?_, ?_⟩
    · rw [HE1.out, HE2.out]; rfl
    · rw [HE2.out]; exact OL.nil _ _ _ _
    · rw [HE2.out]; exact OL.nil _ _ _ _
    · exact set5_below hb3 (Nat.le_refl _)
  · have hd : ((N : Int) != (bs.length : Int)) = false := by rw [bne_eq_false_iff_eq]; omega
    obtain ⟨e1, e2⟩ := HD3.out rfl hlt
    have HE1 := Lib.hid e1
    have HE2 := Lib.hid e2
    clear e1 e2
    go_wp2
    refine bodyPost_ret (v := .tuple #[.agg #[.int .i64 v1, .int .i64 v2, .string v3, .slice A3 v4.length c3, .slice A4 v5.length c4], .int .i64 0]) (by simp [results, Try.results25, go_sem, *]) rfl ⟨A3, c3, A4, c4, ?_, ?_, ?_, ?_⟩
    · rw [HE1.out, HE2.out]
    · rw [HE2.out]; exact OL.set5 HO1.out n1 _ _ _ _ _
    · rw [HE2.out]; exact OL.set5 HO2.out n2 _ _ _ _ _
    · exact set5_below hb3 (Nat.le_refl _)

end Go.Proofs.Ytcopofdoelcgcaa

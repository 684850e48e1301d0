/- Raw of the wire Reader. -/
import Derived.Test.YtgpahglmhnnobaaGreatDoorReader
namespace Go.Proofs.YtgpahglmhnnobaaGreatDoor
open Go.RowKit
set_option linter.unusedVariables false

set_option maxHeartbeats 400000 in
theorem RRaw_any (base g q : Nat) (bs : List Nat) (err n : Int) (w : World) (h : Rd w base g q bs err) (hl8 : bs.length ≤ 140737488355328) :
    Calls Tryz.prog 54 #[.pointer (some ⟨g, 0, none⟩), .int .i64 n] w (RawPost base g q bs err n w) := by
  obtain ⟨A, c, h, hr, hq, hc, hm, h1, h2, h3, h4⟩ := h
  have hc0 : w.cell? ⟨g, 0, none⟩ = some (.slice A bs.length c) := by rw [h.cell 0]; rfl
  have hf0 := h.frozen 0
  unfold RawPost
  by_cases hn : n < 0
  · have h0 := rawErr_arg (len := bs.length) hn
    have hne : rawErr bs.length n ≠ 0 := by rw [h0]; decide
    have HV := Lib.hid (rawVal_no hne)
    have HR := Lib.hid (restOf_no (bs := bs) (d := n) hne)
    have HE := Lib.hid (errBy_no (err := err) hne)
    unfold ReadBy
    rw [HR.out, HE.out, HV.out, h0]
    have HF := Lib.hid (fail_any g A bs.length c err 2 w h)
    clear h hr h0 HR HE HV hne h3
    go_enter Tryz.func54, Tryz.ntmps54
    go_wp2_with (go_at_call 73; refine (HF.out).mono ?_; rintro e w' ⟨rfl, hb1, ho1⟩)
    go_ret
    exact ⟨_, rfl, OB.nil _ _ _, ⟨none, 0, hb1, RB.empty _ _ _, (fun a e => by cases e), (by simp), (by simp), h1, h2, (fun _ => rfl), Nat.lt_of_lt_of_le h4 ho1.size⟩, ho1⟩
  by_cases hl : (bs.length : Int) < n
  · have h0 := rawErr_short hn hl
    have hne : rawErr bs.length n ≠ 0 := by rw [h0]; decide
    have HV := Lib.hid (rawVal_no hne)
    have HR := Lib.hid (restOf_no (bs := bs) (d := n) hne)
    have HE := Lib.hid (errBy_no (err := err) hne)
    unfold ReadBy
    rw [HR.out, HE.out, HV.out, h0]
    have HF := Lib.hid (fail_any g A bs.length c err 10 w h)
    clear h hr h0 HR HE HV hne h3
    go_enter Tryz.func54, Tryz.ntmps54
    go_wp2_with (go_at_call 73; refine (HF.out).mono ?_; rintro e w' ⟨rfl, hb1, ho1⟩)
    go_ret
    exact ⟨_, rfl, OB.nil _ _ _, ⟨none, 0, hb1, RB.empty _ _ _, (fun a e => by cases e), (by simp), (by simp), h1, h2, (fun _ => rfl), Nat.lt_of_lt_of_le h4 ho1.size⟩, ho1⟩
  · have h0 := rawErr_ok hn hl
    obtain ⟨d, rfl⟩ := Int.eq_ofNat_of_zero_le (by omega : 0 ≤ n)
    have hd : d ≤ bs.length := by omega
    have HV : Hid (rawVal bs (d : Int) = bs.take d) := Lib.hid (by rw [rawVal_ok h0, Int.toNat_natCast])
    have HR : Hid (restOf bs (rawErr bs.length (d : Int)) (d : Int) = bs.drop d) := Lib.hid (by rw [restOf_ok h0, Int.toNat_natCast])
    have HE := Lib.hid (errBy_ok (err := err) h0)
    have hm' : c ≤ 9223372036854775807 := by have := hm; unfold maxLen at this; omega
    have htk : RB w w.heap.size A (bs.take d) := by
      rcases Nat.eq_zero_or_pos d with e | e
      · subst e; exact RB.empty _ _ _
      · obtain ⟨b, off, rfl, _, _⟩ := hr.all (by omega)
        have := hr.cut rfl 0 d hd (by omega)
        simpa using this
    have hlt : (bs.take d).length = d := by simp; omega
    have HC : Hid (∀ c', Calls Tryz.prog 41 #[.slice A d c'] w (NewB (bs.take d) w)) := Lib.hid fun c' => by
      have := Clone_any A c' w.heap.size (bs.take d) w htk (Nat.le_refl _) (by omega)
      rwa [hlt] at this
    unfold ReadBy
    rw [HR.out, HE.out, HV.out]
    have HH : Hid (∀ w', Below w.heap.size w w' → Blk w' g 105 #[.slice A bs.length c, .int .i64 err] ∧ RB w' w'.heap.size A bs ∧ w'.frozen? ⟨g, 0, none⟩ = false ∧ w'.cell? ⟨g, 0, none⟩ = some (.slice A bs.length c)) := Lib.hid fun w' hb => by
      have hb1 := h.below hb h.lt
      exact ⟨hb1, (hr.below hb).more hb.size, hb1.frozen 0, by rw [hb1.cell 0]; rfl⟩
    have HO : Hid (∀ w' v l, OB w' w.heap.size 5 v l → ∀ w2, Only (fun k => k = g) w' w2 → OB w2 w.heap.size 5 v l) := Lib.hid fun w' v l ho w2 h2 => ho.only h2 fun k hk e => by
      have := (ho.2.lt k hk).1; have := h.lt; omega
    have HB : Hid (∀ w' w2, Below w.heap.size w w' → Only (fun k => k = g) w' w2 → Only (fun k => k = g) w w2) := Lib.hid fun w' w2 hb h2 => (Only.of_below hb _).trans h2 fun _ _ h => h
    rcases A with _ | a
    · have hz : bs = [] := by
        rcases Nat.eq_zero_or_pos bs.length with h0 | h0
        · exact List.length_eq_zero_iff.1 h0
        · obtain ⟨_, h, _⟩ := hr.2.2 h0
          cases h
      subst hz
      obtain rfl : d = 0 := by simpa using hd
      have HS : Hid (∀ w', Below w.heap.size w w' → Rd (w'.setCell ⟨g, 0, none⟩ (.slice none 0 c)) base g q [] err ∧ Only (fun k => k = g) w' (w'.setCell ⟨g, 0, none⟩ (.slice none 0 c))) := Lib.hid fun w' hb => by
        have hb1 := (HH.out w' hb).1.set_ 0 (.slice none 0 c)
        exact ⟨⟨none, c, by simpa using hb1, RB.empty _ _ _, (fun a e => by cases e), (by simp), hm, h1, h2, (fun _ => rfl), by have := hb.size; simp only [World.setCell, Array.size_modify]; omega⟩, (Only.refl (fun k => k = g) w').setCell (p := ⟨g, 0, none⟩) (.inl rfl) _⟩
      clear h hr h0 HV HR HE hn hl h3
      go_enter Tryz.func54, Tryz.ntmps54
      go_wp2_with (go_at_call 41; refine (HC.out _).mono ?_; rintro e w' ⟨v', rfl, ho, hb⟩; obtain ⟨-, -, hf1, hc1⟩ := HH.out _ hb)
      go_ret
      exact ⟨_, rfl, HO.out _ _ _ ho _ (HS.out _ hb).2, (HS.out _ hb).1, HB.out _ _ hb (HS.out _ hb).2⟩
    · obtain ⟨off, rfl⟩ := hq _ rfl
      have HS : Hid (∀ w', Below w.heap.size w w' → ∀ off', (off' = off + d ∨ d = bs.length) → Rd (w'.setCell ⟨g, 0, none⟩ (.slice (some ⟨q, off', none⟩) (bs.length - d) (c - d))) base g q (bs.drop d) err ∧ Only (fun k => k = g) w' (w'.setCell ⟨g, 0, none⟩ (.slice (some ⟨q, off', none⟩) (bs.length - d) (c - d)))) := Lib.hid fun w' hb =>
        rest_set base q bs rfl (HH.out w' hb).1 (HH.out w' hb).2.1 rfl hc hm h1 h2 h3 (Nat.lt_of_lt_of_le h4 hb.size) hd
      clear h hr h0 HV HR HE hn hl h3
      by_cases hce : c = d
      · subst hce
        go_enter Tryz.func54, Tryz.ntmps54
        go_wp2_with (go_at_call 41; refine (HC.out _).mono ?_; rintro e w' ⟨v', rfl, ho, hb⟩; obtain ⟨-, -, hf1, hc1⟩ := HH.out _ hb)
        go_ret
        have hs := HS.out _ hb off (.inr (by omega))
        rw [show bs.length - c = 0 from by omega, Nat.sub_self] at hs
        exact ⟨_, rfl, HO.out _ _ _ ho _ hs.2, hs.1, HB.out _ _ hb hs.2⟩
      · go_enter Tryz.func54, Tryz.ntmps54
        go_wp2_with (go_at_call 41; refine (HC.out _).mono ?_; rintro e w' ⟨v', rfl, ho, hb⟩; obtain ⟨-, -, hf1, hc1⟩ := HH.out _ hb)
        go_ret
        have hs := HS.out _ hb _ (.inl rfl)
        exact ⟨_, rfl, HO.out _ _ _ ho _ hs.2, hs.1, HB.out _ _ hb hs.2⟩

end Go.Proofs.YtgpahglmhnnobaaGreatDoor

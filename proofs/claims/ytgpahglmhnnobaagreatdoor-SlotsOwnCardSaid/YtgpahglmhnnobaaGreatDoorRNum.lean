/- Num of the wire Reader. -/
import Derived.Test.YtgpahglmhnnobaaGreatDoorReader
namespace Go.Proofs.YtgpahglmhnnobaaGreatDoor
open Go.RowKit
set_option linter.unusedVariables false

set_option maxHeartbeats 400000 in
theorem RNum_any (base g q : Nat) (bs : List Nat) (err width : Int) (w : World) (h : Rd w base g q bs err) :
    Calls Tryz.prog 52 #[.pointer (some ⟨g, 0, none⟩), .int .i64 width] w fun e w' => e = .returned (.int .u64 (getVal bs 0 width : Nat)) ∧ ReadBy base g q bs err (placeErr bs.length 0 width) width w w' := by
  obtain ⟨A, c, h, hr, hq, hc, hm, h1, h2, h3, h4⟩ := h
  have hc0 : w.cell? ⟨g, 0, none⟩ = some (.slice A bs.length c) := by rw [h.cell 0]; rfl
  have hf0 := h.frozen 0
  have HG := Lib.hid (Get_any A c w.heap.size bs 0 width w hr (Nat.le_trans hc hm) hc hm (by omega) (by omega))
  by_cases h0 : placeErr bs.length 0 width = 0
  · obtain ⟨hwd, hat, hsum⟩ := placeErr_zero h0
    obtain ⟨d, rfl⟩ : ∃ d : Nat, width = d := ⟨width.toNat, by omega⟩
    obtain ⟨b, off, rfl, _, _⟩ := hr.all (by omega)
    obtain rfl : q = b := by obtain ⟨o, e⟩ := hq _ rfl; injection e with e; exact e.symm
    rw [h0] at HG
    have hd : 1 ≤ d ∧ d ≤ bs.length := by omega
    have HS := Lib.hid (rest_set base q bs rfl h hr rfl hc hm h1 h2 h3 h4 hd.2)
    have HR : Hid (restOf bs (placeErr bs.length 0 (d : Int)) (d : Int) = bs.drop d) := Lib.hid (by rw [restOf_ok h0, Int.toNat_natCast])
    have HE := Lib.hid (errBy_ok (err := err) h0)
    obtain ⟨v, hv⟩ : ∃ v, v = getVal bs 0 (d : Int) := ⟨_, rfl⟩
    rw [← hv] at HG ⊢
    have hm' : c ≤ 9223372036854775807 := by have := hm; unfold maxLen at this; omega
    clear h hr hq h0 hwd hat hm hv h3
    unfold ReadBy
    rw [HR.out, HE.out]
    by_cases hce : c = d
    · subst hce
      go_enter Tryz.func52, Tryz.ntmps52
      go_wp2_with (go_at_call 47; refine (HG.out).mono ?_; rintro e w' ⟨rfl, rfl⟩)
      go_ret
      have hs := HS.out off (.inr (by omega))
      rw [show bs.length - c = 0 from by omega, Nat.sub_self] at hs
      exact ⟨rfl, hs⟩
    · go_enter Tryz.func52, Tryz.ntmps52
      go_wp2_with (go_at_call 47; refine (HG.out).mono ?_; rintro e w' ⟨rfl, rfl⟩)
      go_ret
      exact ⟨rfl, HS.out _ (.inl rfl)⟩
  · have hb : (placeErr bs.length 0 width != 0) = true := by simpa using h0
    have HV := Lib.hid (getVal_err h0)
    have HR := Lib.hid (restOf_no (bs := bs) (d := width) h0)
    have HE := Lib.hid (errBy_no (err := err) h0)
    unfold ReadBy
    rw [HR.out, HE.out, HV.out]
    rw [HV.out] at HG
    obtain ⟨p, hp⟩ : ∃ p, p = placeErr bs.length 0 width := ⟨_, rfl⟩
    rw [← hp] at HG hb ⊢
    have HF := Lib.hid (fail_any g A bs.length c err p w h)
    clear h hr h0 hp HR HE HV h3
    go_enter Tryz.func52, Tryz.ntmps52
    go_wp2_with (first | (go_at_call 47; refine (HG.out).mono ?_; rintro e w' ⟨rfl, rfl⟩) | (go_at_call 73; refine (HF.out).mono ?_; rintro e w' ⟨rfl, hb1, ho1⟩))
    go_ret
    exact ⟨rfl, ⟨none, 0, hb1, RB.empty _ _ _, (fun a e => by cases e), (by simp), (by simp), h1, h2, (fun _ => rfl), Nat.lt_of_lt_of_le h4 ho1.size⟩, ho1⟩

end Go.Proofs.YtgpahglmhnnobaaGreatDoor

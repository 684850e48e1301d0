/- slots: the document's Same, of lists that are alike. -/
import Derived.Test.YtgpahglmhnnobaaGreatDoorSlCopy
import Derived.Test.YtgpahglmhnnobaaGreatDoorValSameA
import Derived.Deep.RegionHeld3
import Derived.LoopTactic
namespace Go.Proofs.YtgpahglmhnnobaaGreatDoor
open Go.RowKit
set_option linter.unusedVariables false
set_option linter.unusedSimpArgs false

set_option maxRecDepth 100000 in
set_option maxHeartbeats 2000000 in
theorem refSameKv_yes (A A' : Option Addr) (cap cap' B : Nat) (L : List Kv) (w : World) (h : KvsR w B A L) (h' : KvsR w B A' L) (hB : B ≤ w.heap.size) (hl : L.length ≤ 140737488351232) :
    Calls Tryz.prog 11 #[.slice A L.length cap, .slice A' L.length cap'] w fun e w' => e = .returned (.bool true) ∧ Below w.heap.size w w' := by
  have H := Lib.hid h
  have H' := Lib.hid h'
  clear h h'
  go_enter Tryz.func11, Tryz.ntmps11
  go_wp2
  go_loopw [5] (fun i wr => ∃ k : Nat, k ≤ L.length ∧ i = .int .i64 k ∧ Below w.heap.size w wr) (fun i _ => L.length - (intOf i).toNat)
  case atStart => exact ⟨0, Nat.zero_le _, rfl, Below.refl _ _⟩
  case round =>
    obtain ⟨k, hk, rfl, hbw⟩ := hrel
    by_cases hlt : k < L.length
    · obtain ⟨x, hx⟩ : ∃ x, L[k]? = some x := ⟨_, List.getElem?_eq_getElem hlt⟩
      have hsz := hbw.size
      obtain ⟨b, off, rfl, hbB, A1, c1, A2, c2, hc, hr1, hr2, hok, hks⟩ := (KvsR.below H.out (hbw.mono hB)) k _ hx
      obtain ⟨b', off', rfl, hbB', A3, c3, A4, c4, hc', hr3, hr4, -, -⟩ := (KvsR.below H'.out (hbw.mono hB)) k _ hx
      obtain ⟨q0, q1, q2, q3, q4, q5⟩ := kv_cells hc
      obtain ⟨s0, s1, s2, s3, s4, s5⟩ := kv_cells hc'
      have HS := refSame_any x.v x.v _ _ B wr.drew ⟨A1, c1, A2, c2, rfl, hr1, hr2, hok⟩ ⟨A3, c3, A4, c4, rfl, hr3, hr4, hok⟩ (by show B ≤ wr.heap.size; omega)
      have hsv : sameV x.v x.v = true := by unfold sameV; simp
      rw [hsv] at HS
      have HP : Hid (∀ w', Below wr.heap.size wr w' → CellsAt w' b (off + k * 6) (kcells x A1 c1 A2 c2) ∧ CellsAt w' b' (off' + k * 6) (kcells x A3 c3 A4 c4)) := Lib.hid fun w' hb => ⟨hc.below hb (by omega), hc'.below hb (by omega)⟩
      have hi0 : (0 : Int) ≤ (k : Int) := by omega
      have hi2 : (k : Int) < (L.length : Int) := by omega
      obtain ⟨key, ⟨vk, vn, vs, ns, ts⟩⟩ := x
      simp only [vagg] at q0 q1 q2 q3 q4 q5 s0 s1 s2 s3 s4 s5 hks HS HP
      have HS := Lib.hid HS
      clear hc hc' hr1 hr2 hr3 hr4 hok hx hsv
      go_wp2
      go_region_held3 (fun w' => w'.cell? ⟨b, off + k * 6, none⟩ = some (.int .i64 key) ∧ w'.cell? ⟨b, off + k * 6 + 1, none⟩ = some (.int .i64 vk) ∧ w'.cell? ⟨b, off + k * 6 + 2, none⟩ = some (.int .i64 vn) ∧ w'.cell? ⟨b, off + k * 6 + 3, none⟩ = some (.string vs) ∧ w'.cell? ⟨b, off + k * 6 + 4, none⟩ = some (.slice A1 ns.length c1) ∧ w'.cell? ⟨b, off + k * 6 + 5, none⟩ = some (.slice A2 ts.length c2) ∧
          w'.cell? ⟨b', off' + k * 6, none⟩ = some (.int .i64 key) ∧ w'.cell? ⟨b', off' + k * 6 + 1, none⟩ = some (.int .i64 vk) ∧ w'.cell? ⟨b', off' + k * 6 + 2, none⟩ = some (.int .i64 vn) ∧ w'.cell? ⟨b', off' + k * 6 + 3, none⟩ = some (.string vs) ∧ w'.cell? ⟨b', off' + k * 6 + 4, none⟩ = some (.slice A3 ns.length c3) ∧ w'.cell? ⟨b', off' + k * 6 + 5, none⟩ = some (.slice A4 ts.length c4)) (go_keep)
        ((go_at_call 26; refine HS.out.mono ?_; rintro e w8 ⟨rfl, hb8⟩; have hb8' := Lib.hid (show Below wr.heap.size wr w8 from ⟨hb8.os, hb8.tape, hb8.output, hb8.size, hb8.block⟩); obtain ⟨hp1, hp2⟩ := HP.out w8 hb8'.out; obtain ⟨t0, t1, t2, t3, t4, t5⟩ := kv_cells hp1; obtain ⟨u0, u1, u2, u3, u4, u5⟩ := kv_cells hp2; clear hp1 hp2 hb8))
      have hb9 := hbw.trans (hb8'.out.mono hsz)
      clear q0 q1 q2 q3 q4 q5 s0 s1 s2 s3 s4 s5 t0 t1 t2 t3 t4 t5 u0 u1 u2 u3 u4 u5
      go_wp2
      go_roundw
      case rel => exact ⟨k + 1, by omega, by go_num, hb9⟩
      case measure => simp [intOf]; omega
    · obtain rfl : k = L.length := by omega
      go_wp2
      go_ret
      exact ⟨rfl, hbw⟩
end Go.Proofs.YtgpahglmhnnobaaGreatDoor

/- The document's Same: texts, properties. -/
import Derived.Test.YtdfpmolkkbplpaaGreatGrSame
import Derived.Test.YtdfpmolkkbplpaaGreatValSame3
import Derived.Deep.QuietTactic
import Derived.BigQuiet
import Derived.Deep.RegionHeld3
namespace Go.Proofs.YtdfpmolkkbplpaaGreat
open Go.RowKit
set_option linter.unusedVariables false

set_option maxHeartbeats 1000000 in
theorem refSameTexts_any (A A' : Option Addr) (cap cap' B B' : Nat) (xs ys : List ByteArray) (w : World) (h : RL svl w B A xs) (h' : RL svl w B' A' ys) (hl : xs.length ≤ 140737488351232) (hl' : ys.length ≤ 140737488351232) :
    Calls Tryz.prog 29 #[.slice A xs.length cap, .slice A' ys.length cap'] w (SameB (decide (xs = ys)) w) := by
  by_cases h0 : xs.length = ys.length
  · have hb : ((xs.length : Int) != (ys.length : Int)) = false := by simp [h0]
    have H0 := Lib.hid h0
    have h1 : xs.length ≤ ys.length := by omega
    have h2 : ys.length ≤ xs.length := by omega
    clear h0
    go_enter Tryz.func29, Tryz.ntmps29
    go_wp2
    go_loopw [5] (fun i wr => ∃ k n : Nat, k ≤ xs.length ∧ i = .int .i64 k ∧ xs.take k = ys.take k ∧ wr = w.drewN n) (fun i _ => xs.length - (intOf i).toNat)
    case atStart => exact ⟨0, 0, Nat.zero_le _, rfl, rfl, rfl⟩
    case round =>
      obtain ⟨k, n, hk, rfl, heq, rfl⟩ := hrel
      by_cases hlt : k < xs.length
      · obtain ⟨b, off, rfl, _, hc⟩ := h.allS (by omega)
        obtain ⟨b', off', rfl, _, hc'⟩ := h'.allS (by omega)
        have q := hc k hlt
        have q' := hc' k (by omega)
        have hi0 : (0 : Int) ≤ (k : Int) := by omega
        have hi1 : (k : Int) < (xs.length : Int) := by omega
        have hi2 : (k : Int) < (ys.length : Int) := by omega
        clear hc hc'
        by_cases hne : nthS xs k = nthS ys k
        · have hb1 : ((nthS xs k).toList == (nthS ys k).toList) = true := by rw [hne]; exact beq_self_eq_true _
          have Hq : Hid (xs.take (k + 1) = ys.take (k + 1)) := Lib.hid (by rw [takeS_succ hlt, takeS_succ (by omega), heq, hne])
          clear heq hne
          go_wp2
          go_quiet (fail)
          go_wp2
          go_roundw
          case rel => exact ⟨k + 1, n + nq, by omega, by go_num, Hq.out, rfl⟩
          case measure => simp [intOf]; omega
        · have hb1 : ((nthS xs k).toList == (nthS ys k).toList) = false := by
            rw [beq_eq_false_iff_ne]; exact fun e => hne (str_inj e)
          have Hn : Hid (decide (xs = ys) = false) := Lib.hid (decide_eq_false (fun e => hne (by rw [e])))
          clear heq hne
          go_wp2
          go_quiet (fail)
          go_wp2
          go_ret
          exact ⟨ret_bool Hn.out.symm, n + nq, World.drewN_drewN _ _ _⟩
      · have Hn : Hid (decide (xs = ys) = true) := Lib.hid (decide_eq_true (by
          rw [List.take_of_length_le (by omega), List.take_of_length_le (by omega)] at heq; exact heq))
        clear heq
        go_wp2
        go_ret
        exact ⟨ret_bool Hn.out.symm, n, rfl⟩
  · have hb : ((xs.length : Int) != (ys.length : Int)) = true := by rw [bne_iff_ne]; omega
    have Hn : Hid (decide (xs = ys) = false) := Lib.hid (decide_eq_false (fun e => h0 (by rw [e])))
    clear h0
    go_enter Tryz.func29, Tryz.ntmps29
    go_wp2
    go_ret
    exact ⟨ret_bool Hn.out.symm, 0, rfl⟩

set_option maxRecDepth 100000 in
set_option maxHeartbeats 2000000 in
theorem refSameProps_any (A A' : Option Addr) (cap cap' B : Nat) (L M : List Pv) (w : World) (h : PropsR w B A L) (h' : PropsR w B A' M) (hB : B ≤ w.heap.size) (hl : L.length ≤ 140737488351232) (hl' : M.length ≤ 140737488351232) :
    Calls Tryz.prog 43 #[.slice A L.length cap, .slice A' M.length cap'] w (Says (eqF sameP L M) w) := by
  have H := Lib.hid h
  have H' := Lib.hid h'
  clear h h'
  by_cases h0 : L.length = M.length
  · have hb : ((L.length : Int) != (M.length : Int)) = false := by simp [h0]
    have H0 := Lib.hid h0
    have h1 : L.length ≤ M.length := by omega
    have h2 : M.length ≤ L.length := by omega
    clear h0
    go_enter Tryz.func43, Tryz.ntmps43
    go_wp2
    go_loopw [5] (fun i wr => ∃ k : Nat, k ≤ L.length ∧ i = .int .i64 k ∧ (∀ j a b, j < k → L[j]? = some a → M[j]? = some b → sameP a b = true) ∧ Below w.heap.size w wr) (fun i _ => L.length - (intOf i).toNat)
    case atStart => exact ⟨0, Nat.zero_le _, rfl, fun j a b hj => by omega, Below.refl _ _⟩
    case round =>
      obtain ⟨k, hk, rfl, heq, hbw⟩ := hrel
      by_cases hlt : k < L.length
      · have hlt' : k < M.length := by omega
        obtain ⟨x, hx⟩ : ∃ x, L[k]? = some x := ⟨_, List.getElem?_eq_getElem hlt⟩
        obtain ⟨y, hy⟩ : ∃ y, M[k]? = some y := ⟨_, List.getElem?_eq_getElem hlt'⟩
        have hsz := hbw.size
        obtain ⟨b, off, rfl, hbB, A1, c1, A2, c2, hc, hr1, hr2, hok, hks⟩ := (PropsR.below H.out (hbw.mono hB)) k _ hx
        obtain ⟨b', off', rfl, hbB', A3, c3, A4, c4, hc', hr3, hr4, hok', hks'⟩ := (PropsR.below H'.out (hbw.mono hB)) k _ hy
        obtain ⟨q0, q1, q2, q3, q4, q5⟩ := prop_cells hc
        obtain ⟨s0, s1, s2, s3, s4, s5⟩ := prop_cells hc'
        have HS := refSame_any x.val y.val _ _ B wr.drew ⟨A1, c1, A2, c2, rfl, hr1, hr2, hok⟩ ⟨A3, c3, A4, c4, rfl, hr3, hr4, hok'⟩ (by show B ≤ wr.heap.size; omega)
        have HP : Hid (∀ w', Below wr.heap.size wr w' → CellsAt w' b (off + k * 6) (pcells x A1 c1 A2 c2) ∧ CellsAt w' b' (off' + k * 6) (pcells y A3 c3 A4 c4)) := Lib.hid fun w' hb => ⟨hc.below hb (by omega), hc'.below hb (by omega)⟩
        have Hx := Lib.hid hx
        have Hy := Lib.hid hy
        have Heq := Lib.hid heq
        have hi0 : (0 : Int) ≤ (k : Int) := by omega
        have hi1 : (k : Int) < (M.length : Int) := by omega
        have hi2 : (k : Int) < (L.length : Int) := by omega
        obtain ⟨E, hE⟩ : ∃ E, E = sameV x.val y.val := ⟨_, rfl⟩
        rw [← hE] at HS
        have hP : sameP x y = (decide (x.key = y.key) && E) := by rw [hE]; rfl
        obtain ⟨key, ⟨vk, vn, vs, ns, ts⟩⟩ := x
        obtain ⟨key', ⟨vk', vn', vs', ns', ts'⟩⟩ := y
        simp only [vagg] at q0 q1 q2 q3 q4 q5 s0 s1 s2 s3 s4 s5 hks hks' HS HP hP
        have HS := Lib.hid HS
        clear hc hc' hr1 hr2 hr3 hr4 hok hok' hx hy heq hE
        by_cases hkk : key = key'
        · have f1 : (key.toList == key'.toList) = true := by rw [hkk]; exact beq_self_eq_true _
          have HE : Hid (sameP ⟨key, ⟨vk, vn, vs, ns, ts⟩⟩ ⟨key', ⟨vk', vn', vs', ns', ts'⟩⟩ = E) := Lib.hid (by rw [hP, hkk]; simp)
          clear hP hkk
          go_wp2
          go_region_held3 (fun w' => w'.cell? ⟨b, off + k * 6, none⟩ = some (.string key) ∧ w'.cell? ⟨b, off + k * 6 + 1, none⟩ = some (.int .i64 vk) ∧ w'.cell? ⟨b, off + k * 6 + 2, none⟩ = some (.int .i64 vn) ∧ w'.cell? ⟨b, off + k * 6 + 3, none⟩ = some (.string vs) ∧ w'.cell? ⟨b, off + k * 6 + 4, none⟩ = some (.slice A1 ns.length c1) ∧ w'.cell? ⟨b, off + k * 6 + 5, none⟩ = some (.slice A2 ts.length c2) ∧
              w'.cell? ⟨b', off' + k * 6, none⟩ = some (.string key') ∧ w'.cell? ⟨b', off' + k * 6 + 1, none⟩ = some (.int .i64 vk') ∧ w'.cell? ⟨b', off' + k * 6 + 2, none⟩ = some (.int .i64 vn') ∧ w'.cell? ⟨b', off' + k * 6 + 3, none⟩ = some (.string vs') ∧ w'.cell? ⟨b', off' + k * 6 + 4, none⟩ = some (.slice A3 ns'.length c3) ∧ w'.cell? ⟨b', off' + k * 6 + 5, none⟩ = some (.slice A4 ts'.length c4)) (go_keep)
            ((go_at_call 65; refine HS.out.mono ?_; rintro e w8 ⟨rfl, hb8⟩; have hb8' := Lib.hid (show Below wr.heap.size wr w8 from ⟨hb8.os, hb8.tape, hb8.output, hb8.size, hb8.block⟩); obtain ⟨hp1, hp2⟩ := HP.out w8 hb8'.out; obtain ⟨t0, t1, t2, t3, t4, t5⟩ := prop_cells hp1; obtain ⟨u0, u1, u2, u3, u4, u5⟩ := prop_cells hp2; clear hp1 hp2 hb8))
          have hb9 := hbw.trans (hb8'.out.mono hsz)
          clear q0 q1 q2 q3 q4 q5 s0 s1 s2 s3 s4 s5 t0 t1 t2 t3 t4 t5 u0 u1 u2 u3 u4 u5
          cases E
          · have Hn : Hid (eqF sameP L M = false) := Lib.hid (eqF_no Hx.out Hy.out HE.out)
            go_wp2
            go_ret
            exact ⟨ret_bool Hn.out.symm, hb9⟩
          · go_wp2
            go_roundw
            case rel =>
              refine ⟨k + 1, by omega, by go_num, fun j a b hj ha hb => ?_, hb9⟩
              rcases Nat.lt_or_ge j k with hj' | hj'
              · exact Heq.out j a b hj' ha hb
              · obtain rfl : j = k := by omega
                have e1 := Hx.out
                have e2 := Hy.out
                rw [ha] at e1
                rw [hb] at e2
                injection e1 with e1
                injection e2 with e2
                rw [e1, e2, HE.out]
            case measure => simp [intOf]; omega
        · have f1 : (key.toList == key'.toList) = false := by rw [beq_eq_false_iff_ne]; exact fun e => hkk (str_inj e)
          have Hn : Hid (eqF sameP L M = false) := Lib.hid (eqF_no Hx.out Hy.out (by rw [hP]; simp [hkk]))
          clear hP hkk HS
          go_wp2
          go_quiet (fail)
          go_wp2
          go_ret
          exact ⟨ret_bool Hn.out.symm, below_drewN hbw _⟩
      · have Hn : Hid (eqF sameP L M = true) := Lib.hid (eqF_yes H0.out fun j a b ha hb => heq j a b (by have := (List.getElem?_eq_some_iff.1 ha).1; omega) ha hb)
        clear heq
        go_wp2
        go_ret
        exact ⟨ret_bool Hn.out.symm, hbw⟩
  · have hb : ((L.length : Int) != (M.length : Int)) = true := by rw [bne_iff_ne]; omega
    have Hn : Hid (eqF sameP L M = false) := Lib.hid (eqF_len h0)
    clear h0
    go_enter Tryz.func43, Tryz.ntmps43
    go_wp2
    go_ret
    exact ⟨ret_bool Hn.out.symm, Below.refl _ _⟩

end Go.Proofs.YtdfpmolkkbplpaaGreat

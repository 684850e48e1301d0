/- links: Incident, of the program and of the document; the document's Touches. -/
import Derived.Test.YtpdaiiakdlngjaaLk2
import Derived.Deep.WholeRow
namespace Go.Proofs.Ytpdaiiakdlngjaa
open Go.RowKit
set_option linter.unusedVariables false

theorem nint_info : (Try.prog.info? 3).map (fun i => (i.zero, i.size, i.bytes)) = some (some (.int .i64 0), 1, 8) := by kernel_rfl
/-- a new list of ids -/
def NewI (L : List Int) (w : World) (e : Ending) (w' : World) : Prop := ∃ v, e = .returned v ∧ OL ivl w' w.heap.size 3 v L ∧ Below w.heap.size w w'
theorem St.ownI {l : List Ass} {w0 w : World} {α : Type} {f : α → Value} {e : TypeId} {v : Value} {L : List α} (h : St Zf (OlA f e v L :: l) w0 w) : OL f w w0.heap.size e v L := by
  obtain ⟨_, ⟨G, H, ⟨ho, rfl⟩, h2, h3, rfl⟩, h4, hf⟩ := h
  refine ⟨ho.1, ho.2.1, ?_⟩
  rcases ho.2.2 with h0 | ⟨g, cap, cur, hv, hb, hh, h1, h2, h3, h5⟩
  · exact .inl h0
  · refine .inr ⟨g, cap, cur, hv, ?_, hh, h1, h2, h3, h5⟩
    rcases hf g (.inl (by rw [hv]; rfl)) with h6 | h6
    · exact h6.elim
    · exact h6
abbrev lkz : Array Value := #[.bool false, .int .i64 0, .int .i64 0, .int .i64 0, .int .i64 0, .int .i64 0, .int .i64 0]
set_option maxRecDepth 100000 in
set_option maxHeartbeats 2000000 in
theorem Incident_any (A : Option Addr) (cap B : Nat) (L : List LkC) (node : Int) (w : World) (h : RR lkc 7 w B A L) (hB : B ≤ w.heap.size) (hl : L.length * 56 ≤ 140737488355328) :
    Calls Try.prog 13 #[.slice A L.length cap, .int .i64 node] w (NewI (incK L node L.length) w) := by
  obtain ⟨j0, hj, hy0, hy1, hy2⟩ := info_parts nint_info
  have hll : L.length * 8 + 8 ≤ 140737488355328 := by omega
  have h0 := (St.start Zf w).nilOl ivl 3
  go_enter Try.func13, Try.ntmps13
  go_wp2
  go_loopw [5, 10] (fun v i wr => ∃ k : Nat, k ≤ L.length ∧ i = .int .i64 k ∧ St Zf [OlA ivl 3 v (incK L node k)] w wr) (fun _ i _ => L.length - (intOf i).toNat)
  case atStart => exact ⟨0, Nat.zero_le _, rfl, h0⟩
  case round =>
    obtain ⟨k, hk, rfl, hst⟩ := hrel
    have hst2 := hst
    obtain ⟨Av, cv, rfl, -, -, -, -⟩ := hst2.ol.form
    clear hst2
    by_cases hlt : k < L.length
    · obtain ⟨b, off, rfl, hb, hcs⟩ := (hst.rr h hB).all lkc_f (by omega)
      have hc := hcs k _ (nthD_get hlt)
      have HS := incK_succ L node k
      have hln := incK_len L node k
      obtain ⟨x, hx⟩ : ∃ x, x = nthD L k := ⟨_, rfl⟩
      have htc : tch L node (k : Int) = if x.lv = false then 3 else if tb x node = true then 0 else 65 := by
        unfold tch
        rw [if_neg (by omega), Int.toNat_natCast, hx]
      rw [← hx] at hc
      obtain ⟨z, hz⟩ : ∃ z, z = lka x := ⟨_, rfl⟩
      have hz7 : (Try.prog.info? 46).map (·.size) = some z.size := by rw [hz]; exact lk_size
      have hzl : (Try.prog.info? 46).map (·.size) = some z.toList.length := by rw [hz]; exact lk_size
      have hz1 : z.all (·.oneCell') = true := by rw [hz, ← Array.all_toList]; rfl
      have hzs : lkz.size = z.size := by rw [hz]; rfl
      have HC : Hid (wr.rangeAt b (off + k * 7) z.toList) := Lib.hid (by rw [hz]; exact hc)
      have ha := hst.newBlk 46 z
      have ha2 := ha
      rw [hz] at ha2
      have c0 : (wr.alloc (.cells z 46)).cell? ⟨wr.heap.size, 0, none⟩ = some (.bool x.lv) := by
        rw [ha.blk.cell 0, hz]
        rfl
      have hT := touches_any x node (wr.alloc (.cells z 46))
      rw [← hz] at hT
      have HT := Lib.hid hT
      have hrow := ha.blk
      have hnew := World.setRow_alloc_new wr lkz z 46
      have HA := Lib.hid ha
      have hby : ((incK L node k).length + 1) * 8 ≤ 140737488355328 := by omega
      obtain ⟨t, ht⟩ : ∃ t, t = tb x node := ⟨_, rfl⟩
      rw [← ht] at HT htc
      obtain ⟨v, hv⟩ : ∃ v, v = x.lv := ⟨_, rfl⟩
      rw [← hv] at c0 htc
      clear hst h hcs hc ha ha2 hx hz hT ht hv h0
      cases v
      · have e0 : incK L node (k + 1) = incK L node k := by rw [HS, htc]; simp
        have E0 := Lib.hid e0
        clear HS e0 htc
        go_wp2_with (first
          | (refine wpList_load_mid rfl 46 _ rfl b (off + k * 7) rfl z.toList _ HC.out Try.underlying46 rfl hzl ?_)
          | (refine wpList_store_row rfl 46 _ _ rfl wr.heap.size z rfl rfl 46 lkz (heap_alloc_new wr _) hz7 hzs hz1 ?_; rw [hnew]))
        go_roundw
        case rel => exact ⟨k + 1, by omega, by go_num, by rw [E0.out]; exact HA.out.drop⟩
        case measure => simp [intOf]; omega
      · cases t
        · have e0 : incK L node (k + 1) = incK L node k := by rw [HS, htc]; simp
          have E0 := Lib.hid e0
          clear HS e0 htc
          go_wp2_with (first
            | (refine wpList_load_mid rfl 46 _ rfl b (off + k * 7) rfl z.toList _ HC.out Try.underlying46 rfl hzl ?_)
            | (refine wpList_store_row rfl 46 _ _ rfl wr.heap.size z rfl rfl 46 lkz (heap_alloc_new wr _) hz7 hzs hz1 ?_; rw [hnew])
            | (refine wpList_load_rowG 46 _ rfl wr.heap.size rfl 46 z (0, 0) _ hrow Try.underlying46 rfl hz7 rfl ?_)
            | (go_at_call 21; refine (HT.out).mono ?_; rintro e w5 ⟨rfl, hb5⟩; have h5 := Lib.hid (HA.out.below hb5).drop; clear hb5)
            | (at_builtin; refine wpList_append_elem _ rfl _ _ 26 rfl 0 3 j0 _ 8 Try.underlying26 hj hy0 hy1 hy2 rfl _ (incK L node k) (by rfl) h5.out.ol (k : Int) (ivl_ok _) (by rfl) hby (by omega) (Nat.zero_le _) ?_; intro v7 w7 hown7 hg7 hat7; have h7 := Lib.hid (h5.out.grewOl hown7 hg7 hat7 (Nat.le_succ _)); clear hown7 hg7 hat7))
          go_roundw
          case rel => exact ⟨k + 1, by omega, by go_num, by rw [E0.out]; exact h5.out⟩
          case measure => simp [intOf]; omega
        · have e0 : incK L node (k + 1) = incK L node k ++ [(k : Int)] := by rw [HS, htc]; simp
          have E0 := Lib.hid e0
          clear HS e0 htc
          go_wp2_with (first
            | (refine wpList_load_mid rfl 46 _ rfl b (off + k * 7) rfl z.toList _ HC.out Try.underlying46 rfl hzl ?_)
            | (refine wpList_store_row rfl 46 _ _ rfl wr.heap.size z rfl rfl 46 lkz (heap_alloc_new wr _) hz7 hzs hz1 ?_; rw [hnew])
            | (refine wpList_load_rowG 46 _ rfl wr.heap.size rfl 46 z (0, 0) _ hrow Try.underlying46 rfl hz7 rfl ?_)
            | (go_at_call 21; refine (HT.out).mono ?_; rintro e w5 ⟨rfl, hb5⟩; have h5 := Lib.hid (HA.out.below hb5).drop; clear hb5)
            | (at_builtin; refine wpList_append_elem _ rfl _ _ 26 rfl 0 3 j0 _ 8 Try.underlying26 hj hy0 hy1 hy2 rfl _ (incK L node k) (by rfl) h5.out.ol (k : Int) (ivl_ok _) (by rfl) hby (by omega) (Nat.zero_le _) ?_; intro v7 w7 hown7 hg7 hat7; have h7 := Lib.hid (h5.out.grewOl hown7 hg7 hat7 (Nat.le_succ _)); clear hown7 hg7 hat7))
          go_roundw
          case rel => exact ⟨k + 1, by omega, by go_num, by rw [E0.out]; exact h7.out⟩
          case measure => simp [intOf]; omega
    · obtain rfl : k = L.length := by omega
      have HST := Lib.hid hst
      clear hst h h0
      go_wp2
      go_ret
      exact ⟨_, rfl, HST.out.ownI, HST.out.bel⟩
end Go.Proofs.Ytpdaiiakdlngjaa

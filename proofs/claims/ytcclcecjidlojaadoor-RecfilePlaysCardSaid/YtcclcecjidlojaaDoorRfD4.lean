/- recfile: the document's Bytes. -/
import Derived.Test.YtcclcecjidlojaaDoorRfD3
import Derived.Test.YtcclcecjidlojaaDoorRefSet
import Derived.Test.YtcclcecjidlojaaDoorRfSpeak
import Derived.Lib.SmallJoins
namespace Go.Proofs.YtcclcecjidlojaaDoor
open Go.RowKit
set_option linter.unusedVariables false
set_option linter.unusedSimpArgs false
set_option maxHeartbeats 400000 in
theorem refSum_any (A : Option Addr) (cap B : Nat) (bs : List Nat) (w : World) (h : RB w B A bs) (hl : bs.length ≤ maxLen) :
    Calls Tryd.prog 47 #[.slice A bs.length cap] w fun e w' => e = .returned (.int .u32 (crc bs : Nat)) ∧ w = w' := by
  have H := Lib.hid (refUpdate_any 0 A cap B bs w (by omega) h hl)
  go_enter Tryd.func47, Tryd.ntmps47
  go_wp2_with fail
  refine (H.out).mono ?_
  rintro e w' ⟨rfl, rfl⟩
  go_wp2
  go_ret
  exact ⟨rfl, rfl⟩
theorem RB.mark {bs : List Nat} (w : World) (e : TypeId) (fr : Nat × Nat) (hb : IsBytes bs) (cs : Array Value) (hcs : cs.toList = cells8 bs) : RB (w.alloc (.cells cs e fr)) (w.heap.size + 1) (some ⟨w.heap.size, 0, none⟩) bs := by
  refine ⟨hb, by simp [cells8], fun _ => ⟨_, rfl, Nat.lt_succ_self _, fun j u hj => ?_⟩⟩
  exact World.news_of_block (heap_alloc_new w (.cells cs e fr)) j u (by rw [hcs]; exact hj)
/-- append of some bytes onto a full slice that isn't one's own: a new row -/
theorem run_append_full8 {P : Program} (w : World) (t ty e : TypeId) (i : TypeInfo) (ht : P.underlying t = some (.slice e)) (hi : P.info? e = some i) (hz : i.zero = some (.int .u8 0)) (hsize : i.size = 1) (hby : i.bytes = 1)
    (b : Addr) (B : Nat) (bs : List Nat) (n : Nat) (hn : bs.length = n) (h : RB w B (some b) bs) (h1 : 0 < n) (a : Addr) (B' : Nat) (news : List Nat) (m c : Nat) (hm : news.length = m) (h' : RB w B' (some a) news) (h0 : 0 < m) (hlen : n + m ≤ 140737488355328) :
    ∃ v' w', (Builtin.append_ #[t, t] ty #[.slice (some b) n n, .slice (some a) m c]).run P w = .ok v' w' ∧ OB w' w.heap.size e v' (bs ++ news) ∧ Below w.heap.size w w' := by
  subst hn hm
  obtain ⟨ad, ha, _, hc⟩ := h.2.2 h1
  obtain ⟨ad', ha', _, hc'⟩ := h'.2.2 h0
  injection ha with ha
  injection ha' with ha'
  subst ha ha'
  have hr := run_append_grow (P := P) w t ty e i (.int .u8 0) ht hi hz b bs.length bs.length (cells8 bs) (by rw [cells8_length, hsize]; omega) hc a news.length c (cells8 news) (by rw [cells8_length, hsize]; omega) hc' (by omega) (by omega)
    (growslice_fits (by omega) (by rw [hby]; omega))
  refine ⟨_, _, hr, ⟨h.1.append h'.1, by rw [cells8_length, List.length_append]; omega, .inr ⟨w.heap.size, _, _, by rw [List.length_append], Nat.le_refl _, heap_alloc_new w.drew _, ?_, ?_, ?_, ?_⟩⟩, ?_⟩
  · rw [List.length_append]; exact grownCap_ge w _ _ e
  · exact grownCap_le_maxLen w _ _ e (by simp only [maxLen]; omega)
  · have hge := grownCap_ge w (bs.length + news.length) bs.length e
    simp only [Array.size_append, List.size_toArray, size_zeroCells, cells8_length]
    show _ + _ * (Value.int .u8 0).cells.size = _
    rw [show (Value.int .u8 0).cells.size = 1 from rfl]
    omega
  · simp only [Array.toList_append, List.append_assoc, List.length_append]
    rw [← List.append_assoc, ← cells8_append, show (bs.length + news.length) * 1 = (cells8 (bs ++ news)).length by rw [cells8_length, List.length_append]; omega]
    exact List.take_left
  · exact ((Below.refl _ _).drew).alloc (Nat.le_refl _) _
/-- the same of bytes that have just been laid in a block of their own, at a step of a region that draws its order -/
theorem step_append_full {P : Program} (w : World) {ops : Array Oper} {o : Oper} {a : Act} {K : Act → World → Prop} {Q : Exit → Act → World → Prop} {E : Prop} (hgd : o.guard = none) (s x : Operand) (t : TypeId)
    (ho : o.op = .call { callee := .builtin .append, args := #[s, x], argTypes := #[t, t] })
    (e : TypeId) (i : TypeInfo) (ht : P.underlying t = some (.slice e)) (hi : P.info? e = some i) (hz : i.zero = some (.int .u8 0)) (hsize : i.size = 1) (hby : i.bytes = 1)
    (b : Addr) (B : Nat) (bs : List Nat) (n : Nat) (hn : bs.length = n) (hs : a.eval s = .slice (some b) n n) (hr : RB w B (some b) bs) (hB : B ≤ w.heap.size) (h1 : 0 < n) (news : List Nat) (cs : Array Value) (hcs : cs.toList = cells8 news) (hb : IsBytes news) (m : Nat) (hm : news.length = m) (h0 : 0 < m) (H : Nat) (hH : w.heap.size = H)
    (hx : a.eval x = .slice (some ⟨H, 0, none⟩) m m) (hlen : n + m ≤ 140737488355328)
    (h : ∀ v' w', OB w' w.heap.size e v' (bs ++ news) → Below w.heap.size w w' → K (a.put o.dst v') w') :
    if Region.wanted o (yielded ops a.tmps) = true then Oper.wp P o a (w.alloc (.cells cs e)) K Q else E := by
  subst hH
  have hw : Region.wanted o (yielded ops a.tmps) = true := by simp [Region.wanted, hgd]
  rw [if_pos hw]
  obtain ⟨v', w', hrun, h2, h3⟩ := run_append_full8 (P := P) (w.alloc (.cells cs e)) t o.type e i ht hi hz hsize hby b B bs n hn (hr.alloc hB _) h1 ⟨w.heap.size, 0, none⟩ (w.heap.size + 1) news m m hm (RB.lit w e hb cs hcs) h0 hlen
  unfold Oper.wp execOp
  simp only [ho, resolve, invoke, builtin, Sem.run_bind, Sem.run_pure, Result.andThen_ok, List.map_toArray, List.map_cons, List.map_nil, hs, hx, hrun]
  exact h v' w' (h2.mono (by simp)) (((Below.refl _ _).alloc (Nat.le_refl _) _).trans (h3.mono (by simp)))
section
variable {S0 : Fp} {l : List Ass} {w0 w : World} {g : Nat} {L : List Rc}
theorem head_bytes (k v s : Nat) (hk : k < 256) (hv : v < 256) (hs : s ≤ 255) : IsBytes [k, v, 0, s] := fun x hx => by
  simp only [List.mem_cons, List.not_mem_nil, or_false] at hx
  omega
theorem head_enc (k v s n : Nat) (hk : k < 256) (hv : v < 256) (hs : s ≤ 255) : ([83, 82, 69, 67] ++ [k, v, 0, s]) ++ enc 4 n = rfHead k v s n := by
  have e1 : ∀ x, x < 256 → enc 1 x = [x] := fun x hx => by
    unfold enc
    simp [enc]
    omega
  have e2 : enc 2 s = [0, s] := by
    simp [enc]
    omega
  unfold rfHead
  rw [e1 k hk, e1 v hv, e2]
  rfl
set_option maxRecDepth 100000 in
set_option maxHeartbeats 2000000 in
theorem refBytes_any [Stable (Sep l)] {k v s : Nat} (h : St S0 (DfA g (k : Int) (v : Int) (s : Int) L :: l) w0 w) (hs : 2 ≤ s) (hs2 : s ≤ 255) (hk : k < 256) (hv : v < 256) (hL : L.length ≤ 65536) (hr : Rcs L s) :
    Calls Tryd.prog 17 #[.pointer (some ⟨g, 0, none⟩)] w fun e w' => ∃ x, e = .returned x ∧ St S0 (ObA 5 x (rfBytes k v s L.length (recB L)) :: DfA g (k : Int) (v : Int) (s : Int) L :: l) w0 w' := by
  obtain ⟨i0, hi, hz0, hz1, hz2⟩ := info_parts u8_info
  obtain ⟨wq, hwq⟩ : ∃ q, q = w.alloc (.cells #[.int .u8 83, .int .u8 82, .int .u8 69, .int .u8 67] 5 (4, 5)) := ⟨_, rfl⟩
  have h1 := h.alloc (.cells #[.int .u8 83, .int .u8 82, .int .u8 69, .int .u8 67] 5 (4, 5))
  rw [← hwq] at h1
  have H1 := Lib.hid h1.drew
  have HWQ := Lib.hid hwq
  have HRB : Hid (RB wq (w.heap.size + 1) (some ⟨w.heap.size, 0, none⟩) [83, 82, 69, 67]) := Lib.hid (by rw [hwq]; exact RB.mark w 5 (4, 5) (sp_bytesB _ (by decide)) _ rfl)
  have HWS : Hid (w.heap.size + 1 ≤ wq.heap.size) := Lib.hid (by rw [hwq]; simp)
  have hcv := Joins.run_convert_bytes_const_at (P := Tryd.prog) w 34 5 #[.int .u8 83, .int .u8 82, .int .u8 69, .int .u8 67] 4 4 w.heap.size rfl Tryd.underlying34 Tryd.underlying5
  obtain ⟨Ax, cx, c0, c1, c2, c3⟩ := df_head h1
  obtain ⟨Ay, cy, b0, b1, b2, b3⟩ := df_head (h1.alloc (.cells #[.int .u8 (k : Int), .int .u8 (v : Int), .int .u8 0, .int .u8 (s : Int)] 5))
  have q0 : IntKind.u8.wrap (k : Int) = (k : Int) := wrapU8_in k hk
  have q1 : IntKind.u8.wrap (v : Int) = (v : Int) := wrapU8_in v hv
  have q2 : IntKind.u8.wrap (s : Int) = (s : Int) := wrapU8_in s (by omega)
  have hsI : (s : Int) ≤ 255 := by omega
  have hs0 : (0 : Int) ≤ (s : Int) := by omega
  have r0 : IntKind.i64.wrap ((s : Int) / 256) = 0 := by rw [IntKind.wrap_i64]; omega
  have r1 : (s : Int).tmod 256 = (s : Int) := by rw [Int.tmod_eq_emod_of_nonneg hs0]; omega
  have HHB := Lib.hid (head_bytes k v s hk hv hs2)
  have HHE := Lib.hid (fun n => head_enc k v s n hk hv hs2)
  have r2 : IntKind.u8.wrap 0 = 0 := by decide
  have HIS := Lib.hid (rfHead_is (n := L.length) hk hv hs2)
  clear h h1 hs hk hv hwq
  have HNUM := Lib.hid (fun (n : Nat) (w' : World) (hn : n < 18446744073709551616) => (show Calls Tryd.prog 46 #[.int .i64 4, .int .u64 n] w' (NewB (enc 4 n) w') from refNum_any 4 n w' hn))
  have HLB := Lib.hid hL
  have HLU : Hid (L.length < 18446744073709551616) := Lib.hid (by omega)
  have HLEN : Hid (∀ j, j ≤ L.length → (recB (L.take j)).length ≤ 16711680) := Lib.hid fun j hj => by
    rw [recB_len (hr.take j)]
    exact Nat.le_trans (Nat.mul_le_mul (Nat.le_trans (List.length_take_le _ _) (Nat.le_trans hj hL)) hs2) (by decide)
  have HDB : Hid (∀ j, j < L.length → (nthD L j).data.length ≤ 255) := Lib.hid fun j hj => by
    have := (hr.at_ hj).1
    omega
  clear hL hs2 hr
  go_enter Tryd.func17, Tryd.ntmps17
  go_upto_region 2 with fail
  rw [← HWQ.out]
  refine wp_region_held_drew (S := (fun w' => w'.cell? ⟨g, 0, none⟩ = some (.int .i64 (k : Int)) ∧ w'.cell? ⟨g, 1, none⟩ = some (.int .i64 (v : Int)) ∧ w'.cell? ⟨g, 2, none⟩ = some (.int .i64 (s : Int)))) (by kernel_rfl) (by (try dsimp only); go_keep) (fun hHeld => ?_)
  refine wpAnyH_take (i := 0) (v := ?_) rfl (by kernel_rfl) (by kernel_rfl) (by kernel_rfl) (fun _ _ _ h => h) (Or.inl ⟨by rfl, ?_⟩) (by assumption) ?_
  rotate_left
  · (intro w hSw; (try dsimp only at hSw); go_simp; try with_reducible rfl)
  try simp only [Act.put, List.getElem_toArray, List.getElem_cons_zero, List.getElem_cons_succ, List.setIfInBounds_toArray, List.set_cons_zero, List.set_cons_succ]
  refine wpAnyH_take (i := 1) (v := ?_) rfl (by kernel_rfl) (by kernel_rfl) (by kernel_rfl) (fun _ _ _ h => h) (Or.inl ⟨by rfl, ?_⟩) (by assumption) ?_
  rotate_left
  · (intro w hSw; (try dsimp only at hSw); go_simp; try with_reducible rfl)
  try simp only [Act.put, List.getElem_toArray, List.getElem_cons_zero, List.getElem_cons_succ, List.setIfInBounds_toArray, List.set_cons_zero, List.set_cons_succ]
  refine wpAnyH_take (i := 2) (v := ?_) rfl (by kernel_rfl) (by kernel_rfl) (by kernel_rfl) (fun _ _ _ h => h) (Or.inl ⟨by rfl, ?_⟩) (by assumption) ?_
  rotate_left
  · (intro w hSw; (try dsimp only at hSw); go_simp; try with_reducible rfl)
  try simp only [Act.put, List.getElem_toArray, List.getElem_cons_zero, List.getElem_cons_succ, List.setIfInBounds_toArray, List.set_cons_zero, List.set_cons_succ]
  refine wpAnyH_take (i := 3) (v := ?_) rfl (by kernel_rfl) (by kernel_rfl) (by kernel_rfl) (fun _ _ _ h => h) (Or.inl ⟨by rfl, ?_⟩) (by assumption) ?_
  rotate_left
  · (intro w hSw; (try dsimp only at hSw); go_simp; try with_reducible rfl)
  try simp only [Act.put, List.getElem_toArray, List.getElem_cons_zero, List.getElem_cons_succ, List.setIfInBounds_toArray, List.set_cons_zero, List.set_cons_succ]
  refine wpAnyH_take (i := 4) (v := ?_) rfl (by kernel_rfl) (by kernel_rfl) (by kernel_rfl) (fun _ _ _ h => h) (Or.inl ⟨by rfl, ?_⟩) (by assumption) ?_
  rotate_left
  · (intro w hSw; (try dsimp only at hSw); go_simp; try with_reducible rfl)
  try simp only [Act.put, List.getElem_toArray, List.getElem_cons_zero, List.getElem_cons_succ, List.setIfInBounds_toArray, List.set_cons_zero, List.set_cons_succ]
  refine wpAnyH_take (i := 5) (v := ?_) rfl (by kernel_rfl) (by kernel_rfl) (by kernel_rfl) (fun _ _ _ h => h) (Or.inl ⟨by rfl, ?_⟩) (by assumption) ?_
  rotate_left
  · (intro w hSw; (try dsimp only at hSw); go_simp; try with_reducible rfl)
  try simp only [Act.put, List.getElem_toArray, List.getElem_cons_zero, List.getElem_cons_succ, List.setIfInBounds_toArray, List.set_cons_zero, List.set_cons_succ]
  refine wpAnyH_take (i := 6) (v := ?_) rfl (by kernel_rfl) (by kernel_rfl) (by kernel_rfl) (fun _ _ _ h => h) (Or.inl ⟨by rfl, ?_⟩) (by assumption) ?_
  rotate_left
  · (intro w hSw; (try dsimp only at hSw); go_simp; try with_reducible rfl)
  try simp only [Act.put, List.getElem_toArray, List.getElem_cons_zero, List.getElem_cons_succ, List.setIfInBounds_toArray, List.set_cons_zero, List.set_cons_succ]
  refine wpAnyH_take (i := 7) (v := ?_) rfl (by kernel_rfl) (by kernel_rfl) (by kernel_rfl) (fun _ _ _ h => h) (Or.inl ⟨by rfl, ?_⟩) (by assumption) ?_
  rotate_left
  · (intro w hSw; (try dsimp only at hSw); go_simp; try with_reducible rfl)
  try simp only [Act.put, List.getElem_toArray, List.getElem_cons_zero, List.getElem_cons_succ, List.setIfInBounds_toArray, List.set_cons_zero, List.set_cons_succ]
  refine wpAnyH_take (i := 8) (v := ?_) rfl (by kernel_rfl) (by kernel_rfl) (by kernel_rfl) (fun _ _ _ h => h) (Or.inl ⟨by rfl, ?_⟩) (by assumption) ?_
  rotate_left
  · (intro w hSw; (try dsimp only at hSw); go_simp; try with_reducible rfl)
  try simp only [Act.put, List.getElem_toArray, List.getElem_cons_zero, List.getElem_cons_succ, List.setIfInBounds_toArray, List.set_cons_zero, List.set_cons_succ]
  refine wpAnyH_take (i := 9) (v := ?_) rfl (by kernel_rfl) (by kernel_rfl) (by kernel_rfl) (fun _ _ _ h => h) (Or.inl ⟨by rfl, ?_⟩) (by assumption) ?_
  rotate_left
  · (intro w hSw; (try dsimp only at hSw); go_simp; try with_reducible rfl)
  try simp only [Act.put, List.getElem_toArray, List.getElem_cons_zero, List.getElem_cons_succ, List.setIfInBounds_toArray, List.set_cons_zero, List.set_cons_succ]
  refine wpAnyH_take (i := 10) (v := ?_) rfl (by kernel_rfl) (by kernel_rfl) (by kernel_rfl) (fun _ _ _ h => h) (Or.inl ⟨by rfl, ?_⟩) (by assumption) ?_
  rotate_left
  · (intro w hSw; (try dsimp only at hSw); go_simp; try with_reducible rfl)
  try simp only [Act.put, List.getElem_toArray, List.getElem_cons_zero, List.getElem_cons_succ, List.setIfInBounds_toArray, List.set_cons_zero, List.set_cons_succ]
  refine wpAnyH_take (i := 11) (v := ?_) rfl (by kernel_rfl) (by kernel_rfl) (by kernel_rfl) (fun _ _ _ h => h) (Or.inl ⟨by rfl, ?_⟩) (by assumption) ?_
  rotate_left
  · (intro w hSw; (try dsimp only at hSw); go_simp; try with_reducible rfl)
  try simp only [Act.put, List.getElem_toArray, List.getElem_cons_zero, List.getElem_cons_succ, List.setIfInBounds_toArray, List.set_cons_zero, List.set_cons_succ]
  refine wpAnyH_take (i := 12) (v := ?_) rfl (by kernel_rfl) (by kernel_rfl) (by kernel_rfl) (fun _ _ _ h => h) (Or.inl ⟨by rfl, ?_⟩) (by assumption) ?_
  rotate_left
  · (intro w hSw; (try dsimp only at hSw); go_simp; try with_reducible rfl)
  try simp only [Act.put, List.getElem_toArray, List.getElem_cons_zero, List.getElem_cons_succ, List.setIfInBounds_toArray, List.set_cons_zero, List.set_cons_succ]
  refine wpAnyH_take (i := 13) (v := ?_) rfl (by kernel_rfl) (by kernel_rfl) (by kernel_rfl) (fun _ _ _ h => h) (Or.inl ⟨by rfl, ?_⟩) (by assumption) ?_
  rotate_left
  · (intro w hSw; (try dsimp only at hSw); go_simp; try with_reducible rfl)
  try simp only [Act.put, List.getElem_toArray, List.getElem_cons_zero, List.getElem_cons_succ, List.setIfInBounds_toArray, List.set_cons_zero, List.set_cons_succ]
  refine wpAnyH_take (i := 14) (v := ?_) rfl (by kernel_rfl) (by kernel_rfl) (by kernel_rfl) (fun _ _ _ h => h) (Or.inl ⟨by rfl, ?_⟩) (by assumption) ?_
  rotate_left
  · (intro w hSw; (try dsimp only at hSw); go_simp; try with_reducible rfl)
  try simp only [Act.put, List.getElem_toArray, List.getElem_cons_zero, List.getElem_cons_succ, List.setIfInBounds_toArray, List.set_cons_zero, List.set_cons_succ]
  refine wpAnyH_take (i := 15) (v := ?_) rfl (by kernel_rfl) (by kernel_rfl) (by kernel_rfl) (fun _ _ _ h => h) (Or.inl ⟨by rfl, ?_⟩) (by assumption) ?_
  rotate_left
  · (intro w hSw; (try dsimp only at hSw); go_simp; try with_reducible rfl)
  try simp only [Act.put, List.getElem_toArray, List.getElem_cons_zero, List.getElem_cons_succ, List.setIfInBounds_toArray, List.set_cons_zero, List.set_cons_succ]
  refine wpAnyH_take (i := 16) (v := ?_) rfl (by kernel_rfl) (by kernel_rfl) (by kernel_rfl) (fun _ _ _ h => h) (Or.inl ⟨by rfl, ?_⟩) (by assumption) ?_
  rotate_left
  · (intro w hSw; (try dsimp only at hSw); go_simp; try with_reducible rfl)
  try simp only [Act.put, List.getElem_toArray, List.getElem_cons_zero, List.getElem_cons_succ, List.setIfInBounds_toArray, List.set_cons_zero, List.set_cons_succ]
  refine wpAnyH_take (i := 17) (v := ?_) rfl (by kernel_rfl) (by kernel_rfl) (by kernel_rfl) (fun _ _ _ h => h) (Or.inl ⟨by rfl, ?_⟩) (by assumption) ?_
  rotate_left
  · (intro w hSw; (try dsimp only at hSw); go_simp; try with_reducible rfl)
  try simp only [Act.put, List.getElem_toArray, List.getElem_cons_zero, List.getElem_cons_succ, List.setIfInBounds_toArray, List.set_cons_zero, List.set_cons_succ]
  refine wpAnyH_take (i := 18) (v := ?_) rfl (by kernel_rfl) (by kernel_rfl) (by kernel_rfl) (fun _ _ _ h => h) (Or.inl ⟨by rfl, ?_⟩) (by assumption) ?_
  rotate_left
  · (intro w hSw; (try dsimp only at hSw); go_simp; try with_reducible rfl)
  try simp only [Act.put, List.getElem_toArray, List.getElem_cons_zero, List.getElem_cons_succ, List.setIfInBounds_toArray, List.set_cons_zero, List.set_cons_succ]
  refine wpAnyH_take (i := 19) (v := ?_) rfl (by kernel_rfl) (by kernel_rfl) (by kernel_rfl) (fun _ _ _ h => h) (Or.inl ⟨by rfl, ?_⟩) (by assumption) ?_
  rotate_left
  · (intro w hSw; (try dsimp only at hSw); go_simp; try with_reducible rfl)
  try simp only [Act.put, List.getElem_toArray, List.getElem_cons_zero, List.getElem_cons_succ, List.setIfInBounds_toArray, List.set_cons_zero, List.set_cons_succ]
  refine wpAnyH_take (i := 20) (v := ?_) rfl (by kernel_rfl) (by kernel_rfl) (by kernel_rfl) (fun _ _ _ h => h) (Or.inl ⟨by rfl, ?_⟩) (by assumption) ?_
  rotate_left
  · (intro w hSw; (try dsimp only at hSw); go_simp; try with_reducible rfl)
  try simp only [Act.put, List.getElem_toArray, List.getElem_cons_zero, List.getElem_cons_succ, List.setIfInBounds_toArray, List.set_cons_zero, List.set_cons_succ]
  refine wpAnyH_take (i := 21) (v := ?_) rfl (by kernel_rfl) (by kernel_rfl) (by kernel_rfl) (fun _ _ _ h => h) (Or.inl ⟨by rfl, ?_⟩) (by assumption) ?_
  rotate_left
  · (intro w hSw; (try dsimp only at hSw); go_simp; try with_reducible rfl)
  try simp only [Act.put, List.getElem_toArray, List.getElem_cons_zero, List.getElem_cons_succ, List.setIfInBounds_toArray, List.set_cons_zero, List.set_cons_succ]
  refine wpAnyH_take (i := 22) (v := ?_) rfl (by kernel_rfl) (by kernel_rfl) (by kernel_rfl) (fun _ _ _ h => h) (Or.inl ⟨by rfl, ?_⟩) (by assumption) ?_
  rotate_left
  · (intro w hSw; (try dsimp only at hSw); go_simp; try with_reducible rfl)
  try simp only [Act.put, List.getElem_toArray, List.getElem_cons_zero, List.getElem_cons_succ, List.setIfInBounds_toArray, List.set_cons_zero, List.set_cons_succ]
  refine wpAnyH_ready (rs := [23]) (by kernel_rfl) (by simp) ?_
  refine AllReadyH.cons rfl (fun K hK => ?_) AllReadyH.nil
  go_simp
  refine hK.out _ _ (by (try dsimp only); go_keep) (fun hHeld => ?_)
  clear hK K
  try simp only [Act.put, List.getElem_toArray, List.getElem_cons_zero, List.getElem_cons_succ, List.setIfInBounds_toArray, List.set_cons_zero, List.set_cons_succ]
  refine wpAnyH_ready (rs := [24]) (by kernel_rfl) (by simp) ?_
  refine AllReadyH.cons rfl (fun K hK => ?_) AllReadyH.nil
  refine step_append_full wq.drew (by rfl) _ _ _ (by rfl) 5 i0 Tryd.underlying34 hi hz0 hz1 hz2 ⟨w.heap.size, 0, none⟩ (w.heap.size + 1) [83, 82, 69, 67] 4 rfl (by rfl) HRB.out HWS.out (by decide) [k, v, 0, s] _ (by rfl) HHB.out 4 rfl (by decide) wq.heap.size rfl (by rfl) (by decide) ?_
  intro v2 w2 hown2 hb2
  have H2 := Lib.hid (H1.out.newOb hown2 hb2)
  obtain ⟨A2, x2, hv2, -, -, -, -⟩ := hown2.form
  rw [show ([83, 82, 69, 67] ++ [k, v, 0, s] : List Nat).length = 8 from rfl] at hv2
  subst hv2
  obtain ⟨A9, x9, d0, d1, d2, d3⟩ := df_head H2.out.swap
  clear hown2 hb2
  refine hK.out _ _ (by (try dsimp only); go_keep) (fun hHeld => ?_)
  clear hK K
  try simp only [Act.put, List.getElem_toArray, List.getElem_cons_zero, List.getElem_cons_succ, List.setIfInBounds_toArray, List.set_cons_zero, List.set_cons_succ]
  refine wpAnyH_take (i := 25) (v := ?_) rfl (by kernel_rfl) (by kernel_rfl) (by kernel_rfl) (fun _ _ _ h => h) (Or.inl ⟨by rfl, ?_⟩) (by assumption) ?_
  rotate_left
  · (intro w hSw; (try dsimp only at hSw); go_simp; try with_reducible rfl)
  try simp only [Act.put, List.getElem_toArray, List.getElem_cons_zero, List.getElem_cons_succ, List.setIfInBounds_toArray, List.set_cons_zero, List.set_cons_succ]
  refine wpAnyH_done (by kernel_rfl) ?_ _
  clear c0 c1 c2 c3 b0 b1 b2 b3 q0 q1 q2 r0 r1 r2 hsI hs0 hcv
  obtain ⟨HD, hHD⟩ : ∃ HD, HD = rfHead k v s L.length := ⟨_, rfl⟩
  have HHE2 : Hid (([83, 82, 69, 67] ++ [k, v, 0, s]) ++ enc 4 L.length = HD) := Lib.hid (by rw [hHD]; exact HHE.out _)
  have HHL : Hid (HD.length = 12) := Lib.hid (by rw [hHD]; exact rfHead_len ..)
  have HHD := Lib.hid hHD
  obtain ⟨C, hC⟩ : ∃ C, C = crc HD := ⟨_, rfl⟩
  have hcw : IntKind.u64.wrap (C : Int) = (C : Int) := wrapU64_in C (by rw [hC]; exact Nat.lt_of_lt_of_le (crc_lt (by rw [hHD]; exact HIS.out)) (by decide))
  have hcl : C < 4294967296 := by rw [hC]; exact crc_lt (by rw [hHD]; exact HIS.out)
  have hcb : (C : Int) ≤ 4294967295 := by omega
  have HCB : Hid (C < 18446744073709551616) := Lib.hid (by omega)
  have HSUM := Lib.hid (fun (w' : World) (A : Option Addr) (c B : Nat) (h : RB w' B A HD) => refSum_any A c B HD w' h (by rw [HHL.out]; decide))
  rw [HHL.out, ← hC] at HSUM
  have HC := Lib.hid hC
  have hln : (L.length : Int) ≤ 65536 := by have := HLB.out; omega
  have hlw : IntKind.u64.wrap (L.length : Int) = (L.length : Int) := wrapU64_in _ (by have := HLB.out; omega)
  clear hHD hC hcl
  go_upto_region 4 with (first
    | (go_at_call 46; refine (HNUM.out L.length w2 HLU.out).mono ?_; rintro e w3 ⟨v3, rfl, ho3, hb3⟩; have H3 := Lib.hid (H2.out.newOb ho3 hb3); obtain ⟨A3, x3, hv3, -, -, -, -⟩ := ho3.form; rw [enc_length] at hv3; subst hv3; clear ho3 hb3)
    | (at_builtin; go_loud (refine wpList_append_bytes _ rfl _ _ 34 rfl 0 5 i0 Tryd.underlying34 hi hz0 hz1 hz2 (.slice A2 8 x2) ([83, 82, 69, 67] ++ [k, v, 0, s]) (by rfl) H3.out.swap.ob A3 x3 w3.heap.size (enc 4 L.length) 4 (enc_length _ _) (by rfl) H3.out.ob.reads.2.1 (show 8 + 4 ≤ 140737488355328 by decide) (Nat.zero_le _) ?_); intro v4 w4 hown4 hg4 hat4; have h4 := (H3.out.swap.grewOb hown4 hg4 hat4 (Nat.le_refl _)).dropSnd; rw [HHE2.out] at h4; obtain ⟨A4, x4, hv4, -, -, -, -⟩ := h4.ob.form; rw [HHL.out] at hv4; subst hv4; have H4 := Lib.hid h4; clear hown4 hg4 hat4 h4))
  go_upto_region 5 with (first
    | (go_at_call 47; refine (HSUM.out w4 A4 x4 w4.heap.size H4.out.ob.reads.2.1).mono ?_; rintro e w5 ⟨rfl, rfl⟩)
    | (go_at_call 46; refine (HNUM.out C w4 HCB.out).mono ?_; rintro e w5 ⟨v5, rfl, ho5, hb5⟩; have H5 := Lib.hid (H4.out.newOb ho5 hb5); obtain ⟨A5, x5, hv5, -, -, -, -⟩ := ho5.form; rw [enc_length] at hv5; subst hv5; clear ho5 hb5)
    | (at_builtin; refine wpList_append_bytes _ rfl _ _ 34 rfl 0 5 i0 Tryd.underlying34 hi hz0 hz1 hz2 (.slice A4 12 x4) HD (by rfl) H5.out.swap.ob A5 x5 w5.heap.size (enc 4 C) 4 (enc_length _ _) (by rfl) H5.out.ob.reads.2.1 (by rw [HHL.out]; decide) (Nat.zero_le _) ?_; intro v6 w6 hown6 hg6 hat6; have H6 := Lib.hid (H5.out.swap.grewOb hown6 hg6 hat6 (Nat.le_refl _)).dropSnd; clear hown6 hg6 hat6))
  clear hcw hcb hlw d0 d1 d2 d3 H2 H3 H4 H5 HSUM HHE2
  obtain ⟨FH, hFH⟩ : ∃ FH, FH = HD ++ enc 4 C := ⟨_, rfl⟩
  have h6 := H6.out
  rw [← hFH] at h6
  have HFH := Lib.hid hFH
  have HFL : Hid (FH.length = 16) := Lib.hid (by rw [hFH, List.length_append, HHL.out, enc_length])
  have H7 := Lib.hid h6
  clear hFH h6 H6
  go_wp2_with fail
  go_loopw [3, 4] (fun x i wr => ∃ j : Nat, j ≤ L.length ∧ i = .int .i64 j ∧ St S0 (ObA 5 x (FH ++ recB (L.take j)) :: DfA g (k : Int) (v : Int) (s : Int) L :: l) w0 wr) (fun _ i _ => L.length - (intOf i).toNat)
  case atStart => exact ⟨0, Nat.zero_le _, rfl, by rw [List.take_zero]; show St S0 (ObA _ _ (FH ++ []) :: _) w0 _; rw [List.append_nil]; exact H7.out⟩
  case round =>
    obtain ⟨j, hj, rfl, hst⟩ := hrel
    clear H7
    obtain ⟨Av, cv, hAv, -, -, -, -⟩ := hst.ob.form
    obtain ⟨n9, hn9⟩ : ∃ n9, n9 = (FH ++ recB (L.take j)).length := ⟨_, rfl⟩
    rw [← hn9] at hAv
    subst hAv
    clear hn9
    by_cases hlt : j < L.length
    · obtain ⟨b, off, cap, A9', c9, e3, e4, e5, hrb, hc9, hcm⟩ := df_at hst.swap hlt
      have htk : recB (L.take (j + 1)) = recB (L.take j) ++ (flagN (nthD L j).used :: (nthD L j).data) := by rw [takeD_succ hlt, recB_app]; show _ ++ (rcB (nthD L j) ++ []) = _; rw [List.append_nil]; rfl
      have hll := HLEN.out j hj
      have hdb := HDB.out j hlt
      have hD8 := hrb.1
      clear hrb hc9 hcm
      obtain ⟨u, hu⟩ : ∃ u, u = (nthD L j).used := ⟨_, rfl⟩
      obtain ⟨D, hD⟩ : ∃ D, D = (nthD L j).data := ⟨_, rfl⟩
      rw [← hu] at e4 htk
      rw [← hD] at e5 htk hdb hD8
      obtain ⟨G, hG⟩ : ∃ G, G = FH ++ recB (L.take j) := ⟨_, rfl⟩
      rw [← hG] at hst
      have hGl : G.length ≤ 16711696 := by rw [hG, List.length_append, HFL.out]; omega
      have HGL := Lib.hid hGl
      have HST := Lib.hid hst
      have HD0 := Lib.hid hD
      have HDB' := Lib.hid hdb
      have HD8 := Lib.hid hD8
      have HTK : Hid (FH ++ recB (L.take (j + 1)) = G ++ [flagN u] ++ D) := Lib.hid (by rw [htk, hG]; simp [List.append_assoc])
      have HLT := Lib.hid hlt
      have hjb : (j : Int) ≤ 65536 := by have := HLB.out; omega
      have hjb2 : (j : Int) < (L.length : Int) := by omega
      clear hst hll hdb htk hGl hG hD hu hj hD8
      obtain ⟨fl, hfl⟩ : ∃ fl, fl = flagN u := ⟨_, rfl⟩
      have hF8 : fl < 256 := by rw [hfl]; exact flagN_lt u
      have hFl : Hid (fl = if u = true then 1 else 0) := Lib.hid hfl
      rw [← hfl] at HTK
      have HF8 := Lib.hid hF8
      clear hfl hF8
      cases u
      case false =>
        have HFe := hFl.out
        simp only [Bool.false_eq_true, if_false, if_true] at HFe
        subst HFe
        go_wp2_with (at_builtin; refine wpList_append_lit8 _ rfl _ _ 34 rfl 0 5 i0 Tryd.underlying34 hi hz0 hz1 hz2 (.slice Av n9 cv) G 0 (by rfl) HST.out.ob (by rfl) _ rfl HF8.out (by have := HGL.out; omega) (Nat.zero_le _) ?_; intro v8 w8 hown8 hg8 hat8; have H8 := Lib.hid (HST.out.grewOb hown8 hg8 hat8 (by simp)); clear hown8 hg8 hat8)
        clear e3 e4 e5
        go_loopw [3, 6] (fun x i wr => ∃ q : Nat, q ≤ D.length ∧ i = .int .i64 q ∧ St S0 (ObA 5 x (G ++ [0] ++ D.take q) :: DfA g (k : Int) (v : Int) (s : Int) L :: l) w0 wr) (fun _ i _ => D.length - (intOf i).toNat)
        case atStart => exact ⟨0, Nat.zero_le _, rfl, by rw [List.take_zero, List.append_nil]; exact H8.out⟩
        case round =>
          obtain ⟨q, hq, rfl, hst⟩ := hrel
          clear H8
          obtain ⟨Aw, cw, hAw, -, -, -, -⟩ := hst.ob.form
          generalize List.length _ = n2 at hAw
          subst hAw
          obtain ⟨b, off, cap, A9, c9, e3, e4, e5, hrb, hc9, hcm⟩ := df_at hst.swap HLT.out
          rw [← HD0.out] at e5 hrb hc9
          by_cases hql : q < D.length
          · obtain ⟨b9, o9, hA9, -, hcell⟩ := hrb.at_ hql
            subst hA9
            obtain ⟨G2, hG2⟩ : ∃ G2, G2 = G ++ [0] ++ D.take q := ⟨_, rfl⟩
            rw [← hG2] at hst
            have HG2 : Hid (G2 ++ [nth D q] = G ++ [0] ++ D.take (q + 1)) := Lib.hid (by rw [hG2, take_succ_nth D q hql]; simp [List.append_assoc])
            have HGL2 : Hid (G2.length + 1 ≤ 140737488355328) := Lib.hid (by
              have h1 := HGL.out
              have h2 := HDB'.out
              rw [hG2]
              simp only [List.length_append, List.length_take, List.length_cons, List.length_nil]
              omega)
            have HST2 := Lib.hid hst
            have hqb : (q : Int) < (D.length : Int) := by omega
            have hdl : (D.length : Int) ≤ 255 := by have := HDB'.out; omega
            have HQ := Lib.hid hql
            clear hst hG2 hrb hc9 hcm hq
            go_wp2_with (at_builtin; refine wpList_append_lit8 _ rfl _ _ 34 rfl 0 5 i0 Tryd.underlying34 hi hz0 hz1 hz2 (.slice Aw n2 cw) G2 (nth D q) (by rfl) HST2.out.ob (by rfl) _ rfl (HD8.out.nth q) HGL2.out (Nat.zero_le _) ?_; intro v9 w9 hown9 hg9 hat9; have h9 := HST2.out.grewOb hown9 hg9 hat9 (by simp); rw [HG2.out] at h9; have H9 := Lib.hid h9; clear hown9 hg9 hat9 h9)
            go_roundw
            case rel => exact ⟨q + 1, HQ.out, by go_num, H9.out⟩
            case measure => exact meas_lt hql
          · obtain rfl : q = D.length := by omega
            rw [List.take_length, ← HTK.out] at hst
            have HST2 := Lib.hid hst
            have hdl : (D.length : Int) ≤ 255 := by have := HDB'.out; omega
            clear hst hrb hc9 hcm hq
            go_wp2
            go_roundw
            case rel => exact ⟨j + 1, HLT.out, by go_num, HST2.out⟩
            case measure => exact meas_lt hlt
      case true =>
        have HFe := hFl.out
        simp only [Bool.false_eq_true, if_false, if_true] at HFe
        subst HFe
        go_wp2_with (at_builtin; refine wpList_append_lit8 _ rfl _ _ 34 rfl 0 5 i0 Tryd.underlying34 hi hz0 hz1 hz2 (.slice Av n9 cv) G 1 (by rfl) HST.out.ob (by rfl) _ rfl HF8.out (by have := HGL.out; omega) (Nat.zero_le _) ?_; intro v8 w8 hown8 hg8 hat8; have H8 := Lib.hid (HST.out.grewOb hown8 hg8 hat8 (by simp)); clear hown8 hg8 hat8)
        clear e3 e4 e5
        go_loopw [3, 6] (fun x i wr => ∃ q : Nat, q ≤ D.length ∧ i = .int .i64 q ∧ St S0 (ObA 5 x (G ++ [1] ++ D.take q) :: DfA g (k : Int) (v : Int) (s : Int) L :: l) w0 wr) (fun _ i _ => D.length - (intOf i).toNat)
        case atStart => exact ⟨0, Nat.zero_le _, rfl, by rw [List.take_zero, List.append_nil]; exact H8.out⟩
        case round =>
          obtain ⟨q, hq, rfl, hst⟩ := hrel
          clear H8
          obtain ⟨Aw, cw, hAw, -, -, -, -⟩ := hst.ob.form
          generalize List.length _ = n2 at hAw
          subst hAw
          obtain ⟨b, off, cap, A9, c9, e3, e4, e5, hrb, hc9, hcm⟩ := df_at hst.swap HLT.out
          rw [← HD0.out] at e5 hrb hc9
          by_cases hql : q < D.length
          · obtain ⟨b9, o9, hA9, -, hcell⟩ := hrb.at_ hql
            subst hA9
            obtain ⟨G2, hG2⟩ : ∃ G2, G2 = G ++ [1] ++ D.take q := ⟨_, rfl⟩
            rw [← hG2] at hst
            have HG2 : Hid (G2 ++ [nth D q] = G ++ [1] ++ D.take (q + 1)) := Lib.hid (by rw [hG2, take_succ_nth D q hql]; simp [List.append_assoc])
            have HGL2 : Hid (G2.length + 1 ≤ 140737488355328) := Lib.hid (by
              have h1 := HGL.out
              have h2 := HDB'.out
              rw [hG2]
              simp only [List.length_append, List.length_take, List.length_cons, List.length_nil]
              omega)
            have HST2 := Lib.hid hst
            have hqb : (q : Int) < (D.length : Int) := by omega
            have hdl : (D.length : Int) ≤ 255 := by have := HDB'.out; omega
            have HQ := Lib.hid hql
            clear hst hG2 hrb hc9 hcm hq
            go_wp2_with (at_builtin; refine wpList_append_lit8 _ rfl _ _ 34 rfl 0 5 i0 Tryd.underlying34 hi hz0 hz1 hz2 (.slice Aw n2 cw) G2 (nth D q) (by rfl) HST2.out.ob (by rfl) _ rfl (HD8.out.nth q) HGL2.out (Nat.zero_le _) ?_; intro v9 w9 hown9 hg9 hat9; have h9 := HST2.out.grewOb hown9 hg9 hat9 (by simp); rw [HG2.out] at h9; have H9 := Lib.hid h9; clear hown9 hg9 hat9 h9)
            go_roundw
            case rel => exact ⟨q + 1, HQ.out, by go_num, H9.out⟩
            case measure => exact meas_lt hql
          · obtain rfl : q = D.length := by omega
            rw [List.take_length, ← HTK.out] at hst
            have HST2 := Lib.hid hst
            have hdl : (D.length : Int) ≤ 255 := by have := HDB'.out; omega
            clear hst hrb hc9 hcm hq
            go_wp2
            go_roundw
            case rel => exact ⟨j + 1, HLT.out, by go_num, HST2.out⟩
            case measure => exact meas_lt hlt
    · obtain rfl : j = L.length := by omega
      obtain ⟨Ae, ce, e0, e1, e2, e3⟩ := df_head hst.swap
      have HST := Lib.hid hst
      clear hst
      go_wp2
      go_ret
      refine ⟨_, rfl, ?_⟩
      have h9 := HST.out
      rw [List.take_length, HFH.out, HC.out, HHD.out] at h9
      exact h9

end
end Go.Proofs.YtcclcecjidlojaaDoor

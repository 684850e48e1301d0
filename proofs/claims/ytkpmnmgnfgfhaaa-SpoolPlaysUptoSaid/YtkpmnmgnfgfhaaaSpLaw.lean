/- What the spool laws share: what spoil leaves, a script played on a spool, the run that the document fixes. -/
import Derived.Test.YtkpmnmgnfgfhaaaSpOps
import Derived.Test.YtkpmnmgnfgfhaaaSpoil
namespace Go.Proofs.Ytkpmnmgnfgfhaaa
open Go.RowKit
set_option linter.unusedVariables false

set_option maxRecDepth 100000 in
set_option maxHeartbeats 1000000 in
theorem spoil7_any (v : Value) (bs : List Nat) (w : World) (h : OB w 0 5 v bs) (hl : bs.length + 20 ≤ 140737488355328) :
    Calls Try.prog 12 #[v] w fun e w' => e = .returned (.tuple #[]) ∧ Only (rfp v) w w' := by
  obtain ⟨i0, hi, hz0, hz1, hz2⟩ := info_parts u8_info
  obtain ⟨A, cap, rfl, hc, hcm, _, _⟩ := h.form
  unfold maxLen at hcm
  go_enter Try.func12, Try.ntmps12
  go_wp2
  go_loopw [6] (fun i wr => ∃ k : Nat, k ≤ bs.length ∧ i = .int .i64 k ∧ OB wr 0 5 (.slice A bs.length cap) (List.replicate k 238 ++ bs.drop k) ∧ w.grownBy wr (Value.ownBlock (.slice A bs.length cap))) (fun i _ => bs.length - (intOf i).toNat)
  case atStart => exact ⟨0, Nat.zero_le _, rfl, by simpa using h, World.grownBy.refl w _⟩
  case round =>
    obtain ⟨k, hk, rfl, hown, hg⟩ := hrel
    have hln : (List.replicate k 238 ++ bs.drop k).length = bs.length := by simp; omega
    by_cases hlt : k < bs.length
    · obtain ⟨g, cap', hv, _, hgl⟩ := hown.2.form (by rw [hln]; omega)
      simp only [Value.slice.injEq] at hv
      obtain ⟨rfl, -, -⟩ := hv
      have hcell := (hown.2.cells (g := g) rfl) k
      have hfz : wr.frozen? ⟨g, k, none⟩ = false := by
        have := hown.2
        rw [hln] at this
        exact this.frozenAt k
      obtain ⟨u, hu⟩ : ∃ u, wr.cell? ⟨g, k, none⟩ = some u := by
        have h1 : k < (cells8 (List.replicate k 238 ++ bs.drop k)).length := by rw [cells8_length, hln]; exact hlt
        have := hcell _ (List.getElem?_eq_getElem h1)
        rw [add_none, Nat.zero_add] at this
        exact ⟨_, this⟩
      have hst := OB.stored (by rw [hln]; exact hown) k 238 (by omega)
      rw [spoil_set bs.length k 238 bs rfl hlt, hln] at hst
      have Hst := Lib.hid hst
      have Hln := Lib.hid hln
      clear hcell hst hln
      go_wp2
      go_roundw
      case rel => exact ⟨k + 1, by omega, by go_num, Hst.out.1, hg.trans Hst.out.2⟩
      case measure => simp [intOf]; omega
    · obtain rfl : k = bs.length := by omega
      obtain ⟨wo, rfl⟩ : ∃ wo : World, wo = wr := ⟨_, rfl⟩
      have hown1 : OB wo 0 5 (.slice A bs.length cap) (List.replicate bs.length 238) := by simpa using hown
      clear hown hln
      have hsz := hg.size
      go_wp2
      go_loopw [0, 3] (fun u i wr => ∃ k : Nat, k ≤ 16 ∧ i = .int .i64 k ∧ OB wr 0 5 u (List.replicate (bs.length + k) 238) ∧ Grew wo wr (.slice A bs.length cap) u) (fun _ i _ => 16 - (intOf i).toNat)
      case atStart => exact ⟨0, Nat.zero_le _, rfl, hown1, Grew.refl _ _⟩
      case round =>
        obtain ⟨k, hk, rfl, hu, hgr⟩ := hrel
        have hsz1 := hgr.1.size
        have HL : Hid (∀ n m : Nat, (List.replicate n m).length = n) := Lib.hid fun n m => List.length_replicate
        by_cases hlt : k < 16
        · go_wp2_with (at_builtin; refine wpList_append_lit8 _ rfl _ _ 22 rfl 0 5 i0 Try.underlying22 hi hz0 hz1 hz2 _ _ 238 (by rfl) hu (by rfl) _ rfl (by omega) (by rw [HL.out]; omega) (Nat.zero_le _) ?_; intro u1 w1 hu1 hg1 hat1)
          rw [show [238] = List.replicate 1 238 from rfl, List.replicate_append_replicate] at hu1
          have hgr2 := hgr.trans (Grew.of hg1 hat1 (by simp))
          go_roundw
          case rel => exact ⟨k + 1, by omega, by go_num, hu1, hgr2⟩
          case measure => simp [intOf]; omega
        · have hgf : w.grownBy wr (Value.ownBlock (.slice A bs.length cap)) := hg.trans hgr.1
          go_wp2
          go_end0
          exact ⟨rfl, Only.of_grown hgf⟩

section
variable {S : Fp} {l : List Ass} {w0 w w' : World}
theorem St.spoil [Stable (Sep l)] {v : Value} {bs : List Nat} (h : St S (ObA 5 v bs :: l) w0 w) (hl : bs.length + 20 ≤ 140737488355328) :
    Calls Try.prog 12 #[v] w fun e w' => e = .returned (.tuple #[]) ∧ St S l w0 w' := by
  refine (spoil7_any v bs w h.ob hl).mono ?_
  rintro e w' ⟨rfl, ho⟩
  obtain ⟨F, ⟨_, rfl⟩, k⟩ := h.turn
  exact ⟨rfl, (k (Sep []) w' ⟨_, rfl, ho, fun _ h => h.elim⟩).flat⟩
end

/-! ### a script -/
/-- what a call makes of a spool -/
def stepOp (p : List Nat × List (List Nat)) (o : Opv) : List Nat × List (List Nat) :=
  if bits .and .i64 o.kind 3 = 0 ∨ bits .and .i64 o.kind 3 = 1 then (p.1, putW p.2 o.bs) else if bits .and .i64 o.kind 3 = 2 then (seenOf p.1 p.2, []) else p
def play (b : List Nat) (L : List Opv) : List Nat × List (List Nat) := L.foldl stepOp (b, [])
theorem play_snoc (b : List Nat) (L : List Opv) (o : Opv) : play b (L ++ [o]) = stepOp (play b L) o := by simp [play]
/-- how much a spool holds -/
def spBulk (p : List Nat × List (List Nat)) : Nat := (seenOf p.1 p.2).length + p.2.length
theorem stepOp_write {p : List Nat × List (List Nat)} {o : Opv} (h : bits .and .i64 o.kind 3 = 0 ∨ bits .and .i64 o.kind 3 = 1) : stepOp p o = (p.1, putW p.2 o.bs) := if_pos h
theorem stepOp_sync {p : List Nat × List (List Nat)} {o : Opv} (h : bits .and .i64 o.kind 3 = 2) : stepOp p o = (seenOf p.1 p.2, []) := by
  unfold stepOp; rw [if_neg (by omega), if_pos h]
theorem stepOp_look {p : List Nat × List (List Nat)} {o : Opv} (h0 : bits .and .i64 o.kind 3 ≠ 0) (h1 : bits .and .i64 o.kind 3 ≠ 1) (h2 : bits .and .i64 o.kind 3 ≠ 2) : stepOp p o = p := by
  unfold stepOp; rw [if_neg (by omega), if_neg h2]
theorem putW_length (ws : List (List Nat)) (x : List Nat) : (putW ws x).length ≤ ws.length + 1 := by
  unfold putW; split <;> simp
theorem spBulk_step (p : List Nat × List (List Nat)) (o : Opv) : spBulk (stepOp p o) ≤ spBulk p + (o.bs.length + o.ks.length + 4) := by
  unfold stepOp spBulk
  split
  · have := putW_length p.2 o.bs
    rw [seenOf_putW, List.length_append]
    dsimp only
    omega
  · split
    · have : seenOf (seenOf p.1 p.2) [] = seenOf p.1 p.2 := by simp [seenOf]
      dsimp only
      rw [this]
      simp
      omega
    · omega
theorem spBulk_play (b : List Nat) (L : List Opv) : spBulk (play b L) ≤ b.length + opsBulk L := by
  have : ∀ (L : List Opv) (p : List Nat × List (List Nat)), spBulk (L.foldl stepOp p) ≤ spBulk p + opsBulk L := by
    intro L
    induction L with
    | nil => intro p; simp [opsBulk]
    | cons o r ih =>
      intro p
      have h1 := ih (stepOp p o)
      have h2 := spBulk_step p o
      simp only [List.foldl_cons, opsBulk, List.map_cons, List.sum_cons] at h1 ⊢
      omega
  have h := this L (b, [])
  have e : spBulk (b, []) = b.length := by simp [spBulk, seenOf]
  rw [e] at h
  exact h
theorem play_fewer (b : List Nat) (L : List Opv) : (play b L).2.length ≤ L.length := by
  have : ∀ (L : List Opv) (p : List Nat × List (List Nat)), (L.foldl stepOp p).2.length ≤ p.2.length + L.length := by
    intro L
    induction L with
    | nil => intro p; simp
    | cons o r ih =>
      intro p
      have h1 := ih (stepOp p o)
      have h2 : (stepOp p o).2.length ≤ p.2.length + 1 := by
        unfold stepOp
        split
        · exact putW_length _ _
        · split
          · simp
          · omega
      simp only [List.foldl_cons, List.length_cons] at h1 ⊢
      omega
  have h := this L (b, [])
  simpa [play] using h
theorem play_begins (b : List Nat) (L : List Opv) : ∃ t, (play b L).1 = b ++ t := by
  have : ∀ (L : List Opv) (p : List Nat × List (List Nat)), (∃ t, p.1 = b ++ t) → ∃ t, (L.foldl stepOp p).1 = b ++ t := by
    intro L
    induction L with
    | nil => intro p h; exact h
    | cons o r ih =>
      intro p h
      refine ih _ ?_
      obtain ⟨t, h⟩ := h
      unfold stepOp
      split
      · exact ⟨t, h⟩
      · split
        · exact ⟨t ++ p.2.flatten, by simp [seenOf, h]⟩
        · exact ⟨t, h⟩
  exact this L (b, []) ⟨[], by simp⟩
/-- the writes hold something -/
theorem play_ne (b : List Nat) (L : List Opv) : ∀ x ∈ (play b L).2, 0 < x.length := by
  have : ∀ (L : List Opv) (p : List Nat × List (List Nat)), (∀ x ∈ p.2, 0 < x.length) → ∀ x ∈ (L.foldl stepOp p).2, 0 < x.length := by
    intro L
    induction L with
    | nil => intro p h; exact h
    | cons o r ih =>
      intro p h
      refine ih _ fun x hx => ?_
      unfold stepOp at hx
      split at hx
      · dsimp only at hx
        unfold putW at hx
        split at hx
        · exact h x hx
        · rcases List.mem_append.1 hx with hx | hx
          · exact h x hx
          · rw [List.mem_singleton.1 hx]; omega
      · split at hx
        · cases hx
        · exact h x hx
  exact this L (b, []) fun x hx => by cases hx

set_option maxRecDepth 100000 in
set_option maxHeartbeats 1000000 in
/-- the script over a new spool -/
theorem run_any {l : List Ass} [Stable (Sep l)] {w0 w : World} (h : St Zf l w0 w) {A A' : Option Addr} {c c' : Nat} {b : List Nat} {L : List Opv} (hb : RB w0 w0.heap.size A b) (ho : Ops w0 w0.heap.size A' L) (hn : L.length ≤ 140737488351232) (hu : b.length + opsBulk L ≤ 2097152) :
    Calls Try.prog 25 #[.slice A b.length c, .slice A' L.length c'] w fun e w' => ∃ g, e = .returned (.pointer (some ⟨g, 0, none⟩)) ∧ St Zf (SpA g (play b L).1 (play b L).2 :: l) w0 w' := by
  have hrb := h.rb hb (Nat.le_refl _)
  have hs := h.size
  go_enter Try.func25, Try.ntmps25
  go_wp2_with fail
  refine (Copy7_any A c w0.heap.size b w hrb hs (by omega)).mono ?_
  rintro e w1 ⟨v1, rfl, ho1, hb1⟩
  have h1 := h.newOb ho1 hb1
  obtain ⟨A1, c1, rfl, -, -, r1, -⟩ := ho1.form
  clear h hrb hs ho1 hb1
  go_wp2_with fail
  refine (New_any h1 A1 c1 w1.heap.size b r1 (Nat.le_refl _) (by omega)).mono ?_
  rintro e w2 ⟨g, rfl, h2⟩
  have h3 := h2.swap.drop
  clear h1 h2 r1
  go_wp2
  go_loopw [15] (fun i wr => ∃ (k : Nat) (p : List Nat × List (List Nat)), k ≤ L.length ∧ i = .int .i64 k ∧ p = play b (L.take k) ∧ St Zf (SpA g p.1 p.2 :: l) w0 wr) (fun i _ => L.length - (intOf i).toNat)
  case atStart => exact ⟨0, (b, []), Nat.zero_le _, rfl, rfl, h3⟩
  case round =>
    obtain ⟨k, p, hk, rfl, hp, h5⟩ := hrel
    clear h3
    by_cases hlt : k < L.length
    · obtain ⟨ob, off, rfl, hbB, A2, c2, A3, c3, q0, q1, q2, hr2, hr3, hr0⟩ := ho k _ (opAt_get hlt)
      have hpn : play b (L.take (k + 1)) = stepOp p (opAt L k) := by rw [take_opAt hlt, play_snoc, ← hp]
      have hbk := spBulk_play b (L.take k)
      have hbt := opsBulk_take L (k + 1)
      have hst : opsBulk (L.take (k + 1)) = opsBulk (L.take k) + ((opAt L k).bs.length + (opAt L k).ks.length + 4) := by rw [take_opAt hlt, opsBulk_append, opsBulk_one]
      rw [← hp] at hbk
      unfold spBulk at hbk
      generalize opAt L k = o at *
      obtain ⟨kd, ds, ks⟩ := o
      obtain ⟨pb, pw⟩ := p
      simp only at q0 q1 q2 hr2 hr3 hr0 hst hbk h5
      have h6 := h5.newBlk 34 #[.int .i64 kd, .slice A2 ds.length c2, .slice A3 ks.length c3]
      have k0 := (h5.old (p := ⟨ob, off + k * 3, none⟩) hbB).trans q0
      have k1 := (h5.old (p := ⟨ob, off + k * 3 + 1, none⟩) hbB).trans q1
      have k2 := (h5.old (p := ⟨ob, off + k * 3 + 2, none⟩) hbB).trans q2
      have Hpn := Lib.hid hpn
      have hdl : ds.length ≤ 2097152 := by omega
      have hpl : (seenOf pb pw).length + ds.length ≤ 2097152 := by omega
      have hpl2 : pw.length ≤ 2097152 := by omega
      clear q0 q1 q2 hp hpn hst h5
      have hk4 : bits .and .i64 kd 3 = 0 ∨ bits .and .i64 kd 3 = 1 ∨ bits .and .i64 kd 3 = 2 ∨ (bits .and .i64 kd 3 ≠ 0 ∧ bits .and .i64 kd 3 ≠ 1 ∧ bits .and .i64 kd 3 ≠ 2) := by omega
      rcases hk4 with hk0 | hk1 | hk2 | hk4
      · have HS := Lib.hid (stepOp_write (p := (pb, pw)) (o := ⟨kd, ds, ks⟩) (.inl hk0))
        go_wp2_with fail
        obtain ⟨wo, hwo⟩ : ∃ x, x = wr.alloc (.cells #[.int .i64 kd, .slice A2 ds.length c2, .slice A3 ks.length c3] 34) := ⟨_, rfl⟩
        rw [← hwo] at h6
        rw [← hwo]
        clear hwo
        refine (Copy7_any A2 c2 w0.heap.size ds wo (h6.rb hr2 (Nat.le_refl _)) h6.size (by omega)).mono ?_
        rintro e w7 ⟨v7, rfl, ho7, hb7⟩
        have h7 := h6.newOb ho7 hb7
        obtain ⟨A7, c7, rfl, -, -, r7, -⟩ := ho7.form
        clear h6 ho7 hb7
        go_wp2_with fail
        refine (Append_any h7.bring2 A7 c7 _ ds r7 (by omega) (by omega)).mono ?_
        rintro e w8 ⟨rfl, h8⟩
        have h9 := h8.swap.drop.swap.drop
        clear h7 h8 r7
        go_wp2
        go_roundw
        case rel => exact ⟨k + 1, (pb, putW pw ds), by omega, by go_num, by rw [Hpn.out, HS.out], h9⟩
        case measure => simp [intOf]; omega
      · have HS := Lib.hid (stepOp_write (p := (pb, pw)) (o := ⟨kd, ds, ks⟩) (.inr hk1))
        go_wp2_with fail
        obtain ⟨wo, hwo⟩ : ∃ x, x = wr.alloc (.cells #[.int .i64 kd, .slice A2 ds.length c2, .slice A3 ks.length c3] 34) := ⟨_, rfl⟩
        rw [← hwo] at h6
        rw [← hwo]
        clear hwo
        refine (Copy7_any A2 c2 w0.heap.size ds wo (h6.rb hr2 (Nat.le_refl _)) h6.size (by omega)).mono ?_
        rintro e w7 ⟨v7, rfl, ho7, hb7⟩
        have h7 := h6.newOb ho7 hb7
        obtain ⟨A7, c7, rfl, -, -, r7, -⟩ := ho7.form
        clear h6 ho7 hb7
        go_wp2_with fail
        refine (Append_any h7.bring2 A7 c7 _ ds r7 (by omega) (by omega)).mono ?_
        rintro e w8 ⟨rfl, h8⟩
        have h9 := h8.swap.drop.swap.drop
        clear h7 h8 r7
        go_wp2
        go_roundw
        case rel => exact ⟨k + 1, (pb, putW pw ds), by omega, by go_num, by rw [Hpn.out, HS.out], h9⟩
        case measure => simp [intOf]; omega
      · have HS := Lib.hid (stepOp_sync (p := (pb, pw)) (o := ⟨kd, ds, ks⟩) hk2)
        go_wp2_with fail
        obtain ⟨wo, hwo⟩ : ∃ x, x = wr.alloc (.cells #[.int .i64 kd, .slice A2 ds.length c2, .slice A3 ks.length c3] 34) := ⟨_, rfl⟩
        rw [← hwo] at h6
        rw [← hwo]
        clear hwo
        refine (Sync_any h6.drop).mono ?_
        rintro e w8 ⟨rfl, h8⟩
        clear h6
        go_wp2
        go_roundw
        case rel => exact ⟨k + 1, (seenOf pb pw, []), by omega, by go_num, by rw [Hpn.out, HS.out], h8⟩
        case measure => simp [intOf]; omega
      · have HS := Lib.hid (stepOp_look (p := (pb, pw)) (o := ⟨kd, ds, ks⟩) hk4.1 hk4.2.1 hk4.2.2)
        obtain ⟨z0, z1, z2⟩ := hk4
        go_wp2
        go_roundw
        case rel => exact ⟨k + 1, (pb, pw), by omega, by go_num, by rw [Hpn.out, HS.out], h6.drop⟩
        case measure => simp [intOf]; omega
    · go_wp2
      go_ret
      rw [List.take_of_length_le (by omega)] at hp
      exact ⟨_, rfl, by rw [← hp]; exact h5⟩

end Go.Proofs.Ytkpmnmgnfgfhaaa

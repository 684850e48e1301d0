/- PutNode and GetNode of the program. -/
import Derived.Test.YtpoaokkmmoeekaaRcNode
import Derived.Deep.RegionHeld3
namespace Go.Proofs.Ytpoaokkmmoeekaa
open Go.RowKit
set_option linter.unusedVariables false

def Cs.bytes (s : Cs) : List Nat := match s with
  | .w bs => bs
  | .r _ _ => []
section
variable {l : List Ass} {w0 w w' : World} {c : Nat} {s : Cs} {wb : Bool}
theorem bytes_co (h : St Zf (CoA c s wb :: l) w0 w) (hi : s.isw = true) (hs : s.len ≤ 140737488355328) : ∃ g, w.cell? ⟨c, 0, none⟩ = some (.pointer (some ⟨g, 0, none⟩)) ∧ Calls Try.prog 50 #[.pointer (some ⟨g, 0, none⟩)] w (NewB s.bytes w) := by
  cases s with
  | w bs =>
    obtain ⟨g, h⟩ := co_openW h
    obtain ⟨c0, c1, c2⟩ := cells3 h
    obtain ⟨F, v, hw, -⟩ := h.swap.head
    simp only [Cs.len] at hs
    exact ⟨g, c0, Bytes_any 0 g v bs w hw (by omega)⟩
  | r bs err => cases hi
theorem St.addSt {S : Fp} {P : Ass} (h : St S l w0 w) [Stable (Sep l)] (k : St Zf [P] w w') : St S (P :: l) w0 w' := by
  have hb := k.bel
  obtain ⟨F, ⟨G, H, h1, h2, h3, rfl⟩, ho, hf⟩ := k
  exact h.add (F := G) hb h1 fun k hk => (hf k (.inl hk)).elim (fun h => h.elim) id
/-- a store of a whole row -/
theorem St.setRow {S : Fp} [Stable (Sep l)] {g : Nat} {t : TypeId} {cs : Array Value} (h : St S (BlkA g t cs :: l) w0 w) (cs' : Array Value) : St S (BlkA g t cs' :: l) w0 (w.setRow g cs') := by
  obtain ⟨F, ⟨hb, rfl⟩, k⟩ := h.turn
  exact k _ _ ⟨_, ⟨setRow_heap w g cs cs' t (0, 0) hb, rfl⟩, ⟨rfl, rfl, rfl, by simp [World.setRow], fun k _ hk => setRow_other w g k _ hk⟩, fun i hi => .inl hi⟩
/-- a new Coder that writes -/
theorem St.newCoW (h : St Zf l w0 w) [Stable (Sep l)] : St Zf (CoA (w.heap.size + 1) (.w []) false :: l) w0 ((w.alloc (.cells #[.slice none 0 0] 119)).alloc (.cells #[.pointer (some ⟨w.heap.size, 0, none⟩), .pointer none, .bool false] 100)) := by
  have h1 : St Zf (WrA w.heap.size [] :: l) w0 (w.alloc (.cells #[.slice none 0 0] 119)) := by
    refine h.add (F := wfp w.heap.size (.slice none 0 0)) ((Below.refl _ _).alloc (Nat.le_refl _) _) ⟨.slice none 0 0, ⟨Blk.new _ _ _, Nat.zero_le _, OB.nil _ _ _⟩, rfl⟩ ?_
    rintro k (rfl | hk)
    · exact Nat.le_refl _
    · cases hk
  have h2 := h1.newBlk 100 #[.pointer (some ⟨w.heap.size, 0, none⟩), .pointer none, .bool false]
  have e : (w.alloc (.cells #[.slice none 0 0] 119)).heap.size = w.heap.size + 1 := by simp
  rw [e] at h2
  exact co_shutW h2
theorem cs_w (s : Cs) (h : s.isw = true) : ∃ bs, s = .w bs := by
  cases s
  · exact ⟨_, rfl⟩
  · cases h
end

/-- what PutNode finds -/
def putNQ (r p : Int) (L : List Int) : Cs × Bool := nodeQ (.w [], false) r p L
def putNE (r p : Int) (L : List Int) : Int := (putNQ r p L).1.endE (putNQ r p L).2
theorem nodeQ_isw (q : Cs × Bool) (r p : Int) (L : List Int) : (nodeQ q r p L).1.isw = q.1.isw := by unfold nodeQ nodeQ2 nodeQ1; rw [labS_isw, fld_isw, fld_isw]
theorem nodeQ_len (q : Cs × Bool) (r p : Int) (L : List Int) : (nodeQ q r p L).1.len ≤ q.1.len + 80 := by
  unfold nodeQ nodeQ2 nodeQ1
  have l1 := fld_len q 4 (-1) 2048 r
  have l2 := fld_len (fld q 4 (-1) 2048 r) 4 (-1) 65536 p
  have l3 := labS_len (fld (fld q 4 (-1) 2048 r) 4 (-1) 65536 p).1 (pl8 L) 8
  simp only
  omega

set_option maxHeartbeats 4000000 in
theorem writeNode_any (A : Option Addr) (cap B : Nat) (r p : Int) (L : List Int) (w : World) (hr : RL ivl w B A L) (hB : B ≤ w.heap.size) (hcap : L.length ≤ cap) (hm : cap ≤ maxLen) :
    Calls Try.prog 26 #[.agg #[.int .i64 r, .int .i64 p, .slice A L.length cap], .func (.func 27) #[] #[]] w fun e w' => ∃ v, e = .returned (.tuple #[v, .int .i64 (putNE r p L)]) ∧ OB w' w.heap.size 5 v (if putNE r p L = 0 then (putNQ r p L).1.bytes else []) ∧ Below w.heap.size w w' := by
  have h0 := (St.start Zf w).newBlk 62 #[.int .i64 r, .int .i64 p, .slice A L.length cap]
  have h1 := h0.newCoW
  have e0 : (w.alloc (.cells #[.int .i64 r, .int .i64 p, .slice A L.length cap] 62)).heap.size = w.heap.size + 1 := by simp
  rw [e0] at h1
  obtain ⟨w1, hw1⟩ : ∃ w1, w1 = (((w.alloc (.cells #[.int .i64 r, .int .i64 p, .slice A L.length cap] 62)).alloc (.cells #[.slice none 0 0] 119)).alloc (.cells #[.pointer (some ⟨w.heap.size + 1, 0, none⟩), .pointer none, .bool false] 100)) := ⟨_, rfl⟩
  rw [← hw1] at h1
  obtain ⟨d0, d1, d2⟩ := cells3 h1.swap
  have HC := Lib.hid (codeNode_any (q := (.w [], false)) (r := r) (p := p) h1 hr hB hcap hm (by simp [Cs.len]))
  have HNW := Lib.hid (NewWriter_any (w.alloc (.cells #[.int .i64 r, .int .i64 p, .slice A L.length cap] 62)))
  have hE : (nodeQ (.w [], false) r p L).1.endE (nodeQ (.w [], false) r p L).2 = putNE r p L := rfl
  have hQ : nodeQ (.w [], false) r p L = putNQ r p L := rfl
  have hi : (putNQ r p L).1.isw = true := nodeQ_isw _ _ _ _
  have hl : (putNQ r p L).1.len ≤ 1000000 := by have := nodeQ_len (.w [], false) r p L; rw [hQ] at this; simp only [Cs.len, List.length_nil] at this ⊢; omega
  rw [hE, hQ] at HC
  obtain ⟨E, hE'⟩ : ∃ E, E = putNE r p L := ⟨_, rfl⟩
  obtain ⟨q, hq⟩ : ∃ q, q = putNQ r p L := ⟨_, rfl⟩
  rw [← hE', ← hq] at HC
  rw [← hE', ← hq]
  rw [← hq] at hi hl
  have HW1 := Lib.hid hw1
  have HI := Lib.hid hi
  have HL := Lib.hid hl
  clear h0 h1 hw1 hr hE hQ hE' hq e0 hi hl
  by_cases h0 : E = 0
  · subst h0
    simp only at HC ⊢
    go_enter Try.func26, Try.ntmps26
    go_wp2_with (first | (go_at_call 48; refine (HNW.out).mono ?_; rintro e w2 ⟨rfl, rfl⟩) | (go_at_call 49; rw [← HW1.out]; refine (HC.out).mono ?_; rintro e w3 ⟨g, rfl, h3⟩; obtain ⟨Z, z1, z2, hz⟩ := labSl_form (Cs.w []).isw A L.length cap g (nodePl (.w [], false) r p L); rw [hz]; clear hz; have h4 := h3.newBlk 62 #[.int .i64 (nodeR (.w [], false) r), .int .i64 (nodeP (.w [], false) r p), .slice Z z1 z2]; obtain ⟨g2, k0, HB⟩ := bytes_co h4.swap HI.out (Nat.le_trans HL.out (by decide)); have HB := Lib.hid HB; have H4 := Lib.hid h4; clear h3 h4) | (go_at_call 50; refine (HB.out).mono ?_; rintro e w5 ⟨v5, rfl, ho5, hb5⟩))
    go_ret2
    have hb4 := H4.out.bel
    exact ⟨v5, rfl, ho5.mono hb4.size, hb4.trans (hb5.mono hb4.size)⟩
  · have hb : (E != 0) = true := by simpa using h0
    simp only [if_neg h0] at HC ⊢
    clear h0
    go_enter Try.func26, Try.ntmps26
    go_wp2_with (first | (go_at_call 48; refine (HNW.out).mono ?_; rintro e w2 ⟨rfl, rfl⟩) | (go_at_call 49; rw [← HW1.out]; refine (HC.out).mono ?_; rintro e w3 ⟨g, rfl, h3⟩; have H4 := Lib.hid (h3.newBlk 62 #[.int .i64 0, .int .i64 0, .slice none 0 0]); clear h3))
    go_ret2
    exact ⟨_, rfl, OB.nil _ _ _, H4.out.bel⟩

set_option maxHeartbeats 1000000 in
theorem PutNode_any (A : Option Addr) (cap B : Nat) (r p : Int) (L : List Int) (w : World) (hr : RL ivl w B A L) (hB : B ≤ w.heap.size) (hcap : L.length ≤ cap) (hm : cap ≤ maxLen) :
    Calls Try.prog 11 #[.agg #[.int .i64 r, .int .i64 p, .slice A L.length cap]] w fun e w' => ∃ v, e = .returned (.tuple #[v, .int .i64 (putNE r p L)]) ∧ OB w' w.heap.size 5 v (if putNE r p L = 0 then (putNQ r p L).1.bytes else []) ∧ Below w.heap.size w w' := by
  have hB' : B ≤ (w.alloc (.cells #[.int .i64 r, .int .i64 p, .slice A L.length cap] 24)).heap.size := by simp; omega
  have H := Lib.hid (writeNode_any A cap B r p L (w.alloc (.cells #[.int .i64 r, .int .i64 p, .slice A L.length cap] 24)) (hr.alloc hB _) hB' hcap hm)
  obtain ⟨Y, hY⟩ : ∃ Y, Y = (if putNE r p L = 0 then (putNQ r p L).1.bytes else []) := ⟨_, rfl⟩
  rw [← hY] at H ⊢
  clear hr hY
  go_enter Try.func11, Try.ntmps11
  go_wp2_with (go_at_call 26; refine (H.out).mono ?_; rintro e w2 ⟨v, rfl, ho, hb⟩)
  go_ret2
  exact ⟨v, rfl, ho.mono (base' := w.heap.size) (by simp), ((Below.refl _ _).alloc (Nat.le_refl _) _).trans (hb.mono (by simp))⟩

/-- what GetNode finds -/
def getNQ (bs : List Nat) : Cs × Bool := nodeQ (.r bs 0, false) 0 0 []
def getNE (bs : List Nat) : Int := (getNQ bs).1.endE (getNQ bs).2
def getNR (bs : List Nat) : Int := nodeR (.r bs 0, false) 0
def getNP (bs : List Nat) : Int := nodeP (.r bs 0, false) 0 0
def getNPl (bs : List Nat) : List Int := nodePl (.r bs 0, false) 0 0 []
def NodeRead (bs : List Nat) (w : World) (e : Ending) (w' : World) : Prop :=
  ∃ g, e = .returned (.tuple #[if getNE bs = 0 then .agg #[.int .i64 (getNR bs), .int .i64 (getNP bs), .slice (some ⟨g, 0, none⟩) (cutLen (getNPl bs) 8) 8] else .agg #[.int .i64 0, .int .i64 0, .slice none 0 0], .int .i64 (getNE bs)]) ∧ St Zf [BlkA g 3 (icells (getNPl bs))] w w'

set_option maxHeartbeats 4000000 in
theorem readNode_any (A : Option Addr) (cap B : Nat) (bs : List Nat) (w : World) (hr : RB w B A bs) (hB : B ≤ w.heap.size) (hl : bs.length ≤ 140737488355328) :
    Calls Try.prog 34 #[.slice A bs.length cap, .agg #[.int .i64 0, .int .i64 0, .slice none 0 0], .func (.func 27) #[] #[]] w (NodeRead bs w) := by
  obtain ⟨wo, hwo⟩ : ∃ wo, wo = (w.alloc (.cells #[.int .i64 0, .int .i64 0, .slice none 0 0] 62)).alloc (.cells #[.int .i64 0, .int .i64 0, .slice none 0 0] 62) := ⟨_, rfl⟩
  have h0 : St Zf [BlkA (w.heap.size + 1) 62 #[.int .i64 0, .int .i64 0, .slice none 0 0], BlkA w.heap.size 62 #[.int .i64 0, .int .i64 0, .slice none 0 0]] w wo := by
    have := ((St.start Zf w).newBlk 62 #[.int .i64 0, .int .i64 0, .slice none 0 0]).newBlk 62 #[.int .i64 0, .int .i64 0, .slice none 0 0]
    rw [hwo]
    simpa using this
  have HF : Hid (∀ W, St Zf [BlkA (w.heap.size + 1) 62 #[.int .i64 0, .int .i64 0, .slice none 0 0], BlkA w.heap.size 62 #[.int .i64 0, .int .i64 0, .slice none 0 0]] w W → (W.cell? ⟨w.heap.size, 0, none⟩ = some (.int .i64 0) ∧ W.cell? ⟨w.heap.size, 1, none⟩ = some (.int .i64 0) ∧ W.cell? ⟨w.heap.size, 2, none⟩ = some (.slice none 0 0)) ∧
      (W.cell? ⟨w.heap.size + 1, 0, none⟩ = some (.int .i64 0) ∧ W.cell? ⟨w.heap.size + 1, 1, none⟩ = some (.int .i64 0) ∧ W.cell? ⟨w.heap.size + 1, 2, none⟩ = some (.slice none 0 0)) ∧ W.frozen? ⟨w.heap.size + 1, 0, none⟩ = false ∧ W.frozen? ⟨w.heap.size + 1, 1, none⟩ = false ∧ W.frozen? ⟨w.heap.size + 1, 2, none⟩ = false) := Lib.hid fun W h => ⟨cells3 h.swap, cells3 h, h.blk.frozen 0, h.blk.frozen 1, h.blk.frozen 2⟩
  have HN : Hid (∀ W, Below wo.heap.size wo W → Calls Try.prog 53 #[.slice A bs.length cap] W fun e W' => ∃ g, e = .returned (.pointer (some ⟨g, 0, none⟩)) ∧ St Zf [RdA g bs 0, BlkA (w.heap.size + 1) 62 #[.int .i64 0, .int .i64 0, .slice none 0 0], BlkA w.heap.size 62 #[.int .i64 0, .int .i64 0, .slice none 0 0]] w W') := Lib.hid fun W hb => by
    have h1 := h0.below hb
    have hr1 := h1.rb hr hB
    refine (NewReader_any A cap B bs W hr1 (by have := h1.size; omega) hl).mono ?_
    rintro e W' ⟨g, q, rfl, hR, hb1⟩
    refine ⟨g, rfl, h1.add (F := fun k => k = g ∨ k = q) hb1 ⟨q, ?_, rfl⟩ ?_⟩
    · obtain ⟨A', c', k1, k2, k3, k4, k5, k6, k7, k8, k9⟩ := hR
      exact ⟨A', c', k1, k2, k3, k4, k5, Nat.zero_le _, Nat.zero_le _, k8, k9⟩
    · rintro k (rfl | rfl)
      · exact hR.lt.1
      · exact hR.lt.2.1
  have HC : Hid (∀ g w3, St Zf [RdA g bs 0, BlkA (w.heap.size + 1) 62 #[.int .i64 0, .int .i64 0, .slice none 0 0], BlkA w.heap.size 62 #[.int .i64 0, .int .i64 0, .slice none 0 0]] w w3 → Calls Try.prog 49 #[.pointer (some ⟨w3.heap.size, 0, none⟩), .agg #[.int .i64 0, .int .i64 0, .slice none 0 0], .func (.func 27) #[] #[]] (w3.alloc (.cells #[.pointer none, .pointer (some ⟨g, 0, none⟩), .bool false] 100)) fun e W' => ∃ g2, e = .returned (.tuple #[if getNE bs = 0 then .agg #[.int .i64 (getNR bs), .int .i64 (getNP bs), .slice (some ⟨g2, 0, none⟩) (cutLen (getNPl bs) 8) 8] else .agg #[.int .i64 0, .int .i64 0, .slice none 0 0], .int .i64 (getNE bs)]) ∧ St Zf [BlkA (w.heap.size + 1) 62 #[.int .i64 0, .int .i64 0, .slice none 0 0], BlkA w.heap.size 62 #[.int .i64 0, .int .i64 0, .slice none 0 0], BlkA g2 3 (icells (getNPl bs))] w W') := Lib.hid fun g w3 h3 => by
    have h4 := co_shutR (h3.newBlk 100 #[.pointer none, .pointer (some ⟨g, 0, none⟩), .bool false])
    refine (codeNode_any (q := (.r bs 0, false)) (r := 0) (p := 0) (L := []) (A := none) (cap := 0) h4 (RL.empty ivl w 0 none) (Nat.zero_le _) (Nat.le_refl _) (Nat.zero_le _) (by simp [Cs.len])).mono ?_
    rintro e W' ⟨g2, rfl, h5⟩
    exact ⟨g2, rfl, h5.drop.back2⟩
  have hb0 : Below wo.heap.size wo wo.drew := ⟨rfl, rfl, rfl, Nat.le_refl _, fun _ _ => rfl⟩
  obtain ⟨⟨c0, c1, c2⟩, ⟨u0, u1, u2⟩, f0, f1, f2⟩ := HF.out wo h0
  have Hwo := Lib.hid hwo
  unfold NodeRead
  obtain ⟨E, hE⟩ : ∃ E, E = getNE bs := ⟨_, rfl⟩
  obtain ⟨r', hr'⟩ : ∃ r', r' = getNR bs := ⟨_, rfl⟩
  obtain ⟨p', hp'⟩ : ∃ p', p' = getNP bs := ⟨_, rfl⟩
  obtain ⟨Q, hQ⟩ : ∃ Q, Q = getNPl bs := ⟨_, rfl⟩
  rw [← hE, ← hr', ← hp', ← hQ] at HC
  rw [← hE, ← hr', ← hp', ← hQ]
  clear hwo hr h0 hE hr' hp' hQ
  by_cases h0 : E = 0
  · subst h0
    simp only at HC ⊢
    go_enter Try.func34, Try.ntmps34
    go_wp2
    rw [← Hwo.out]
    go_region_held3 (fun w' => w'.cell? ⟨w.heap.size, 0, none⟩ = some (.int .i64 0) ∧ w'.cell? ⟨w.heap.size, 1, none⟩ = some (.int .i64 0) ∧ w'.cell? ⟨w.heap.size, 2, none⟩ = some (.slice none 0 0)) (go_keep)
      ((first
        | (go_at_call 53; refine (HN.out _ hb0).mono ?_; rintro e w3 ⟨g, rfl, h3⟩; have kN := HF.out _ h3.drop; obtain ⟨⟨_, _, _⟩, ⟨_, _, _⟩, _, _, _⟩ := kN)
        | (go_at_call 49; refine (HC.out _ _ h3).mono ?_; rintro e w4 ⟨g2, rfl, h4⟩; have kC := HF.out _ h4.bring2.drop; obtain ⟨⟨_, _, _⟩, ⟨_, _, _⟩, _, _, _⟩ := kC)))
    have h5 := ((h4.setBlk 0 (.int .i64 r')).setBlk 1 (.int .i64 p')).setBlk 2 (.slice (some ⟨g2, 0, none⟩) (cutLen Q 8) 8)
    go_wp2
    try simp only [Exit.inBlock, Exit.then]
    refine bodyPost_ret (results_row_tmp rfl _ _ (w.heap.size + 1) 62 #[.int .i64 r', .int .i64 p', .slice (some ⟨g2, 0, none⟩) (cutLen Q 8) 8] _ rfl h5.blk Try.underlying62 rfl (by kernel_rfl)) rfl ?_
    exact ⟨g2, rfl, h5.drop.drop⟩
  · simp only [if_neg h0] at HC ⊢
    clear h0
    go_enter Try.func34, Try.ntmps34
    go_wp2
    rw [← Hwo.out]
    go_region_held3 (fun w' => w'.cell? ⟨w.heap.size, 0, none⟩ = some (.int .i64 0) ∧ w'.cell? ⟨w.heap.size, 1, none⟩ = some (.int .i64 0) ∧ w'.cell? ⟨w.heap.size, 2, none⟩ = some (.slice none 0 0)) (go_keep)
      ((first
        | (go_at_call 53; refine (HN.out _ hb0).mono ?_; rintro e w3 ⟨g, rfl, h3⟩; have kN := HF.out _ h3.drop; obtain ⟨⟨_, _, _⟩, ⟨_, _, _⟩, _, _, _⟩ := kN)
        | (go_at_call 49; refine (HC.out _ _ h3).mono ?_; rintro e w4 ⟨g2, rfl, h4⟩; have kC := HF.out _ h4.bring2.drop; obtain ⟨⟨_, _, _⟩, ⟨_, _, _⟩, _, _, _⟩ := kC)))
    have h5 := ((h4.setBlk 0 (.int .i64 0)).setBlk 1 (.int .i64 0)).setBlk 2 (.slice none 0 0)
    go_wp2
    try simp only [Exit.inBlock, Exit.then]
    refine bodyPost_ret (results_row_tmp rfl _ _ (w.heap.size + 1) 62 #[.int .i64 0, .int .i64 0, .slice none 0 0] _ rfl h5.blk Try.underlying62 rfl (by kernel_rfl)) rfl ?_
    exact ⟨g2, rfl, h5.drop.drop⟩

set_option maxHeartbeats 4000000 in
theorem GetNode_any (A : Option Addr) (cap B : Nat) (bs : List Nat) (w : World) (hr : RB w B A bs) (hB : B ≤ w.heap.size) (hl : bs.length ≤ 140737488355328) :
    Calls Try.prog 15 #[.slice A bs.length cap] w (NodeRead bs w) := by
  have h0 : St Zf [BlkA w.heap.size 24 #[.int .i64 0, .int .i64 0, .slice none 0 0]] w (w.alloc (.cells #[.int .i64 0, .int .i64 0, .slice none 0 0] 24)) := (St.start Zf w).newBlk _ _
  obtain ⟨wo, hwo⟩ : ∃ wo, wo = (w.alloc (.cells #[.int .i64 0, .int .i64 0, .slice none 0 0] 24)) := ⟨_, rfl⟩
  rw [← hwo] at h0
  have H := Lib.hid (readNode_any A cap B bs wo (h0.rb hr hB) (by have := h0.size; omega) hl)
  have H0 := Lib.hid h0
  have Hwo := Lib.hid hwo
  unfold NodeRead at H ⊢
  obtain ⟨E, hE⟩ : ∃ E, E = getNE bs := ⟨_, rfl⟩
  obtain ⟨r', hr'⟩ : ∃ r', r' = getNR bs := ⟨_, rfl⟩
  obtain ⟨p', hp'⟩ : ∃ p', p' = getNP bs := ⟨_, rfl⟩
  obtain ⟨Q, hQ⟩ : ∃ Q, Q = getNPl bs := ⟨_, rfl⟩
  rw [← hE, ← hr', ← hp', ← hQ] at H
  rw [← hE, ← hr', ← hp', ← hQ]
  clear hwo hr h0 hE hr' hp' hQ
  by_cases h0 : E = 0
  · subst h0
    simp only at H ⊢
    go_enter Try.func15, Try.ntmps15
    go_wp2_with (go_at_call 34; rw [← Hwo.out]; refine (H.out).mono ?_; rintro e w3 ⟨g, rfl, h3⟩; have h4 := (H0.out.addSt h3).newBlk 62 #[.int .i64 r', .int .i64 p', .slice (some ⟨g, 0, none⟩) (cutLen Q 8) 8]; obtain ⟨u0, u1, u2⟩ := cells3 h4.bring2; have f0 := h4.bring2.blk.frozen 0; have f1 := h4.bring2.blk.frozen 1; have f2 := h4.bring2.blk.frozen 2; have h5 := Lib.hid (((h4.bring2.setBlk 0 (.int .i64 r')).setBlk 1 (.int .i64 p')).setBlk 2 (.slice (some ⟨g, 0, none⟩) (cutLen Q 8) 8)); clear h3 h4)
    try simp only [Exit.inBlock, Exit.then]
    refine bodyPost_ret (results_row_tmp rfl _ _ w.heap.size 24 #[.int .i64 r', .int .i64 p', .slice (some ⟨g, 0, none⟩) (cutLen Q 8) 8] _ rfl h5.out.blk Try.underlying24 rfl (by kernel_rfl)) rfl ?_
    exact ⟨g, rfl, h5.out.drop.drop⟩
  · simp only [if_neg h0] at H ⊢
    clear h0
    go_enter Try.func15, Try.ntmps15
    go_wp2_with (go_at_call 34; rw [← Hwo.out]; refine (H.out).mono ?_; rintro e w3 ⟨g, rfl, h3⟩; have h4 := (H0.out.addSt h3).newBlk 62 #[.int .i64 0, .int .i64 0, .slice none 0 0]; obtain ⟨u0, u1, u2⟩ := cells3 h4.bring2; have f0 := h4.bring2.blk.frozen 0; have f1 := h4.bring2.blk.frozen 1; have f2 := h4.bring2.blk.frozen 2; have h5 := Lib.hid (((h4.bring2.setBlk 0 (.int .i64 0)).setBlk 1 (.int .i64 0)).setBlk 2 (.slice none 0 0)); clear h3 h4)
    try simp only [Exit.inBlock, Exit.then]
    refine bodyPost_ret (results_row_tmp rfl _ _ w.heap.size 24 #[.int .i64 0, .int .i64 0, .slice none 0 0] _ rfl h5.out.blk Try.underlying24 rfl (by kernel_rfl)) rfl ?_
    exact ⟨g, rfl, h5.out.drop.drop⟩
end Go.Proofs.Ytpoaokkmmoeekaa

/- A node's record: fields, code, Write, Read, PutNode, GetNode of the program. -/
import Derived.Test.YtpoaokkmmoeekaaRcLab2
import Derived.Laws.ResultCell
import Derived.Laws.Rows
namespace Go.Proofs.Ytpoaokkmmoeekaa
open Go.RowKit
set_option linter.unusedVariables false

/-- a field, gone over -/
def fld (q : Cs × Bool) (width least limit x : Int) : Cs × Bool := (q.1.go width least x, q.2 || !inR least limit (q.1.val width least x))
def fval (q : Cs × Bool) (width least x : Int) : Int := q.1.val width least x
theorem fld_len (q : Cs × Bool) (width least limit x : Int) : (fld q width least limit x).1.len ≤ q.1.len + 8 := go_len _ _ _ _
theorem fld_isw (q : Cs × Bool) (width least limit x : Int) : (fld q width least limit x).1.isw = q.1.isw := go_isw _ _ _ _
def nodeQ1 (q : Cs × Bool) (r : Int) : Cs × Bool := fld q 4 (-1) 2048 r
def nodeQ2 (q : Cs × Bool) (r p : Int) : Cs × Bool := fld (nodeQ1 q r) 4 (-1) 65536 p
def nodeQ (q : Cs × Bool) (r p : Int) (L : List Int) : Cs × Bool := (labS (nodeQ2 q r p).1 (pl8 L) 8, labWr (nodeQ2 q r p).1 (nodeQ2 q r p).2 L)
def nodeR (q : Cs × Bool) (r : Int) : Int := fval q 4 (-1) r
def nodeP (q : Cs × Bool) (r p : Int) : Int := fval (nodeQ1 q r) 4 (-1) p
def nodePl (q : Cs × Bool) (r p : Int) (L : List Int) : List Int := labL (nodeQ2 q r p).1 (pl8 L) 8
/-- the slice of labels, behind them -/
def labSl (isw : Bool) (A : Option Addr) (n cap g : Nat) (Q : List Int) : Value := if isw = true then .slice A n cap else .slice (some ⟨g, 0, none⟩) (cutLen Q 8) 8

theorem labSl_form (isw : Bool) (A : Option Addr) (n cap g : Nat) (Q : List Int) : ∃ Z a b, labSl isw A n cap g Q = .slice Z a b := by
  unfold labSl
  split <;> exact ⟨_, _, _, rfl⟩
/-- a result that stands in a block, and one in a slot -/
theorem results_row_tmp {P : Program} {fn : Func} {p u : Tmp} {ty : TypeId} (h : fn.results = #[.cell p ty, .tmp u]) (tmps : Array Value) (w : World) (g : Nat) (t : TypeId) (cs : Array Value) (d : TypeDesc)
    (hp : tmps.getD p undef = .pointer (some ⟨g, 0, none⟩)) (hg : Blk w g t cs)
    (hu : P.underlying ty = some d) (hd : (match d with | .struct _ | .array _ _ => true | _ => false) = true) (hi : (P.info? ty).map (·.size) = some cs.size) :
    (results fn tmps).run P w = .ok (.tuple #[.agg cs, tmps.getD u undef]) w := by
  rw [results_cell_tmp h, hp]
  simp [asAddr, run_loadVar_row w g t ty cs (0, 0) d hg hu hd hi, Result.andThen]

section
variable {l : List Ass} {w0 w w' : World} {c : Nat} {q : Cs × Bool}
set_option maxHeartbeats 2000000 in
theorem nodeFields_any [Stable (Sep l)] {n cap B : Nat} {A : Option Addr} {r p : Int} {L : List Int} (h : St Zf (CoA c q.1 q.2 :: BlkA n 62 #[.int .i64 r, .int .i64 p, .slice A L.length cap] :: l) w0 w) (hr : RL ivl w0 B A L) (hB : B ≤ w0.heap.size) (hcap : L.length ≤ cap) (hm : cap ≤ maxLen) (hs : q.1.len ≤ 9000) :
    Calls Try.prog 27 #[.pointer (some ⟨n, 0, none⟩), .pointer (some ⟨c, 0, none⟩)] w fun e w' => e = .returned (.tuple #[]) ∧ ∃ g, St Zf (CoA c (nodeQ q r p L).1 (nodeQ q r p L).2 :: BlkA n 62 #[.int .i64 (nodeR q r), .int .i64 (nodeP q r p), labSl q.1.isw A L.length cap g (nodePl q r p L)] :: BlkA g 3 (icells (nodePl q r p L)) :: l) w0 w' := by
  have l1 := fld_len q 4 (-1) 2048 r
  have l2 := fld_len (fld q 4 (-1) 2048 r) 4 (-1) 65536 p
  have i2 : (nodeQ2 q r p).1.isw = q.1.isw := by unfold nodeQ2 nodeQ1; rw [fld_isw, fld_isw]
  have H1 := Lib.hid (Pointer_any (Holds.blk (n := n) (k := 0) (t := 62) (cs := fun x => #[.int .i64 x, .int .i64 p, .slice A L.length cap]) (fun x => rfl) (fun x y => rfl)) h (fits_of (by omega)) 2048)
  have H2 := fun (w1 : World) (h1 : St Zf (CoA c (nodeQ1 q r).1 (nodeQ1 q r).2 :: BlkA n 62 #[.int .i64 (nodeR q r), .int .i64 p, .slice A L.length cap] :: l) w0 w1) => Pointer_any (Holds.blk (n := n) (k := 1) (t := 62) (cs := fun x => #[.int .i64 (nodeR q r), .int .i64 x, .slice A L.length cap]) (fun x => rfl) (fun x y => rfl)) h1 (fits_of (by unfold nodeQ1; omega)) 65536
  have H3 := fun (w1 : World) (h1 : St Zf (CoA c (nodeQ2 q r p).1 (nodeQ2 q r p).2 :: BlkA n 62 #[.int .i64 (nodeR q r), .int .i64 (nodeP q r p), .slice A L.length cap] :: l) w0 w1) => Labels_any (HoldsV.blk (n := n) (k := 2) (t := 62) (cs := fun x => #[.int .i64 (nodeR q r), .int .i64 (nodeP q r p), x]) (fun x => rfl) (fun x y => rfl)) h1 hr hB hcap hm (by unfold nodeQ2 nodeQ1; omega)
  rw [i2] at H3
  have H2 := Lib.hid H2
  have H3 := Lib.hid H3
  clear h l1 l2 i2 hs
  go_enter Try.func27, Try.ntmps27
  go_wp2_with (first | (go_at_call 51; refine (H1.out).mono ?_; rintro e w1 ⟨rfl, h1⟩) | (go_at_call 51; refine (H2.out _ h1).mono ?_; rintro e w2 ⟨rfl, h2⟩) | (go_at_call 52; refine (H3.out _ h2).mono ?_; rintro e w3 ⟨rfl, g, h3⟩))
  go_end0
  exact ⟨rfl, g, h3⟩

set_option maxHeartbeats 4000000 in
theorem codeNode_any [Stable (Sep l)] {cap B : Nat} {A : Option Addr} {r p : Int} {L : List Int} (h : St Zf (CoA c q.1 q.2 :: l) w0 w) (hr : RL ivl w0 B A L) (hB : B ≤ w0.heap.size) (hcap : L.length ≤ cap) (hm : cap ≤ maxLen) (hs : q.1.len ≤ 9000) :
    Calls Try.prog 49 #[.pointer (some ⟨c, 0, none⟩), .agg #[.int .i64 r, .int .i64 p, .slice A L.length cap], .func (.func 27) #[] #[]] w fun e w' => ∃ g, e = .returned (.tuple #[if (nodeQ q r p L).1.endE (nodeQ q r p L).2 = 0 then .agg #[.int .i64 (nodeR q r), .int .i64 (nodeP q r p), labSl q.1.isw A L.length cap g (nodePl q r p L)] else .agg #[.int .i64 0, .int .i64 0, .slice none 0 0], .int .i64 ((nodeQ q r p L).1.endE (nodeQ q r p L).2)]) ∧ St Zf (CoA c (nodeQ q r p L).1 (nodeQ q r p L).2 :: BlkA g 3 (icells (nodePl q r p L)) :: l) w0 w' := by
  have h1 : St Zf (CoA c q.1 q.2 :: BlkA w.heap.size 62 #[.int .i64 r, .int .i64 p, .slice A L.length cap] :: BlkA (w.heap.size + 1) 62 #[.int .i64 0, .int .i64 0, .slice none 0 0] :: l) w0 ((w.alloc (.cells #[.int .i64 r, .int .i64 p, .slice A L.length cap] 62)).alloc (.cells #[.int .i64 0, .int .i64 0, .slice none 0 0] 62)) := by
    have a := ((h.newBlk 62 #[.int .i64 r, .int .i64 p, .slice A L.length cap]).swap.newBlk 62 #[.int .i64 0, .int .i64 0, .slice none 0 0]).back2
    simpa using a
  obtain ⟨w1, hw1⟩ : ∃ w1, w1 = ((w.alloc (.cells #[.int .i64 r, .int .i64 p, .slice A L.length cap] 62)).alloc (.cells #[.int .i64 0, .int .i64 0, .slice none 0 0] 62)) := ⟨_, rfl⟩
  rw [← hw1] at h1
  have HF := Lib.hid (nodeFields_any h1 hr hB hcap hm hs)
  obtain ⟨E, hE⟩ : ∃ E, E = (nodeQ q r p L).1.endE (nodeQ q r p L).2 := ⟨_, rfl⟩
  have HW1 := Lib.hid hw1
  rw [← hE]
  have HEA := fun (g : Nat) (w2 : World) (h2 : St Zf (CoA c (nodeQ q r p L).1 (nodeQ q r p L).2 :: BlkA w.heap.size 62 #[.int .i64 (nodeR q r), .int .i64 (nodeP q r p), labSl q.1.isw A L.length cap g (nodePl q r p L)] :: BlkA g 3 (icells (nodePl q r p L)) :: BlkA (w.heap.size + 1) 62 #[.int .i64 0, .int .i64 0, .slice none 0 0] :: l) w0 w2) => end_any h2
  rw [← hE] at HEA
  have HEA := Lib.hid HEA
  obtain ⟨r', hr'⟩ : ∃ r', r' = nodeR q r := ⟨_, rfl⟩
  obtain ⟨p', hp'⟩ : ∃ p', p' = nodeP q r p := ⟨_, rfl⟩
  rw [← hr', ← hp'] at HF HEA
  rw [← hr', ← hp']
  clear h h1 hE hw1 hr hr' hp'
  by_cases h0 : E = 0
  · subst h0
    go_enter Try.func49, Try.ntmps49
    go_wp2_with (first | (go_at_call 27; rw [← HW1.out]; refine (HF.out).mono ?_; rintro e w2 ⟨rfl, g, h2⟩) | (go_at_call 63; refine (HEA.out _ _ h2).mono ?_; rintro e w3 ⟨rfl, h3⟩; obtain ⟨Z, z1, z2, hz⟩ := labSl_form q.1.isw A L.length cap g (nodePl q r p L); rw [hz] at h3; have HZ := Lib.hid hz; clear hz; obtain ⟨v0, v1, v2⟩ := cells3 h3.swap; obtain ⟨u0, u1, u2⟩ := cells3 h3.bring3; have f0 := h3.bring3.blk.frozen 0; have f1 := h3.bring3.blk.frozen 1; have f2 := h3.bring3.blk.frozen 2; have h4 := Lib.hid (((h3.bring3.setBlk 0 (.int .i64 r')).setBlk 1 (.int .i64 p')).setBlk 2 (.slice Z z1 z2)); clear h2 h3))
    refine bodyPost_ret (results_row_tmp rfl _ _ (w.heap.size + 1) 62 #[.int .i64 r', .int .i64 p', .slice Z z1 z2] _ rfl h4.out.blk Try.underlying62 rfl (by kernel_rfl)) rfl ?_
    exact ⟨g, by rw [HZ.out]; rfl, h4.out.drop.swap.drop⟩
  · have hb : (E != 0) = true := by simpa using h0
    simp only [if_neg h0]
    clear h0
    go_enter Try.func49, Try.ntmps49
    go_wp2_with (first | (go_at_call 27; rw [← HW1.out]; refine (HF.out).mono ?_; rintro e w2 ⟨rfl, g, h2⟩) | (go_at_call 63; refine (HEA.out _ _ h2).mono ?_; rintro e w3 ⟨rfl, h3⟩; have h3 := h3.alloc (.cells #[.int .i64 0, .int .i64 0, .slice none 0 0] 62); obtain ⟨u0, u1, u2⟩ := cells3 h3.bring3; have f0 := h3.bring3.blk.frozen 0; have f1 := h3.bring3.blk.frozen 1; have f2 := h3.bring3.blk.frozen 2; have h4 := Lib.hid (((h3.bring3.setBlk 0 (.int .i64 0)).setBlk 1 (.int .i64 0)).setBlk 2 (.slice none 0 0)); clear h2 h3))
    refine bodyPost_ret (results_row_tmp rfl _ _ (w.heap.size + 1) 62 #[.int .i64 0, .int .i64 0, .slice none 0 0] _ rfl h4.out.blk Try.underlying62 rfl (by kernel_rfl)) rfl ?_
    exact ⟨g, rfl, h4.out.drop.swap.drop⟩
end
end Go.Proofs.Ytpoaokkmmoeekaa

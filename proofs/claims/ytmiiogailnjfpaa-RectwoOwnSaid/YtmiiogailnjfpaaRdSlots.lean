/- Flags and slots of a record, in both ways. -/
import Derived.Test.YtmiiogailnjfpaaRcNode2
import Derived.Test.YtmiiogailnjfpaaRRaw
namespace Go.Proofs.Ytmiiogailnjfpaa
open Go.RowKit
set_option linter.unusedVariables false

/-- how many bytes are left to read -/
def Cs.rl (s : Cs) : Nat := match s with
  | .w _ => 0
  | .r bs _ => bs.length
theorem restOf_le (bs : List Nat) (p d : Int) : (restOf bs p d).length ≤ bs.length := by
  unfold restOf
  split
  · rw [List.length_drop]; omega
  · simp
theorem aft_rl (s : Cs) (width : Int) (n : Nat) : (s.aft width n).rl ≤ s.rl := by
  cases s
  · exact Nat.le_refl _
  · exact restOf_le _ _ _
theorem go_rl (s : Cs) (width least x : Int) : (s.go width least x).rl ≤ s.rl := aft_rl _ _ _
theorem fld_rl (q : Cs × Bool) (width least limit x : Int) : (fld q width least limit x).1.rl ≤ q.1.rl := go_rl _ _ _ _
theorem labS_rl (s : Cs) (P : List Int) (k : Nat) : (labS s P k).rl ≤ s.rl := by
  induction k with
  | zero => exact Nat.le_refl _
  | succ k ih => exact Nat.le_trans (go_rl _ _ _ _) ih

section
variable {S : Fp} {l : List Ass} {w0 w w' : World} {c : Nat} {s : Cs} {wb : Bool}
set_option maxHeartbeats 400000 in
theorem RRawA [Stable (Sep l)] {g : Nat} {bs : List Nat} {err : Int} (h : St S (RdA g bs err :: l) w0 w) (n : Int) (hl : bs.length ≤ 140737488355328) :
    Calls Try.prog 77 #[.pointer (some ⟨g, 0, none⟩), .int .i64 n] w fun e w' => ∃ v, e = .returned v ∧ St S (ObA 5 v (rawVal bs n) :: RdA g (restOf bs (rawErr bs.length n) n) (errBy err (rawErr bs.length n)) :: l) w0 w' := by
  obtain ⟨F, ⟨q, hw, rfl⟩, k⟩ := h.turn
  refine (RRaw_any 0 g q bs err n w hw hl).mono ?_
  rintro e w' ⟨v, rfl, ho, h1, h2⟩
  refine ⟨v, rfl, ?_⟩
  have := k (Sep [ObA 5 v (rawVal bs n), RdA g (restOf bs (rawErr bs.length n) n) (errBy err (rawErr bs.length n))]) w' ⟨fun k => rfp v k ∨ ((k = g ∨ k = q) ∨ False), ⟨rfp v, fun k => (k = g ∨ k = q) ∨ False, ⟨ho.mono (Nat.zero_le _), rfl⟩, ⟨fun k => k = g ∨ k = q, fun _ => False, ⟨q, h1, rfl⟩, rfl, fun _ _ h => h, rfl⟩, ?_, rfl⟩, h2.mono fun i _ e => .inl e, ?_⟩
  · exact this.flat
  · rintro i hi (hi2 | hi2)
    · have hge := (ho.2.lt i hi).1
      have hlt := hw.lt
      rcases hi2 with e | e <;> omega
    · exact hi2
  · rintro i (hi | hi | hi)
    · exact .inr (ho.2.lt i hi).1
    · exact .inl hi
    · exact hi.elim
set_option maxHeartbeats 400000 in
theorem WRawA [Stable (Sep l)] {g : Nat} {bs news : List Nat} {A : Option Addr} {cap B : Nat} (h : St S (WrA g bs :: l) w0 w) (hr : RB w B A news) (hl : bs.length + news.length ≤ 140737488355328) :
    Calls Try.prog 78 #[.pointer (some ⟨g, 0, none⟩), .slice A news.length cap] w fun e w' => e = .returned (.tuple #[]) ∧ St S (WrA g (bs ++ news) :: l) w0 w' := by
  obtain ⟨F, ⟨v, hw, rfl⟩, k⟩ := h.turn
  refine (Raw_any 0 g v bs A cap B news w hw hr hl).mono ?_
  rintro e w' ⟨rfl, v', h1, h2, h3⟩
  exact ⟨rfl, k _ _ ⟨_, ⟨v', h1, rfl⟩, h2, h3⟩⟩
end

/-- the Coder behind slots of m bytes -/
def slS (s : Cs) (L : List Nat) (m : Int) : Cs := match s with
  | .w bs => .w (bs ++ L)
  | .r bs err => .r (restOf bs (rawErr bs.length m) m) (errBy err (rawErr bs.length m))
def slW (s : Cs) (wb : Bool) (L : List Nat) (m : Int) : Bool := match s with
  | .w _ => wb || !decide ((L.length : Int) = m)
  | .r _ _ => wb
/-- what was read as slots -/
def slB (s : Cs) (m : Int) : List Nat := match s with
  | .w _ => []
  | .r bs _ => rawVal bs m
theorem slS_len (s : Cs) (L : List Nat) (m : Int) : (slS s L m).len ≤ s.len + L.length := by
  cases s
  · simp [slS, Cs.len]
  · exact Nat.zero_le _
theorem slS_isw (s : Cs) (L : List Nat) (m : Int) : (slS s L m).isw = s.isw := by cases s <;> rfl
/-- the slots' value v behind them: V as it came, or new -/
def SlA (s : Cs) (m : Int) (V v : Value) : Ass := match s with
  | .w _ => Wh (v = V) (Sep [])
  | .r bs _ => ObA 5 v (rawVal bs m)
instance stableSl {s : Cs} {m : Int} {V v : Value} : Stable (SlA s m V v) := by
  cases s
  · exact inferInstanceAs (Stable (Wh _ _))
  · exact inferInstanceAs (Stable (ObA _ _ _))

section
variable {l : List Ass} {w0 w w' : World} {c : Nat} {s : Cs} {wb : Bool}
theorem St.ins2 {S : Fp} {P Q R : Ass} (h : St S (P :: Q :: l) w0 w) (k : ∀ {l' : List Ass}, Stable (Sep l') → St S l' w0 w → St S (R :: l') w0 w) [Stable (Sep (P :: Q :: l))] : St S (P :: Q :: R :: l) w0 w := (k inferInstance h).back2

set_option maxRecDepth 100000 in
set_option maxHeartbeats 4000000 in
theorem Slots_any [Stable (Sep l)] {n k cap B : Nat} {Q : Value → Ass} [hst : ∀ x, Stable (Q x)] (hQ : HoldsV Q n k) {A : Option Addr} {L : List Nat} (cnt m : Int) (hm : wrap64 (cnt * 8) = m) (h : St Zf (CoA c s wb :: Q (.slice A L.length cap) :: l) w0 w) (hr : RB w0 B A L) (hB : B ≤ w0.heap.size) (hl : L.length ≤ 140737488351232) (hs : s.len ≤ 3000) (hs2 : s.rl ≤ 140737488355328) :
    Calls Try.prog 59 #[.pointer (some ⟨c, 0, none⟩), .pointer (some ⟨n, k, none⟩), .int .i64 cnt] w fun e w' => e = .returned (.tuple #[]) ∧ ∃ a b d, St Zf (CoA c (slS s L m) (slW s wb L m) :: Q (.slice a b d) :: SlA s m (.slice A L.length cap) (.slice a b d) :: l) w0 w' := by
  have d2 := (hQ.cell h.swap).1
  cases s with
  | r bs err =>
    simp only [slS, slW, SlA]
    obtain ⟨g, h1⟩ := co_openR h
    obtain ⟨c0, c1, c2⟩ := cells3 h1
    have HR := Lib.hid (RRawA h1.swap m hs2)
    clear h h1 hs hs2 hl
    go_enter Try.func59, Try.ntmps59
    go_wp2_with (go_at_call 77; refine (HR.out).mono ?_; rintro e w2 ⟨v, rfl, h2⟩; obtain ⟨A2, c2, rfl, -, -, -, -⟩ := h2.ob.form; have h3 := Lib.hid (co_shutR h2.swap.bring2); obtain ⟨g3, f3⟩ := hQ.cell h3.out.bring2; clear h2)
    try simp only [Exit.inBlock, Exit.then]
    refine bodyPost_ret (results_none rfl _ _ _) rfl ?_
    exact ⟨rfl, _, _, _, (hQ.set_ inferInstance h3.out.bring2 _).swap⟩
  | w bs =>
    simp only [slS, slW, SlA]
    obtain ⟨g, h1⟩ := co_openW h
    obtain ⟨c0, c1, c2⟩ := cells3 h1
    obtain ⟨bb, hb⟩ : ∃ bb, bb = decide ((L.length : Int) = m) := ⟨_, rfl⟩
    have HE := Lib.hid (Expect_any h bb)
    rw [← hb]
    have hlen : bs.length ≤ 3000 := hs
    have HW : Hid (∀ W, St Zf (CoA c (.w bs) (wb || !bb) :: Q (.slice A L.length cap) :: l) w0 W → ∃ g, W.cell? ⟨c, 0, none⟩ = some (.pointer (some ⟨g, 0, none⟩)) ∧ W.cell? ⟨n, k, none⟩ = some (.slice A L.length cap) ∧ Hid (Calls Try.prog 78 #[.pointer (some ⟨g, 0, none⟩), .slice A L.length cap] W.drew fun e w' => e = .returned (.tuple #[]) ∧ w'.cell? ⟨c, 0, none⟩ = some (.pointer (some ⟨g, 0, none⟩)) ∧ w'.cell? ⟨n, k, none⟩ = some (.slice A L.length cap) ∧ St Zf (CoA c (.w (bs ++ L)) (wb || !bb) :: Q (.slice A L.length cap) :: l) w0 w')) := Lib.hid fun W hW => by
      obtain ⟨g, h1⟩ := co_openW hW
      refine ⟨g, (cells3 h1).1, (hQ.cell hW.swap).1, Lib.hid ?_⟩
      refine (WRawA (A := A) (cap := cap) h1.swap.drew (h1.drew.rb hr hB) (by omega)).mono ?_
      rintro e w' ⟨rfl, h2⟩
      exact ⟨rfl, (cells3 h2.swap).1, (hQ.cell h2.bring2).1, co_shutW h2.swap⟩
    have hdec : ((L.length : Int) == m) = bb := hb.symm
    have hfin : ∀ W, St Zf (CoA c (.w (bs ++ L)) (wb || !bb) :: Q (.slice A L.length cap) :: l) w0 W → ∃ a b d, St Zf (CoA c (.w (bs ++ L)) (wb || !bb) :: Q (.slice a b d) :: Wh (Value.slice a b d = .slice A L.length cap) (Sep []) :: l) w0 W := fun W hW => by
      refine ⟨_, _, _, (hW.nilSep.mapHead fun F hF => ⟨rfl, hF⟩).back2⟩
    have HFIN := Lib.hid hfin
    have HM := Lib.hid hm
    clear h h1 hs hs2 hl hb hlen hr hB hfin
    go_enter Try.func59, Try.ntmps59
    go_upto_region 3 with (go_at_call 75; refine (HE.out).mono ?_; rintro e w2 ⟨rfl, h2⟩; obtain ⟨g2, k1, k2, k3⟩ := HW.out _ h2; clear h2)
    go_region_held3 (fun w' => w'.cell? ⟨c, 0, none⟩ = some (.pointer (some ⟨g2, 0, none⟩)) ∧ w'.cell? ⟨n, k, none⟩ = some (.slice A L.length cap)) (go_keep)
      ((go_at_call 78; refine (k3.out).mono ?_; rintro e w3 ⟨rfl, _, _, h3⟩))
    go_end0
    exact ⟨rfl, HFIN.out _ h3⟩

/-- a flag -/
def b01 (b : Bool) : Int := if b = true then 1 else 0
def flQ (q : Cs × Bool) (b : Bool) : Cs × Bool := fld q 1 0 2 (b01 b)
def flV (q : Cs × Bool) (b : Bool) : Bool := decide (fval q 1 0 (b01 b) = 1)
set_option maxHeartbeats 4000000 in
theorem Flag_any [Stable (Sep l)] {n k : Nat} {Q : Value → Ass} [hst : ∀ x, Stable (Q x)] (hQ : HoldsV Q n k) (b : Bool) (h : St Zf (CoA c s wb :: Q (.bool b) :: l) w0 w) (hs : s.len ≤ 10000) :
    Calls Try.prog 55 #[.pointer (some ⟨c, 0, none⟩), .pointer (some ⟨n, k, none⟩)] w fun e w' => e = .returned (.tuple #[]) ∧ St Zf (CoA c (flQ (s, wb) b).1 (flQ (s, wb) b).2 :: Q (.bool (flV (s, wb) b)) :: l) w0 w' := by
  obtain ⟨d2, -⟩ := hQ.cell h.swap
  have HB : Hid (∀ x : Int, ∀ W, St Zf (CoA c s wb :: BlkA w.heap.size 3 #[.int .i64 x] :: Q (.bool b) :: l) w0 W → Calls Try.prog 71 #[.pointer (some ⟨c, 0, none⟩), .pointer (some ⟨w.heap.size, 0, none⟩), .int .i64 1, .int .i64 2] W fun e w' => e = .returned (.tuple #[]) ∧ St Zf (CoA c (s.go 1 0 x) (wb || !inR 0 2 (s.val 1 0 x)) :: BlkA w.heap.size 3 #[.int .i64 (s.val 1 0 x)] :: Q (.bool b) :: l) w0 w') := Lib.hid fun x W hW => Below_any (Holds.blk (n := w.heap.size) (k := 0) (t := 3) (cs := fun z => #[.int .i64 z]) (fun z => rfl) (fun y z => rfl)) hW (fits_of (by omega)) 1 2
  have h0 : Hid (St Zf (BlkA w.heap.size 3 #[.int .i64 0] :: CoA c s wb :: Q (.bool b) :: l) w0 (w.alloc (.cells #[.int .i64 0] 3))) := Lib.hid (h.newBlk _ _)
  unfold flV flQ fld fval
  have HN : Hid (∀ x : Int, ∀ W, St Zf (BlkA w.heap.size 3 #[.int .i64 x] :: CoA c s wb :: Q (.bool b) :: l) w0 W → W.cell? ⟨n, k, none⟩ = some (.bool b)) := Lib.hid fun x W hW => (hQ.cell hW.bring2).1
  have d3 := HN.out 0 _ h0.out
  cases b
  · simp only [b01, Bool.false_eq_true, if_false]
    obtain ⟨z, hz⟩ : ∃ z, z = s.val 1 0 0 := ⟨_, rfl⟩
    have HB1 := Lib.hid (HB.out 0 _ h0.out.swap)
    rw [← hz] at HB1 ⊢
    clear hz h hs HB HN h0
    go_enter Try.func55, Try.ntmps55
    go_wp2_with (go_at_call 71; refine (HB1.out).mono ?_; rintro e w2 ⟨rfl, h2⟩; have e2 : w2.cell? ⟨w.heap.size, 0, none⟩ = some (.int .i64 z) := (by rw [h2.swap.blk.cell 0]; rfl); obtain ⟨d4, f4⟩ := hQ.cell h2.bring2; have h3 := Lib.hid h2.bring2; clear h2)
    go_end0
    exact ⟨rfl, (hQ.set_ inferInstance h3.out _).swap.bring2.drop⟩
  · simp only [b01, if_true]
    have h1' := h.newBlk 3 #[.int .i64 1]
    obtain ⟨z, hz⟩ : ∃ z, z = s.val 1 0 1 := ⟨_, rfl⟩
    have HB1 := Lib.hid (HB.out 1 _ h1'.swap)
    rw [← hz] at HB1 ⊢
    clear hz h hs HB HN h0 h1'
    go_enter Try.func55, Try.ntmps55
    go_wp2_with (go_at_call 71; refine (HB1.out).mono ?_; rintro e w2 ⟨rfl, h2⟩; have e2 : w2.cell? ⟨w.heap.size, 0, none⟩ = some (.int .i64 z) := (by rw [h2.swap.blk.cell 0]; rfl); obtain ⟨d4, f4⟩ := hQ.cell h2.bring2; have h3 := Lib.hid h2.bring2; clear h2)
    go_end0
    exact ⟨rfl, (hQ.set_ inferInstance h3.out _).swap.bring2.drop⟩
end
end Go.Proofs.Ytmiiogailnjfpaa

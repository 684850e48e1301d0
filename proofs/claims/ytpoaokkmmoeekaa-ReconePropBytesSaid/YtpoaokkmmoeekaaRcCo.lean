/- The Coder of the records: what each of its methods does, in both ways. -/
import Derived.Test.YtpoaokkmmoeekaaSep
import Derived.Test.YtpoaokkmmoeekaaRNum
import Derived.Deep.RegionLaw
import Derived.Deep.QuietTactic
import Derived.BigQuiet
import Derived.Deep.RegionHeld3
import Derived.OwnWalk
namespace Go.Proofs.Ytpoaokkmmoeekaa
open Go.RowKit
set_option linter.unusedVariables false

/-! ### Writer and Reader as objects -/
def WrA (g : Nat) (bs : List Nat) : Ass := fun w F => ∃ v, Wr w 0 g v bs ∧ F = wfp g v
instance stableWr {g : Nat} {bs : List Nat} : Stable (WrA g bs) where
  lt := by
    rintro w F ⟨v, h, rfl⟩ k hk
    exact (h.lt k hk).2
  keep := by
    rintro w w' F ⟨v, h, rfl⟩ _ hk
    exact ⟨v, ⟨h.1.keep (hk g (.inl rfl)), h.2.1, h.2.2.keep fun k e => hk k (.inr e)⟩, rfl⟩
def RdA (g : Nat) (bs : List Nat) (err : Int) : Ass := fun w F => ∃ q, Rd w 0 g q bs err ∧ F = fun k => k = g ∨ k = q
instance stableRd {g : Nat} {bs : List Nat} {err : Int} : Stable (RdA g bs err) where
  lt := by
    rintro w F ⟨q, h, rfl⟩ k (rfl | rfl)
    · exact h.lt.2.2.2
    · exact h.lt.2.2.1
  keep := by
    rintro w w' F ⟨q, h, rfl⟩ hs hk
    refine ⟨q, ?_, rfl⟩
    obtain ⟨A, c, h1, h2, h3, h4, h5, h6, h7, h8, h9⟩ := h
    refine ⟨A, c, h1.keep (hk g (.inl rfl)), ?_, h3, h4, h5, h6, h7, h8, by omega⟩
    refine RB.more ?_ hs
    exact ⟨h2.1, h2.2.1, fun hn => by
      obtain ⟨ad, e, hlt, hc⟩ := h2.2.2 hn
      refine ⟨ad, e, hlt, fun j u hu => ?_⟩
      refine (World.cell?_of_block ?_).trans (hc j u hu)
      obtain ⟨o, rfl⟩ := h3 ad e
      rw [block_of_add]
      exact hk q (.inr rfl)⟩

/-- what a Coder has: it writes, and bs is written; or it reads, and bs is left -/
inductive Cs where
  | w (bs : List Nat)
  | r (bs : List Nat) (err : Int)
def Cs.num (s : Cs) (width : Int) (n : Nat) : Nat := match s with
  | .w _ => n
  | .r bs _ => getVal bs 0 width
def Cs.aft (s : Cs) (width : Int) (n : Nat) : Cs := match s with
  | .w bs => .w (bs ++ putNum width n)
  | .r bs err => .r (restOf bs (placeErr bs.length 0 width) width) (errBy err (placeErr bs.length 0 width))
def Cs.fits (s : Cs) : Prop := match s with
  | .w bs => bs.length ≤ 1000000
  | .r _ _ => True
/-- the Coder at block c -/
def CoA (c : Nat) (s : Cs) (wr : Bool) : Ass := match s with
  | .w bs => Ex fun g : Nat => Sep [BlkA c 100 #[.pointer (some ⟨g, 0, none⟩), .pointer none, .bool wr], WrA g bs]
  | .r bs err => Ex fun g : Nat => Sep [BlkA c 100 #[.pointer none, .pointer (some ⟨g, 0, none⟩), .bool wr], RdA g bs err]
instance stableCo {c : Nat} {s : Cs} {wr : Bool} : Stable (CoA c s wr) := by
  cases s
  · exact inferInstanceAs (Stable (Ex _))
  · exact inferInstanceAs (Stable (Ex _))

section
variable {S : Fp} {l : List Ass} {w0 w w' : World} {c : Nat} {s : Cs} {wr : Bool}
theorem co_openW {bs : List Nat} (h : St S (CoA c (.w bs) wr :: l) w0 w) : ∃ g, St S (BlkA c 100 #[.pointer (some ⟨g, 0, none⟩), .pointer none, .bool wr] :: WrA g bs :: l) w0 w := by
  obtain ⟨g, h⟩ := St.ex (l := l) h
  exact ⟨g, h.flat⟩
theorem co_shutW {bs : List Nat} {g : Nat} (h : St S (BlkA c 100 #[.pointer (some ⟨g, 0, none⟩), .pointer none, .bool wr] :: WrA g bs :: l) w0 w) : St S (CoA c (.w bs) wr :: l) w0 w :=
  (St.pack (l' := [_, _]) h).mapHead fun F h => ⟨g, h⟩
theorem co_openR {bs : List Nat} {err : Int} (h : St S (CoA c (.r bs err) wr :: l) w0 w) : ∃ g, St S (BlkA c 100 #[.pointer none, .pointer (some ⟨g, 0, none⟩), .bool wr] :: RdA g bs err :: l) w0 w := by
  obtain ⟨g, h⟩ := St.ex (l := l) h
  exact ⟨g, h.flat⟩
theorem co_shutR {bs : List Nat} {err : Int} {g : Nat} (h : St S (BlkA c 100 #[.pointer none, .pointer (some ⟨g, 0, none⟩), .bool wr] :: RdA g bs err :: l) w0 w) : St S (CoA c (.r bs err) wr :: l) w0 w :=
  (St.pack (l' := [_, _]) h).mapHead fun F h => ⟨g, h⟩
theorem cells3 {g : Nat} {t : TypeId} {a b d : Value} (h : St S (BlkA g t #[a, b, d] :: l) w0 w) : w.cell? ⟨g, 0, none⟩ = some a ∧ w.cell? ⟨g, 1, none⟩ = some b ∧ w.cell? ⟨g, 2, none⟩ = some d := by
  have hb := h.blk
  exact ⟨by rw [hb.cell 0]; rfl, by rw [hb.cell 1]; rfl, by rw [hb.cell 2]; rfl⟩

set_option maxHeartbeats 400000 in
theorem WNumA [Stable (Sep l)] {g : Nat} {bs : List Nat} (h : St S (WrA g bs :: l) w0 w) (width : Int) (n : Nat) (hn : n < 18446744073709551616) (hl : bs.length ≤ 1000000) :
    Calls Try.prog 74 #[.pointer (some ⟨g, 0, none⟩), .int .i64 width, .int .u64 n] w fun e w' => e = .returned (.tuple #[]) ∧ St S (WrA g (bs ++ putNum width n) :: l) w0 w' := by
  obtain ⟨F, ⟨v, hw, rfl⟩, k⟩ := h.turn
  refine (WNum_any 0 g v bs width n w hw hn (by omega)).mono ?_
  rintro e w' ⟨rfl, v', h1, h2, h3⟩
  exact ⟨rfl, k _ _ ⟨_, ⟨v', h1, rfl⟩, h2, h3⟩⟩
set_option maxHeartbeats 400000 in
theorem RNumA [Stable (Sep l)] {g : Nat} {bs : List Nat} {err : Int} (h : St S (RdA g bs err :: l) w0 w) (width : Int) :
    Calls Try.prog 73 #[.pointer (some ⟨g, 0, none⟩), .int .i64 width] w fun e w' => e = .returned (.int .u64 (getVal bs 0 width : Nat)) ∧ St S (RdA g (restOf bs (placeErr bs.length 0 width) width) (errBy err (placeErr bs.length 0 width)) :: l) w0 w' := by
  obtain ⟨F, ⟨q, hw, rfl⟩, k⟩ := h.turn
  refine (RNum_any 0 g q bs err width w hw).mono ?_
  rintro e w' ⟨rfl, h1, h2⟩
  exact ⟨rfl, k _ _ ⟨_, ⟨q, h1, rfl⟩, h2.mono (fun i _ e => .inl e), fun i hi => .inl hi⟩⟩
set_option maxHeartbeats 400000 in
theorem EndA [Stable (Sep l)] {g : Nat} {bs : List Nat} {err : Int} (h : St S (RdA g bs err :: l) w0 w) :
    Calls Try.prog 71 #[.pointer (some ⟨g, 0, none⟩)] w fun e w' => e = .returned (.int .i64 (endOf bs.length err)) ∧ ∃ n, w' = w.drewN n := by
  obtain ⟨F, ⟨q, hw, rfl⟩, k⟩ := h.turn
  exact End_any 0 g q bs err w hw

set_option maxHeartbeats 400000 in
theorem bits_any [Stable (Sep l)] (h : St S (CoA c s wr :: l) w0 w) (hs : s.fits) (width : Int) (n : Nat) (hn : n < 18446744073709551616) :
    Calls Try.prog 70 #[.pointer (some ⟨c, 0, none⟩), .int .i64 width, .int .u64 n] w fun e w' => e = .returned (.int .u64 (s.num width n : Nat)) ∧ St S (CoA c (s.aft width n) wr :: l) w0 w' := by
  cases s with
  | w bs =>
    obtain ⟨g, h⟩ := co_openW h
    obtain ⟨c0, c1, c2⟩ := cells3 h
    have H := Lib.hid (WNumA h.swap width n hn hs)
    simp only [Cs.num, Cs.aft]
    clear h hs hn
    go_enter Try.func70, Try.ntmps70
    go_wp2_with (go_at_call 74; refine (H.out).mono ?_; rintro e w1 ⟨rfl, h1⟩)
    go_ret
    exact ⟨rfl, co_shutW h1.swap⟩
  | r bs err =>
    obtain ⟨g, h⟩ := co_openR h
    obtain ⟨c0, c1, c2⟩ := cells3 h
    have H := Lib.hid (RNumA h.swap width)
    simp only [Cs.num, Cs.aft]
    clear h hs hn
    go_enter Try.func70, Try.ntmps70
    go_wp2_with (go_at_call 73; refine (H.out).mono ?_; rintro e w1 ⟨rfl, h1⟩)
    go_ret
    exact ⟨rfl, co_shutR h1.swap⟩

/-- what one needs of the Coder's own block -/
theorem co_blk (h : St S (CoA c s wr :: l) w0 w) : ∃ a b, w.cell? ⟨c, 2, none⟩ = some (.bool wr) ∧ w.frozen? ⟨c, 2, none⟩ = false ∧ (∀ [Stable (Sep l)] (u : Bool), St S (CoA c s u :: l) w0 (w.setCell ⟨c, 2, none⟩ (.bool u))) ∧ w.cell? ⟨c, 0, none⟩ = some a ∧ w.cell? ⟨c, 1, none⟩ = some b := by
  cases s with
  | w bs =>
    obtain ⟨g, h⟩ := co_openW h
    obtain ⟨c0, c1, c2⟩ := cells3 h
    exact ⟨_, _, c2, h.blk.frozen 2, (fun u => co_shutW (h.setBlk 2 (.bool u))), c0, c1⟩
  | r bs err =>
    obtain ⟨g, h⟩ := co_openR h
    obtain ⟨c0, c1, c2⟩ := cells3 h
    exact ⟨_, _, c2, h.blk.frozen 2, (fun u => co_shutR (h.setBlk 2 (.bool u))), c0, c1⟩

set_option maxHeartbeats 400000 in
theorem Expect_any [Stable (Sep l)] (h : St S (CoA c s wr :: l) w0 w) (b : Bool) :
    Calls Try.prog 59 #[.pointer (some ⟨c, 0, none⟩), .bool b] w fun e w' => e = .returned (.tuple #[]) ∧ St S (CoA c s (wr || !b) :: l) w0 w' := by
  obtain ⟨_, _, c2, f2, hset, -, -⟩ := co_blk h
  have H := Lib.hid hset
  clear h hset
  cases wr <;> cases b <;>
  · go_enter Try.func59, Try.ntmps59
    go_wp2
    go_end0
    exact ⟨rfl, H.out _⟩

/-! ### A field -/
/-- an int that stands at p -/
structure Holds (Q : Int → Ass) (n k : Nat) : Prop where
  cell : ∀ {S : Fp} {l : List Ass} {w0 w : World} {x : Int}, St S (Q x :: l) w0 w → w.cell? ⟨n, k, none⟩ = some (.int .i64 x) ∧ w.frozen? ⟨n, k, none⟩ = false
  set_ : ∀ {S : Fp} {l : List Ass} {w0 w : World} {x : Int}, Stable (Sep l) → St S (Q x :: l) w0 w → ∀ y : Int, St S (Q y :: l) w0 (w.setCell ⟨n, k, none⟩ (.int .i64 y))
theorem Holds.blk {n k : Nat} {t : TypeId} {cs : Int → Array Value} (h1 : ∀ x, (cs x)[k]? = some (.int .i64 x)) (h2 : ∀ x y, (cs x).setIfInBounds k (.int .i64 y) = cs y) : Holds (fun x => BlkA n t (cs x)) n k where
  cell := fun {S l w0 w x} h => ⟨by rw [h.blk.cell k, h1], h.blk.frozen k⟩
  set_ := fun {S l w0 w x} hl h y => by
    have := h.setBlk k (.int .i64 y)
    rwa [h2] at this

def fIn (x least : Int) : Nat := (IntKind.u64.wrap (wrap64 (x - least))).toNat
def fOut (v : Nat) (least : Int) : Int := wrap64 (least + wrap64 (v : Int))
def inR (least limit x : Int) : Bool := decide (least ≤ x) && decide (x < limit)
theorem fIn_lt (x least : Int) : fIn x least < 18446744073709551616 := by unfold fIn; rw [wrapU64]; omega
theorem fIn_eq (x least : Int) : IntKind.u64.wrap (wrap64 (x - least)) = (fIn x least : Int) := by unfold fIn; rw [wrapU64]; omega
/-- the value, behind the field -/
def Cs.val (s : Cs) (width least x : Int) : Int := fOut (s.num width (fIn x least)) least
def Cs.go (s : Cs) (width least x : Int) : Cs := s.aft width (fIn x least)

set_option maxHeartbeats 2000000 in
theorem cnum_any [Stable (Sep l)] {Q : Int → Ass} {n k : Nat} [hst : ∀ x, Stable (Q x)] (hQ : Holds Q n k) {x : Int} (h : St S (CoA c s wr :: Q x :: l) w0 w) (hs : s.fits) (width least limit : Int) :
    Calls Try.prog 65 #[.pointer (some ⟨c, 0, none⟩), .pointer (some ⟨n, k, none⟩), .int .i64 width, .int .i64 least, .int .i64 limit] w fun e w' => e = .returned (.tuple #[]) ∧ St S (CoA c (s.go width least x) (wr || !inR least limit (s.val width least x)) :: Q (s.val width least x) :: l) w0 w' := by
  obtain ⟨c0, -⟩ := hQ.cell h.swap
  have e1 := fIn_eq x least
  have H := Lib.hid (bits_any h hs width (fIn x least) (fIn_lt x least))
  unfold Cs.val Cs.go
  obtain ⟨m, hm⟩ : ∃ m, m = fIn x least := ⟨_, rfl⟩
  obtain ⟨v, hv⟩ : ∃ v, v = s.num width m := ⟨_, rfl⟩
  rw [← hm] at H e1 ⊢
  rw [← hv] at H ⊢
  obtain ⟨y, hy⟩ : ∃ y, fOut v least = y := ⟨_, rfl⟩
  have e2 : wrap64 (least + wrap64 (v : Int)) = y := hy
  rw [hy]
  obtain ⟨s', hs'⟩ : ∃ s', s' = s.aft width m := ⟨_, rfl⟩
  rw [← hs'] at H ⊢
  clear h hm hv hy hs' hs
  by_cases hl : least ≤ y
  · by_cases hu : y < limit
    · have hi : inR least limit y = true := by simp [inR, hl, hu]
      rw [hi]
      clear hi
      go_enter Try.func65, Try.ntmps65
      go_wp2_with (first | (go_at_call 70; refine (H.out).mono ?_; rintro e w1 ⟨rfl, h1⟩; obtain ⟨c1, f1⟩ := hQ.cell h1.swap; have h2 := Lib.hid (hQ.set_ inferInstance h1.swap y).swap; have c2 := (hQ.cell h2.out.swap).1; clear h1) | (go_at_call 59; refine (Expect_any h2.out true).mono ?_; rintro e w3 ⟨rfl, h3⟩))
      go_end0
      exact ⟨rfl, h3⟩
    · have hi : inR least limit y = false := by simp [inR, hu]
      rw [hi]
      have hd : decide (y < limit) = false := decide_eq_false hu
      clear hi
      go_enter Try.func65, Try.ntmps65
      go_wp2_with (first | (go_at_call 70; refine (H.out).mono ?_; rintro e w1 ⟨rfl, h1⟩; obtain ⟨c1, f1⟩ := hQ.cell h1.swap; have h2 := Lib.hid (hQ.set_ inferInstance h1.swap y).swap; have c2 := (hQ.cell h2.out.swap).1; clear h1) | (go_at_call 59; refine (Expect_any h2.out false).mono ?_; rintro e w3 ⟨rfl, h3⟩))
      go_end0
      exact ⟨rfl, h3⟩
  · have hi : inR least limit y = false := by simp [inR, hl]
    rw [hi]
    have hd : decide (least ≤ y) = false := decide_eq_false hl
    clear hi
    go_enter Try.func65, Try.ntmps65
    go_wp2_with (first | (go_at_call 70; refine (H.out).mono ?_; rintro e w1 ⟨rfl, h1⟩; obtain ⟨c1, f1⟩ := hQ.cell h1.swap; have h2 := Lib.hid (hQ.set_ inferInstance h1.swap y).swap; have c2 := (hQ.cell h2.out.swap).1; clear h1) | (go_at_call 59; refine (Expect_any h2.out false).mono ?_; rintro e w3 ⟨rfl, h3⟩))
    go_end0
    exact ⟨rfl, h3⟩
set_option maxHeartbeats 400000 in
theorem Below_any [Stable (Sep l)] {Q : Int → Ass} {n k : Nat} [hst : ∀ x, Stable (Q x)] (hQ : Holds Q n k) {x : Int} (h : St S (CoA c s wr :: Q x :: l) w0 w) (hs : s.fits) (width limit : Int) :
    Calls Try.prog 58 #[.pointer (some ⟨c, 0, none⟩), .pointer (some ⟨n, k, none⟩), .int .i64 width, .int .i64 limit] w fun e w' => e = .returned (.tuple #[]) ∧ St S (CoA c (s.go width 0 x) (wr || !inR 0 limit (s.val width 0 x)) :: Q (s.val width 0 x) :: l) w0 w' := by
  have H := Lib.hid (cnum_any hQ h hs width 0 limit)
  clear h
  go_enter Try.func58, Try.ntmps58
  go_wp2_with (go_at_call 65; refine (H.out).mono ?_; rintro e w1 ⟨rfl, h1⟩)
  go_end0
  exact ⟨rfl, h1⟩
set_option maxHeartbeats 400000 in
theorem Node_any [Stable (Sep l)] {Q : Int → Ass} {n k : Nat} [hst : ∀ x, Stable (Q x)] (hQ : Holds Q n k) {x : Int} (h : St S (CoA c s wr :: Q x :: l) w0 w) (hs : s.fits) :
    Calls Try.prog 69 #[.pointer (some ⟨c, 0, none⟩), .pointer (some ⟨n, k, none⟩)] w fun e w' => e = .returned (.tuple #[]) ∧ St S (CoA c (s.go 4 0 x) (wr || !inR 0 1024 (s.val 4 0 x)) :: Q (s.val 4 0 x) :: l) w0 w' := by
  have H := Lib.hid (Below_any hQ h hs 4 1024)
  clear h
  go_enter Try.func69, Try.ntmps69
  go_wp2_with (go_at_call 58; refine (H.out).mono ?_; rintro e w1 ⟨rfl, h1⟩)
  go_end0
  exact ⟨rfl, h1⟩
set_option maxHeartbeats 400000 in
theorem Token_any [Stable (Sep l)] {Q : Int → Ass} {n k : Nat} [hst : ∀ x, Stable (Q x)] (hQ : Holds Q n k) {x : Int} (h : St S (CoA c s wr :: Q x :: l) w0 w) (hs : s.fits) :
    Calls Try.prog 57 #[.pointer (some ⟨c, 0, none⟩), .pointer (some ⟨n, k, none⟩)] w fun e w' => e = .returned (.tuple #[]) ∧ St S (CoA c (s.go 2 0 x) (wr || !inR 0 200 (s.val 2 0 x)) :: Q (s.val 2 0 x) :: l) w0 w' := by
  have H := Lib.hid (Below_any hQ h hs 2 200)
  clear h
  go_enter Try.func57, Try.ntmps57
  go_wp2_with (go_at_call 58; refine (H.out).mono ?_; rintro e w1 ⟨rfl, h1⟩)
  go_end0
  exact ⟨rfl, h1⟩
set_option maxHeartbeats 400000 in
theorem Pointer_any [Stable (Sep l)] {Q : Int → Ass} {n k : Nat} [hst : ∀ x, Stable (Q x)] (hQ : Holds Q n k) {x : Int} (h : St S (CoA c s wr :: Q x :: l) w0 w) (hs : s.fits) (limit : Int) :
    Calls Try.prog 51 #[.pointer (some ⟨c, 0, none⟩), .pointer (some ⟨n, k, none⟩), .int .i64 limit] w fun e w' => e = .returned (.tuple #[]) ∧ St S (CoA c (s.go 4 (-1) x) (wr || !inR (-1) limit (s.val 4 (-1) x)) :: Q (s.val 4 (-1) x) :: l) w0 w' := by
  have H := Lib.hid (cnum_any hQ h hs 4 (-1) limit)
  clear h
  go_enter Try.func51, Try.ntmps51
  go_wp2_with (go_at_call 65; refine (H.out).mono ?_; rintro e w1 ⟨rfl, h1⟩)
  go_end0
  exact ⟨rfl, h1⟩

def uIn (x : Int) : Nat := (IntKind.u64.wrap x).toNat
theorem uIn_lt (x : Int) : uIn x < 18446744073709551616 := by unfold uIn; rw [wrapU64]; omega
theorem uIn_eq (x : Int) : IntKind.u64.wrap x = (uIn x : Int) := by unfold uIn; rw [wrapU64]; omega
set_option maxHeartbeats 400000 in
theorem Bits_any [Stable (Sep l)] {Q : Int → Ass} {n k : Nat} [hst : ∀ x, Stable (Q x)] (hQ : Holds Q n k) {x : Int} (h : St S (CoA c s wr :: Q x :: l) w0 w) (hs : s.fits) :
    Calls Try.prog 61 #[.pointer (some ⟨c, 0, none⟩), .pointer (some ⟨n, k, none⟩)] w fun e w' => e = .returned (.tuple #[]) ∧ St S (CoA c (s.aft 8 (uIn x)) wr :: Q (wrap64 (s.num 8 (uIn x) : Nat)) :: l) w0 w' := by
  obtain ⟨c0, -⟩ := hQ.cell h.swap
  have e1 := uIn_eq x
  have H := Lib.hid (bits_any h hs 8 (uIn x) (uIn_lt x))
  obtain ⟨m, hm⟩ : ∃ m, m = uIn x := ⟨_, rfl⟩
  obtain ⟨v, hv⟩ : ∃ v, v = s.num 8 m := ⟨_, rfl⟩
  rw [← hm] at H e1 ⊢
  rw [← hv] at H ⊢
  obtain ⟨y, hy⟩ : ∃ y, wrap64 (v : Int) = y := ⟨_, rfl⟩
  rw [hy]
  obtain ⟨s', hs'⟩ : ∃ s', s' = s.aft 8 m := ⟨_, rfl⟩
  rw [← hs'] at H ⊢
  clear h hm hv hs' hs
  go_enter Try.func61, Try.ntmps61
  go_wp2_with (go_at_call 70; refine (H.out).mono ?_; rintro e w1 ⟨rfl, h1⟩; obtain ⟨c1, f1⟩ := hQ.cell h1.swap)
  go_end0
  exact ⟨rfl, (hQ.set_ inferInstance h1.swap y).swap⟩

/-- what is wrong with the record as a whole -/
def Cs.endE (s : Cs) (wr : Bool) : Int := match s with
  | .w _ => if wr = true then 41 else 0
  | .r bs err => if endOf bs.length err = 0 then (if wr = true then 41 else 0) else 4
set_option maxHeartbeats 1000000 in
theorem end_any [Stable (Sep l)] (h : St S (CoA c s wr :: l) w0 w) :
    Calls Try.prog 63 #[.pointer (some ⟨c, 0, none⟩)] w fun e w' => e = .returned (.int .i64 (s.endE wr)) ∧ St S (CoA c s wr :: l) w0 w' := by
  cases s with
  | w bs =>
    have HS := Lib.hid h
    obtain ⟨g, h⟩ := co_openW h
    obtain ⟨c0, c1, c2⟩ := cells3 h
    clear h
    cases wr <;>
    · go_enter Try.func63, Try.ntmps63
      go_wp2
      go_ret
      exact ⟨rfl, HS.out⟩
  | r bs err =>
    have HS := Lib.hid h
    obtain ⟨g, h⟩ := co_openR h
    obtain ⟨c0, c1, c2⟩ := cells3 h
    have H := Lib.hid (EndA h.swap)
    simp only [Cs.endE]
    obtain ⟨z, hz⟩ : ∃ z, z = endOf bs.length err := ⟨_, rfl⟩
    rw [← hz] at H ⊢
    clear h hz
    by_cases h0 : z = 0
    · subst h0
      cases wr <;>
      · go_enter Try.func63, Try.ntmps63
        go_wp2_with (go_at_call 71; refine (H.out).mono ?_; rintro e w1 ⟨rfl, n, hw⟩; have HS1 := Lib.hid (HS.out.drewN n); rw [← hw] at HS1; have d0 : w1.cell? ⟨c, 2, none⟩ = w.cell? ⟨c, 2, none⟩ := (by rw [hw]; rfl); rw [c2] at d0; clear hw)
        go_ret
        exact ⟨rfl, HS1.out⟩
    · have hb : (z != 0) = true := by simpa using h0
      rw [if_neg h0]
      clear h0
      go_enter Try.func63, Try.ntmps63
      go_wp2_with (go_at_call 71; refine (H.out).mono ?_; rintro e w1 ⟨rfl, n, hw⟩; have HS1 := Lib.hid (HS.out.drewN n); rw [← hw] at HS1; clear hw)
      go_ret
      exact ⟨rfl, HS1.out⟩
end
end Go.Proofs.Ytpoaokkmmoeekaa

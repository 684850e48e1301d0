/- A property's record: its fields. -/
import Derived.Test.YtpoaokkmmoeekaaRcNode
import Derived.Deep.Cut
namespace Go.Proofs.Ytpoaokkmmoeekaa
open Go.RowKit
set_option linter.unusedVariables false

structure PropC where
  ky : Int
  kd : Int
  nu : Int
  bl : Int
  pv : Int
  nx : Int
def propQ1 (q : Cs × Bool) (x : PropC) : Cs × Bool := fld q 2 0 200 x.ky
def propQ2 (q : Cs × Bool) (x : PropC) : Cs × Bool := fld (propQ1 q x) 1 0 9 x.kd
/-- the kind, behind its field -/
def propK (q : Cs × Bool) (x : PropC) : Int := fval (propQ1 q x) 1 0 x.kd
def propQ3 (q : Cs × Bool) (x : PropC) : Cs × Bool := ((propQ2 q x).1, (propQ2 q x).2 || !decide (1 ≤ propK q x))
def blobQ1 (q : Cs × Bool) : Cs × Bool := fld q 4 0 1 0
def blobV (q : Cs × Bool) (bl : Int) : Int := fval (blobQ1 q) 4 (-1) bl
def blobQ (q : Cs × Bool) (nu bl : Int) : Cs × Bool := ((fld (blobQ1 q) 4 (-1) 65536 bl).1, (fld (blobQ1 q) 4 (-1) 65536 bl).2 || !(decide (blobV q bl ≠ -1) && decide (nu = 0)))
def bitsQ (q : Cs × Bool) (nu bl : Int) : Cs × Bool := (q.1.aft 8 (uIn nu), q.2 || !decide (bl = -1))
def bitsV (q : Cs × Bool) (nu : Int) : Int := wrap64 (q.1.num 8 (uIn nu) : Nat)
def propQ4 (q : Cs × Bool) (x : PropC) : Cs × Bool := if 4 ≤ propK q x then blobQ (propQ3 q x) x.nu x.bl else bitsQ (propQ3 q x) x.nu x.bl
def propN (q : Cs × Bool) (x : PropC) : Int := if 4 ≤ propK q x then x.nu else bitsV (propQ3 q x) x.nu
def propB (q : Cs × Bool) (x : PropC) : Int := if 4 ≤ propK q x then blobV (propQ3 q x) x.bl else x.bl
def propQ5 (q : Cs × Bool) (x : PropC) : Cs × Bool := fld (propQ4 q x) 4 (-1) 65536 x.pv
def propQ (q : Cs × Bool) (x : PropC) : Cs × Bool := fld (propQ5 q x) 4 (-1) 65536 x.nx
def propV (q : Cs × Bool) (x : PropC) : PropC := ⟨fval q 2 0 x.ky, propK q x, propN q x, propB q x, fval (propQ4 q x) 4 (-1) x.pv, fval (propQ5 q x) 4 (-1) x.nx⟩

theorem propQ3_len (q : Cs × Bool) (x : PropC) : (propQ3 q x).1.len ≤ q.1.len + 16 := by
  have h1 := fld_len q 2 0 200 x.ky
  have h2 := fld_len (propQ1 q x) 1 0 9 x.kd
  unfold propQ3 propQ2
  unfold propQ1 at h2 ⊢
  simp only
  omega
theorem blobQ1_len (q : Cs × Bool) : (blobQ1 q).1.len ≤ q.1.len + 8 := fld_len q 4 0 1 0
theorem blobQ_len (q : Cs × Bool) (nu bl : Int) : (blobQ q nu bl).1.len ≤ q.1.len + 16 := by
  have h1 := blobQ1_len q
  have h2 := fld_len (blobQ1 q) 4 (-1) 65536 bl
  unfold blobQ
  simp only
  omega
theorem propQ4_len (q : Cs × Bool) (x : PropC) : (propQ4 q x).1.len ≤ q.1.len + 32 := by
  have h1 := propQ3_len q x
  unfold propQ4
  split
  · have := blobQ_len (propQ3 q x) x.nu x.bl; omega
  · have := aft_len (propQ3 q x).1 8 (uIn x.nu); unfold bitsQ; simp only; omega
theorem propQ5_len (q : Cs × Bool) (x : PropC) : (propQ5 q x).1.len ≤ q.1.len + 40 := by
  have h1 := propQ4_len q x
  have h2 := fld_len (propQ4 q x) 4 (-1) 65536 x.pv
  unfold propQ5
  omega
theorem propQ_len (q : Cs × Bool) (x : PropC) : (propQ q x).1.len ≤ q.1.len + 80 := by
  have h1 := propQ5_len q x
  have h2 := fld_len (propQ5 q x) 4 (-1) 65536 x.nx
  unfold propQ
  omega
theorem propQ3_isw (q : Cs × Bool) (x : PropC) : (propQ3 q x).1.isw = q.1.isw := by unfold propQ3 propQ2 propQ1; simp only [fld_isw]
theorem propQ4_isw (q : Cs × Bool) (x : PropC) : (propQ4 q x).1.isw = q.1.isw := by
  unfold propQ4
  split
  · unfold blobQ blobQ1; simp only [fld_isw, propQ3_isw]
  · unfold bitsQ; simp only [aft_isw, propQ3_isw]
theorem propQ_isw (q : Cs × Bool) (x : PropC) : (propQ q x).1.isw = q.1.isw := by unfold propQ propQ5; rw [fld_isw, fld_isw, propQ4_isw]

theorem cells6 {S : Fp} {l : List Ass} {w0 w : World} {g : Nat} {t : TypeId} {a b d e f i : Value} (h : St S (BlkA g t #[a, b, d, e, f, i] :: l) w0 w) : w.cell? ⟨g, 0, none⟩ = some a ∧ w.cell? ⟨g, 1, none⟩ = some b ∧ w.cell? ⟨g, 2, none⟩ = some d ∧ w.cell? ⟨g, 3, none⟩ = some e ∧ w.cell? ⟨g, 4, none⟩ = some f ∧ w.cell? ⟨g, 5, none⟩ = some i := by
  have hb := h.blk
  exact ⟨by rw [hb.cell 0]; rfl, by rw [hb.cell 1]; rfl, by rw [hb.cell 2]; rfl, by rw [hb.cell 3]; rfl, by rw [hb.cell 4]; rfl, by rw [hb.cell 5]; rfl⟩

section
variable {l : List Ass} {w0 w w' : World} {c : Nat} {q : Cs × Bool}
set_option maxHeartbeats 4000000 in
theorem blob_any [Stable (Sep l)] {n : Nat} {ky kd nu bl pv nx : Int} (h : St Zf (CoA c q.1 q.2 :: BlkA n 87 #[.int .i64 ky, .int .i64 kd, .int .i64 nu, .int .i64 bl, .int .i64 pv, .int .i64 nx] :: l) w0 w) (hs : q.1.len ≤ 9500) :
    Calls Try.prog 60 #[.pointer (some ⟨n, 0, none⟩), .pointer (some ⟨c, 0, none⟩)] w fun e w' => e = .returned (.tuple #[]) ∧ St Zf (CoA c (blobQ q nu bl).1 (blobQ q nu bl).2 :: BlkA n 87 #[.int .i64 ky, .int .i64 kd, .int .i64 nu, .int .i64 (blobV q bl), .int .i64 pv, .int .i64 nx] :: l) w0 w' := by
  have h1 := (h.newBlk 3 #[.int .i64 0]).swap
  have l1 := blobQ1_len q
  have H1 := Lib.hid (Below_any (Holds.blk (n := w.heap.size) (k := 0) (t := 3) (cs := fun z => #[.int .i64 z]) (fun z => rfl) (fun y z => rfl)) h1 (fits_of (by omega)) 4 1)
  have H2 : Hid (∀ (w1 : World) (l' : List Ass) (hl : Stable (Sep l')) (h1 : St Zf (CoA c (blobQ1 q).1 (blobQ1 q).2 :: BlkA n 87 #[.int .i64 ky, .int .i64 kd, .int .i64 nu, .int .i64 bl, .int .i64 pv, .int .i64 nx] :: l') w0 w1), Calls Try.prog 51 #[.pointer (some ⟨c, 0, none⟩), .pointer (some ⟨n, 3, none⟩), .int .i64 65536] w1 fun e w' => e = .returned (.tuple #[]) ∧ St Zf (CoA c (fld (blobQ1 q) 4 (-1) 65536 bl).1 (fld (blobQ1 q) 4 (-1) 65536 bl).2 :: BlkA n 87 #[.int .i64 ky, .int .i64 kd, .int .i64 nu, .int .i64 (blobV q bl), .int .i64 pv, .int .i64 nx] :: l') w0 w') :=
    Lib.hid (fun w1 l' hl h1 => Pointer_any (Holds.blk (n := n) (k := 3) (t := 87) (cs := fun z => #[.int .i64 ky, .int .i64 kd, .int .i64 nu, .int .i64 z, .int .i64 pv, .int .i64 nx]) (fun z => rfl) (fun y z => rfl)) h1 (fits_of (by omega)) 65536)
  have H3 := Lib.hid (fun (w1 : World) (l' : List Ass) (hl : Stable (Sep l')) (b : Bool) (h1 : St Zf (CoA c (fld (blobQ1 q) 4 (-1) 65536 bl).1 (fld (blobQ1 q) 4 (-1) 65536 bl).2 :: l') w0 w1) => Expect_any h1 b)
  unfold blobQ
  obtain ⟨v, hv2⟩ : ∃ v, v = blobV q bl := ⟨_, rfl⟩
  rw [← hv2] at H2
  rw [← hv2]
  clear h h1 hs l1 hv2
  by_cases hb : v = -1
  · subst hb
    have e1 : (decide ((-1 : Int) ≠ -1) && decide (nu = 0)) = false := by simp
    rw [e1]
    clear e1
    go_enter Try.func60, Try.ntmps60
    go_upto_region 2 with (go_at_call 58; refine (H1.out).mono ?_; rintro e w1 ⟨rfl, h1⟩)
    have h1' := h1.bring2.swap
    have h2' := H2.out _ _ inferInstance h1'
    clear h1
    go_upto_region 3 with (go_at_call 51; refine (h2').mono ?_; rintro e w2 ⟨rfl, h2⟩)
    obtain ⟨v0, v1, v2, v3, -, -⟩ := cells6 h2.swap
    have h3' := H3.out _ _ inferInstance false h2
    clear h1' h2'
    go_wp2_with (go_at_call 59; refine (h3').mono ?_; rintro e w3 ⟨rfl, h3⟩)
    go_end0
    exact ⟨rfl, h3.bring2.drop⟩
  · have hb1 : (v != -1) = true := by simpa using hb
    by_cases hn : nu = 0
    · subst hn
      have e1 : (decide (v ≠ -1) && decide ((0 : Int) = 0)) = true := by simp [hb]
      rw [e1]
      clear e1 hb
      go_enter Try.func60, Try.ntmps60
      go_upto_region 2 with (go_at_call 58; refine (H1.out).mono ?_; rintro e w1 ⟨rfl, h1⟩)
      have h1' := h1.bring2.swap
      have h2' := H2.out _ _ inferInstance h1'
      clear h1
      go_upto_region 3 with (go_at_call 51; refine (h2').mono ?_; rintro e w2 ⟨rfl, h2⟩)
      obtain ⟨v0, v1, v2, v3, -, -⟩ := cells6 h2.swap
      have h3' := H3.out _ _ inferInstance true h2
      clear h1' h2'
      go_wp2_with (go_at_call 59; refine (h3').mono ?_; rintro e w3 ⟨rfl, h3⟩)
      go_end0
      exact ⟨rfl, h3.bring2.drop⟩
    · have hn1 : (nu == 0) = false := by simpa using hn
      have e1 : (decide (v ≠ -1) && decide (nu = 0)) = false := by simp [hn]
      rw [e1]
      clear e1 hb hn
      go_enter Try.func60, Try.ntmps60
      go_upto_region 2 with (go_at_call 58; refine (H1.out).mono ?_; rintro e w1 ⟨rfl, h1⟩)
      have h1' := h1.bring2.swap
      have h2' := H2.out _ _ inferInstance h1'
      clear h1
      go_upto_region 3 with (go_at_call 51; refine (h2').mono ?_; rintro e w2 ⟨rfl, h2⟩)
      obtain ⟨v0, v1, v2, v3, -, -⟩ := cells6 h2.swap
      have h3' := H3.out _ _ inferInstance false h2
      clear h1' h2'
      go_wp2_with (go_at_call 59; refine (h3').mono ?_; rintro e w3 ⟨rfl, h3⟩)
      go_end0
      exact ⟨rfl, h3.bring2.drop⟩

set_option maxHeartbeats 4000000 in
theorem propFields_any [Stable (Sep l)] {n : Nat} {x : PropC} (h : St Zf (CoA c q.1 q.2 :: BlkA n 87 #[.int .i64 x.ky, .int .i64 x.kd, .int .i64 x.nu, .int .i64 x.bl, .int .i64 x.pv, .int .i64 x.nx] :: l) w0 w) (hs : q.1.len ≤ 9000) :
    Calls Try.prog 44 #[.pointer (some ⟨n, 0, none⟩), .pointer (some ⟨c, 0, none⟩)] w fun e w' => e = .returned (.tuple #[]) ∧ St Zf (CoA c (propQ q x).1 (propQ q x).2 :: BlkA n 87 #[.int .i64 (propV q x).ky, .int .i64 (propV q x).kd, .int .i64 (propV q x).nu, .int .i64 (propV q x).bl, .int .i64 (propV q x).pv, .int .i64 (propV q x).nx] :: l) w0 w' := by
  have l1 : (propQ1 q x).1.len ≤ q.1.len + 8 := fld_len q 2 0 200 x.ky
  have l3 := propQ3_len q x
  have l4 := propQ4_len q x
  have l5 := propQ5_len q x
  obtain ⟨k, hk⟩ : ∃ k, k = propK q x := ⟨_, rfl⟩
  have H1 : Hid (∀ (w1 : World) (h1 : St Zf (CoA c q.1 q.2 :: BlkA n 87 #[.int .i64 x.ky, .int .i64 x.kd, .int .i64 x.nu, .int .i64 x.bl, .int .i64 x.pv, .int .i64 x.nx] :: l) w0 w1), Calls Try.prog 57 #[.pointer (some ⟨c, 0, none⟩), .pointer (some ⟨n, 0, none⟩)] w1 fun e w' => e = .returned (.tuple #[]) ∧ St Zf (CoA c (propQ1 q x).1 (propQ1 q x).2 :: BlkA n 87 #[.int .i64 (fval q 2 0 x.ky), .int .i64 x.kd, .int .i64 x.nu, .int .i64 x.bl, .int .i64 x.pv, .int .i64 x.nx] :: l) w0 w') :=
    Lib.hid (fun w1 h1 => Token_any (Holds.blk (n := n) (k := 0) (t := 87) (cs := fun z => #[.int .i64 z, .int .i64 x.kd, .int .i64 x.nu, .int .i64 x.bl, .int .i64 x.pv, .int .i64 x.nx]) (fun z => rfl) (fun y z => rfl)) h1 (fits_of (by omega)))
  have H2 : Hid (∀ (w1 : World) (h1 : St Zf (CoA c (propQ1 q x).1 (propQ1 q x).2 :: BlkA n 87 #[.int .i64 (fval q 2 0 x.ky), .int .i64 x.kd, .int .i64 x.nu, .int .i64 x.bl, .int .i64 x.pv, .int .i64 x.nx] :: l) w0 w1), Calls Try.prog 58 #[.pointer (some ⟨c, 0, none⟩), .pointer (some ⟨n, 1, none⟩), .int .i64 1, .int .i64 9] w1 fun e w' => e = .returned (.tuple #[]) ∧ St Zf (CoA c (propQ2 q x).1 (propQ2 q x).2 :: BlkA n 87 #[.int .i64 (fval q 2 0 x.ky), .int .i64 k, .int .i64 x.nu, .int .i64 x.bl, .int .i64 x.pv, .int .i64 x.nx] :: l) w0 w') :=
    Lib.hid (fun w1 h1 => by rw [hk]; exact Below_any (Holds.blk (n := n) (k := 1) (t := 87) (cs := fun z => #[.int .i64 (fval q 2 0 x.ky), .int .i64 z, .int .i64 x.nu, .int .i64 x.bl, .int .i64 x.pv, .int .i64 x.nx]) (fun z => rfl) (fun y z => rfl)) h1 (fits_of (by omega)) 1 9)
  have H3 : Hid (∀ (w1 : World) (h1 : St Zf (CoA c (propQ2 q x).1 (propQ2 q x).2 :: BlkA n 87 #[.int .i64 (fval q 2 0 x.ky), .int .i64 k, .int .i64 x.nu, .int .i64 x.bl, .int .i64 x.pv, .int .i64 x.nx] :: l) w0 w1), Calls Try.prog 59 #[.pointer (some ⟨c, 0, none⟩), .bool (decide (1 ≤ k))] w1 fun e w' => e = .returned (.tuple #[]) ∧ St Zf (CoA c (propQ3 q x).1 (propQ3 q x).2 :: BlkA n 87 #[.int .i64 (fval q 2 0 x.ky), .int .i64 k, .int .i64 x.nu, .int .i64 x.bl, .int .i64 x.pv, .int .i64 x.nx] :: l) w0 w') :=
    Lib.hid (fun w1 h1 => by unfold propQ3; rw [← hk]; exact Expect_any h1 (decide (1 ≤ k)))
  have H4 : Hid (∀ (w1 : World) (h1 : St Zf (CoA c (propQ3 q x).1 (propQ3 q x).2 :: BlkA n 87 #[.int .i64 (fval q 2 0 x.ky), .int .i64 k, .int .i64 x.nu, .int .i64 x.bl, .int .i64 x.pv, .int .i64 x.nx] :: l) w0 w1), Calls Try.prog 60 #[.pointer (some ⟨n, 0, none⟩), .pointer (some ⟨c, 0, none⟩)] w1 fun e w' => e = .returned (.tuple #[]) ∧ St Zf (CoA c (blobQ (propQ3 q x) x.nu x.bl).1 (blobQ (propQ3 q x) x.nu x.bl).2 :: BlkA n 87 #[.int .i64 (fval q 2 0 x.ky), .int .i64 k, .int .i64 x.nu, .int .i64 (blobV (propQ3 q x) x.bl), .int .i64 x.pv, .int .i64 x.nx] :: l) w0 w') :=
    Lib.hid (fun w1 h1 => blob_any h1 (by omega))
  have H5 : Hid (∀ (w1 : World) (h1 : St Zf (CoA c (propQ3 q x).1 (propQ3 q x).2 :: BlkA n 87 #[.int .i64 (fval q 2 0 x.ky), .int .i64 k, .int .i64 x.nu, .int .i64 x.bl, .int .i64 x.pv, .int .i64 x.nx] :: l) w0 w1), Calls Try.prog 61 #[.pointer (some ⟨c, 0, none⟩), .pointer (some ⟨n, 2, none⟩)] w1 fun e w' => e = .returned (.tuple #[]) ∧ St Zf (CoA c ((propQ3 q x).1.aft 8 (uIn x.nu)) (propQ3 q x).2 :: BlkA n 87 #[.int .i64 (fval q 2 0 x.ky), .int .i64 k, .int .i64 (bitsV (propQ3 q x) x.nu), .int .i64 x.bl, .int .i64 x.pv, .int .i64 x.nx] :: l) w0 w') :=
    Lib.hid (fun w1 h1 => Bits_any (Holds.blk (n := n) (k := 2) (t := 87) (cs := fun z => #[.int .i64 (fval q 2 0 x.ky), .int .i64 k, .int .i64 z, .int .i64 x.bl, .int .i64 x.pv, .int .i64 x.nx]) (fun z => rfl) (fun y z => rfl)) h1 (fits_of (by omega)))
  have H6 : Hid (∀ (w1 : World) (h1 : St Zf (CoA c ((propQ3 q x).1.aft 8 (uIn x.nu)) (propQ3 q x).2 :: BlkA n 87 #[.int .i64 (fval q 2 0 x.ky), .int .i64 k, .int .i64 (bitsV (propQ3 q x) x.nu), .int .i64 x.bl, .int .i64 x.pv, .int .i64 x.nx] :: l) w0 w1), Calls Try.prog 59 #[.pointer (some ⟨c, 0, none⟩), .bool (x.bl == -1)] w1 fun e w' => e = .returned (.tuple #[]) ∧ St Zf (CoA c (bitsQ (propQ3 q x) x.nu x.bl).1 (bitsQ (propQ3 q x) x.nu x.bl).2 :: BlkA n 87 #[.int .i64 (fval q 2 0 x.ky), .int .i64 k, .int .i64 (bitsV (propQ3 q x) x.nu), .int .i64 x.bl, .int .i64 x.pv, .int .i64 x.nx] :: l) w0 w') :=
    Lib.hid (fun w1 h1 => Expect_any h1 (x.bl == -1))
  have H7 : Hid (∀ (nu bl : Int) (w1 : World) (h1 : St Zf (CoA c (propQ4 q x).1 (propQ4 q x).2 :: BlkA n 87 #[.int .i64 (fval q 2 0 x.ky), .int .i64 k, .int .i64 nu, .int .i64 bl, .int .i64 x.pv, .int .i64 x.nx] :: l) w0 w1), Calls Try.prog 51 #[.pointer (some ⟨c, 0, none⟩), .pointer (some ⟨n, 4, none⟩), .int .i64 65536] w1 fun e w' => e = .returned (.tuple #[]) ∧ St Zf (CoA c (propQ5 q x).1 (propQ5 q x).2 :: BlkA n 87 #[.int .i64 (fval q 2 0 x.ky), .int .i64 k, .int .i64 nu, .int .i64 bl, .int .i64 (fval (propQ4 q x) 4 (-1) x.pv), .int .i64 x.nx] :: l) w0 w') :=
    Lib.hid (fun nu bl w1 h1 => Pointer_any (Holds.blk (n := n) (k := 4) (t := 87) (cs := fun z => #[.int .i64 (fval q 2 0 x.ky), .int .i64 k, .int .i64 nu, .int .i64 bl, .int .i64 z, .int .i64 x.nx]) (fun z => rfl) (fun y z => rfl)) h1 (fits_of (by omega)) 65536)
  have H8 : Hid (∀ (nu bl : Int) (w1 : World) (h1 : St Zf (CoA c (propQ5 q x).1 (propQ5 q x).2 :: BlkA n 87 #[.int .i64 (fval q 2 0 x.ky), .int .i64 k, .int .i64 nu, .int .i64 bl, .int .i64 (fval (propQ4 q x) 4 (-1) x.pv), .int .i64 x.nx] :: l) w0 w1), Calls Try.prog 51 #[.pointer (some ⟨c, 0, none⟩), .pointer (some ⟨n, 5, none⟩), .int .i64 65536] w1 fun e w' => e = .returned (.tuple #[]) ∧ St Zf (CoA c (propQ q x).1 (propQ q x).2 :: BlkA n 87 #[.int .i64 (fval q 2 0 x.ky), .int .i64 k, .int .i64 nu, .int .i64 bl, .int .i64 (fval (propQ4 q x) 4 (-1) x.pv), .int .i64 (fval (propQ5 q x) 4 (-1) x.nx)] :: l) w0 w') :=
    Lib.hid (fun nu bl w1 h1 => Pointer_any (Holds.blk (n := n) (k := 5) (t := 87) (cs := fun z => #[.int .i64 (fval q 2 0 x.ky), .int .i64 k, .int .i64 nu, .int .i64 bl, .int .i64 (fval (propQ4 q x) 4 (-1) x.pv), .int .i64 z]) (fun z => rfl) (fun y z => rfl)) h1 (fits_of (by omega)) 65536)
  have h := h
  clear hs l1 l3 l4 l5
  by_cases h4 : 4 ≤ k
  · have Q4 : Hid (propQ4 q x = blobQ (propQ3 q x) x.nu x.bl) := Lib.hid (by unfold propQ4; rw [← hk, if_pos h4])
    have HV : Hid ((propV q x) = ⟨fval q 2 0 x.ky, k, x.nu, blobV (propQ3 q x) x.bl, fval (propQ4 q x) 4 (-1) x.pv, fval (propQ5 q x) 4 (-1) x.nx⟩) := Lib.hid (by unfold propV propN propB; rw [← hk, if_pos h4, if_pos h4])
    rw [HV.out]
    clear hk HV
    go_enter Try.func44, Try.ntmps44
    go_upto_region 1 with (go_at_call 57; refine (H1.out _ h).mono ?_; rintro e w1 ⟨rfl, h1⟩)
    go_upto_region 2 with (go_at_call 58; refine (H2.out _ h1).mono ?_; rintro e w2 ⟨rfl, h2⟩)
    obtain ⟨-, d1, -, -, -, -⟩ := cells6 h2.swap
    go_upto_region 3 with (go_at_call 59; refine (H3.out _ h2).mono ?_; rintro e w3 ⟨rfl, h3⟩)
    obtain ⟨-, e1, -, -, -, -⟩ := cells6 h3.swap
    clear h1 h2 d1
    go_upto_region 7 with (go_at_call 60; refine (H4.out _ h3).mono ?_; rintro e w4 ⟨rfl, h5⟩)
    rw [← Q4.out] at h5
    go_upto_region 8 with (go_at_call 51; refine (H7.out _ _ _ h5).mono ?_; rintro e w7 ⟨rfl, h7⟩)
    go_wp2_with (go_at_call 51; refine (H8.out _ _ _ h7).mono ?_; rintro e w8 ⟨rfl, h8⟩)
    go_end0
    exact ⟨rfl, h8⟩
  · have Q4 : Hid (propQ4 q x = bitsQ (propQ3 q x) x.nu x.bl) := Lib.hid (by unfold propQ4; rw [← hk, if_neg h4])
    have HV : Hid ((propV q x) = ⟨fval q 2 0 x.ky, k, bitsV (propQ3 q x) x.nu, x.bl, fval (propQ4 q x) 4 (-1) x.pv, fval (propQ5 q x) 4 (-1) x.nx⟩) := Lib.hid (by unfold propV propN propB; rw [← hk, if_neg h4, if_neg h4])
    rw [HV.out]
    clear hk HV
    go_enter Try.func44, Try.ntmps44
    go_upto_region 1 with (go_at_call 57; refine (H1.out _ h).mono ?_; rintro e w1 ⟨rfl, h1⟩)
    go_upto_region 2 with (go_at_call 58; refine (H2.out _ h1).mono ?_; rintro e w2 ⟨rfl, h2⟩)
    obtain ⟨-, d1, -, -, -, -⟩ := cells6 h2.swap
    go_upto_region 3 with (go_at_call 59; refine (H3.out _ h2).mono ?_; rintro e w3 ⟨rfl, h3⟩)
    obtain ⟨-, e1, -, -, -, -⟩ := cells6 h3.swap
    clear h1 h2 d1
    go_upto_region 6 with (go_at_call 61; refine (H5.out _ h3).mono ?_; rintro e w4 ⟨rfl, h5⟩)
    obtain ⟨-, -, -, d3, -, -⟩ := cells6 h5.swap
    go_upto_region 7 with (go_at_call 59; refine (H6.out _ h5).mono ?_; rintro e w6 ⟨rfl, h6⟩)
    rw [← Q4.out] at h6
    clear h5 d3
    go_upto_region 8 with (go_at_call 51; refine (H7.out _ _ _ h6).mono ?_; rintro e w7 ⟨rfl, h7⟩)
    go_wp2_with (go_at_call 51; refine (H8.out _ _ _ h7).mono ?_; rintro e w8 ⟨rfl, h8⟩)
    go_end0
    exact ⟨rfl, h8⟩
end
end Go.Proofs.Ytpoaokkmmoeekaa

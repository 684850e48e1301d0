/- For all scripts (of at most 1048576 values): a Writer holds exactly what was put into it, call by call, whatever becomes of the lists that were handed in. -/
import Derived.Test.YtehhffbnmgdpeaaOpen
import Derived.Test.YtehhffbnmgdpeaaRows
import Derived.Test.YtehhffbnmgdpeaaBulk
import Derived.Deep.CondSized
import Derived.Test.YtehhffbnmgdpeaaRefSet
import Derived.Test.YtehhffbnmgdpeaaStr
import Derived.Test.YtehhffbnmgdpeaaOps
import Derived.Deep.RegionHeld3
import Derived.Deep.Cut
namespace Go.Proofs.Ytehhffbnmgdpeaa.wireWrites
open Go.ChangeShapes Go.WideShapes Go.ChangeAt Go.RowKit
open Go.ChangeMaps (open_string shut_string)
set_option linter.unusedVariables false

theorem putNum_len (width : Int) (n : Nat) : (putNum width n).length ≤ 8 := by
  unfold putNum
  split
  · rename_i h
    have hw : width = 1 ∨ width = 2 ∨ width = 4 ∨ width = 8 := of_decide_eq_true h
    rw [enc_length]; omega
  · simp
theorem put2 : putNum 2 258 = [1, 2] := by
  rw [putNum_yes (by decide)]; decide
/-- what the Writer and the law's own list have in common -/
def Both (w : World) (base g : Nat) (v h : Value) (P : List Nat) : Prop := Wr w base g v P ∧ OB w base 5 h P ∧ ∀ k, h.ownBlock = some k → ¬ wfp g v k
theorem Both.below {w w' : World} {base g : Nat} {v h : Value} {P : List Nat} (x : Both w base g v h P) (hb : Below w.heap.size w w') : Both w' base g v h P :=
  ⟨x.1.below hb, x.2.1.below' hb, x.2.2⟩
/-- the Writer has been told something, and then the list has been -/
theorem Both.wrote {w w1 w2 w3 : World} {base g : Nat} {v v1 h h' : Value} {P X : List Nat} (x : Both w base g v h P) (hw : Wr w1 base g v1 (P ++ X)) (ho : Only (wfp g v) w w1) (hn : ∀ k, wfp g v1 k → wfp g v k ∨ w.heap.size ≤ k)
    (hb : Below w1.heap.size w1 w2) (h3 : OB w3 base 5 h' (P ++ X)) (hg : w2.grownBy w3 h.ownBlock) (ht : h'.ownBlock = h.ownBlock ∨ h'.ownBlock = some w2.heap.size) : Both w3 base g v1 h' (P ++ X) := by
  have h1 := hb.size
  have hne : ∀ k, h.ownBlock = some k → ¬ wfp g v1 k := fun k hk hf => by
    rcases hn k hf with hf | hf
    · exact x.2.2 k hk hf
    · have := (x.2.1.2.lt k hk).2; omega
  have hw2 := hw.below hb
  refine ⟨hw2.only (Only.of_grown hg) fun k hk e => hne k e hk, h3, fun k hk hf => ?_⟩
  rcases ht with e | e
  · exact hne k (e ▸ hk) hf
  · rw [e] at hk
    injection hk with hk
    have := (hw.lt k hf).2
    omega
/-- likewise, where the list is told later -/
theorem Both.wrote2 {w2 w3 : World} {base g : Nat} {v1 h h' : Value} {X : List Nat} (hw : Wr w2 base g v1 X) (hne : ∀ k, h.ownBlock = some k → ¬ wfp g v1 k)
    (h3 : OB w3 base 5 h' X) (hg : w2.grownBy w3 h.ownBlock) (ht : h'.ownBlock = h.ownBlock ∨ h'.ownBlock = some w2.heap.size) : Both w3 base g v1 h' X := by
  refine ⟨hw.only (Only.of_grown hg) fun k hk e => hne k e hk, h3, fun k hk hf => ?_⟩
  rcases ht with e | e
  · exact hne k (e ▸ hk) hf
  · rw [e] at hk
    injection hk with hk
    have := (hw.lt k hf).2
    omega
theorem Both.told {w w1 : World} {base g : Nat} {v h : Value} {P : List Nat} (x : Both w base g v h P) (ho : Only (wfp g v) w w1) : OB w1 base 5 h P :=
  x.2.1.only ho x.2.2
/-- the other Writer, that holds nothing -/
def Oth (w : World) (base g g' : Nat) : Prop := Wr w base g' (.slice none 0 0) [] ∧ g' ≠ g
theorem Oth.wfp {w : World} {base g g' : Nat} {v h : Value} {P : List Nat} (x : Oth w base g g') (b : Both w base g v h P) : ¬ wfp g v g' := by
  rintro (e | e)
  · exact x.2 e
  · exact own_blk_ne b.1.2.2.2 x.1.1 (by decide) e
theorem Oth.only {S : Nat → Prop} {w w' : World} {base g g' : Nat} (x : Oth w base g g') (ho : Only S w w') (hn : ¬ S g') : Oth w' base g g' :=
  ⟨x.1.only ho (by rintro k (rfl | hk); exact hn; cases hk), x.2⟩
theorem Oth.below {w w' : World} {base g g' : Nat} (x : Oth w base g g') (hb : Below w.heap.size w w') : Oth w' base g g' := ⟨x.1.below hb, x.2⟩
theorem Oth.grown {w w' : World} {base g g' : Nat} {h : Value} {P : List Nat} (x : Oth w base g g') (b : OB w base 5 h P) (hg : w.grownBy w' h.ownBlock) : Oth w' base g g' :=
  x.only (Only.of_grown hg) fun e => own_blk_ne b.2 x.1.1 (by decide) e

set_option maxRecDepth 100000 in
set_option maxHeartbeats 1000000 in
theorem walk (w : World) {A : Option Addr} {n c : Nat} (hx : ∃ L : List Opv, L.length = n ∧ Ops w w.heap.size A L ∧ n ≤ 140737488351232 ∧ opsBulk L + 1 ≤ 1048576) :
    Calls Try.prog 5 #[.slice A n c] w fun e w' => e = .returned (.bool true) ∧ Below w.heap.size w w' := by
  obtain ⟨i0, hi, hz0, hz1, hz2⟩ := info_parts u8_info
  obtain ⟨L, hL, ho, hn, hu⟩ := hx
  go_enter Try.func5, Try.ntmps5
  go_wp2_with fail
  refine (speaks_any w).mono ?_
  rintro e w1 ⟨rfl, hb1⟩
  go_wp2_with fail
  refine (NewWriter_any w1).mono ?_
  rintro e w2 ⟨rfl, hw2⟩
  have W2 : Wr w2 w.heap.size w1.heap.size (.slice none 0 0) [] := by
    subst hw2
    exact ⟨Blk.new _ _ _, hb1.size, OB.nil _ _ _⟩
  have hb2 : Below w.heap.size w w2 := by subst hw2; exact hb1.alloc hb1.size _
  have hs2 : w1.heap.size < w2.heap.size := by subst hw2; simp
  clear hw2
  go_wp2_with fail
  refine (NewWriter_any w2).mono ?_
  rintro e w3 ⟨rfl, hw3⟩
  obtain ⟨W3, O3, hb3, hs3⟩ : Wr w3 w.heap.size w1.heap.size (.slice none 0 0) [] ∧ Oth w3 w.heap.size w1.heap.size w2.heap.size ∧ Below w.heap.size w w3 ∧ w2.heap.size < w3.heap.size := by
    subst hw3
    have := hb2.size
    exact ⟨W2.below ((Below.refl _ _).alloc (Nat.le_refl _) _), ⟨⟨Blk.new _ _ _, this, OB.nil _ _ _⟩, by omega⟩, hb2.alloc hb2.size _, by simp⟩
  clear hw3 W2 hb2
  have B4 : Both (w3.alloc (.cells #[] 5)) w.heap.size w1.heap.size (.slice none 0 0) (.slice (some ⟨w3.heap.size, 0, none⟩) 0 0) [] :=
    ⟨W3.below ((Below.refl _ _).alloc (Nat.le_refl _) _), ⟨IsBytes.nil, World.ownsRow_lit w3 #[] 0 (hb3.size) (Nat.zero_le _) rfl⟩, fun k hk hf => by
      have h1 := (W3.lt k hf).2
      simp only [Value.ownBlock, Option.some.injEq] at hk
      omega⟩
  have O4 : Oth (w3.alloc (.cells #[] 5)) w.heap.size w1.heap.size w2.heap.size := O3.below ((Below.refl _ _).alloc (Nat.le_refl _) _)
  have hb4 : Below w.heap.size w (w3.alloc (.cells #[] 5)) := hb3.alloc hb3.size _
  clear W3 O3 hb3
  go_wp2_with fail
  go_loopw [5, 22] (fun hv i wr => ∃ (k : Nat) (v : Value) (P : List Nat), k ≤ n ∧ i = .int .i64 k ∧ P.length ≤ 2 * opsBulk (L.take k) ∧ Both wr w.heap.size w1.heap.size v hv P ∧ Oth wr w.heap.size w1.heap.size w2.heap.size ∧ Below w.heap.size w wr) (fun _ i _ => n - (intOf i).toNat)
  case atStart => exact ⟨0, _, [], Nat.zero_le _, rfl, Nat.zero_le _, B4, O4, hb4⟩
  case round =>
    obtain ⟨k, v, P, hk, rfl, hpl, B5, O5, hb5⟩ := hrel
    by_cases hlt : k < n
    · have hkL : k < L.length := by omega
      obtain ⟨b, off, rfl, hbB, A', c', q0, q1, q2, q3, hrb, hlc, hcm, hr0, hr1, hr2⟩ := ho k _ (opAt_get hkL)
      have hbk := opsBulk_at hkL
      have hst : opsBulk (L.take (k + 1)) = opsBulk (L.take k) + ((opAt L k).bs.length + 5) := by rw [take_opAt hkL, opsBulk_append, opsBulk_one]
      have hbt := opsBulk_take L k
      generalize opAt L k = o at *
      obtain ⟨kd, wd, nm, ds⟩ := o
      simp only at q0 q1 q2 q3 hrb hlc hr0 hr1 hr2 hbk hst
      have Hst := Lib.hid hst
      replace q0 := (hb5.cell (p := ⟨b, off + k * 4, none⟩) hbB).trans q0
      replace q1 := (hb5.cell (p := ⟨b, off + k * 4 + 1, none⟩) hbB).trans q1
      replace q2 := (hb5.cell (p := ⟨b, off + k * 4 + 2, none⟩) hbB).trans q2
      replace q3 := (hb5.cell (p := ⟨b, off + k * 4 + 3, none⟩) hbB).trans q3
      have Hrb := Lib.hid hrb
      clear hrb hst
      have hk4 : bits .and .i64 kd 3 = 0 ∨ bits .and .i64 kd 3 = 1 ∨ bits .and .i64 kd 3 = 2 ∨ (bits .and .i64 kd 3 ≠ 0 ∧ bits .and .i64 kd 3 ≠ 1 ∧ bits .and .i64 kd 3 ≠ 2) := by omega
      rcases hk4 with hk0 | hk1 | hk2 | hk4
      case' inl =>
        go_wp2_with fail
        obtain ⟨wo, hwo⟩ : ∃ x, x = wr.alloc (.cells #[.int .i64 kd, .int .i64 wd, .int .u64 (nm : Int), .slice A' ds.length c'] 45) := ⟨_, rfl⟩
        rw [← hwo]
        have B6 : Both wo w.heap.size w1.heap.size v u5 P := by subst hwo; exact B5.below ((Below.refl _ _).alloc (Nat.le_refl _) _)
        have O6 : Oth wo w.heap.size w1.heap.size w2.heap.size := by subst hwo; exact O5.below ((Below.refl _ _).alloc (Nat.le_refl _) _)
        have hb6 : Below w.heap.size w wo := by subst hwo; exact hb5.alloc hb5.size _
        have Bo : Blk wo wr.heap.size 45 #[.int .i64 kd, .int .i64 wd, .int .u64 (nm : Int), .slice A' ds.length c'] := by subst hwo; exact Blk.new _ _ _
        have hfw : ∀ k, wfp w1.heap.size v k → k < wr.heap.size := fun k hf => (B5.1.lt k hf).2
        have Hfw := Lib.hid hfw
        have hfh : ∀ k, u5.ownBlock = some k → k < wr.heap.size := fun k hf => (B5.2.1.2.lt k hf).2
        have Hfh := Lib.hid hfh
        have hlO := (O5.1.lt _ (.inl rfl)).2
        clear hwo B5 O5 hb5 q0 q1 q2 q3 hfw hfh
        have hpu := putNum_len wd nm
        refine (WNum_any _ _ _ P wd nm wo B6.1 hr2 (by omega)).mono ?_
        rintro e w7 ⟨rfl, v7, W7, ho7, hn7⟩
        have Q7 := B6.told ho7
        have O7 := O6.only ho7 (O6.wfp B6)
        have hb7 := ho7.belowTrans hb6 (Nat.le_refl _) fun k _ hk => (B6.1.lt k hk).1
        have B7 := Bo.only ho7 fun h => by have := Hfw.out _ h; omega
        have hs7 := ho7.size
        have q1 : w7.cell? ⟨wr.heap.size, 1, none⟩ = some (.int .i64 wd) := by rw [B7.cell 1]; rfl
        have q2 : w7.cell? ⟨wr.heap.size, 2, none⟩ = some (.int .u64 (nm : Int)) := by rw [B7.cell 2]; rfl
        clear B7 Bo
        go_wp2_with fail
        refine (refNum_any wd nm w7 hr2).mono ?_
        rintro e w8 ⟨x8, rfl, hx8, hbb⟩
        have hx8 : OB w8 w7.heap.size 5 x8 (putNum wd nm) := hx8
        obtain ⟨X, hX⟩ : ∃ x, x = putNum wd nm := ⟨_, rfl⟩
        rw [← hX] at W7 hx8 hpu
        clear hX
        obtain ⟨Ax, cx, rfl, -, -, hrx, -⟩ := hx8.form
        have Q8 := Q7.below' hbb
        have O8 := O7.below hbb
        have hb8 := hb7.trans (hbb.mono hb7.size)
        clear hx8 Q7 O7 hb7 q1 q2
        obtain ⟨A8, c8, rfl, -, -, -, -⟩ := Q8.form
        go_wp2_with (at_builtin; refine wpList_append_bytes _ rfl _ _ 22 rfl w.heap.size 5 i0 Try.underlying22 hi hz0 hz1 hz2 (.slice A8 P.length c8) P (by rfl) Q8 Ax cx _ X X.length rfl (by rfl) hrx (by omega) hb8.size ?_; intro v9 w9 hown9 hg9 hat9; obtain ⟨O9, hb9⟩ : Oth w9 w.heap.size w1.heap.size w2.heap.size ∧ Below w.heap.size w w9 := ⟨O8.grown Q8 hg9, Only.belowTrans hb8 (Only.of_grown hg9) (Nat.le_refl _) (fun k _ hk => (Q8.2.lt k hk).1)⟩; have B9 := B6.wrote W7 ho7 hn7 hbb hown9 hg9 hat9)
        clear Q8 O8 hb8 hown9 hg9 hat9 W7 ho7 hn7 hbb B6 O6 hb6
        obtain ⟨P9, hP9⟩ : ∃ x, x = P ++ X := ⟨_, rfl⟩
        have hpl9 : P9.length ≤ 2 * opsBulk (L.take (k + 1)) := by rw [hP9, Hst.out]; rw [List.length_append]; omega
        rw [← hP9] at B9
        clear hP9
        go_upto_region 26 with fail
      case' inr.inl =>
        go_wp2_with fail
        obtain ⟨wo, hwo⟩ : ∃ x, x = wr.alloc (.cells #[.int .i64 kd, .int .i64 wd, .int .u64 (nm : Int), .slice A' ds.length c'] 45) := ⟨_, rfl⟩
        rw [← hwo]
        have B6 : Both wo w.heap.size w1.heap.size v u5 P := by subst hwo; exact B5.below ((Below.refl _ _).alloc (Nat.le_refl _) _)
        have O6 : Oth wo w.heap.size w1.heap.size w2.heap.size := by subst hwo; exact O5.below ((Below.refl _ _).alloc (Nat.le_refl _) _)
        have hb6 : Below w.heap.size w wo := by subst hwo; exact hb5.alloc hb5.size _
        have Bo : Blk wo wr.heap.size 45 #[.int .i64 kd, .int .i64 wd, .int .u64 (nm : Int), .slice A' ds.length c'] := by subst hwo; exact Blk.new _ _ _
        have hfw : ∀ k, wfp w1.heap.size v k → k < wr.heap.size := fun k hf => (B5.1.lt k hf).2
        have Hfw := Lib.hid hfw
        have hfh : ∀ k, u5.ownBlock = some k → k < wr.heap.size := fun k hf => (B5.2.1.2.lt k hf).2
        have Hfh := Lib.hid hfh
        have hlO := (O5.1.lt _ (.inl rfl)).2
        clear hwo B5 O5 hb5 q0 q1 q2 q3 hfw hfh
        have q3 : wo.cell? ⟨wr.heap.size, 3, none⟩ = some (.slice A' ds.length c') := by rw [Bo.cell 3]; rfl
        have hrd := Hrb.out.below hb6
        have hg6 := hb6.size
        refine (Copy_any A' c' w.heap.size ds wo hrd hg6 (by omega)).mono ?_
        rintro e wc ⟨xc, rfl, hxc, hbc⟩
        obtain ⟨Ac, cc, rfl, -, -, hrc, -⟩ := hxc.form
        have Bc := B6.below hbc
        have Oc := O6.below hbc
        have hb6 := hb6.trans (hbc.mono hb6.size)
        have Boc := Bo.below hbc Bo.lt
        have hsc := hbc.size
        have hlo := Bo.lt
        clear B6 O6 Bo hrd q3
        obtain ⟨B6, O6, Bo⟩ : Both wc w.heap.size w1.heap.size v u5 P ∧ Oth wc w.heap.size w1.heap.size w2.heap.size ∧ Blk wc wr.heap.size 45 #[.int .i64 kd, .int .i64 wd, .int .u64 (nm : Int), .slice A' ds.length c'] := ⟨Bc, Oc, Boc⟩
        clear Bc Oc Boc
        go_wp2_with fail
        refine (Raw_any _ _ _ P Ac cc _ ds wc B6.1 hrc (by omega)).mono ?_
        rintro e w7 ⟨rfl, v7, W7, ho7, hn7⟩
        have Q7 := B6.told ho7
        have O7 := O6.only ho7 (O6.wfp B6)
        have hb7 := ho7.belowTrans hb6 (Nat.le_refl _) fun k _ hk => (B6.1.lt k hk).1
        have B7 := Bo.only ho7 fun h => by have := Hfw.out _ h; omega
        have hs7 := ho7.size
        have X7 : OB w7 wo.heap.size 5 (.slice Ac ds.length cc) ds := hxc.only ho7 fun k hk hf => by have h1 := Hfw.out _ hf; have h2 := (hxc.2.lt k hk).1; omega
        have q3 : w7.cell? ⟨wr.heap.size, 3, none⟩ = some (.slice A' ds.length c') := by rw [B7.cell 3]; rfl
        have hrd7 := Hrb.out.below hb7
        have hrx7 := X7.reads.2.1
        have hml : Hid (ds.length ≤ maxLen) := Lib.hid (by unfold maxLen; omega)
        have Hx := Lib.hid hxc.2.lt
        clear Bo hrc hxc
        go_wp2_with fail
        refine (same_yes Ac A' ds.length cc c' _ _ ds w7 hrx7 hrd7 rfl hml.out).mono ?_
        rintro e wd7 ⟨rfl, n1, hwd7⟩
        have hbd : Below w7.heap.size w7 wd7 := by subst hwd7; exact below_of_drewN _ _
        have X7d := X7.below' hbd
        have hsd := hbd.size
        clear hwd7 X7 hrx7 hrd7 q3
        go_wp2_with fail
        refine (spoil_any wo.heap.size (.slice Ac ds.length cc) ds 238 wd7 X7d (by omega) (by omega) (by omega)).mono ?_
        rintro e w8 ⟨rfl, -, hg8⟩
        have hgs := hg8.size
        have hsp : Only (fun k => wo.heap.size ≤ k ∧ k < wc.heap.size) w7 w8 := (Only.trans (Only.of_below hbd (fun k => wo.heap.size ≤ k ∧ k < wc.heap.size)) (Only.of_grown hg8) fun i _ hi => Hx.out i hi)
        have Q8 : OB w8 w.heap.size 5 u5 P := Q7.only hsp fun k hk hf => by have := Hfh.out _ hk; omega
        have O8 : Oth w8 w.heap.size w1.heap.size w2.heap.size := O7.only hsp fun hf => by omega
        have hb8 : Below w.heap.size w w8 := hsp.belowTrans hb7 (Nat.le_refl _) fun k _ hk => by omega
        have W8 : Wr w8 w.heap.size w1.heap.size v7 (P ++ ds) := W7.only hsp fun k hk hf => by
          rcases hn7 k hk with h1 | h1
          · have := Hfw.out _ h1; omega
          · omega
        have hbb : Below w8.heap.size w8 w8 := Below.refl _ _
        have q3 : w8.cell? ⟨wr.heap.size, 3, none⟩ = some (.slice A' ds.length c') := by rw [(B7.only hsp fun hf => by omega).cell 3]; rfl
        have hrx := Hrb.out.below hb8
        have ho8 : Only (fun k => wfp w1.heap.size v k ∨ (wo.heap.size ≤ k ∧ k < wc.heap.size)) wc w8 := Only.trans (ho7.mono fun i _ hi => .inl hi) hsp fun i _ hi => .inr hi
        clear hbd X7d Q7 O7 hb7 hg8 hsp B7 W7
        obtain ⟨A8, c8, rfl, -, -, -, -⟩ := Q8.form
        have HD : Hid (∀ k, (Value.slice A8 P.length c8).ownBlock = some k → ¬ wfp w1.heap.size v7 k) := Lib.hid fun k hk hf => (hn7 k hf).elim (fun h => B6.2.2 k hk h) (fun h => by have := Hfh.out _ hk; omega)
        go_wp2_with (at_builtin; refine wpList_append_bytes _ rfl _ _ 22 rfl w.heap.size 5 i0 Try.underlying22 hi hz0 hz1 hz2 (.slice A8 P.length c8) P (by rfl) Q8 A' c' w.heap.size ds ds.length rfl (by rfl) hrx (by omega) hb8.size ?_; intro v9 w9 hown9 hg9 hat9; obtain ⟨O9, hb9⟩ : Oth w9 w.heap.size w1.heap.size w2.heap.size ∧ Below w.heap.size w w9 := ⟨O8.grown Q8 hg9, Only.belowTrans hb8 (Only.of_grown hg9) (Nat.le_refl _) (fun k _ hk => (Q8.2.lt k hk).1)⟩; have B9 : Both w9 w.heap.size w1.heap.size v7 v9 (P ++ ds) := Both.wrote2 W8 HD.out hown9 hg9 hat9)
        clear Q8 O8 hb8 hown9 hg9 hat9 W8 ho7 hn7 hbb B6 O6 hb6 q3 hrx ho8
        obtain ⟨P9, hP9⟩ : ∃ x, x = P ++ ds := ⟨_, rfl⟩
        have hpl9 : P9.length ≤ 2 * opsBulk (L.take (k + 1)) := by rw [hP9, Hst.out]; rw [List.length_append]; omega
        rw [← hP9] at B9
        clear hP9
        go_upto_region 26 with fail
      case' inr.inr.inl =>
        have hcv := run_bytes_str (P := Try.prog) (wr.alloc (.cells #[.int .i64 kd, .int .i64 wd, .int .u64 (nm : Int), .slice A' ds.length c'] 45)) 22 9 5 c' Try.underlying22 Try.underlying5 Try.underlying9 ((Hrb.out.below hb5).alloc hb5.size _)
        have hsz := strOf_size ds
        have hsb := strBytes_strOf Hrb.out.1
        obtain ⟨sx, hsx⟩ : ∃ x, x = strOf ds := ⟨_, rfl⟩
        rw [← hsx] at hcv hsz hsb
        have Hsb := Lib.hid hsb
        have Hsz := Lib.hid hsz
        clear hsx hsb hsz
        go_wp2_with fail
        obtain ⟨wo, hwo⟩ : ∃ x, x = wr.alloc (.cells #[.int .i64 kd, .int .i64 wd, .int .u64 (nm : Int), .slice A' ds.length c'] 45) := ⟨_, rfl⟩
        rw [← hwo]
        have B6 : Both wo w.heap.size w1.heap.size v u5 P := by subst hwo; exact B5.below ((Below.refl _ _).alloc (Nat.le_refl _) _)
        have O6 : Oth wo w.heap.size w1.heap.size w2.heap.size := by subst hwo; exact O5.below ((Below.refl _ _).alloc (Nat.le_refl _) _)
        have hb6 : Below w.heap.size w wo := by subst hwo; exact hb5.alloc hb5.size _
        have Bo : Blk wo wr.heap.size 45 #[.int .i64 kd, .int .i64 wd, .int .u64 (nm : Int), .slice A' ds.length c'] := by subst hwo; exact Blk.new _ _ _
        have hfw : ∀ k, wfp w1.heap.size v k → k < wr.heap.size := fun k hf => (B5.1.lt k hf).2
        have Hfw := Lib.hid hfw
        have hfh : ∀ k, u5.ownBlock = some k → k < wr.heap.size := fun k hf => (B5.2.1.2.lt k hf).2
        have Hfh := Lib.hid hfh
        have hlO := (O5.1.lt _ (.inl rfl)).2
        clear hwo B5 O5 hb5 q0 q1 q2 q3 hfw hfh
        clear hcv
        refine (Str_any _ _ _ P sx wo B6.1 (by rw [Hsz.out]; omega)).mono ?_
        rintro e w7 ⟨rfl, v7, W7, ho7, hn7⟩
        rw [Hsb.out] at W7
        have Q7 := B6.told ho7
        have O7 := O6.only ho7 (O6.wfp B6)
        have hb7 := ho7.belowTrans hb6 (Nat.le_refl _) fun k _ hk => (B6.1.lt k hk).1
        have B7 := Bo.only ho7 fun h => by have := Hfw.out _ h; omega
        have hs7 := ho7.size
        have q3 : w7.cell? ⟨wr.heap.size, 3, none⟩ = some (.slice A' ds.length c') := by rw [B7.cell 3]; rfl
        have hrx := Hrb.out.below hb7
        have Q8 := Q7
        have O8 := O7
        have hb8 := hb7
        have hbb : Below w7.heap.size w7 w7 := Below.refl _ _
        clear B7 Bo Q7 O7 hb7
        obtain ⟨A8, c8, rfl, -, -, -, -⟩ := Q8.form
        go_wp2_with (at_builtin; refine wpList_append_bytes _ rfl _ _ 22 rfl w.heap.size 5 i0 Try.underlying22 hi hz0 hz1 hz2 (.slice A8 P.length c8) P (by rfl) Q8 A' c' w.heap.size ds ds.length rfl (by rfl) hrx (by omega) hb8.size ?_; intro v9 w9 hown9 hg9 hat9; obtain ⟨O9, hb9⟩ : Oth w9 w.heap.size w1.heap.size w2.heap.size ∧ Below w.heap.size w w9 := ⟨O8.grown Q8 hg9, Only.belowTrans hb8 (Only.of_grown hg9) (Nat.le_refl _) (fun k _ hk => (Q8.2.lt k hk).1)⟩; have B9 := B6.wrote W7 ho7 hn7 hbb hown9 hg9 hat9)
        clear Q8 O8 hb8 hown9 hg9 hat9 W7 ho7 hn7 hbb B6 O6 hb6
        obtain ⟨P9, hP9⟩ : ∃ x, x = P ++ ds := ⟨_, rfl⟩
        have hpl9 : P9.length ≤ 2 * opsBulk (L.take (k + 1)) := by rw [hP9, Hst.out]; rw [List.length_append]; omega
        rw [← hP9] at B9
        clear hP9
        go_upto_region 26 with fail
      case' inr.inr.inr =>
        have hk0 : (bits .and .i64 kd 3 == 0) = false := by simpa using hk4.1
        have hk1 : (bits .and .i64 kd 3 == 1) = false := by simpa using hk4.2.1
        have hk2 : (bits .and .i64 kd 3 == 2) = false := by simpa using hk4.2.2
        clear hk4
        go_wp2_with fail
        obtain ⟨wo, hwo⟩ : ∃ x, x = wr.alloc (.cells #[.int .i64 kd, .int .i64 wd, .int .u64 (nm : Int), .slice A' ds.length c'] 45) := ⟨_, rfl⟩
        rw [← hwo]
        have B6 : Both wo w.heap.size w1.heap.size v u5 P := by subst hwo; exact B5.below ((Below.refl _ _).alloc (Nat.le_refl _) _)
        have O6 : Oth wo w.heap.size w1.heap.size w2.heap.size := by subst hwo; exact O5.below ((Below.refl _ _).alloc (Nat.le_refl _) _)
        have hb6 : Below w.heap.size w wo := by subst hwo; exact hb5.alloc hb5.size _
        have Bo : Blk wo wr.heap.size 45 #[.int .i64 kd, .int .i64 wd, .int .u64 (nm : Int), .slice A' ds.length c'] := by subst hwo; exact Blk.new _ _ _
        have hfw : ∀ k, wfp w1.heap.size v k → k < wr.heap.size := fun k hf => (B5.1.lt k hf).2
        have Hfw := Lib.hid hfw
        have hfh : ∀ k, u5.ownBlock = some k → k < wr.heap.size := fun k hf => (B5.2.1.2.lt k hf).2
        have Hfh := Lib.hid hfh
        have hlO := (O5.1.lt _ (.inl rfl)).2
        clear hwo B5 O5 hb5 q0 q1 q2 q3 hfw hfh
        have hx6 := B6.2.1
        obtain ⟨A6, c6, rfl, -, -, -, -⟩ := hx6.form
        clear hx6
        refine (Bytes_any _ _ _ P wo B6.1 (by omega)).mono ?_
        rintro e w7 ⟨x7, rfl, hx7, hbb⟩
        obtain ⟨A7, c7, rfl, -, -, hr7, -⟩ := hx7.form
        have B7 := B6.below hbb
        have O7 := O6.below hbb
        have hb7 := hb6.trans (hbb.mono hb6.size)
        have hr6 := B7.2.1.reads.2.1
        have hml : Hid (P.length ≤ maxLen) := Lib.hid (by unfold maxLen; omega)
        clear B6 O6 hb6 Bo hx7 hbb
        go_wp2_with fail
        refine (same_yes A7 A6 P.length c7 c6 _ _ P w7 hr7 hr6 rfl hml.out).mono ?_
        rintro e w9 ⟨rfl, n1, hwd7⟩
        obtain ⟨B9, O9, hb9⟩ : Both w9 w.heap.size w1.heap.size v (.slice A6 P.length c6) P ∧ Oth w9 w.heap.size w1.heap.size w2.heap.size ∧ Below w.heap.size w w9 := by
          subst hwd7
          exact ⟨B7.below (below_of_drewN _ _), O7.below (below_of_drewN _ _), below_drewN hb7 _⟩
        clear hwd7 B7 O7 hb7 hr6 hr7
        have hpl9 : P.length ≤ 2 * opsBulk (L.take (k + 1)) := by rw [Hst.out]; omega
        obtain ⟨P9, hP9⟩ : ∃ x, x = P := ⟨_, rfl⟩
        obtain ⟨v7, hv7⟩ : ∃ x, x = v := ⟨_, rfl⟩
        rw [← hP9] at B9 hpl9
        rw [← hv7] at B9
        rw [← hP9]
        clear hP9 hv7
        go_upto_region 26 with fail
      all_goals
        have hs9 := B9.2.1
        try obtain ⟨A9, c9, rfl, -⟩ := hs9.form
        have HL := Lib.hid (Len_any _ _ _ P9 w9 B9.1)
        have hne : ((P9.length : Int) != (P9.length : Int)) = false := by simp
        clear hs9 hi hz0 hz1 hz2
        go_wp2_with (go_at_call 23; refine (HL.out).mono ?_; rintro e w' ⟨rfl, rfl⟩)
        go_roundw
        case rel => exact ⟨k + 1, v7, P9, by omega, by go_num, hpl9, B9, O9, hb9⟩
        case measure => simp [intOf]; omega
    · obtain rfl : k = n := by omega
      obtain ⟨w6, rfl⟩ : ∃ x : World, x = wr := ⟨_, rfl⟩
      have hbt := opsBulk_take L k
      have hn5 := O5.wfp B5
      clear hi hz0 hz1 hz2
      go_wp2_with fail
      refine (WNum_any _ _ _ [] 2 258 w6 O5.1 (by omega) (by decide)).mono ?_
      rintro e w7 ⟨rfl, v7, W7, ho7, hn7⟩
      rw [put2] at W7
      have ho7' : Only (fun k => k = w2.heap.size) w6 w7 := ho7.mono fun i _ hi => by
        rcases hi with hi | hi
        · exact hi
        · cases hi
      have B7 : Both w7 w.heap.size w1.heap.size v u5 P := ⟨B5.1.only ho7' fun k hk e => hn5 (e ▸ hk), B5.2.1.only ho7' fun k hk e => own_blk_ne B5.2.1.2 O5.1.1 (by decide) (e ▸ hk), B5.2.2⟩
      have hb7 : Below w.heap.size w w7 := ho7'.belowTrans hb5 (Nat.le_refl _) fun k _ hk => by have := O5.1.2.1; omega
      have hx6 := B7.2.1
      obtain ⟨A6, c6, rfl, -, -, -, -⟩ := hx6.form
      have hml : Hid (P.length ≤ maxLen) := Lib.hid (by unfold maxLen; omega)
      clear hx6 B5 O5 hb5 ho7 ho7' hn5 hn7
      go_wp2_with fail
      refine (Bytes_any _ _ _ P w7 B7.1 (by omega)).mono ?_
      rintro e w8 ⟨x8, rfl, hx8, hbb⟩
      obtain ⟨A8, c8, rfl, -, -, hr8, -⟩ := hx8.form
      have B8 := B7.below hbb
      have W8 := W7.below hbb
      have hb8 := hb7.trans (hbb.mono hb7.size)
      have hr6 := B8.2.1.reads.2.1
      clear B7 W7 hb7 hx8 hbb
      go_wp2_with fail
      refine (same_yes A8 A6 P.length c8 c6 _ _ P w8 hr8 hr6 rfl hml.out).mono ?_
      rintro e w9 ⟨rfl, n1, hwd⟩
      obtain ⟨W9, hb9⟩ : Wr w9 w.heap.size w2.heap.size v7 [1, 2] ∧ Below w.heap.size w w9 := by
        subst hwd
        exact ⟨W8.below (below_of_drewN _ _), below_drewN hb8 _⟩
      clear hwd W8 hb8 hr6 hr8 B8
      go_wp2_with fail
      refine (Bytes_any _ _ _ [1, 2] w9 W9 (by decide)).mono ?_
      rintro e w10 ⟨x10, rfl, hx10, hbb⟩
      obtain ⟨A10, c10, rfl, -, -, hr10, -⟩ := hx10.form
      have hb10 := hb9.trans (hbb.mono hb9.size)
      clear W9 hb9 hx10 hbb
      go_wp2_with fail
      refine (same_yes A10 _ 2 c10 2 _ (w10.heap.size + 1) [1, 2] _ (hr10.alloc (Nat.le_refl _) _) (RB.lit w10 5 (by unfold IsBytes; decide) _ rfl) rfl (by decide)).mono ?_
      rintro e w11 ⟨rfl, n2, rfl⟩
      go_wp2
      go_ret
      exact ⟨rfl, below_drewN (hb10.alloc hb10.size _) _⟩

/-! ### THE ROW's STEP -/
theorem own : ownKnob Try.prog.godebug = none := by kernel_rfl
theorem laidOut : laidOutB Try.prog = true := by kernel_rfl

theorem contract (H : Type) (enc : TypeId × Value → H) (W : World) (base : Nat) (args : Array Value) (ds gs : List (DataW H)) (before : List MemPlace)
    (hval0 : ∀ (j : Nat) t v, Try.f5.params[j]? = some t → args[j]? = some v → Value.okWide Try.prog W .any base t v)
    (hW : DataW.Whole enc Try.prog Try.f5.params.toList Rows.wireWritesSpec.vars false W args.toList ds gs before)
    (hk : Rows.uptoSmall H (ds ++ gs) = true)
    (hsz : (DataW.weightsEach Try.prog (Try.f5.params.toList ++ (Rows.OpenSpec.upto Rows.wireWritesSpec).bare.plain.varTypes Try.prog) (ds ++ gs)).all (· ≤ reachBytes) = true) :
    Calls Try.prog 5 args W fun e W' => ∃ v, e = .returned v ∧ Rows.wireWritesSpec.post enc Try.prog Try.f5 false true false false W args v W' := by
  have hval : ∀ (j : Nat) t v, Try.f5.params[j]? = some t → args[j]? = some v → Value.okWide Try.prog W .any base t v := hval0
  have hW' := hW
  obtain ⟨p, q, hA0, hV, rfl, hfz, hnd⟩ := hW
  have hA : DataW.TrodAll enc Try.prog W 0 (fun _ => true) true Try.f5.params.toList args.toList ds p := hA0
  rw [Try.params5] at hA hval
  obtain ⟨v0, vs0, d0, ds0, p0, q0, hargs, rfl, rfl, h0, r0⟩ := trodAll_cons hA
  obtain ⟨rfl, rfl, rfl⟩ := trodAll_nil r0
  obtain rfl : args = #[v0] := by cases args; simp_all
  obtain ⟨rfl, rfl⟩ := trodVars_none hV
  have k0 := h0
  have lt0 : ∀ x ∈ p0, x.block < W.heap.size := by obtain ⟨m, hm⟩ := k0; exact DataW.trod_lt m _ _ _ hm
  have w0 := reach_at hsz (j := 0) rfl rfl
  have u0 : Rows.uptoBulk d0 ≤ 1048576 := bulk_at hk (by simp)
  clear hA0 hval0 hsz
  obtain ⟨A0, n0, c0, rfl, hx0⟩ := open_opsU (hval 0 _ v0 rfl rfl) w0 h0 lt0 u0
  refine (walk W hx0).mono fun e W' ⟨he, bel⟩ => ?_
  subst he
  exact ⟨_, rfl, _, _, _, [], _, [], hW', trodAll_mk1 (shut_bool Try.underlying4 _), (trodAll_cons_mk (Below.trod laidOut (by kernel_rfl) (of_decide_eq_true (by kernel_rfl)) k0 bel lt0) trodAll_mk0), rfl, bel.frame _, fun h => by cases h⟩

set_option maxRecDepth 100000 in
theorem lifted (os : Os) (started : os.Started) (H : Type) (enc : TypeId × Value → H) (F : Stop.Interp) :
    ReturnsInHanded {} Try.checked os 5 .any ((Rows.OpenSpec.upto Rows.wireWritesSpec).pre6 enc Try.prog Try.f5 Rows.wireWritesUptoRow.domain false) (((Rows.OpenSpec.upto Rows.wireWritesSpec).at F).post enc Try.prog Try.f5 false true false false) := by
  refine returnsInHanded_of_cond_sized (C := Try.checked) (s := (Rows.OpenSpec.upto Rows.wireWritesSpec)) (k := Rows.uptoSmall) rfl own started (by kernel_rfl) Try.func5
    (OpenSpec.witness (enc := enc) (C := Try.checked) (s := (Rows.OpenSpec.upto Rows.wireWritesSpec)) (k := Rows.uptoSmall) rfl false ⟨#[], #[.slice none 0 0], []⟩ 8 (by kernel_rfl) (by kernel_rfl) (by kernel_rfl)
      (x := ([.nil], [], [])) (by kernel_rfl) rfl (by kernel_rfl)) ?_
  intro W base args ds gs before hval hW _ hk hsz _
  exact contract H enc W base args ds gs before hval hW hk hsz

/-- THE STATEMENT -/
theorem proved : Rows.WireWritesUptoSaid :=
  OpenClaim.holds_of_cond 5 Try.f5 rfl rfl rfl rfl rfl rfl rfl ⟨rfl, rfl, rfl, rfl, rfl⟩ rfl rfl rfl rfl rfl (by kernel_rfl) Try.func5 (by kernel_rfl)
    (of_decide_eq_true (by kernel_rfl)) (by unfold Func.isWrapper; rw [if_neg (of_decide_eq_false (by kernel_rfl))]; exact ⟨rfl, rfl⟩)
    (fun os started H enc _ F => lifted os started H enc F)
end Go.Proofs.Ytehhffbnmgdpeaa.wireWrites

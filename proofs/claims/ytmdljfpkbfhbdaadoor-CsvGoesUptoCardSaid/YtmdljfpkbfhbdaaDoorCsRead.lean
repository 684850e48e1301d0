/- csv: the reader: skip, quoted, plain, field, separator. -/
import Derived.Test.YtmdljfpkbfhbdaaDoorCsIdx2
import Derived.Test.YtmdljfpkbfhbdaaDoorCsPrint2
namespace Go.Proofs.YtmdljfpkbfhbdaaDoor
open Go.RowKit
set_option linter.unusedVariables false

theorem Only.belowFrom {S : Nat → Prop} {a b c : World} (h : Only S a b) {N : Nat} (k : Below N b c) (hN : a.heap.size ≤ N) : Only S a c :=
  ⟨k.os.trans h.os, k.tape.trans h.tape, k.output.trans h.output, Nat.le_trans h.size k.size, fun i hi hn => (k.block i (by omega)).trans (h.block i hi hn)⟩
theorem Bd.setLow {B b : Nat} {l : Bs} {w : World} (h : Bd B b l w) {p : Addr} (hp : p.block < B) (u : Value) : Bd B b l (w.setCell p u) := by
  have ho : ∀ i, i ≠ p.block → (w.setCell p u).heap[i]? = w.heap[i]? := fun i hi => Below.heap_setCell w p u i hi
  have hs : (w.setCell p u).heap.size = w.heap.size := by
    have := (Below.refl 0 w).setCell (p := p) (Nat.zero_le _) u
    simp
  have key : ∀ q, Lib.BuilderAtF 46 5 B b q (Lib.byteCells l) w → Lib.BuilderAtF 46 5 B b q (Lib.byteCells l) (w.setCell p u) := by
    rintro q ⟨hB, v, hk, hw, hn⟩
    refine ⟨hB, v, (ho b (by omega)).trans hk, ?_, hn⟩
    have hO : Only (fun k => k = p.block) w (w.setCell p u) := Only.setCell (S := fun k => k = p.block) (Only.refl _ w) (p := p) (.inl rfl) u
    refine hw.kept (row := some p.block) ⟨hO.os, hO.tape, hO.output, hO.size, fun i hi hne => hO.block i hi (fun e => hne (by rw [e]))⟩ ?_
    cases hv : v.ownBlock with
    | none => exact .inl rfl
    | some g => 
      refine .inr fun e => ?_
      injection e with e
      have := (hw.lt g hv).1
      omega
  exact ⟨h.1.elim (fun h => .inl (key _ h)) (fun h => .inr (key _ h)), h.2⟩
/-- the reader of what is left -/
abbrev RdA (g : Nat) (l : Bs) : Ass := BlkA g 51 #[.string (mkS l)]
theorem rd_cell {S : Fp} {lst : List Ass} {w0 w : World} {g : Nat} {l : Bs} (h : St S (RdA g l :: lst) w0 w) : w.cell? ⟨g, 0, none⟩ = some (.string (mkS l)) ∧ w.frozen? ⟨g, 0, none⟩ = false ∧ g < w.heap.size :=
  ⟨by rw [h.blk.cell 0]; rfl, h.blk.frozen 0, h.blk.lt⟩
set_option maxHeartbeats 1000000 in
theorem skip_any {S : Fp} {lst : List Ass} [Stable (Sep lst)] {w0 w : World} (g : Nat) (l : Bs) (p : ByteArray) (h : St S (RdA g l :: lst) w0 w) :
    Calls Tryd.prog 31 #[.pointer (some ⟨g, 0, none⟩), .string p] w fun e w' => e = .returned (.bool (Lib.hasPrefix l (lS p))) ∧ St S (RdA g (Lib.trimPrefix l (lS p)) :: lst) w0 w' := by
  obtain ⟨c0, f0, g0⟩ := rd_cell h
  have HS : Hid (∀ u, St S (BlkA g 51 #[u] :: lst) w0 (w.setCell ⟨g, 0, none⟩ u)) := Lib.hid fun u => h.setBlk 0 u
  have HC := Lib.hid (Tryd.strings_CutPrefix (mkS l) p w)
  clear h
  go_enter Tryd.func31, Tryd.ntmps31
  go_wp2_with fail
  refine HC.out.mono ?_
  rintro e w' ⟨rfl, rfl⟩
  go_wp2
  go_ret
  exact ⟨rfl, HS.out _⟩
theorem mkS_drop (l : Bs) (k : Nat) : (mkS l).extract k (mkS l).size = mkS (l.drop k) := by
  apply ByteArray.ext
  simp [mkS, ByteArray.size]
  rw [List.take_of_length_le (by simp)]
theorem mkS_take (l : Bs) (k : Nat) : (mkS l).extract 0 k = mkS (l.take k) := by
  apply ByteArray.ext
  simp [mkS]
set_option maxHeartbeats 1000000 in
theorem SClone_any (s : ByteArray) (w : World) (hs : s.size ≤ 281474976710656) : Calls Tryd.prog 40 #[.string s] w fun e w' => e = .returned (.string s) ∧ Below w.heap.size w w' := by
  have HC := Lib.hid (Tryd.stringslite_Clone s w hs)
  go_enter Tryd.func40, Tryd.ntmps40
  go_wp2_with fail
  refine HC.out.mono ?_
  rintro e w' ⟨rfl, hb⟩
  go_wp2
  go_ret
  exact ⟨rfl, hb⟩
abbrev nsp : UInt8 → Bool := fun x => !spc x
theorem tw_all : ∀ l : Bs, (∀ x ∈ l, nsp x = true) → l.takeWhile nsp = l
  | [], _ => rfl
  | x :: r, h => by rw [List.takeWhile_cons_of_pos (h x (by simp)), tw_all r fun y hy => h y (by simp [hy])]
theorem plain_split (l : Bs) : ∃ k : Nat, k ≤ l.length ∧ l.takeWhile nsp = l.take k ∧ l.dropWhile nsp = l.drop k ∧ (l.any spc = true → fpm l = k) ∧ (l.any spc = false → fpm l = -1 ∧ k = l.length) := by
  have h : l.takeWhile nsp ++ l.dropWhile nsp = l := List.takeWhile_append_dropWhile
  refine ⟨(l.takeWhile nsp).length, ?_, ?_, ?_, ?_, ?_⟩
  · have := congrArg List.length h
    rw [List.length_append] at this
    omega
  · generalize l.takeWhile nsp = a at h
    generalize l.dropWhile nsp = b at h
    rw [← h, List.take_left]
  · generalize l.takeWhile nsp = a at h
    generalize l.dropWhile nsp = b at h
    rw [← h, List.drop_left]
  · intro h
    unfold fpm
    rw [if_pos h]
  · intro h
    refine ⟨by unfold fpm; rw [h, if_neg (by decide)], ?_⟩
    rw [tw_all l]
    intro x hx
    have : spc x = false := by
      cases hs : spc x with
      | false => rfl
      | true => rw [List.any_eq_true.2 ⟨x, hx, hs⟩] at h; cases h
    simp [nsp, this]
set_option maxHeartbeats 1000000 in
theorem plain_any {S : Fp} {lst : List Ass} [Stable (Sep lst)] {w0 w : World} (g : Nat) (l : Bs) (h : St S (RdA g l :: lst) w0 w) (hl : l.length ≤ 1073741824) :
    Calls Tryd.prog 33 #[.pointer (some ⟨g, 0, none⟩)] w fun e w' => e = .returned (.string (mkS (l.takeWhile nsp))) ∧ St S (RdA g (l.dropWhile nsp) :: lst) w0 w' := by
  obtain ⟨k, hk, ht, hd, hy, hn⟩ := plain_split l
  rw [ht, hd]
  obtain ⟨c0, f0, g0⟩ := rd_cell h
  have HS := Lib.hid h
  have hsz : (mkS l).size = l.length := mkS_size l
  have HI := Lib.hid (IndexAny_any (mkS l) w (by omega))
  have HD : Hid ((mkS l).extract k l.length = mkS (l.drop k)) := Lib.hid (by rw [← hsz]; exact mkS_drop l k)
  have HT : Hid ((mkS l).extract 0 k = mkS (l.take k)) := Lib.hid (mkS_take l k)
  have HTL : Hid ((mkS (l.take k)).size ≤ 281474976710656) := Lib.hid (by rw [mkS_size, List.length_take]; omega)
  have HE : (∃ i, fpm l = i ∧ ((0 ≤ i ∧ i = k) ∨ (i < 0 ∧ k = l.length))) := by
    cases ha : l.any spc with
    | true => exact ⟨_, rfl, .inl (by rw [hy ha]; omega)⟩
    | false => exact ⟨_, rfl, .inr (by obtain ⟨h1, h2⟩ := hn ha; rw [h1]; exact ⟨by omega, h2⟩)⟩
  obtain ⟨i, hi, hio⟩ := HE
  have HI2 : Hid (Calls Tryd.prog 35 #[.string (mkS l), .string ⟨#[34, 44, 13, 10]⟩] w fun e w' => e = .returned (.int .i64 i) ∧ Below w.heap.size w w') := Lib.hid (HI.out.mono fun e w' ⟨h1, h2⟩ => ⟨by rw [h1, ← hi]; rfl, h2⟩)
  obtain ⟨s, hs⟩ : ∃ s, s = mkS l := ⟨_, rfl⟩
  obtain ⟨n, hn'⟩ : ∃ n, n = l.length := ⟨_, rfl⟩
  rw [← hs] at hsz HI2 HD HT c0
  rw [← hn'] at hsz hk HD hio hl
  obtain ⟨P, hP⟩ : ∃ P, P = mkS (l.take k) := ⟨_, rfl⟩
  rw [← hP] at HT HTL ⊢
  have HHS := Lib.hid hs
  clear hs HI hi hy hn ht hd h hP hn'
  have hszi : (s.size : Int) = (n : Int) := by rw [hsz]
  have hki : (k : Int) ≤ (n : Int) := by omega
  have kk0 : (0 : Int) ≤ (k : Int) := by omega
  have HCL : Hid (∀ w', Calls Tryd.prog 40 #[.string (s.extract 0 k)] w' fun e w2 => e = .returned (.string P) ∧ Below w'.heap.size w' w2) := Lib.hid fun w' => by
    rw [HT.out]
    exact SClone_any P w' HTL.out
  have FIN : Hid (∀ w1, Below w.heap.size w w1 → St S (BlkA g 51 #[.string (s.extract k n)] :: lst) w0 (w1.setCell ⟨g, 0, none⟩ (.string (s.extract k n)))) := Lib.hid fun w1 hb => (HS.out.below hb).setBlk 0 _
  have HDE : Hid (St S (BlkA g 51 #[.string (s.extract k n)] :: lst) w0 = St S (RdA g (l.drop k) :: lst) w0) := Lib.hid (by rw [HD.out])
  rcases hio with ⟨h0, rfl⟩ | ⟨h0, rfl⟩
  · have hd0 : decide ((k : Int) < 0) = false := decide_eq_false (by omega)
    go_enter Tryd.func33, Tryd.ntmps33
    go_wp2_with fail
    refine HI2.out.mono ?_
    rintro e w1 ⟨rfl, hb1⟩
    have c1 : w1.cell? ⟨g, 0, none⟩ = some (.string s) := (hb1.cell (p := ⟨g, 0, none⟩) g0).trans c0
    have g1 : g < w1.heap.size := Nat.lt_of_lt_of_le g0 hb1.size
    have HB1 := Lib.hid hb1
    clear hb1
    go_wp2_with fail
    refine (HCL.out _).mono ?_
    rintro e w2 ⟨rfl, hb2⟩
    have c2 : w2.cell? ⟨g, 0, none⟩ = some (.string s) := (hb2.cell (p := ⟨g, 0, none⟩) g1).trans c1
    have HB2 := Lib.hid (HB1.out.trans (hb2.mono HB1.out.size))
    have f2 : w2.frozen? ⟨g, 0, none⟩ = false := (rd_cell (HS.out.below HB2.out)).2.1
    have HF := Lib.hid (FIN.out w2 HB2.out)
    clear hb2
    go_wp2_with fail
    go_ret
    refine ⟨rfl, ?_⟩
    rw [← HDE.out]
    exact HF.out
  · have hd0 : decide (i < 0) = true := decide_eq_true h0
    go_enter Tryd.func33, Tryd.ntmps33
    go_wp2_with fail
    refine HI2.out.mono ?_
    rintro e w1 ⟨rfl, hb1⟩
    have c1 : w1.cell? ⟨g, 0, none⟩ = some (.string s) := (hb1.cell (p := ⟨g, 0, none⟩) g0).trans c0
    have g1 : g < w1.heap.size := Nat.lt_of_lt_of_le g0 hb1.size
    have HB1 := Lib.hid hb1
    clear hb1
    go_wp2_with fail
    refine (HCL.out _).mono ?_
    rintro e w2 ⟨rfl, hb2⟩
    have c2 : w2.cell? ⟨g, 0, none⟩ = some (.string s) := (hb2.cell (p := ⟨g, 0, none⟩) g1).trans c1
    have HB2 := Lib.hid (HB1.out.trans (hb2.mono HB1.out.size))
    have f2 : w2.frozen? ⟨g, 0, none⟩ = false := (rd_cell (HS.out.below HB2.out)).2.1
    have HF := Lib.hid (FIN.out w2 HB2.out)
    clear hb2
    go_wp2_with fail
    go_ret
    refine ⟨rfl, ?_⟩
    rw [← HDE.out]
    have h := HF.out
    have e0 : s.extract k k = ByteArray.empty := by
      apply ByteArray.ext
      simp
    simp only [e0] at h ⊢
    exact h
end Go.Proofs.YtmdljfpkbfhbdaaDoor

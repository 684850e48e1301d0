/- Contracts of the wire Reader's methods. -/
import Derived.Test.YtgpahglmhnnobaaGreatDoorWriter
namespace Go.Proofs.YtgpahglmhnnobaaGreatDoor
open Go.RowKit
set_option linter.unusedVariables false

/-- A Reader at block g, whose rest (in block q) reads as bs. -/
def Rd (w : World) (base g q : Nat) (bs : List Nat) (err : Int) : Prop :=
  ∃ A c, Blk w g 105 #[.slice A bs.length c, .int .i64 err] ∧ RB w w.heap.size A bs ∧ (∀ a, A = some a → ∃ off, a = ⟨q, off, none⟩) ∧ bs.length ≤ c ∧ c ≤ maxLen ∧ base ≤ g ∧ base ≤ q ∧ (q = g → bs = []) ∧ q < w.heap.size

theorem RB.one {S : Nat → Prop} {w w' : World} {B : Nat} {A : Option Addr} {bs : List Nat} (h : RB w B A bs) (hb : Only S w w') (hB : B ≤ w.heap.size) (hq : ∀ a, A = some a → ¬ S a.block) : RB w' B A bs :=
  ⟨h.1, h.2.1, fun hn => by
    obtain ⟨ad, e, hlt, hc⟩ := h.2.2 hn
    refine ⟨ad, e, hlt, fun j u hu => ?_⟩
    exact (World.cell?_of_block (hb.block _ (by rw [block_of_add]; omega) (by rw [block_of_add]; exact hq ad e))).trans (hc j u hu)⟩
theorem Rd.only {S : Nat → Prop} {w w' : World} {base g q : Nat} {bs : List Nat} {err : Int} (h : Rd w base g q bs err) (hb : Only S w w') (hg : ¬ S g) (hq : ¬ S q) : Rd w' base g q bs err := by
  obtain ⟨A, c, h1, h2, h3, h4, h5, h6, h7, h8, h9⟩ := h
  have hs := hb.size
  exact ⟨A, c, h1.only hb hg, (h2.one hb (Nat.le_refl _) (fun a e => by obtain ⟨o, rfl⟩ := h3 a e; exact hq)).more hb.size, h3, h4, h5, h6, h7, h8, by omega⟩
theorem Rd.below {w w' : World} {base g q : Nat} {bs : List Nat} {err : Int} (h : Rd w base g q bs err) (hb : Below w.heap.size w w') : Rd w' base g q bs err :=
  h.only (Only.of_below hb (fun _ => False)) (fun h => h) (fun h => h)
theorem Rd.drewN {w : World} {base g q : Nat} {bs : List Nat} {err : Int} (h : Rd w base g q bs err) (n : Nat) : Rd (w.drewN n) base g q bs err := h
theorem Rd.lt {w : World} {base g q : Nat} {bs : List Nat} {err : Int} (h : Rd w base g q bs err) : base ≤ g ∧ base ≤ q ∧ q < w.heap.size ∧ g < w.heap.size := by
  obtain ⟨A, c, h1, h2, h3, h4, h5, h6, h7, h8, h9⟩ := h
  exact ⟨h6, h7, h9, h1.lt⟩

/-- the first error stays -/
def errOf (err p : Int) : Int := if err = 0 then p else err
theorem errOf_zero (p : Int) : errOf 0 p = p := rfl
theorem errOf_ne {err p : Int} (h : err ≠ 0) : errOf err p = err := if_neg h

set_option maxHeartbeats 400000 in
theorem NewReader_any (A : Option Addr) (cap B : Nat) (bs : List Nat) (w : World) (h : RB w B A bs) (hB : B ≤ w.heap.size) (hl : bs.length ≤ 140737488355328) :
    Calls Tryz.prog 50 #[.slice A bs.length cap] w fun e w' => ∃ g q, e = .returned (.pointer (some ⟨g, 0, none⟩)) ∧ Rd w' w.heap.size g q bs 0 ∧ Below w.heap.size w w' := by
  have Hc := Lib.hid (Clone_any A cap B bs w h hB hl)
  clear h
  go_enter Tryz.func50, Tryz.ntmps50
  go_wp2_with (go_at_call 41; refine (Hc.out).mono ?_; rintro e w' ⟨v', rfl, ho, hb⟩; obtain ⟨A1, c1, rfl, hc1, hm1, hr1, hu1⟩ := ho.form)
  go_ret
  have hq : ∃ q, (∀ a, A1 = some a → ∃ off, a = ⟨q, off, none⟩) ∧ w.heap.size ≤ q ∧ (q = w'.heap.size → bs = []) ∧ q < w'.heap.size + 1 := by
    rcases A1 with _ | a
    · refine ⟨w'.heap.size, (fun a e => by cases e), hb.size, (fun _ => ?_), (by omega)⟩
      rcases ho.2.2 with ⟨_, h0⟩ | ⟨k, cap, cur, e, _⟩
      · exact List.length_eq_zero_iff.1 h0
      · cases e
    · rcases ho.2.2 with ⟨e, _⟩ | ⟨k, cap, cur, e, hbk, hh, _⟩
      · cases e
      · injection e with e
        injection e with e
        subst e
        refine ⟨k, (fun a e => by injection e with e; subst e; exact ⟨0, rfl⟩), hbk, ?_, ?_⟩
        · intro e
          have := (hu1 k rfl).2
          omega
        · have := (hu1 k rfl).2
          omega
  obtain ⟨q, hq1, hq2, hq3, hq4⟩ := hq
  exact ⟨_, q, rfl, ⟨A1, c1, Blk.new _ _ _, (hr1.alloc (Nat.le_refl _) _).more (by simp), hq1, hc1, hm1, hb.size, hq2, hq3, by simpa using hq4⟩, hb.alloc hb.size _⟩

set_option maxHeartbeats 400000 in
theorem fail_any (g : Nat) (A : Option Addr) (l c : Nat) (err p : Int) (w : World) (h : Blk w g 105 #[.slice A l c, .int .i64 err]) :
    Calls Tryz.prog 73 #[.pointer (some ⟨g, 0, none⟩), .int .i64 p] w fun e w' => e = .returned (.tuple #[]) ∧ Blk w' g 105 #[.slice none 0 0, .int .i64 (errOf err p)] ∧ Only (fun k => k = g) w w' := by
  have hc0 : w.cell? ⟨g, 0, none⟩ = some (.slice A l c) := by rw [h.cell 0]; rfl
  have hc1 : w.cell? ⟨g, 1, none⟩ = some (.int .i64 err) := by rw [h.cell 1]; rfl
  have hf0 := h.frozen 0
  have hf1 := h.frozen 1
  by_cases h0 : err = 0
  · subst h0
    have H1 : Hid (Blk ((w.setCell ⟨g, 1, none⟩ (.int .i64 p)).setCell ⟨g, 0, none⟩ (.slice none 0 0)) g 105 #[.slice none 0 0, .int .i64 p]) := Lib.hid (by
      have := (h.set_ 1 (.int .i64 p)).set_ 0 (.slice none 0 0)
      simpa using this)
    have H2 : Hid (Only (fun k => k = g) w ((w.setCell ⟨g, 1, none⟩ (.int .i64 p)).setCell ⟨g, 0, none⟩ (.slice none 0 0))) := Lib.hid
      (((Only.refl (fun k => k = g) w).setCell (p := ⟨g, 1, none⟩) (.inl rfl) _).setCell (p := ⟨g, 0, none⟩) (.inl rfl) _)
    clear h
    go_enter Tryz.func73, Tryz.ntmps73
    go_wp2
    go_end0
    exact ⟨rfl, H1.out, H2.out⟩
  · have hb : (err == 0) = false := by simpa using h0
    have H0 := Lib.hid (errOf_ne (p := p) h0)
    have H1 : Hid (Blk (w.setCell ⟨g, 0, none⟩ (.slice none 0 0)) g 105 #[.slice none 0 0, .int .i64 err]) := Lib.hid (by
      have := h.set_ 0 (.slice none 0 0)
      simpa using this)
    have H2 : Hid (Only (fun k => k = g) w (w.setCell ⟨g, 0, none⟩ (.slice none 0 0))) := Lib.hid
      ((Only.refl (fun k => k = g) w).setCell (p := ⟨g, 0, none⟩) (.inl rfl) _)
    clear h h0
    go_enter Tryz.func73, Tryz.ntmps73
    go_wp2
    go_end0
    exact ⟨rfl, by rw [H0.out]; exact H1.out, H2.out⟩

set_option maxHeartbeats 400000 in
theorem Left_any (base g q : Nat) (bs : List Nat) (err : Int) (w : World) (h : Rd w base g q bs err) :
    Calls Tryz.prog 51 #[.pointer (some ⟨g, 0, none⟩)] w fun e w' => e = .returned (.int .i64 bs.length) ∧ w = w' := by
  obtain ⟨A, c, h, -⟩ := h
  have hc0 : w.cell? ⟨g, 0, none⟩ = some (.slice A bs.length c) := by rw [h.cell 0]; rfl
  clear h
  go_enter Tryz.func51, Tryz.ntmps51
  go_wp2
  go_ret
  exact ⟨rfl, rfl⟩

set_option maxHeartbeats 400000 in
theorem Err_any (base g q : Nat) (bs : List Nat) (err : Int) (w : World) (h : Rd w base g q bs err) :
    Calls Tryz.prog 108 #[.pointer (some ⟨g, 0, none⟩)] w fun e w' => e = .returned (.int .i64 err) ∧ w = w' := by
  obtain ⟨A, c, h, -⟩ := h
  have hc0 : w.cell? ⟨g, 1, none⟩ = some (.int .i64 err) := by rw [h.cell 1]; rfl
  clear h
  go_enter Tryz.func108, Tryz.ntmps108
  go_wp2
  go_ret
  exact ⟨rfl, rfl⟩

/-- what End answers -/
def endOf (n : Nat) (err : Int) : Int := if err = 0 ∧ 0 < n then 11 else err
theorem endOf_yes {n : Nat} {err : Int} (h : err = 0 ∧ 0 < n) : endOf n err = 11 := if_pos h
theorem endOf_no {n : Nat} {err : Int} (h : ¬ (err = 0 ∧ 0 < n)) : endOf n err = err := if_neg h

/-! ### Num, Raw -/
/-- what is left, and the error, behind a read that wants p (0: it goes through) and takes d -/
def restOf (bs : List Nat) (p : Int) (d : Int) : List Nat := if p = 0 then bs.drop d.toNat else []
def errBy (err p : Int) : Int := if p = 0 then err else errOf err p
theorem restOf_ok {bs : List Nat} {p d : Int} (h : p = 0) : restOf bs p d = bs.drop d.toNat := if_pos h
theorem restOf_no {bs : List Nat} {p d : Int} (h : p ≠ 0) : restOf bs p d = [] := if_neg h
theorem errBy_ok {err p : Int} (h : p = 0) : errBy err p = err := if_pos h
theorem errBy_no {err p : Int} (h : p ≠ 0) : errBy err p = errOf err p := if_neg h

/-- the store of the rest -/
theorem rest_set {w : World} {g b off l c d : Nat} {err : Int} (base q : Nat) (bs : List Nat) (hl : l = bs.length) (h : Blk w g 105 #[.slice (some ⟨b, off, none⟩) l c, .int .i64 err]) (hr : RB w w.heap.size (some ⟨b, off, none⟩) bs) (hq : b = q) (hc : l ≤ c) (hm : c ≤ maxLen) (h1 : base ≤ g) (h2 : base ≤ q) (h3 : q = g → bs = []) (h4 : q < w.heap.size) (hd : d ≤ l) (off' : Nat) (ho : off' = off + d ∨ d = l) :
    Rd (w.setCell ⟨g, 0, none⟩ (.slice (some ⟨b, off', none⟩) (l - d) (c - d))) base g q (bs.drop d) err ∧ Only (fun k => k = g) w (w.setCell ⟨g, 0, none⟩ (.slice (some ⟨b, off', none⟩) (l - d) (c - d))) := by
  have hO : Only (fun k => k = g) w (w.setCell ⟨g, 0, none⟩ (.slice (some ⟨b, off', none⟩) (l - d) (c - d))) := (Only.refl (fun k => k = g) w).setCell (p := ⟨g, 0, none⟩) (.inl rfl) _
  refine ⟨⟨some ⟨b, off', none⟩, c - d, ?_, ?_, ?_, ?_, ?_, h1, h2, (fun e => by rw [h3 e]; simp), by simpa [World.setCell] using h4⟩, hO⟩
  · have := h.set_ 0 (.slice (some ⟨b, off', none⟩) (l - d) (c - d))
    rw [List.length_drop, ← hl]
    simpa using this
  · have hcut : RB w w.heap.size (some ⟨b, off', none⟩) (bs.drop d) := by
      rcases ho with rfl | e
      · have := hr.cut rfl d bs.length (Nat.le_refl _) (by omega)
        rwa [List.take_length] at this
      · rw [List.drop_of_length_le (by omega)]; exact RB.empty _ _ _
    by_cases hz : bs = []
    · rw [hz, List.drop_nil]; exact RB.empty _ _ _
    · exact (hcut.one hO (Nat.le_refl _) (fun a e => by injection e with e; subst e; exact fun e => hz (h3 (hq.symm.trans e)))).more hO.size
  · intro a e; injection e with e; subst e; subst hq; exact ⟨_, rfl⟩
  · rw [List.length_drop]; omega
  · omega

/-- what a read leaves -/
def ReadBy (base g q : Nat) (bs : List Nat) (err p d : Int) (w w' : World) : Prop :=
  Rd w' base g q (restOf bs p d) (errBy err p) ∧ Only (fun k => k = g) w w'

/-- the error of a piece -/
def rawErr (len : Nat) (n : Int) : Int := if n < 0 then 2 else if (len : Int) < n then 10 else 0
theorem rawErr_arg {len : Nat} {n : Int} (h : n < 0) : rawErr len n = 2 := if_pos h
theorem rawErr_short {len : Nat} {n : Int} (h : ¬ n < 0) (h2 : (len : Int) < n) : rawErr len n = 10 := by unfold rawErr; rw [if_neg h, if_pos h2]
theorem rawErr_ok {len : Nat} {n : Int} (h : ¬ n < 0) (h2 : ¬ (len : Int) < n) : rawErr len n = 0 := by unfold rawErr; rw [if_neg h, if_neg h2]
/-- what Raw answers -/
def rawVal (bs : List Nat) (n : Int) : List Nat := if rawErr bs.length n = 0 then bs.take n.toNat else []
theorem rawVal_ok {bs : List Nat} {n : Int} (h : rawErr bs.length n = 0) : rawVal bs n = bs.take n.toNat := if_pos h
theorem rawVal_no {bs : List Nat} {n : Int} (h : rawErr bs.length n ≠ 0) : rawVal bs n = [] := if_neg h

def RawPost (base g q : Nat) (bs : List Nat) (err n : Int) (w : World) (e : Ending) (w' : World) : Prop :=
  ∃ v, e = .returned v ∧ OB w' w.heap.size 5 v (rawVal bs n) ∧ ReadBy base g q bs err (rawErr bs.length n) n w w'

end Go.Proofs.YtgpahglmhnnobaaGreatDoor

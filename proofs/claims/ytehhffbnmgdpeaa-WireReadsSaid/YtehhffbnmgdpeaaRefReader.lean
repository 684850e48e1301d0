/- Contracts of the document's own Reader. -/
import Derived.Test.YtehhffbnmgdpeaaReader
import Derived.Deep.RegionHeld3
namespace Go.Proofs.Ytehhffbnmgdpeaa
open Go.RowKit
set_option linter.unusedVariables false

/-- what is left of b -/
def lf (b : List Nat) (k : Nat) (err : Int) : List Nat := if err = 0 then b.drop k else []
theorem lf_ok (b : List Nat) (k : Nat) : lf b k 0 = b.drop k := if_pos rfl
theorem lf_no {b : List Nat} {k : Nat} {err : Int} (h : err ≠ 0) : lf b k err = [] := if_neg h

/-- The document's Reader at block g, over the slice (A, c) that reads as b. -/
def Rf (w : World) (base g : Nat) (A : Option Addr) (c : Nat) (b : List Nat) (k : Nat) (err : Int) : Prop :=
  Blk w g 57 #[.slice A b.length c, .int .i64 (k : Int), .int .i64 err] ∧ base ≤ g ∧ k ≤ b.length
theorem Rf.only {S : Nat → Prop} {w w' : World} {base g : Nat} {A : Option Addr} {c : Nat} {b : List Nat} {k : Nat} {err : Int} (h : Rf w base g A c b k err) (hb : Only S w w') (hg : ¬ S g) : Rf w' base g A c b k err :=
  ⟨h.1.only hb hg, h.2⟩
theorem Rf.below {w w' : World} {base g : Nat} {A : Option Addr} {c : Nat} {b : List Nat} {k : Nat} {err : Int} (h : Rf w base g A c b k err) (hb : Below w.heap.size w w') : Rf w' base g A c b k err :=
  h.only (Only.of_below hb (fun _ => False)) (fun h => h)

set_option maxHeartbeats 400000 in
theorem FLeft_any (base g : Nat) (A : Option Addr) (c : Nat) (b : List Nat) (k : Nat) (err : Int) (w : World) (h : Rf w base g A c b k err) (hl : b.length ≤ 140737488355328) :
    Calls Try.prog 32 #[.pointer (some ⟨g, 0, none⟩)] w fun e w' => e = .returned (.int .i64 ((lf b k err).length : Nat)) ∧ ∃ n, w' = w.drewN n := by
  obtain ⟨h, -, hk⟩ := h
  have hc0 : w.cell? ⟨g, 0, none⟩ = some (.slice A b.length c) := by rw [h.cell 0]; rfl
  have hc1 : w.cell? ⟨g, 1, none⟩ = some (.int .i64 (k : Int)) := by rw [h.cell 1]; rfl
  have hc2 : w.cell? ⟨g, 2, none⟩ = some (.int .i64 err) := by rw [h.cell 2]; rfl
  clear h
  by_cases h0 : err = 0
  · subst h0
    have H0 : Hid (((lf b k 0).length : Int) = (b.length : Int) - (k : Int)) := Lib.hid (by rw [lf_ok, List.length_drop]; omega)
    go_enter Try.func32, Try.ntmps32
    go_wp2
    go_quiet (fail)
    go_wp2
    go_ret
    exact ⟨ret_int H0.out.symm, _, rfl⟩
  · have H0 : Hid (((lf b k err).length : Int) = 0) := Lib.hid (by rw [lf_no h0]; rfl)
    have hb : (err != 0) = true := by simpa using h0
    clear h0
    go_enter Try.func32, Try.ntmps32
    go_wp2
    go_ret
    exact ⟨ret_int H0.out.symm, 0, rfl⟩

set_option maxHeartbeats 400000 in
theorem FEnd_any (base g : Nat) (A : Option Addr) (c : Nat) (b : List Nat) (k : Nat) (err : Int) (w : World) (h : Rf w base g A c b k err) (hl : b.length ≤ 140737488355328) :
    Calls Try.prog 30 #[.pointer (some ⟨g, 0, none⟩)] w fun e w' => e = .returned (.int .i64 (endOf (lf b k err).length err)) ∧ ∃ n, w' = w.drewN n := by
  obtain ⟨h, -, hk⟩ := h
  have hc0 : w.cell? ⟨g, 0, none⟩ = some (.slice A b.length c) := by rw [h.cell 0]; rfl
  have hc1 : w.cell? ⟨g, 1, none⟩ = some (.int .i64 (k : Int)) := by rw [h.cell 1]; rfl
  have hc2 : w.cell? ⟨g, 2, none⟩ = some (.int .i64 err) := by rw [h.cell 2]; rfl
  clear h
  by_cases h0 : err = 0
  · subst h0
    by_cases h1 : k < b.length
    · have H0 : Hid (endOf (lf b k 0).length 0 = 11) := Lib.hid (endOf_yes ⟨rfl, by rw [lf_ok, List.length_drop]; omega⟩)
      have hb : decide ((k : Int) < (b.length : Int)) = true := decide_eq_true (by omega)
      go_enter Try.func30, Try.ntmps30
      go_wp2
      go_quiet (fail)
      go_wp2
      go_ret
      exact ⟨ret_int H0.out.symm, _, rfl⟩
    · have H0 : Hid (endOf (lf b k 0).length 0 = 0) := Lib.hid (endOf_no (fun h => by have := h.2; rw [lf_ok, List.length_drop] at this; omega))
      have hb : decide ((k : Int) < (b.length : Int)) = false := decide_eq_false (by omega)
      go_enter Try.func30, Try.ntmps30
      go_wp2
      go_quiet (fail)
      go_wp2
      go_ret
      exact ⟨ret_int H0.out.symm, _, rfl⟩
  · have H0 : Hid (endOf (lf b k err).length err = err) := Lib.hid (endOf_no (fun h => h0 h.1))
    have hb : (err == 0) = false := by simpa using h0
    clear h0
    go_enter Try.func30, Try.ntmps30
    go_wp2
    go_quiet (fail)
    go_wp2
    go_ret
    exact ⟨ret_int H0.out.symm, _, rfl⟩

/-- what a read of the document's leaves -/
def FRead (base g : Nat) (A : Option Addr) (c : Nat) (b : List Nat) (k : Nat) (err p d : Int) (w w' : World) : Prop :=
  ∃ k' err', Rf w' base g A c b k' err' ∧ lf b k' err' = restOf (lf b k err) p d ∧ err' = errBy err p ∧ Only (fun k => k = g) w w'
def FRawPost (base g : Nat) (A : Option Addr) (c : Nat) (b : List Nat) (k : Nat) (err n : Int) (w : World) (e : Ending) (w' : World) : Prop :=
  ∃ v, e = .returned v ∧ OB w' w.heap.size 5 v (rawVal (lf b k err) n) ∧ FRead base g A c b k err (rawErr (lf b k err).length n) n w w'
theorem rawVal_nil (n : Int) : rawVal [] n = [] := by unfold rawVal; split <;> simp
theorem restOf_nil (p d : Int) : restOf [] p d = [] := by unfold restOf; split <;> simp
theorem errBy_ne {err : Int} (p : Int) (h : err ≠ 0) : errBy err p = err := by unfold errBy; split; rfl; exact errOf_ne h

set_option maxHeartbeats 1000000 in
theorem FRaw_any (base g : Nat) (A : Option Addr) (c B : Nat) (b : List Nat) (k : Nat) (err n : Int) (w : World) (h : Rf w base g A c b k err) (hr : RB w B A b) (hB : B ≤ w.heap.size) (hc : b.length ≤ c) (hm : c ≤ 140737488355328) (hn1 : -9223372036854775808 ≤ n) (hn2 : n ≤ 9223372036854775807) :
    Calls Try.prog 28 #[.pointer (some ⟨g, 0, none⟩), .int .i64 n] w (FRawPost base g A c b k err n w) := by
  obtain ⟨h, hg, hk⟩ := h
  have hc0 : w.cell? ⟨g, 0, none⟩ = some (.slice A b.length c) := by rw [h.cell 0]; rfl
  have hc1 : w.cell? ⟨g, 1, none⟩ = some (.int .i64 (k : Int)) := by rw [h.cell 1]; rfl
  have hc2 : w.cell? ⟨g, 2, none⟩ = some (.int .i64 err) := by rw [h.cell 2]; rfl
  have hf1 := h.frozen 1
  have hf2 := h.frozen 2
  by_cases h0 : err = 0
  · subst h0
    have hlen : (b.drop k).length = b.length - k := List.length_drop
    have HB : Hid (∀ (m : Nat) (p : Int) (o : Obj), Rf (((w.drewN m).setCell ⟨g, 2, none⟩ (.int .i64 p)).alloc o) base g A c b k p ∧ Only (fun k => k = g) w (((w.drewN m).setCell ⟨g, 2, none⟩ (.int .i64 p)).alloc o)) := Lib.hid fun m p o => by
      have := Blk.alloc ((h.drewN m).set_ 2 (.int .i64 p)) o
      exact ⟨⟨by simpa using this, hg, hk⟩, (((Only.refl (fun k => k = g) w).drewN m).setCell (p := ⟨g, 2, none⟩) (.inl rfl) _).alloc o⟩
    have HO : Hid (∀ (m : Nat) (p : Int), OB (((w.drewN m).setCell ⟨g, 2, none⟩ (.int .i64 p)).alloc (.cells #[] 5)) w.heap.size 5 (.slice (some ⟨w.heap.size, 0, none⟩) 0 0) []) := Lib.hid fun m p => by
      have := World.ownsRow_lit (base := w.heap.size) (e := 5) (size := 1) ((w.drewN m).setCell ⟨g, 2, none⟩ (.int .i64 p)) #[] 0 (by simp [World.setCell]) (Nat.zero_le _) rfl
      exact ⟨IsBytes.nil, by simpa [World.setCell, cells8] using this⟩
    unfold FRawPost FRead
    rw [lf_ok]
    by_cases hn : n < 0
    · have h0 := rawErr_arg (len := (b.drop k).length) hn
      have hne : rawErr (b.drop k).length n ≠ 0 := by rw [h0]; decide
      have HV := Lib.hid (rawVal_no hne)
      have HR := Lib.hid (restOf_no (bs := b.drop k) (d := n) hne)
      have HE := Lib.hid (errBy_no (err := 0) hne)
      rw [HR.out, HE.out, HV.out, h0]
      have HL : Hid (lf b k 2 = []) := Lib.hid (lf_no (by decide))
      clear h hr h0 HR HE HV hne hlen
      go_enter Try.func28, Try.ntmps28
      go_wp2
      go_ret
      exact ⟨_, rfl, HO.out 0 2, k, 2, (HB.out 0 2 _).1, HL.out, rfl, (HB.out 0 2 _).2⟩
    by_cases hl : ((b.drop k).length : Int) < n
    · have h0 := rawErr_short hn hl
      have hne : rawErr (b.drop k).length n ≠ 0 := by rw [h0]; decide
      have HV := Lib.hid (rawVal_no hne)
      have HR := Lib.hid (restOf_no (bs := b.drop k) (d := n) hne)
      have HE := Lib.hid (errBy_no (err := 0) hne)
      rw [HR.out, HE.out, HV.out, h0]
      have HL : Hid (lf b k 10 = []) := Lib.hid (lf_no (by decide))
      have hl2 : (b.length : Int) - (k : Int) < n := by omega
      clear h hr h0 HR HE HV hne hlen hl
      go_enter Try.func28, Try.ntmps28
      go_wp2
      go_quiet (fail)
      go_wp2
      go_ret
      exact ⟨_, rfl, HO.out _ 10, k, 10, (HB.out _ 10 _).1, HL.out, rfl, (HB.out _ 10 _).2⟩
    · have h0 := rawErr_ok hn hl
      obtain ⟨d, rfl⟩ := Int.eq_ofNat_of_zero_le (by omega : 0 ≤ n)
      have hd : k + d ≤ b.length := by omega
      have HV : Hid (rawVal (b.drop k) (d : Int) = (b.take (k + d)).drop k) := Lib.hid (by rw [rawVal_ok h0, Int.toNat_natCast, List.drop_take]; congr 1; omega)
      have HR : Hid (restOf (b.drop k) (rawErr (b.drop k).length (d : Int)) (d : Int) = b.drop (k + d)) := Lib.hid (by rw [restOf_ok h0, Int.toNat_natCast, List.drop_drop])
      have HE := Lib.hid (errBy_ok (err := 0) h0)
      rw [HR.out, HE.out, HV.out]
      have hl2 : (d : Int) ≤ (b.length : Int) - (k : Int) := by omega
      have hlt : ((b.take (k + d)).drop k).length = d := by simp; omega
      have hkd : IntKind.i64.wrap ((k : Int) + (d : Int)) = (k : Int) + (d : Int) := by rw [IntKind.wrap_i64]; omega
      have s1 : (0 : Int) ≤ (k : Int) := by omega
      have s2 : (k : Int) ≤ (k : Int) + (d : Int) := by omega
      have s3 : (k : Int) + (d : Int) ≤ (c : Int) := by omega
      have HC : Hid (∀ (wx : World) A' c', RB wx B A' ((b.take (k + d)).drop k) ∧ B ≤ wx.heap.size → Calls Try.prog 11 #[.slice A' d c'] wx (NewB ((b.take (k + d)).drop k) wx)) := Lib.hid fun wx A' c' h' => by
        have := Copy_any A' c' B ((b.take (k + d)).drop k) wx h'.1 h'.2 (by omega)
        rwa [hlt] at this
      have HQ : Hid (∀ wq, (∃ n, wq = w.drewN n) → wq.cell? ⟨g, 0, none⟩ = some (.slice A b.length c) ∧ wq.cell? ⟨g, 1, none⟩ = some (.int .i64 (k : Int)) ∧ ∀ (m : Nat) (w' : World) (v' : Value), OB w' (wq.drewN m).heap.size 5 v' ((b.take (k + d)).drop k) → Below (wq.drewN m).heap.size (wq.drewN m) w' →
          w'.cell? ⟨g, 0, none⟩ = some (.slice A b.length c) ∧ w'.cell? ⟨g, 1, none⟩ = some (.int .i64 (k : Int)) ∧ w'.frozen? ⟨g, 1, none⟩ = false ∧ OB w' w.heap.size 5 v' ((b.take (k + d)).drop k) ∧ Rf (w'.setCell ⟨g, 1, none⟩ (.int .i64 ((k : Int) + (d : Int)))) base g A c b (k + d) 0 ∧ Only (fun k => k = g) w (w'.setCell ⟨g, 1, none⟩ (.int .i64 ((k : Int) + (d : Int)))) ∧
          OB (w'.setCell ⟨g, 1, none⟩ (.int .i64 ((k : Int) + (d : Int)))) w.heap.size 5 v' ((b.take (k + d)).drop k)) := Lib.hid (by
        rintro _ ⟨n1, rfl⟩
        rw [show (k : Int) + (d : Int) = ((k + d : Nat) : Int) from by omega]
        refine ⟨hc0, hc1, fun m w' v' ho' hb' => ?_⟩
        have hb : Below w.heap.size w w' := ⟨hb'.os, hb'.tape, hb'.output, hb'.size, hb'.block⟩
        have ho : OB w' w.heap.size 5 v' ((b.take (k + d)).drop k) := ho'
        have hb1 := h.below hb h.lt
        have h2 := hb1.set_ 1 (.int .i64 ((k : Int) + (d : Int)))
        have hO : Only (fun k => k = g) w' (w'.setCell ⟨g, 1, none⟩ (.int .i64 ((k : Int) + (d : Int)))) := (Only.refl (fun k => k = g) w').setCell (p := ⟨g, 1, none⟩) (.inl rfl) _
        refine ⟨by rw [hb1.cell 0]; rfl, by rw [hb1.cell 1]; rfl, hb1.frozen 1, ho, ⟨by simpa using h2, hg, hd⟩, (Only.of_below hb _).trans hO (fun _ _ h => h), ho.only hO fun q hq e => ?_⟩
        have := (ho.2.lt q hq).1
        have := h.lt
        omega)
      have hBq : ∀ n : Nat, B ≤ (w.drewN n).heap.size := fun _ => hB
      rcases Nat.eq_zero_or_pos b.length with hz | hz
      · have hnil : b = [] := List.length_eq_zero_iff.1 hz
        have HX : Hid (∀ wq, (∃ n, wq = w.drewN n) → ∀ A', RB (wq.drewN 1) B A' ((b.take (k + d)).drop k) ∧ B ≤ (wq.drewN 1).heap.size) := Lib.hid (by
          rintro _ ⟨n1, rfl⟩ A'
          exact ⟨by rw [hnil]; simpa using RB.empty _ _ _, hB⟩)
        obtain rfl : k = 0 := by omega
        obtain rfl : d = 0 := by omega
        have HZ : Hid (b.length = 0) := Lib.hid hz
        clear h0 hl HR HE HV hlen hlt hn h hr hnil hBq
        have t0 : (0 : Int) ≤ (c : Int) := by omega
        have t1 : IntKind.i64.wrap 0 = 0 := by decide
        clear hkd s1 s2 s3
        rcases A with _ | a
        · rcases Nat.eq_zero_or_pos c with hcz | hcz
          · subst hcz
            go_enter Try.func28, Try.ntmps28
            go_wp2
            go_quiet (fail)
            go_wp2
            generalize hwq : w.drewN nq = wq
            obtain ⟨hq0, hq1, HHq⟩ := HQ.out wq ⟨nq, hwq.symm⟩
            have hrq := HX.out wq ⟨nq, hwq.symm⟩
            clear hwq
            go_region_held3 (fun w' => w'.cell? ⟨g, 0, none⟩ = some (.slice none b.length 0) ∧ w'.cell? ⟨g, 1, none⟩ = some (.int .i64 0)) (go_keep)
              ((go_at_call 11; refine (HC.out (wq.drewN 1) _ _ (hrq _)).mono ?_; rintro e w' ⟨v', rfl, ho', hb'⟩; obtain ⟨hc0', hc1', hf1', ho, hrf, hon, hob⟩ := HHq 1 w' v' ho' hb'; have hc1'' : w'.cell? ⟨g, 1, none⟩ = some (.int .i64 0) := hc1'))
            go_wp2
            go_ret
            exact ⟨_, rfl, hob, 0 + 0, 0, hrf, lf_ok _ _, rfl, hon⟩
          · have t4 : (0 : Int) < (c : Int) := by omega
            go_enter Try.func28, Try.ntmps28
            go_wp2
            go_quiet (fail)
            go_wp2
            generalize hwq : w.drewN nq = wq
            obtain ⟨hq0, hq1, HHq⟩ := HQ.out wq ⟨nq, hwq.symm⟩
            have hrq := HX.out wq ⟨nq, hwq.symm⟩
            clear hwq
            go_region_held3 (fun w' => w'.cell? ⟨g, 0, none⟩ = some (.slice none b.length c) ∧ w'.cell? ⟨g, 1, none⟩ = some (.int .i64 0)) (go_keep)
              ((go_at_call 11; refine (HC.out (wq.drewN 1) _ _ (hrq _)).mono ?_; rintro e w' ⟨v', rfl, ho', hb'⟩; obtain ⟨hc0', hc1', hf1', ho, hrf, hon, hob⟩ := HHq 1 w' v' ho' hb'; have hc1'' : w'.cell? ⟨g, 1, none⟩ = some (.int .i64 0) := hc1'))
            go_wp2
            go_ret
            exact ⟨_, rfl, hob, 0 + 0, 0, hrf, lf_ok _ _, rfl, hon⟩
        · rcases Nat.eq_zero_or_pos c with hcz | hcz
          · subst hcz
            go_enter Try.func28, Try.ntmps28
            go_wp2
            go_quiet (fail)
            go_wp2
            generalize hwq : w.drewN nq = wq
            obtain ⟨hq0, hq1, HHq⟩ := HQ.out wq ⟨nq, hwq.symm⟩
            have hrq := HX.out wq ⟨nq, hwq.symm⟩
            clear hwq
            go_region_held3 (fun w' => w'.cell? ⟨g, 0, none⟩ = some (.slice (some a) b.length 0) ∧ w'.cell? ⟨g, 1, none⟩ = some (.int .i64 0)) (go_keep)
              ((go_at_call 11; refine (HC.out (wq.drewN 1) _ _ (hrq _)).mono ?_; rintro e w' ⟨v', rfl, ho', hb'⟩; obtain ⟨hc0', hc1', hf1', ho, hrf, hon, hob⟩ := HHq 1 w' v' ho' hb'; have hc1'' : w'.cell? ⟨g, 1, none⟩ = some (.int .i64 0) := hc1'))
            go_wp2
            go_ret
            exact ⟨_, rfl, hob, 0 + 0, 0, hrf, lf_ok _ _, rfl, hon⟩
          · have t4 : (0 : Int) < (c : Int) := by omega
            go_enter Try.func28, Try.ntmps28
            go_wp2
            go_quiet (fail)
            go_wp2
            generalize hwq : w.drewN nq = wq
            obtain ⟨hq0, hq1, HHq⟩ := HQ.out wq ⟨nq, hwq.symm⟩
            have hrq := HX.out wq ⟨nq, hwq.symm⟩
            clear hwq
            go_region_held3 (fun w' => w'.cell? ⟨g, 0, none⟩ = some (.slice (some a) b.length c) ∧ w'.cell? ⟨g, 1, none⟩ = some (.int .i64 0)) (go_keep)
              ((go_at_call 11; refine (HC.out (wq.drewN 1) _ _ (hrq _)).mono ?_; rintro e w' ⟨v', rfl, ho', hb'⟩; obtain ⟨hc0', hc1', hf1', ho, hrf, hon, hob⟩ := HHq 1 w' v' ho' hb'; have hc1'' : w'.cell? ⟨g, 1, none⟩ = some (.int .i64 0) := hc1'))
            go_wp2
            go_ret
            exact ⟨_, rfl, hob, 0 + 0, 0, hrf, lf_ok _ _, rfl, hon⟩
      · obtain ⟨b0, off, rfl, _, _⟩ := hr.all hz
        have HCut := Lib.hid (hr.cut rfl k (k + d) hd (by omega))
        by_cases hck : c = k
        · have HX : Hid (∀ wq, (∃ n, wq = w.drewN n) → ∀ A', RB (wq.drewN 1) B A' ((b.take (k + d)).drop k) ∧ B ≤ (wq.drewN 1).heap.size) := Lib.hid (by
            rintro _ ⟨n1, rfl⟩ A'
            have hnil : (b.take (k + d)).drop k = [] := List.length_eq_zero_iff.1 (by omega)
            exact ⟨by rw [hnil]; exact RB.empty _ _ _, hB⟩)
          obtain rfl : d = 0 := by omega
          subst hck
          have t1 : IntKind.i64.wrap (c : Int) = (c : Int) := by rw [IntKind.wrap_i64]; omega
          have t2 : IntKind.i64.wrap ((c : Int) + 0) = (c : Int) := by rw [IntKind.wrap_i64]; omega
          have t3 : (c : Int) ≤ (c : Int) := Int.le_refl _
          clear h0 hl HR HE HV hlen hlt hn h hr hz hBq HCut hkd s2 s3
          go_enter Try.func28, Try.ntmps28
          go_wp2
          go_quiet (fail)
          go_wp2
          generalize hwq : w.drewN nq = wq
          obtain ⟨hq0, hq1, HHq⟩ := HQ.out wq ⟨nq, hwq.symm⟩
          have hrq := HX.out wq ⟨nq, hwq.symm⟩
          clear hwq
          go_region_held3 (fun w' => w'.cell? ⟨g, 0, none⟩ = some (.slice (some ⟨b0, off, none⟩) b.length c) ∧ w'.cell? ⟨g, 1, none⟩ = some (.int .i64 (c : Int))) (go_keep)
            ((go_at_call 11; refine (HC.out (wq.drewN 1) _ _ (hrq _)).mono ?_; rintro e w' ⟨v', rfl, ho', hb'⟩; obtain ⟨hc0', hc1', hf1', ho, hrf, hon, hob⟩ := HHq 1 w' v' ho' hb'))
          go_wp2
          go_ret
          exact ⟨_, rfl, hob, c + 0, 0, hrf, lf_ok _ _, rfl, hon⟩
        · have HX : Hid (∀ wq, (∃ n, wq = w.drewN n) → RB (wq.drewN 1) B (some ⟨b0, off + k, none⟩) ((b.take (k + d)).drop k) ∧ B ≤ (wq.drewN 1).heap.size) := Lib.hid (by
            rintro _ ⟨n1, rfl⟩
            exact ⟨HCut.out, hB⟩)
          clear h0 hl HR HE HV hlen hlt hn h hr hz hBq
          go_enter Try.func28, Try.ntmps28
          go_wp2
          go_quiet (fail)
          go_wp2
          generalize hwq : w.drewN nq = wq
          obtain ⟨hq0, hq1, HHq⟩ := HQ.out wq ⟨nq, hwq.symm⟩
          have hrq := HX.out wq ⟨nq, hwq.symm⟩
          clear hwq
          go_region_held3 (fun w' => w'.cell? ⟨g, 0, none⟩ = some (.slice (some ⟨b0, off, none⟩) b.length c) ∧ w'.cell? ⟨g, 1, none⟩ = some (.int .i64 (k : Int))) (go_keep)
            ((go_at_call 11; rw [show ((k : Int) + (d : Int)).toNat - k = d from by omega]; refine (HC.out (wq.drewN 1) _ _ hrq).mono ?_; rintro e w' ⟨v', rfl, ho', hb'⟩; obtain ⟨hc0', hc1', hf1', ho, hrf, hon, hob⟩ := HHq 1 w' v' ho' hb'))
          go_wp2
          go_ret
          exact ⟨_, rfl, hob, k + d, 0, hrf, lf_ok _ _, rfl, hon⟩
  · have HV : Hid (lf b k err = []) := Lib.hid (lf_no h0)
    have HL : Hid (lf b k err = []) := Lib.hid (lf_no h0)
    have hb : (err != 0) = true := by simpa using h0
    unfold FRawPost FRead
    rw [HV.out, rawVal_nil, restOf_nil, errBy_ne _ h0]
    have HR : Hid (Rf (w.alloc (.cells #[] 5)) base g A c b k err) := Lib.hid ⟨h.alloc _, hg, hk⟩
    clear h hr h0 HV
    go_enter Try.func28, Try.ntmps28
    go_wp2
    go_ret
    exact ⟨_, rfl, ⟨IsBytes.nil, World.ownsRow_lit w #[] 0 (Nat.le_refl _) (Nat.zero_le _) rfl⟩, k, err, HR.out, HL.out, rfl, (Only.refl _ _).alloc _⟩

end Go.Proofs.Ytehhffbnmgdpeaa

/- recfile: the law's 'alike' of a file and the document's file. -/
import Derived.Test.YtcclcecjidlojaaDoorRfD4
import Derived.Deep.QuietTactic
import Derived.BigQuiet
import Derived.Test.YtcclcecjidlojaaDoorRfD6
import Derived.Test.YtcclcecjidlojaaDoorRfClone
namespace Go.Proofs.YtcclcecjidlojaaDoor
open Go.RowKit
set_option linter.unusedVariables false
section
variable {S0 : Fp} {l : List Ass} {w0 w : World} {g m : Nat} {K V : Int} {L : List Rc} {R : List Nat}
set_option maxRecDepth 100000 in
set_option maxHeartbeats 1000000 in
theorem alike_yes [Stable (Sep l)] {s n : Nat} {lv lo : Int} (h : St S0 (RfA g K V (s : Int) R lv lo :: DfA m K V (s : Int) L :: l) w0 w) (hs : 0 < s) (hR : R.length = n * s) (hn : n ≤ 65536) (hL : L.length = n) (hlv : lv = ((liveL L n : Nat) : Int)) :
    Calls Tryd.prog 14 #[.pointer (some ⟨g, 0, none⟩), .pointer (some ⟨m, 0, none⟩)] w fun e w' => e = .returned (.bool true) ∧ ∃ q, w' = w.drewN q := by
  obtain ⟨A, cap, c0, c1, c2, c3⟩ := df_head h.swap
  rw [hL] at c3
  have HK := fun q => Lib.hid (rfKind_any (h.drewN q))
  have HV := fun q => Lib.hid (rfVersion_any (h.drewN q))
  have HS := fun q => Lib.hid (rfSize_any (h.drewN q))
  have HL := fun q => Lib.hid (rfLive_any (h.drewN q))
  have HC := fun q => Lib.hid (by
    obtain ⟨A, cap, hr⟩ := rf_read (h.drewN q)
    exact rfCount_any hr hs hR (by omega))
  have HM := fun q => Lib.hid (refLive_st (h.drewN q).swap (by omega))
  rw [hL, ← hlv] at HM
  clear h hs hR hn hL hlv
  go_enter Tryd.func14, Tryd.ntmps14
  go_wp2
  go_quiet ((first
    | (go_at_call 37; exact Calls.quiet_of_same ((HK _).out.mono fun e w' h => ⟨h.1, h.2.symm⟩))
    | (go_at_call 38; exact Calls.quiet_of_same ((HV _).out.mono fun e w' h => ⟨h.1, h.2.symm⟩))
    | (go_at_call 28; exact Calls.quiet_of_same ((HS _).out.mono fun e w' h => ⟨h.1, h.2.symm⟩))
    | (go_at_call 27; exact Calls.quiet_of_same ((HL _).out.mono fun e w' h => ⟨h.1, h.2.symm⟩))
    | (go_at_call 26; exact Calls.quiet_of ((HC _).out))
    | (go_at_call 39; exact Calls.quiet_of_same ((HM _).out.mono fun e w' h => ⟨h.1, h.2.symm⟩))))
  go_wp2
  go_ret
  exact ⟨rfl, nq, rfl⟩
end
end Go.Proofs.YtcclcecjidlojaaDoor

/- recfile: the law's spoil. -/
namespace Go.Proofs.YtcclcecjidlojaaDoor
open Go.RowKit
set_option linter.unusedVariables false
set_option maxRecDepth 100000 in
set_option maxHeartbeats 1000000 in
/-- what is spoilt is the list's own -/
theorem spoil9 {S0 : Fp} {l : List Ass} [Stable (Sep l)] {w0 w : World} {A : Option Addr} {n cap : Nat} {bs : List Nat} (h : St S0 (ObA 5 (.slice A n cap) bs :: l) w0 w) (hn : bs.length = n) (hl : n ≤ 140737488351232) :
    Calls Tryd.prog 21 #[.slice A n cap] w fun e w' => e = .returned (.tuple #[]) ∧ St S0 l w0 w' := by
  obtain ⟨i0, hi, hz0, hz1, hz2⟩ := info_parts u8_info
  have HH := Lib.hid h
  have HN := Lib.hid hn
  have HL := Lib.hid hl
  have hnI : (n : Int) ≤ 140737488351232 := by omega
  clear h hn hl
  go_enter Tryd.func21, Tryd.ntmps21
  go_wp2
  go_loopw [6] (fun i wr => ∃ (k : Nat) (b' : List Nat), k ≤ n ∧ i = .int .i64 k ∧ b'.length = n ∧ St S0 (ObA 5 (.slice A n cap) b' :: l) w0 wr) (fun i _ => n - (intOf i).toNat)
  case atStart => exact ⟨0, bs, Nat.zero_le _, rfl, HN.out, HH.out⟩
  case round =>
    obtain ⟨k, b', hk, rfl, hb, hst⟩ := hrel
    by_cases hlt : k < n
    · obtain ⟨g, hA, ⟨u0, hu0⟩, hfz, hst2⟩ := hst.storeObB hb hlt 238 (by decide)
      subst hA
      have H2 := Lib.hid hst2
      have HB : Hid ((b'.set k 238).length = n) := Lib.hid (by rw [List.length_set, hb])
      have hkI : (k : Int) < (n : Int) := by omega
      clear hst hst2 hb hk
      go_wp2
      go_roundw
      case rel => exact ⟨k + 1, _, hlt, by go_num, HB.out, H2.out⟩
      case measure => exact meas_lt hlt
    · obtain rfl : n = k := by omega
      have H2 := Lib.hid hst
      have HB := Lib.hid hb
      clear hst hb hk hlt
      go_wp2
      go_loopw [0, 3] (fun u i wr => ∃ (k : Nat) (b' : List Nat), k ≤ 16 ∧ i = .int .i64 k ∧ b'.length = n + k ∧ St S0 (ObA 5 u b' :: l) w0 wr) (fun _ i _ => 16 - (intOf i).toNat)
      case atStart => exact ⟨0, b', Nat.zero_le _, rfl, HB.out, H2.out⟩
      case round =>
        obtain ⟨k, b', hk, rfl, hb, hst⟩ := hrel
        obtain ⟨A2, c2, hA2, -, -, -, -⟩ := hst.ob.form
        rw [hb] at hA2
        subst hA2
        by_cases hlt : k < 16
        · have H3 := Lib.hid hst
          have HB3 : Hid ((b' ++ [238]).length = n + (k + 1)) := Lib.hid (by rw [List.length_append, hb]; rfl)
          have HL3 : Hid (b'.length + 1 ≤ 140737488355328) := Lib.hid (by have := HL.out; omega)
          have hkI : (k : Int) < 16 := by omega
          clear hst hb hk
          go_wp2_with (at_builtin; refine wpList_append_lit8 _ rfl _ _ 34 rfl 0 5 i0 Tryd.underlying34 hi hz0 hz1 hz2 (.slice A2 (n + k) c2) b' 238 (by rfl) H3.out.ob (by rfl) _ rfl (by decide) HL3.out (Nat.zero_le _) ?_; intro v8 w8 hown8 hg8 hat8; have H8 := Lib.hid (H3.out.grewOb hown8 hg8 hat8 (by simp)); clear hown8 hg8 hat8)
          go_roundw
          case rel => exact ⟨k + 1, _, hlt, by go_num, HB3.out, H8.out⟩
          case measure => exact meas_lt hlt
        · have H3 := Lib.hid hst.drop
          have hkI : ¬ (k : Int) < 16 := by omega
          clear hst hb hk
          go_wp2
          go_end0
          exact ⟨rfl, H3.out⟩
end Go.Proofs.YtcclcecjidlojaaDoor

/- recfile: what is opened, of the program and of the document. -/
namespace Go.Proofs.YtcclcecjidlojaaDoor
open Go.RowKit
set_option linter.unusedVariables false
/-- a file's bytes -/
def Opens (bs : List Nat) : Prop := 16 ≤ bs.length ∧ hdErr bs = 0 ∧ openErr bs = 0
theorem opens_no {bs : List Nat} (h : ¬ Opens bs) : openErr bs ≠ 0 := fun he => h (by
  by_cases h1 : bs.length < 16
  · unfold openErr at he
    rw [if_pos h1] at he
    exact absurd he (by decide)
  · by_cases h2 : hdErr bs = 0
    · exact ⟨by omega, h2, he⟩
    · unfold openErr at he
      rw [if_neg h1, if_neg h2] at he
      exact absurd he h2)
theorem openBad {S0 : Fp} {l : List Ass} {w0 w : World} [Stable (Sep l)] {A : Option Addr} {cap : Nat} {bs : List Nat} (hg : ¬ Opens bs) (h : St S0 l w0 w) (hr : RB w w.heap.size A bs) (hT : TabW w) (hl2 : bs.length ≤ 140737488355328) (hcap : bs.length ≤ cap) :
    Calls Tryd.prog 19 #[.slice A bs.length cap] w fun e w' => e = .returned (.tuple #[.pointer none, .int .i64 (openErr bs)]) ∧ St S0 l w0 w' := by
  by_cases h1 : bs.length < 16 ∨ hdErr bs ≠ 0
  · refine (rfOpen_head h hr (Nat.le_refl _) hT hl2 hcap h1).mono ?_
    rintro e w' ⟨rfl, _, h2⟩
    exact ⟨rfl, h2⟩
  · have h2 : 16 ≤ bs.length := by omega
    have h3 : hdErr bs = 0 := Decidable.byContradiction fun h => h1 (.inr h)
    refine (rfOpen_body h hr (Nat.le_refl _) hT h2 hl2 hcap h3).mono ?_
    rintro e w' (⟨_, rfl, h4⟩ | ⟨h4, _⟩)
    · exact ⟨rfl, h4⟩
    · exact absurd ⟨h2, h3, h4⟩ hg
theorem refOpenNo {S0 : Fp} {l : List Ass} {w0 w : World} [Stable (Sep l)] {A : Option Addr} {cap B : Nat} {bs : List Nat} (hg : ¬ Opens bs) (h : St S0 l w0 w) (hr : RB w B A bs) (hB : B ≤ w.heap.size) (hl2 : bs.length ≤ 140737488355328) (hcap : bs.length ≤ cap) :
    Calls Tryd.prog 20 #[.slice A bs.length cap] w fun e w' => e = .returned (.tuple #[.pointer none, .int .i64 (openErr bs)]) ∧ St S0 l w0 w' := by
  have hne := opens_no hg
  by_cases h1 : bs.length < 16
  · refine (refOpen_short h1).mono ?_
    rintro e w' (⟨_, rfl, hb⟩ | ⟨h0, _⟩)
    · exact ⟨rfl, h.below hb⟩
    · exact absurd h0 hne
  · refine (refOpen_long hr hB (by omega) hl2 hcap).mono ?_
    rintro e w' (⟨_, rfl, hb⟩ | ⟨h0, _⟩)
    · exact ⟨rfl, h.below hb⟩
    · exact absurd h0 hne
theorem refOpenYes {S0 : Fp} {l : List Ass} {w0 w : World} [Stable (Sep l)] {A : Option Addr} {cap B : Nat} {bs : List Nat} (hg : Opens bs) (h : St S0 l w0 w) (hr : RB w B A bs) (hB : B ≤ w.heap.size) (hl2 : bs.length ≤ 140737488355328) (hcap : bs.length ≤ cap) :
    Calls Tryd.prog 20 #[.slice A bs.length cap] w fun e w' => ∃ g, e = .returned (.tuple #[.pointer (some ⟨g, 0, none⟩), .int .i64 0]) ∧ St S0 (DfA g (hd bs 4 1 : Nat) (hd bs 5 1 : Nat) (hd bs 6 2 : Nat) (docL (bs.drop 16) (hd bs 6 2) (hd bs 8 4)) :: l) w0 w' := by
  refine (refOpen_long hr hB hg.1 hl2 hcap).mono ?_
  rintro e w' (⟨h0, _⟩ | ⟨_, g, rfl, hs⟩)
  · exact absurd hg.2.2 h0
  · exact ⟨g, rfl, h.addStL hs⟩
theorem recsErr_all {R : List Nat} {s : Nat} : ∀ n, recsErr R s n = 0 → ∀ j, j < n → recErr R s j = 0
  | 0, _, j, h => absurd h (Nat.not_lt_zero j)
  | n + 1, he, j, h => by
    unfold recsErr at he
    by_cases h0 : recsErr R s n = 0
    · rw [if_pos h0] at he
      rcases Nat.lt_or_ge j n with h1 | h1
      · exact recsErr_all n h0 j h1
      · obtain rfl : j = n := by omega
        exact he
    · rw [if_neg h0] at he
      exact absurd he h0
theorem enc_add9 (d a n : Nat) : enc d (a * 256 ^ d + n) = enc d n := by
  apply List.ext_getElem
  · rw [enc_length, enc_length]
  · intro k h1 h2
    rw [enc_length] at h1
    have g : ∀ m, (enc d m)[k]'(by rw [enc_length]; exact h1) = m / 256 ^ (d - 1 - k) % 256 := fun m => by rw [← nth_lt, enc_nth d m k h1]
    rw [g, g]
    have e : a * 256 ^ d = (a * 256 ^ k * 256) * 256 ^ (d - 1 - k) := by
      rw [Nat.mul_assoc (a * 256 ^ k), show 256 * 256 ^ (d - 1 - k) = 256 ^ (d - k) from by rw [show d - k = (d - 1 - k) + 1 from by omega, Nat.pow_succ, Nat.mul_comm], Nat.mul_assoc, ← Nat.pow_add, show k + (d - k) = d from by omega]
    rw [e, Nat.add_comm, Nat.add_mul_div_right _ _ (Nat.pow_pos (by omega)), Nat.add_mul_mod_self_right]
theorem enc_be9 (l : List Nat) (hb : IsBytes l) : enc l.length (be l) = l := by
  induction l with
  | nil => rfl
  | cons c r ih =>
    have hr : IsBytes r := fun x hx => hb x (List.mem_cons_of_mem _ hx)
    have hc : c < 256 := hb c (List.mem_cons_self ..)
    have h1 : enc (r.length + 1) (be (c :: r)) = be (c :: r) / 256 ^ r.length % 256 :: enc r.length (be (c :: r)) := by
      have := enc_split (r.length + 1) (be (c :: r)) 0 (by omega)
      rw [List.drop_zero, enc_drop _ _ _ (by omega)] at this
      exact this
    have hlt := be_all r hr
    rw [List.length_cons, h1, be_cons, enc_add9, ih hr]
    congr 1
    rw [Nat.add_comm, Nat.add_mul_div_right _ _ (Nat.pow_pos (by omega)), Nat.div_eq_of_lt hlt]
    omega
theorem tk_app {T : List Nat} (a d : Nat) : T.take a ++ (T.drop a).take d = T.take (a + d) := List.take_add.symm
theorem hd_enc {bs : List Nat} (hb : IsBytes bs) (h16 : 16 ≤ bs.length) (o d : Nat) (h : o + d ≤ 16) : enc d (hd bs o d) = ((bs.take 16).drop o).take d := by
  have hl : (((bs.take 16).drop o).take d).length = d := by
    rw [List.length_take, List.length_drop, List.length_take]
    omega
  have := enc_be9 (((bs.take 16).drop o).take d) (((hb.take 16).drop o).take d)
  rw [hl] at this
  exact this
/-- the bytes of what was opened -/
theorem bytesOpen {bs : List Nat} (hb : IsBytes bs) (h : Opens bs) : rfBytes (hd bs 4 1) (hd bs 5 1) (hd bs 6 2) (hd bs 8 4) (bs.drop 16) = bs := by
  obtain ⟨h16, hh, -⟩ := h
  obtain ⟨-, -, h4, hc⟩ := hdErr_ok h16 hh
  have e := fun o d (h : o + d ≤ 16) => hd_enc hb h16 o d h
  have h4' : [83, 82, 69, 67] = (bs.take 16).take 4 := by rw [List.take_take, ← h4]; rfl
  have hH : rfHead (hd bs 4 1) (hd bs 5 1) (hd bs 6 2) (hd bs 8 4) = (bs.take 16).take 12 := by
    unfold rfHead
    rw [e 4 1 (by decide), e 5 1 (by decide), e 6 2 (by decide), e 8 4 (by decide), h4', tk_app, tk_app, tk_app, tk_app]
  unfold rfBytes
  rw [hH, List.take_take, show min 12 16 = 12 from rfl, ← hc, e 12 4 (by decide)]
  have h12 : bs.take 12 = (bs.take 16).take 12 := by rw [List.take_take]; rfl
  rw [h12, tk_app, List.take_take, show min (12 + 4) 16 = 16 from rfl, List.take_append_drop]
/-- the records of what was opened -/
theorem docOpen {bs : List Nat} (hb : IsBytes bs) (h : Opens bs) : recB (docL (bs.drop 16) (hd bs 6 2) (hd bs 8 4)) = bs.drop 16 ∧ Rcs (docL (bs.drop 16) (hd bs 6 2) (hd bs 8 4)) (hd bs 6 2) := by
  have hw := openErr_len h.1 h.2.1 h.2.2
  obtain ⟨hs1, -, -, -⟩ := hdErr_ok h.1 h.2.1
  refine docL_all (by omega) (hb.drop 16) hw.len (recsErr_all _ ?_)
  have he := h.2.2
  unfold openErr at he
  rw [if_neg (by have := h.1; omega), if_pos h.2.1, if_pos ⟨hw.few, hw.len⟩] at he
  exact he
end Go.Proofs.YtcclcecjidlojaaDoor

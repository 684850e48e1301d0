/- frame: what comes of frames that stand one behind the other, fed in pieces (pure). -/
import Derived.Test.YtkdlehekignnhaaDoorFr8
namespace Go.Proofs.YtkdlehekignnhaaDoor
open Go.RowKit
set_option linter.unusedVariables false

/-- frames one behind the other -/
def flatF : List (Nat × List Nat) → List Nat
  | [] => []
  | f :: r => fbytes f.1 f.2 ++ flatF r
def OkF (f : Nat × List Nat) : Prop := f.1 < 256 ∧ f.2.length ≤ 1048576 ∧ IsBytes f.2
theorem flatF_snoc (l : List (Nat × List Nat)) (f : Nat × List Nat) : flatF (l ++ [f]) = flatF l ++ fbytes f.1 f.2 := by
  induction l with
  | nil => show fbytes f.1 f.2 ++ [] = [] ++ fbytes f.1 f.2; rw [List.append_nil, List.nil_append]
  | cons x r ih =>
    show fbytes x.1 x.2 ++ flatF (r ++ [f]) = (fbytes x.1 x.2 ++ flatF r) ++ fbytes f.1 f.2
    rw [ih, List.append_assoc]
theorem frs_flat : ∀ l : List (Nat × List Nat), (∀ f ∈ l, OkF f) → frs (flatF l) = (l, 0)
  | [], _ => frs_nil
  | f :: r, h => by
    obtain ⟨h1, h2, h3⟩ := h f List.mem_cons_self
    show frs (fbytes f.1 f.2 ++ flatF r) = _
    rw [frs_fbytes _ h1 h2 h3, frs_flat r fun g hg => h g (List.mem_cons_of_mem _ hg)]
/-- a cut frame tells nothing but that it is short -/
theorem first_cut {t : Nat} {d x y : List Nat} (hd : d.length ≤ 1048576) (h : x ++ y = fbytes t d) (hy : y ≠ []) : firstErr x = 10 := by
  have hl : x.length + y.length = 9 + d.length := by rw [← List.length_append, h, fbytes_len]
  have hy0 : 0 < y.length := List.length_pos_iff.2 hy
  unfold firstErr
  by_cases h5 : x.length < 5
  · rw [if_pos h5]
  · have hN : frN x = d.length := by
      have h5' : x.take 5 = (fbytes t d).take 5 := by rw [← h, List.take_append_of_le_length (by omega)]
      unfold frN
      rw [h5']
      have e : fbytes t d = enc 1 t ++ (enc 4 d.length ++ (d ++ enc 4 (crc (fbody t d)))) := by
        unfold fbytes
        conv => lhs; arg 1; unfold fbody
        simp only [List.append_assoc]
      have e5 : (fbytes t d).take 5 = enc 1 t ++ enc 4 d.length := by
        rw [e, ← List.append_assoc]
        exact List.take_left' (by rw [List.length_append, enc_length, enc_length])
      rw [e5, List.drop_left' (enc_length 1 t), be_enc]
      exact Nat.mod_eq_of_lt (by omega)
    rw [if_neg h5, hN, if_neg (by omega), if_pos (by omega)]
/-- whatever piece of the frames l stands in x: no fault, some of them are told, and the rest stays -/
theorem got_piece : ∀ (l : List (Nat × List Nat)) (x y : List Nat), (∀ f ∈ l, OkF f) → x ++ y = flatF l →
    gotE 0 (evs x) = 0 ∧ ∃ r, gotF (evs x) ++ r = l ∧ x.drop (gotN (evs x)) ++ y = flatF r
  | [], x, y, _, h => by
    have hx : x = [] := (List.append_eq_nil_iff.1 h).1
    subst hx
    rw [evs_nil']
    exact ⟨rfl, [], rfl, h⟩
  | f :: l, x, y, hok, h => by
    obtain ⟨h1, h2, h3⟩ := hok f List.mem_cons_self
    have h : x ++ y = fbytes f.1 f.2 ++ flatF l := h
    rcases List.append_eq_append_iff.1 h with ⟨a, ha, hy⟩ | ⟨c, hx, hc⟩
    · -- x is cut within the first frame, or ends with it
      by_cases ha0 : a = []
      · subst ha0
        rw [List.append_nil] at ha
        have hx : x = fbytes f.1 f.2 ++ [] := by rw [List.append_nil]; exact ha.symm
        rw [hx, evs_fbytes [] h1 h2 h3, evs_nil']
        refine ⟨rfl, l, rfl, ?_⟩
        have : gotN [⟨f.1, f.2, 0⟩] = (fbytes f.1 f.2).length := by
          rw [fbytes_len]
          rfl
        rw [this, List.append_nil, List.drop_length, List.nil_append, hy, List.nil_append]
      · by_cases hx0 : x.length = 0
        · have hx : x = [] := List.length_eq_zero_iff.1 hx0
          subst hx
          rw [evs_nil']
          exact ⟨rfl, f :: l, rfl, h⟩
        · have he := first_cut h2 ha.symm ha0
          rw [evs_err hx0 (by rw [he]; decide), he]
          exact ⟨rfl, f :: l, rfl, h⟩
    · have hev : evs x = ⟨f.1, f.2, 0⟩ :: evs c := by rw [hx, evs_fbytes c h1 h2 h3]
      obtain ⟨g1, r, g2, g3⟩ := got_piece l c y (fun g hg => hok g (List.mem_cons_of_mem _ hg)) hc.symm
      rw [hev]
      have hE : gotE 0 (⟨f.1, f.2, 0⟩ :: evs c) = gotE 0 (evs c) := rfl
      have hF : gotF (⟨f.1, f.2, 0⟩ :: evs c) = f :: gotF (evs c) := rfl
      have hN : gotN (⟨f.1, f.2, 0⟩ :: evs c) = (fbytes f.1 f.2).length + gotN (evs c) := by
        rw [fbytes_len]
        rfl
      refine ⟨by rw [hE]; exact g1, r, by rw [hF, List.cons_append, g2], ?_⟩
      rw [hN, hx, ← List.drop_drop, List.drop_left]
      exact g3
/-- what a reader holds that has been fed a part of the frames l: y is left to be fed -/
def FedL (l : List (Nat × List Nat)) (bs : List Nat) (Fs : List (Nat × List Nat)) (y : List Nat) : Prop := ∃ r, Fs ++ r = l ∧ bs ++ y = flatF r
theorem FedL.nil (l : List (Nat × List Nat)) : FedL l [] [] (flatF l) := ⟨l, rfl, rfl⟩
theorem FedL.step {l : List (Nat × List Nat)} {bs : List Nat} {Fs : List (Nat × List Nat)} {x y : List Nat} (hok : ∀ f ∈ l, OkF f) (h : FedL l bs Fs (x ++ y)) :
    fedE 0 bs x = 0 ∧ FedL l (fedB 0 bs x) (fedF 0 bs x Fs) y := by
  obtain ⟨r, h1, h2⟩ := h
  obtain ⟨g1, r', g2, g3⟩ := got_piece r (bs ++ x) y (fun f hf => hok f (by rw [← h1]; exact List.mem_append_right _ hf)) (by rw [List.append_assoc]; exact h2)
  refine ⟨by unfold fedE; rw [if_pos rfl]; exact g1, r', ?_, ?_⟩
  · unfold fedF
    rw [if_pos rfl, List.append_assoc, g2, h1]
  · unfold fedB
    rw [if_pos rfl, if_pos g1]
    exact g3
theorem FedL.done {l : List (Nat × List Nat)} {bs : List Nat} {Fs : List (Nat × List Nat)} {x : List Nat} (hok : ∀ f ∈ l, OkF f) (h : FedL l bs Fs x) :
    fedE 0 bs x = 0 ∧ fedB 0 bs x = [] ∧ fedF 0 bs x Fs = l := by
  obtain ⟨r, h1, h2⟩ := h
  have hr : ∀ f ∈ r, OkF f := fun f hf => hok f (by rw [← h1]; exact List.mem_append_right _ hf)
  have hev : ∀ r : List (Nat × List Nat), (∀ f ∈ r, OkF f) → gotE 0 (evs (flatF r)) = 0 ∧ gotF (evs (flatF r)) = r ∧ gotN (evs (flatF r)) = (flatF r).length := by
    intro r
    induction r with
    | nil => intro _; exact ⟨by rw [show flatF [] = [] from rfl, evs_nil']; rfl, by rw [show flatF [] = [] from rfl, evs_nil']; rfl, by rw [show flatF [] = [] from rfl, evs_nil']; rfl⟩
    | cons f r ih =>
      intro hr
      obtain ⟨a1, a2, a3⟩ := hr f List.mem_cons_self
      obtain ⟨b1, b2, b3⟩ := ih fun g hg => hr g (List.mem_cons_of_mem _ hg)
      have e : evs (flatF (f :: r)) = ⟨f.1, f.2, 0⟩ :: evs (flatF r) := evs_fbytes _ a1 a2 a3
      rw [e]
      refine ⟨b1, ?_, ?_⟩
      · show f :: gotF (evs (flatF r)) = f :: r
        rw [b2]
      · show 9 + f.2.length + gotN (evs (flatF r)) = (fbytes f.1 f.2 ++ flatF r).length
        rw [b3, List.length_append, fbytes_len]
  obtain ⟨e1, e2, e3⟩ := hev r hr
  unfold fedE fedB fedF
  simp only [if_true]
  rw [h2, if_pos e1]
  refine ⟨e1, ?_, by rw [e2, h1]⟩
  rw [e3, List.drop_length]
theorem FedL.len {l : List (Nat × List Nat)} {bs : List Nat} {Fs : List (Nat × List Nat)} {y : List Nat} (h : FedL l bs Fs y) : Fs.length ≤ l.length ∧ bs.length + y.length ≤ (flatF l).length := by
  obtain ⟨r, h1, h2⟩ := h
  refine ⟨by rw [← h1, List.length_append]; omega, ?_⟩
  rw [← List.length_append, h2, ← h1]
  have : ∀ a b : List (Nat × List Nat), (flatF b).length ≤ (flatF (a ++ b)).length := by
    intro a b
    induction a with
    | nil => exact Nat.le_refl _
    | cons x a ih =>
      show (flatF b).length ≤ (fbytes x.1 x.2 ++ flatF (a ++ b)).length
      rw [List.length_append]
      omega
  exact this _ _
theorem flatF_len : ∀ l : List (Nat × List Nat), (flatF l).length = (l.map fun f => f.2.length + 9).sum
  | [] => rfl
  | f :: r => by
    show (fbytes f.1 f.2 ++ flatF r).length = _
    rw [List.length_append, fbytes_len, List.map_cons, List.sum_cons, flatF_len r]
    omega

end Go.Proofs.YtkdlehekignnhaaDoor

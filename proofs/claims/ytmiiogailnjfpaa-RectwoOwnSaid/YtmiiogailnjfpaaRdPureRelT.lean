/- A relationship's record of rectwo, written and read: pure. -/
import Derived.Test.YtmiiogailnjfpaaRcPureRelA
import Derived.Test.YtmiiogailnjfpaaRdRelTG
namespace Go.Proofs.Ytmiiogailnjfpaa
open Go.RowKit
set_option linter.unusedVariables false

theorem slS_left (s : Cs) (hs : s.isw = false) (L : List Nat) (m : Nat) : (slS s L (m : Int)).left 0 ↔ s.left m := by
  cases s with
  | w bs => cases hs
  | r bs err =>
    unfold slS Cs.left
    simp only
    by_cases h : m ≤ bs.length
    · have h0 : rawErr bs.length (m : Int) = 0 := rawErr_ok (by omega) (by omega)
      rw [h0, restOf_ok rfl, errBy_ok rfl, Int.toNat_natCast, List.length_drop]
      constructor
      · rintro ⟨h1, h2⟩; exact ⟨h1, by omega⟩
      · rintro ⟨h1, h2⟩; exact ⟨h1, by omega⟩
    · have h0 : rawErr bs.length (m : Int) = 10 := rawErr_short (by omega) (by omega)
      rw [h0]
      constructor
      · rintro ⟨h1, h2⟩
        exfalso
        unfold errBy errOf at h1
        rw [if_neg (by decide)] at h1
        by_cases he : err = 0
        · rw [if_pos he] at h1; cases h1
        · rw [if_neg he] at h1; exact he h1
      · rintro ⟨h1, h2⟩; omega
theorem slS_r (T : List Nat) (m : Nat) (h : T.length = m) (L : List Nat) : slS (.r T 0) L (m : Int) = .r [] 0 := by
  have h0 : rawErr T.length (m : Int) = 0 := rawErr_ok (by omega) (by omega)
  unfold slS
  simp only
  rw [h0, restOf_ok rfl, errBy_ok rfl, Int.toNat_natCast, List.drop_of_length_le (by omega)]
theorem slB_r (T : List Nat) (m : Nat) (h : T.length = m) : slB (.r T 0) (m : Int) = T := by
  have h0 : rawErr T.length (m : Int) = 0 := rawErr_ok (by omega) (by omega)
  unfold slB
  simp only
  rw [rawVal_ok h0, Int.toNat_natCast, List.take_of_length_le (by omega)]

def relTok (x : RelC) (L : List Nat) : Bool := refRelOk x && decide (L.length = 32)
theorem dec32 (L : List Nat) : decide ((L.length : Int) = 32) = decide (L.length = 32) := by
  by_cases h : L.length = 32
  · rw [decide_eq_true h, decide_eq_true (by omega)]
  · rw [decide_eq_false h, decide_eq_false (by omega)]
theorem putRelTQ_eq (x : RelC) (hx : RelI x) (L : List Nat) : putRelTQ x L = (.w (refRelB x ++ L), !relTok x L) := by
  unfold putRelTQ relTQ
  rw [relQ_put x hx]
  unfold slS slW relTok
  simp only
  rw [dec32]
  cases refRelOk x <;> cases decide (L.length = 32) <;> rfl
theorem putRelTE_eq (x : RelC) (hx : RelI x) (L : List Nat) : putRelTE x L = if relTok x L = true then 0 else 41 := by
  unfold putRelTE
  rw [putRelTQ_eq x hx L]
  unfold Cs.endE
  simp only
  cases relTok x L <;> rfl
theorem putRelTB_eq (x : RelC) (hx : RelI x) (L : List Nat) : (putRelTQ x L).1.bytes = refRelB x ++ L := by
  rw [putRelTQ_eq x hx L]
  rfl
theorem relTok_parts {x : RelC} {L : List Nat} (h : relTok x L = true) : refRelOk x = true ∧ L.length = 32 := by
  unfold relTok at h
  simpa using h
theorem getRelT_back (x : RelC) (hx : RelI x) (L : List Nat) (hok : relTok x L = true) : getRelTE (refRelB x ++ L) = 0 ∧ getRelTV (refRelB x ++ L) = ⟨true, x.fr, x.to, x.fp, x.tp, x.fn, x.tn, x.ty, x.pr⟩ ∧ getRelTS (refRelB x ++ L) = L := by
  obtain ⟨h1, h2⟩ := relTok_parts hok
  obtain ⟨e1, e2⟩ := relQ_backT x hx h1 L
  refine ⟨?_, e2, ?_⟩
  · show (relTQ (.r (refRelB x ++ L) 0, false) relBl []).1.endE (relTQ (.r (refRelB x ++ L) 0, false) relBl []).2 = 0
    unfold relTQ
    rw [e1]
    have this : slS (.r L 0) [] 32 = .r [] 0 := slS_r L 32 h2 []
    rw [this]
    rfl
  · show slB (relQ (.r (refRelB x ++ L) 0, false) relBl).1 32 = L
    rw [e1]
    exact slB_r L 32 h2
theorem getRelT_len (bs : List Nat) (h : bs.length ≠ 62) : getRelTE bs = 4 := by
  refine endE_left _ (by unfold getRelTQ; rw [relTQ_isw]; rfl) _ fun hl => h ?_
  have h1 : (slS (relQ (.r bs 0, false) relBl).1 [] ((32 : Nat) : Int)).left 0 := hl
  exact relQ_leftT bs 32 ((slS_left _ (by rw [relQ_isw]; rfl) [] 32).1 h1)
theorem getRelT_read (bs : List Nat) (hb : IsBytes bs) (h : bs.length = 62) : getRelTE bs = (if refRelOk (linkC bs) = true then 0 else 41) ∧ getRelTV bs = linkC bs ∧ getRelTS bs = bs.drop 30 := by
  obtain ⟨e1, e2⟩ := relQ_readT bs hb (by omega)
  have hd : (bs.drop 30).length = 32 := by rw [List.length_drop]; omega
  refine ⟨?_, e2, ?_⟩
  · show (relTQ (.r bs 0, false) relBl []).1.endE (relTQ (.r bs 0, false) relBl []).2 = _
    unfold relTQ
    rw [e1]
    have this : slS (.r (bs.drop 30) 0) [] 32 = .r [] 0 := slS_r (bs.drop 30) 32 hd []
    rw [this]
    cases refRelOk (linkC bs) <;> rfl
  · show slB (relQ (.r bs 0, false) relBl).1 32 = bs.drop 30
    rw [e1]
    exact slB_r _ 32 hd
/-- what the document's GetRel tells -/
def refRelTGE (bs : List Nat) : Int := if bs.length = 62 then (if refRelOk (linkC bs) = true then 0 else 41) else 4
theorem getRelTE_eq (bs : List Nat) (hb : IsBytes bs) : getRelTE bs = refRelTGE bs := by
  unfold refRelTGE
  split
  · next h => exact (getRelT_read bs hb h).1
  · next h => exact getRelT_len bs h
theorem refRelTGE_zero {bs : List Nat} (h : refRelTGE bs = 0) : bs.length = 62 ∧ refRelOk (linkC bs) = true := by
  unfold refRelTGE at h
  split at h
  · next h1 =>
    split at h
    · next h2 => exact ⟨h1, h2⟩
    · cases h
  · cases h
end Go.Proofs.Ytmiiogailnjfpaa

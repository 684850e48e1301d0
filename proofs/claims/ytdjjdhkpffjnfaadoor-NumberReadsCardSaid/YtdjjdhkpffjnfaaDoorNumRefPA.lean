/- Layer 5, the document's own answer: floats read. -/
import Derived.Test.YtdjjdhkpffjnfaaDoorNumRefP0
import Derived.Test.YtdjjdhkpffjnfaaDoorNumRefPE
import Derived.Test.YtdjjdhkpffjnfaaDoorNumRefP1
namespace Go.Proofs.YtdjjdhkpffjnfaaDoor
open Go.RowKit
set_option linter.unusedVariables false


theorem refParseFloat (s : ByteArray) (w : World) (hs : s.size ≤ 140737488355328) : Calls Tryd.prog 20 #[.string s] w (PFr s.data.toList w) := by
  by_cases hn : s.data.toList = nanT
  · obtain rfl : s = ⟨#[48, 120, 110, 97, 110]⟩ := (ba_eq s nanT).2 hn
    exact (refPF_nan w).mono fun e w' ⟨he, hw⟩ => ⟨9221120237041090560, 0, he, .inl ⟨rfl, ⟨by omega, .inr rfl⟩, formF_nan_own⟩, hw ▸ Below.refl _ _⟩
  · cases h : isNeg s.data.toList with
    | true => exact refPF1 s w hs hn h
    | false =>
      by_cases hp : 0 < s.size
      · exact refPF0 s w hs hn h hp
      · exact refPFE s w hs hn h (by omega)
end Go.Proofs.YtdjjdhkpffjnfaaDoor

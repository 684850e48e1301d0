/- strings of the program: pieces, strings.Clone. -/
import Derived.Test.YthmgkjfohkadoaaGreatDoorCsPure
import Derived.Test.YthmgkjfohkadoaaGreatDoorBase
import Derived.Test.YthmgkjfohkadoaaGreatDoorShelf
namespace Go.Proofs.YthmgkjfohkadoaaGreatDoor
open Go.RowKit
set_option linter.unusedVariables false

theorem mkS_drop (l : Bs) (k : Nat) : (mkS l).extract k (mkS l).size = mkS (l.drop k) := by
  apply ByteArray.ext
  simp [mkS, ByteArray.size]
  rw [List.take_of_length_le (by simp)]
theorem mkS_take (l : Bs) (k : Nat) : (mkS l).extract 0 k = mkS (l.take k) := by
  apply ByteArray.ext
  simp [mkS]
set_option maxHeartbeats 1000000 in
theorem SClone_any (s : ByteArray) (w : World) (hs : s.size ≤ 281474976710656) : Calls Tryz.prog 36 #[.string s] w fun e w' => e = .returned (.string s) ∧ Below w.heap.size w w' := by
  have HC := Lib.hid (Tryz.stringslite_Clone s w hs)
  go_enter Tryz.func36, Tryz.ntmps36
  go_wp2_with fail
  refine HC.out.mono ?_
  rintro e w' ⟨rfl, hb⟩
  go_wp2
  go_ret
  exact ⟨rfl, hb⟩
theorem mkS_at (l : Bs) (k : Nat) (h : k < l.length) (h' : k < (mkS l).size) : (mkS l)[k]'h' = l[k] := by
  have h1 := byte_at (mkS l) k h'
  have h2 : l[k]? = some l[k] := List.getElem?_eq_getElem h
  exact Option.some.inj (h1.symm.trans h2)
theorem drop_cons {l : Bs} {k : Nat} (h : k < l.length) : l.drop k = l[k] :: l.drop (k + 1) := List.drop_eq_getElem_cons h
end Go.Proofs.YthmgkjfohkadoaaGreatDoor

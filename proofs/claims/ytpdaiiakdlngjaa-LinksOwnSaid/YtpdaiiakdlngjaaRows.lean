/-
  No cell of these rows narrows 'for every input' (looked for: loops, veiled, ifaces, maps, wideKeys, modest, calm, conditions, laid).
  DERIVED. THE GIVEN ROWS OF THIS SEAT. 7 by the template 'for every input the law returns true; each argument reads behind the call as it read before'; 0 by the template 'total and deterministic' (their statements: YtpdaiiakdlngjaaTotals.lean).
  GIVEN WITH THE SEED: the statements are not yours to turn. If you find one false, say at which input.
  Laid BY PROGRAM, IN A SANDBOX (cutbox-rows.mjs): the forced cells as the released guide's own fill.sh prints them over the translation 9fb675633adca06c… (all of the seat's roots in one cut). By AI agents, Wed Nov 11 2026. No macro, syntax, notation, axiom, sorry.
-/
import Derived.Test.YtpdaiiakdlngjaaChecked
import GoSem.Claim
import GoSem.ClaimJoined
import GoSem.ClaimMapViews
import Derived.JoinedTies
import Derived.KernelRfl
namespace Go.Proofs.Ytpdaiiakdlngjaa
/- THE CELL 'sum', in the pinned program and in every row, IS THE sha256 OF THE DUMP (.gsa) THAT YtpdaiiakdlngjaaProg.lean LOADS. Nothing in Lean hashes anything: it is a label: what it is worth is what the hold of that sum in a sandbox is worth. -/
noncomputable def Try.pinned : Pinned := { name := "ytpdaiiakdlngjaa", sum := "9fb675633adca06cda1ea144fa6aff829d91f970bcd95096accc8d526204e9df", checked := Try.checked }
namespace Rows
def none {H : Type} : Left H := { results := [], args := [] }

/-- 'satchellaw13.LinksIncident': WHATEVER THE INPUT: true; the input reads as it did. -/
def linksIncidentSpec : ChangeSpec := { name := "linksIncident", fn := fun _ => fun
  | [d1, d2] => { results := [.lit (.bool true)], args := [d1, d2] }
  | _ => none }
def linksIncidentRow : OpenClaim := { program := "ytpdaiiakdlngjaa", sum := "9fb675633adca06cda1ea144fa6aff829d91f970bcd95096accc8d526204e9df", func := "satchel/satchellaw13.LinksIncident", spec := "linksIncident", apart := false }
def LinksIncidentSaid : Prop := linksIncidentRow.holds Try.pinned (OpenSpec.ofChange linksIncidentSpec)

/-- ITS FALSE NEIGHBOUR: 'it returns false'. Refute it at one input. -/
def linksIncidentWrong : ChangeSpec := { name := "linksIncident", fn := fun _ => fun
  | [d1, d2] => { results := [.lit (.bool false)], args := [d1, d2] }
  | _ => none }
def LinksIncidentWrongFalsely : Prop := linksIncidentRow.holds Try.pinned (OpenSpec.ofChange linksIncidentWrong)

/-- 'satchellaw13.LinksThreads': WHATEVER THE INPUT: true; the input reads as it did. -/
def linksThreadsSpec : ChangeSpec := { name := "linksThreads", fn := fun _ => fun
  | [d1, d2] => { results := [.lit (.bool true)], args := [d1, d2] }
  | _ => none }
def linksThreadsRow : OpenClaim := { program := "ytpdaiiakdlngjaa", sum := "9fb675633adca06cda1ea144fa6aff829d91f970bcd95096accc8d526204e9df", func := "satchel/satchellaw13.LinksThreads", spec := "linksThreads", apart := false }
def LinksThreadsSaid : Prop := linksThreadsRow.holds Try.pinned (OpenSpec.ofChange linksThreadsSpec)

/-- ITS FALSE NEIGHBOUR: 'it returns false'. Refute it at one input. -/
def linksThreadsWrong : ChangeSpec := { name := "linksThreads", fn := fun _ => fun
  | [d1, d2] => { results := [.lit (.bool false)], args := [d1, d2] }
  | _ => none }
def LinksThreadsWrongFalsely : Prop := linksThreadsRow.holds Try.pinned (OpenSpec.ofChange linksThreadsWrong)

/-- 'satchellaw13.LinksWalks': WHATEVER THE INPUT: true; the input reads as it did. -/
def linksWalksSpec : ChangeSpec := { name := "linksWalks", fn := fun _ => fun
  | [d1, d2, d3] => { results := [.lit (.bool true)], args := [d1, d2, d3] }
  | _ => none }
def linksWalksRow : OpenClaim := { program := "ytpdaiiakdlngjaa", sum := "9fb675633adca06cda1ea144fa6aff829d91f970bcd95096accc8d526204e9df", func := "satchel/satchellaw13.LinksWalks", spec := "linksWalks", apart := false }
def LinksWalksSaid : Prop := linksWalksRow.holds Try.pinned (OpenSpec.ofChange linksWalksSpec)

/-- ITS FALSE NEIGHBOUR: 'it returns false'. Refute it at one input. -/
def linksWalksWrong : ChangeSpec := { name := "linksWalks", fn := fun _ => fun
  | [d1, d2, d3] => { results := [.lit (.bool false)], args := [d1, d2, d3] }
  | _ => none }
def LinksWalksWrongFalsely : Prop := linksWalksRow.holds Try.pinned (OpenSpec.ofChange linksWalksWrong)

/-- 'satchellaw13.LinksThere': WHATEVER THE INPUT: true; the input reads as it did. -/
def linksThereSpec : ChangeSpec := { name := "linksThere", fn := fun _ => fun
  | [d1, d2] => { results := [.lit (.bool true)], args := [d1, d2] }
  | _ => none }
def linksThereRow : OpenClaim := { program := "ytpdaiiakdlngjaa", sum := "9fb675633adca06cda1ea144fa6aff829d91f970bcd95096accc8d526204e9df", func := "satchel/satchellaw13.LinksThere", spec := "linksThere", apart := false }
def LinksThereSaid : Prop := linksThereRow.holds Try.pinned (OpenSpec.ofChange linksThereSpec)

/-- ITS FALSE NEIGHBOUR: 'it returns false'. Refute it at one input. -/
def linksThereWrong : ChangeSpec := { name := "linksThere", fn := fun _ => fun
  | [d1, d2] => { results := [.lit (.bool false)], args := [d1, d2] }
  | _ => none }
def LinksThereWrongFalsely : Prop := linksThereRow.holds Try.pinned (OpenSpec.ofChange linksThereWrong)

/-- 'satchellaw13.LinksApart': WHATEVER THE INPUT: true; the input reads as it did. -/
def linksApartSpec : ChangeSpec := { name := "linksApart", fn := fun _ => fun
  | [d1, d2, d3] => { results := [.lit (.bool true)], args := [d1, d2, d3] }
  | _ => none }
def linksApartRow : OpenClaim := { program := "ytpdaiiakdlngjaa", sum := "9fb675633adca06cda1ea144fa6aff829d91f970bcd95096accc8d526204e9df", func := "satchel/satchellaw13.LinksApart", spec := "linksApart", apart := false }
def LinksApartSaid : Prop := linksApartRow.holds Try.pinned (OpenSpec.ofChange linksApartSpec)

/-- ITS FALSE NEIGHBOUR: 'it returns false'. Refute it at one input. -/
def linksApartWrong : ChangeSpec := { name := "linksApart", fn := fun _ => fun
  | [d1, d2, d3] => { results := [.lit (.bool false)], args := [d1, d2, d3] }
  | _ => none }
def LinksApartWrongFalsely : Prop := linksApartRow.holds Try.pinned (OpenSpec.ofChange linksApartWrong)

/-- 'satchellaw13.LinksSound': WHATEVER THE INPUT: true; the input reads as it did. -/
def linksSoundSpec : ChangeSpec := { name := "linksSound", fn := fun _ => fun
  | [d1, d2, d3] => { results := [.lit (.bool true)], args := [d1, d2, d3] }
  | _ => none }
def linksSoundRow : OpenClaim := { program := "ytpdaiiakdlngjaa", sum := "9fb675633adca06cda1ea144fa6aff829d91f970bcd95096accc8d526204e9df", func := "satchel/satchellaw13.LinksSound", spec := "linksSound", apart := false }
def LinksSoundSaid : Prop := linksSoundRow.holds Try.pinned (OpenSpec.ofChange linksSoundSpec)

/-- ITS FALSE NEIGHBOUR: 'it returns false'. Refute it at one input. -/
def linksSoundWrong : ChangeSpec := { name := "linksSound", fn := fun _ => fun
  | [d1, d2, d3] => { results := [.lit (.bool false)], args := [d1, d2, d3] }
  | _ => none }
def LinksSoundWrongFalsely : Prop := linksSoundRow.holds Try.pinned (OpenSpec.ofChange linksSoundWrong)

/-- 'satchellaw13.LinksOwn': WHATEVER THE INPUT: true; the input reads as it did. -/
def linksOwnSpec : ChangeSpec := { name := "linksOwn", fn := fun _ => fun
  | [d1, d2] => { results := [.lit (.bool true)], args := [d1, d2] }
  | _ => none }
def linksOwnRow : OpenClaim := { program := "ytpdaiiakdlngjaa", sum := "9fb675633adca06cda1ea144fa6aff829d91f970bcd95096accc8d526204e9df", func := "satchel/satchellaw13.LinksOwn", spec := "linksOwn", apart := false }
def LinksOwnSaid : Prop := linksOwnRow.holds Try.pinned (OpenSpec.ofChange linksOwnSpec)

/-- ITS FALSE NEIGHBOUR: 'it returns false'. Refute it at one input. -/
def linksOwnWrong : ChangeSpec := { name := "linksOwn", fn := fun _ => fun
  | [d1, d2] => { results := [.lit (.bool false)], args := [d1, d2] }
  | _ => none }
def LinksOwnWrongFalsely : Prop := linksOwnRow.holds Try.pinned (OpenSpec.ofChange linksOwnWrong)

/- THE SECOND FORM. 'bulk': how many values and letters a reading holds, each counted each time it is reached (what is shared counts as often as it is met; a slice's spare places count too). A statement '..UptoSaid' is the law's where the arguments, and the package variables that the reading takes, are together of bulk at most 1048576: NARROWER than '..Said'. Prove '..Said' where nothing that the law and all that it calls make is longer than what came in: it says more and counts as full. Else prove '..UptoSaid'. A law counts once. -/
mutual
def uptoBulk {H : Type} : DataW H → Nat
  | .lit (.string bytes) => bytes.length + 1
  | .lit _ => 1
  | .nil => 1
  | .ptr d => uptoBulk d + 1
  | .slice elems spare => uptoBulkAll elems + uptoBulkAll spare + 1
  | .agg parts => uptoBulkAll parts + 1
  | .iface _ d => uptoBulk d + 1
  | .map entries => uptoBulkEntries entries + 1
  | .held _ => 1
def uptoBulkAll {H : Type} : List (DataW H) → Nat
  | [] => 0
  | d :: r => uptoBulk d + uptoBulkAll r
def uptoBulkEntries {H : Type} : List (Lit × DataW H) → Nat
  | [] => 0
  | x :: r => uptoBulkEntry x + uptoBulkEntries r
def uptoBulkEntry {H : Type} : Lit × DataW H → Nat
  | (.string bytes, d) => bytes.length + uptoBulk d + 1
  | (_, d) => uptoBulk d + 1
 end
def uptoSmall : (H : Type) → List (DataW H) → Bool := fun _ ds => decide (uptoBulkAll ds ≤ 1048576)
def OpenSpec.upto (s : _root_.Go.ChangeSpec) : _root_.Go.OpenSpec := { _root_.Go.OpenSpec.ofChange s with cond := some uptoSmall }

/-- 'satchellaw13.LinksIncident', WHERE WHAT IT READS IS OF BULK AT MOST 1048576: true; the input reads as it did. -/
def linksIncidentUptoRow : OpenClaim := { program := "ytpdaiiakdlngjaa", sum := "9fb675633adca06cda1ea144fa6aff829d91f970bcd95096accc8d526204e9df", func := "satchel/satchellaw13.LinksIncident", spec := "linksIncident", apart := false, narrowed := true }
def LinksIncidentUptoSaid : Prop := linksIncidentUptoRow.holds Try.pinned (OpenSpec.upto linksIncidentSpec)

/-- 'satchellaw13.LinksThreads', WHERE WHAT IT READS IS OF BULK AT MOST 1048576: true; the input reads as it did. -/
def linksThreadsUptoRow : OpenClaim := { program := "ytpdaiiakdlngjaa", sum := "9fb675633adca06cda1ea144fa6aff829d91f970bcd95096accc8d526204e9df", func := "satchel/satchellaw13.LinksThreads", spec := "linksThreads", apart := false, narrowed := true }
def LinksThreadsUptoSaid : Prop := linksThreadsUptoRow.holds Try.pinned (OpenSpec.upto linksThreadsSpec)

/-- 'satchellaw13.LinksWalks', WHERE WHAT IT READS IS OF BULK AT MOST 1048576: true; the input reads as it did. -/
def linksWalksUptoRow : OpenClaim := { program := "ytpdaiiakdlngjaa", sum := "9fb675633adca06cda1ea144fa6aff829d91f970bcd95096accc8d526204e9df", func := "satchel/satchellaw13.LinksWalks", spec := "linksWalks", apart := false, narrowed := true }
def LinksWalksUptoSaid : Prop := linksWalksUptoRow.holds Try.pinned (OpenSpec.upto linksWalksSpec)

/-- 'satchellaw13.LinksThere', WHERE WHAT IT READS IS OF BULK AT MOST 1048576: true; the input reads as it did. -/
def linksThereUptoRow : OpenClaim := { program := "ytpdaiiakdlngjaa", sum := "9fb675633adca06cda1ea144fa6aff829d91f970bcd95096accc8d526204e9df", func := "satchel/satchellaw13.LinksThere", spec := "linksThere", apart := false, narrowed := true }
def LinksThereUptoSaid : Prop := linksThereUptoRow.holds Try.pinned (OpenSpec.upto linksThereSpec)

/-- 'satchellaw13.LinksApart', WHERE WHAT IT READS IS OF BULK AT MOST 1048576: true; the input reads as it did. -/
def linksApartUptoRow : OpenClaim := { program := "ytpdaiiakdlngjaa", sum := "9fb675633adca06cda1ea144fa6aff829d91f970bcd95096accc8d526204e9df", func := "satchel/satchellaw13.LinksApart", spec := "linksApart", apart := false, narrowed := true }
def LinksApartUptoSaid : Prop := linksApartUptoRow.holds Try.pinned (OpenSpec.upto linksApartSpec)

/-- 'satchellaw13.LinksSound', WHERE WHAT IT READS IS OF BULK AT MOST 1048576: true; the input reads as it did. -/
def linksSoundUptoRow : OpenClaim := { program := "ytpdaiiakdlngjaa", sum := "9fb675633adca06cda1ea144fa6aff829d91f970bcd95096accc8d526204e9df", func := "satchel/satchellaw13.LinksSound", spec := "linksSound", apart := false, narrowed := true }
def LinksSoundUptoSaid : Prop := linksSoundUptoRow.holds Try.pinned (OpenSpec.upto linksSoundSpec)

/-- 'satchellaw13.LinksOwn', WHERE WHAT IT READS IS OF BULK AT MOST 1048576: true; the input reads as it did. -/
def linksOwnUptoRow : OpenClaim := { program := "ytpdaiiakdlngjaa", sum := "9fb675633adca06cda1ea144fa6aff829d91f970bcd95096accc8d526204e9df", func := "satchel/satchellaw13.LinksOwn", spec := "linksOwn", apart := false, narrowed := true }
def LinksOwnUptoSaid : Prop := linksOwnUptoRow.holds Try.pinned (OpenSpec.upto linksOwnSpec)

end Rows
end Go.Proofs.Ytpdaiiakdlngjaa

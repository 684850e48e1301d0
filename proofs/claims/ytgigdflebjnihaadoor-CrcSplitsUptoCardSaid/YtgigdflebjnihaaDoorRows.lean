/-
  NARROWER THAN 'FOR EVERY INPUT', by the rows' own cells (each row's printed sentence says how): CrcSums: laid · CrcUpdates: laid · CrcCombines: laid · CrcSplits: laid · CrcDigests: laid · CrcBurst: laid · CrcThree: laid.
  DERIVED. THE GIVEN ROWS OF THIS SEAT. 7 by the template 'for every input the law returns true; each argument reads behind the call as it read before'; 0 by the template 'total and deterministic' (their statements: YtgigdflebjnihaaDoorTotals.lean).
  GIVEN WITH THE SEED: the statements are not yours to turn. If you find one false, say at which input.
  Laid BY PROGRAM, IN A SANDBOX (cutbox-rows.mjs): the forced cells as the released guide's own fill.sh prints them over the translation 9a701802625e75bf… (all of the seat's roots in one cut). By AI agents, Wed Nov 11 2026. No macro, syntax, notation, axiom, sorry.
-/
import Derived.Test.YtgigdflebjnihaaDoorChecked
import GoSem.Claim
import GoSem.ClaimJoined
import GoSem.ClaimMapViews
import Derived.JoinedTies
import Derived.KernelRfl
namespace Go.Proofs.YtgigdflebjnihaaDoor
/- THE CELL 'sum', in the pinned program and in every row, IS THE sha256 OF THE DUMP (.gsa) THAT YtgigdflebjnihaaDoorProg.lean LOADS. Nothing in Lean hashes anything: it is a label: what it is worth is what the hold of that sum in a sandbox is worth. -/
noncomputable def Tryd.pinned : Pinned := { name := "ytgigdflebjnihaadoor", sum := "9a701802625e75bf69a0aa1c322fc4d5837a2575d81864c3fbeb32f616d38ee5", checked := Tryd.checked }
namespace Rows
def none {H : Type} : Left H := { results := [], args := [] }

/- WHAT THE LISTED PACKAGE-LEVEL VARIABLES READ AS WHEN THE CALL BEGINS. Each datum BY PROGRAM (the guide's laid-datum.mjs) off the statement by which the dump's own 'gosem.cut.vars' lays the variable. In a bare row this is a premise. The card (YtgigdflebjnihaaDoorCards.lean) ties it to the program's text. -/
def laid_satchel_crc_nibbles {H : Type} : DataW H := .agg [.lit (.int .u32 0), .lit (.int .u32 498536548), .lit (.int .u32 997073096), .lit (.int .u32 651767980), .lit (.int .u32 1994146192), .lit (.int .u32 1802195444), .lit (.int .u32 1303535960), .lit (.int .u32 1342533948), .lit (.int .u32 3988292384), .lit (.int .u32 4027552580), .lit (.int .u32 3604390888), .lit (.int .u32 3412177804), .lit (.int .u32 2607071920), .lit (.int .u32 2262029012), .lit (.int .u32 2685067896), .lit (.int .u32 3183342108)]

/-- 'satchellaw02.CrcSums': WHATEVER THE INPUT: true; the input reads as it did. -/
def crcSumsSpec : ChangeSpec := { name := "crcSums", fn := fun _ => fun
  | [d] => { results := [.lit (.bool true)], args := [d] }
  | _ => none }
def crcSumsRow : OpenClaim := { program := "ytgigdflebjnihaadoor", sum := "9a701802625e75bf69a0aa1c322fc4d5837a2575d81864c3fbeb32f616d38ee5", func := "satchel/satchellaw02.CrcSums", spec := "crcSums", named := ["satchel/crc.nibbles"], apart := false, laid := [("satchel/crc.nibbles", laid_satchel_crc_nibbles)] }
def CrcSumsSaid : Prop := crcSumsRow.holds Tryd.pinned (OpenSpec.ofChange crcSumsSpec)

/-- ITS FALSE NEIGHBOUR: 'it returns false'. Refute it at one input. -/
def crcSumsWrong : ChangeSpec := { name := "crcSums", fn := fun _ => fun
  | [d] => { results := [.lit (.bool false)], args := [d] }
  | _ => none }
def CrcSumsWrongFalsely : Prop := crcSumsRow.holds Tryd.pinned (OpenSpec.ofChange crcSumsWrong)

/-- 'satchellaw02.CrcUpdates': WHATEVER THE INPUT: true; the input reads as it did. -/
def crcUpdatesSpec : ChangeSpec := { name := "crcUpdates", fn := fun _ => fun
  | [d1, d2] => { results := [.lit (.bool true)], args := [d1, d2] }
  | _ => none }
def crcUpdatesRow : OpenClaim := { program := "ytgigdflebjnihaadoor", sum := "9a701802625e75bf69a0aa1c322fc4d5837a2575d81864c3fbeb32f616d38ee5", func := "satchel/satchellaw02.CrcUpdates", spec := "crcUpdates", named := ["satchel/crc.nibbles"], apart := false, laid := [("satchel/crc.nibbles", laid_satchel_crc_nibbles)] }
def CrcUpdatesSaid : Prop := crcUpdatesRow.holds Tryd.pinned (OpenSpec.ofChange crcUpdatesSpec)

/-- ITS FALSE NEIGHBOUR: 'it returns false'. Refute it at one input. -/
def crcUpdatesWrong : ChangeSpec := { name := "crcUpdates", fn := fun _ => fun
  | [d1, d2] => { results := [.lit (.bool false)], args := [d1, d2] }
  | _ => none }
def CrcUpdatesWrongFalsely : Prop := crcUpdatesRow.holds Tryd.pinned (OpenSpec.ofChange crcUpdatesWrong)

/-- 'satchellaw02.CrcCombines': WHATEVER THE INPUT: true; the input reads as it did. -/
def crcCombinesSpec : ChangeSpec := { name := "crcCombines", fn := fun _ => fun
  | [d1, d2, d3] => { results := [.lit (.bool true)], args := [d1, d2, d3] }
  | _ => none }
def crcCombinesRow : OpenClaim := { program := "ytgigdflebjnihaadoor", sum := "9a701802625e75bf69a0aa1c322fc4d5837a2575d81864c3fbeb32f616d38ee5", func := "satchel/satchellaw02.CrcCombines", spec := "crcCombines", named := ["satchel/crc.nibbles"], apart := false, laid := [("satchel/crc.nibbles", laid_satchel_crc_nibbles)] }
def CrcCombinesSaid : Prop := crcCombinesRow.holds Tryd.pinned (OpenSpec.ofChange crcCombinesSpec)

/-- ITS FALSE NEIGHBOUR: 'it returns false'. Refute it at one input. -/
def crcCombinesWrong : ChangeSpec := { name := "crcCombines", fn := fun _ => fun
  | [d1, d2, d3] => { results := [.lit (.bool false)], args := [d1, d2, d3] }
  | _ => none }
def CrcCombinesWrongFalsely : Prop := crcCombinesRow.holds Tryd.pinned (OpenSpec.ofChange crcCombinesWrong)

/-- 'satchellaw02.CrcSplits': WHATEVER THE INPUT: true; the input reads as it did. -/
def crcSplitsSpec : ChangeSpec := { name := "crcSplits", fn := fun _ => fun
  | [d1, d2] => { results := [.lit (.bool true)], args := [d1, d2] }
  | _ => none }
def crcSplitsRow : OpenClaim := { program := "ytgigdflebjnihaadoor", sum := "9a701802625e75bf69a0aa1c322fc4d5837a2575d81864c3fbeb32f616d38ee5", func := "satchel/satchellaw02.CrcSplits", spec := "crcSplits", named := ["satchel/crc.nibbles"], apart := false, laid := [("satchel/crc.nibbles", laid_satchel_crc_nibbles)] }
def CrcSplitsSaid : Prop := crcSplitsRow.holds Tryd.pinned (OpenSpec.ofChange crcSplitsSpec)

/-- ITS FALSE NEIGHBOUR: 'it returns false'. Refute it at one input. -/
def crcSplitsWrong : ChangeSpec := { name := "crcSplits", fn := fun _ => fun
  | [d1, d2] => { results := [.lit (.bool false)], args := [d1, d2] }
  | _ => none }
def CrcSplitsWrongFalsely : Prop := crcSplitsRow.holds Tryd.pinned (OpenSpec.ofChange crcSplitsWrong)

/-- 'satchellaw02.CrcDigests': WHATEVER THE INPUT: true; the input reads as it did. -/
def crcDigestsSpec : ChangeSpec := { name := "crcDigests", fn := fun _ => fun
  | [d] => { results := [.lit (.bool true)], args := [d] }
  | _ => none }
def crcDigestsRow : OpenClaim := { program := "ytgigdflebjnihaadoor", sum := "9a701802625e75bf69a0aa1c322fc4d5837a2575d81864c3fbeb32f616d38ee5", func := "satchel/satchellaw02.CrcDigests", spec := "crcDigests", named := ["satchel/crc.nibbles"], apart := false, laid := [("satchel/crc.nibbles", laid_satchel_crc_nibbles)] }
def CrcDigestsSaid : Prop := crcDigestsRow.holds Tryd.pinned (OpenSpec.ofChange crcDigestsSpec)

/-- ITS FALSE NEIGHBOUR: 'it returns false'. Refute it at one input. -/
def crcDigestsWrong : ChangeSpec := { name := "crcDigests", fn := fun _ => fun
  | [d] => { results := [.lit (.bool false)], args := [d] }
  | _ => none }
def CrcDigestsWrongFalsely : Prop := crcDigestsRow.holds Tryd.pinned (OpenSpec.ofChange crcDigestsWrong)

/-- 'satchellaw02.CrcBurst': WHATEVER THE INPUT: true; the input reads as it did. -/
def crcBurstSpec : ChangeSpec := { name := "crcBurst", fn := fun _ => fun
  | [d1, d2, d3] => { results := [.lit (.bool true)], args := [d1, d2, d3] }
  | _ => none }
def crcBurstRow : OpenClaim := { program := "ytgigdflebjnihaadoor", sum := "9a701802625e75bf69a0aa1c322fc4d5837a2575d81864c3fbeb32f616d38ee5", func := "satchel/satchellaw02.CrcBurst", spec := "crcBurst", named := ["satchel/crc.nibbles"], apart := false, laid := [("satchel/crc.nibbles", laid_satchel_crc_nibbles)] }
def CrcBurstSaid : Prop := crcBurstRow.holds Tryd.pinned (OpenSpec.ofChange crcBurstSpec)

/-- ITS FALSE NEIGHBOUR: 'it returns false'. Refute it at one input. -/
def crcBurstWrong : ChangeSpec := { name := "crcBurst", fn := fun _ => fun
  | [d1, d2, d3] => { results := [.lit (.bool false)], args := [d1, d2, d3] }
  | _ => none }
def CrcBurstWrongFalsely : Prop := crcBurstRow.holds Tryd.pinned (OpenSpec.ofChange crcBurstWrong)

/-- 'satchellaw02.CrcThree': WHATEVER THE INPUT: true; the input reads as it did. -/
def crcThreeSpec : ChangeSpec := { name := "crcThree", fn := fun _ => fun
  | [d1, d2, d3] => { results := [.lit (.bool true)], args := [d1, d2, d3] }
  | _ => none }
def crcThreeRow : OpenClaim := { program := "ytgigdflebjnihaadoor", sum := "9a701802625e75bf69a0aa1c322fc4d5837a2575d81864c3fbeb32f616d38ee5", func := "satchel/satchellaw02.CrcThree", spec := "crcThree", named := ["satchel/crc.nibbles"], apart := false, laid := [("satchel/crc.nibbles", laid_satchel_crc_nibbles)] }
def CrcThreeSaid : Prop := crcThreeRow.holds Tryd.pinned (OpenSpec.ofChange crcThreeSpec)

/-- ITS FALSE NEIGHBOUR: 'it returns false'. Refute it at one input. -/
def crcThreeWrong : ChangeSpec := { name := "crcThree", fn := fun _ => fun
  | [d1, d2, d3] => { results := [.lit (.bool false)], args := [d1, d2, d3] }
  | _ => none }
def CrcThreeWrongFalsely : Prop := crcThreeRow.holds Tryd.pinned (OpenSpec.ofChange crcThreeWrong)

/- THE SECOND FORM. 'bulk': how many values and letters a reading holds, each counted each time it is reached (what is shared counts as often as it is met; a slice's spare places count too). A statement '..UptoSaid' is the law's where the arguments, and the package variables that the reading takes, are together of bulk at most 1048576: NARROWER than '..Said'. Prove '..Said' where nothing that the law and all that it calls make is longer than what came in: it says more and counts as full. Else prove '..UptoSaid'. A law counts once. -/
mutual
def uptoBulk {H : Type} : DataW H → Nat
  | .lit (.string bytes) => bytes.length + 1
  | .lit _ => 1
  | .nil => 1
  | .ptr d => uptoBulk d + 1
  | .slice elems spare => uptoBulkAll elems + uptoBulkAll spare + 1
  | .agg parts => uptoBulkAll parts + 1
  | .iface _ d => uptoBulk d + 1
  | .map entries => uptoBulkEntries entries + 1
  | .held _ => 1
def uptoBulkAll {H : Type} : List (DataW H) → Nat
  | [] => 0
  | d :: r => uptoBulk d + uptoBulkAll r
def uptoBulkEntries {H : Type} : List (Lit × DataW H) → Nat
  | [] => 0
  | x :: r => uptoBulkEntry x + uptoBulkEntries r
def uptoBulkEntry {H : Type} : Lit × DataW H → Nat
  | (.string bytes, d) => bytes.length + uptoBulk d + 1
  | (_, d) => uptoBulk d + 1
 end
def uptoSmall : (H : Type) → List (DataW H) → Bool := fun _ ds => decide (uptoBulkAll ds ≤ 1048576)
def OpenSpec.upto (s : _root_.Go.ChangeSpec) : _root_.Go.OpenSpec := { _root_.Go.OpenSpec.ofChange s with cond := some uptoSmall }

/-- 'satchellaw02.CrcSums', WHERE WHAT IT READS IS OF BULK AT MOST 1048576: true; the input reads as it did. -/
def crcSumsUptoRow : OpenClaim := { program := "ytgigdflebjnihaadoor", sum := "9a701802625e75bf69a0aa1c322fc4d5837a2575d81864c3fbeb32f616d38ee5", func := "satchel/satchellaw02.CrcSums", spec := "crcSums", named := ["satchel/crc.nibbles"], apart := false, laid := [("satchel/crc.nibbles", laid_satchel_crc_nibbles)], narrowed := true }
def CrcSumsUptoSaid : Prop := crcSumsUptoRow.holds Tryd.pinned (OpenSpec.upto crcSumsSpec)

/-- 'satchellaw02.CrcUpdates', WHERE WHAT IT READS IS OF BULK AT MOST 1048576: true; the input reads as it did. -/
def crcUpdatesUptoRow : OpenClaim := { program := "ytgigdflebjnihaadoor", sum := "9a701802625e75bf69a0aa1c322fc4d5837a2575d81864c3fbeb32f616d38ee5", func := "satchel/satchellaw02.CrcUpdates", spec := "crcUpdates", named := ["satchel/crc.nibbles"], apart := false, laid := [("satchel/crc.nibbles", laid_satchel_crc_nibbles)], narrowed := true }
def CrcUpdatesUptoSaid : Prop := crcUpdatesUptoRow.holds Tryd.pinned (OpenSpec.upto crcUpdatesSpec)

/-- 'satchellaw02.CrcCombines', WHERE WHAT IT READS IS OF BULK AT MOST 1048576: true; the input reads as it did. -/
def crcCombinesUptoRow : OpenClaim := { program := "ytgigdflebjnihaadoor", sum := "9a701802625e75bf69a0aa1c322fc4d5837a2575d81864c3fbeb32f616d38ee5", func := "satchel/satchellaw02.CrcCombines", spec := "crcCombines", named := ["satchel/crc.nibbles"], apart := false, laid := [("satchel/crc.nibbles", laid_satchel_crc_nibbles)], narrowed := true }
def CrcCombinesUptoSaid : Prop := crcCombinesUptoRow.holds Tryd.pinned (OpenSpec.upto crcCombinesSpec)

/-- 'satchellaw02.CrcSplits', WHERE WHAT IT READS IS OF BULK AT MOST 1048576: true; the input reads as it did. -/
def crcSplitsUptoRow : OpenClaim := { program := "ytgigdflebjnihaadoor", sum := "9a701802625e75bf69a0aa1c322fc4d5837a2575d81864c3fbeb32f616d38ee5", func := "satchel/satchellaw02.CrcSplits", spec := "crcSplits", named := ["satchel/crc.nibbles"], apart := false, laid := [("satchel/crc.nibbles", laid_satchel_crc_nibbles)], narrowed := true }
def CrcSplitsUptoSaid : Prop := crcSplitsUptoRow.holds Tryd.pinned (OpenSpec.upto crcSplitsSpec)

/-- 'satchellaw02.CrcDigests', WHERE WHAT IT READS IS OF BULK AT MOST 1048576: true; the input reads as it did. -/
def crcDigestsUptoRow : OpenClaim := { program := "ytgigdflebjnihaadoor", sum := "9a701802625e75bf69a0aa1c322fc4d5837a2575d81864c3fbeb32f616d38ee5", func := "satchel/satchellaw02.CrcDigests", spec := "crcDigests", named := ["satchel/crc.nibbles"], apart := false, laid := [("satchel/crc.nibbles", laid_satchel_crc_nibbles)], narrowed := true }
def CrcDigestsUptoSaid : Prop := crcDigestsUptoRow.holds Tryd.pinned (OpenSpec.upto crcDigestsSpec)

/-- 'satchellaw02.CrcBurst', WHERE WHAT IT READS IS OF BULK AT MOST 1048576: true; the input reads as it did. -/
def crcBurstUptoRow : OpenClaim := { program := "ytgigdflebjnihaadoor", sum := "9a701802625e75bf69a0aa1c322fc4d5837a2575d81864c3fbeb32f616d38ee5", func := "satchel/satchellaw02.CrcBurst", spec := "crcBurst", named := ["satchel/crc.nibbles"], apart := false, laid := [("satchel/crc.nibbles", laid_satchel_crc_nibbles)], narrowed := true }
def CrcBurstUptoSaid : Prop := crcBurstUptoRow.holds Tryd.pinned (OpenSpec.upto crcBurstSpec)

/-- 'satchellaw02.CrcThree', WHERE WHAT IT READS IS OF BULK AT MOST 1048576: true; the input reads as it did. -/
def crcThreeUptoRow : OpenClaim := { program := "ytgigdflebjnihaadoor", sum := "9a701802625e75bf69a0aa1c322fc4d5837a2575d81864c3fbeb32f616d38ee5", func := "satchel/satchellaw02.CrcThree", spec := "crcThree", named := ["satchel/crc.nibbles"], apart := false, laid := [("satchel/crc.nibbles", laid_satchel_crc_nibbles)], narrowed := true }
def CrcThreeUptoSaid : Prop := crcThreeUptoRow.holds Tryd.pinned (OpenSpec.upto crcThreeSpec)

end Rows
end Go.Proofs.YtgigdflebjnihaaDoor

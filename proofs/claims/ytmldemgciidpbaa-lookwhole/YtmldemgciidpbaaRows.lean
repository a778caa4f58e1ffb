/-
  No cell of these rows narrows 'for every input' (looked for: loops, veiled, ifaces, maps, wideKeys, modest, calm, conditions, laid).
  DERIVED. THE GIVEN ROWS OF THIS SEAT. 5 by the template 'for every input the law returns true; each argument reads behind the call as it read before'; 0 by the template 'total and deterministic' (their statements: YtmldemgciidpbaaTotals.lean).
  GIVEN WITH THE SEED: the statements are not yours to turn. If you find one false, say at which input.
  Laid BY PROGRAM, IN A SANDBOX (cutbox-rows.mjs): the forced cells as the released guide's own fill.sh prints them over the translation 6ccc069f45d2821c… (all of the seat's roots in one cut). By AI agents, Wed Nov 11 2026. No macro, syntax, notation, axiom, sorry.
-/
import Derived.Test.YtmldemgciidpbaaChecked
import GoSem.Claim
import GoSem.ClaimJoined
import GoSem.ClaimMapViews
import Derived.JoinedTies
import Derived.KernelRfl
namespace Go.Proofs.Ytmldemgciidpbaa
/- THE CELL 'sum', in the pinned program and in every row, IS THE sha256 OF THE DUMP (.gsa) THAT YtmldemgciidpbaaProg.lean LOADS. Nothing in Lean hashes anything: it is a label: what it is worth is what the hold of that sum in a sandbox is worth. -/
noncomputable def Try.pinned : Pinned := { name := "ytmldemgciidpbaa", sum := "6ccc069f45d2821cfb70a895f571cf34785e51a0dd99e4c76e9740f143faff84", checked := Try.checked }
namespace Rows
def none {H : Type} : Left H := { results := [], args := [] }

/-- 'penelopelaw08.LookRights': WHATEVER THE INPUT: true; the input reads as it did. -/
def lookRightsSpec : ChangeSpec := { name := "lookRights", fn := fun _ => fun
  | [d1, d2, d3] => { results := [.lit (.bool true)], args := [d1, d2, d3] }
  | _ => none }
def lookRightsRow : OpenClaim := { program := "ytmldemgciidpbaa", sum := "6ccc069f45d2821cfb70a895f571cf34785e51a0dd99e4c76e9740f143faff84", func := "penelope/penelopelaw08.LookRights", spec := "lookRights", inPlace := ["internal/abi.NoEscape", "internal/bytealg.MakeNoZero"], apart := false }
def LookRightsSaid : Prop := lookRightsRow.holds Try.pinned (OpenSpec.ofChange lookRightsSpec)

/-- ITS FALSE NEIGHBOUR: 'it returns false'. Refute it at one input. -/
def lookRightsWrong : ChangeSpec := { name := "lookRights", fn := fun _ => fun
  | [d1, d2, d3] => { results := [.lit (.bool false)], args := [d1, d2, d3] }
  | _ => none }
def LookRightsWrongFalsely : Prop := lookRightsRow.holds Try.pinned (OpenSpec.ofChange lookRightsWrong)

/-- 'penelopelaw08.LookGets': WHATEVER THE INPUT: true; the input reads as it did. -/
def lookGetsSpec : ChangeSpec := { name := "lookGets", fn := fun _ => fun
  | [d1, d2] => { results := [.lit (.bool true)], args := [d1, d2] }
  | _ => none }
def lookGetsRow : OpenClaim := { program := "ytmldemgciidpbaa", sum := "6ccc069f45d2821cfb70a895f571cf34785e51a0dd99e4c76e9740f143faff84", func := "penelope/penelopelaw08.LookGets", spec := "lookGets", inPlace := ["internal/abi.NoEscape", "internal/bytealg.MakeNoZero"], recurses := true, apart := false }
def LookGetsSaid : Prop := lookGetsRow.holds Try.pinned (OpenSpec.ofChange lookGetsSpec)

/-- ITS FALSE NEIGHBOUR: 'it returns false'. Refute it at one input. -/
def lookGetsWrong : ChangeSpec := { name := "lookGets", fn := fun _ => fun
  | [d1, d2] => { results := [.lit (.bool false)], args := [d1, d2] }
  | _ => none }
def LookGetsWrongFalsely : Prop := lookGetsRow.holds Try.pinned (OpenSpec.ofChange lookGetsWrong)

/-- 'penelopelaw08.LookScans': WHATEVER THE INPUT: true; the input reads as it did. -/
def lookScansSpec : ChangeSpec := { name := "lookScans", fn := fun _ => fun
  | [d1, d2, d3] => { results := [.lit (.bool true)], args := [d1, d2, d3] }
  | _ => none }
def lookScansRow : OpenClaim := { program := "ytmldemgciidpbaa", sum := "6ccc069f45d2821cfb70a895f571cf34785e51a0dd99e4c76e9740f143faff84", func := "penelope/penelopelaw08.LookScans", spec := "lookScans", inPlace := ["internal/abi.NoEscape", "internal/bytealg.MakeNoZero"], recurses := true, apart := false }
def LookScansSaid : Prop := lookScansRow.holds Try.pinned (OpenSpec.ofChange lookScansSpec)

/-- ITS FALSE NEIGHBOUR: 'it returns false'. Refute it at one input. -/
def lookScansWrong : ChangeSpec := { name := "lookScans", fn := fun _ => fun
  | [d1, d2, d3] => { results := [.lit (.bool false)], args := [d1, d2, d3] }
  | _ => none }
def LookScansWrongFalsely : Prop := lookScansRow.holds Try.pinned (OpenSpec.ofChange lookScansWrong)

/-- 'penelopelaw08.LookWhole': WHATEVER THE INPUT: true; the input reads as it did. -/
def lookWholeSpec : ChangeSpec := { name := "lookWhole", fn := fun _ => fun
  | [d1, d2] => { results := [.lit (.bool true)], args := [d1, d2] }
  | _ => none }
def lookWholeRow : OpenClaim := { program := "ytmldemgciidpbaa", sum := "6ccc069f45d2821cfb70a895f571cf34785e51a0dd99e4c76e9740f143faff84", func := "penelope/penelopelaw08.LookWhole", spec := "lookWhole", inPlace := ["internal/abi.NoEscape", "internal/bytealg.MakeNoZero"], recurses := true, apart := false }
def LookWholeSaid : Prop := lookWholeRow.holds Try.pinned (OpenSpec.ofChange lookWholeSpec)

/-- ITS FALSE NEIGHBOUR: 'it returns false'. Refute it at one input. -/
def lookWholeWrong : ChangeSpec := { name := "lookWhole", fn := fun _ => fun
  | [d1, d2] => { results := [.lit (.bool false)], args := [d1, d2] }
  | _ => none }
def LookWholeWrongFalsely : Prop := lookWholeRow.holds Try.pinned (OpenSpec.ofChange lookWholeWrong)

/-- 'penelopelaw08.LookParts': WHATEVER THE INPUT: true; the input reads as it did. -/
def lookPartsSpec : ChangeSpec := { name := "lookParts", fn := fun _ => fun
  | [d1, d2, d3, d4] => { results := [.lit (.bool true)], args := [d1, d2, d3, d4] }
  | _ => none }
def lookPartsRow : OpenClaim := { program := "ytmldemgciidpbaa", sum := "6ccc069f45d2821cfb70a895f571cf34785e51a0dd99e4c76e9740f143faff84", func := "penelope/penelopelaw08.LookParts", spec := "lookParts", inPlace := ["internal/abi.NoEscape", "internal/bytealg.MakeNoZero"], recurses := true, apart := false }
def LookPartsSaid : Prop := lookPartsRow.holds Try.pinned (OpenSpec.ofChange lookPartsSpec)

/-- ITS FALSE NEIGHBOUR: 'it returns false'. Refute it at one input. -/
def lookPartsWrong : ChangeSpec := { name := "lookParts", fn := fun _ => fun
  | [d1, d2, d3, d4] => { results := [.lit (.bool false)], args := [d1, d2, d3, d4] }
  | _ => none }
def LookPartsWrongFalsely : Prop := lookPartsRow.holds Try.pinned (OpenSpec.ofChange lookPartsWrong)

/- THE SECOND FORM. 'bulk': how many values and letters a reading holds, each counted each time it is reached (what is shared counts as often as it is met; a slice's spare places count too). A statement '..UptoSaid' is the law's where the arguments, and the package variables that the reading takes, are together of bulk at most 1048576: NARROWER than '..Said'. Prove '..Said' where nothing that the law and all that it calls make is longer than what came in: it says more and counts as full. Else prove '..UptoSaid'. A law counts once. -/
mutual
def uptoBulk {H : Type} : DataW H → Nat
  | .lit (.string bytes) => bytes.length + 1
  | .lit _ => 1
  | .nil => 1
  | .ptr d => uptoBulk d + 1
  | .slice elems spare => uptoBulkAll elems + uptoBulkAll spare + 1
  | .agg parts => uptoBulkAll parts + 1
  | .iface _ d => uptoBulk d + 1
  | .map entries => uptoBulkEntries entries + 1
  | .held _ => 1
def uptoBulkAll {H : Type} : List (DataW H) → Nat
  | [] => 0
  | d :: r => uptoBulk d + uptoBulkAll r
def uptoBulkEntries {H : Type} : List (Lit × DataW H) → Nat
  | [] => 0
  | x :: r => uptoBulkEntry x + uptoBulkEntries r
def uptoBulkEntry {H : Type} : Lit × DataW H → Nat
  | (.string bytes, d) => bytes.length + uptoBulk d + 1
  | (_, d) => uptoBulk d + 1
 end
def uptoSmall : (H : Type) → List (DataW H) → Bool := fun _ ds => decide (uptoBulkAll ds ≤ 1048576)
def OpenSpec.upto (s : _root_.Go.ChangeSpec) : _root_.Go.OpenSpec := { _root_.Go.OpenSpec.ofChange s with cond := some uptoSmall }

/-- 'penelopelaw08.LookRights', WHERE WHAT IT READS IS OF BULK AT MOST 1048576: true; the input reads as it did. -/
def lookRightsUptoRow : OpenClaim := { program := "ytmldemgciidpbaa", sum := "6ccc069f45d2821cfb70a895f571cf34785e51a0dd99e4c76e9740f143faff84", func := "penelope/penelopelaw08.LookRights", spec := "lookRights", inPlace := ["internal/abi.NoEscape", "internal/bytealg.MakeNoZero"], apart := false, narrowed := true }
def LookRightsUptoSaid : Prop := lookRightsUptoRow.holds Try.pinned (OpenSpec.upto lookRightsSpec)

/-- 'penelopelaw08.LookGets', WHERE WHAT IT READS IS OF BULK AT MOST 1048576: true; the input reads as it did. -/
def lookGetsUptoRow : OpenClaim := { program := "ytmldemgciidpbaa", sum := "6ccc069f45d2821cfb70a895f571cf34785e51a0dd99e4c76e9740f143faff84", func := "penelope/penelopelaw08.LookGets", spec := "lookGets", inPlace := ["internal/abi.NoEscape", "internal/bytealg.MakeNoZero"], recurses := true, apart := false, narrowed := true }
def LookGetsUptoSaid : Prop := lookGetsUptoRow.holds Try.pinned (OpenSpec.upto lookGetsSpec)

/-- 'penelopelaw08.LookScans', WHERE WHAT IT READS IS OF BULK AT MOST 1048576: true; the input reads as it did. -/
def lookScansUptoRow : OpenClaim := { program := "ytmldemgciidpbaa", sum := "6ccc069f45d2821cfb70a895f571cf34785e51a0dd99e4c76e9740f143faff84", func := "penelope/penelopelaw08.LookScans", spec := "lookScans", inPlace := ["internal/abi.NoEscape", "internal/bytealg.MakeNoZero"], recurses := true, apart := false, narrowed := true }
def LookScansUptoSaid : Prop := lookScansUptoRow.holds Try.pinned (OpenSpec.upto lookScansSpec)

/-- 'penelopelaw08.LookWhole', WHERE WHAT IT READS IS OF BULK AT MOST 1048576: true; the input reads as it did. -/
def lookWholeUptoRow : OpenClaim := { program := "ytmldemgciidpbaa", sum := "6ccc069f45d2821cfb70a895f571cf34785e51a0dd99e4c76e9740f143faff84", func := "penelope/penelopelaw08.LookWhole", spec := "lookWhole", inPlace := ["internal/abi.NoEscape", "internal/bytealg.MakeNoZero"], recurses := true, apart := false, narrowed := true }
def LookWholeUptoSaid : Prop := lookWholeUptoRow.holds Try.pinned (OpenSpec.upto lookWholeSpec)

/-- 'penelopelaw08.LookParts', WHERE WHAT IT READS IS OF BULK AT MOST 1048576: true; the input reads as it did. -/
def lookPartsUptoRow : OpenClaim := { program := "ytmldemgciidpbaa", sum := "6ccc069f45d2821cfb70a895f571cf34785e51a0dd99e4c76e9740f143faff84", func := "penelope/penelopelaw08.LookParts", spec := "lookParts", inPlace := ["internal/abi.NoEscape", "internal/bytealg.MakeNoZero"], recurses := true, apart := false, narrowed := true }
def LookPartsUptoSaid : Prop := lookPartsUptoRow.holds Try.pinned (OpenSpec.upto lookPartsSpec)

end Rows
end Go.Proofs.Ytmldemgciidpbaa

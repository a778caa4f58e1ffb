/-
  No cell of these rows narrows 'for every input' (looked for: loops, veiled, ifaces, maps, wideKeys, modest, calm, conditions, laid).
  DERIVED. THE GIVEN ROWS OF THIS SEAT. 6 by the template 'for every input the law returns true; each argument reads behind the call as it read before'; 0 by the template 'total and deterministic' (their statements: YtaecfbfcjaailaaGreatTotals.lean).
  GIVEN WITH THE SEED: the statements are not yours to turn. If you find one false, say at which input.
  Laid BY PROGRAM, IN A SANDBOX (cutbox-rows.mjs): the forced cells as the released guide's own fill.sh prints them over the translation 2de8f7ef947cdb55… (all of the seat's roots in one cut). By AI agents, Wed Nov 11 2026. No macro, syntax, notation, axiom, sorry.
-/
import Derived.Test.YtaecfbfcjaailaaGreatChecked
import GoSem.Claim
import GoSem.ClaimJoined
import GoSem.ClaimMapViews
import Derived.JoinedTies
import Derived.KernelRfl
namespace Go.Proofs.YtaecfbfcjaailaaGreat
/- THE CELL 'sum', in the pinned program and in every row, IS THE sha256 OF THE DUMP (.gsa) THAT YtaecfbfcjaailaaGreatProg.lean LOADS. Nothing in Lean hashes anything: it is a label: what it is worth is what the hold of that sum in a sandbox is worth. -/
noncomputable def Tryz.pinned : Pinned := { name := "ytaecfbfcjaailaagreat", sum := "2de8f7ef947cdb55b2a47b8b3379bd647c23d9e02f52ff486ab48fd476b52e95", checked := Tryz.checked }
namespace Rows
def none {H : Type} : Left H := { results := [], args := [] }

/-- 'penelopelaw09.GrowPuts': WHATEVER THE INPUT: true; the input reads as it did. -/
def growPutsSpec : ChangeSpec := { name := "growPuts", fn := fun _ => fun
  | [d1, d2, d3] => { results := [.lit (.bool true)], args := [d1, d2, d3] }
  | _ => none }
def growPutsRow : OpenClaim := { program := "ytaecfbfcjaailaagreat", sum := "2de8f7ef947cdb55b2a47b8b3379bd647c23d9e02f52ff486ab48fd476b52e95", func := "penelope/penelopelaw09.GrowPuts", spec := "growPuts", inPlace := ["internal/abi.NoEscape", "internal/bytealg.MakeNoZero"], recurses := true, apart := false }
def GrowPutsSaid : Prop := growPutsRow.holds Tryz.pinned (OpenSpec.ofChange growPutsSpec)

/-- ITS FALSE NEIGHBOUR: 'it returns false'. Refute it at one input. -/
def growPutsWrong : ChangeSpec := { name := "growPuts", fn := fun _ => fun
  | [d1, d2, d3] => { results := [.lit (.bool false)], args := [d1, d2, d3] }
  | _ => none }
def GrowPutsWrongFalsely : Prop := growPutsRow.holds Tryz.pinned (OpenSpec.ofChange growPutsWrong)

/-- 'penelopelaw09.GrowGets': WHATEVER THE INPUT: true; the input reads as it did. -/
def growGetsSpec : ChangeSpec := { name := "growGets", fn := fun _ => fun
  | [d1, d2, d3, d4] => { results := [.lit (.bool true)], args := [d1, d2, d3, d4] }
  | _ => none }
def growGetsRow : OpenClaim := { program := "ytaecfbfcjaailaagreat", sum := "2de8f7ef947cdb55b2a47b8b3379bd647c23d9e02f52ff486ab48fd476b52e95", func := "penelope/penelopelaw09.GrowGets", spec := "growGets", inPlace := ["internal/abi.NoEscape", "internal/bytealg.MakeNoZero"], recurses := true, apart := false }
def GrowGetsSaid : Prop := growGetsRow.holds Tryz.pinned (OpenSpec.ofChange growGetsSpec)

/-- ITS FALSE NEIGHBOUR: 'it returns false'. Refute it at one input. -/
def growGetsWrong : ChangeSpec := { name := "growGets", fn := fun _ => fun
  | [d1, d2, d3, d4] => { results := [.lit (.bool false)], args := [d1, d2, d3, d4] }
  | _ => none }
def GrowGetsWrongFalsely : Prop := growGetsRow.holds Tryz.pinned (OpenSpec.ofChange growGetsWrong)

/-- 'penelopelaw09.GrowAll': WHATEVER THE INPUT: true; the input reads as it did. -/
def growAllSpec : ChangeSpec := { name := "growAll", fn := fun _ => fun
  | [d1, d2] => { results := [.lit (.bool true)], args := [d1, d2] }
  | _ => none }
def growAllRow : OpenClaim := { program := "ytaecfbfcjaailaagreat", sum := "2de8f7ef947cdb55b2a47b8b3379bd647c23d9e02f52ff486ab48fd476b52e95", func := "penelope/penelopelaw09.GrowAll", spec := "growAll", inPlace := ["internal/abi.NoEscape", "internal/bytealg.MakeNoZero"], apart := false }
def GrowAllSaid : Prop := growAllRow.holds Tryz.pinned (OpenSpec.ofChange growAllSpec)

/-- ITS FALSE NEIGHBOUR: 'it returns false'. Refute it at one input. -/
def growAllWrong : ChangeSpec := { name := "growAll", fn := fun _ => fun
  | [d1, d2] => { results := [.lit (.bool false)], args := [d1, d2] }
  | _ => none }
def GrowAllWrongFalsely : Prop := growAllRow.holds Tryz.pinned (OpenSpec.ofChange growAllWrong)

/-- 'penelopelaw09.GrowWhole': WHATEVER THE INPUT: true; the input reads as it did. -/
def growWholeSpec : ChangeSpec := { name := "growWhole", fn := fun _ => fun
  | [d1, d2] => { results := [.lit (.bool true)], args := [d1, d2] }
  | _ => none }
def growWholeRow : OpenClaim := { program := "ytaecfbfcjaailaagreat", sum := "2de8f7ef947cdb55b2a47b8b3379bd647c23d9e02f52ff486ab48fd476b52e95", func := "penelope/penelopelaw09.GrowWhole", spec := "growWhole", inPlace := ["internal/abi.NoEscape", "internal/bytealg.MakeNoZero"], recurses := true, apart := false }
def GrowWholeSaid : Prop := growWholeRow.holds Tryz.pinned (OpenSpec.ofChange growWholeSpec)

/-- ITS FALSE NEIGHBOUR: 'it returns false'. Refute it at one input. -/
def growWholeWrong : ChangeSpec := { name := "growWhole", fn := fun _ => fun
  | [d1, d2] => { results := [.lit (.bool false)], args := [d1, d2] }
  | _ => none }
def GrowWholeWrongFalsely : Prop := growWholeRow.holds Tryz.pinned (OpenSpec.ofChange growWholeWrong)

/-- 'penelopelaw09.GrowKeeps': WHATEVER THE INPUT: true; the input reads as it did. -/
def growKeepsSpec : ChangeSpec := { name := "growKeeps", fn := fun _ => fun
  | [d1, d2, d3] => { results := [.lit (.bool true)], args := [d1, d2, d3] }
  | _ => none }
def growKeepsRow : OpenClaim := { program := "ytaecfbfcjaailaagreat", sum := "2de8f7ef947cdb55b2a47b8b3379bd647c23d9e02f52ff486ab48fd476b52e95", func := "penelope/penelopelaw09.GrowKeeps", spec := "growKeeps", inPlace := ["internal/abi.NoEscape", "internal/bytealg.MakeNoZero"], recurses := true, apart := false }
def GrowKeepsSaid : Prop := growKeepsRow.holds Tryz.pinned (OpenSpec.ofChange growKeepsSpec)

/-- ITS FALSE NEIGHBOUR: 'it returns false'. Refute it at one input. -/
def growKeepsWrong : ChangeSpec := { name := "growKeeps", fn := fun _ => fun
  | [d1, d2, d3] => { results := [.lit (.bool false)], args := [d1, d2, d3] }
  | _ => none }
def GrowKeepsWrongFalsely : Prop := growKeepsRow.holds Tryz.pinned (OpenSpec.ofChange growKeepsWrong)

/-- 'penelopelaw09.GrowOrder': WHATEVER THE INPUT: true; the input reads as it did. -/
def growOrderSpec : ChangeSpec := { name := "growOrder", fn := fun _ => fun
  | [d1, d2, d3] => { results := [.lit (.bool true)], args := [d1, d2, d3] }
  | _ => none }
def growOrderRow : OpenClaim := { program := "ytaecfbfcjaailaagreat", sum := "2de8f7ef947cdb55b2a47b8b3379bd647c23d9e02f52ff486ab48fd476b52e95", func := "penelope/penelopelaw09.GrowOrder", spec := "growOrder", inPlace := ["internal/abi.NoEscape", "internal/bytealg.MakeNoZero"], unfollowed := true, recurses := true, apart := false }
def GrowOrderSaid : Prop := growOrderRow.holds Tryz.pinned (OpenSpec.ofChange growOrderSpec)

/-- ITS FALSE NEIGHBOUR: 'it returns false'. Refute it at one input. -/
def growOrderWrong : ChangeSpec := { name := "growOrder", fn := fun _ => fun
  | [d1, d2, d3] => { results := [.lit (.bool false)], args := [d1, d2, d3] }
  | _ => none }
def GrowOrderWrongFalsely : Prop := growOrderRow.holds Tryz.pinned (OpenSpec.ofChange growOrderWrong)

/- THE SECOND FORM. 'bulk': how many values and letters a reading holds, each counted each time it is reached (what is shared counts as often as it is met; a slice's spare places count too). A statement '..UptoSaid' is the law's where the arguments, and the package variables that the reading takes, are together of bulk at most 1048576: NARROWER than '..Said'. Prove '..Said' where nothing that the law and all that it calls make is longer than what came in: it says more and counts as full. Else prove '..UptoSaid'. A law counts once. -/
mutual
def uptoBulk {H : Type} : DataW H → Nat
  | .lit (.string bytes) => bytes.length + 1
  | .lit _ => 1
  | .nil => 1
  | .ptr d => uptoBulk d + 1
  | .slice elems spare => uptoBulkAll elems + uptoBulkAll spare + 1
  | .agg parts => uptoBulkAll parts + 1
  | .iface _ d => uptoBulk d + 1
  | .map entries => uptoBulkEntries entries + 1
  | .held _ => 1
def uptoBulkAll {H : Type} : List (DataW H) → Nat
  | [] => 0
  | d :: r => uptoBulk d + uptoBulkAll r
def uptoBulkEntries {H : Type} : List (Lit × DataW H) → Nat
  | [] => 0
  | x :: r => uptoBulkEntry x + uptoBulkEntries r
def uptoBulkEntry {H : Type} : Lit × DataW H → Nat
  | (.string bytes, d) => bytes.length + uptoBulk d + 1
  | (_, d) => uptoBulk d + 1
 end
def uptoSmall : (H : Type) → List (DataW H) → Bool := fun _ ds => decide (uptoBulkAll ds ≤ 1048576)
def OpenSpec.upto (s : _root_.Go.ChangeSpec) : _root_.Go.OpenSpec := { _root_.Go.OpenSpec.ofChange s with cond := some uptoSmall }

/-- 'penelopelaw09.GrowPuts', WHERE WHAT IT READS IS OF BULK AT MOST 1048576: true; the input reads as it did. -/
def growPutsUptoRow : OpenClaim := { program := "ytaecfbfcjaailaagreat", sum := "2de8f7ef947cdb55b2a47b8b3379bd647c23d9e02f52ff486ab48fd476b52e95", func := "penelope/penelopelaw09.GrowPuts", spec := "growPuts", inPlace := ["internal/abi.NoEscape", "internal/bytealg.MakeNoZero"], recurses := true, apart := false, narrowed := true }
def GrowPutsUptoSaid : Prop := growPutsUptoRow.holds Tryz.pinned (OpenSpec.upto growPutsSpec)

/-- 'penelopelaw09.GrowGets', WHERE WHAT IT READS IS OF BULK AT MOST 1048576: true; the input reads as it did. -/
def growGetsUptoRow : OpenClaim := { program := "ytaecfbfcjaailaagreat", sum := "2de8f7ef947cdb55b2a47b8b3379bd647c23d9e02f52ff486ab48fd476b52e95", func := "penelope/penelopelaw09.GrowGets", spec := "growGets", inPlace := ["internal/abi.NoEscape", "internal/bytealg.MakeNoZero"], recurses := true, apart := false, narrowed := true }
def GrowGetsUptoSaid : Prop := growGetsUptoRow.holds Tryz.pinned (OpenSpec.upto growGetsSpec)

/-- 'penelopelaw09.GrowAll', WHERE WHAT IT READS IS OF BULK AT MOST 1048576: true; the input reads as it did. -/
def growAllUptoRow : OpenClaim := { program := "ytaecfbfcjaailaagreat", sum := "2de8f7ef947cdb55b2a47b8b3379bd647c23d9e02f52ff486ab48fd476b52e95", func := "penelope/penelopelaw09.GrowAll", spec := "growAll", inPlace := ["internal/abi.NoEscape", "internal/bytealg.MakeNoZero"], apart := false, narrowed := true }
def GrowAllUptoSaid : Prop := growAllUptoRow.holds Tryz.pinned (OpenSpec.upto growAllSpec)

/-- 'penelopelaw09.GrowWhole', WHERE WHAT IT READS IS OF BULK AT MOST 1048576: true; the input reads as it did. -/
def growWholeUptoRow : OpenClaim := { program := "ytaecfbfcjaailaagreat", sum := "2de8f7ef947cdb55b2a47b8b3379bd647c23d9e02f52ff486ab48fd476b52e95", func := "penelope/penelopelaw09.GrowWhole", spec := "growWhole", inPlace := ["internal/abi.NoEscape", "internal/bytealg.MakeNoZero"], recurses := true, apart := false, narrowed := true }
def GrowWholeUptoSaid : Prop := growWholeUptoRow.holds Tryz.pinned (OpenSpec.upto growWholeSpec)

/-- 'penelopelaw09.GrowKeeps', WHERE WHAT IT READS IS OF BULK AT MOST 1048576: true; the input reads as it did. -/
def growKeepsUptoRow : OpenClaim := { program := "ytaecfbfcjaailaagreat", sum := "2de8f7ef947cdb55b2a47b8b3379bd647c23d9e02f52ff486ab48fd476b52e95", func := "penelope/penelopelaw09.GrowKeeps", spec := "growKeeps", inPlace := ["internal/abi.NoEscape", "internal/bytealg.MakeNoZero"], recurses := true, apart := false, narrowed := true }
def GrowKeepsUptoSaid : Prop := growKeepsUptoRow.holds Tryz.pinned (OpenSpec.upto growKeepsSpec)

/-- 'penelopelaw09.GrowOrder', WHERE WHAT IT READS IS OF BULK AT MOST 1048576: true; the input reads as it did. -/
def growOrderUptoRow : OpenClaim := { program := "ytaecfbfcjaailaagreat", sum := "2de8f7ef947cdb55b2a47b8b3379bd647c23d9e02f52ff486ab48fd476b52e95", func := "penelope/penelopelaw09.GrowOrder", spec := "growOrder", inPlace := ["internal/abi.NoEscape", "internal/bytealg.MakeNoZero"], unfollowed := true, recurses := true, apart := false, narrowed := true }
def GrowOrderUptoSaid : Prop := growOrderUptoRow.holds Tryz.pinned (OpenSpec.upto growOrderSpec)

end Rows
end Go.Proofs.YtaecfbfcjaailaaGreat

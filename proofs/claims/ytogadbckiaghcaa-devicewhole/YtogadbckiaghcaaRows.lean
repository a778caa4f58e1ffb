/-
  No cell of these rows narrows 'for every input' (looked for: loops, veiled, ifaces, maps, wideKeys, modest, calm, conditions, laid).
  DERIVED. THE GIVEN ROWS OF THIS SEAT. 6 by the template 'for every input the law returns true; each argument reads behind the call as it read before'; 0 by the template 'total and deterministic' (their statements: YtogadbckiaghcaaTotals.lean).
  GIVEN WITH THE SEED: the statements are not yours to turn. If you find one false, say at which input.
  Laid BY PROGRAM, IN A SANDBOX (cutbox-rows.mjs): the forced cells as the released guide's own fill.sh prints them over the translation cc79d39432e4bff5… (all of the seat's roots in one cut). By AI agents, Wed Nov 11 2026. No macro, syntax, notation, axiom, sorry.
-/
import Derived.Test.YtogadbckiaghcaaChecked
import GoSem.Claim
import GoSem.ClaimJoined
import GoSem.ClaimMapViews
import Derived.JoinedTies
import Derived.KernelRfl
namespace Go.Proofs.Ytogadbckiaghcaa
/- THE CELL 'sum', in the pinned program and in every row, IS THE sha256 OF THE DUMP (.gsa) THAT YtogadbckiaghcaaProg.lean LOADS. Nothing in Lean hashes anything: it is a label: what it is worth is what the hold of that sum in a sandbox is worth. -/
noncomputable def Try.pinned : Pinned := { name := "ytogadbckiaghcaa", sum := "cc79d39432e4bff56ed79728587f839117690ad5c6f1f9771115d77e3dc5ed8d", checked := Try.checked }
namespace Rows
def none {H : Type} : Left H := { results := [], args := [] }

/-- 'penelopelaw03.DeviceRights': WHATEVER THE INPUT: true; the input reads as it did. -/
def deviceRightsSpec : ChangeSpec := { name := "deviceRights", fn := fun _ => fun
  | [d1, d2] => { results := [.lit (.bool true)], args := [d1, d2] }
  | _ => none }
def deviceRightsRow : OpenClaim := { program := "ytogadbckiaghcaa", sum := "cc79d39432e4bff56ed79728587f839117690ad5c6f1f9771115d77e3dc5ed8d", func := "penelope/penelopelaw03.DeviceRights", spec := "deviceRights", apart := false }
def DeviceRightsSaid : Prop := deviceRightsRow.holds Try.pinned (OpenSpec.ofChange deviceRightsSpec)

/-- ITS FALSE NEIGHBOUR: 'it returns false'. Refute it at one input. -/
def deviceRightsWrong : ChangeSpec := { name := "deviceRights", fn := fun _ => fun
  | [d1, d2] => { results := [.lit (.bool false)], args := [d1, d2] }
  | _ => none }
def DeviceRightsWrongFalsely : Prop := deviceRightsRow.holds Try.pinned (OpenSpec.ofChange deviceRightsWrong)

/-- 'penelopelaw03.DeviceCalls': WHATEVER THE INPUT: true; the input reads as it did. -/
def deviceCallsSpec : ChangeSpec := { name := "deviceCalls", fn := fun _ => fun
  | [d1, d2, d3] => { results := [.lit (.bool true)], args := [d1, d2, d3] }
  | _ => none }
def deviceCallsRow : OpenClaim := { program := "ytogadbckiaghcaa", sum := "cc79d39432e4bff56ed79728587f839117690ad5c6f1f9771115d77e3dc5ed8d", func := "penelope/penelopelaw03.DeviceCalls", spec := "deviceCalls", unfollowed := true, recurses := true, apart := false }
def DeviceCallsSaid : Prop := deviceCallsRow.holds Try.pinned (OpenSpec.ofChange deviceCallsSpec)

/-- ITS FALSE NEIGHBOUR: 'it returns false'. Refute it at one input. -/
def deviceCallsWrong : ChangeSpec := { name := "deviceCalls", fn := fun _ => fun
  | [d1, d2, d3] => { results := [.lit (.bool false)], args := [d1, d2, d3] }
  | _ => none }
def DeviceCallsWrongFalsely : Prop := deviceCallsRow.holds Try.pinned (OpenSpec.ofChange deviceCallsWrong)

/-- 'penelopelaw03.DeviceCrashes': WHATEVER THE INPUT: true; the input reads as it did. -/
def deviceCrashesSpec : ChangeSpec := { name := "deviceCrashes", fn := fun _ => fun
  | [d1, d2] => { results := [.lit (.bool true)], args := [d1, d2] }
  | _ => none }
def deviceCrashesRow : OpenClaim := { program := "ytogadbckiaghcaa", sum := "cc79d39432e4bff56ed79728587f839117690ad5c6f1f9771115d77e3dc5ed8d", func := "penelope/penelopelaw03.DeviceCrashes", spec := "deviceCrashes", apart := false }
def DeviceCrashesSaid : Prop := deviceCrashesRow.holds Try.pinned (OpenSpec.ofChange deviceCrashesSpec)

/-- ITS FALSE NEIGHBOUR: 'it returns false'. Refute it at one input. -/
def deviceCrashesWrong : ChangeSpec := { name := "deviceCrashes", fn := fun _ => fun
  | [d1, d2] => { results := [.lit (.bool false)], args := [d1, d2] }
  | _ => none }
def DeviceCrashesWrongFalsely : Prop := deviceCrashesRow.holds Try.pinned (OpenSpec.ofChange deviceCrashesWrong)

/-- 'penelopelaw03.DeviceMixes': WHATEVER THE INPUT: true; the input reads as it did. -/
def deviceMixesSpec : ChangeSpec := { name := "deviceMixes", fn := fun _ => fun
  | [d1, d2, d3, d4] => { results := [.lit (.bool true)], args := [d1, d2, d3, d4] }
  | _ => none }
def deviceMixesRow : OpenClaim := { program := "ytogadbckiaghcaa", sum := "cc79d39432e4bff56ed79728587f839117690ad5c6f1f9771115d77e3dc5ed8d", func := "penelope/penelopelaw03.DeviceMixes", spec := "deviceMixes", apart := false }
def DeviceMixesSaid : Prop := deviceMixesRow.holds Try.pinned (OpenSpec.ofChange deviceMixesSpec)

/-- ITS FALSE NEIGHBOUR: 'it returns false'. Refute it at one input. -/
def deviceMixesWrong : ChangeSpec := { name := "deviceMixes", fn := fun _ => fun
  | [d1, d2, d3, d4] => { results := [.lit (.bool false)], args := [d1, d2, d3, d4] }
  | _ => none }
def DeviceMixesWrongFalsely : Prop := deviceMixesRow.holds Try.pinned (OpenSpec.ofChange deviceMixesWrong)

/-- 'penelopelaw03.DeviceTells': WHATEVER THE INPUT: true; the input reads as it did. -/
def deviceTellsSpec : ChangeSpec := { name := "deviceTells", fn := fun _ => fun
  | [d1, d2, d3, d4, d5] => { results := [.lit (.bool true)], args := [d1, d2, d3, d4, d5] }
  | _ => none }
def deviceTellsRow : OpenClaim := { program := "ytogadbckiaghcaa", sum := "cc79d39432e4bff56ed79728587f839117690ad5c6f1f9771115d77e3dc5ed8d", func := "penelope/penelopelaw03.DeviceTells", spec := "deviceTells", unfollowed := true, recurses := true, apart := false }
def DeviceTellsSaid : Prop := deviceTellsRow.holds Try.pinned (OpenSpec.ofChange deviceTellsSpec)

/-- ITS FALSE NEIGHBOUR: 'it returns false'. Refute it at one input. -/
def deviceTellsWrong : ChangeSpec := { name := "deviceTells", fn := fun _ => fun
  | [d1, d2, d3, d4, d5] => { results := [.lit (.bool false)], args := [d1, d2, d3, d4, d5] }
  | _ => none }
def DeviceTellsWrongFalsely : Prop := deviceTellsRow.holds Try.pinned (OpenSpec.ofChange deviceTellsWrong)

/-- 'penelopelaw03.DeviceWhole': WHATEVER THE INPUT: true; the input reads as it did. -/
def deviceWholeSpec : ChangeSpec := { name := "deviceWhole", fn := fun _ => fun
  | [d1, d2] => { results := [.lit (.bool true)], args := [d1, d2] }
  | _ => none }
def deviceWholeRow : OpenClaim := { program := "ytogadbckiaghcaa", sum := "cc79d39432e4bff56ed79728587f839117690ad5c6f1f9771115d77e3dc5ed8d", func := "penelope/penelopelaw03.DeviceWhole", spec := "deviceWhole", apart := false }
def DeviceWholeSaid : Prop := deviceWholeRow.holds Try.pinned (OpenSpec.ofChange deviceWholeSpec)

/-- ITS FALSE NEIGHBOUR: 'it returns false'. Refute it at one input. -/
def deviceWholeWrong : ChangeSpec := { name := "deviceWhole", fn := fun _ => fun
  | [d1, d2] => { results := [.lit (.bool false)], args := [d1, d2] }
  | _ => none }
def DeviceWholeWrongFalsely : Prop := deviceWholeRow.holds Try.pinned (OpenSpec.ofChange deviceWholeWrong)

/- THE SECOND FORM. 'bulk': how many values and letters a reading holds, each counted each time it is reached (what is shared counts as often as it is met; a slice's spare places count too). A statement '..UptoSaid' is the law's where the arguments, and the package variables that the reading takes, are together of bulk at most 1048576: NARROWER than '..Said'. Prove '..Said' where nothing that the law and all that it calls make is longer than what came in: it says more and counts as full. Else prove '..UptoSaid'. A law counts once. -/
mutual
def uptoBulk {H : Type} : DataW H → Nat
  | .lit (.string bytes) => bytes.length + 1
  | .lit _ => 1
  | .nil => 1
  | .ptr d => uptoBulk d + 1
  | .slice elems spare => uptoBulkAll elems + uptoBulkAll spare + 1
  | .agg parts => uptoBulkAll parts + 1
  | .iface _ d => uptoBulk d + 1
  | .map entries => uptoBulkEntries entries + 1
  | .held _ => 1
def uptoBulkAll {H : Type} : List (DataW H) → Nat
  | [] => 0
  | d :: r => uptoBulk d + uptoBulkAll r
def uptoBulkEntries {H : Type} : List (Lit × DataW H) → Nat
  | [] => 0
  | x :: r => uptoBulkEntry x + uptoBulkEntries r
def uptoBulkEntry {H : Type} : Lit × DataW H → Nat
  | (.string bytes, d) => bytes.length + uptoBulk d + 1
  | (_, d) => uptoBulk d + 1
 end
def uptoSmall : (H : Type) → List (DataW H) → Bool := fun _ ds => decide (uptoBulkAll ds ≤ 1048576)
def OpenSpec.upto (s : _root_.Go.ChangeSpec) : _root_.Go.OpenSpec := { _root_.Go.OpenSpec.ofChange s with cond := some uptoSmall }

/-- 'penelopelaw03.DeviceRights', WHERE WHAT IT READS IS OF BULK AT MOST 1048576: true; the input reads as it did. -/
def deviceRightsUptoRow : OpenClaim := { program := "ytogadbckiaghcaa", sum := "cc79d39432e4bff56ed79728587f839117690ad5c6f1f9771115d77e3dc5ed8d", func := "penelope/penelopelaw03.DeviceRights", spec := "deviceRights", apart := false, narrowed := true }
def DeviceRightsUptoSaid : Prop := deviceRightsUptoRow.holds Try.pinned (OpenSpec.upto deviceRightsSpec)

/-- 'penelopelaw03.DeviceCalls', WHERE WHAT IT READS IS OF BULK AT MOST 1048576: true; the input reads as it did. -/
def deviceCallsUptoRow : OpenClaim := { program := "ytogadbckiaghcaa", sum := "cc79d39432e4bff56ed79728587f839117690ad5c6f1f9771115d77e3dc5ed8d", func := "penelope/penelopelaw03.DeviceCalls", spec := "deviceCalls", unfollowed := true, recurses := true, apart := false, narrowed := true }
def DeviceCallsUptoSaid : Prop := deviceCallsUptoRow.holds Try.pinned (OpenSpec.upto deviceCallsSpec)

/-- 'penelopelaw03.DeviceCrashes', WHERE WHAT IT READS IS OF BULK AT MOST 1048576: true; the input reads as it did. -/
def deviceCrashesUptoRow : OpenClaim := { program := "ytogadbckiaghcaa", sum := "cc79d39432e4bff56ed79728587f839117690ad5c6f1f9771115d77e3dc5ed8d", func := "penelope/penelopelaw03.DeviceCrashes", spec := "deviceCrashes", apart := false, narrowed := true }
def DeviceCrashesUptoSaid : Prop := deviceCrashesUptoRow.holds Try.pinned (OpenSpec.upto deviceCrashesSpec)

/-- 'penelopelaw03.DeviceMixes', WHERE WHAT IT READS IS OF BULK AT MOST 1048576: true; the input reads as it did. -/
def deviceMixesUptoRow : OpenClaim := { program := "ytogadbckiaghcaa", sum := "cc79d39432e4bff56ed79728587f839117690ad5c6f1f9771115d77e3dc5ed8d", func := "penelope/penelopelaw03.DeviceMixes", spec := "deviceMixes", apart := false, narrowed := true }
def DeviceMixesUptoSaid : Prop := deviceMixesUptoRow.holds Try.pinned (OpenSpec.upto deviceMixesSpec)

/-- 'penelopelaw03.DeviceTells', WHERE WHAT IT READS IS OF BULK AT MOST 1048576: true; the input reads as it did. -/
def deviceTellsUptoRow : OpenClaim := { program := "ytogadbckiaghcaa", sum := "cc79d39432e4bff56ed79728587f839117690ad5c6f1f9771115d77e3dc5ed8d", func := "penelope/penelopelaw03.DeviceTells", spec := "deviceTells", unfollowed := true, recurses := true, apart := false, narrowed := true }
def DeviceTellsUptoSaid : Prop := deviceTellsUptoRow.holds Try.pinned (OpenSpec.upto deviceTellsSpec)

/-- 'penelopelaw03.DeviceWhole', WHERE WHAT IT READS IS OF BULK AT MOST 1048576: true; the input reads as it did. -/
def deviceWholeUptoRow : OpenClaim := { program := "ytogadbckiaghcaa", sum := "cc79d39432e4bff56ed79728587f839117690ad5c6f1f9771115d77e3dc5ed8d", func := "penelope/penelopelaw03.DeviceWhole", spec := "deviceWhole", apart := false, narrowed := true }
def DeviceWholeUptoSaid : Prop := deviceWholeUptoRow.holds Try.pinned (OpenSpec.upto deviceWholeSpec)

end Rows
end Go.Proofs.Ytogadbckiaghcaa

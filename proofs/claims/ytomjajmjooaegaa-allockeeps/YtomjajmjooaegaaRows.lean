/-
  No cell of these rows narrows 'for every input' (looked for: loops, veiled, ifaces, maps, wideKeys, modest, calm, conditions, laid).
  DERIVED. THE GIVEN ROWS OF THIS SEAT. 5 by the template 'for every input the law returns true; each argument reads behind the call as it read before'; 0 by the template 'total and deterministic' (their statements: YtomjajmjooaegaaTotals.lean).
  GIVEN WITH THE SEED: the statements are not yours to turn. If you find one false, say at which input.
  Laid BY PROGRAM, IN A SANDBOX (cutbox-rows.mjs): the forced cells as the released guide's own fill.sh prints them over the translation 8065d1bb37acfede… (all of the seat's roots in one cut). By AI agents, Wed Nov 11 2026. No macro, syntax, notation, axiom, sorry.
-/
import Derived.Test.YtomjajmjooaegaaChecked
import GoSem.Claim
import GoSem.ClaimJoined
import GoSem.ClaimMapViews
import Derived.JoinedTies
import Derived.KernelRfl
namespace Go.Proofs.Ytomjajmjooaegaa
/- THE CELL 'sum', in the pinned program and in every row, IS THE sha256 OF THE DUMP (.gsa) THAT YtomjajmjooaegaaProg.lean LOADS. Nothing in Lean hashes anything: it is a label: what it is worth is what the hold of that sum in a sandbox is worth. -/
noncomputable def Try.pinned : Pinned := { name := "ytomjajmjooaegaa", sum := "8065d1bb37acfede6fd22de82564e6ffad61c92e2a102ac365806f547f105f83", checked := Try.checked }
namespace Rows
def none {H : Type} : Left H := { results := [], args := [] }

/-- 'penelopelaw06.AllocRights': WHATEVER THE INPUT: true; the input reads as it did. -/
def allocRightsSpec : ChangeSpec := { name := "allocRights", fn := fun _ => fun
  | [d1, d2] => { results := [.lit (.bool true)], args := [d1, d2] }
  | _ => none }
def allocRightsRow : OpenClaim := { program := "ytomjajmjooaegaa", sum := "8065d1bb37acfede6fd22de82564e6ffad61c92e2a102ac365806f547f105f83", func := "penelope/penelopelaw06.AllocRights", spec := "allocRights", apart := false }
def AllocRightsSaid : Prop := allocRightsRow.holds Try.pinned (OpenSpec.ofChange allocRightsSpec)

/-- ITS FALSE NEIGHBOUR: 'it returns false'. Refute it at one input. -/
def allocRightsWrong : ChangeSpec := { name := "allocRights", fn := fun _ => fun
  | [d1, d2] => { results := [.lit (.bool false)], args := [d1, d2] }
  | _ => none }
def AllocRightsWrongFalsely : Prop := allocRightsRow.holds Try.pinned (OpenSpec.ofChange allocRightsWrong)

/-- 'penelopelaw06.AllocCalls': WHATEVER THE INPUT: true; the input reads as it did. -/
def allocCallsSpec : ChangeSpec := { name := "allocCalls", fn := fun _ => fun
  | [d1, d2] => { results := [.lit (.bool true)], args := [d1, d2] }
  | _ => none }
def allocCallsRow : OpenClaim := { program := "ytomjajmjooaegaa", sum := "8065d1bb37acfede6fd22de82564e6ffad61c92e2a102ac365806f547f105f83", func := "penelope/penelopelaw06.AllocCalls", spec := "allocCalls", apart := false }
def AllocCallsSaid : Prop := allocCallsRow.holds Try.pinned (OpenSpec.ofChange allocCallsSpec)

/-- ITS FALSE NEIGHBOUR: 'it returns false'. Refute it at one input. -/
def allocCallsWrong : ChangeSpec := { name := "allocCalls", fn := fun _ => fun
  | [d1, d2] => { results := [.lit (.bool false)], args := [d1, d2] }
  | _ => none }
def AllocCallsWrongFalsely : Prop := allocCallsRow.holds Try.pinned (OpenSpec.ofChange allocCallsWrong)

/-- 'penelopelaw06.AllocTakes': WHATEVER THE INPUT: true; the input reads as it did. -/
def allocTakesSpec : ChangeSpec := { name := "allocTakes", fn := fun _ => fun
  | [d] => { results := [.lit (.bool true)], args := [d] }
  | _ => none }
def allocTakesRow : OpenClaim := { program := "ytomjajmjooaegaa", sum := "8065d1bb37acfede6fd22de82564e6ffad61c92e2a102ac365806f547f105f83", func := "penelope/penelopelaw06.AllocTakes", spec := "allocTakes", apart := false }
def AllocTakesSaid : Prop := allocTakesRow.holds Try.pinned (OpenSpec.ofChange allocTakesSpec)

/-- ITS FALSE NEIGHBOUR: 'it returns false'. Refute it at one input. -/
def allocTakesWrong : ChangeSpec := { name := "allocTakes", fn := fun _ => fun
  | [d] => { results := [.lit (.bool false)], args := [d] }
  | _ => none }
def AllocTakesWrongFalsely : Prop := allocTakesRow.holds Try.pinned (OpenSpec.ofChange allocTakesWrong)

/-- 'penelopelaw06.AllocKeeps': WHATEVER THE INPUT: true; the input reads as it did. -/
def allocKeepsSpec : ChangeSpec := { name := "allocKeeps", fn := fun _ => fun
  | [d1, d2] => { results := [.lit (.bool true)], args := [d1, d2] }
  | _ => none }
def allocKeepsRow : OpenClaim := { program := "ytomjajmjooaegaa", sum := "8065d1bb37acfede6fd22de82564e6ffad61c92e2a102ac365806f547f105f83", func := "penelope/penelopelaw06.AllocKeeps", spec := "allocKeeps", apart := false }
def AllocKeepsSaid : Prop := allocKeepsRow.holds Try.pinned (OpenSpec.ofChange allocKeepsSpec)

/-- ITS FALSE NEIGHBOUR: 'it returns false'. Refute it at one input. -/
def allocKeepsWrong : ChangeSpec := { name := "allocKeeps", fn := fun _ => fun
  | [d1, d2] => { results := [.lit (.bool false)], args := [d1, d2] }
  | _ => none }
def AllocKeepsWrongFalsely : Prop := allocKeepsRow.holds Try.pinned (OpenSpec.ofChange allocKeepsWrong)

/-- 'penelopelaw06.AllocFills': WHATEVER THE INPUT: true; the input reads as it did. -/
def allocFillsSpec : ChangeSpec := { name := "allocFills", fn := fun _ => fun
  | [d1, d2] => { results := [.lit (.bool true)], args := [d1, d2] }
  | _ => none }
def allocFillsRow : OpenClaim := { program := "ytomjajmjooaegaa", sum := "8065d1bb37acfede6fd22de82564e6ffad61c92e2a102ac365806f547f105f83", func := "penelope/penelopelaw06.AllocFills", spec := "allocFills", apart := false }
def AllocFillsSaid : Prop := allocFillsRow.holds Try.pinned (OpenSpec.ofChange allocFillsSpec)

/-- ITS FALSE NEIGHBOUR: 'it returns false'. Refute it at one input. -/
def allocFillsWrong : ChangeSpec := { name := "allocFills", fn := fun _ => fun
  | [d1, d2] => { results := [.lit (.bool false)], args := [d1, d2] }
  | _ => none }
def AllocFillsWrongFalsely : Prop := allocFillsRow.holds Try.pinned (OpenSpec.ofChange allocFillsWrong)

/- THE SECOND FORM. 'bulk': how many values and letters a reading holds, each counted each time it is reached (what is shared counts as often as it is met; a slice's spare places count too). A statement '..UptoSaid' is the law's where the arguments, and the package variables that the reading takes, are together of bulk at most 1048576: NARROWER than '..Said'. Prove '..Said' where nothing that the law and all that it calls make is longer than what came in: it says more and counts as full. Else prove '..UptoSaid'. A law counts once. -/
mutual
def uptoBulk {H : Type} : DataW H → Nat
  | .lit (.string bytes) => bytes.length + 1
  | .lit _ => 1
  | .nil => 1
  | .ptr d => uptoBulk d + 1
  | .slice elems spare => uptoBulkAll elems + uptoBulkAll spare + 1
  | .agg parts => uptoBulkAll parts + 1
  | .iface _ d => uptoBulk d + 1
  | .map entries => uptoBulkEntries entries + 1
  | .held _ => 1
def uptoBulkAll {H : Type} : List (DataW H) → Nat
  | [] => 0
  | d :: r => uptoBulk d + uptoBulkAll r
def uptoBulkEntries {H : Type} : List (Lit × DataW H) → Nat
  | [] => 0
  | x :: r => uptoBulkEntry x + uptoBulkEntries r
def uptoBulkEntry {H : Type} : Lit × DataW H → Nat
  | (.string bytes, d) => bytes.length + uptoBulk d + 1
  | (_, d) => uptoBulk d + 1
 end
def uptoSmall : (H : Type) → List (DataW H) → Bool := fun _ ds => decide (uptoBulkAll ds ≤ 1048576)
def OpenSpec.upto (s : _root_.Go.ChangeSpec) : _root_.Go.OpenSpec := { _root_.Go.OpenSpec.ofChange s with cond := some uptoSmall }

/-- 'penelopelaw06.AllocRights', WHERE WHAT IT READS IS OF BULK AT MOST 1048576: true; the input reads as it did. -/
def allocRightsUptoRow : OpenClaim := { program := "ytomjajmjooaegaa", sum := "8065d1bb37acfede6fd22de82564e6ffad61c92e2a102ac365806f547f105f83", func := "penelope/penelopelaw06.AllocRights", spec := "allocRights", apart := false, narrowed := true }
def AllocRightsUptoSaid : Prop := allocRightsUptoRow.holds Try.pinned (OpenSpec.upto allocRightsSpec)

/-- 'penelopelaw06.AllocCalls', WHERE WHAT IT READS IS OF BULK AT MOST 1048576: true; the input reads as it did. -/
def allocCallsUptoRow : OpenClaim := { program := "ytomjajmjooaegaa", sum := "8065d1bb37acfede6fd22de82564e6ffad61c92e2a102ac365806f547f105f83", func := "penelope/penelopelaw06.AllocCalls", spec := "allocCalls", apart := false, narrowed := true }
def AllocCallsUptoSaid : Prop := allocCallsUptoRow.holds Try.pinned (OpenSpec.upto allocCallsSpec)

/-- 'penelopelaw06.AllocTakes', WHERE WHAT IT READS IS OF BULK AT MOST 1048576: true; the input reads as it did. -/
def allocTakesUptoRow : OpenClaim := { program := "ytomjajmjooaegaa", sum := "8065d1bb37acfede6fd22de82564e6ffad61c92e2a102ac365806f547f105f83", func := "penelope/penelopelaw06.AllocTakes", spec := "allocTakes", apart := false, narrowed := true }
def AllocTakesUptoSaid : Prop := allocTakesUptoRow.holds Try.pinned (OpenSpec.upto allocTakesSpec)

/-- 'penelopelaw06.AllocKeeps', WHERE WHAT IT READS IS OF BULK AT MOST 1048576: true; the input reads as it did. -/
def allocKeepsUptoRow : OpenClaim := { program := "ytomjajmjooaegaa", sum := "8065d1bb37acfede6fd22de82564e6ffad61c92e2a102ac365806f547f105f83", func := "penelope/penelopelaw06.AllocKeeps", spec := "allocKeeps", apart := false, narrowed := true }
def AllocKeepsUptoSaid : Prop := allocKeepsUptoRow.holds Try.pinned (OpenSpec.upto allocKeepsSpec)

/-- 'penelopelaw06.AllocFills', WHERE WHAT IT READS IS OF BULK AT MOST 1048576: true; the input reads as it did. -/
def allocFillsUptoRow : OpenClaim := { program := "ytomjajmjooaegaa", sum := "8065d1bb37acfede6fd22de82564e6ffad61c92e2a102ac365806f547f105f83", func := "penelope/penelopelaw06.AllocFills", spec := "allocFills", apart := false, narrowed := true }
def AllocFillsUptoSaid : Prop := allocFillsUptoRow.holds Try.pinned (OpenSpec.upto allocFillsSpec)

end Rows
end Go.Proofs.Ytomjajmjooaegaa

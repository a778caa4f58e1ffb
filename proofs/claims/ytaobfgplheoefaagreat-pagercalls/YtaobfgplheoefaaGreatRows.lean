/-
  No cell of these rows narrows 'for every input' (looked for: loops, veiled, ifaces, maps, wideKeys, modest, calm, conditions, laid).
  DERIVED. THE GIVEN ROWS OF THIS SEAT. 4 by the template 'for every input the law returns true; each argument reads behind the call as it read before'; 0 by the template 'total and deterministic' (their statements: YtaobfgplheoefaaGreatTotals.lean).
  GIVEN WITH THE SEED: the statements are not yours to turn. If you find one false, say at which input.
  Laid BY PROGRAM, IN A SANDBOX (cutbox-rows.mjs): the forced cells as the released guide's own fill.sh prints them over the translation a42d2f1f41495ff7… (all of the seat's roots in one cut). By AI agents, Wed Nov 11 2026. No macro, syntax, notation, axiom, sorry.
-/
import Derived.Test.YtaobfgplheoefaaGreatChecked
import GoSem.Claim
import GoSem.ClaimJoined
import GoSem.ClaimMapViews
import Derived.JoinedTies
import Derived.KernelRfl
namespace Go.Proofs.YtaobfgplheoefaaGreat
/- THE CELL 'sum', in the pinned program and in every row, IS THE sha256 OF THE DUMP (.gsa) THAT YtaobfgplheoefaaGreatProg.lean LOADS. Nothing in Lean hashes anything: it is a label: what it is worth is what the hold of that sum in a sandbox is worth. -/
noncomputable def Tryz.pinned : Pinned := { name := "ytaobfgplheoefaagreat", sum := "a42d2f1f41495ff744d61a16c1854986f7b4925ddeaf83af6da262c3bded1562", checked := Tryz.checked }
namespace Rows
def none {H : Type} : Left H := { results := [], args := [] }

/-- 'penelopelaw14.PagerFormats': WHATEVER THE INPUT: true; the input reads as it did. -/
def pagerFormatsSpec : ChangeSpec := { name := "pagerFormats", fn := fun _ => fun
  | [d] => { results := [.lit (.bool true)], args := [d] }
  | _ => none }
def pagerFormatsRow : OpenClaim := { program := "ytaobfgplheoefaagreat", sum := "a42d2f1f41495ff744d61a16c1854986f7b4925ddeaf83af6da262c3bded1562", func := "penelope/penelopelaw14.PagerFormats", spec := "pagerFormats", inPlace := ["internal/abi.NoEscape", "internal/bytealg.MakeNoZero"], unfollowed := true, recurses := true, apart := false }
def PagerFormatsSaid : Prop := pagerFormatsRow.holds Tryz.pinned (OpenSpec.ofChange pagerFormatsSpec)

/-- ITS FALSE NEIGHBOUR: 'it returns false'. Refute it at one input. -/
def pagerFormatsWrong : ChangeSpec := { name := "pagerFormats", fn := fun _ => fun
  | [d] => { results := [.lit (.bool false)], args := [d] }
  | _ => none }
def PagerFormatsWrongFalsely : Prop := pagerFormatsRow.holds Tryz.pinned (OpenSpec.ofChange pagerFormatsWrong)

/-- 'penelopelaw14.PagerMounts': WHATEVER THE INPUT: true; the input reads as it did. -/
def pagerMountsSpec : ChangeSpec := { name := "pagerMounts", fn := fun _ => fun
  | [d] => { results := [.lit (.bool true)], args := [d] }
  | _ => none }
def pagerMountsRow : OpenClaim := { program := "ytaobfgplheoefaagreat", sum := "a42d2f1f41495ff744d61a16c1854986f7b4925ddeaf83af6da262c3bded1562", func := "penelope/penelopelaw14.PagerMounts", spec := "pagerMounts", inPlace := ["internal/abi.NoEscape", "internal/bytealg.MakeNoZero"], unfollowed := true, recurses := true, apart := false }
def PagerMountsSaid : Prop := pagerMountsRow.holds Tryz.pinned (OpenSpec.ofChange pagerMountsSpec)

/-- ITS FALSE NEIGHBOUR: 'it returns false'. Refute it at one input. -/
def pagerMountsWrong : ChangeSpec := { name := "pagerMounts", fn := fun _ => fun
  | [d] => { results := [.lit (.bool false)], args := [d] }
  | _ => none }
def PagerMountsWrongFalsely : Prop := pagerMountsRow.holds Tryz.pinned (OpenSpec.ofChange pagerMountsWrong)

/-- 'penelopelaw14.PagerCalls': WHATEVER THE INPUT: true; the input reads as it did. -/
def pagerCallsSpec : ChangeSpec := { name := "pagerCalls", fn := fun _ => fun
  | [d1, d2, d3] => { results := [.lit (.bool true)], args := [d1, d2, d3] }
  | _ => none }
def pagerCallsRow : OpenClaim := { program := "ytaobfgplheoefaagreat", sum := "a42d2f1f41495ff744d61a16c1854986f7b4925ddeaf83af6da262c3bded1562", func := "penelope/penelopelaw14.PagerCalls", spec := "pagerCalls", inPlace := ["internal/abi.NoEscape", "internal/bytealg.MakeNoZero"], unfollowed := true, recurses := true, apart := false }
def PagerCallsSaid : Prop := pagerCallsRow.holds Tryz.pinned (OpenSpec.ofChange pagerCallsSpec)

/-- ITS FALSE NEIGHBOUR: 'it returns false'. Refute it at one input. -/
def pagerCallsWrong : ChangeSpec := { name := "pagerCalls", fn := fun _ => fun
  | [d1, d2, d3] => { results := [.lit (.bool false)], args := [d1, d2, d3] }
  | _ => none }
def PagerCallsWrongFalsely : Prop := pagerCallsRow.holds Tryz.pinned (OpenSpec.ofChange pagerCallsWrong)

/-- 'penelopelaw14.PagerCommits': WHATEVER THE INPUT: true; the input reads as it did. -/
def pagerCommitsSpec : ChangeSpec := { name := "pagerCommits", fn := fun _ => fun
  | [d1, d2] => { results := [.lit (.bool true)], args := [d1, d2] }
  | _ => none }
def pagerCommitsRow : OpenClaim := { program := "ytaobfgplheoefaagreat", sum := "a42d2f1f41495ff744d61a16c1854986f7b4925ddeaf83af6da262c3bded1562", func := "penelope/penelopelaw14.PagerCommits", spec := "pagerCommits", inPlace := ["internal/abi.NoEscape", "internal/bytealg.MakeNoZero"], unfollowed := true, recurses := true, apart := false }
def PagerCommitsSaid : Prop := pagerCommitsRow.holds Tryz.pinned (OpenSpec.ofChange pagerCommitsSpec)

/-- ITS FALSE NEIGHBOUR: 'it returns false'. Refute it at one input. -/
def pagerCommitsWrong : ChangeSpec := { name := "pagerCommits", fn := fun _ => fun
  | [d1, d2] => { results := [.lit (.bool false)], args := [d1, d2] }
  | _ => none }
def PagerCommitsWrongFalsely : Prop := pagerCommitsRow.holds Tryz.pinned (OpenSpec.ofChange pagerCommitsWrong)

/- THE SECOND FORM. 'bulk': how many values and letters a reading holds, each counted each time it is reached (what is shared counts as often as it is met; a slice's spare places count too). A statement '..UptoSaid' is the law's where the arguments, and the package variables that the reading takes, are together of bulk at most 1048576: NARROWER than '..Said'. Prove '..Said' where nothing that the law and all that it calls make is longer than what came in: it says more and counts as full. Else prove '..UptoSaid'. A law counts once. -/
mutual
def uptoBulk {H : Type} : DataW H → Nat
  | .lit (.string bytes) => bytes.length + 1
  | .lit _ => 1
  | .nil => 1
  | .ptr d => uptoBulk d + 1
  | .slice elems spare => uptoBulkAll elems + uptoBulkAll spare + 1
  | .agg parts => uptoBulkAll parts + 1
  | .iface _ d => uptoBulk d + 1
  | .map entries => uptoBulkEntries entries + 1
  | .held _ => 1
def uptoBulkAll {H : Type} : List (DataW H) → Nat
  | [] => 0
  | d :: r => uptoBulk d + uptoBulkAll r
def uptoBulkEntries {H : Type} : List (Lit × DataW H) → Nat
  | [] => 0
  | x :: r => uptoBulkEntry x + uptoBulkEntries r
def uptoBulkEntry {H : Type} : Lit × DataW H → Nat
  | (.string bytes, d) => bytes.length + uptoBulk d + 1
  | (_, d) => uptoBulk d + 1
 end
def uptoSmall : (H : Type) → List (DataW H) → Bool := fun _ ds => decide (uptoBulkAll ds ≤ 1048576)
def OpenSpec.upto (s : _root_.Go.ChangeSpec) : _root_.Go.OpenSpec := { _root_.Go.OpenSpec.ofChange s with cond := some uptoSmall }

/-- 'penelopelaw14.PagerFormats', WHERE WHAT IT READS IS OF BULK AT MOST 1048576: true; the input reads as it did. -/
def pagerFormatsUptoRow : OpenClaim := { program := "ytaobfgplheoefaagreat", sum := "a42d2f1f41495ff744d61a16c1854986f7b4925ddeaf83af6da262c3bded1562", func := "penelope/penelopelaw14.PagerFormats", spec := "pagerFormats", inPlace := ["internal/abi.NoEscape", "internal/bytealg.MakeNoZero"], unfollowed := true, recurses := true, apart := false, narrowed := true }
def PagerFormatsUptoSaid : Prop := pagerFormatsUptoRow.holds Tryz.pinned (OpenSpec.upto pagerFormatsSpec)

/-- 'penelopelaw14.PagerMounts', WHERE WHAT IT READS IS OF BULK AT MOST 1048576: true; the input reads as it did. -/
def pagerMountsUptoRow : OpenClaim := { program := "ytaobfgplheoefaagreat", sum := "a42d2f1f41495ff744d61a16c1854986f7b4925ddeaf83af6da262c3bded1562", func := "penelope/penelopelaw14.PagerMounts", spec := "pagerMounts", inPlace := ["internal/abi.NoEscape", "internal/bytealg.MakeNoZero"], unfollowed := true, recurses := true, apart := false, narrowed := true }
def PagerMountsUptoSaid : Prop := pagerMountsUptoRow.holds Tryz.pinned (OpenSpec.upto pagerMountsSpec)

/-- 'penelopelaw14.PagerCalls', WHERE WHAT IT READS IS OF BULK AT MOST 1048576: true; the input reads as it did. -/
def pagerCallsUptoRow : OpenClaim := { program := "ytaobfgplheoefaagreat", sum := "a42d2f1f41495ff744d61a16c1854986f7b4925ddeaf83af6da262c3bded1562", func := "penelope/penelopelaw14.PagerCalls", spec := "pagerCalls", inPlace := ["internal/abi.NoEscape", "internal/bytealg.MakeNoZero"], unfollowed := true, recurses := true, apart := false, narrowed := true }
def PagerCallsUptoSaid : Prop := pagerCallsUptoRow.holds Tryz.pinned (OpenSpec.upto pagerCallsSpec)

/-- 'penelopelaw14.PagerCommits', WHERE WHAT IT READS IS OF BULK AT MOST 1048576: true; the input reads as it did. -/
def pagerCommitsUptoRow : OpenClaim := { program := "ytaobfgplheoefaagreat", sum := "a42d2f1f41495ff744d61a16c1854986f7b4925ddeaf83af6da262c3bded1562", func := "penelope/penelopelaw14.PagerCommits", spec := "pagerCommits", inPlace := ["internal/abi.NoEscape", "internal/bytealg.MakeNoZero"], unfollowed := true, recurses := true, apart := false, narrowed := true }
def PagerCommitsUptoSaid : Prop := pagerCommitsUptoRow.holds Tryz.pinned (OpenSpec.upto pagerCommitsSpec)

end Rows
end Go.Proofs.YtaobfgplheoefaaGreat

/-
  The walk through the statement LookRights.
-/
import Derived.Test.YtmldemgciidpbaaBdE
namespace Go.Proofs.Ytmldemgciidpbaa
open Go.RowKit Plain
set_option linter.unusedVariables false

theorem lookRights_walk (a : Option Addr) (c : Nat) (bs : List Bool) (a' : Option Addr) (c' : Nat) (ns : List Bool) (b : Option Addr) (f : Nat) (ps : List ByteArray) (root gen block : Int) (rt : Bool) (w : World) (hB : IsB w a c bs) (hB' : IsB w a' c' ns) (hP : IsS w b f ps) (_h1 : (Lit.int .i64 root).wf = true) (_h2 : (Lit.int .i64 gen).wf = true) (_h3 : (Lit.int .i64 block).wf = true) :
    Calls Try.prog 3 #[.agg #[.slice a bs.length c, .slice a' ns.length c', .slice b ps.length f, .int .i64 root, .int .i64 gen], .int .i64 block, .bool rt] w fun e w' => e = .returned (.bool true) ∧ Below w.heap.size w w' :=
  lookRights_of a c bs a' c' ns b f ps root gen block rt w hB hB' hP alive08_any
    (fun V {h n n' p} x => lookRight_any a a' b n c n' c' p f bs ns ps root gen V x.2.1 x.2.2.1 x.2.2.2.1 x.2.2.2.2.1 x.2.2.2.2.2.1 x.2.2.2.2.2.2)
    (fun V {h n n' p} x => lookLoad_any a a' b n c n' c' p f bs ns ps root gen block rt V x.2.1 x.2.2.1 x.2.2.2.1 x.2.2.2.2.1 x.2.2.2.2.2.1 x.2.2.2.2.2.2)

end Go.Proofs.Ytmldemgciidpbaa

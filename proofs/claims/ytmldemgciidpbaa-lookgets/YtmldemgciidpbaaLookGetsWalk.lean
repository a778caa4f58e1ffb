/-
  The walk through the statement LookGets.
-/
import Derived.Test.YtmldemgciidpbaaBdE
namespace Go.Proofs.Ytmldemgciidpbaa
open Go.RowKit Plain
set_option linter.unusedVariables false

theorem lookGets_walk (a : Option Addr) (c : Nat) (bs : List Bool) (a' : Option Addr) (c' : Nat) (ns : List Bool) (b : Option Addr) (f : Nat) (ps : List ByteArray) (root gen : Int) (key : ByteArray) (w : World) (hB : IsB w a c bs) (hB' : IsB w a' c' ns) (hP : IsS w b f ps) (_h1 : (Lit.int .i64 root).wf = true) (_h2 : (Lit.int .i64 gen).wf = true) (hkey : key.size ≤ maxLen) :
    Calls Try.prog 4 #[.agg #[.slice a bs.length c, .slice a' ns.length c', .slice b ps.length f, .int .i64 root, .int .i64 gen], .string key] w fun e w' => e = .returned (.bool true) ∧ Below w.heap.size w w' :=
  lookGets_of a c bs a' c' ns b f ps root gen key w hB hB' hP hkey alive08_any
    (fun V {h n n' p} x => lookGet_any a a' b n c n' c' p f bs ns ps root gen key V x.2.1 x.2.2.1 x.2.2.2.1 x.2.2.2.2.1 x.2.2.2.2.2.1 x.2.2.2.2.2.2 hkey)

end Go.Proofs.Ytmldemgciidpbaa

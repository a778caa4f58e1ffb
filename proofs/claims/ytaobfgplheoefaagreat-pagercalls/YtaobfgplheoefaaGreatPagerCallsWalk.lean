/-
  PagerCalls: the walk.
-/
import Derived.Test.YtaobfgplheoefaaGreatScB
namespace Go.Proofs.YtaobfgplheoefaaGreat
open Go.RowKit Plain
set_option linter.unusedVariables false

theorem wf64 {l : Int} (h : (Lit.int .i64 l).wf = true) : -9223372036854775808 ≤ l ∧ l ≤ 9223372036854775807 := by
  simp only [Lit.wf, Bool.and_eq_true, decide_eq_true_eq] at h
  exact h

theorem pagerCalls_walk (a a' : Option Addr) (c c' : Nat) (bs : List ByteArray) (ps : List (Int × ByteArray)) (l k : Int) (s : ByteArray) (w : World) (hS : IsS w a c bs) (hP : IsP w a' c' ps) (wl : (Lit.int .i64 l).wf = true) (wk : (Lit.int .i64 k).wf = true) (hs : s.size ≤ maxLen) :
    Calls Tryz.prog 5 #[.agg #[.slice a bs.length c, .slice a' ps.length c', .int .i64 l], .int .i64 k, .string s] w fun e w' => e = .returned (.bool true) ∧ Below w.heap.size w w' :=
  pagerCalls_of alive14_any small14_any a a' c c' bs ps l k s w hS hP (wf64 wl) (wf64 wk) hs

end Go.Proofs.YtaobfgplheoefaaGreat


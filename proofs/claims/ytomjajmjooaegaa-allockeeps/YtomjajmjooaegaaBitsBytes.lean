/-
  Plain facts: a row of yes and no as bytes, place by place; bits of a byte as Go reckons them.
-/
import Derived.Test.YtomjajmjooaegaaBitsMem
import Derived.Laws.BitsAllLaws
namespace Go.Proofs.Ytomjajmjooaegaa
open Go.RowKit Plain
set_option linter.unusedVariables false

theorem min_run {x y z : Int} (h : min x y = z) (W : World) : (Builtin.min_ #[3, 3] 3 #[.int .i64 x, .int .i64 y]).run Try.prog W = .ok (.int .i64 z) W := by
  simp [Builtin.min_, Builtin.min2]
  split <;> omega

theorem max_run {x y z : Int} (h : max x y = z) (W : World) : (Builtin.max_ #[3, 3] 3 #[.int .i64 x, .int .i64 y]).run Try.prog W = .ok (.int .i64 z) W := by
  simp [Builtin.max_, Builtin.max2]
  split <;> omega

end Go.Proofs.Ytomjajmjooaegaa

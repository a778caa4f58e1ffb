/-
  Memory: cells, boxes of three cells, rows of numbers as they are handed in.
-/
import Derived.Test.YtnipikdlfmcheaaPut
import Derived.Lib.SmallJoins
namespace Go.Proofs.Ytnipikdlfmcheaa
open Go.RowKit Plain Go.ChangeShapes Go.WideShapes
set_option linter.unusedVariables false

/-- A struct of three cells that lies in a block of its own. -/
def Box3 (w : World) (h : Nat) (v0 v1 v2 : Value) : Prop :=
  (w.cell? ⟨h, 0, none⟩ = some v0 ∧ w.cell? ⟨h, 1, none⟩ = some v1 ∧ w.cell? ⟨h, 2, none⟩ = some v2) ∧ w.frozen? ⟨h, 0, none⟩ = false ∧ w.frozen? ⟨h, 1, none⟩ = false ∧ w.frozen? ⟨h, 2, none⟩ = false

theorem box3_new (w : World) (v0 v1 v2 : Value) (t : TypeId) : Box3 (w.alloc (.cells #[v0, v1, v2] t)) w.heap.size v0 v1 v2 := by
  refine ⟨⟨World.cell?_alloc_at _ _ _ _ rfl, World.cell?_alloc_at _ _ _ _ rfl, World.cell?_alloc_at _ _ _ _ rfl⟩, ?_, ?_, ?_⟩
  · exact (World.frozen?_alloc_mark w _ _ _ _ 0).trans (by simp)
  · exact (World.frozen?_alloc_mark w _ _ _ _ 1).trans (by simp)
  · exact (World.frozen?_alloc_mark w _ _ _ _ 2).trans (by simp)

theorem Box3.below {w w' : World} {h : Nat} {v0 v1 v2 : Value} (b : Box3 w h v0 v1 v2) (hb : Below w.heap.size w w') : Box3 w' h v0 v1 v2 := by
  obtain ⟨⟨c0, c1, c2⟩, f0, f1, f2⟩ := b
  have hl := cell_lt c0
  exact ⟨⟨cell_below hb c0, cell_below hb c1, cell_below hb c2⟩, by rw [hb.frozen (p := ⟨h, 0, none⟩) hl]; exact f0, by rw [hb.frozen (p := ⟨h, 1, none⟩) hl]; exact f1, by rw [hb.frozen (p := ⟨h, 2, none⟩) hl]; exact f2⟩

end Go.Proofs.Ytnipikdlfmcheaa

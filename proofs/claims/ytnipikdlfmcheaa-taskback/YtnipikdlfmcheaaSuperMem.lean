/-
  A superblock in memory: four numbers in a box of their own; stores into it; as it is handed in.
-/
import Derived.Test.YtnipikdlfmcheaaNodeMem
import Derived.Test.YtnipikdlfmcheaaMem
namespace Go.Proofs.Ytnipikdlfmcheaa
open Go.RowKit Plain Go.ChangeShapes Go.WideShapes
set_option linter.unusedVariables false

theorem cell_set_other {w : World} {h k i j : Nat} {x u : Value} (hn : h ≠ k ∨ i ≠ j) (hx : w.cell? ⟨h, i, none⟩ = some x) : (w.setCell ⟨k, j, none⟩ u).cell? ⟨h, i, none⟩ = some x := by
  rw [World.cell?_setCell_other _ _ _ _ (fun hh => by cases hh; rcases hn with hn | hn <;> exact hn rfl)]; exact hx

theorem Box4.put1 {w : World} {h : Nat} {v0 v1 v2 v3 : Value} (b : Box4 w h v0 v1 v2 v3) (u : Value) : Box4 (w.setCell ⟨h, 1, none⟩ u) h v0 u v2 v3 := by
  obtain ⟨⟨b0, b1, b2, b3⟩, f0, f1, f2, f3⟩ := b
  exact ⟨⟨cell_set_other (.inr (by decide)) b0, World.cell?_setCell_same _ _ _ b1, cell_set_other (.inr (by decide)) b2, cell_set_other (.inr (by decide)) b3⟩, by simpa using f0, by simpa using f1, by simpa using f2, by simpa using f3⟩

theorem Box4.put2 {w : World} {h : Nat} {v0 v1 v2 v3 : Value} (b : Box4 w h v0 v1 v2 v3) (u : Value) : Box4 (w.setCell ⟨h, 2, none⟩ u) h v0 v1 u v3 := by
  obtain ⟨⟨b0, b1, b2, b3⟩, f0, f1, f2, f3⟩ := b
  exact ⟨⟨cell_set_other (.inr (by decide)) b0, cell_set_other (.inr (by decide)) b1, World.cell?_setCell_same _ _ _ b2, cell_set_other (.inr (by decide)) b3⟩, by simpa using f0, by simpa using f1, by simpa using f2, by simpa using f3⟩

theorem Box4.put3 {w : World} {h : Nat} {v0 v1 v2 v3 : Value} (b : Box4 w h v0 v1 v2 v3) (u : Value) : Box4 (w.setCell ⟨h, 3, none⟩ u) h v0 v1 v2 u := by
  obtain ⟨⟨b0, b1, b2, b3⟩, f0, f1, f2, f3⟩ := b
  exact ⟨⟨cell_set_other (.inr (by decide)) b0, cell_set_other (.inr (by decide)) b1, cell_set_other (.inr (by decide)) b2, World.cell?_setCell_same _ _ _ b3⟩, by simpa using f0, by simpa using f1, by simpa using f2, by simpa using f3⟩

theorem Box4.put0 {w : World} {h : Nat} {v0 v1 v2 v3 : Value} (b : Box4 w h v0 v1 v2 v3) (u : Value) : Box4 (w.setCell ⟨h, 0, none⟩ u) h u v1 v2 v3 := by
  obtain ⟨⟨b0, b1, b2, b3⟩, f0, f1, f2, f3⟩ := b
  exact ⟨⟨World.cell?_setCell_same _ _ _ b0, cell_set_other (.inr (by decide)) b1, cell_set_other (.inr (by decide)) b2, cell_set_other (.inr (by decide)) b3⟩, by simpa using f0, by simpa using f1, by simpa using f2, by simpa using f3⟩

/-- Behind a store of all four. -/
theorem Box4.puts {w : World} {h : Nat} {v0 v1 v2 v3 : Value} (b : Box4 w h v0 v1 v2 v3) (u0 u1 u2 u3 : Value) : Box4 ((((w.setCell ⟨h, 0, none⟩ u0).setCell ⟨h, 1, none⟩ u1).setCell ⟨h, 2, none⟩ u2).setCell ⟨h, 3, none⟩ u3) h u0 u1 u2 u3 :=
  (((b.put0 u0).put1 u1).put2 u2).put3 u3

theorem Box4.off {w : World} {h k i : Nat} {v0 v1 v2 v3 u : Value} (b : Box4 w h v0 v1 v2 v3) (hn : h ≠ k) : Box4 (w.setCell ⟨k, i, none⟩ u) h v0 v1 v2 v3 := by
  obtain ⟨⟨b0, b1, b2, b3⟩, f0, f1, f2, f3⟩ := b
  exact ⟨⟨cell_set_other (.inl hn) b0, cell_set_other (.inl hn) b1, cell_set_other (.inl hn) b2, cell_set_other (.inl hn) b3⟩, by simpa using f0, by simpa using f1, by simpa using f2, by simpa using f3⟩

theorem Box4.otherS {w : World} {h k : Nat} {v0 v1 v2 v3 : Value} (b : Box4 w h v0 v1 v2 v3) (hn : h ≠ k) (u0 u1 u2 u3 : Value) : Box4 ((((w.setCell ⟨k, 0, none⟩ u0).setCell ⟨k, 1, none⟩ u1).setCell ⟨k, 2, none⟩ u2).setCell ⟨k, 3, none⟩ u3) h v0 v1 v2 v3 :=
  (((b.off hn).off hn).off hn).off hn

theorem below_set4 {w w1 : World} {n h : Nat} {v0 v1 v2 v3 : Value} (hB : Below n w w1) (hh : n ≤ h) : Below n w ((((w1.setCell ⟨h, 0, none⟩ v0).setCell ⟨h, 1, none⟩ v1).setCell ⟨h, 2, none⟩ v2).setCell ⟨h, 3, none⟩ v3) :=
  (((hB.setCell (p := ⟨h, 0, none⟩) hh _).setCell (p := ⟨h, 1, none⟩) hh _).setCell (p := ⟨h, 2, none⟩) hh _).setCell (p := ⟨h, 3, none⟩) hh _

set_option maxRecDepth 20000 in
theorem open_texts {H : Type} {enc : TypeId × Value → H} {w : World} {r : Reach} {b0 : Nat} {v : Value} {d : DataW H} {p : List MemPlace}
    (hv : Value.okWide Try.prog w r b0 66 v) (h : DataW.Trod enc Try.prog w 0 (fun _ => true) true 66 v d p) :
    ∃ a c ms, v = .slice a ms.length c ∧ IsS w a c ms := by
  obtain ⟨a, len, cap, rfl⟩ := okWide_slice Try.underlying66 hv
  obtain ⟨fuel, hf⟩ := h
  exact open_S (by simpa [Value.cells] using hf)

end Go.Proofs.Ytnipikdlfmcheaa

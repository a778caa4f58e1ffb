/-
  An alloc in memory: a struct of two rows in a box of its own, as it is handed in, and as a call itself lays it.
-/
import Derived.Test.YtomjajmjooaegaaBitsOnes
import Derived.Test.YtomjajmjooaegaaAllocPlain
namespace Go.Proofs.Ytomjajmjooaegaa
open Go.RowKit Plain Go.ChangeShapes Go.WideShapes
set_option linter.unusedVariables false

/-- A struct of two cells in a box of its own. -/
def Box2 (w : World) (h : Nat) (v0 v1 : Value) : Prop :=
  (w.cell? ⟨h, 0, none⟩ = some v0 ∧ w.cell? ⟨h, 1, none⟩ = some v1) ∧ w.frozen? ⟨h, 0, none⟩ = false ∧ w.frozen? ⟨h, 1, none⟩ = false

theorem box2_new (w : World) (v0 v1 : Value) (t : TypeId) {h : Nat} (hh : h = w.heap.size) : Box2 (w.alloc (.cells #[v0, v1] t)) h v0 v1 := by
  subst hh
  refine ⟨⟨World.cell?_alloc_at _ _ _ _ rfl, World.cell?_alloc_at _ _ _ _ rfl⟩, ?_, ?_⟩
  · exact (World.frozen?_alloc_mark w _ _ _ _ 0).trans (by simp)
  · exact (World.frozen?_alloc_mark w _ _ _ _ 1).trans (by simp)

theorem Box2.lt {w : World} {h : Nat} {v0 v1 : Value} (b : Box2 w h v0 v1) : h < w.heap.size := cell_lt b.1.1

theorem Box2.below {w w' : World} {h : Nat} {v0 v1 : Value} (b : Box2 w h v0 v1) (hb : Below w.heap.size w w') : Box2 w' h v0 v1 := by
  have hl := b.lt
  obtain ⟨⟨c0, c1⟩, f0, f1⟩ := b
  exact ⟨⟨cell_below hb c0, cell_below hb c1⟩, by rw [hb.frozen (p := ⟨h, 0, none⟩) hl]; exact f0, by rw [hb.frozen (p := ⟨h, 1, none⟩) hl]; exact f1⟩

theorem Box2.alloc {w : World} {h : Nat} {v0 v1 : Value} (b : Box2 w h v0 v1) (o : Obj) : Box2 (w.alloc o) h v0 v1 := b.below ((Below.refl _ _).alloc (Nat.le_refl _) o)

theorem Box2.drew {w : World} {h : Nat} {v0 v1 : Value} (b : Box2 w h v0 v1) : Box2 w.drew h v0 v1 := b.below (Below.refl _ _).drew

/-- Behind a store of both cells. -/
theorem Box2.set {w : World} {h : Nat} {v0 v1 : Value} (b : Box2 w h v0 v1) (u0 u1 : Value) : Box2 ((w.setCell ⟨h, 0, none⟩ u0).setCell ⟨h, 1, none⟩ u1) h u0 u1 := by
  obtain ⟨⟨c0, c1⟩, f0, f1⟩ := b
  refine ⟨⟨?_, ?_⟩, ?_, ?_⟩
  · rw [World.cell?_setCell_other _ _ _ _ (fun hh => by cases hh)]
    exact World.cell?_setCell_same _ _ _ c0
  · refine World.cell?_setCell_same _ _ _ (u := v1) ?_
    rw [World.cell?_setCell_other _ _ _ _ (fun hh => by cases hh)]
    exact c1
  · simpa using f0
  · simpa using f1

theorem below_set2 {w w1 : World} {h : Nat} {v0 v1 : Value} (hB : Below w.heap.size w w1) (hh : w.heap.size ≤ h) : Below w.heap.size w ((w1.setCell ⟨h, 0, none⟩ v0).setCell ⟨h, 1, none⟩ v1) :=
  (hB.setCell (p := ⟨h, 0, none⟩) hh _).setCell (p := ⟨h, 1, none⟩) hh _

/-- Another box behind such a store. -/
theorem Box2.other {w : World} {h k : Nat} {v0 v1 : Value} (b : Box2 w h v0 v1) (hn : h ≠ k) (u0 u1 : Value) : Box2 ((w.setCell ⟨k, 0, none⟩ u0).setCell ⟨k, 1, none⟩ u1) h v0 v1 := by
  obtain ⟨⟨c0, c1⟩, f0, f1⟩ := b
  refine ⟨⟨?_, ?_⟩, ?_, ?_⟩
  · rw [World.cell?_setCell_other _ _ _ _ (fun hh => hn (congrArg Addr.block hh).symm), World.cell?_setCell_other _ _ _ _ (fun hh => hn (congrArg Addr.block hh).symm)]; exact c0
  · rw [World.cell?_setCell_other _ _ _ _ (fun hh => hn (congrArg Addr.block hh).symm), World.cell?_setCell_other _ _ _ _ (fun hh => hn (congrArg Addr.block hh).symm)]; exact c1
  · simpa using f0
  · simpa using f1

/-- A row behind a store into another block. -/
theorem IsB.setOther {w : World} {a : Option Addr} {c k i : Nat} {l : List Bool} {v : Value} (h : IsB w a c l) (hn : ∀ b o, a = .some ⟨b, o, none⟩ → b ≠ k) : IsB (w.setCell ⟨k, i, none⟩ v) a c l := by
  refine ⟨h.1, h.2.1, fun j x hx => ?_⟩
  obtain ⟨b, o, ha, hlt, hc⟩ := h.2.2 j x hx
  refine ⟨b, o, ha, by simpa using hlt, ?_⟩
  rw [World.cell?_setCell_other _ _ _ _ (fun hh => hn b o ha (congrArg Addr.block hh).symm)]
  exact hc

/-- A row of the call's own behind a store into an elder block. -/
theorem OwnT.store {base : Nat} {w : World} {a : Option Addr} {cap : Nat} {l : List Bool} (h : OwnT base w a cap l) {k : Nat} (hk : k < base) (i : Nat) (v : Value) : OwnT base (w.setCell ⟨k, i, none⟩ v) a cap l := by
  rcases h with h | ⟨g, h1, h2, cur, hg, hr⟩
  · exact .inl h
  · exact .inr ⟨g, h1, h2, cur, by rw [Below.heap_setCell _ _ _ _ (show g ≠ k by omega)]; exact hg, hr⟩

theorem OwnT.mono {base base' : Nat} {w : World} {a : Option Addr} {cap : Nat} {l : List Bool} (h : OwnT base w a cap l) (hb : base' ≤ base) : OwnT base' w a cap l := by
  rcases h with h | ⟨g, h1, h2, hr⟩
  · exact .inl h
  · exact .inr ⟨g, h1, Nat.le_trans hb h2, hr⟩

theorem OwnT_nil (base : Nat) (w : World) : OwnT base w none 0 [] := .inl ⟨rfl, rfl, rfl⟩

theorem cell_drew {w : World} {p : Addr} {v : Value} (h : w.cell? p = some v) : w.drew.cell? p = some v := h

theorem open_alloc {H : Type} {enc : TypeId × Value → H} {w : World} {r : Reach} {b0 : Nat} {v : Value} {d : DataW H} {p : List MemPlace}
    (hv : Value.okWide Try.prog w r b0 24 v) (h : DataW.Trod enc Try.prog w 0 (fun _ => true) true 24 v d p) :
    ∃ a c b a' c' n, v = .agg #[.slice a b.length c, .slice a' n.length c'] ∧ IsB w a c b ∧ IsB w a' c' n := by
  obtain ⟨v0, v1, y0, y1, n, rfl, _, _, h0, h1⟩ := Joins.open_agg2 Try.underlying24 (by kernel_rfl) (by kernel_rfl) hv h
  obtain ⟨a, c, b, rfl, hS⟩ := open_B h0
  obtain ⟨a', c', n, rfl, hP⟩ := open_B h1
  exact ⟨a, c, b, a', c', n, rfl, hS, hP⟩

end Go.Proofs.Ytomjajmjooaegaa

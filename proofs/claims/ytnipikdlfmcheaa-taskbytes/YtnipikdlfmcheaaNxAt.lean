/-
  A text, a place in it and the first error, in boxes of their own.
-/
import Derived.Test.YtnipikdlfmcheaaTurns
import Derived.Test.YtnipikdlfmcheaaSuperMem
namespace Go.Proofs.Ytnipikdlfmcheaa
open Go.RowKit Plain
set_option linter.unusedVariables false

/-- A text, the place in it and the first error, in boxes of their own. -/
structure NxAt (V : World) (hs hp he : Nat) (s : ByteArray) (p e : Int) : Prop where
  b : V.cell? ⟨hs, 0, none⟩ = some (.string s)
  p : V.cell? ⟨hp, 0, none⟩ = some (.int .i64 p)
  e : V.cell? ⟨he, 0, none⟩ = some (.int .i64 e)
  fp : V.frozen? ⟨hp, 0, none⟩ = false
  fe : V.frozen? ⟨he, 0, none⟩ = false
  n1 : hs ≠ hp
  n2 : hs ≠ he
  n3 : hp ≠ he

theorem NxAt.turns {P : Nat → Prop} {V V' : World} {hs hp he : Nat} {s : ByteArray} {p e : Int} (r : NxAt V hs hp he s p e) (t : Turns P V V') (h0 : ¬ P hs) (h1 : ¬ P hp) (h2 : ¬ P he) : NxAt V' hs hp he s p e :=
  ⟨t.cell (p := ⟨hs, 0, none⟩) h0 r.b, t.cell (p := ⟨hp, 0, none⟩) h1 r.p, t.cell (p := ⟨he, 0, none⟩) h2 r.e, t.frozen (p := ⟨hp, 0, none⟩) (cell_lt r.p) h1 r.fp, t.frozen (p := ⟨he, 0, none⟩) (cell_lt r.e) h2 r.fe, r.n1, r.n2, r.n3⟩

theorem NxAt.drew {V : World} {hs hp he : Nat} {s : ByteArray} {p e : Int} (r : NxAt V hs hp he s p e) : NxAt V.drew hs hp he s p e := r.turns (P := fun _ => False) (Turns.refl _ _).drew id id id

theorem NxAt.put {V : World} {hs hp he : Nat} {s : ByteArray} {p e : Int} (r : NxAt V hs hp he s p e) (p' e' : Int) : NxAt ((V.setCell ⟨hp, 0, none⟩ (.int .i64 p')).setCell ⟨he, 0, none⟩ (.int .i64 e')) hs hp he s p' e' :=
  ⟨cell_set_other (.inl r.n2) (cell_set_other (.inl r.n1) r.b), cell_set_other (.inl r.n3) (World.cell?_setCell_same _ _ _ r.p), World.cell?_setCell_same _ _ _ (cell_set_other (.inl r.n3.symm) r.e), by simpa using r.fp, by simpa using r.fe, r.n1, r.n2, r.n3⟩

def TwoB (hp he : Nat) (k : Nat) : Prop := k = hp ∨ k = he

end Go.Proofs.Ytnipikdlfmcheaa

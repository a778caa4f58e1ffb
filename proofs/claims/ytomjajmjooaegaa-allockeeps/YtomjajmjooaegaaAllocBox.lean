/-
  A box with an alloc in it.
-/
import Derived.Test.YtomjajmjooaegaaAllocRef
namespace Go.Proofs.Ytomjajmjooaegaa
open Go.RowKit Plain
set_option linter.unusedVariables false

/-- A box with an alloc in it. -/
def AllocAt (V : World) (h : Nat) (a : Option Addr) (n c : Nat) (a' : Option Addr) (n' c' : Nat) (b m : List Bool) : Prop :=
  Box2 V h (.slice a n c) (.slice a' n' c') ∧ IsB V a c b ∧ IsB V a' c' m

theorem AllocAt.below {V V' : World} {h : Nat} {a a' : Option Addr} {n c n' c' : Nat} {b m : List Bool} (x : AllocAt V h a n c a' n' c' b m) (hb : Below V.heap.size V V') : AllocAt V' h a n c a' n' c' b m :=
  ⟨x.1.below hb, x.2.1.below hb, x.2.2.below hb⟩

theorem AllocAt.alloc {V : World} {h : Nat} {a a' : Option Addr} {n c n' c' : Nat} {b m : List Bool} (x : AllocAt V h a n c a' n' c' b m) (o : Obj) : AllocAt (V.alloc o) h a n c a' n' c' b m :=
  x.below ((Below.refl _ _).alloc (Nat.le_refl _) o)

theorem AllocAt.new {V : World} {a a' : Option Addr} {n c n' c' : Nat} {b m : List Bool} (h1 : IsB V a c b) (h2 : IsB V a' c' m) (t : TypeId) : AllocAt (V.alloc (.cells #[.slice a n c, .slice a' n' c'] t)) V.heap.size a n c a' n' c' b m :=
  ⟨box2_new _ _ _ _ rfl, h1.below ((Below.refl _ _).alloc (Nat.le_refl _) _), h2.below ((Below.refl _ _).alloc (Nat.le_refl _) _)⟩

theorem like_at {V : World} {h k : Nat} {a a' d d' : Option Addr} {n c n' c' e e' : Nat} {b m : List Bool} (x : AllocAt V h a n c a' n' c' b m) (y : AllocAt V k d n e d' n' e' b m) (hn : n = b.length) (hn' : n' = m.length) :
    Calls Try.prog 9 #[.agg #[.slice a n c, .slice a' n' c'], .agg #[.slice d n e, .slice d' n' e']] V fun r w' => r = .returned (.bool true) ∧ Below V.heap.size V w' := by
  have := like_any a a' d d' c c' e e' n n' n n' b m b m V hn hn' hn hn' x.2.1 x.2.2 y.2.1 y.2.2
  rw [likeA_same] at this
  exact this

/-- What is behind a store of another alloc into the box. -/
theorem AllocAt.set {V : World} {h : Nat} {a a' d d' : Option Addr} {n c n' c' k e k' e' base : Nat} {b m b' m' : List Bool} (x : AllocAt V h a n c a' n' c' b m) (h1 : OwnT base V d e b') (h2 : OwnT base V d' e' m') (hb : h < base) :
    AllocAt ((V.setCell ⟨h, 0, none⟩ (.slice d k e)).setCell ⟨h, 1, none⟩ (.slice d' k' e')) h d k e d' k' e' b' m' :=
  ⟨x.1.set _ _, ((h1.store hb _ _).store hb _ _).isB, ((h2.store hb _ _).store hb _ _).isB⟩

theorem OwnT.grown {base : Nat} {w w' : World} {a : Option Addr} {cap : Nat} {l : List Bool} {row : Option Nat} (h : OwnT base w a cap l) (hg : w.grownBy w' row) (hr : ∀ k, row = Option.some k → k < base) : OwnT base w' a cap l := by
  rcases h with h | ⟨g, h1, h2, hR⟩
  · exact .inl h
  · have hl := hR.lt
    obtain ⟨cur, hc, hr2⟩ := hR
    exact .inr ⟨g, h1, h2, cur, by rw [hg.block g hl (fun he => by have := hr g he.symm; omega)]; exact hc, hr2⟩

theorem OwnT.alloc {base : Nat} {w : World} {a : Option Addr} {cap : Nat} {l : List Bool} (h : OwnT base w a cap l) (o : Obj) : OwnT base (w.alloc o) a cap l := h.below ((Below.refl _ _).alloc (Nat.le_refl _) o)

end Go.Proofs.Ytomjajmjooaegaa

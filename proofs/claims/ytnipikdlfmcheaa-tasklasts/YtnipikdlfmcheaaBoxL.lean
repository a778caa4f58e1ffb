/-
  A struct of any number of cells in a box of the call's own.
-/
import Derived.Test.YtnipikdlfmcheaaCore
namespace Go.Proofs.Ytnipikdlfmcheaa
open Go.RowKit Plain
set_option linter.unusedVariables false

def BoxL (w : World) (h : Nat) (vs : List Value) : Prop :=
  (∀ i v, vs[i]? = some v → w.cell? ⟨h, i, none⟩ = some v) ∧ ∀ i, i < vs.length → w.frozen? ⟨h, i, none⟩ = false

theorem boxL_new (w : World) (vs : List Value) (t : TypeId) {h : Nat} (hh : h = w.heap.size) : BoxL (w.alloc (.cells vs.toArray t)) h vs := by
  subst hh
  refine ⟨fun i v hv => (World.cell?_alloc_at _ _ _ _ rfl).trans (by rw [List.getElem?_toArray]; exact hv), fun i _ => ?_⟩
  exact (World.frozen?_alloc_mark w _ _ _ _ i).trans (by simp)

theorem BoxL.lt {w : World} {h : Nat} {vs : List Value} (b : BoxL w h vs) (h0 : 0 < vs.length) : h < w.heap.size :=
  cell_lt (b.1 0 _ (List.getElem?_eq_getElem h0))

theorem BoxL.below {w w' : World} {h : Nat} {vs : List Value} (b : BoxL w h vs) (hb : Below w.heap.size w w') : BoxL w' h vs := by
  refine ⟨fun i v hv => cell_below hb (b.1 i v hv), fun i hi => ?_⟩
  have hl : h < w.heap.size := b.lt (by omega)
  rw [hb.frozen (p := ⟨h, i, none⟩) hl]
  exact b.2 i hi

theorem BoxL.alloc {w : World} {h : Nat} {vs : List Value} (b : BoxL w h vs) (o : Obj) : BoxL (w.alloc o) h vs := b.below ((Below.refl _ _).alloc (Nat.le_refl _) o)

/-- One cell stored. -/
theorem BoxL.set {w : World} {h : Nat} {vs : List Value} (b : BoxL w h vs) (i : Nat) (u : Value) : BoxL (w.setCell ⟨h, i, none⟩ u) h (vs.set i u) := by
  refine ⟨fun j v hv => ?_, fun j hj => ?_⟩
  · by_cases hij : i = j
    · subst hij
      rw [List.getElem?_set] at hv
      rw [if_pos rfl] at hv
      split at hv
      · rename_i hi
        obtain rfl := Option.some.inj hv
        exact World.cell?_setCell_same _ _ _ (b.1 i _ (List.getElem?_eq_getElem hi))
      · cases hv
    · rw [List.getElem?_set_ne hij] at hv
      rw [World.cell?_setCell_other _ _ _ _ (fun hh => by cases hh; exact hij rfl)]
      exact b.1 j v hv
  · rw [List.length_set] at hj
    simpa using b.2 j hj

/-- A store elsewhere. -/
theorem BoxL.off {w : World} {h k i : Nat} {vs : List Value} {u : Value} (b : BoxL w h vs) (hn : h ≠ k) : BoxL (w.setCell ⟨k, i, none⟩ u) h vs :=
  ⟨fun j v hv => by rw [World.cell?_setCell_other _ _ _ _ (fun hh => hn (congrArg Addr.block hh).symm)]; exact b.1 j v hv, fun j hj => by simpa using b.2 j hj⟩

/-- The world behind stores of cells one behind the other. -/
def setL (w : World) (h : Nat) : Nat → List Value → World
  | _, [] => w
  | i, v :: vs => setL (w.setCell ⟨h, i, none⟩ v) h (i + 1) vs

theorem Below.setL {n : Nat} {w : World} {h : Nat} (hh : n ≤ h) : ∀ (vs : List Value) (i : Nat) (w1 : World), Below n w w1 → Below n w (setL w1 h i vs)
  | [], _, _, hb => hb
  | v :: vs, i, w1, hb => Below.setL hh vs (i + 1) _ (hb.setCell (p := ⟨h, i, none⟩) hh v)

theorem BoxL.setAll_aux {h : Nat} : ∀ (vs us : List Value) (i : Nat) (w : World), BoxL w h us → i + vs.length = us.length → BoxL (setL w h i vs) h (us.take i ++ vs)
  | [], us, i, w, b, e => by
    rw [List.append_nil, List.take_of_length_le (by simpa using Nat.le_of_eq e.symm)]
    exact b
  | v :: vs, us, i, w, b, e => by
    have := BoxL.setAll_aux vs (us.set i v) (i + 1) _ (b.set i v) (by rw [List.length_set, ← e]; simp; omega)
    have hi : i < us.length := by rw [← e]; simp
    rw [show (us.set i v).take (i + 1) ++ vs = us.take i ++ v :: vs by
      rw [List.take_add_one, List.take_set_of_le (Nat.le_refl i), List.getElem?_set_self hi]
      simp] at this
    exact this

theorem BoxL.setAll {w : World} {h : Nat} {us : List Value} (b : BoxL w h us) (vs : List Value) (e : vs.length = us.length) : BoxL (setL w h 0 vs) h vs := by
  have := BoxL.setAll_aux vs us 0 w b (by omega)
  simpa using this

theorem BoxL.offAll {h k : Nat} {us : List Value} (hn : h ≠ k) : ∀ (vs : List Value) (i : Nat) (w : World), BoxL w h us → BoxL (setL w k i vs) h us
  | [], _, _, b => b
  | v :: vs, i, w, b => BoxL.offAll hn vs (i + 1) _ (b.off hn)

end Go.Proofs.Ytnipikdlfmcheaa

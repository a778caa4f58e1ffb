/-
  A node under building: a box of its own, with rows of the call's own in it that grow.
-/
import Derived.Test.YtmjhapkhfelbpaaTurns
import Derived.Test.YtmjhapkhfelbpaaMem
namespace Go.Proofs.Ytmjhapkhfelbpaa
open Go.RowKit Plain
set_option linter.unusedVariables false

theorem Box4.turns {P : Nat → Prop} {w w' : World} {h : Nat} {v0 v1 v2 v3 : Value} (b : Box4 w h v0 v1 v2 v3) (t : Turns P w w') (hp : ¬ P h) : Box4 w' h v0 v1 v2 v3 := by
  have hl := b.lt
  obtain ⟨⟨c0, c1, c2, c3⟩, f0, f1, f2, f3⟩ := b
  exact ⟨⟨t.cell hp c0, t.cell hp c1, t.cell hp c2, t.cell hp c3⟩, t.frozen (p := ⟨h, 0, none⟩) hl hp f0, t.frozen (p := ⟨h, 1, none⟩) hl hp f1, t.frozen (p := ⟨h, 2, none⟩) hl hp f2, t.frozen (p := ⟨h, 3, none⟩) hl hp f3⟩

theorem Box3.lt {w : World} {h : Nat} {v0 v1 v2 : Value} (b : Box3 w h v0 v1 v2) : h < w.heap.size := cell_lt b.1.1

theorem Box3.turns {P : Nat → Prop} {w w' : World} {h : Nat} {v0 v1 v2 : Value} (b : Box3 w h v0 v1 v2) (t : Turns P w w') (hp : ¬ P h) : Box3 w' h v0 v1 v2 := by
  have hl := b.lt
  obtain ⟨⟨c0, c1, c2⟩, f0, f1, f2⟩ := b
  exact ⟨⟨t.cell hp c0, t.cell hp c1, t.cell hp c2⟩, t.frozen (p := ⟨h, 0, none⟩) hl hp f0, t.frozen (p := ⟨h, 1, none⟩) hl hp f1, t.frozen (p := ⟨h, 2, none⟩) hl hp f2⟩

/-- The last two cells stored. -/
theorem Box3.set12 {w : World} {h : Nat} {v0 v1 v2 : Value} (b : Box3 w h v0 v1 v2) (u1 u2 : Value) : Box3 ((w.setCell ⟨h, 1, none⟩ u1).setCell ⟨h, 2, none⟩ u2) h v0 u1 u2 := by
  obtain ⟨⟨c0, c1, c2⟩, f0, f1, f2⟩ := b
  refine ⟨⟨?_, ?_, ?_⟩, ?_, ?_, ?_⟩
  · rw [World.cell?_setCell_other _ _ _ _ (fun hh => by cases hh), World.cell?_setCell_other _ _ _ _ (fun hh => by cases hh)]; exact c0
  · rw [World.cell?_setCell_other _ _ _ _ (fun hh => by cases hh)]; exact World.cell?_setCell_same _ _ _ c1
  · have c2' : (w.setCell ⟨h, 1, none⟩ u1).cell? ⟨h, 2, none⟩ = some v2 := by rw [World.cell?_setCell_other _ _ _ _ (fun hh => by cases hh)]; exact c2
    exact World.cell?_setCell_same _ _ _ c2'
  · rw [World.frozen?_setCell, World.frozen?_setCell]; exact f0
  · rw [World.frozen?_setCell, World.frozen?_setCell]; exact f1
  · rw [World.frozen?_setCell, World.frozen?_setCell]; exact f2

/-- A row that does not lie in block h. -/
def Off (h : Nat) (u : Value) : Prop := ∀ g, u.ownBlock = some g → g ≠ h

theorem off_nil (h c : Nat) : Off h (.slice none 0 c) := fun g hg => by simp [Value.ownBlock] at hg

theorem off_grown {h g n cap H : Nat} {v : Value} (ho : Off h v) (hg : v.ownBlock = some g ∨ g = H) (hh : h < H) : Off h (.slice (some ⟨g, 0, none⟩) n cap) := by
  intro k hk
  simp [Value.ownBlock] at hk
  subst hk
  rcases hg with hg | hg
  · exact ho g hg
  · omega

/-- A store into block h leaves a row that does not lie there. -/
theorem owns_off {w : World} {B : Nat} {e : TypeId} {s : Nat} {v : Value} {n h : Nat} {xs : List Value} (ho : w.ownsRow B e s v n xs) (hf : Off h v) (i : Nat) (u : Value) : (w.setCell ⟨h, i, none⟩ u).ownsRow B e s v n xs :=
  Turns.owns (P := fun k => k = h) (Turns.setCell (P := fun k => k = h) (Turns.refl _ _) (p := ⟨h, i, none⟩) rfl u) ho fun g hg e => hf g hg e

/-- A node in a box of its own at h; its rows lie from B on, apart. -/
structure NodeAt (w : World) (h B : Nat) (l : Bool) (u1 u2 u3 : Value) (xs ys : List ByteArray) (zs : List Int) : Prop where
  box : Box4 w h (.bool l) u1 u2 u3
  r1 : w.ownsRow B 9 1 u1 xs.length (xs.map Value.string)
  r2 : w.ownsRow B 9 1 u2 ys.length (ys.map Value.string)
  r3 : w.ownsRow B 3 1 u3 zs.length (zs.map (Value.int .i64))
  a12 : Apart u1 u2
  a13 : Apart u1 u3
  a23 : Apart u2 u3
  o1 : Off h u1
  o2 : Off h u2
  o3 : Off h u3
  le : B ≤ w.heap.size

theorem NodeAt.turns {P : Nat → Prop} {w w' : World} {h B : Nat} {l : Bool} {u1 u2 u3 : Value} {xs ys : List ByteArray} {zs : List Int} (n : NodeAt w h B l u1 u2 u3 xs ys zs) (t : Turns P w w') (hp : ¬ P h) (hb : ∀ k, P k → k < B) : NodeAt w' h B l u1 u2 u3 xs ys zs :=
  ⟨n.box.turns t hp, t.owns n.r1 fun g hg x => by have := (n.r1.lt g hg).1; have := hb g x; omega, t.owns n.r2 fun g hg x => by have := (n.r2.lt g hg).1; have := hb g x; omega, t.owns n.r3 fun g hg x => by have := (n.r3.lt g hg).1; have := hb g x; omega, n.a12, n.a13, n.a23, n.o1, n.o2, n.o3, Nat.le_trans n.le t.size⟩

theorem NodeAt.below {w w' : World} {h B : Nat} {l : Bool} {u1 u2 u3 : Value} {xs ys : List ByteArray} {zs : List Int} (n : NodeAt w h B l u1 u2 u3 xs ys zs) (hb : Below w.heap.size w w') : NodeAt w' h B l u1 u2 u3 xs ys zs :=
  n.turns (P := fun _ => False) (Turns.of_below hb) id (fun _ x => x.elim)

theorem NodeAt.drew {w : World} {h B : Nat} {l : Bool} {u1 u2 u3 : Value} {xs ys : List ByteArray} {zs : List Int} (n : NodeAt w h B l u1 u2 u3 xs ys zs) : NodeAt w.drew h B l u1 u2 u3 xs ys zs := n.below (Below.refl _ _).drew

theorem NodeAt.alloc {w : World} {h B : Nat} {l : Bool} {u1 u2 u3 : Value} {xs ys : List ByteArray} {zs : List Int} (n : NodeAt w h B l u1 u2 u3 xs ys zs) (o : Obj) : NodeAt (w.alloc o) h B l u1 u2 u3 xs ys zs := n.below ((Below.refl _ _).alloc (Nat.le_refl _) o)

/-- What may turn as a node grows: its box, and what lies from B on. -/
def Own (h B : Nat) (k : Nat) : Prop := k = h ∨ B ≤ k

/-- A key more. -/
theorem NodeAt.push1 {w : World} {h B : Nat} {l : Bool} {u1 u2 u3 : Value} {xs ys : List ByteArray} {zs : List Int} (n : NodeAt w h B l u1 u2 u3 xs ys zs) (x : ByteArray) (hl : xs.length ≤ 4096) :
    ∃ g cap w', (Builtin.append_ #[60, 60] 60 #[u1, .slice (some ⟨w.heap.size, 0, none⟩) 1 1]).run Try.prog (w.alloc (.cells #[.string x] 9)) = .ok (.slice (some ⟨g, 0, none⟩) (xs.length + 1) cap) w' ∧ Box4 w' h (.bool l) u1 u2 u3 ∧
      NodeAt (w'.setCell ⟨h, 1, none⟩ (.slice (some ⟨g, 0, none⟩) (xs.length + 1) cap)) h B l (.slice (some ⟨g, 0, none⟩) (xs.length + 1) cap) u2 u3 (xs ++ [x]) ys zs ∧ Turns (Own h B) w (w'.setCell ⟨h, 1, none⟩ (.slice (some ⟨g, 0, none⟩) (xs.length + 1) cap)) := by
  obtain ⟨g, cap, w', hrun, hown, hgr, hat, hge, hlt⟩ := push_S w B u1 xs.length xs x n.r1 n.le hl
  have t0 : Turns (fun k => u1.ownBlock = some k) w w' := ((Turns.refl _ _).alloc _).grown hgr (fun k hk => hk)
  have hbox : Box4 w' h (.bool l) u1 u2 u3 := n.box.turns t0 fun hk => n.o1 h hk rfl
  have hh : h < w.heap.size + 1 := by have := n.box.lt; omega
  refine ⟨g, cap, w', hrun, hbox, ⟨?_, ?_, ?_, ?_, ?_, ?_, n.a23, off_grown n.o1 hat hh, n.o2, n.o3, ?_⟩, ?_⟩
  · obtain ⟨⟨c0, c1, c2, c3⟩, f0, f1, f2, f3⟩ := hbox
    refine ⟨⟨?_, World.cell?_setCell_same _ _ _ c1, ?_, ?_⟩, ?_, ?_, ?_, ?_⟩
    · rw [World.cell?_setCell_other _ _ _ _ (fun hh => by cases hh)]; exact c0
    · rw [World.cell?_setCell_other _ _ _ _ (fun hh => by cases hh)]; exact c2
    · rw [World.cell?_setCell_other _ _ _ _ (fun hh => by cases hh)]; exact c3
    · rw [World.frozen?_setCell]; exact f0
    · rw [World.frozen?_setCell]; exact f1
    · rw [World.frozen?_setCell]; exact f2
    · rw [World.frozen?_setCell]; exact f3
  · rw [List.length_append]
    exact owns_off hown (off_grown n.o1 hat hh) 1 _
  · exact owns_off (t0.owns n.r2 fun k h2 h1 => n.a12 k h1 h2) n.o2 1 _
  · exact owns_off (t0.owns n.r3 fun k h2 h1 => n.a13 k h1 h2) n.o3 1 _
  · exact apart_grown n.a12 hat fun k hk => by have := (n.r2.lt k hk).2; omega
  · exact apart_grown n.a13 hat fun k hk => by have := (n.r3.lt k hk).2; omega
  · have := t0.size
    have := n.le
    simp; omega
  · exact (t0.mono fun k hk => .inr (n.r1.lt k hk).1).setCell (p := ⟨h, 1, none⟩) (.inl rfl) _

/-- A value more. -/
theorem NodeAt.push2 {w : World} {h B : Nat} {l : Bool} {u1 u2 u3 : Value} {xs ys : List ByteArray} {zs : List Int} (n : NodeAt w h B l u1 u2 u3 xs ys zs) (x : ByteArray) (hl : ys.length ≤ 4096) :
    ∃ g cap w', (Builtin.append_ #[60, 60] 60 #[u2, .slice (some ⟨w.heap.size, 0, none⟩) 1 1]).run Try.prog (w.alloc (.cells #[.string x] 9)) = .ok (.slice (some ⟨g, 0, none⟩) (ys.length + 1) cap) w' ∧ Box4 w' h (.bool l) u1 u2 u3 ∧
      NodeAt (w'.setCell ⟨h, 2, none⟩ (.slice (some ⟨g, 0, none⟩) (ys.length + 1) cap)) h B l u1 (.slice (some ⟨g, 0, none⟩) (ys.length + 1) cap) u3 xs (ys ++ [x]) zs ∧ Turns (Own h B) w (w'.setCell ⟨h, 2, none⟩ (.slice (some ⟨g, 0, none⟩) (ys.length + 1) cap)) := by
  obtain ⟨g, cap, w', hrun, hown, hgr, hat, hge, hlt⟩ := push_S w B u2 ys.length ys x n.r2 n.le hl
  have t0 : Turns (fun k => u2.ownBlock = some k) w w' := ((Turns.refl _ _).alloc _).grown hgr (fun k hk => hk)
  have hbox : Box4 w' h (.bool l) u1 u2 u3 := n.box.turns t0 fun hk => n.o2 h hk rfl
  have hh : h < w.heap.size + 1 := by have := n.box.lt; omega
  refine ⟨g, cap, w', hrun, hbox, ⟨?_, ?_, ?_, ?_, ?_, n.a13, ?_, n.o1, off_grown n.o2 hat hh, n.o3, ?_⟩, ?_⟩
  · obtain ⟨⟨c0, c1, c2, c3⟩, f0, f1, f2, f3⟩ := hbox
    refine ⟨⟨?_, ?_, World.cell?_setCell_same _ _ _ c2, ?_⟩, ?_, ?_, ?_, ?_⟩
    · rw [World.cell?_setCell_other _ _ _ _ (fun hh => by cases hh)]; exact c0
    · rw [World.cell?_setCell_other _ _ _ _ (fun hh => by cases hh)]; exact c1
    · rw [World.cell?_setCell_other _ _ _ _ (fun hh => by cases hh)]; exact c3
    · rw [World.frozen?_setCell]; exact f0
    · rw [World.frozen?_setCell]; exact f1
    · rw [World.frozen?_setCell]; exact f2
    · rw [World.frozen?_setCell]; exact f3
  · exact owns_off (t0.owns n.r1 fun k h2 h1 => n.a12 k h2 h1) n.o1 2 _
  · rw [List.length_append]
    exact owns_off hown (off_grown n.o2 hat hh) 2 _
  · exact owns_off (t0.owns n.r3 fun k h2 h1 => n.a23 k h1 h2) n.o3 2 _
  · exact (apart_grown n.a12.symm hat fun k hk => by have := (n.r1.lt k hk).2; omega).symm
  · exact apart_grown n.a23 hat fun k hk => by have := (n.r3.lt k hk).2; omega
  · have := t0.size
    have := n.le
    simp; omega
  · exact (t0.mono fun k hk => .inr (n.r2.lt k hk).1).setCell (p := ⟨h, 2, none⟩) (.inl rfl) _

/-- A child more. -/
theorem NodeAt.push3 {w : World} {h B : Nat} {l : Bool} {u1 u2 u3 : Value} {xs ys : List ByteArray} {zs : List Int} (n : NodeAt w h B l u1 u2 u3 xs ys zs) (x : Int) (hl : zs.length ≤ 4096) :
    ∃ g cap w', (Builtin.append_ #[29, 29] 29 #[u3, .slice (some ⟨w.heap.size, 0, none⟩) 1 1]).run Try.prog (w.alloc (.cells #[.int .i64 x] 3)) = .ok (.slice (some ⟨g, 0, none⟩) (zs.length + 1) cap) w' ∧ Box4 w' h (.bool l) u1 u2 u3 ∧
      NodeAt (w'.setCell ⟨h, 3, none⟩ (.slice (some ⟨g, 0, none⟩) (zs.length + 1) cap)) h B l u1 u2 (.slice (some ⟨g, 0, none⟩) (zs.length + 1) cap) xs ys (zs ++ [x]) ∧ Turns (Own h B) w (w'.setCell ⟨h, 3, none⟩ (.slice (some ⟨g, 0, none⟩) (zs.length + 1) cap)) := by
  obtain ⟨g, cap, w', hrun, hown, hgr, hat, hge, hlt⟩ := push_Z w B u3 zs.length zs x n.r3 n.le hl
  have t0 : Turns (fun k => u3.ownBlock = some k) w w' := ((Turns.refl _ _).alloc _).grown hgr (fun k hk => hk)
  have hbox : Box4 w' h (.bool l) u1 u2 u3 := n.box.turns t0 fun hk => n.o3 h hk rfl
  have hh : h < w.heap.size + 1 := by have := n.box.lt; omega
  refine ⟨g, cap, w', hrun, hbox, ⟨?_, ?_, ?_, ?_, n.a12, ?_, ?_, n.o1, n.o2, off_grown n.o3 hat hh, ?_⟩, ?_⟩
  · obtain ⟨⟨c0, c1, c2, c3⟩, f0, f1, f2, f3⟩ := hbox
    refine ⟨⟨?_, ?_, ?_, World.cell?_setCell_same _ _ _ c3⟩, ?_, ?_, ?_, ?_⟩
    · rw [World.cell?_setCell_other _ _ _ _ (fun hh => by cases hh)]; exact c0
    · rw [World.cell?_setCell_other _ _ _ _ (fun hh => by cases hh)]; exact c1
    · rw [World.cell?_setCell_other _ _ _ _ (fun hh => by cases hh)]; exact c2
    · rw [World.frozen?_setCell]; exact f0
    · rw [World.frozen?_setCell]; exact f1
    · rw [World.frozen?_setCell]; exact f2
    · rw [World.frozen?_setCell]; exact f3
  · exact owns_off (t0.owns n.r1 fun k h2 h1 => n.a13 k h2 h1) n.o1 3 _
  · exact owns_off (t0.owns n.r2 fun k h2 h1 => n.a23 k h2 h1) n.o2 3 _
  · rw [List.length_append]
    exact owns_off hown (off_grown n.o3 hat hh) 3 _
  · exact (apart_grown n.a13.symm hat fun k hk => by have := (n.r1.lt k hk).2; omega).symm
  · exact (apart_grown n.a23.symm hat fun k hk => by have := (n.r2.lt k hk).2; omega).symm
  · have := t0.size
    have := n.le
    simp; omega
  · exact (t0.mono fun k hk => .inr (n.r3.lt k hk).1).setCell (p := ⟨h, 3, none⟩) (.inl rfl) _

/-- What is handed back of it. -/
theorem NodeAt.rows {w : World} {h B : Nat} {l : Bool} {u1 u2 u3 : Value} {xs ys : List ByteArray} {zs : List Int} (n : NodeAt w h B l u1 u2 u3 xs ys zs) (hx : ∀ x ∈ xs, x.size ≤ maxLen) (hy : ∀ x ∈ ys, x.size ≤ maxLen) :
    ∃ a c a' c' a'' c'', u1 = .slice a xs.length c ∧ u2 = .slice a' ys.length c' ∧ u3 = .slice a'' zs.length c'' ∧ IsS w a c xs ∧ IsS w a' c' ys ∧ IsI w a'' c'' zs ∧ From B a ∧ From B a' ∧ From B a'' := by
  obtain ⟨a, c, e1, _, i1, j1⟩ := owns_S n.r1 hx
  obtain ⟨a', c', e2, _, i2, j2⟩ := owns_S n.r2 hy
  obtain ⟨a'', c'', e3, _, i3, j3⟩ := owns_I n.r3
  exact ⟨a, c, a', c', a'', c'', e1, e2, e3, i1, i2, i3, j1, j2, j3⟩

/-- A node without anything. -/
theorem nodeAt_new {w : World} {h B : Nat} {l : Bool} (b : Box4 w h (.bool l) (.slice none 0 0) (.slice none 0 0) (.slice none 0 0)) (le : B ≤ w.heap.size) : NodeAt w h B l (.slice none 0 0) (.slice none 0 0) (.slice none 0 0) [] [] [] :=
  ⟨b, World.ownsRow_nil _ _ _ _, World.ownsRow_nil _ _ _ _, World.ownsRow_nil _ _ _ _, apart_nil _ _, apart_nil _ _, apart_nil _ _, off_nil _ _, off_nil _ _, off_nil _ _, le⟩

/-- A struct stored into another box leaves it. -/
theorem NodeAt.other {w : World} {h B : Nat} {l : Bool} {u1 u2 u3 : Value} {xs ys : List ByteArray} {zs : List Int} (n : NodeAt w h B l u1 u2 u3 xs ys zs) {k : Nat} (hk : k < B) (hn : k ≠ h) (i : Nat) (v : Value) : NodeAt (w.setCell ⟨k, i, none⟩ v) h B l u1 u2 u3 xs ys zs :=
  n.turns (P := fun x => x = k) (Turns.setCell (P := fun x => x = k) (Turns.refl _ _) (p := ⟨k, i, none⟩) rfl v) (fun e => hn e.symm) (fun x e => by omega)

end Go.Proofs.Ytmjhapkhfelbpaa

/-
  Texts laid together: NodeBuild LookMem LookWithin LookTree NodeReader NodeFew NodeLeaf NodeInner NodeRef NodeStand NodeRead NodeOnce NodeGet NodeGetB NodeRefB NodeRefGet NodeRefGetI AllocRef LookHolds LookRef LookOwn LookLaw NodeLike NodeIn LookRightsOf LookLoad CheckStep CheckMem.
-/
import Derived.Test.YtaobfgplheoefaaGreatSfB
import Derived.Test.YtaobfgplheoefaaGreatSfA
import Derived.Lib.AppendZeros
import Derived.Deep.RegionHeld3
namespace Go.Proofs.YtaobfgplheoefaaGreat
open Go.RowKit Plain
set_option linter.unusedVariables false
theorem Box4.turns {P : Nat → Prop} {w w' : World} {h : Nat} {v0 v1 v2 v3 : Value} (b : Box4 w h v0 v1 v2 v3) (t : Turns P w w') (hp : ¬ P h) : Box4 w' h v0 v1 v2 v3 := by
 have hl := b.lt
 obtain ⟨⟨c0, c1, c2, c3⟩, f0, f1, f2, f3⟩ := b
 exact ⟨⟨t.cell hp c0, t.cell hp c1, t.cell hp c2, t.cell hp c3⟩, t.frozen (p := ⟨h, 0, none⟩) hl hp f0, t.frozen (p := ⟨h, 1, none⟩) hl hp f1, t.frozen (p := ⟨h, 2, none⟩) hl hp f2, t.frozen (p := ⟨h, 3, none⟩) hl hp f3⟩
theorem Box3.lt {w : World} {h : Nat} {v0 v1 v2 : Value} (b : Box3 w h v0 v1 v2) : h < w.heap.size := cell_lt b.1.1
theorem Box3.turns {P : Nat → Prop} {w w' : World} {h : Nat} {v0 v1 v2 : Value} (b : Box3 w h v0 v1 v2) (t : Turns P w w') (hp : ¬ P h) : Box3 w' h v0 v1 v2 := by
 have hl := b.lt
 obtain ⟨⟨c0, c1, c2⟩, f0, f1, f2⟩ := b
 exact ⟨⟨t.cell hp c0, t.cell hp c1, t.cell hp c2⟩, t.frozen (p := ⟨h, 0, none⟩) hl hp f0, t.frozen (p := ⟨h, 1, none⟩) hl hp f1, t.frozen (p := ⟨h, 2, none⟩) hl hp f2⟩
theorem Box3.set12 {w : World} {h : Nat} {v0 v1 v2 : Value} (b : Box3 w h v0 v1 v2) (u1 u2 : Value) : Box3 ((w.setCell ⟨h, 1, none⟩ u1).setCell ⟨h, 2, none⟩ u2) h v0 u1 u2 := by
 obtain ⟨⟨c0, c1, c2⟩, f0, f1, f2⟩ := b
 refine ⟨⟨?_, ?_, ?_⟩, ?_, ?_, ?_⟩
 ·
  rw [World.cell?_setCell_other _ _ _ _ (fun hh => by cases hh), World.cell?_setCell_other _ _ _ _ (fun hh => by cases hh)]; exact c0
 ·
  rw [World.cell?_setCell_other _ _ _ _ (fun hh => by cases hh)]; exact World.cell?_setCell_same _ _ _ c1
 ·
  have c2' : (w.setCell ⟨h, 1, none⟩ u1).cell? ⟨h, 2, none⟩ = some v2 := by rw [World.cell?_setCell_other _ _ _ _ (fun hh => by cases hh)]; exact c2
  exact World.cell?_setCell_same _ _ _ c2'
 ·
  rw [World.frozen?_setCell, World.frozen?_setCell]; exact f0
 ·
  rw [World.frozen?_setCell, World.frozen?_setCell]; exact f1
 ·
  rw [World.frozen?_setCell, World.frozen?_setCell]; exact f2
def Off (h : Nat) (u : Value) : Prop := ∀ g, u.ownBlock = some g → g ≠ h
theorem off_nil (h c : Nat) : Off h (.slice none 0 c) := fun g hg => by simp [Value.ownBlock] at hg
theorem off_grown {h g n cap H : Nat} {v : Value} (ho : Off h v) (hg : v.ownBlock = some g ∨ g = H) (hh : h < H) : Off h (.slice (some ⟨g, 0, none⟩) n cap) := by
 intro k hk
 simp [Value.ownBlock] at hk
 subst hk
 rcases hg with hg | hg
 ·
  exact ho g hg
 ·
  omega
theorem owns_off {w : World} {B : Nat} {e : TypeId} {s : Nat} {v : Value} {n h : Nat} {xs : List Value} (ho : w.ownsRow B e s v n xs) (hf : Off h v) (i : Nat) (u : Value) : (w.setCell ⟨h, i, none⟩ u).ownsRow B e s v n xs :=
 Turns.owns (P := fun k => k = h) (Turns.setCell (P := fun k => k = h) (Turns.refl _ _) (p := ⟨h, i, none⟩) rfl u) ho fun g hg e => hf g hg e
structure NodeAt (w : World) (h B : Nat) (l : Bool) (u1 u2 u3 : Value) (xs ys : List ByteArray) (zs : List Int) : Prop where
 box : Box4 w h (.bool l) u1 u2 u3
 r1 : w.ownsRow B 9 1 u1 xs.length (xs.map Value.string)
 r2 : w.ownsRow B 9 1 u2 ys.length (ys.map Value.string)
 r3 : w.ownsRow B 3 1 u3 zs.length (zs.map (Value.int .i64))
 a12 : Apart u1 u2
 a13 : Apart u1 u3
 a23 : Apart u2 u3
 o1 : Off h u1
 o2 : Off h u2
 o3 : Off h u3
 le : B ≤ w.heap.size
theorem NodeAt.turns {P : Nat → Prop} {w w' : World} {h B : Nat} {l : Bool} {u1 u2 u3 : Value} {xs ys : List ByteArray} {zs : List Int} (n : NodeAt w h B l u1 u2 u3 xs ys zs) (t : Turns P w w') (hp : ¬ P h) (hb : ∀ k, P k → k < B) : NodeAt w' h B l u1 u2 u3 xs ys zs :=
 ⟨n.box.turns t hp, t.owns n.r1 fun g hg x => by have := (n.r1.lt g hg).1; have := hb g x; omega, t.owns n.r2 fun g hg x => by have := (n.r2.lt g hg).1; have := hb g x; omega, t.owns n.r3 fun g hg x => by have := (n.r3.lt g hg).1; have := hb g x; omega, n.a12, n.a13, n.a23, n.o1, n.o2, n.o3, Nat.le_trans n.le t.size⟩
theorem NodeAt.below {w w' : World} {h B : Nat} {l : Bool} {u1 u2 u3 : Value} {xs ys : List ByteArray} {zs : List Int} (n : NodeAt w h B l u1 u2 u3 xs ys zs) (hb : Below w.heap.size w w') : NodeAt w' h B l u1 u2 u3 xs ys zs :=
 n.turns (P := fun _ => False) (Turns.of_below hb) id (fun _ x => x.elim)
theorem NodeAt.drew {w : World} {h B : Nat} {l : Bool} {u1 u2 u3 : Value} {xs ys : List ByteArray} {zs : List Int} (n : NodeAt w h B l u1 u2 u3 xs ys zs) : NodeAt w.drew h B l u1 u2 u3 xs ys zs := n.below (Below.refl _ _).drew
theorem NodeAt.alloc {w : World} {h B : Nat} {l : Bool} {u1 u2 u3 : Value} {xs ys : List ByteArray} {zs : List Int} (n : NodeAt w h B l u1 u2 u3 xs ys zs) (o : Obj) : NodeAt (w.alloc o) h B l u1 u2 u3 xs ys zs := n.below ((Below.refl _ _).alloc (Nat.le_refl _) o)
def Own (h B : Nat) (k : Nat) : Prop := k = h ∨ B ≤ k
theorem NodeAt.push1 {w : World} {h B : Nat} {l : Bool} {u1 u2 u3 : Value} {xs ys : List ByteArray} {zs : List Int} (n : NodeAt w h B l u1 u2 u3 xs ys zs) (x : ByteArray) (hl : xs.length ≤ 4096) :
  ∃ g cap w', (Builtin.append_ #[22, 22] 22 #[u1, .slice (some ⟨w.heap.size, 0, none⟩) 1 1]).run Tryz.prog (w.alloc (.cells #[.string x] 9)) = .ok (.slice (some ⟨g, 0, none⟩) (xs.length + 1) cap) w' ∧ Box4 w' h (.bool l) u1 u2 u3 ∧
   NodeAt (w'.setCell ⟨h, 1, none⟩ (.slice (some ⟨g, 0, none⟩) (xs.length + 1) cap)) h B l (.slice (some ⟨g, 0, none⟩) (xs.length + 1) cap) u2 u3 (xs ++ [x]) ys zs ∧ Turns (Own h B) w (w'.setCell ⟨h, 1, none⟩ (.slice (some ⟨g, 0, none⟩) (xs.length + 1) cap)) := by
 obtain ⟨g, cap, w', hrun, hown, hgr, hat, hge, hlt⟩ := push_S w B u1 xs.length xs x n.r1 n.le hl
 have t0 : Turns (fun k => u1.ownBlock = some k) w w' := ((Turns.refl _ _).alloc _).grown hgr (fun k hk => hk)
 have hbox : Box4 w' h (.bool l) u1 u2 u3 := n.box.turns t0 fun hk => n.o1 h hk rfl
 have hh : h < w.heap.size + 1 := by have := n.box.lt; omega
 refine ⟨g, cap, w', hrun, hbox, ⟨?_, ?_, ?_, ?_, ?_, ?_, n.a23, off_grown n.o1 hat hh, n.o2, n.o3, ?_⟩, ?_⟩
 ·
  obtain ⟨⟨c0, c1, c2, c3⟩, f0, f1, f2, f3⟩ := hbox
  refine ⟨⟨?_, World.cell?_setCell_same _ _ _ c1, ?_, ?_⟩, ?_, ?_, ?_, ?_⟩
  ·
   rw [World.cell?_setCell_other _ _ _ _ (fun hh => by cases hh)]; exact c0
  ·
   rw [World.cell?_setCell_other _ _ _ _ (fun hh => by cases hh)]; exact c2
  ·
   rw [World.cell?_setCell_other _ _ _ _ (fun hh => by cases hh)]; exact c3
  ·
   rw [World.frozen?_setCell]; exact f0
  ·
   rw [World.frozen?_setCell]; exact f1
  ·
   rw [World.frozen?_setCell]; exact f2
  ·
   rw [World.frozen?_setCell]; exact f3
 ·
  rw [List.length_append]
  exact owns_off hown (off_grown n.o1 hat hh) 1 _
 ·
  exact owns_off (t0.owns n.r2 fun k h2 h1 => n.a12 k h1 h2) n.o2 1 _
 ·
  exact owns_off (t0.owns n.r3 fun k h2 h1 => n.a13 k h1 h2) n.o3 1 _
 ·
  exact apart_grown n.a12 hat fun k hk => by have := (n.r2.lt k hk).2; omega
 ·
  exact apart_grown n.a13 hat fun k hk => by have := (n.r3.lt k hk).2; omega
 ·
  have := t0.size
  have := n.le
  simp; omega
 ·
  exact (t0.mono fun k hk => .inr (n.r1.lt k hk).1).setCell (p := ⟨h, 1, none⟩) (.inl rfl) _
theorem NodeAt.push2 {w : World} {h B : Nat} {l : Bool} {u1 u2 u3 : Value} {xs ys : List ByteArray} {zs : List Int} (n : NodeAt w h B l u1 u2 u3 xs ys zs) (x : ByteArray) (hl : ys.length ≤ 4096) :
  ∃ g cap w', (Builtin.append_ #[22, 22] 22 #[u2, .slice (some ⟨w.heap.size, 0, none⟩) 1 1]).run Tryz.prog (w.alloc (.cells #[.string x] 9)) = .ok (.slice (some ⟨g, 0, none⟩) (ys.length + 1) cap) w' ∧ Box4 w' h (.bool l) u1 u2 u3 ∧
   NodeAt (w'.setCell ⟨h, 2, none⟩ (.slice (some ⟨g, 0, none⟩) (ys.length + 1) cap)) h B l u1 (.slice (some ⟨g, 0, none⟩) (ys.length + 1) cap) u3 xs (ys ++ [x]) zs ∧ Turns (Own h B) w (w'.setCell ⟨h, 2, none⟩ (.slice (some ⟨g, 0, none⟩) (ys.length + 1) cap)) := by
 obtain ⟨g, cap, w', hrun, hown, hgr, hat, hge, hlt⟩ := push_S w B u2 ys.length ys x n.r2 n.le hl
 have t0 : Turns (fun k => u2.ownBlock = some k) w w' := ((Turns.refl _ _).alloc _).grown hgr (fun k hk => hk)
 have hbox : Box4 w' h (.bool l) u1 u2 u3 := n.box.turns t0 fun hk => n.o2 h hk rfl
 have hh : h < w.heap.size + 1 := by have := n.box.lt; omega
 refine ⟨g, cap, w', hrun, hbox, ⟨?_, ?_, ?_, ?_, ?_, n.a13, ?_, n.o1, off_grown n.o2 hat hh, n.o3, ?_⟩, ?_⟩
 ·
  obtain ⟨⟨c0, c1, c2, c3⟩, f0, f1, f2, f3⟩ := hbox
  refine ⟨⟨?_, ?_, World.cell?_setCell_same _ _ _ c2, ?_⟩, ?_, ?_, ?_, ?_⟩
  ·
   rw [World.cell?_setCell_other _ _ _ _ (fun hh => by cases hh)]; exact c0
  ·
   rw [World.cell?_setCell_other _ _ _ _ (fun hh => by cases hh)]; exact c1
  ·
   rw [World.cell?_setCell_other _ _ _ _ (fun hh => by cases hh)]; exact c3
  ·
   rw [World.frozen?_setCell]; exact f0
  ·
   rw [World.frozen?_setCell]; exact f1
  ·
   rw [World.frozen?_setCell]; exact f2
  ·
   rw [World.frozen?_setCell]; exact f3
 ·
  exact owns_off (t0.owns n.r1 fun k h2 h1 => n.a12 k h2 h1) n.o1 2 _
 ·
  rw [List.length_append]
  exact owns_off hown (off_grown n.o2 hat hh) 2 _
 ·
  exact owns_off (t0.owns n.r3 fun k h2 h1 => n.a23 k h1 h2) n.o3 2 _
 ·
  exact (apart_grown n.a12.symm hat fun k hk => by have := (n.r1.lt k hk).2; omega).symm
 ·
  exact apart_grown n.a23 hat fun k hk => by have := (n.r3.lt k hk).2; omega
 ·
  have := t0.size
  have := n.le
  simp; omega
 ·
  exact (t0.mono fun k hk => .inr (n.r2.lt k hk).1).setCell (p := ⟨h, 2, none⟩) (.inl rfl) _
theorem NodeAt.push3 {w : World} {h B : Nat} {l : Bool} {u1 u2 u3 : Value} {xs ys : List ByteArray} {zs : List Int} (n : NodeAt w h B l u1 u2 u3 xs ys zs) (x : Int) (hl : zs.length ≤ 4096) :
  ∃ g cap w', (Builtin.append_ #[99, 99] 99 #[u3, .slice (some ⟨w.heap.size, 0, none⟩) 1 1]).run Tryz.prog (w.alloc (.cells #[.int .i64 x] 3)) = .ok (.slice (some ⟨g, 0, none⟩) (zs.length + 1) cap) w' ∧ Box4 w' h (.bool l) u1 u2 u3 ∧
   NodeAt (w'.setCell ⟨h, 3, none⟩ (.slice (some ⟨g, 0, none⟩) (zs.length + 1) cap)) h B l u1 u2 (.slice (some ⟨g, 0, none⟩) (zs.length + 1) cap) xs ys (zs ++ [x]) ∧ Turns (Own h B) w (w'.setCell ⟨h, 3, none⟩ (.slice (some ⟨g, 0, none⟩) (zs.length + 1) cap)) := by
 obtain ⟨g, cap, w', hrun, hown, hgr, hat, hge, hlt⟩ := push_Z w B u3 zs.length zs x n.r3 n.le hl
 have t0 : Turns (fun k => u3.ownBlock = some k) w w' := ((Turns.refl _ _).alloc _).grown hgr (fun k hk => hk)
 have hbox : Box4 w' h (.bool l) u1 u2 u3 := n.box.turns t0 fun hk => n.o3 h hk rfl
 have hh : h < w.heap.size + 1 := by have := n.box.lt; omega
 refine ⟨g, cap, w', hrun, hbox, ⟨?_, ?_, ?_, ?_, n.a12, ?_, ?_, n.o1, n.o2, off_grown n.o3 hat hh, ?_⟩, ?_⟩
 ·
  obtain ⟨⟨c0, c1, c2, c3⟩, f0, f1, f2, f3⟩ := hbox
  refine ⟨⟨?_, ?_, ?_, World.cell?_setCell_same _ _ _ c3⟩, ?_, ?_, ?_, ?_⟩
  ·
   rw [World.cell?_setCell_other _ _ _ _ (fun hh => by cases hh)]; exact c0
  ·
   rw [World.cell?_setCell_other _ _ _ _ (fun hh => by cases hh)]; exact c1
  ·
   rw [World.cell?_setCell_other _ _ _ _ (fun hh => by cases hh)]; exact c2
  ·
   rw [World.frozen?_setCell]; exact f0
  ·
   rw [World.frozen?_setCell]; exact f1
  ·
   rw [World.frozen?_setCell]; exact f2
  ·
   rw [World.frozen?_setCell]; exact f3
 ·
  exact owns_off (t0.owns n.r1 fun k h2 h1 => n.a13 k h2 h1) n.o1 3 _
 ·
  exact owns_off (t0.owns n.r2 fun k h2 h1 => n.a23 k h2 h1) n.o2 3 _
 ·
  rw [List.length_append]
  exact owns_off hown (off_grown n.o3 hat hh) 3 _
 ·
  exact (apart_grown n.a13.symm hat fun k hk => by have := (n.r1.lt k hk).2; omega).symm
 ·
  exact (apart_grown n.a23.symm hat fun k hk => by have := (n.r2.lt k hk).2; omega).symm
 ·
  have := t0.size
  have := n.le
  simp; omega
 ·
  exact (t0.mono fun k hk => .inr (n.r3.lt k hk).1).setCell (p := ⟨h, 3, none⟩) (.inl rfl) _
theorem NodeAt.rows {w : World} {h B : Nat} {l : Bool} {u1 u2 u3 : Value} {xs ys : List ByteArray} {zs : List Int} (n : NodeAt w h B l u1 u2 u3 xs ys zs) (hx : ∀ x ∈ xs, x.size ≤ maxLen) (hy : ∀ x ∈ ys, x.size ≤ maxLen) :
  ∃ a c a' c' a'' c'', u1 = .slice a xs.length c ∧ u2 = .slice a' ys.length c' ∧ u3 = .slice a'' zs.length c'' ∧ IsS w a c xs ∧ IsS w a' c' ys ∧ IsI w a'' c'' zs ∧ From B a ∧ From B a' ∧ From B a'' := by
 obtain ⟨a, c, e1, _, i1, j1⟩ := owns_S n.r1 hx
 obtain ⟨a', c', e2, _, i2, j2⟩ := owns_S n.r2 hy
 obtain ⟨a'', c'', e3, _, i3, j3⟩ := owns_I n.r3
 exact ⟨a, c, a', c', a'', c'', e1, e2, e3, i1, i2, i3, j1, j2, j3⟩
theorem nodeAt_new {w : World} {h B : Nat} {l : Bool} (b : Box4 w h (.bool l) (.slice none 0 0) (.slice none 0 0) (.slice none 0 0)) (le : B ≤ w.heap.size) : NodeAt w h B l (.slice none 0 0) (.slice none 0 0) (.slice none 0 0) [] [] [] :=
 ⟨b, World.ownsRow_nil _ _ _ _, World.ownsRow_nil _ _ _ _, World.ownsRow_nil _ _ _ _, apart_nil _ _, apart_nil _ _, apart_nil _ _, off_nil _ _, off_nil _ _, off_nil _ _, le⟩
theorem NodeAt.other {w : World} {h B : Nat} {l : Bool} {u1 u2 u3 : Value} {xs ys : List ByteArray} {zs : List Int} (n : NodeAt w h B l u1 u2 u3 xs ys zs) {k : Nat} (hk : k < B) (hn : k ≠ h) (i : Nat) (v : Value) : NodeAt (w.setCell ⟨k, i, none⟩ v) h B l u1 u2 u3 xs ys zs :=
 n.turns (P := fun x => x = k) (Turns.setCell (P := fun x => x = k) (Turns.refl _ _) (p := ⟨k, i, none⟩) rfl v) (fun e => hn e.symm) (fun x e => by omega)
def cellsQ (ps : List (ByteArray × ByteArray)) : List Value := ps.flatMap fun p => [.string p.1, .string p.2]
structure Grows (h : Nat) (u1 u2 : Value) (V : World) (u1' u2' : Value) (V' : World) : Prop where
 t : Turns (fun k => k = h ∨ u1.ownBlock = some k ∨ u2.ownBlock = some k) V V'
 g1 : ∀ g, u1'.ownBlock = some g → u1.ownBlock = some g ∨ V.heap.size ≤ g
 g2 : ∀ g, u2'.ownBlock = some g → u2.ownBlock = some g ∨ V.heap.size ≤ g
structure Loc (lo : Nat) (V1 V : World) (u1 u2 : Value) : Prop where
 st : Turns (fun k => k < lo) V1 V
 fr : ∀ g, (u1.ownBlock = some g ∨ u2.ownBlock = some g) → g < lo ∨ V1.heap.size ≤ g
theorem Loc.step {lo h : Nat} {V1 V V' : World} {u1 u2 u1' u2' : Value} (l : Loc lo V1 V u1 u2) (g : Grows h u1 u2 V u1' u2' V') (hh : h < lo) : Loc lo V1 V' u1' u2' := by
 have hs := l.st.size
 refine ⟨⟨g.t.os.trans l.st.os, g.t.tape.trans l.st.tape, g.t.output.trans l.st.output, Nat.le_trans l.st.size g.t.size, fun k hk hp => ?_⟩, fun k hk => ?_⟩
 ·
  refine (g.t.block k (Nat.lt_of_lt_of_le hk hs) ?_).trans (l.st.block k hk hp)
  rintro (e | e)
  ·
   exact hp (by omega)
  ·
   rcases l.fr k e with e | e
   ·
    exact hp e
   ·
    omega
 ·
  rcases hk with e | e
  ·
   rcases g.g1 k e with e | e
   ·
    exact l.fr k (.inl e)
   ·
    exact .inr (by omega)
  ·
   rcases g.g2 k e with e | e
   ·
    exact l.fr k (.inr e)
   ·
    exact .inr (by omega)
structure TreeAt (w : World) (h B : Nat) (u1 u2 : Value) (t : TreeS) : Prop where
 box : Box4 w h u1 u2 (.int .i64 t.height) (.bool t.bad)
 r1 : w.ownsRow B 210 2 u1 t.pairs.length (cellsQ t.pairs)
 r2 : w.ownsRow B 3 1 u2 t.blocks.length (t.blocks.map (Value.int .i64))
 a12 : Apart u1 u2
 hb : h < B
 le : B ≤ w.heap.size
theorem Grows.low {h B S : Nat} {u1 u2 u1' u2' : Value} {t : TreeS} {w V V' : World} (n : TreeAt V h B u1 u2 t) (g : Grows h u1 u2 V u1' u2' V') (hB : Below w.heap.size w V) (h1 : w.heap.size ≤ h) : Below w.heap.size w V' := by
 have := n.hb
 refine Below.turns hB g.t fun i hi => ?_
 rcases hi with e | e | e
 ·
  omega
 ·
  have := (n.r1.lt i e).1; omega
 ·
  have := (n.r2.lt i e).1; omega
def WoodBox (V : World) (h : Nat) (v0 v1 v2 v3 v4 : Value) : Prop :=
 V.cell? ⟨h, 0, none⟩ = some v0 ∧ V.cell? ⟨h, 1, none⟩ = some v1 ∧ V.cell? ⟨h, 2, none⟩ = some v2 ∧ V.cell? ⟨h, 3, none⟩ = some v3 ∧ V.cell? ⟨h, 4, none⟩ = some v4
theorem woodBox_new (w : World) (v0 v1 v2 v3 v4 : Value) (t : TypeId) {h : Nat} (hh : h = w.heap.size) : WoodBox (w.alloc (.cells #[v0, v1, v2, v3, v4] t)) h v0 v1 v2 v3 v4 := by
 subst hh
 exact ⟨World.cell?_alloc_at _ _ _ _ rfl, World.cell?_alloc_at _ _ _ _ rfl, World.cell?_alloc_at _ _ _ _ rfl, World.cell?_alloc_at _ _ _ _ rfl, World.cell?_alloc_at _ _ _ _ rfl⟩
theorem WoodBox.turns {P : Nat → Prop} {V V' : World} {h : Nat} {v0 v1 v2 v3 v4 : Value} (b : WoodBox V h v0 v1 v2 v3 v4) (t : Turns P V V') (hp : ¬ P h) : WoodBox V' h v0 v1 v2 v3 v4 :=
 ⟨t.cell (p := ⟨h, 0, none⟩) hp b.1, t.cell (p := ⟨h, 1, none⟩) hp b.2.1, t.cell (p := ⟨h, 2, none⟩) hp b.2.2.1, t.cell (p := ⟨h, 3, none⟩) hp b.2.2.2.1, t.cell (p := ⟨h, 4, none⟩) hp b.2.2.2.2⟩
theorem WoodBox.below {V V' : World} {h : Nat} {v0 v1 v2 v3 v4 : Value} (b : WoodBox V h v0 v1 v2 v3 v4) (hb : Below V.heap.size V V') : WoodBox V' h v0 v1 v2 v3 v4 :=
 b.turns (P := fun _ => False) (Turns.of_below hb) id
structure NodeLo (V : World) (lo h : Nat) (l : Bool) (a : Option Addr) (m c : Nat) (a' : Option Addr) (m' c' : Nat) (a'' : Option Addr) (m'' c'' : Nat) (ks vs : List ByteArray) (cs : List Int) : Prop where
 box : Box4 V h (.bool l) (.slice a m c) (.slice a' m' c') (.slice a'' m'' c'')
 e1 : m = ks.length
 e2 : m' = vs.length
 e3 : m'' = cs.length
 i1 : IsS V a c ks
 i2 : IsS V a' c' vs
 i3 : IsI V a'' c'' cs
 j0 : lo ≤ h
 j1 : From lo a
 j2 : From lo a'
 j3 : From lo a''
theorem NodeLo.stay {V V' : World} {lo h : Nat} {l : Bool} {a : Option Addr} {m c : Nat} {a' : Option Addr} {m' c' : Nat} {a'' : Option Addr} {m'' c'' : Nat} {ks vs : List ByteArray} {cs : List Int} (n : NodeLo V lo h l a m c a' m' c' a'' m'' c'' ks vs cs) (t : Turns (fun k => k < lo) V V') : NodeLo V' lo h l a m c a' m' c' a'' m'' c'' ks vs cs :=
 ⟨n.box.turns t (by have := n.j0; omega), n.e1, n.e2, n.e3, n.i1.turns t (fun x hx e => by have := n.j1 x hx; omega), n.i2.turns t (fun x hx e => by have := n.j2 x hx; omega), n.i3.turns t (fun x hx e => by have := n.j3 x hx; omega), n.j0, n.j1, n.j2, n.j3⟩
theorem nodeLo_new (V : World) (lo h : Nat) (l : Bool) {a : Option Addr} {m c : Nat} {a' : Option Addr} {m' c' : Nat} {a'' : Option Addr} {m'' c'' : Nat} {ks vs : List ByteArray} {cs : List Int} (hh : h = V.heap.size) (hl : lo ≤ h) (e1 : m = ks.length) (e2 : m' = vs.length) (e3 : m'' = cs.length) (i1 : IsS V a c ks) (i2 : IsS V a' c' vs) (i3 : IsI V a'' c'' cs) (j1 : From lo a) (j2 : From lo a') (j3 : From lo a'') :
  NodeLo (V.alloc (.cells #[.bool l, .slice a m c, .slice a' m' c', .slice a'' m'' c''] 205)) lo h l a m c a' m' c' a'' m'' c'' ks vs cs := by
 subst hh
 have hA := (Below.refl V.heap.size V).alloc (Nat.le_refl _) (.cells #[.bool l, .slice a m c, .slice a' m' c', .slice a'' m'' c''] 205)
 exact ⟨box4_new _ _ _ _ _ _ rfl, e1, e2, e3, i1.below hA, i2.below hA, i3.below hA, hl, j1, j2, j3⟩
theorem get_some {α : Type} {xs : List α} {i : Nat} (h : i < xs.length) : ∃ x, Hid (xs[i]? = some x) := ⟨_, List.getElem?_eq_getElem h⟩
end Go.Proofs.YtaobfgplheoefaaGreat
namespace Go.Proofs.YtaobfgplheoefaaGreat
open Go.RowKit Plain Anylast
set_option linter.unusedVariables false
def rdS (s : ByteArray) (p e : Int) : ByteArray := if e = 0 then cutS s p else ⟨#[]⟩
def rdP (s : ByteArray) (p e : Int) : Int := if e = 0 then cutT s p else p
def rdE (s : ByteArray) (p e : Int) : Int := if e = 0 then cutE s p else e
def rnR (s : ByteArray) (p e k : Int) : Int := if e = 0 then getR s p k else 0
def rnP (s : ByteArray) (p e k : Int) : Int := if e = 0 then getT s p k else p
def rnE (s : ByteArray) (p e k : Int) : Int := if e = 0 then getE s p k else e
theorem turns_set12 (w : World) (h : Nat) (u1 u2 : Value) : Turns (fun k => k = h) w ((w.drew.setCell ⟨h, 1, none⟩ u1).setCell ⟨h, 2, none⟩ u2) :=
 Turns.setCell (P := fun k => k = h) (Turns.setCell (P := fun k => k = h) (Turns.refl _ _).drew (p := ⟨h, 1, none⟩) rfl u1) (p := ⟨h, 2, none⟩) rfl u2
set_option maxRecDepth 20000 in
set_option maxHeartbeats 1000000 in
theorem rtext_any (h : Nat) (s : ByteArray) (p e : Int) (w : World) (b : Box3 w h (.string s) (.int .i64 p) (.int .i64 e)) (hs : s.size ≤ maxLen) :
  ∃ w1, Box3 w1 h (.string s) (.int .i64 (rdP s p e)) (.int .i64 (rdE s p e)) ∧ Turns (fun k => k = h) w w1 ∧ w1.heap.size = w.heap.size ∧
   Calls Tryz.prog 202 #[.pointer (some ⟨h, 0, none⟩)] w fun r w' => r = .returned (.string (rdS s p e)) ∧ w' = w1 := by
 by_cases he : e = 0
 ·
  subst he
  have e1 : rdS s p 0 = cutS s p := by unfold rdS; rw [if_pos rfl]
  have e2 : rdP s p 0 = cutT s p := by unfold rdP; rw [if_pos rfl]
  have e3 : rdE s p 0 = cutE s p := by unfold rdE; rw [if_pos rfl]
  rw [e1, e2, e3]
  have cC := fun V => cut_any s p V hs
  generalize cutS s p = x at cC
  generalize cutT s p = q at cC
  generalize cutE s p = y at cC
  refine ⟨(w.drew.setCell ⟨h, 1, none⟩ (.int .i64 q)).setCell ⟨h, 2, none⟩ (.int .i64 y), Box3.set12 (w := w.drew) b _ _, turns_set12 w h _ _, by simp, ?_⟩
  clear e1 e2 e3
  obtain ⟨⟨q0, q1, q2⟩, f0, f1, f2⟩ := id b
  go_enter Tryz.func202, Tryz.ntmps202
  go_wp2
  go_region_held3 (fun V => V.cell? ⟨h, 0, none⟩ = some (.string s) ∧ V.cell? ⟨h, 1, none⟩ = some (.int .i64 p) ∧ V.heap = w.heap) (exact ⟨q0, q1, rfl⟩) (first
   | (go_at_call 170; refine (cC _).mono ?_; rintro e w' ⟨rfl, rfl⟩))
  go_wp2
  go_ret
  exact ⟨rfl, rfl⟩
 ·
  have e1 : rdS s p e = ⟨#[]⟩ := by unfold rdS; rw [if_neg he]
  have e2 : rdP s p e = p := by unfold rdP; rw [if_neg he]
  have e3 : rdE s p e = e := by unfold rdE; rw [if_neg he]
  rw [e1, e2, e3]
  have he' : (e != 0) = true := by simpa using he
  refine ⟨w, b, Turns.refl _ _, rfl, ?_⟩
  obtain ⟨⟨q0, q1, q2⟩, f0, f1, f2⟩ := id b
  clear e1 e2 e3
  go_enter Tryz.func202, Tryz.ntmps202
  go_wp2
  go_ret
  exact ⟨rfl, rfl⟩
set_option maxRecDepth 20000 in
set_option maxHeartbeats 1000000 in
theorem rnumber_any (h : Nat) (s : ByteArray) (p e k : Int) (w : World) (b : Box3 w h (.string s) (.int .i64 p) (.int .i64 e)) (hs : s.size ≤ maxLen) :
  ∃ w1, Box3 w1 h (.string s) (.int .i64 (rnP s p e k)) (.int .i64 (rnE s p e k)) ∧ Turns (fun k => k = h) w w1 ∧ w1.heap.size = w.heap.size ∧
   Calls Tryz.prog 196 #[.pointer (some ⟨h, 0, none⟩), .int .i64 k] w fun r w' => r = .returned (.int .i64 (rnR s p e k)) ∧ w' = w1 := by
 by_cases he : e = 0
 ·
  subst he
  have e1 : rnR s p 0 k = getR s p k := by unfold rnR; rw [if_pos rfl]
  have e2 : rnP s p 0 k = getT s p k := by unfold rnP; rw [if_pos rfl]
  have e3 : rnE s p 0 k = getE s p k := by unfold rnE; rw [if_pos rfl]
  rw [e1, e2, e3]
  have cC := fun V => get_any s p k V hs
  generalize getR s p k = x at cC
  generalize getT s p k = q at cC
  generalize getE s p k = y at cC
  refine ⟨(w.drew.setCell ⟨h, 1, none⟩ (.int .i64 q)).setCell ⟨h, 2, none⟩ (.int .i64 y), Box3.set12 (w := w.drew) b _ _, turns_set12 w h _ _, by simp, ?_⟩
  clear e1 e2 e3
  obtain ⟨⟨q0, q1, q2⟩, f0, f1, f2⟩ := id b
  go_enter Tryz.func196, Tryz.ntmps196
  go_wp2
  go_region_held3 (fun V => V.cell? ⟨h, 0, none⟩ = some (.string s) ∧ V.cell? ⟨h, 1, none⟩ = some (.int .i64 p)) (exact ⟨q0, q1⟩) (first
   | (go_at_call 131; refine (cC _).mono ?_; rintro e w' ⟨rfl, rfl⟩))
  go_wp2
  go_ret
  exact ⟨rfl, rfl⟩
 ·
  have e1 : rnR s p e k = 0 := by unfold rnR; rw [if_neg he]
  have e2 : rnP s p e k = p := by unfold rnP; rw [if_neg he]
  have e3 : rnE s p e k = e := by unfold rnE; rw [if_neg he]
  rw [e1, e2, e3]
  have he' : (e != 0) = true := by simpa using he
  refine ⟨w, b, Turns.refl _ _, rfl, ?_⟩
  obtain ⟨⟨q0, q1, q2⟩, f0, f1, f2⟩ := id b
  clear e1 e2 e3
  go_enter Tryz.func196, Tryz.ntmps196
  go_wp2
  go_ret
  exact ⟨rfl, rfl⟩
structure RdL where
 p : Int
 e : Int
 ks : List ByteArray
 vs : List ByteArray
def rdLeaf (s : ByteArray) (p e : Int) : Nat → RdL
 | 0 => ⟨p, e, [], []⟩
 | j + 1 =>
  let a := rdLeaf s p e j
  let p1 := rdP s a.p a.e
  let e1 := rdE s a.p a.e
  ⟨rdP s p1 e1, rdE s p1 e1, a.ks ++ [rdS s a.p a.e], a.vs ++ [rdS s p1 e1]⟩
structure RdI where
 p : Int
 e : Int
 ks : List ByteArray
 cs : List Int
def rdInn (s : ByteArray) (p e : Int) : Nat → RdI
 | 0 => ⟨rnP s p e 2, rnE s p e 2, [], [rnR s p e 2]⟩
 | j + 1 =>
  let a := rdInn s p e j
  let p1 := rdP s a.p a.e
  let e1 := rdE s a.p a.e
  ⟨rnP s p1 e1 2, rnE s p1 e1 2, a.ks ++ [rdS s a.p a.e], a.cs ++ [rnR s p1 e1 2]⟩
theorem rdLeaf_len (s : ByteArray) (p e : Int) (j : Nat) : (rdLeaf s p e j).ks.length = j ∧ (rdLeaf s p e j).vs.length = j := by
 induction j with
 | zero => exact ⟨rfl, rfl⟩
 | succ j ih => simp [rdLeaf, ih.1, ih.2]
theorem rdInn_len (s : ByteArray) (p e : Int) (j : Nat) : (rdInn s p e j).ks.length = j ∧ (rdInn s p e j).cs.length = j + 1 := by
 induction j with
 | zero => exact ⟨rfl, rfl⟩
 | succ j ih => simp [rdInn, ih.1, ih.2]
theorem cutS_size (s : ByteArray) (p : Int) : (cutS s p).size ≤ s.size := by
 unfold cutS
 split
 ·
  rw [ByteArray.size_extract]; omega
 ·
  exact Nat.zero_le _
theorem rdS_size (s : ByteArray) (p e : Int) : (rdS s p e).size ≤ s.size := by
 unfold rdS
 split
 ·
  exact cutS_size s p
 ·
  exact Nat.zero_le _
theorem rdLeaf_size (s : ByteArray) (p e : Int) (j : Nat) : (∀ x ∈ (rdLeaf s p e j).ks, x.size ≤ s.size) ∧ ∀ x ∈ (rdLeaf s p e j).vs, x.size ≤ s.size := by
 induction j with
 | zero => exact ⟨fun x h => (by cases h), fun x h => (by cases h)⟩
 | succ j ih =>
  simp only [rdLeaf]
  constructor
  ·
   intro x hx
   rcases List.mem_append.1 hx with h | h
   ·
    exact ih.1 x h
   ·
    obtain rfl : x = _ := by simpa using h
    exact rdS_size _ _ _
  ·
   intro x hx
   rcases List.mem_append.1 hx with h | h
   ·
    exact ih.2 x h
   ·
    obtain rfl : x = _ := by simpa using h
    exact rdS_size _ _ _
theorem rdInn_size (s : ByteArray) (p e : Int) (j : Nat) : ∀ x ∈ (rdInn s p e j).ks, x.size ≤ s.size := by
 induction j with
 | zero => exact fun x h => (by cases h)
 | succ j ih =>
  simp only [rdInn]
  intro x hx
  rcases List.mem_append.1 hx with h | h
  ·
   exact ih x h
  ·
   obtain rfl : x = _ := by simpa using h
   exact rdS_size _ _ _
def pushV (h i r H g n cap : Nat) (u x : Value) : Nat → Value
 | 0 => .pointer (some ⟨h, i, none⟩)
 | 1 => u
 | 2 => .pointer (some ⟨r, 0, none⟩)
 | 3 => x
 | 4 => .slice (some ⟨H, 0, none⟩) 1 1
 | 5 => .slice (some ⟨g, 0, none⟩) (n + 1) cap
 | 6 => .pointer (some ⟨h, i, none⟩)
 | _ => undef
def worlds5 (w0 w1 w2 w3 w4 : World) : Nat → World
 | 0 => w0
 | 1 => w1
 | 2 => w2
 | 3 => w3
 | _ => w4
theorem Box4.set1 {w : World} {h : Nat} {v0 v1 v2 v3 : Value} (b : Box4 w h v0 v1 v2 v3) (v : Value) : Box4 (w.setCell ⟨h, 1, none⟩ v) h v0 v v2 v3 := by
 obtain ⟨⟨c0, c1, c2, c3⟩, f0, f1, f2, f3⟩ := b
 refine ⟨⟨?_, World.cell?_setCell_same _ _ _ c1, ?_, ?_⟩, ?_, ?_, ?_, ?_⟩
 ·
  rw [World.cell?_setCell_other _ _ _ _ (fun hh => by cases hh)]; exact c0
 ·
  rw [World.cell?_setCell_other _ _ _ _ (fun hh => by cases hh)]; exact c2
 ·
  rw [World.cell?_setCell_other _ _ _ _ (fun hh => by cases hh)]; exact c3
 ·
  rw [World.frozen?_setCell]; exact f0
 ·
  rw [World.frozen?_setCell]; exact f1
 ·
  rw [World.frozen?_setCell]; exact f2
 ·
  rw [World.frozen?_setCell]; exact f3
theorem Box4.set2 {w : World} {h : Nat} {v0 v1 v2 v3 : Value} (b : Box4 w h v0 v1 v2 v3) (v : Value) : Box4 (w.setCell ⟨h, 2, none⟩ v) h v0 v1 v v3 := by
 obtain ⟨⟨c0, c1, c2, c3⟩, f0, f1, f2, f3⟩ := b
 refine ⟨⟨?_, ?_, World.cell?_setCell_same _ _ _ c2, ?_⟩, ?_, ?_, ?_, ?_⟩
 ·
  rw [World.cell?_setCell_other _ _ _ _ (fun hh => by cases hh)]; exact c0
 ·
  rw [World.cell?_setCell_other _ _ _ _ (fun hh => by cases hh)]; exact c1
 ·
  rw [World.cell?_setCell_other _ _ _ _ (fun hh => by cases hh)]; exact c3
 ·
  rw [World.frozen?_setCell]; exact f0
 ·
  rw [World.frozen?_setCell]; exact f1
 ·
  rw [World.frozen?_setCell]; exact f2
 ·
  rw [World.frozen?_setCell]; exact f3
theorem Box4.set3 {w : World} {h : Nat} {v0 v1 v2 v3 : Value} (b : Box4 w h v0 v1 v2 v3) (v : Value) : Box4 (w.setCell ⟨h, 3, none⟩ v) h v0 v1 v2 v := by
 obtain ⟨⟨c0, c1, c2, c3⟩, f0, f1, f2, f3⟩ := b
 refine ⟨⟨?_, ?_, ?_, World.cell?_setCell_same _ _ _ c3⟩, ?_, ?_, ?_, ?_⟩
 ·
  rw [World.cell?_setCell_other _ _ _ _ (fun hh => by cases hh)]; exact c0
 ·
  rw [World.cell?_setCell_other _ _ _ _ (fun hh => by cases hh)]; exact c1
 ·
  rw [World.cell?_setCell_other _ _ _ _ (fun hh => by cases hh)]; exact c2
 ·
  rw [World.frozen?_setCell]; exact f0
 ·
  rw [World.frozen?_setCell]; exact f1
 ·
  rw [World.frozen?_setCell]; exact f2
 ·
  rw [World.frozen?_setCell]; exact f3
theorem Box4.other {w : World} {h : Nat} {v0 v1 v2 v3 : Value} (b : Box4 w h v0 v1 v2 v3) {p : Addr} (hp : p.block ≠ h) (v : Value) : Box4 (w.setCell p v) h v0 v1 v2 v3 := by
 obtain ⟨⟨c0, c1, c2, c3⟩, f0, f1, f2, f3⟩ := b
 have ne : ∀ k, (⟨h, k, none⟩ : Addr) ≠ p := fun k e => hp (by rw [← e])
 refine ⟨⟨?_, ?_, ?_, ?_⟩, ?_, ?_, ?_, ?_⟩
 ·
  rw [World.cell?_setCell_other _ _ _ _ (fun hh => hp (by first | (rw [← hh]) | (rw [hh])))]; exact c0
 ·
  rw [World.cell?_setCell_other _ _ _ _ (fun hh => hp (by first | (rw [← hh]) | (rw [hh])))]; exact c1
 ·
  rw [World.cell?_setCell_other _ _ _ _ (fun hh => hp (by first | (rw [← hh]) | (rw [hh])))]; exact c2
 ·
  rw [World.cell?_setCell_other _ _ _ _ (fun hh => hp (by first | (rw [← hh]) | (rw [hh])))]; exact c3
 ·
  rw [World.frozen?_setCell]; exact f0
 ·
  rw [World.frozen?_setCell]; exact f1
 ·
  rw [World.frozen?_setCell]; exact f2
 ·
  rw [World.frozen?_setCell]; exact f3
theorem Box4.put {w : World} {h : Nat} {v0 v1 v2 v3 : Value} (b : Box4 w h v0 v1 v2 v3) (u0 u1 u2 u3 : Value) : Box4 ((((w.setCell ⟨h, 0, none⟩ u0).setCell ⟨h, 1, none⟩ u1).setCell ⟨h, 2, none⟩ u2).setCell ⟨h, 3, none⟩ u3) h u0 u1 u2 u3 := by
 have b0 : Box4 (w.setCell ⟨h, 0, none⟩ u0) h u0 v1 v2 v3 := by
  obtain ⟨⟨c0, c1, c2, c3⟩, f0, f1, f2, f3⟩ := b
  refine ⟨⟨World.cell?_setCell_same _ _ _ c0, ?_, ?_, ?_⟩, ?_, ?_, ?_, ?_⟩
  ·
   rw [World.cell?_setCell_other _ _ _ _ (fun hh => by cases hh)]; exact c1
  ·
   rw [World.cell?_setCell_other _ _ _ _ (fun hh => by cases hh)]; exact c2
  ·
   rw [World.cell?_setCell_other _ _ _ _ (fun hh => by cases hh)]; exact c3
  ·
   rw [World.frozen?_setCell]; exact f0
  ·
   rw [World.frozen?_setCell]; exact f1
  ·
   rw [World.frozen?_setCell]; exact f2
  ·
   rw [World.frozen?_setCell]; exact f3
 exact ((b0.set1 u1).set2 u2).set3 u3
theorem below_put4 {w W : World} {h : Nat} (hB : Below w.heap.size w W) (hh : w.heap.size ≤ h) (u0 u1 u2 u3 : Value) : Below w.heap.size w ((((W.setCell ⟨h, 0, none⟩ u0).setCell ⟨h, 1, none⟩ u1).setCell ⟨h, 2, none⟩ u2).setCell ⟨h, 3, none⟩ u3) :=
 (((hB.setCell (p := ⟨h, 0, none⟩) hh _).setCell (p := ⟨h, 1, none⟩) hh _).setCell (p := ⟨h, 2, none⟩) hh _).setCell (p := ⟨h, 3, none⟩) hh _
theorem NodeAt.read1 {w : World} {h B r : Nat} {l : Bool} {u1 u2 u3 : Value} {xs ys : List ByteArray} {zs : List Int} {s : ByteArray} {p e : Int} (n : NodeAt w h B l u1 u2 u3 xs ys zs) (b : Box3 w r (.string s) (.int .i64 p) (.int .i64 e)) (hr : r < B) (hne : r ≠ h) (hs : s.size ≤ maxLen) (hl : xs.length ≤ 4096) :
  ∃ V1 g cap V3 V4, Calls Tryz.prog 202 #[.pointer (some ⟨r, 0, none⟩)] w (fun c w' => c = .returned (.string (rdS s p e)) ∧ w' = V1) ∧ Box4 w h (.bool l) u1 u2 u3 ∧ Box4 V1 h (.bool l) u1 u2 u3 ∧ Box4 (V1.alloc (.cells #[.string (rdS s p e)] 9)) h (.bool l) u1 u2 u3 ∧
   (Builtin.append_ #[22, 22] 22 #[u1, .slice (some ⟨V1.heap.size, 0, none⟩) 1 1]).run Tryz.prog (V1.alloc (.cells #[.string (rdS s p e)] 9)) = .ok (.slice (some ⟨g, 0, none⟩) (xs.length + 1) cap) V3 ∧ Box4 V3 h (.bool l) u1 u2 u3 ∧
   V3.setCell ⟨h, 1, none⟩ (.slice (some ⟨g, 0, none⟩) (xs.length + 1) cap) = V4 ∧ NodeAt V4 h B l (.slice (some ⟨g, 0, none⟩) (xs.length + 1) cap) u2 u3 (xs ++ [rdS s p e]) ys zs ∧ Box3 V4 r (.string s) (.int .i64 (rdP s p e)) (.int .i64 (rdE s p e)) ∧ Turns (fun k => k = r ∨ Own h B k) w V4 := by
 obtain ⟨V1, b1, t1, _, c1⟩ := rtext_any r s p e w b hs
 have n1 : NodeAt V1 h B l u1 u2 u3 xs ys zs := n.turns t1 (fun e => hne e.symm) (fun k e => by omega)
 obtain ⟨g, cap, V3, hrun, b3, n4, t4⟩ := n1.push1 (rdS s p e) hl
 refine ⟨V1, g, cap, V3, _, c1, n.box, n1.box, (n1.alloc _).box, hrun, b3, rfl, n4, b1.turns t4 ?_, (t1.mono fun k e => .inl e).trans (t4.mono fun k e => .inr e)⟩
 rintro (e | e)
 ·
  exact hne e
 ·
  omega
theorem NodeAt.read2 {w : World} {h B r : Nat} {l : Bool} {u1 u2 u3 : Value} {xs ys : List ByteArray} {zs : List Int} {s : ByteArray} {p e : Int} (n : NodeAt w h B l u1 u2 u3 xs ys zs) (b : Box3 w r (.string s) (.int .i64 p) (.int .i64 e)) (hr : r < B) (hne : r ≠ h) (hs : s.size ≤ maxLen) (hl : ys.length ≤ 4096) :
  ∃ V1 g cap V3 V4, Calls Tryz.prog 202 #[.pointer (some ⟨r, 0, none⟩)] w (fun c w' => c = .returned (.string (rdS s p e)) ∧ w' = V1) ∧ Box4 w h (.bool l) u1 u2 u3 ∧ Box4 V1 h (.bool l) u1 u2 u3 ∧ Box4 (V1.alloc (.cells #[.string (rdS s p e)] 9)) h (.bool l) u1 u2 u3 ∧
   (Builtin.append_ #[22, 22] 22 #[u2, .slice (some ⟨V1.heap.size, 0, none⟩) 1 1]).run Tryz.prog (V1.alloc (.cells #[.string (rdS s p e)] 9)) = .ok (.slice (some ⟨g, 0, none⟩) (ys.length + 1) cap) V3 ∧ Box4 V3 h (.bool l) u1 u2 u3 ∧
   V3.setCell ⟨h, 2, none⟩ (.slice (some ⟨g, 0, none⟩) (ys.length + 1) cap) = V4 ∧ NodeAt V4 h B l u1 (.slice (some ⟨g, 0, none⟩) (ys.length + 1) cap) u3 xs (ys ++ [rdS s p e]) zs ∧ Box3 V4 r (.string s) (.int .i64 (rdP s p e)) (.int .i64 (rdE s p e)) ∧ Turns (fun k => k = r ∨ Own h B k) w V4 := by
 obtain ⟨V1, b1, t1, _, c1⟩ := rtext_any r s p e w b hs
 have n1 : NodeAt V1 h B l u1 u2 u3 xs ys zs := n.turns t1 (fun e => hne e.symm) (fun k e => by omega)
 obtain ⟨g, cap, V3, hrun, b3, n4, t4⟩ := n1.push2 (rdS s p e) hl
 refine ⟨V1, g, cap, V3, _, c1, n.box, n1.box, (n1.alloc _).box, hrun, b3, rfl, n4, b1.turns t4 ?_, (t1.mono fun k e => .inl e).trans (t4.mono fun k e => .inr e)⟩
 rintro (e | e)
 ·
  exact hne e
 ·
  omega
theorem NodeAt.read3 {w : World} {h B r : Nat} {l : Bool} {u1 u2 u3 : Value} {xs ys : List ByteArray} {zs : List Int} {s : ByteArray} {p e : Int} (n : NodeAt w h B l u1 u2 u3 xs ys zs) (b : Box3 w r (.string s) (.int .i64 p) (.int .i64 e)) (hr : r < B) (hne : r ≠ h) (hs : s.size ≤ maxLen) (hl : zs.length ≤ 4096) :
  ∃ V1 g cap V3 V4, Calls Tryz.prog 196 #[.pointer (some ⟨r, 0, none⟩), .int .i64 2] w (fun c w' => c = .returned (.int .i64 (rnR s p e 2)) ∧ w' = V1) ∧ Box4 w h (.bool l) u1 u2 u3 ∧ Box4 V1 h (.bool l) u1 u2 u3 ∧ Box4 (V1.alloc (.cells #[.int .i64 (rnR s p e 2)] 3)) h (.bool l) u1 u2 u3 ∧
   (Builtin.append_ #[99, 99] 99 #[u3, .slice (some ⟨V1.heap.size, 0, none⟩) 1 1]).run Tryz.prog (V1.alloc (.cells #[.int .i64 (rnR s p e 2)] 3)) = .ok (.slice (some ⟨g, 0, none⟩) (zs.length + 1) cap) V3 ∧ Box4 V3 h (.bool l) u1 u2 u3 ∧
   V3.setCell ⟨h, 3, none⟩ (.slice (some ⟨g, 0, none⟩) (zs.length + 1) cap) = V4 ∧ NodeAt V4 h B l u1 u2 (.slice (some ⟨g, 0, none⟩) (zs.length + 1) cap) xs ys (zs ++ [rnR s p e 2]) ∧ Box3 V4 r (.string s) (.int .i64 (rnP s p e 2)) (.int .i64 (rnE s p e 2)) ∧ Turns (fun k => k = r ∨ Own h B k) w V4 := by
 obtain ⟨V1, b1, t1, _, c1⟩ := rnumber_any r s p e 2 w b hs
 have n1 : NodeAt V1 h B l u1 u2 u3 xs ys zs := n.turns t1 (fun e => hne e.symm) (fun k e => by omega)
 obtain ⟨g, cap, V3, hrun, b3, n4, t4⟩ := n1.push3 (rnR s p e 2) hl
 refine ⟨V1, g, cap, V3, _, c1, n.box, n1.box, (n1.alloc _).box, hrun, b3, rfl, n4, b1.turns t4 ?_, (t1.mono fun k e => .inl e).trans (t4.mono fun k e => .inr e)⟩
 rintro (e | e)
 ·
  exact hne e
 ·
  omega
theorem turns_put4 (w : World) (h : Nat) (u0 u1 u2 u3 : Value) : Turns (fun k => k = h) w ((((w.setCell ⟨h, 0, none⟩ u0).setCell ⟨h, 1, none⟩ u1).setCell ⟨h, 2, none⟩ u2).setCell ⟨h, 3, none⟩ u3) :=
 Turns.setCell (P := fun k => k = h) (Turns.setCell (P := fun k => k = h) (Turns.setCell (P := fun k => k = h) (Turns.setCell (P := fun k => k = h) (Turns.refl _ _) (p := ⟨h, 0, none⟩) rfl u0) (p := ⟨h, 1, none⟩) rfl u1) (p := ⟨h, 2, none⟩) rfl u2) (p := ⟨h, 3, none⟩) rfl u3
theorem node_two (w : World) (t : TypeId) (l : Bool) (v3 : Value) :
  ∃ W, W = (w.alloc (.cells #[.bool false, .slice none 0 0, .slice none 0 0, .slice none 0 0] t)).alloc (.cells #[.bool l, .slice none 0 0, .slice none 0 0, v3] t) ∧
   Box4 W w.heap.size (.bool false) (.slice none 0 0) (.slice none 0 0) (.slice none 0 0) ∧ Box4 W (w.heap.size + 1) (.bool l) (.slice none 0 0) (.slice none 0 0) v3 ∧ Below w.heap.size w W ∧ W.heap.size = w.heap.size + 2 :=
 ⟨_, rfl, (box4_new w _ _ _ _ t rfl).alloc _, box4_new _ _ _ _ _ t (by simp), ((Below.refl _ _).alloc (Nat.le_refl _) _).alloc (by simp) _, by simp⟩
set_option maxRecDepth 20000 in
set_option maxHeartbeats 4000000 in
theorem rleaf_any (r c : Nat) (s : ByteArray) (p e : Int) (w : World) (b : Box3 w r (.string s) (.int .i64 p) (.int .i64 e)) (hs : s.size ≤ maxLen) (hc : c ≤ 255) :
  Calls Tryz.prog 197 #[.pointer (some ⟨r, 0, none⟩), .int .i64 c] w fun x w' => ∃ a d a' d', x = .returned (.agg #[.bool true, .slice a c d, .slice a' c d', .slice none 0 0]) ∧
   IsS w' a d (rdLeaf s p e c).ks ∧ IsS w' a' d' (rdLeaf s p e c).vs ∧ From w.heap.size a ∧ From w.heap.size a' ∧ Box3 w' r (.string s) (.int .i64 (rdLeaf s p e c).p) (.int .i64 (rdLeaf s p e c).e) ∧ Turns (fun k => k = r) w w' := by
 obtain ⟨W, hW, b0, bn, hB0, hsz⟩ := node_two w 205 true (.slice none 0 0)
 have hrw : r < w.heap.size := b.lt
 have N0 : NodeAt W (w.heap.size + 1) (w.heap.size + 2) true (.slice none 0 0) (.slice none 0 0) (.slice none 0 0) [] [] [] := nodeAt_new bn (by omega)
 have bW : Box3 W r (.string s) (.int .i64 p) (.int .i64 e) := b.below hB0
 have T0 : Turns (fun k => k = r ∨ w.heap.size ≤ k) w W := Turns.of_below hB0
 have HS : Hid (s.size ≤ maxLen) := hs
 clear b hs bn hB0 hsz
 go_enter Tryz.func197, Tryz.ntmps197
 go_wp2
 rw [← hW]
 clear hW
 go_loopw [8] (fun v wr => ∃ (j : Nat) (u1 u2 : Value), j ≤ c ∧ v = .int .i64 j ∧ NodeAt wr (w.heap.size + 1) (w.heap.size + 2) true u1 u2 (.slice none 0 0) (rdLeaf s p e j).ks (rdLeaf s p e j).vs [] ∧ Box3 wr r (.string s) (.int .i64 (rdLeaf s p e j).p) (.int .i64 (rdLeaf s p e j).e) ∧ Box4 wr w.heap.size (.bool false) (.slice none 0 0) (.slice none 0 0) (.slice none 0 0) ∧ Turns (fun k => k = r ∨ w.heap.size ≤ k) w wr) (fun v _ => c - (intOf v).toNat)
 case atStart => exact ⟨0, .slice none 0 0, .slice none 0 0, by omega, rfl, N0, bW, b0, T0⟩
 case round =>
  clear N0 bW b0 T0
  obtain ⟨j, u1, u2, hj, rfl, N, bR, b0, T⟩ := hrel
  obtain ⟨A, hA⟩ : ∃ A, A = rdLeaf s p e j := ⟨_, rfl⟩
  obtain ⟨l1, l2⟩ := rdLeaf_len s p e j
  rw [← hA] at N bR l1 l2
  have HA : Hid (A = rdLeaf s p e j) := hA
  have hl1 : A.ks.length ≤ 4096 := by omega
  have hl2 : A.vs.length ≤ 4096 := by omega
  have L1 : Hid (A.ks.length = j) := l1
  have L2 : Hid (A.vs.length = j) := l2
  clear hA l1 l2
  by_cases hlt : j < c
  ·
   have hlt' : (j : Int) < c := by omega
   obtain ⟨V0, hV0⟩ : ∃ V, V = wr.drew := ⟨_, rfl⟩
   replace N : NodeAt V0 (w.heap.size + 1) (w.heap.size + 2) true u1 u2 (.slice none 0 0) A.ks A.vs [] := by rw [hV0]; exact N.drew
   replace bR : Box3 V0 r (.string s) (.int .i64 A.p) (.int .i64 A.e) := by rw [hV0]; exact bR
   replace b0 : Box4 V0 w.heap.size (.bool false) (.slice none 0 0) (.slice none 0 0) (.slice none 0 0) := by rw [hV0]; exact b0.drew
   replace T : Turns (fun k => k = r ∨ w.heap.size ≤ k) w V0 := by rw [hV0]; exact T.drew
   obtain ⟨V1, g, cap, V3, V4, hcall3, x0, x1, x2, hrun5, x3, hst, N4, bR4, T4⟩ := N.read1 bR (by omega) (by omega) HS.out hl1
   have b04 := b0.turns T4 (by rintro (h | h | h) <;> omega)
   have T04 : Turns (fun k => k = r ∨ w.heap.size ≤ k) w V4 := T.trans (T4.mono fun k hk => by rcases hk with h | h | h <;> omega)
   obtain ⟨V5, hV5⟩ : ∃ V, V = V4.drew := ⟨_, rfl⟩
   replace N4 : NodeAt V5 (w.heap.size + 1) (w.heap.size + 2) true (.slice (some ⟨g, 0, none⟩) (A.ks.length + 1) cap) u2 (.slice none 0 0) (A.ks ++ [rdS s A.p A.e]) A.vs [] := by rw [hV5]; exact N4.drew
   replace bR4 : Box3 V5 r (.string s) (.int .i64 (rdP s A.p A.e)) (.int .i64 (rdE s A.p A.e)) := by rw [hV5]; exact bR4
   replace b04 : Box4 V5 w.heap.size (.bool false) (.slice none 0 0) (.slice none 0 0) (.slice none 0 0) := by rw [hV5]; exact b04.drew
   replace T04 : Turns (fun k => k = r ∨ w.heap.size ≤ k) w V5 := by rw [hV5]; exact T04.drew
   obtain ⟨U1, g', cap', U3, U4, hcall3', y0, y1, y2, hrun5', y3, hst', N8, bR8, T8⟩ := N4.read2 bR4 (by omega) (by omega) HS.out hl2
   have b08 := b04.turns T8 (by rintro (h | h | h) <;> omega)
   have T08 : Turns (fun k => k = r ∨ w.heap.size ≤ k) w U4 := T04.trans (T8.mono fun k hk => by rcases hk with h | h | h <;> omega)
   have hfin : Hid (NodeAt U4 (w.heap.size + 1) (w.heap.size + 2) true (.slice (some ⟨g, 0, none⟩) (A.ks.length + 1) cap) (.slice (some ⟨g', 0, none⟩) (A.vs.length + 1) cap') (.slice none 0 0) (rdLeaf s p e (j + 1)).ks (rdLeaf s p e (j + 1)).vs [] ∧ Box3 U4 r (.string s) (.int .i64 (rdLeaf s p e (j + 1)).p) (.int .i64 (rdLeaf s p e (j + 1)).e)) := by
    simp only [rdLeaf]
    rw [← HA.out]
    exact ⟨N8, bR8⟩
   have hfin2 : Hid (Box4 U4 w.heap.size (.bool false) (.slice none 0 0) (.slice none 0 0) (.slice none 0 0) ∧ Turns (fun k => k = r ∨ w.heap.size ≤ k) w U4) := ⟨b08, T08⟩
   have hst4 : Hid (V3.setCell ⟨w.heap.size + 1, 1, none⟩ (.slice (some ⟨g, 0, none⟩) (A.ks.length + 1) cap) = V4) := hst
   have HV0 : Hid (V0 = wr.drew) := hV0
   have HV5 : Hid (V5 = V4.drew) := hV5
   have HT' : Hid (U3.setCell ⟨w.heap.size + 1, 2, none⟩ (.slice (some ⟨g', 0, none⟩) (A.vs.length + 1) cap') = U4) := hst'
   obtain ⟨⟨q0, q1, q2, q3⟩, -⟩ := id x0
   obtain ⟨⟨q01, q11, q21, q31⟩, -⟩ := id x1
   obtain ⟨⟨q02, q12, q22, q32⟩, -⟩ := id x2
   obtain ⟨⟨q03, q13, q23, q33⟩, f0, f1, f2, f3⟩ := id x3
   generalize rdS s A.p A.e = key at *
   generalize rdS s (rdP s A.p A.e) (rdE s A.p A.e) = val at *
   clear N bR b0 T N4 bR4 b04 T04 N8 bR8 T8 b08 T08 T4 hst hst' hV0 hV5 x0 x1 x2 x3
   go_wp2
   refine region_worlds (by kernel_rfl) [3, 4, 5, 7] (pushV (w.heap.size + 1) 1 r V1.heap.size g A.ks.length cap u1 (.string key)) (worlds5 V0 V1 (V1.alloc (.cells #[.string key] 9)) V3 V4) (by kernel_rfl) (by kernel_rfl) HV0.out.symm ?step 8 rfl ?done
   case step =>
    intro i o ho kk a2 hkk hmay hdf hsz hdep hsame
    match i, ho with
    | 0, ho =>
     cases ho
     have h5 := (hsame 5 rfl)
     exact val_op rfl (wanted_free rfl) (by clear hdep hsame hsz hdf; (try simp only [pushV, worlds5]); go_simp) rfl rfl
    | 1, ho =>
     cases ho
     have h10 := (hdep 0 _ 10 rfl rfl rfl)
     simp only [pushV] at h10
     match kk, hkk, hmay with
     | 0, _, hq => first | (cases hq; done) | (exact val_op rfl (wanted_free rfl) (by clear hdep hsame hsz hdf; (try simp only [pushV, worlds5]); go_simp) rfl rfl)
     | 1, _, hq => first | (cases hq; done) | (exact val_op rfl (wanted_free rfl) (by clear hdep hsame hsz hdf; (try simp only [pushV, worlds5]); go_simp) rfl rfl)
     | 2, _, hq => first | (cases hq; done) | (exact val_op rfl (wanted_free rfl) (by clear hdep hsame hsz hdf; (try simp only [pushV, worlds5]); go_simp) rfl rfl)
     | 3, _, hq => first | (cases hq; done) | (exact val_op rfl (wanted_free rfl) (by clear hdep hsame hsz hdf; (try simp only [pushV, worlds5]); go_simp) rfl rfl)
     | 4, _, hq => first | (cases hq; done) | (exact val_op rfl (wanted_free rfl) (by clear hdep hsame hsz hdf; (try simp only [pushV, worlds5]); go_simp) rfl rfl)
     | kk + 5, hkk, _ => simp at hkk
    | 2, ho =>
     cases ho
     have h0 := (hsame 0 rfl)
     exact val_op rfl (wanted_free rfl) (by clear hdep hsame hsz hdf; (try simp only [pushV, worlds5]); go_simp) rfl rfl
    | 3, ho =>
     cases ho
     have h12 := (hdep 2 _ 12 rfl rfl rfl)
     simp only [pushV] at h12
     match kk, hkk, hmay with
     | 0, _, _ => exact val_call rfl (wanted_free rfl) (by clear hdep hsame hsz hdf; (try simp only [worlds5]); go_simp) (hcall3.mono fun e w hh => ⟨hh.1, hh.2⟩)
     | 1, _, hq => cases hq
     | 2, _, hq => cases hq
     | 3, _, hq => cases hq
     | 4, _, hq => cases hq
     | kk + 5, hkk, _ => simp at hkk
    | 4, ho =>
     cases ho
     have h13 := (hdep 3 _ 13 rfl rfl rfl)
     simp only [pushV] at h13
     match kk, hkk, hmay with
     | 0, _, hq => cases hq
     | 1, _, _ => exact val_op rfl (wanted_free rfl) (by clear hdep hsame hsz hdf; (try simp only [pushV, worlds5]); go_simp) rfl rfl
     | 2, _, hq => cases hq
     | 3, _, hq => cases hq
     | 4, _, hq => cases hq
     | kk + 5, hkk, _ => simp at hkk
    | 5, ho =>
     cases ho
     have h11 := eval_tmp (hdep 1 _ 11 rfl rfl rfl)
     have h14 := eval_tmp (hdep 4 _ 14 rfl rfl rfl)
     simp only [pushV] at h11 h14
     match kk, hkk, hmay with
     | 0, _, hq => cases hq
     | 1, _, hq => cases hq
     | 2, _, _ => exact val_append rfl (wanted_free rfl) rfl h11 h14 hrun5 rfl rfl
     | 3, _, hq => cases hq
     | 4, _, hq => cases hq
     | kk + 5, hkk, _ => simp at hkk
    | 6, ho =>
     cases ho
     have h5 := (hsame 5 rfl)
     exact val_op rfl (wanted_free rfl) (by clear hdep hsame hsz hdf; (try simp only [pushV, worlds5]); go_simp) rfl rfl
    | 7, ho =>
     cases ho
     have h16 := (hdep 6 _ 16 rfl rfl rfl)
     have h15 := (hdep 5 _ 15 rfl rfl rfl)
     simp only [pushV] at h16 h15
     match kk, hkk, hmay with
     | 0, _, hq => cases hq
     | 1, _, hq => cases hq
     | 2, _, hq => cases hq
     | 3, _, _ => exact val_skip rfl (wanted_free rfl) rfl (by clear hdep hsame hsz hdf; simp only [worlds5]; go_simp; try exact hst4.out) rfl
     | 4, _, hq => cases hq
     | kk + 5, hkk, _ => simp at hkk
    | kk + 8, ho => simp at ho
   case done =>
    simp [filledN, pushV, worlds5]
    clear q0 q1 q2 q3 q01 q11 q21 q31 q02 q12 q22 q32 q03 q13 q23 q33 f0 f1 f2 f3 hcall3 hrun5 hst4 HV0
    have hcall3 := hcall3'
    have hrun5 := hrun5'
    have hst4 := HT'
    obtain ⟨⟨q0, q1, q2, q3⟩, -⟩ := id y0
    obtain ⟨⟨q01, q11, q21, q31⟩, -⟩ := id y1
    obtain ⟨⟨q02, q12, q22, q32⟩, -⟩ := id y2
    obtain ⟨⟨q03, q13, q23, q33⟩, f0, f1, f2, f3⟩ := id y3
    clear hcall3' hrun5' HT' y0 y1 y2 y3
    go_wp2
    refine region_worlds (by kernel_rfl) [3, 4, 5, 7] (pushV (w.heap.size + 1) 2 r U1.heap.size g' A.vs.length cap' u2 (.string val)) (worlds5 V5 U1 (U1.alloc (.cells #[.string val] 9)) U3 U4) (by kernel_rfl) (by kernel_rfl) HV5.out.symm ?step2 8 rfl ?done2
    case step2 =>
     intro i o ho kk a2 hkk hmay hdf hsz hdep hsame
     match i, ho with
     | 0, ho =>
      cases ho
      have h5 := (hsame 5 rfl)
      exact val_op rfl (wanted_free rfl) (by clear hdep hsame hsz hdf; (try simp only [pushV, worlds5]); go_simp) rfl rfl
     | 1, ho =>
      cases ho
      have h17 := (hdep 0 _ 17 rfl rfl rfl)
      simp only [pushV] at h17
      match kk, hkk, hmay with
      | 0, _, hq => first | (cases hq; done) | (exact val_op rfl (wanted_free rfl) (by clear hdep hsame hsz hdf; (try simp only [pushV, worlds5]); go_simp) rfl rfl)
      | 1, _, hq => first | (cases hq; done) | (exact val_op rfl (wanted_free rfl) (by clear hdep hsame hsz hdf; (try simp only [pushV, worlds5]); go_simp) rfl rfl)
      | 2, _, hq => first | (cases hq; done) | (exact val_op rfl (wanted_free rfl) (by clear hdep hsame hsz hdf; (try simp only [pushV, worlds5]); go_simp) rfl rfl)
      | 3, _, hq => first | (cases hq; done) | (exact val_op rfl (wanted_free rfl) (by clear hdep hsame hsz hdf; (try simp only [pushV, worlds5]); go_simp) rfl rfl)
      | 4, _, hq => first | (cases hq; done) | (exact val_op rfl (wanted_free rfl) (by clear hdep hsame hsz hdf; (try simp only [pushV, worlds5]); go_simp) rfl rfl)
      | kk + 5, hkk, _ => simp at hkk
     | 2, ho =>
      cases ho
      have h0 := (hsame 0 rfl)
      exact val_op rfl (wanted_free rfl) (by clear hdep hsame hsz hdf; (try simp only [pushV, worlds5]); go_simp) rfl rfl
     | 3, ho =>
      cases ho
      have h19 := (hdep 2 _ 19 rfl rfl rfl)
      simp only [pushV] at h19
      match kk, hkk, hmay with
      | 0, _, _ => exact val_call rfl (wanted_free rfl) (by clear hdep hsame hsz hdf; (try simp only [worlds5]); go_simp) (hcall3.mono fun e w hh => ⟨hh.1, hh.2⟩)
      | 1, _, hq => cases hq
      | 2, _, hq => cases hq
      | 3, _, hq => cases hq
      | 4, _, hq => cases hq
      | kk + 5, hkk, _ => simp at hkk
     | 4, ho =>
      cases ho
      have h20 := (hdep 3 _ 20 rfl rfl rfl)
      simp only [pushV] at h20
      match kk, hkk, hmay with
      | 0, _, hq => cases hq
      | 1, _, _ => exact val_op rfl (wanted_free rfl) (by clear hdep hsame hsz hdf; (try simp only [pushV, worlds5]); go_simp) rfl rfl
      | 2, _, hq => cases hq
      | 3, _, hq => cases hq
      | 4, _, hq => cases hq
      | kk + 5, hkk, _ => simp at hkk
     | 5, ho =>
      cases ho
      have h18 := eval_tmp (hdep 1 _ 18 rfl rfl rfl)
      have h21 := eval_tmp (hdep 4 _ 21 rfl rfl rfl)
      simp only [pushV] at h18 h21
      match kk, hkk, hmay with
      | 0, _, hq => cases hq
      | 1, _, hq => cases hq
      | 2, _, _ => exact val_append rfl (wanted_free rfl) rfl h18 h21 hrun5 rfl rfl
      | 3, _, hq => cases hq
      | 4, _, hq => cases hq
      | kk + 5, hkk, _ => simp at hkk
     | 6, ho =>
      cases ho
      have h5 := (hsame 5 rfl)
      exact val_op rfl (wanted_free rfl) (by clear hdep hsame hsz hdf; (try simp only [pushV, worlds5]); go_simp) rfl rfl
     | 7, ho =>
      cases ho
      have h23 := (hdep 6 _ 23 rfl rfl rfl)
      have h22 := (hdep 5 _ 22 rfl rfl rfl)
      simp only [pushV] at h23 h22
      match kk, hkk, hmay with
      | 0, _, hq => cases hq
      | 1, _, hq => cases hq
      | 2, _, hq => cases hq
      | 3, _, _ => exact val_skip rfl (wanted_free rfl) rfl (by clear hdep hsame hsz hdf; simp only [worlds5]; go_simp; try exact hst4.out) rfl
      | 4, _, hq => cases hq
      | kk + 5, hkk, _ => simp at hkk
     | kk + 8, ho => simp at ho
    case done2 =>
     simp [filledN, pushV, worlds5]
     clear q0 q1 q2 q3 q01 q11 q21 q31 q02 q12 q22 q32 q03 q13 q23 q33 f0 f1 f2 f3 hcall3 hrun5 hst4 HV5
     go_wp2
     go_roundw
     case rel => exact ⟨j + 1, _, _, by omega, by go_num, hfin.out.1, hfin.out.2, hfin2.out.1, hfin2.out.2⟩
     case measure => simp [intOf]; omega
  ·
   obtain rfl : j = c := by omega
   obtain ⟨z1, z2⟩ := rdLeaf_size s p e j
   rw [← HA.out] at z1 z2
   obtain ⟨a, d, a', d', a'', d'', rfl, rfl, e3, i1, i2, i3, -, -, -⟩ := N.rows (fun x hx => Nat.le_trans (z1 x hx) HS.out) (fun x hx => Nat.le_trans (z2 x hx) HS.out)
   have NH : Hid (NodeAt wr (w.heap.size + 1) (w.heap.size + 2) true (.slice a A.ks.length d) (.slice a' A.vs.length d') (.slice none 0 0) A.ks A.vs []) := N
   have BH : Hid (Box3 wr r (.string s) (.int .i64 A.p) (.int .i64 A.e)) := bR
   have TH : Hid (Turns (fun k => k = r ∨ w.heap.size ≤ k) w wr) := T
   have Z1 : Hid (∀ x ∈ A.ks, x.size ≤ maxLen) := fun x hx => Nat.le_trans (z1 x hx) HS.out
   have Z2 : Hid (∀ x ∈ A.vs, x.size ≤ maxLen) := fun x hx => Nat.le_trans (z2 x hx) HS.out
   obtain ⟨⟨q0, q1, q2, q3⟩, -⟩ := N.box
   obtain ⟨⟨r0, r1, r2, r3⟩, g0, g1, g2, g3⟩ := id b0
   clear N bR T z1 z2 i1 i2 i3 e3
   go_wp2
   have N4 : NodeAt ((((wr.setCell ⟨w.heap.size, 0, none⟩ (.bool true)).setCell ⟨w.heap.size, 1, none⟩ (.slice a A.ks.length d)).setCell ⟨w.heap.size, 2, none⟩ (.slice a' A.vs.length d')).setCell ⟨w.heap.size, 3, none⟩ (.slice none 0 0)) (w.heap.size + 1) (w.heap.size + 2) true (.slice a A.ks.length d) (.slice a' A.vs.length d') (.slice none 0 0) A.ks A.vs [] :=
    (((NH.out.other (by omega) (by omega) 0 _).other (by omega) (by omega) 1 _).other (by omega) (by omega) 2 _).other (by omega) (by omega) 3 _
   have T4 : Turns (fun k => k = w.heap.size) wr ((((wr.setCell ⟨w.heap.size, 0, none⟩ (.bool true)).setCell ⟨w.heap.size, 1, none⟩ (.slice a A.ks.length d)).setCell ⟨w.heap.size, 2, none⟩ (.slice a' A.vs.length d')).setCell ⟨w.heap.size, 3, none⟩ (.slice none 0 0)) := turns_put4 wr w.heap.size _ _ _ _
   obtain ⟨b, k, b', k', b'', k'', e1, e2, e3, i1, i2, i3, j1, j2, j3⟩ := N4.rows Z1.out Z2.out
   cases e1
   cases e2
   have l1 := L1.out
   have l2 := L2.out
   refine bodyPost_ret (v := .agg #[.bool true, .slice a j d, .slice a' j d', .slice none 0 0]) (by simp [results, Tryz.results197, go_sem, r0, r1, r2, r3, l1, l2]) rfl ⟨a, d, a', d', rfl, by rw [← HA.out]; exact i1, by rw [← HA.out]; exact i2, j1.mono (by omega), j2.mono (by omega), by rw [← HA.out]; exact BH.out.turns T4 (by omega), ?_⟩
   exact (TH.out.trans (T4.mono fun k hk => .inr (by omega))).mono' fun k hk hh => by rcases hh with h | h <;> omega
set_option maxRecDepth 20000 in
set_option maxHeartbeats 4000000 in
theorem rinner_any (r c : Nat) (s : ByteArray) (p e : Int) (w : World) (b : Box3 w r (.string s) (.int .i64 p) (.int .i64 e)) (hs : s.size ≤ maxLen) (hc : c ≤ 255) :
  Calls Tryz.prog 198 #[.pointer (some ⟨r, 0, none⟩), .int .i64 c] w fun x w' => ∃ a d a'' d'', x = .returned (.agg #[.bool false, .slice a c d, .slice none 0 0, .slice a'' (c + 1) d'']) ∧
   IsS w' a d (rdInn s p e c).ks ∧ IsI w' a'' d'' (rdInn s p e c).cs ∧ From w.heap.size a ∧ From w.heap.size a'' ∧ Box3 w' r (.string s) (.int .i64 (rdInn s p e c).p) (.int .i64 (rdInn s p e c).e) ∧ Turns (fun k => k = r) w w' := by
 have hrw : r < w.heap.size := b.lt
 obtain ⟨W0, hW0⟩ : ∃ W0, W0 = w.alloc (.cells #[.bool false, .slice none 0 0, .slice none 0 0, .slice none 0 0] 205) := ⟨_, rfl⟩
 have b00 : Box4 W0 w.heap.size (.bool false) (.slice none 0 0) (.slice none 0 0) (.slice none 0 0) := by rw [hW0]; exact box4_new _ _ _ _ _ _ rfl
 have hB00 : Below w.heap.size w W0 := by rw [hW0]; exact (Below.refl _ _).alloc (Nat.le_refl _) _
 have hz0 : W0.heap.size = w.heap.size + 1 := by rw [hW0]; simp
 obtain ⟨V1, b1, t1, hsz, c1⟩ := rnumber_any r s p e 2 W0 (b.below hB00) hs
 obtain ⟨x, hx⟩ : ∃ x, x = rnR s p e 2 := ⟨_, rfl⟩
 rw [← hx] at c1
 obtain ⟨W, hW⟩ : ∃ W, W = (V1.alloc (.cells #[.int .i64 x] 3)).alloc (.cells #[.bool false, .slice none 0 0, .slice none 0 0, .slice (some ⟨V1.heap.size, 0, none⟩) 1 1] 205) := ⟨_, rfl⟩
 have hBW : Below V1.heap.size V1 W := by rw [hW]; exact ((Below.refl _ _).alloc (Nat.le_refl _) _).alloc (by simp) _
 have bW : Box3 W r (.string s) (.int .i64 (rdInn s p e 0).p) (.int .i64 (rdInn s p e 0).e) := b1.below hBW
 have b0 : Box4 W w.heap.size (.bool false) (.slice none 0 0) (.slice none 0 0) (.slice none 0 0) := (b00.turns t1 (by omega)).below hBW
 have T0 : Turns (fun k => k = r ∨ w.heap.size ≤ k) w W := ((Turns.of_below hB00).trans (t1.mono fun k hk => .inl hk)).tr hBW
 have hrow : W.ownsRow V1.heap.size 3 1 (.slice (some ⟨V1.heap.size, 0, none⟩) 1 1) 1 ([x].map (Value.int .i64)) := by
  rw [hW]
  exact (World.ownsRow_lit (base := V1.heap.size) (e := 3) (size := 1) V1 #[.int .i64 x] 1 (Nat.le_refl _) (by unfold maxLen; omega) rfl).alloc _
 have N0 : NodeAt W (V1.heap.size + 1) V1.heap.size false (.slice none 0 0) (.slice none 0 0) (.slice (some ⟨V1.heap.size, 0, none⟩) 1 1) (rdInn s p e 0).ks [] (rdInn s p e 0).cs := by
  refine ⟨by rw [hW]; exact box4_new _ _ _ _ _ _ (by simp), World.ownsRow_nil _ _ _ _, World.ownsRow_nil _ _ _ _, ?_, apart_nil _ _, apart_nil _ _, apart_nil _ _, off_nil _ _, off_nil _ _, ?_, hBW.size⟩
  ·
   simp only [rdInn]
   rw [← hx]
   exact hrow
  ·
   intro g hg
   simp [Value.ownBlock] at hg
   omega
 have HS : Hid (s.size ≤ maxLen) := hs
 have hbw : w.heap.size < V1.heap.size := by omega
 clear b hs hBW b1 t1 b00 hB00 hsz hrow hz0 hx
 go_enter Tryz.func198, Tryz.ntmps198
 go_wp2_with (go_at_call 196; rw [← hW0]; refine c1.mono ?_; rintro y w1 ⟨rfl, hw1⟩; have hw1' := hw1.symm; subst hw1'; clear hw1)
 rw [← hW]
 clear hW c1
 generalize V1.heap.size = B at *
 go_loopw [11] (fun v wr => ∃ (j : Nat) (u1 u3 : Value), j ≤ c ∧ v = .int .i64 j ∧ NodeAt wr (B + 1) B false u1 (.slice none 0 0) u3 (rdInn s p e j).ks [] (rdInn s p e j).cs ∧ Box3 wr r (.string s) (.int .i64 (rdInn s p e j).p) (.int .i64 (rdInn s p e j).e) ∧ Box4 wr w.heap.size (.bool false) (.slice none 0 0) (.slice none 0 0) (.slice none 0 0) ∧ Turns (fun k => k = r ∨ w.heap.size ≤ k) w wr) (fun v _ => c - (intOf v).toNat)
 case atStart => exact ⟨0, .slice none 0 0, _, by omega, rfl, N0, bW, b0, T0⟩
 case round =>
  clear N0 bW b0 T0
  obtain ⟨j, u1, u3, hj, rfl, N, bR, b0, T⟩ := hrel
  obtain ⟨A, hA⟩ : ∃ A, A = rdInn s p e j := ⟨_, rfl⟩
  obtain ⟨l1, l2⟩ := rdInn_len s p e j
  rw [← hA] at N bR l1 l2
  have HA : Hid (A = rdInn s p e j) := hA
  have hl1 : A.ks.length ≤ 4096 := by omega
  have hl2 : A.cs.length ≤ 4096 := by omega
  have L1 : Hid (A.ks.length = j) := l1
  have L2 : Hid (A.cs.length = j + 1) := l2
  clear hA l1 l2
  by_cases hlt : j < c
  ·
   have hlt' : (j : Int) < c := by omega
   obtain ⟨V0, hV0⟩ : ∃ V, V = wr.drew := ⟨_, rfl⟩
   replace N : NodeAt V0 (B + 1) B false u1 (.slice none 0 0) u3 A.ks [] A.cs := by rw [hV0]; exact N.drew
   replace bR : Box3 V0 r (.string s) (.int .i64 A.p) (.int .i64 A.e) := by rw [hV0]; exact bR
   replace b0 : Box4 V0 w.heap.size (.bool false) (.slice none 0 0) (.slice none 0 0) (.slice none 0 0) := by rw [hV0]; exact b0.drew
   replace T : Turns (fun k => k = r ∨ w.heap.size ≤ k) w V0 := by rw [hV0]; exact T.drew
   obtain ⟨V1, g, cap, V3, V4, hcall3, x0, x1, x2, hrun5, x3, hst, N4, bR4, T4⟩ := N.read1 bR (by omega) (by omega) HS.out hl1
   have b04 := b0.turns T4 (by rintro (h | h | h) <;> omega)
   have T04 : Turns (fun k => k = r ∨ w.heap.size ≤ k) w V4 := T.trans (T4.mono fun k hk => by rcases hk with h | h | h <;> omega)
   obtain ⟨V5, hV5⟩ : ∃ V, V = V4.drew := ⟨_, rfl⟩
   replace N4 : NodeAt V5 (B + 1) B false (.slice (some ⟨g, 0, none⟩) (A.ks.length + 1) cap) (.slice none 0 0) u3 (A.ks ++ [rdS s A.p A.e]) [] A.cs := by rw [hV5]; exact N4.drew
   replace bR4 : Box3 V5 r (.string s) (.int .i64 (rdP s A.p A.e)) (.int .i64 (rdE s A.p A.e)) := by rw [hV5]; exact bR4
   replace b04 : Box4 V5 w.heap.size (.bool false) (.slice none 0 0) (.slice none 0 0) (.slice none 0 0) := by rw [hV5]; exact b04.drew
   replace T04 : Turns (fun k => k = r ∨ w.heap.size ≤ k) w V5 := by rw [hV5]; exact T04.drew
   obtain ⟨U1, g', cap', U3, U4, hcall3', y0, y1, y2, hrun5', y3, hst', N8, bR8, T8⟩ := N4.read3 bR4 (by omega) (by omega) HS.out hl2
   have b08 := b04.turns T8 (by rintro (h | h | h) <;> omega)
   have T08 : Turns (fun k => k = r ∨ w.heap.size ≤ k) w U4 := T04.trans (T8.mono fun k hk => by rcases hk with h | h | h <;> omega)
   have hfin : Hid (NodeAt U4 (B + 1) B false (.slice (some ⟨g, 0, none⟩) (A.ks.length + 1) cap) (.slice none 0 0) (.slice (some ⟨g', 0, none⟩) (A.cs.length + 1) cap') (rdInn s p e (j + 1)).ks [] (rdInn s p e (j + 1)).cs ∧ Box3 U4 r (.string s) (.int .i64 (rdInn s p e (j + 1)).p) (.int .i64 (rdInn s p e (j + 1)).e)) := by
    simp only [rdInn]
    rw [← HA.out]
    exact ⟨N8, bR8⟩
   have hfin2 : Hid (Box4 U4 w.heap.size (.bool false) (.slice none 0 0) (.slice none 0 0) (.slice none 0 0) ∧ Turns (fun k => k = r ∨ w.heap.size ≤ k) w U4) := ⟨b08, T08⟩
   have hst4 : Hid (V3.setCell ⟨B + 1, 1, none⟩ (.slice (some ⟨g, 0, none⟩) (A.ks.length + 1) cap) = V4) := hst
   have HV0 : Hid (V0 = wr.drew) := hV0
   have HV5 : Hid (V5 = V4.drew) := hV5
   have HT' : Hid (U3.setCell ⟨B + 1, 3, none⟩ (.slice (some ⟨g', 0, none⟩) (A.cs.length + 1) cap') = U4) := hst'
   obtain ⟨⟨q0, q1, q2, q3⟩, -⟩ := id x0
   obtain ⟨⟨q01, q11, q21, q31⟩, -⟩ := id x1
   obtain ⟨⟨q02, q12, q22, q32⟩, -⟩ := id x2
   obtain ⟨⟨q03, q13, q23, q33⟩, f0, f1, f2, f3⟩ := id x3
   generalize rdS s A.p A.e = key at *
   generalize rnR s (rdP s A.p A.e) (rdE s A.p A.e) 2 = kid at *
   clear N bR b0 T N4 bR4 b04 T04 N8 bR8 T8 b08 T08 T4 hst hst' hV0 hV5 x0 x1 x2 x3
   go_wp2
   refine region_worlds (by kernel_rfl) [3, 4, 5, 7] (pushV (B + 1) 1 r V1.heap.size g A.ks.length cap u1 (.string key)) (worlds5 V0 V1 (V1.alloc (.cells #[.string key] 9)) V3 V4) (by kernel_rfl) (by kernel_rfl) HV0.out.symm ?step 8 rfl ?done
   case step =>
    intro i o ho kk a2 hkk hmay hdf hsz hdep hsame
    match i, ho with
    | 0, ho =>
     cases ho
     have h5 := (hsame 5 rfl)
     exact val_op rfl (wanted_free rfl) (by clear hdep hsame hsz hdf; (try simp only [pushV, worlds5]); go_simp) rfl rfl
    | 1, ho =>
     cases ho
     have h13 := (hdep 0 _ 13 rfl rfl rfl)
     simp only [pushV] at h13
     match kk, hkk, hmay with
     | 0, _, hq => first | (cases hq; done) | (exact val_op rfl (wanted_free rfl) (by clear hdep hsame hsz hdf; (try simp only [pushV, worlds5]); go_simp) rfl rfl)
     | 1, _, hq => first | (cases hq; done) | (exact val_op rfl (wanted_free rfl) (by clear hdep hsame hsz hdf; (try simp only [pushV, worlds5]); go_simp) rfl rfl)
     | 2, _, hq => first | (cases hq; done) | (exact val_op rfl (wanted_free rfl) (by clear hdep hsame hsz hdf; (try simp only [pushV, worlds5]); go_simp) rfl rfl)
     | 3, _, hq => first | (cases hq; done) | (exact val_op rfl (wanted_free rfl) (by clear hdep hsame hsz hdf; (try simp only [pushV, worlds5]); go_simp) rfl rfl)
     | 4, _, hq => first | (cases hq; done) | (exact val_op rfl (wanted_free rfl) (by clear hdep hsame hsz hdf; (try simp only [pushV, worlds5]); go_simp) rfl rfl)
     | kk + 5, hkk, _ => simp at hkk
    | 2, ho =>
     cases ho
     have h0 := (hsame 0 rfl)
     exact val_op rfl (wanted_free rfl) (by clear hdep hsame hsz hdf; (try simp only [pushV, worlds5]); go_simp) rfl rfl
    | 3, ho =>
     cases ho
     have h15 := (hdep 2 _ 15 rfl rfl rfl)
     simp only [pushV] at h15
     match kk, hkk, hmay with
     | 0, _, _ => exact val_call rfl (wanted_free rfl) (by clear hdep hsame hsz hdf; (try simp only [worlds5]); go_simp) (hcall3.mono fun e w hh => ⟨hh.1, hh.2⟩)
     | 1, _, hq => cases hq
     | 2, _, hq => cases hq
     | 3, _, hq => cases hq
     | 4, _, hq => cases hq
     | kk + 5, hkk, _ => simp at hkk
    | 4, ho =>
     cases ho
     have h16 := (hdep 3 _ 16 rfl rfl rfl)
     simp only [pushV] at h16
     match kk, hkk, hmay with
     | 0, _, hq => cases hq
     | 1, _, _ => exact val_op rfl (wanted_free rfl) (by clear hdep hsame hsz hdf; (try simp only [pushV, worlds5]); go_simp) rfl rfl
     | 2, _, hq => cases hq
     | 3, _, hq => cases hq
     | 4, _, hq => cases hq
     | kk + 5, hkk, _ => simp at hkk
    | 5, ho =>
     cases ho
     have h14 := eval_tmp (hdep 1 _ 14 rfl rfl rfl)
     have h17 := eval_tmp (hdep 4 _ 17 rfl rfl rfl)
     simp only [pushV] at h14 h17
     match kk, hkk, hmay with
     | 0, _, hq => cases hq
     | 1, _, hq => cases hq
     | 2, _, _ => exact val_append rfl (wanted_free rfl) rfl h14 h17 hrun5 rfl rfl
     | 3, _, hq => cases hq
     | 4, _, hq => cases hq
     | kk + 5, hkk, _ => simp at hkk
    | 6, ho =>
     cases ho
     have h5 := (hsame 5 rfl)
     exact val_op rfl (wanted_free rfl) (by clear hdep hsame hsz hdf; (try simp only [pushV, worlds5]); go_simp) rfl rfl
    | 7, ho =>
     cases ho
     have h19 := (hdep 6 _ 19 rfl rfl rfl)
     have h18 := (hdep 5 _ 18 rfl rfl rfl)
     simp only [pushV] at h19 h18
     match kk, hkk, hmay with
     | 0, _, hq => cases hq
     | 1, _, hq => cases hq
     | 2, _, hq => cases hq
     | 3, _, _ => exact val_skip rfl (wanted_free rfl) rfl (by clear hdep hsame hsz hdf; simp only [worlds5]; go_simp; try exact hst4.out) rfl
     | 4, _, hq => cases hq
     | kk + 5, hkk, _ => simp at hkk
    | kk + 8, ho => simp at ho
   case done =>
    simp [filledN, pushV, worlds5]
    clear q0 q1 q2 q3 q01 q11 q21 q31 q02 q12 q22 q32 q03 q13 q23 q33 f0 f1 f2 f3 hcall3 hrun5 hst4 HV0
    have hcall3 := hcall3'
    have hrun5 := hrun5'
    have hst4 := HT'
    obtain ⟨⟨q0, q1, q2, q3⟩, -⟩ := id y0
    obtain ⟨⟨q01, q11, q21, q31⟩, -⟩ := id y1
    obtain ⟨⟨q02, q12, q22, q32⟩, -⟩ := id y2
    obtain ⟨⟨q03, q13, q23, q33⟩, f0, f1, f2, f3⟩ := id y3
    clear hcall3' hrun5' HT' y0 y1 y2 y3
    go_wp2
    refine region_worlds (by kernel_rfl) [3, 4, 5, 7] (pushV (B + 1) 3 r U1.heap.size g' A.cs.length cap' u3 (.int .i64 kid)) (worlds5 V5 U1 (U1.alloc (.cells #[.int .i64 kid] 3)) U3 U4) (by kernel_rfl) (by kernel_rfl) HV5.out.symm ?step2 8 rfl ?done2
    case step2 =>
     intro i o ho kk a2 hkk hmay hdf hsz hdep hsame
     match i, ho with
     | 0, ho =>
      cases ho
      have h5 := (hsame 5 rfl)
      exact val_op rfl (wanted_free rfl) (by clear hdep hsame hsz hdf; (try simp only [pushV, worlds5]); go_simp) rfl rfl
     | 1, ho =>
      cases ho
      have h20 := (hdep 0 _ 20 rfl rfl rfl)
      simp only [pushV] at h20
      match kk, hkk, hmay with
      | 0, _, hq => first | (cases hq; done) | (exact val_op rfl (wanted_free rfl) (by clear hdep hsame hsz hdf; (try simp only [pushV, worlds5]); go_simp) rfl rfl)
      | 1, _, hq => first | (cases hq; done) | (exact val_op rfl (wanted_free rfl) (by clear hdep hsame hsz hdf; (try simp only [pushV, worlds5]); go_simp) rfl rfl)
      | 2, _, hq => first | (cases hq; done) | (exact val_op rfl (wanted_free rfl) (by clear hdep hsame hsz hdf; (try simp only [pushV, worlds5]); go_simp) rfl rfl)
      | 3, _, hq => first | (cases hq; done) | (exact val_op rfl (wanted_free rfl) (by clear hdep hsame hsz hdf; (try simp only [pushV, worlds5]); go_simp) rfl rfl)
      | 4, _, hq => first | (cases hq; done) | (exact val_op rfl (wanted_free rfl) (by clear hdep hsame hsz hdf; (try simp only [pushV, worlds5]); go_simp) rfl rfl)
      | kk + 5, hkk, _ => simp at hkk
     | 2, ho =>
      cases ho
      have h0 := (hsame 0 rfl)
      exact val_op rfl (wanted_free rfl) (by clear hdep hsame hsz hdf; (try simp only [pushV, worlds5]); go_simp) rfl rfl
     | 3, ho =>
      cases ho
      have h22 := (hdep 2 _ 22 rfl rfl rfl)
      simp only [pushV] at h22
      match kk, hkk, hmay with
      | 0, _, _ => exact val_call rfl (wanted_free rfl) (by clear hdep hsame hsz hdf; (try simp only [worlds5]); go_simp) (hcall3.mono fun e w hh => ⟨hh.1, hh.2⟩)
      | 1, _, hq => cases hq
      | 2, _, hq => cases hq
      | 3, _, hq => cases hq
      | 4, _, hq => cases hq
      | kk + 5, hkk, _ => simp at hkk
     | 4, ho =>
      cases ho
      have h23 := (hdep 3 _ 23 rfl rfl rfl)
      simp only [pushV] at h23
      match kk, hkk, hmay with
      | 0, _, hq => cases hq
      | 1, _, _ => exact val_op rfl (wanted_free rfl) (by clear hdep hsame hsz hdf; (try simp only [pushV, worlds5]); go_simp) rfl rfl
      | 2, _, hq => cases hq
      | 3, _, hq => cases hq
      | 4, _, hq => cases hq
      | kk + 5, hkk, _ => simp at hkk
     | 5, ho =>
      cases ho
      have h21 := eval_tmp (hdep 1 _ 21 rfl rfl rfl)
      have h24 := eval_tmp (hdep 4 _ 24 rfl rfl rfl)
      simp only [pushV] at h21 h24
      match kk, hkk, hmay with
      | 0, _, hq => cases hq
      | 1, _, hq => cases hq
      | 2, _, _ => exact val_append rfl (wanted_free rfl) rfl h21 h24 hrun5 rfl rfl
      | 3, _, hq => cases hq
      | 4, _, hq => cases hq
      | kk + 5, hkk, _ => simp at hkk
     | 6, ho =>
      cases ho
      have h5 := (hsame 5 rfl)
      exact val_op rfl (wanted_free rfl) (by clear hdep hsame hsz hdf; (try simp only [pushV, worlds5]); go_simp) rfl rfl
     | 7, ho =>
      cases ho
      have h26 := (hdep 6 _ 26 rfl rfl rfl)
      have h25 := (hdep 5 _ 25 rfl rfl rfl)
      simp only [pushV] at h26 h25
      match kk, hkk, hmay with
      | 0, _, hq => cases hq
      | 1, _, hq => cases hq
      | 2, _, hq => cases hq
      | 3, _, _ => exact val_skip rfl (wanted_free rfl) rfl (by clear hdep hsame hsz hdf; simp only [worlds5]; go_simp; try exact hst4.out) rfl
      | 4, _, hq => cases hq
      | kk + 5, hkk, _ => simp at hkk
     | kk + 8, ho => simp at ho
    case done2 =>
     simp [filledN, pushV, worlds5]
     clear q0 q1 q2 q3 q01 q11 q21 q31 q02 q12 q22 q32 q03 q13 q23 q33 f0 f1 f2 f3 hcall3 hrun5 hst4 HV5
     go_wp2
     go_roundw
     case rel => exact ⟨j + 1, _, _, by omega, by go_num, hfin.out.1, hfin.out.2, hfin2.out.1, hfin2.out.2⟩
     case measure => simp [intOf]; omega
  ·
   obtain rfl : j = c := by omega
   have z1 := rdInn_size s p e j
   rw [← HA.out] at z1
   obtain ⟨a, d, a', d', a'', d'', rfl, e2, rfl, i1, i2, i3, -, -, -⟩ := N.rows (fun x hx => Nat.le_trans (z1 x hx) HS.out) (fun x hx => by cases hx)
   have NH : Hid (NodeAt wr (B + 1) B false (.slice a A.ks.length d) (.slice none 0 0) (.slice a'' A.cs.length d'') A.ks [] A.cs) := N
   have BH : Hid (Box3 wr r (.string s) (.int .i64 A.p) (.int .i64 A.e)) := bR
   have TH : Hid (Turns (fun k => k = r ∨ w.heap.size ≤ k) w wr) := T
   have Z1 : Hid (∀ x ∈ A.ks, x.size ≤ maxLen) := fun x hx => Nat.le_trans (z1 x hx) HS.out
   obtain ⟨⟨q0, q1, q2, q3⟩, -⟩ := N.box
   obtain ⟨⟨r0, r1, r2, r3⟩, g0, g1, g2, g3⟩ := id b0
   clear N bR T z1 i1 i2 i3 e2
   go_wp2
   have N4 : NodeAt ((((wr.setCell ⟨w.heap.size, 0, none⟩ (.bool false)).setCell ⟨w.heap.size, 1, none⟩ (.slice a A.ks.length d)).setCell ⟨w.heap.size, 2, none⟩ (.slice none 0 0)).setCell ⟨w.heap.size, 3, none⟩ (.slice a'' A.cs.length d'')) (B + 1) B false (.slice a A.ks.length d) (.slice none 0 0) (.slice a'' A.cs.length d'') A.ks [] A.cs :=
    (((NH.out.other (by omega) (by omega) 0 _).other (by omega) (by omega) 1 _).other (by omega) (by omega) 2 _).other (by omega) (by omega) 3 _
   have T4 : Turns (fun k => k = w.heap.size) wr ((((wr.setCell ⟨w.heap.size, 0, none⟩ (.bool false)).setCell ⟨w.heap.size, 1, none⟩ (.slice a A.ks.length d)).setCell ⟨w.heap.size, 2, none⟩ (.slice none 0 0)).setCell ⟨w.heap.size, 3, none⟩ (.slice a'' A.cs.length d'')) := turns_put4 wr w.heap.size _ _ _ _
   obtain ⟨b, k, b', k', b'', k'', e1, e2, e3, i1, i2, i3, j1, j2, j3⟩ := N4.rows Z1.out (fun x hx => by cases hx)
   cases e1
   cases e3
   have l1 := L1.out
   have l2 := L2.out
   refine bodyPost_ret (v := .agg #[.bool false, .slice a j d, .slice none 0 0, .slice a'' (j + 1) d'']) (by simp [results, Tryz.results198, go_sem, r0, r1, r2, r3, l1, l2]) rfl ⟨a, d, a'', d'', rfl, by rw [← HA.out]; exact i1, by rw [← HA.out]; exact i3, j1.mono (by omega), j3.mono (by omega), by rw [← HA.out]; exact BH.out.turns T4 (by omega), ?_⟩
   exact (TH.out.trans (T4.mono fun k hk => .inr (by omega))).mono' fun k hk hh => by rcases hh with h | h <;> omega
end Go.Proofs.YtaobfgplheoefaaGreat
namespace Go.Proofs.YtaobfgplheoefaaGreat
open Go.RowKit Plain
set_option linter.unusedVariables false
def keysTo (ks : List ByteArray) (j : Nat) : Prop :=
 (∀ i x, i < j → ks[i]? = some x → 1 ≤ x.size ∧ x.size ≤ 32) ∧ ∀ i x y, i + 1 < j → ks[i]? = some x → ks[i + 1]? = some y → ltB x y = true
theorem keysTo_zero (ks : List ByteArray) : keysTo ks 0 := ⟨fun i x h => by omega, fun i x y h => by omega⟩
theorem keysTo_first {ks : List ByteArray} {x : ByteArray} (hx : ks[0]? = some x) (h1 : 1 ≤ x.size) (h2 : x.size ≤ 32) : keysTo ks 1 := by
 refine ⟨fun i y hi hy => ?_, fun i y z h => by omega⟩
 obtain rfl : i = 0 := by omega
 rw [hx] at hy; cases hy; exact ⟨h1, h2⟩
theorem keysTo_next {ks : List ByteArray} {j : Nat} {p x : ByteArray} (h : keysTo ks (j + 1)) (hp : ks[j]? = some p) (hx : ks[j + 1]? = some x) (h1 : 1 ≤ x.size) (h2 : x.size ≤ 32) (h3 : ltB p x = true) : keysTo ks (j + 2) := by
 refine ⟨fun i y hi hy => ?_, fun i y z hi hy hz => ?_⟩
 ·
  by_cases e : i = j + 1
  ·
   subst e; rw [hx] at hy; cases hy; exact ⟨h1, h2⟩
  ·
   exact h.1 i y (by omega) hy
 ·
  by_cases e : i = j
  ·
   subst e; rw [hp] at hy; rw [hx] at hz; cases hy; cases hz; exact h3
  ·
   exact h.2 i y z (by omega) hy hz
def allTo {α : Type} (f : α → Prop) (vs : List α) (j : Nat) : Prop := ∀ i x, i < j → vs[i]? = some x → f x
theorem allTo_next {α : Type} {f : α → Prop} {vs : List α} {j : Nat} {x : α} (h : allTo f vs j) (hx : vs[j]? = some x) (hf : f x) : allTo f vs (j + 1) := by
 intro i y hi hy
 by_cases e : i = j
 ·
  subst e; rw [hx] at hy; cases hy; exact hf
 ·
  exact h i y (by omega) hy
def keysN (ks : List ByteArray) : Bool := ks.all keyOk && risingK ks
def valsN (vs : List ByteArray) : Bool := vs.all valOk
def kidsN (cs : List Int) : Bool := cs.all kidOk
theorem standsN_parts (l : Bool) (ks vs : List ByteArray) (cs : List Int) : standsN l ks vs cs = (decide (ks.length ≤ 9) && keysN ks && valsN vs && kidsN cs && shapeN l ks.length vs.length cs.length) := by
 unfold standsN keysN valsN kidsN
 simp only [Bool.and_assoc]
theorem idx_of {α : Type} {xs : List α} {x : α} (h : x ∈ xs) : ∃ i, i < xs.length ∧ xs[i]? = some x := by
 obtain ⟨i, hi, e⟩ := List.getElem_of_mem h
 exact ⟨i, hi, by rw [List.getElem?_eq_getElem hi, e]⟩
theorem keysN_iff {ks : List ByteArray} : keysN ks = true ↔ (∀ k ∈ ks, 1 ≤ k.size ∧ k.size ≤ 32) ∧ risingK ks = true := by
 unfold keysN keyOk
 simp only [Bool.and_eq_true, List.all_eq_true, decide_eq_true_eq]
theorem keysN_all {ks : List ByteArray} (hk : keysTo ks ks.length) : keysN ks = true :=
 keysN_iff.2 ⟨fun k hm => by obtain ⟨i, hi, e⟩ := idx_of hm; exact hk.1 i k hi e, rising_next.2 fun i x y hx hy => hk.2 i x y (List.getElem?_eq_some_iff.1 hy).1 hx hy⟩
theorem keysN_key {ks : List ByteArray} {j : Nat} {x : ByteArray} (hj : ks[j]? = some x) (h : ¬ (1 ≤ x.size ∧ x.size ≤ 32)) : keysN ks = false := by
 rw [Bool.eq_false_iff]; exact fun hh => h ((keysN_iff.1 hh).1 x (List.mem_of_getElem? hj))
theorem keysN_fall {ks : List ByteArray} {j : Nat} {x y : ByteArray} (hj : ks[j]? = some x) (hj' : ks[j + 1]? = some y) (h : ltB x y = false) : keysN ks = false := by
 rw [Bool.eq_false_iff]
 intro hh
 have := rising_next.1 (keysN_iff.1 hh).2 j x y hj hj'
 rw [h] at this; cases this
theorem valsN_iff {vs : List ByteArray} : valsN vs = true ↔ ∀ v ∈ vs, v.size ≤ 200 := by
 unfold valsN valOk
 simp only [List.all_eq_true, decide_eq_true_eq]
theorem kidsN_iff {cs : List Int} : kidsN cs = true ↔ ∀ c ∈ cs, 10 ≤ c ∧ c ≤ 2047 := by
 unfold kidsN kidOk
 simp only [Bool.and_eq_true, List.all_eq_true, decide_eq_true_eq]
theorem nil_list : (⟨#[]⟩ : ByteArray).toList = [] := by rw [ByteArray.toList_eq]
theorem empty_size {x : ByteArray} (h : ¬ x = ⟨#[]⟩) : 1 ≤ x.size := by
 rcases Nat.eq_zero_or_pos x.size with h0 | h0
 ·
  exfalso
  apply h
  apply bytes_ext
  have : x.data.toList.length = 0 := h0
  rw [List.length_eq_zero_iff.1 this]
 ·
  exact h0
set_option maxHeartbeats 1000000 in
theorem areKeys_any (a : Option Addr) (c n : Nat) (ks : List ByteArray) (w : World) (hn : n = ks.length) (hK : IsS w a c ks) :
  Calls Tryz.prog 199 #[.slice a n c] w fun e w' => e = .returned (.bool (keysN ks)) ∧ Below w.heap.size w w' := by
 have HK : Hid (IsS w a c ks) := hK
 have hm : n ≤ 9223372036854775807 := by rw [hn]; exact hK.size
 have EK : Hid (n = ks.length) := hn
 have hB0 : Below w.heap.size w w := Below.refl _ _
 clear hK hn
 obtain ⟨r, hr⟩ : ∃ r, r = keysN ks := ⟨_, rfl⟩
 have HR : Hid (r = keysN ks) := hr
 rw [← hr]
 clear hr
 go_enter Tryz.func199, Tryz.ntmps199
 go_wp2
 go_loop [7] (fun v => ∃ j : Nat, j ≤ n ∧ v = .int .i64 j ∧ keysTo ks j) (fun v => n - (intOf v).toNat)
 case atStart => exact ⟨0, by omega, rfl, keysTo_zero ks⟩
 case round =>
  obtain ⟨j, hj, rfl, hA⟩ := hrel
  have HA : Hid (keysTo ks j) := hA
  clear hA
  by_cases hlt : j < n
  ·
   have hlt' : (j : Int) < n := by omega
   obtain ⟨x, hx⟩ : ∃ x, Hid (ks[j]? = some x) := ⟨_, List.getElem?_eq_getElem (by rw [← EK.out]; exact hlt)⟩
   obtain ⟨b, o, rfl, hlb, hc, hxs⟩ := HK.out.2.2 j x hx.out
   unfold maxLen at hxs
   by_cases h1 : x = ⟨#[]⟩
   ·
    have h1' : x.toList = [] := by rw [h1]; exact nil_list
    have hF : Hid (r = false) := by show _ = _; rw [HR.out]; exact keysN_key hx.out (by rw [h1]; simp [ByteArray.size])
    clear h1
    go_wp2
    go_ret
    exact ⟨ret_bool hF.out.symm, hB0⟩
   ·
    have h1' : ¬ x.toList = [] := fun h => h1 (toList_inj (h.trans nil_list.symm))
    have h1'' : x.toList.isEmpty = false := by rw [List.isEmpty_eq_false_iff]; exact h1'
    have h1s : Hid (1 ≤ x.size) := empty_size h1
    clear h1
    by_cases h2 : (x.size : Int) ≤ 32
    ·
     by_cases h0 : (0 : Int) < j
     ·
      obtain ⟨i, rfl⟩ : ∃ i, j = i + 1 := ⟨j - 1, by omega⟩
      obtain ⟨p, hp⟩ : ∃ x, Hid (ks[i]? = some x) := ⟨_, List.getElem?_eq_getElem (by rw [← EK.out]; omega)⟩
      obtain ⟨b2, o2, hbo, hlb2, hc2, hps⟩ := HK.out.2.2 i p hp.out
      obtain ⟨rfl, rfl⟩ : b2 = b ∧ o2 = o := by cases hbo; exact ⟨rfl, rfl⟩
      clear hbo hlb hlb2 hps
      have hi0 : ((i + 1 : Nat) : Int) - 1 = i := by omega
      have hin : i < n := by omega
      cases hlt2 : ltB p x with
      | true =>
       have hle : Op.bytesLess p.toList x.toList = true := hlt2
       have hN : Hid (keysTo ks (i + 1 + 1)) := keysTo_next HA.out hp.out hx.out h1s.out (by omega) hlt2
       clear hlt2
       go_wp2
       go_round
       case rel => exact ⟨i + 1 + 1, by omega, by go_num, hN.out⟩
       case measure => simp [intOf]; omega
      | false =>
       have hle : Op.bytesLess p.toList x.toList = false := hlt2
       have hF : Hid (r = false) := by show _ = _; rw [HR.out]; exact keysN_fall hp.out hx.out hlt2
       clear hlt2
       go_wp2
       go_ret
       exact ⟨ret_bool hF.out.symm, hB0⟩
     ·
      obtain rfl : j = 0 := by omega
      rw [Nat.add_zero] at hc
      have hN : Hid (keysTo ks 1) := keysTo_first hx.out h1s.out (by omega)
      go_wp2
      go_round
      case rel => exact ⟨1, by omega, by go_num, hN.out⟩
      case measure => simp [intOf]; omega
    ·
     have hF : Hid (r = false) := by show _ = _; rw [HR.out]; exact keysN_key hx.out (by omega)
     go_wp2
     go_ret
     exact ⟨ret_bool hF.out.symm, hB0⟩
  ·
   obtain rfl : j = n := by omega
   have hT : Hid (r = true) := by show _ = _; rw [HR.out]; exact keysN_all (by rw [← EK.out]; exact HA.out)
   go_wp2
   go_ret
   exact ⟨ret_bool hT.out.symm, hB0⟩
set_option maxHeartbeats 1000000 in
theorem areValues_any (a : Option Addr) (c n : Nat) (vs : List ByteArray) (w : World) (hn : n = vs.length) (hV : IsS w a c vs) :
  Calls Tryz.prog 200 #[.slice a n c] w fun e w' => e = .returned (.bool (valsN vs)) ∧ Below w.heap.size w w' := by
 have HK : Hid (IsS w a c vs) := hV
 have hm : n ≤ 9223372036854775807 := by rw [hn]; exact hV.size
 have EK : Hid (n = vs.length) := hn
 have hB0 : Below w.heap.size w w := Below.refl _ _
 clear hV hn
 obtain ⟨r, hr⟩ : ∃ r, r = valsN vs := ⟨_, rfl⟩
 have HR : Hid (r = valsN vs) := hr
 rw [← hr]
 clear hr
 go_enter Tryz.func200, Tryz.ntmps200
 go_wp2
 go_loop [7] (fun v => ∃ i : Nat, i ≤ n ∧ v = .int .i64 i ∧ allTo (fun v => v.size ≤ 200) vs i) (fun v => n - (intOf v).toNat)
 case atStart => exact ⟨0, by omega, rfl, fun i x hi => by omega⟩
 case round =>
  obtain ⟨i, hi, rfl, hA⟩ := hrel
  have HA : Hid (allTo (fun v => v.size ≤ 200) vs i) := hA
  clear hA
  by_cases hlt : i < n
  ·
   have hlt' : (i : Int) < n := by omega
   obtain ⟨x, hx⟩ : ∃ x, Hid (vs[i]? = some x) := ⟨_, List.getElem?_eq_getElem (by rw [← EK.out]; exact hlt)⟩
   obtain ⟨b, o, rfl, hlb, hc, hxs⟩ := HK.out.2.2 i x hx.out
   unfold maxLen at hxs
   by_cases h2 : (x.size : Int) ≤ 200
   ·
    have hN : Hid (allTo (fun v => v.size ≤ 200) vs (i + 1)) := allTo_next HA.out hx.out (by omega)
    go_wp2
    go_round
    case rel => exact ⟨i + 1, by omega, by go_num, hN.out⟩
    case measure => simp [intOf]; omega
   ·
    have hF : Hid (r = false) := by
     show _ = _
     rw [HR.out, Bool.eq_false_iff]
     exact fun hh => h2 (by have := valsN_iff.1 hh x (List.mem_of_getElem? hx.out); omega)
    go_wp2
    go_ret
    exact ⟨ret_bool hF.out.symm, hB0⟩
  ·
   obtain rfl : i = n := by omega
   have hT : Hid (r = true) := by
    show _ = _
    rw [HR.out]
    exact valsN_iff.2 fun v hm => by obtain ⟨j, hj, e⟩ := idx_of hm; exact HA.out j v (by rw [EK.out]; exact hj) e
   go_wp2
   go_ret
   exact ⟨ret_bool hT.out.symm, hB0⟩
set_option maxHeartbeats 1000000 in
theorem areBlocks_any (a : Option Addr) (c n : Nat) (cs : List Int) (w : World) (hn : n = cs.length) (hC : IsI w a c cs) :
  Calls Tryz.prog 201 #[.slice a n c] w fun e w' => e = .returned (.bool (kidsN cs)) ∧ Below w.heap.size w w' := by
 have HK : Hid (IsI w a c cs) := hC
 have hm : n ≤ 9223372036854775807 := by rw [hn]; exact hC.size
 have EK : Hid (n = cs.length) := hn
 have hB0 : Below w.heap.size w w := Below.refl _ _
 clear hC hn
 obtain ⟨r, hr⟩ : ∃ r, r = kidsN cs := ⟨_, rfl⟩
 have HR : Hid (r = kidsN cs) := hr
 rw [← hr]
 clear hr
 go_enter Tryz.func201, Tryz.ntmps201
 go_wp2
 go_loop [7] (fun v => ∃ i : Nat, i ≤ n ∧ v = .int .i64 i ∧ allTo (fun c => 10 ≤ c ∧ c ≤ 2047) cs i) (fun v => n - (intOf v).toNat)
 case atStart => exact ⟨0, by omega, rfl, fun i x hi => by omega⟩
 case round =>
  obtain ⟨i, hi, rfl, hA⟩ := hrel
  have HA : Hid (allTo (fun c => 10 ≤ c ∧ c ≤ 2047) cs i) := hA
  clear hA
  by_cases hlt : i < n
  ·
   have hlt' : (i : Int) < n := by omega
   obtain ⟨x, hx⟩ : ∃ x, Hid (cs[i]? = some x) := ⟨_, List.getElem?_eq_getElem (by rw [← EK.out]; exact hlt)⟩
   obtain ⟨b, o, rfl, hlb, hc⟩ := HK.out.2.2 i x hx.out
   have hF' : Hid (¬ (10 ≤ x ∧ x ≤ 2047) → r = false) := fun h => by
    rw [HR.out, Bool.eq_false_iff]
    exact fun hh => h (kidsN_iff.1 hh x (List.mem_of_getElem? hx.out))
   by_cases h1 : 10 ≤ x
   ·
    by_cases h2 : x < 2048
    ·
     have hN : Hid (allTo (fun c => 10 ≤ c ∧ c ≤ 2047) cs (i + 1)) := allTo_next HA.out hx.out ⟨h1, by omega⟩
     go_wp2
     go_round
     case rel => exact ⟨i + 1, by omega, by go_num, hN.out⟩
     case measure => simp [intOf]; omega
    ·
     have hF : Hid (r = false) := hF'.out (by omega)
     go_wp2
     go_ret
     exact ⟨ret_bool hF.out.symm, hB0⟩
   ·
    have hF : Hid (r = false) := hF'.out (by omega)
    go_wp2
    go_ret
    exact ⟨ret_bool hF.out.symm, hB0⟩
  ·
   obtain rfl : i = n := by omega
   have hT : Hid (r = true) := by
    show _ = _
    rw [HR.out]
    exact kidsN_iff.2 fun v hm => by obtain ⟨j, hj, e⟩ := idx_of hm; exact HA.out j v (by rw [EK.out]; exact hj) e
   go_wp2
   go_ret
   exact ⟨ret_bool hT.out.symm, hB0⟩
set_option maxHeartbeats 2000000 in
theorem mayStand_any (l : Bool) (a a' a'' : Option Addr) (c c' c'' n n' n'' : Nat) (ks vs : List ByteArray) (cs : List Int) (w : World) (hn : n = ks.length) (hn' : n' = vs.length) (hn'' : n'' = cs.length) (hK : IsS w a c ks) (hV : IsS w a' c' vs) (hC : IsI w a'' c'' cs) :
  Calls Tryz.prog 195 #[.agg #[.bool l, .slice a n c, .slice a' n' c', .slice a'' n'' c'']] w fun e w' => e = .returned (.bool (standsN l ks vs cs)) ∧ Below w.heap.size w w' := by
 have hB0 : Below w.heap.size w (w.alloc (.cells #[.bool l, .slice a n c, .slice a' n' c', .slice a'' n'' c''] 205)) := (Below.refl _ _).alloc (Nat.le_refl _) _
 have hX := box4_new w (.bool l) (.slice a n c) (.slice a' n' c') (.slice a'' n'' c'') 205 rfl
 have cK : ∀ W', Below w.heap.size w W' → Calls Tryz.prog 199 #[.slice a n c] W' fun e w' => e = .returned (.bool (keysN ks)) ∧ Below W'.heap.size W' w' := fun W' h => areKeys_any _ _ _ _ _ hn (hK.below h)
 have cV : ∀ W', Below w.heap.size w W' → Calls Tryz.prog 200 #[.slice a' n' c'] W' fun e w' => e = .returned (.bool (valsN vs)) ∧ Below W'.heap.size W' w' := fun W' h => areValues_any _ _ _ _ _ hn' (hV.below h)
 have cC : ∀ W', Below w.heap.size w W' → Calls Tryz.prog 201 #[.slice a'' n'' c''] W' fun e w' => e = .returned (.bool (kidsN cs)) ∧ Below W'.heap.size W' w' := fun W' h => areBlocks_any _ _ _ _ _ hn'' (hC.below h)
 have hm : n ≤ 9223372036854775807 := by rw [hn]; exact hK.size
 have hm' : n' ≤ 9223372036854775807 := by rw [hn']; exact hV.size
 have hm'' : n'' ≤ 9223372036854775807 := by rw [hn'']; exact hC.size
 obtain ⟨r, hr⟩ : ∃ r, r = standsN l ks vs cs := ⟨_, rfl⟩
 have HR : Hid (r = (decide (n ≤ 9) && keysN ks && valsN vs && kidsN cs && shapeN l n n' n'')) := by show _ = _; rw [hr, hn, hn', hn'']; exact standsN_parts l ks vs cs
 have HV0 : Hid (n' = 0 → valsN vs = true) := fun h => by rw [hn'] at h; rw [List.length_eq_zero_iff.1 h]; rfl
 have HC0 : Hid (n'' = 0 → kidsN cs = true) := fun h => by rw [hn''] at h; rw [List.length_eq_zero_iff.1 h]; rfl
 rw [← hr]
 clear hr hn hn' hn'' hK hV hC
 generalize keysN ks = kk at cK HR
 generalize valsN vs = vv at cV HR HV0
 generalize kidsN cs = cc at cC HR HC0
 by_cases h9 : (n : Int) ≤ 9
 ·
  cases kk with
  | true =>
   cases l with
   | true =>
    by_cases e1 : (n' : Int) = n
    ·
     cases vv with
     | true =>
      have hE : Hid (r = ((n'' : Int) == 0)) := by
       show _ = _
       rw [HR.out]
       by_cases h0 : n'' = 0
       ·
        rw [HC0.out h0, decide_eq_true (by omega), shape_leaf.2 ⟨by omega, h0⟩, h0]; rfl
       ·
        rw [Bool.eq_false_iff.2 (fun h => h0 (shape_leaf.1 h).2 : ¬ shapeN true n n' n'' = true), Bool.and_false, (beq_eq_false_iff_ne.2 (by omega) : ((n'' : Int) == 0) = false)]
      clear HR HV0 HC0
      go_enter Tryz.func195, Tryz.ntmps195
      go_wp2_with (first
       | (go_at_call 199; refine (cK _ hB0).mono ?_; rintro e w1 ⟨rfl, hb⟩; replace hX := hX.below hb; obtain ⟨⟨q0, q1, q2, q3⟩, -⟩ := id hX; replace hB0 := Below.tr hB0 hb; clear hb)
       | (go_at_call 200; refine (cV _ hB0).mono ?_; rintro e w1 ⟨rfl, hb⟩; replace hX := hX.below hb; clear q0 q1 q2 q3; obtain ⟨⟨q0, q1, q2, q3⟩, -⟩ := id hX; replace hB0 := Below.tr hB0 hb; clear hb))
      go_ret
      exact ⟨ret_bool hE.out.symm, hB0⟩
     | false =>
      have hE : Hid (r = false) := by show _ = _; rw [HR.out]; simp
      clear HR HV0 HC0
      go_enter Tryz.func195, Tryz.ntmps195
      go_wp2_with (first
       | (go_at_call 199; refine (cK _ hB0).mono ?_; rintro e w1 ⟨rfl, hb⟩; replace hX := hX.below hb; obtain ⟨⟨q0, q1, q2, q3⟩, -⟩ := id hX; replace hB0 := Below.tr hB0 hb; clear hb)
       | (go_at_call 200; refine (cV _ hB0).mono ?_; rintro e w1 ⟨rfl, hb⟩; replace hX := hX.below hb; clear q0 q1 q2 q3; obtain ⟨⟨q0, q1, q2, q3⟩, -⟩ := id hX; replace hB0 := Below.tr hB0 hb; clear hb))
      go_ret
      exact ⟨ret_bool hE.out.symm, hB0⟩
    ·
     have e1' : ((n' : Int) == n) = false := beq_eq_false_iff_ne.2 e1
     have hE : Hid (r = false) := by
      show _ = _
      rw [HR.out, Bool.eq_false_iff.2 (fun h => e1 (by have := (shape_leaf.1 h).1; omega) : ¬ shapeN true n n' n'' = true), Bool.and_false]
     clear HR HV0 HC0
     go_enter Tryz.func195, Tryz.ntmps195
     go_wp2_with (go_at_call 199; refine (cK _ hB0).mono ?_; rintro e w1 ⟨rfl, hb⟩; replace hX := hX.below hb; obtain ⟨⟨q0, q1, q2, q3⟩, -⟩ := id hX; replace hB0 := Below.tr hB0 hb; clear hb)
     go_ret
     exact ⟨ret_bool hE.out.symm, hB0⟩
   | false =>
    by_cases e1 : (n' : Int) = 0
    ·
     by_cases e2 : (0 : Int) < n
     ·
      by_cases e3 : (n'' : Int) = n + 1
      ·
       have hE : Hid (r = cc) := by
        show _ = _
        rw [HR.out, HV0.out (by omega), decide_eq_true (by omega), shape_inner.2 ⟨by omega, by omega, by omega⟩]; simp
       clear HR HV0 HC0
       go_enter Tryz.func195, Tryz.ntmps195
       go_wp2_with (first
        | (go_at_call 199; refine (cK _ hB0).mono ?_; rintro e w1 ⟨rfl, hb⟩; replace hX := hX.below hb; obtain ⟨⟨q0, q1, q2, q3⟩, -⟩ := id hX; replace hB0 := Below.tr hB0 hb; clear hb)
        | (go_at_call 201; refine (cC _ hB0).mono ?_; rintro e w1 ⟨rfl, hb⟩; replace hB0 := Below.tr hB0 hb; clear hb))
       go_ret
       exact ⟨ret_bool hE.out.symm, hB0⟩
      ·
       have e3' : ((n'' : Int) == n + 1) = false := beq_eq_false_iff_ne.2 e3
       have hE : Hid (r = false) := by
        show _ = _
        rw [HR.out, Bool.eq_false_iff.2 (fun h => e3 (by have := (shape_inner.1 h).2.2; omega) : ¬ shapeN false n n' n'' = true), Bool.and_false]
       clear HR HV0 HC0
       go_enter Tryz.func195, Tryz.ntmps195
       go_wp2_with (go_at_call 199; refine (cK _ hB0).mono ?_; rintro e w1 ⟨rfl, hb⟩; replace hX := hX.below hb; obtain ⟨⟨q0, q1, q2, q3⟩, -⟩ := id hX; replace hB0 := Below.tr hB0 hb; clear hb)
       go_ret
       exact ⟨ret_bool hE.out.symm, hB0⟩
     ·
      have hE : Hid (r = false) := by
       show _ = _
       rw [HR.out, Bool.eq_false_iff.2 (fun h => e2 (by have := (shape_inner.1 h).2.1; omega) : ¬ shapeN false n n' n'' = true), Bool.and_false]
      clear HR HV0 HC0
      go_enter Tryz.func195, Tryz.ntmps195
      go_wp2_with (go_at_call 199; refine (cK _ hB0).mono ?_; rintro e w1 ⟨rfl, hb⟩; replace hX := hX.below hb; obtain ⟨⟨q0, q1, q2, q3⟩, -⟩ := id hX; replace hB0 := Below.tr hB0 hb; clear hb)
      go_ret
      exact ⟨ret_bool hE.out.symm, hB0⟩
    ·
     have e1' : ((n' : Int) == 0) = false := beq_eq_false_iff_ne.2 e1
     have hE : Hid (r = false) := by
      show _ = _
      rw [HR.out, Bool.eq_false_iff.2 (fun h => e1 (by have := (shape_inner.1 h).1; omega) : ¬ shapeN false n n' n'' = true), Bool.and_false]
     clear HR HV0 HC0
     go_enter Tryz.func195, Tryz.ntmps195
     go_wp2_with (go_at_call 199; refine (cK _ hB0).mono ?_; rintro e w1 ⟨rfl, hb⟩; replace hX := hX.below hb; obtain ⟨⟨q0, q1, q2, q3⟩, -⟩ := id hX; replace hB0 := Below.tr hB0 hb; clear hb)
     go_ret
     exact ⟨ret_bool hE.out.symm, hB0⟩
  | false =>
   have hE : Hid (r = false) := by show _ = _; rw [HR.out]; simp
   clear HR HV0 HC0
   go_enter Tryz.func195, Tryz.ntmps195
   go_wp2_with (go_at_call 199; refine (cK _ hB0).mono ?_; rintro e w1 ⟨rfl, hb⟩; replace hX := hX.below hb; obtain ⟨⟨q0, q1, q2, q3⟩, -⟩ := id hX; replace hB0 := Below.tr hB0 hb; clear hb)
   go_ret
   exact ⟨ret_bool hE.out.symm, hB0⟩
 ·
  have hE : Hid (r = false) := by
   show _ = _
   rw [HR.out, decide_eq_false (p := n ≤ 9) (by omega)]; simp
  clear HR HV0 HC0
  go_enter Tryz.func195, Tryz.ntmps195
  go_wp2
  go_ret
  exact ⟨ret_bool hE.out.symm, hB0⟩
set_option maxHeartbeats 1000000 in
theorem nodeRight_any (l : Bool) (a a' a'' : Option Addr) (c c' c'' n n' n'' : Nat) (ks vs : List ByteArray) (cs : List Int) (root : Bool) (w : World) (hn : n = ks.length) (hn' : n' = vs.length) (hn'' : n'' = cs.length) (hK : IsS w a c ks) (hV : IsS w a' c' vs) (hC : IsI w a'' c'' cs) :
  Calls Tryz.prog 193 #[.agg #[.bool l, .slice a n c, .slice a' n' c', .slice a'' n'' c''], .bool root] w fun e w' => e = .returned (.bool (rightN l ks vs cs root)) ∧ Below w.heap.size w w' := by
 have hB0 : Below w.heap.size w (w.alloc (.cells #[.bool l, .slice a n c, .slice a' n' c', .slice a'' n'' c''] 205)) := (Below.refl _ _).alloc (Nat.le_refl _) _
 have hX := box4_new w (.bool l) (.slice a n c) (.slice a' n' c') (.slice a'' n'' c'') 205 rfl
 have cS := mayStand_any l a a' a'' c c' c'' n n' n'' ks vs cs _ hn hn' hn'' (hK.below hB0) (hV.below hB0) (hC.below hB0)
 have hm : n ≤ 9223372036854775807 := by rw [hn]; exact hK.size
 have HE : Hid (rightN l ks vs cs root = (standsN l ks vs cs && decide ((n : Int) ≤ 8) && (root || decide (4 ≤ (n : Int))))) := by
  show _ = _
  rw [hn]; unfold rightN
  congr 1
  ·
   congr 1
   rw [decide_eq_decide]; omega
  ·
   congr 1
   rw [decide_eq_decide]; omega
 clear hn hn' hn'' hK hV hC
 cases hs : standsN l ks vs cs with
 | true =>
  rw [hs] at cS HE
  by_cases h8 : (n : Int) ≤ 8
  ·
   cases root with
   | true =>
    go_enter Tryz.func193, Tryz.ntmps193
    go_wp2_with (go_at_call 195; refine cS.mono ?_; rintro e w1 ⟨rfl, hb⟩; obtain ⟨⟨q0, q1, q2, q3⟩, -⟩ := hX.below hb; have hB1 := Below.tr hB0 hb)
    go_ret
    exact ⟨ret_bool (by rw [HE.out]; simp [h8]), hB1⟩
   | false =>
    go_enter Tryz.func193, Tryz.ntmps193
    go_wp2_with (go_at_call 195; refine cS.mono ?_; rintro e w1 ⟨rfl, hb⟩; obtain ⟨⟨q0, q1, q2, q3⟩, -⟩ := hX.below hb; have hB1 := Below.tr hB0 hb)
    go_ret
    exact ⟨ret_bool (by rw [HE.out]; simp [h8]), hB1⟩
  ·
   go_enter Tryz.func193, Tryz.ntmps193
   go_wp2_with (go_at_call 195; refine cS.mono ?_; rintro e w1 ⟨rfl, hb⟩; obtain ⟨⟨q0, q1, q2, q3⟩, -⟩ := hX.below hb; have hB1 := Below.tr hB0 hb)
   go_ret
   exact ⟨ret_bool (by rw [HE.out, decide_eq_false (p := (n : Int) ≤ 8) (by omega)]; simp), hB1⟩
 | false =>
  rw [hs] at cS HE
  go_enter Tryz.func193, Tryz.ntmps193
  go_wp2_with (go_at_call 195; refine cS.mono ?_; rintro e w1 ⟨rfl, hb⟩; obtain ⟨⟨q0, q1, q2, q3⟩, -⟩ := hX.below hb; have hB1 := Below.tr hB0 hb)
  go_ret
  exact ⟨ret_bool (by rw [HE.out]; simp), hB1⟩
end Go.Proofs.YtaobfgplheoefaaGreat
namespace Go.Proofs.YtaobfgplheoefaaGreat.Plain
open Go.RowKit
set_option linter.unusedVariables false
def leafSt (s : ByteArray) : Nat → Int ⊕ (Int × List ByteArray × List ByteArray)
 | 0 => .inr (1, [], [])
 | j + 1 => match leafSt s j with
  | .inl e => .inl e
  | .inr (p, ks, vs) => if cutE s p = 0 then (if cutE s (cutT s p) = 0 then .inr (cutT s (cutT s p), ks ++ [cutS s p], vs ++ [cutS s (cutT s p)]) else .inl (cutE s (cutT s p))) else .inl (cutE s p)
def innSt (s : ByteArray) : Nat → Int ⊕ (Int × List ByteArray × List Int)
 | 0 => .inr (1, [], [])
 | j + 1 => match innSt s j with
  | .inl e => .inl e
  | .inr (p, ks, cs) => if getE s p 2 = 0 then (if cutE s (getT s p 2) = 0 then .inr (cutT s (getT s p 2), ks ++ [cutS s (getT s p 2)], cs ++ [getR s p 2]) else .inl (cutE s (getT s p 2))) else .inl (getE s p 2)
def leafR (s : ByteArray) : Int ⊕ (Bool × List ByteArray × List ByteArray × List Int) :=
 if getE s 0 1 = 0 then (match leafSt s (getR s 0 1).toNat with
  | .inl e => .inl e
  | .inr (p, ks, vs) => if p = s.size ∧ rightN true ks vs [] true = true then .inr (true, ks, vs, []) else .inl 4) else .inl (getE s 0 1)
def innR (s : ByteArray) : Int ⊕ (Bool × List ByteArray × List ByteArray × List Int) :=
 if getE s 0 1 = 0 then (match innSt s (getR s 0 1).toNat with
  | .inl e => .inl e
  | .inr (p, ks, cs) => if getE s p 2 = 0 then (if getT s p 2 = s.size ∧ rightN false ks [] (cs ++ [getR s p 2]) true = true then .inr (false, ks, [], cs ++ [getR s p 2]) else .inl 4) else .inl (getE s p 2)) else .inl (getE s 0 1)
def nodeR (kind : Int) (s : ByteArray) : Int ⊕ (Bool × List ByteArray × List ByteArray × List Int) := if kind = 1 then leafR s else if kind = 2 then innR s else .inl 81
theorem get_num {s : ByteArray} {p k : Nat} (h : getE s p k = 0) : getR s p k = getV s p k ∧ getT s p k = ((p + k : Nat) : Int) ∧ p + k ≤ s.size ∧ 1 ≤ k ∧ k ≤ 6 := by
 obtain ⟨h1, h2, h3, h4⟩ := getE_ok h
 refine ⟨?_, ?_, by omega, by omega, by omega⟩
 ·
  unfold getR; rw [if_pos h]; simp
 ·
  unfold getT; rw [if_pos h]; omega
end Go.Proofs.YtaobfgplheoefaaGreat.Plain
namespace Go.Proofs.YtaobfgplheoefaaGreat
open Go.RowKit Plain Anylast
set_option linter.unusedVariables false
theorem rd_leafSt (s : ByteArray) (j : Nat) : match leafSt s j with
  | .inl e => (rdLeaf s 1 0 j).e = e ∧ e ≠ 0
  | .inr (p, ks, vs) => rdLeaf s 1 0 j = ⟨p, 0, ks, vs⟩ := by
 induction j with
 | zero => rfl
 | succ j ih =>
  rw [leafSt]
  cases h : leafSt s j with
  | inl e =>
   rw [h] at ih
   obtain ⟨h1, h2⟩ := ih
   simp only [rdLeaf, h1]
   refine ⟨?_, h2⟩
   unfold rdE
   rw [if_neg h2, if_neg h2]
  | inr x =>
   obtain ⟨p, ks, vs⟩ := x
   rw [h] at ih
   simp only at ih ⊢
   simp only [rdLeaf, ih]
   unfold rdE rdP rdS
   simp only [if_true]
   by_cases c1 : cutE s p = 0
   ·
    simp only [c1, if_true]
    by_cases c2 : cutE s (cutT s p) = 0
    ·
     simp only [c2, if_true]
    ·
     rw [if_neg c2]
     exact ⟨rfl, c2⟩
   ·
    rw [if_neg c1]
    simp only [if_neg c1]
    exact ⟨trivial, c1⟩
theorem rd_innSt (s : ByteArray) (j : Nat) : match innSt s j with
  | .inl e => (rdInn s 1 0 j).e = e ∧ e ≠ 0
  | .inr (p, ks, cs) => rdInn s 1 0 j = ⟨getT s p 2, getE s p 2, ks, cs ++ [getR s p 2]⟩ := by
 induction j with
 | zero => rfl
 | succ j ih =>
  rw [innSt]
  cases h : innSt s j with
  | inl e =>
   rw [h] at ih
   obtain ⟨h1, h2⟩ := ih
   simp only [rdInn, h1]
   refine ⟨?_, h2⟩
   unfold rnE rdE
   rw [if_neg h2, if_neg h2]
  | inr x =>
   obtain ⟨p, ks, cs⟩ := x
   rw [h] at ih
   simp only at ih ⊢
   simp only [rdInn, ih]
   by_cases c1 : getE s p 2 = 0
   ·
    rw [if_pos c1]
    by_cases c2 : cutE s (getT s p 2) = 0
    ·
     rw [if_pos c2]
     simp only [rdE, rdP, rdS, rnE, rnP, rnR, c1, c2, if_true]
    ·
     rw [if_neg c2]
     simp only [rdE, rdP, rnE, c1, if_true, if_neg c2]
     exact ⟨trivial, c2⟩
   ·
    rw [if_neg c1]
    simp only [rdE, rdP, rnE, if_neg c1]
    exact ⟨trivial, c1⟩
theorem rn_one {s : ByteArray} (h : getE s 0 1 = 0) : rnP s 0 0 1 = 1 ∧ rnE s 0 0 1 = 0 ∧ rnR s 0 0 1 = getR s 0 1 := by
 unfold rnP rnE rnR
 rw [if_pos rfl, if_pos rfl, if_pos rfl, h]
 have h' : getE s ((0 : Nat) : Int) ((1 : Nat) : Int) = 0 := h
 exact ⟨(get_num h').2.1, rfl, rfl⟩
theorem rn_bad {s : ByteArray} (h : ¬ getE s 0 1 = 0) : rnE s 0 0 1 = getE s 0 1 ∧ rnR s 0 0 1 = 0 := by
 unfold rnE rnR
 rw [if_pos rfl, if_pos rfl]
 exact ⟨rfl, by unfold getR; rw [if_neg h]⟩
theorem rn_count (s : ByteArray) : ∃ c : Nat, rnR s 0 0 1 = c ∧ c ≤ 255 := by
 by_cases h : getE s 0 1 = 0
 ·
  rw [(rn_one h).2.2]
  have h' : getE s ((0 : Nat) : Int) ((1 : Nat) : Int) = 0 := h
  have a : getR s 0 1 = getV s 0 1 := (get_num h').1
  have b := getV_bd s 0 1
  have c : pw 1 = 256 := by decide
  exact ⟨(getR s 0 1).toNat, by omega, by omega⟩
 ·
  rw [(rn_bad h).2]
  exact ⟨0, rfl, by omega⟩
def endL (s : ByteArray) : RdL := rdLeaf s (rnP s 0 0 1) (rnE s 0 0 1) (rnR s 0 0 1).toNat
def endI (s : ByteArray) : RdI := rdInn s (rnP s 0 0 1) (rnE s 0 0 1) (rnR s 0 0 1).toNat
theorem leafR_end (s : ByteArray) : leafR s = if (endL s).e = 0 then (if (endL s).p = s.size ∧ rightN true (endL s).ks (endL s).vs [] true = true then .inr (true, (endL s).ks, (endL s).vs, []) else .inl 4) else .inl (endL s).e := by
 by_cases h : getE s 0 1 = 0
 ·
  obtain ⟨e1, e2, e3⟩ := rn_one h
  have hE : endL s = rdLeaf s 1 0 (getR s 0 1).toNat := by unfold endL; rw [e1, e2, e3]
  have k := rd_leafSt s (getR s 0 1).toNat
  rw [← hE] at k
  unfold leafR
  rw [if_pos h]
  cases hl : leafSt s (getR s 0 1).toNat with
  | inl e =>
   rw [hl] at k
   obtain ⟨k1, k2⟩ := k
   rw [k1, if_neg k2]
  | inr x =>
   obtain ⟨p, ks, vs⟩ := x
   rw [hl] at k
   simp only at k
   rw [k]
   simp only [if_true]
 ·
  obtain ⟨e1, e2⟩ := rn_bad h
  have hE : (endL s).e = getE s 0 1 := by unfold endL; rw [e2]; exact e1
  unfold leafR
  rw [if_neg h, hE, if_neg h]
theorem innR_end (s : ByteArray) : innR s = if (endI s).e = 0 then (if (endI s).p = s.size ∧ rightN false (endI s).ks [] (endI s).cs true = true then .inr (false, (endI s).ks, [], (endI s).cs) else .inl 4) else .inl (endI s).e := by
 by_cases h : getE s 0 1 = 0
 ·
  obtain ⟨e1, e2, e3⟩ := rn_one h
  have hE : endI s = rdInn s 1 0 (getR s 0 1).toNat := by unfold endI; rw [e1, e2, e3]
  have k := rd_innSt s (getR s 0 1).toNat
  rw [← hE] at k
  unfold innR
  rw [if_pos h]
  cases hl : innSt s (getR s 0 1).toNat with
  | inl e =>
   rw [hl] at k
   obtain ⟨k1, k2⟩ := k
   rw [k1, if_neg k2]
  | inr x =>
   obtain ⟨p, ks, vs⟩ := x
   rw [hl] at k
   simp only at k
   rw [k]
 ·
  obtain ⟨e1, e2⟩ := rn_bad h
  have hE : (endI s).e = getE s 0 1 := by
   unfold endI
   rw [e2]
   show rnE s _ (rnE s 0 0 1) 2 = _
   rw [e1]
   unfold rnE
   rw [if_neg h]
  unfold innR
  rw [if_neg h, hE, if_neg h]
set_option maxRecDepth 20000 in
set_option maxHeartbeats 1000000 in
theorem rnodeL_any (r : Nat) (s : ByteArray) (w : World) (b : Box3 w r (.string s) (.int .i64 0) (.int .i64 0)) (hs : s.size ≤ maxLen) :
  Calls Tryz.prog 194 #[.pointer (some ⟨r, 0, none⟩), .int .i64 1] w fun x w' => ∃ n a d n' a' d' n'' a'' d'', x = .returned (.agg #[.bool true, .slice a n d, .slice a' n' d', .slice a'' n'' d'']) ∧ n = (endL s).ks.length ∧ n' = (endL s).vs.length ∧ n'' = ([] : List Int).length ∧
   IsS w' a d (endL s).ks ∧ IsS w' a' d' (endL s).vs ∧ IsI w' a'' d'' [] ∧ From w.heap.size a ∧ From w.heap.size a' ∧ From w.heap.size a'' ∧ Box3 w' r (.string s) (.int .i64 (endL s).p) (.int .i64 (endL s).e) ∧ Turns (fun k => k = r) w w' := by
 have hrw : r < w.heap.size := b.lt
 obtain ⟨W0, hW0⟩ : ∃ W0, W0 = w.alloc (.cells #[.bool false, .slice none 0 0, .slice none 0 0, .slice none 0 0] 205) := ⟨_, rfl⟩
 have b00 : Box4 W0 w.heap.size (.bool false) (.slice none 0 0) (.slice none 0 0) (.slice none 0 0) := by rw [hW0]; exact box4_new _ _ _ _ _ _ rfl
 have hB00 : Below w.heap.size w W0 := by rw [hW0]; exact (Below.refl _ _).alloc (Nat.le_refl _) _
 obtain ⟨V1, b1, t1, hsz, c1⟩ := rnumber_any r s 0 0 1 W0 (b.below hB00) hs
 obtain ⟨c, hc, hc2⟩ := rn_count s
 have hE : endL s = rdLeaf s (rnP s 0 0 1) (rnE s 0 0 1) c := by unfold endL; rw [hc]; rfl
 rw [hc] at c1
 have c2 := rleaf_any r c s (rnP s 0 0 1) (rnE s 0 0 1) V1 b1 hs hc2
 rw [← hE] at c2
 obtain ⟨l1, l2⟩ := rdLeaf_len s (rnP s 0 0 1) (rnE s 0 0 1) c
 rw [← hE] at l1 l2
 have b01 := b00.turns t1 (by omega)
 have hwV : w.heap.size < V1.heap.size := b01.lt
 have T1 : Turns (fun k => k = r ∨ w.heap.size ≤ k) w V1 := (Turns.of_below hB00).trans (t1.mono fun k hk => .inl hk)
 have L1 : Hid ((endL s).ks.length = c) := l1
 have L2 : Hid ((endL s).vs.length = c) := l2
 clear hE hc b b1 b00 hsz t1 l1 l2
 generalize endL s = R at *
 go_enter Tryz.func194, Tryz.ntmps194
 go_wp2_with (first
  | (go_at_call 196; rw [← hW0]; refine c1.mono ?_; rintro y w1 ⟨rfl, hw1⟩; have hw1' := hw1.symm; subst hw1'; clear hw1)
  | (go_at_call 197; refine c2.mono ?_; rintro y w2 ⟨a, d, a', d', rfl, i1, i2, j1, j2, b2, t2⟩; have I1 : Hid (IsS w2 a d R.ks) := i1; have I2 : Hid (IsS w2 a' d' R.vs) := i2; have B2 : Hid (Box3 w2 r (.string s) (.int .i64 R.p) (.int .i64 R.e)) := b2; have T2 : Hid (Turns (fun k => k = r) V1 w2) := t2; have J1 : Hid (From V1.heap.size a) := j1; have J2 : Hid (From V1.heap.size a') := j2; obtain ⟨⟨r0, r1, r2, r3⟩, g0, g1, g2, g3⟩ := b01.turns t2 (by omega); clear i1 i2 b2 t2 j1 j2))
 have T4 := turns_put4 w2 w.heap.size (.bool true) (.slice a c d) (.slice a' c d') (.slice none 0 0)
 refine bodyPost_ret (v := .agg #[.bool true, .slice a c d, .slice a' c d', .slice none 0 0]) (by simp [results, Tryz.results194, go_sem, r0, r1, r2, r3]) rfl ⟨c, a, d, c, a', d', 0, none, 0, rfl, L1.out.symm, L2.out.symm, rfl, I1.out.turns T4 (fun x hx e => by have := J1.out x hx; omega), I2.out.turns T4 (fun x hx e => by have := J2.out x hx; omega), isI_nil _, J1.out.mono (by omega), J2.out.mono (by omega), from_nil _, B2.out.turns T4 (by omega), ?_⟩
 exact ((T1.trans (T2.out.mono fun k hk => .inl hk)).trans (T4.mono fun k hk => .inr (by omega))).mono' fun k hk hh => by rcases hh with h | h <;> omega
set_option maxRecDepth 20000 in
set_option maxHeartbeats 1000000 in
theorem rnodeI_any (r : Nat) (s : ByteArray) (w : World) (b : Box3 w r (.string s) (.int .i64 0) (.int .i64 0)) (hs : s.size ≤ maxLen) :
  Calls Tryz.prog 194 #[.pointer (some ⟨r, 0, none⟩), .int .i64 2] w fun x w' => ∃ n a d n' a' d' n'' a'' d'', x = .returned (.agg #[.bool false, .slice a n d, .slice a' n' d', .slice a'' n'' d'']) ∧ n = (endI s).ks.length ∧ n' = ([] : List ByteArray).length ∧ n'' = (endI s).cs.length ∧
   IsS w' a d (endI s).ks ∧ IsS w' a' d' [] ∧ IsI w' a'' d'' (endI s).cs ∧ From w.heap.size a ∧ From w.heap.size a' ∧ From w.heap.size a'' ∧ Box3 w' r (.string s) (.int .i64 (endI s).p) (.int .i64 (endI s).e) ∧ Turns (fun k => k = r) w w' := by
 have hrw : r < w.heap.size := b.lt
 obtain ⟨W0, hW0⟩ : ∃ W0, W0 = w.alloc (.cells #[.bool false, .slice none 0 0, .slice none 0 0, .slice none 0 0] 205) := ⟨_, rfl⟩
 have b00 : Box4 W0 w.heap.size (.bool false) (.slice none 0 0) (.slice none 0 0) (.slice none 0 0) := by rw [hW0]; exact box4_new _ _ _ _ _ _ rfl
 have hB00 : Below w.heap.size w W0 := by rw [hW0]; exact (Below.refl _ _).alloc (Nat.le_refl _) _
 obtain ⟨V1, b1, t1, hsz, c1⟩ := rnumber_any r s 0 0 1 W0 (b.below hB00) hs
 obtain ⟨c, hc, hc2⟩ := rn_count s
 have hE : endI s = rdInn s (rnP s 0 0 1) (rnE s 0 0 1) c := by unfold endI; rw [hc]; rfl
 rw [hc] at c1
 have c2 := rinner_any r c s (rnP s 0 0 1) (rnE s 0 0 1) V1 b1 hs hc2
 rw [← hE] at c2
 obtain ⟨l1, l2⟩ := rdInn_len s (rnP s 0 0 1) (rnE s 0 0 1) c
 rw [← hE] at l1 l2
 have b01 := b00.turns t1 (by omega)
 have hwV : w.heap.size < V1.heap.size := b01.lt
 have T1 : Turns (fun k => k = r ∨ w.heap.size ≤ k) w V1 := (Turns.of_below hB00).trans (t1.mono fun k hk => .inl hk)
 have L1 : Hid ((endI s).ks.length = c) := l1
 have L2 : Hid ((endI s).cs.length = c + 1) := l2
 clear hE hc b b1 b00 hsz t1 l1 l2
 generalize endI s = R at *
 go_enter Tryz.func194, Tryz.ntmps194
 go_wp2_with (first
  | (go_at_call 196; rw [← hW0]; refine c1.mono ?_; rintro y w1 ⟨rfl, hw1⟩; have hw1' := hw1.symm; subst hw1'; clear hw1)
  | (go_at_call 198; refine c2.mono ?_; rintro y w2 ⟨a, d, a'', d'', rfl, i1, i2, j1, j2, b2, t2⟩; have I1 : Hid (IsS w2 a d R.ks) := i1; have I2 : Hid (IsI w2 a'' d'' R.cs) := i2; have B2 : Hid (Box3 w2 r (.string s) (.int .i64 R.p) (.int .i64 R.e)) := b2; have T2 : Hid (Turns (fun k => k = r) V1 w2) := t2; have J1 : Hid (From V1.heap.size a) := j1; have J2 : Hid (From V1.heap.size a'') := j2; obtain ⟨⟨r0, r1, r2, r3⟩, g0, g1, g2, g3⟩ := b01.turns t2 (by omega); clear i1 i2 b2 t2 j1 j2))
 have T4 := turns_put4 w2 w.heap.size (.bool false) (.slice a c d) (.slice none 0 0) (.slice a'' (c + 1) d'')
 refine bodyPost_ret (v := .agg #[.bool false, .slice a c d, .slice none 0 0, .slice a'' (c + 1) d'']) (by simp [results, Tryz.results194, go_sem, r0, r1, r2, r3]) rfl ⟨c, a, d, 0, none, 0, c + 1, a'', d'', rfl, L1.out.symm, rfl, L2.out.symm, I1.out.turns T4 (fun x hx e => by have := J1.out x hx; omega), isS_nil _, I2.out.turns T4 (fun x hx e => by have := J2.out x hx; omega), J1.out.mono (by omega), from_nil _, J2.out.mono (by omega), B2.out.turns T4 (by omega), ?_⟩
 exact ((T1.trans (T2.out.mono fun k hk => .inl hk)).trans (T4.mono fun k hk => .inr (by omega))).mono' fun k hk hh => by rcases hh with h | h <;> omega
def gE (kind : Int) (s : ByteArray) : Int := match nodeR kind s with | .inl e => e | .inr _ => 0
def gN (kind : Int) (s : ByteArray) : Bool × List ByteArray × List ByteArray × List Int := match nodeR kind s with | .inl _ => (false, [], [], []) | .inr x => x
theorem g_inl {kind e : Int} {s : ByteArray} (h : nodeR kind s = .inl e) : gE kind s = e ∧ gN kind s = (false, [], [], []) := by unfold gE gN; rw [h]; exact ⟨rfl, rfl⟩
theorem g_inr {kind : Int} {s : ByteArray} {x : Bool × List ByteArray × List ByteArray × List Int} (h : nodeR kind s = .inr x) : gE kind s = 0 ∧ gN kind s = x := by unfold gE gN; rw [h]; exact ⟨rfl, rfl⟩
def Answers (w : World) (x : Ending) (w' : World) (l : Bool) (ks vs : List ByteArray) (cs : List Int) (E : Int) : Prop :=
 ∃ n a d n' a' d' n'' a'' d'', x = .returned (.tuple #[.agg #[.bool l, .slice a n d, .slice a' n' d', .slice a'' n'' d''], .int .i64 E]) ∧ n = ks.length ∧ n' = vs.length ∧ n'' = cs.length ∧
  IsS w' a d ks ∧ IsS w' a' d' vs ∧ IsI w' a'' d'' cs ∧ From w.heap.size a ∧ From w.heap.size a' ∧ From w.heap.size a'' ∧ Below w.heap.size w w'
theorem answers_none {w w' : World} {E : Int} (hb : Below w.heap.size w w') : Answers w (.returned (.tuple #[.agg #[.bool false, .slice none 0 0, .slice none 0 0, .slice none 0 0], .int .i64 E])) w' false [] [] [] E :=
 ⟨0, none, 0, 0, none, 0, 0, none, 0, rfl, rfl, rfl, rfl, isS_nil _, isS_nil _, isI_nil _, from_nil _, from_nil _, from_nil _, hb⟩
set_option maxRecDepth 20000 in
set_option maxHeartbeats 4000000 in
theorem nodeGet_core (kind : Int) (s : ByteArray) (w : World) (hs : s.size ≤ maxLen) (hk : kind = 1 ∨ kind = 2) (l : Bool) (ks vs : List ByteArray) (cs : List Int) (P E : Int)
  (cN : ∀ V r, Box3 V r (.string s) (.int .i64 0) (.int .i64 0) → Calls Tryz.prog 194 #[.pointer (some ⟨r, 0, none⟩), .int .i64 kind] V fun x w' => ∃ n a d n' a' d' n'' a'' d'', x = .returned (.agg #[.bool l, .slice a n d, .slice a' n' d', .slice a'' n'' d'']) ∧ n = ks.length ∧ n' = vs.length ∧ n'' = cs.length ∧
   IsS w' a d ks ∧ IsS w' a' d' vs ∧ IsI w' a'' d'' cs ∧ From V.heap.size a ∧ From V.heap.size a' ∧ From V.heap.size a'' ∧ Box3 w' r (.string s) (.int .i64 P) (.int .i64 E) ∧ Turns (fun k => k = r) V w') :
  Calls Tryz.prog 192 #[.int .i64 kind, .string s] w fun x w' => if E = 0 then (if P = s.size ∧ rightN l ks vs cs true = true then Answers w x w' l ks vs cs 0 else Answers w x w' false [] [] [] 4) else Answers w x w' false [] [] [] E := by
 obtain ⟨W, hW⟩ : ∃ W, W = (w.alloc (.cells #[.bool false, .slice none 0 0, .slice none 0 0, .slice none 0 0] 205)).alloc (.cells #[.string s, .int .i64 0, .int .i64 0] 252) := ⟨_, rfl⟩
 have b0 : Box4 W w.heap.size (.bool false) (.slice none 0 0) (.slice none 0 0) (.slice none 0 0) := by rw [hW]; exact (box4_new _ _ _ _ _ _ rfl).alloc _
 have bR : Box3 W (w.heap.size + 1) (.string s) (.int .i64 0) (.int .i64 0) := by
  rw [hW]
  have := box3_new (w.alloc (.cells #[.bool false, .slice none 0 0, .slice none 0 0, .slice none 0 0] 205)) (.string s) (.int .i64 0) (.int .i64 0) 252
  simpa using this
 have hB0 : Below w.heap.size w W := by rw [hW]; exact ((Below.refl _ _).alloc (Nat.le_refl _) _).alloc (by simp) _
 have hz : w.heap.size + 2 ≤ W.heap.size := by rw [hW]; simp
 replace cN := cN W (w.heap.size + 1) bR
 have hm : s.size ≤ 9223372036854775807 := hs
 clear bR hs
 have hle : w.heap.size ≤ w.heap.size := Nat.le_refl _
 by_cases hE : E = 0
 ·
  subst hE
  simp only [if_true]
  by_cases hP : P = s.size
  ·
   subst hP
   have hP' : ((s.size : Int) != s.size) = false := by simp
   have cR : ∀ V a d a' d' a'' d'', IsS V a d ks → IsS V a' d' vs → IsI V a'' d'' cs → Calls Tryz.prog 193 #[.agg #[.bool l, .slice a ks.length d, .slice a' vs.length d', .slice a'' cs.length d''], .bool true] V fun e w' => e = .returned (.bool (rightN l ks vs cs true)) ∧ Below V.heap.size V w' := fun V a d a' d' a'' d'' h1 h2 h3 => nodeRight_any _ _ _ _ _ _ _ _ _ _ _ _ _ true _ rfl rfl rfl h1 h2 h3
   cases hr : rightN l ks vs cs true with
   | true =>
    rw [hr] at cR
    simp only [and_self, if_true]
    clear hr
    rcases hk with rfl | rfl
    ·
     go_enter Tryz.func192, Tryz.ntmps192
     go_wp2_with (first
      | (go_at_call 194; rw [← hW]; refine cN.mono ?_; rintro y w2 ⟨n, a, d, n', a', d', n'', a'', d'', rfl, rfl, rfl, rfl, i1, i2, i3, j1, j2, j3, b2, t2⟩; have b02 := b0.turns t2 (by omega); obtain ⟨⟨p0, p1, p2⟩, -⟩ := id b2; have p1' := cell_alloc p1; have p2' := cell_alloc p2; have zz := fun o => b02.alloc o; have z0 := fun o => (zz o).1.1; have z1 := fun o => (zz o).1.2.1; have z2 := fun o => (zz o).1.2.2.1; have z3 := fun o => (zz o).1.2.2.2; have y0 := fun o => (zz o).2.1; have y1 := fun o => (zz o).2.2.1; have y2 := fun o => (zz o).2.2.2.1; have y3 := fun o => (zz o).2.2.2.2; have B2 : Hid (Below w.heap.size w w2) := Below.turns hB0 t2 (fun k hk => by omega); have I1 : Hid (IsS w2 a d ks) := i1; have I2 : Hid (IsS w2 a' d' vs) := i2; have I3 : Hid (IsI w2 a'' d'' cs) := i3; have J1 : Hid (From W.heap.size a) := j1; have J2 : Hid (From W.heap.size a') := j2; have J3 : Hid (From W.heap.size a'') := j3; have hz2 : Hid (W.heap.size ≤ w2.heap.size) := t2.size; clear i1 i2 i3 j1 j2 j3 b2 t2 p0 p1 p2 zz b02)
      | (go_at_call 193; have hA2 : Below w2.heap.size w2 (w2.alloc (.cells #[.bool l, .slice a ks.length d, .slice a' vs.length d', .slice a'' cs.length d''] 205)) := (Below.refl _ _).alloc (Nat.le_refl _) _; refine (cR _ a d a' d' a'' d'' (I1.out.below hA2) (I2.out.below hA2) (I3.out.below hA2)).mono ?_; rintro y w3 ⟨rfl, hb⟩; have b7 := (box4_new w2 (.bool l) (.slice a ks.length d) (.slice a' vs.length d') (.slice a'' cs.length d'') 205 rfl).below hb; have bO := (Box4.below (h := w.heap.size) (v0 := .bool false) (v1 := .slice none 0 0) (v2 := .slice none 0 0) (v3 := .slice none 0 0) ⟨⟨z0 _, z1 _, z2 _, z3 _⟩, y0 _, y1 _, y2 _, y3 _⟩ hb); have B3 : Hid (Below w.heap.size w w3) := Below.tr (Below.tr B2.out hA2) hb; replace I1 : Hid (IsS w3 a d ks) := (I1.out.below hA2).below hb; replace I2 : Hid (IsS w3 a' d' vs) := (I2.out.below hA2).below hb; replace I3 : Hid (IsI w3 a'' d'' cs) := (I3.out.below hA2).below hb; clear hb hA2 z0 z1 z2 z3 y0 y1 y2 y3 p1' p2'; obtain ⟨⟨m0, m1, m2, m3⟩, -⟩ := b7; obtain ⟨⟨r0, r1, r2, r3⟩, g0, g1, g2, g3⟩ := bO))
     have T4 := turns_put4 w3 w.heap.size (.bool l) (.slice a ks.length d) (.slice a' vs.length d') (.slice a'' cs.length d'')
     refine bodyPost_ret (v := .tuple #[.agg #[.bool l, .slice a ks.length d, .slice a' vs.length d', .slice a'' cs.length d''], .int .i64 0]) (by simp [results, Tryz.results192, go_sem, r0, r1, r2, r3]) rfl ⟨_, a, d, _, a', d', _, a'', d'', rfl, rfl, rfl, rfl, I1.out.turns T4 (fun x hx e => by have := J1.out x hx; omega), I2.out.turns T4 (fun x hx e => by have := J2.out x hx; omega), I3.out.turns T4 (fun x hx e => by have := J3.out x hx; omega), J1.out.mono (by omega), J2.out.mono (by omega), J3.out.mono (by omega), Below.turns B3.out T4 (fun k hk => by omega)⟩
    ·
     go_enter Tryz.func192, Tryz.ntmps192
     go_wp2_with (first
      | (go_at_call 194; rw [← hW]; refine cN.mono ?_; rintro y w2 ⟨n, a, d, n', a', d', n'', a'', d'', rfl, rfl, rfl, rfl, i1, i2, i3, j1, j2, j3, b2, t2⟩; have b02 := b0.turns t2 (by omega); obtain ⟨⟨p0, p1, p2⟩, -⟩ := id b2; have p1' := cell_alloc p1; have p2' := cell_alloc p2; have zz := fun o => b02.alloc o; have z0 := fun o => (zz o).1.1; have z1 := fun o => (zz o).1.2.1; have z2 := fun o => (zz o).1.2.2.1; have z3 := fun o => (zz o).1.2.2.2; have y0 := fun o => (zz o).2.1; have y1 := fun o => (zz o).2.2.1; have y2 := fun o => (zz o).2.2.2.1; have y3 := fun o => (zz o).2.2.2.2; have B2 : Hid (Below w.heap.size w w2) := Below.turns hB0 t2 (fun k hk => by omega); have I1 : Hid (IsS w2 a d ks) := i1; have I2 : Hid (IsS w2 a' d' vs) := i2; have I3 : Hid (IsI w2 a'' d'' cs) := i3; have J1 : Hid (From W.heap.size a) := j1; have J2 : Hid (From W.heap.size a') := j2; have J3 : Hid (From W.heap.size a'') := j3; have hz2 : Hid (W.heap.size ≤ w2.heap.size) := t2.size; clear i1 i2 i3 j1 j2 j3 b2 t2 p0 p1 p2 zz b02)
      | (go_at_call 193; have hA2 : Below w2.heap.size w2 (w2.alloc (.cells #[.bool l, .slice a ks.length d, .slice a' vs.length d', .slice a'' cs.length d''] 205)) := (Below.refl _ _).alloc (Nat.le_refl _) _; refine (cR _ a d a' d' a'' d'' (I1.out.below hA2) (I2.out.below hA2) (I3.out.below hA2)).mono ?_; rintro y w3 ⟨rfl, hb⟩; have b7 := (box4_new w2 (.bool l) (.slice a ks.length d) (.slice a' vs.length d') (.slice a'' cs.length d'') 205 rfl).below hb; have bO := (Box4.below (h := w.heap.size) (v0 := .bool false) (v1 := .slice none 0 0) (v2 := .slice none 0 0) (v3 := .slice none 0 0) ⟨⟨z0 _, z1 _, z2 _, z3 _⟩, y0 _, y1 _, y2 _, y3 _⟩ hb); have B3 : Hid (Below w.heap.size w w3) := Below.tr (Below.tr B2.out hA2) hb; replace I1 : Hid (IsS w3 a d ks) := (I1.out.below hA2).below hb; replace I2 : Hid (IsS w3 a' d' vs) := (I2.out.below hA2).below hb; replace I3 : Hid (IsI w3 a'' d'' cs) := (I3.out.below hA2).below hb; clear hb hA2 z0 z1 z2 z3 y0 y1 y2 y3 p1' p2'; obtain ⟨⟨m0, m1, m2, m3⟩, -⟩ := b7; obtain ⟨⟨r0, r1, r2, r3⟩, g0, g1, g2, g3⟩ := bO))
     have T4 := turns_put4 w3 w.heap.size (.bool l) (.slice a ks.length d) (.slice a' vs.length d') (.slice a'' cs.length d'')
     refine bodyPost_ret (v := .tuple #[.agg #[.bool l, .slice a ks.length d, .slice a' vs.length d', .slice a'' cs.length d''], .int .i64 0]) (by simp [results, Tryz.results192, go_sem, r0, r1, r2, r3]) rfl ⟨_, a, d, _, a', d', _, a'', d'', rfl, rfl, rfl, rfl, I1.out.turns T4 (fun x hx e => by have := J1.out x hx; omega), I2.out.turns T4 (fun x hx e => by have := J2.out x hx; omega), I3.out.turns T4 (fun x hx e => by have := J3.out x hx; omega), J1.out.mono (by omega), J2.out.mono (by omega), J3.out.mono (by omega), Below.turns B3.out T4 (fun k hk => by omega)⟩
   | false =>
    rw [hr] at cR
    simp only [and_false, if_false, Bool.false_eq_true]
    clear hr
    rcases hk with rfl | rfl
    ·
     go_enter Tryz.func192, Tryz.ntmps192
     go_wp2_with (first
      | (go_at_call 194; rw [← hW]; refine cN.mono ?_; rintro y w2 ⟨n, a, d, n', a', d', n'', a'', d'', rfl, rfl, rfl, rfl, i1, i2, i3, j1, j2, j3, b2, t2⟩; have b02 := b0.turns t2 (by omega); obtain ⟨⟨p0, p1, p2⟩, -⟩ := id b2; have p1' := cell_alloc p1; have p2' := cell_alloc p2; have zz := fun o => b02.alloc o; have z0 := fun o => (zz o).1.1; have z1 := fun o => (zz o).1.2.1; have z2 := fun o => (zz o).1.2.2.1; have z3 := fun o => (zz o).1.2.2.2; have y0 := fun o => (zz o).2.1; have y1 := fun o => (zz o).2.2.1; have y2 := fun o => (zz o).2.2.2.1; have y3 := fun o => (zz o).2.2.2.2; have B2 : Hid (Below w.heap.size w w2) := Below.turns hB0 t2 (fun k hk => by omega); have I1 : Hid (IsS w2 a d ks) := i1; have I2 : Hid (IsS w2 a' d' vs) := i2; have I3 : Hid (IsI w2 a'' d'' cs) := i3; have J1 : Hid (From W.heap.size a) := j1; have J2 : Hid (From W.heap.size a') := j2; have J3 : Hid (From W.heap.size a'') := j3; have hz2 : Hid (W.heap.size ≤ w2.heap.size) := t2.size; clear i1 i2 i3 j1 j2 j3 b2 t2 p0 p1 p2 zz b02)
      | (go_at_call 193; have hA2 : Below w2.heap.size w2 (w2.alloc (.cells #[.bool l, .slice a ks.length d, .slice a' vs.length d', .slice a'' cs.length d''] 205)) := (Below.refl _ _).alloc (Nat.le_refl _) _; refine (cR _ a d a' d' a'' d'' (I1.out.below hA2) (I2.out.below hA2) (I3.out.below hA2)).mono ?_; rintro y w3 ⟨rfl, hb⟩; have b7 := (box4_new w2 (.bool l) (.slice a ks.length d) (.slice a' vs.length d') (.slice a'' cs.length d'') 205 rfl).below hb; have bO := (Box4.below (h := w.heap.size) (v0 := .bool false) (v1 := .slice none 0 0) (v2 := .slice none 0 0) (v3 := .slice none 0 0) ⟨⟨z0 _, z1 _, z2 _, z3 _⟩, y0 _, y1 _, y2 _, y3 _⟩ hb); have B3 : Hid (Below w.heap.size w w3) := Below.tr (Below.tr B2.out hA2) hb; replace I1 : Hid (IsS w3 a d ks) := (I1.out.below hA2).below hb; replace I2 : Hid (IsS w3 a' d' vs) := (I2.out.below hA2).below hb; replace I3 : Hid (IsI w3 a'' d'' cs) := (I3.out.below hA2).below hb; clear hb hA2 z0 z1 z2 z3 y0 y1 y2 y3 p1' p2'; obtain ⟨⟨m0, m1, m2, m3⟩, -⟩ := b7; obtain ⟨⟨r0, r1, r2, r3⟩, g0, g1, g2, g3⟩ := bO))
     have T4 := turns_put4 w3 w.heap.size (.bool false) (.slice none 0 0) (.slice none 0 0) (.slice none 0 0)
     refine bodyPost_ret (v := .tuple #[.agg #[.bool false, .slice none 0 0, .slice none 0 0, .slice none 0 0], .int .i64 4]) (by simp [results, Tryz.results192, go_sem, r0, r1, r2, r3]) rfl (answers_none (Below.turns B3.out T4 (fun k hk => by omega)))
    ·
     go_enter Tryz.func192, Tryz.ntmps192
     go_wp2_with (first
      | (go_at_call 194; rw [← hW]; refine cN.mono ?_; rintro y w2 ⟨n, a, d, n', a', d', n'', a'', d'', rfl, rfl, rfl, rfl, i1, i2, i3, j1, j2, j3, b2, t2⟩; have b02 := b0.turns t2 (by omega); obtain ⟨⟨p0, p1, p2⟩, -⟩ := id b2; have p1' := cell_alloc p1; have p2' := cell_alloc p2; have zz := fun o => b02.alloc o; have z0 := fun o => (zz o).1.1; have z1 := fun o => (zz o).1.2.1; have z2 := fun o => (zz o).1.2.2.1; have z3 := fun o => (zz o).1.2.2.2; have y0 := fun o => (zz o).2.1; have y1 := fun o => (zz o).2.2.1; have y2 := fun o => (zz o).2.2.2.1; have y3 := fun o => (zz o).2.2.2.2; have B2 : Hid (Below w.heap.size w w2) := Below.turns hB0 t2 (fun k hk => by omega); have I1 : Hid (IsS w2 a d ks) := i1; have I2 : Hid (IsS w2 a' d' vs) := i2; have I3 : Hid (IsI w2 a'' d'' cs) := i3; have J1 : Hid (From W.heap.size a) := j1; have J2 : Hid (From W.heap.size a') := j2; have J3 : Hid (From W.heap.size a'') := j3; have hz2 : Hid (W.heap.size ≤ w2.heap.size) := t2.size; clear i1 i2 i3 j1 j2 j3 b2 t2 p0 p1 p2 zz b02)
      | (go_at_call 193; have hA2 : Below w2.heap.size w2 (w2.alloc (.cells #[.bool l, .slice a ks.length d, .slice a' vs.length d', .slice a'' cs.length d''] 205)) := (Below.refl _ _).alloc (Nat.le_refl _) _; refine (cR _ a d a' d' a'' d'' (I1.out.below hA2) (I2.out.below hA2) (I3.out.below hA2)).mono ?_; rintro y w3 ⟨rfl, hb⟩; have b7 := (box4_new w2 (.bool l) (.slice a ks.length d) (.slice a' vs.length d') (.slice a'' cs.length d'') 205 rfl).below hb; have bO := (Box4.below (h := w.heap.size) (v0 := .bool false) (v1 := .slice none 0 0) (v2 := .slice none 0 0) (v3 := .slice none 0 0) ⟨⟨z0 _, z1 _, z2 _, z3 _⟩, y0 _, y1 _, y2 _, y3 _⟩ hb); have B3 : Hid (Below w.heap.size w w3) := Below.tr (Below.tr B2.out hA2) hb; replace I1 : Hid (IsS w3 a d ks) := (I1.out.below hA2).below hb; replace I2 : Hid (IsS w3 a' d' vs) := (I2.out.below hA2).below hb; replace I3 : Hid (IsI w3 a'' d'' cs) := (I3.out.below hA2).below hb; clear hb hA2 z0 z1 z2 z3 y0 y1 y2 y3 p1' p2'; obtain ⟨⟨m0, m1, m2, m3⟩, -⟩ := b7; obtain ⟨⟨r0, r1, r2, r3⟩, g0, g1, g2, g3⟩ := bO))
     have T4 := turns_put4 w3 w.heap.size (.bool false) (.slice none 0 0) (.slice none 0 0) (.slice none 0 0)
     refine bodyPost_ret (v := .tuple #[.agg #[.bool false, .slice none 0 0, .slice none 0 0, .slice none 0 0], .int .i64 4]) (by simp [results, Tryz.results192, go_sem, r0, r1, r2, r3]) rfl (answers_none (Below.turns B3.out T4 (fun k hk => by omega)))
  ·
   have hP' : (P != (s.size : Int)) = true := by simpa using hP
   simp only [hP, false_and, if_false]
   rcases hk with rfl | rfl
   ·
    go_enter Tryz.func192, Tryz.ntmps192
    go_wp2_with (first
     | (go_at_call 194; rw [← hW]; refine cN.mono ?_; rintro y w2 ⟨n, a, d, n', a', d', n'', a'', d'', rfl, rfl, rfl, rfl, i1, i2, i3, j1, j2, j3, b2, t2⟩; have b02 := b0.turns t2 (by omega); obtain ⟨⟨p0, p1, p2⟩, -⟩ := id b2; have p1' := cell_alloc p1; have p2' := cell_alloc p2; have zz := fun o => b02.alloc o; have z0 := fun o => (zz o).1.1; have z1 := fun o => (zz o).1.2.1; have z2 := fun o => (zz o).1.2.2.1; have z3 := fun o => (zz o).1.2.2.2; have y0 := fun o => (zz o).2.1; have y1 := fun o => (zz o).2.2.1; have y2 := fun o => (zz o).2.2.2.1; have y3 := fun o => (zz o).2.2.2.2; have B2 : Hid (Below w.heap.size w w2) := Below.turns hB0 t2 (fun k hk => by omega); have I1 : Hid (IsS w2 a d ks) := i1; have I2 : Hid (IsS w2 a' d' vs) := i2; have I3 : Hid (IsI w2 a'' d'' cs) := i3; have J1 : Hid (From W.heap.size a) := j1; have J2 : Hid (From W.heap.size a') := j2; have J3 : Hid (From W.heap.size a'') := j3; have hz2 : Hid (W.heap.size ≤ w2.heap.size) := t2.size; clear i1 i2 i3 j1 j2 j3 b2 t2 p0 p1 p2 zz b02))
    have hA2 : Below w2.heap.size w2 (w2.alloc (.cells #[.bool l, .slice a ks.length d, .slice a' vs.length d', .slice a'' cs.length d''] 205)) := (Below.refl _ _).alloc (Nat.le_refl _) _
    have T4 := turns_put4 (w2.alloc (.cells #[.bool l, .slice a ks.length d, .slice a' vs.length d', .slice a'' cs.length d''] 205)) w.heap.size (.bool false) (.slice none 0 0) (.slice none 0 0) (.slice none 0 0)
    refine bodyPost_ret (v := .tuple #[.agg #[.bool false, .slice none 0 0, .slice none 0 0, .slice none 0 0], .int .i64 4]) (by simp [results, Tryz.results192, go_sem, z0, z1, z2, z3]) rfl (answers_none (Below.turns (Below.tr B2.out hA2) T4 (fun k hk => by omega)))
   ·
    go_enter Tryz.func192, Tryz.ntmps192
    go_wp2_with (first
     | (go_at_call 194; rw [← hW]; refine cN.mono ?_; rintro y w2 ⟨n, a, d, n', a', d', n'', a'', d'', rfl, rfl, rfl, rfl, i1, i2, i3, j1, j2, j3, b2, t2⟩; have b02 := b0.turns t2 (by omega); obtain ⟨⟨p0, p1, p2⟩, -⟩ := id b2; have p1' := cell_alloc p1; have p2' := cell_alloc p2; have zz := fun o => b02.alloc o; have z0 := fun o => (zz o).1.1; have z1 := fun o => (zz o).1.2.1; have z2 := fun o => (zz o).1.2.2.1; have z3 := fun o => (zz o).1.2.2.2; have y0 := fun o => (zz o).2.1; have y1 := fun o => (zz o).2.2.1; have y2 := fun o => (zz o).2.2.2.1; have y3 := fun o => (zz o).2.2.2.2; have B2 : Hid (Below w.heap.size w w2) := Below.turns hB0 t2 (fun k hk => by omega); have I1 : Hid (IsS w2 a d ks) := i1; have I2 : Hid (IsS w2 a' d' vs) := i2; have I3 : Hid (IsI w2 a'' d'' cs) := i3; have J1 : Hid (From W.heap.size a) := j1; have J2 : Hid (From W.heap.size a') := j2; have J3 : Hid (From W.heap.size a'') := j3; have hz2 : Hid (W.heap.size ≤ w2.heap.size) := t2.size; clear i1 i2 i3 j1 j2 j3 b2 t2 p0 p1 p2 zz b02))
    have hA2 : Below w2.heap.size w2 (w2.alloc (.cells #[.bool l, .slice a ks.length d, .slice a' vs.length d', .slice a'' cs.length d''] 205)) := (Below.refl _ _).alloc (Nat.le_refl _) _
    have T4 := turns_put4 (w2.alloc (.cells #[.bool l, .slice a ks.length d, .slice a' vs.length d', .slice a'' cs.length d''] 205)) w.heap.size (.bool false) (.slice none 0 0) (.slice none 0 0) (.slice none 0 0)
    refine bodyPost_ret (v := .tuple #[.agg #[.bool false, .slice none 0 0, .slice none 0 0, .slice none 0 0], .int .i64 4]) (by simp [results, Tryz.results192, go_sem, z0, z1, z2, z3]) rfl (answers_none (Below.turns (Below.tr B2.out hA2) T4 (fun k hk => by omega)))
 ·
  have hE' : (E != 0) = true := by simpa using hE
  simp only [hE, if_false]
  rcases hk with rfl | rfl
  ·
   go_enter Tryz.func192, Tryz.ntmps192
   go_wp2_with (first
    | (go_at_call 194; rw [← hW]; refine cN.mono ?_; rintro y w2 ⟨n, a, d, n', a', d', n'', a'', d'', rfl, rfl, rfl, rfl, i1, i2, i3, j1, j2, j3, b2, t2⟩; have b02 := b0.turns t2 (by omega); obtain ⟨⟨p0, p1, p2⟩, -⟩ := id b2; have p1' := cell_alloc p1; have p2' := cell_alloc p2; have zz := fun o => b02.alloc o; have z0 := fun o => (zz o).1.1; have z1 := fun o => (zz o).1.2.1; have z2 := fun o => (zz o).1.2.2.1; have z3 := fun o => (zz o).1.2.2.2; have y0 := fun o => (zz o).2.1; have y1 := fun o => (zz o).2.2.1; have y2 := fun o => (zz o).2.2.2.1; have y3 := fun o => (zz o).2.2.2.2; have B2 : Hid (Below w.heap.size w w2) := Below.turns hB0 t2 (fun k hk => by omega); have I1 : Hid (IsS w2 a d ks) := i1; have I2 : Hid (IsS w2 a' d' vs) := i2; have I3 : Hid (IsI w2 a'' d'' cs) := i3; have J1 : Hid (From W.heap.size a) := j1; have J2 : Hid (From W.heap.size a') := j2; have J3 : Hid (From W.heap.size a'') := j3; have hz2 : Hid (W.heap.size ≤ w2.heap.size) := t2.size; clear i1 i2 i3 j1 j2 j3 b2 t2 p0 p1 p2 zz b02))
   go_region
   go_wp2
   have hA2 : Below w2.heap.size w2 (w2.alloc (.cells #[.bool l, .slice a ks.length d, .slice a' vs.length d', .slice a'' cs.length d''] 205)) := (Below.refl _ _).alloc (Nat.le_refl _) _
   have T4 := turns_put4 (w2.alloc (.cells #[.bool l, .slice a ks.length d, .slice a' vs.length d', .slice a'' cs.length d''] 205)) w.heap.size (.bool false) (.slice none 0 0) (.slice none 0 0) (.slice none 0 0)
   refine bodyPost_ret (v := .tuple #[.agg #[.bool false, .slice none 0 0, .slice none 0 0, .slice none 0 0], .int .i64 E]) (by simp [results, Tryz.results192, go_sem, z0, z1, z2, z3]) rfl (answers_none (Below.turns (Below.tr B2.out hA2) T4 (fun k hk => by omega)).drew)
  ·
   go_enter Tryz.func192, Tryz.ntmps192
   go_wp2_with (first
    | (go_at_call 194; rw [← hW]; refine cN.mono ?_; rintro y w2 ⟨n, a, d, n', a', d', n'', a'', d'', rfl, rfl, rfl, rfl, i1, i2, i3, j1, j2, j3, b2, t2⟩; have b02 := b0.turns t2 (by omega); obtain ⟨⟨p0, p1, p2⟩, -⟩ := id b2; have p1' := cell_alloc p1; have p2' := cell_alloc p2; have zz := fun o => b02.alloc o; have z0 := fun o => (zz o).1.1; have z1 := fun o => (zz o).1.2.1; have z2 := fun o => (zz o).1.2.2.1; have z3 := fun o => (zz o).1.2.2.2; have y0 := fun o => (zz o).2.1; have y1 := fun o => (zz o).2.2.1; have y2 := fun o => (zz o).2.2.2.1; have y3 := fun o => (zz o).2.2.2.2; have B2 : Hid (Below w.heap.size w w2) := Below.turns hB0 t2 (fun k hk => by omega); have I1 : Hid (IsS w2 a d ks) := i1; have I2 : Hid (IsS w2 a' d' vs) := i2; have I3 : Hid (IsI w2 a'' d'' cs) := i3; have J1 : Hid (From W.heap.size a) := j1; have J2 : Hid (From W.heap.size a') := j2; have J3 : Hid (From W.heap.size a'') := j3; have hz2 : Hid (W.heap.size ≤ w2.heap.size) := t2.size; clear i1 i2 i3 j1 j2 j3 b2 t2 p0 p1 p2 zz b02))
   go_region
   go_wp2
   have hA2 : Below w2.heap.size w2 (w2.alloc (.cells #[.bool l, .slice a ks.length d, .slice a' vs.length d', .slice a'' cs.length d''] 205)) := (Below.refl _ _).alloc (Nat.le_refl _) _
   have T4 := turns_put4 (w2.alloc (.cells #[.bool l, .slice a ks.length d, .slice a' vs.length d', .slice a'' cs.length d''] 205)) w.heap.size (.bool false) (.slice none 0 0) (.slice none 0 0) (.slice none 0 0)
   refine bodyPost_ret (v := .tuple #[.agg #[.bool false, .slice none 0 0, .slice none 0 0, .slice none 0 0], .int .i64 E]) (by simp [results, Tryz.results192, go_sem, z0, z1, z2, z3]) rfl (answers_none (Below.turns (Below.tr B2.out hA2) T4 (fun k hk => by omega)).drew)
set_option maxHeartbeats 1000000 in
theorem nodeGet_kind (kind : Int) (s : ByteArray) (w : World) (h1 : kind ≠ 1) (h2 : kind ≠ 2) :
  Calls Tryz.prog 192 #[.int .i64 kind, .string s] w fun x w' => Answers w x w' false [] [] [] 81 := by
 have k1 : (kind != 1) = true := by simpa using h1
 have k2 : (kind != 2) = true := by simpa using h2
 have b0 := box4_new w (.bool false) (.slice none 0 0) (.slice none 0 0) (.slice none 0 0) 205 rfl
 have hB0 : Below w.heap.size w (w.alloc (.cells #[.bool false, .slice none 0 0, .slice none 0 0, .slice none 0 0] 205)) := (Below.refl _ _).alloc (Nat.le_refl _) _
 have hle : w.heap.size ≤ w.heap.size := Nat.le_refl _
 obtain ⟨⟨z0, z1, z2, z3⟩, y0, y1, y2, y3⟩ := id b0
 go_enter Tryz.func192, Tryz.ntmps192
 go_wp2
 refine bodyPost_ret (v := .tuple #[.agg #[.bool false, .slice none 0 0, .slice none 0 0, .slice none 0 0], .int .i64 81]) (by simp [results, Tryz.results192, go_sem, z0, z1, z2, z3]) rfl (answers_none ?_)
 exact hB0
theorem nodeGet_any (kind : Int) (s : ByteArray) (w : World) (hs : s.size ≤ maxLen) :
  Calls Tryz.prog 192 #[.int .i64 kind, .string s] w fun x w' => Answers w x w' (gN kind s).1 (gN kind s).2.1 (gN kind s).2.2.1 (gN kind s).2.2.2 (gE kind s) := by
 by_cases h1 : kind = 1
 ·
  have hR : nodeR kind s = leafR s := by unfold nodeR; rw [if_pos h1]
  rw [leafR_end] at hR
  refine (nodeGet_core kind s w hs (.inl h1) true (endL s).ks (endL s).vs [] (endL s).p (endL s).e (fun V r b => by rw [h1]; exact rnodeL_any r s V b hs)).mono fun x w' h => ?_
  by_cases e0 : (endL s).e = 0
  ·
   rw [if_pos e0] at h hR
   by_cases e1 : (endL s).p = s.size ∧ rightN true (endL s).ks (endL s).vs [] true = true
   ·
    rw [if_pos e1] at h hR
    obtain ⟨g1, g2⟩ := g_inr hR
    rw [g1, g2]; exact h
   ·
    rw [if_neg e1] at h hR
    obtain ⟨g1, g2⟩ := g_inl hR
    rw [g1, g2]; exact h
  ·
   rw [if_neg e0] at h hR
   obtain ⟨g1, g2⟩ := g_inl hR
   rw [g1, g2]; exact h
 ·
  by_cases h2 : kind = 2
  ·
   have hR : nodeR kind s = innR s := by unfold nodeR; rw [if_neg h1, if_pos h2]
   rw [innR_end] at hR
   refine (nodeGet_core kind s w hs (.inr h2) false (endI s).ks [] (endI s).cs (endI s).p (endI s).e (fun V r b => by rw [h2]; exact rnodeI_any r s V b hs)).mono fun x w' h => ?_
   by_cases e0 : (endI s).e = 0
   ·
    rw [if_pos e0] at h hR
    by_cases e1 : (endI s).p = s.size ∧ rightN false (endI s).ks [] (endI s).cs true = true
    ·
     rw [if_pos e1] at h hR
     obtain ⟨g1, g2⟩ := g_inr hR
     rw [g1, g2]; exact h
    ·
     rw [if_neg e1] at h hR
     obtain ⟨g1, g2⟩ := g_inl hR
     rw [g1, g2]; exact h
   ·
    rw [if_neg e0] at h hR
    obtain ⟨g1, g2⟩ := g_inl hR
    rw [g1, g2]; exact h
  ·
   have hR : nodeR kind s = .inl 81 := by unfold nodeR; rw [if_neg h1, if_neg h2]
   obtain ⟨g1, g2⟩ := g_inl hR
   rw [g1, g2]
   exact nodeGet_kind kind s w h1 h2
end Go.Proofs.YtaobfgplheoefaaGreat
namespace Go.Proofs.YtaobfgplheoefaaGreat
open Go.RowKit Plain
set_option linter.unusedVariables false
end Go.Proofs.YtaobfgplheoefaaGreat
namespace Go.Proofs.YtaobfgplheoefaaGreat
open Go.RowKit Plain Anylast
set_option linter.unusedVariables false
end Go.Proofs.YtaobfgplheoefaaGreat
namespace Go.Proofs.YtaobfgplheoefaaGreat
open Go.RowKit Plain
set_option linter.unusedVariables false
end Go.Proofs.YtaobfgplheoefaaGreat
namespace Go.Proofs.YtaobfgplheoefaaGreat
namespace Plain
def rightW (bs ns : List Bool) (ps : List ByteArray) (root gen : Int) : Bool :=
 rightA bs ns && decide (ps.length = ns.length) && decide (1 ≤ gen) && decide (gen ≤ 1099511627776) && ps.all (fun s => decide (s.size ≤ 4096)) && (decide (root = 0) || (decide (10 ≤ root) && decide (root < ns.length)))
end Plain
open Go.RowKit Plain
set_option linter.unusedVariables false
theorem readB_few (s : ByteArray) : (readB s).size ≤ 4096 := by
 unfold readB
 by_cases h : readE s = 0
 ·
  rw [if_pos h]
  have hs : s.size ≤ 4096 := by
   by_cases hs : s.size ≤ 4096
   ·
    exact hs
   ·
    rw [readE, if_neg hs] at h; omega
  unfold fB
  rw [ByteArray.size_extract, fullS_size hs]
  omega
 ·
  rw [if_neg h]
  exact Nat.zero_le _
def pageN (s : ByteArray) (gen : Int) (root : Bool) : Option NodeS :=
 if readE s = 0 ∧ readG s ≤ gen ∧ gE (readK s) (readB s) = 0 ∧ rightN (gN (readK s) (readB s)).1 (gN (readK s) (readB s)).2.1 (gN (readK s) (readB s)).2.2.1 (gN (readK s) (readB s)).2.2.2 root = true then some (gN (readK s) (readB s)) else none
def holdsS (ns : List Bool) (ps : List ByteArray) (gen : Int) (block : Int) (root : Bool) : Option NodeS :=
 if 10 ≤ block ∧ block < ns.length ∧ block < ps.length ∧ ns.getD block.toNat false = true then pageN (ps.getD block.toNat ⟨#[]⟩) gen root else none
end Go.Proofs.YtaobfgplheoefaaGreat
namespace Go.Proofs.YtaobfgplheoefaaGreat
open Go.RowKit Plain
set_option linter.unusedVariables false
theorem all_more {α : Type} {f : α → Bool} {xs : List α} {j : Nat} {x : α} (hx : xs[j]? = some x) : (xs.take (j + 1)).all f = ((xs.take j).all f && f x) := by
 rw [List.take_add_one, hx]
 simp
theorem holds_right {ns : List Bool} {ps : List ByteArray} {gen block : Int} {rt : Bool} {nd : NodeS} (h : holdsS ns ps gen block rt = some nd) : rightN nd.1 nd.2.1 nd.2.2.1 nd.2.2.2 rt = true := by
 unfold holdsS at h
 split at h
 ·
  unfold pageN at h
  split at h
  ·
   rename_i hh
   cases h
   exact hh.2.2.2
  ·
   cases h
 ·
  cases h
theorem holds_len {ns : List Bool} {ps : List ByteArray} {gen : Int} : ∀ b r (nd : NodeS), holdsS ns ps gen b r = some nd → nd.2.1.length ≤ 9 ∧ nd.2.2.2.length ≤ 10 ∧ (nd.1 = true → nd.2.2.1.length = nd.2.1.length) ∧ (nd.1 = false → nd.2.2.2.length = nd.2.1.length + 1) := by
 intro b r nd h
 obtain ⟨l, ks, vs, cs⟩ := nd
 have hs : standsN l ks vs cs = true := (rightN_iff.1 (holds_right h)).1
 obtain ⟨h9, _, _, _, _, hsh⟩ := standsN_iff.1 hs
 cases l with
 | true =>
  have := shape_leaf.1 hsh
  refine ⟨h9, ?_, fun _ => ?_, fun e => Bool.noConfusion e⟩
  ·
   show cs.length ≤ 10; omega
  ·
   show vs.length = ks.length; omega
 | false =>
  have := shape_inner.1 hsh
  refine ⟨h9, ?_, fun e => Bool.noConfusion e, fun _ => ?_⟩
  ·
   show cs.length ≤ 10; omega
  ·
   show cs.length = ks.length + 1; omega
def treeS (ns : List Bool) (ps : List ByteArray) (root gen : Int) : TreeS := if root = 0 then TreeS.none else belowS (holdsS ns ps gen) 8 TreeS.none root ⟨#[]⟩ ⟨#[]⟩
set_option maxRecDepth 20000 in
theorem haveRoom_any (b : Option Addr) (p f : Nat) (ps : List ByteArray) (w : World) (hp : p = ps.length) (hP : IsS w b f ps) :
  Calls Tryz.prog 105 #[.slice b p f] w fun e w' => e = .returned (.bool (ps.all fun s => decide (s.size ≤ 4096))) ∧ Below w.heap.size w w' := by
 have mp : p ≤ 9223372036854775807 := by rw [hp]; exact Nat.le_trans hP.1 hP.2.1
 have EP : Hid (p = ps.length) := hp
 have RP : Hid (IsS w b f ps) := hP
 have HB : Below w.heap.size w w := Below.refl _ _
 obtain ⟨r, hr⟩ : ∃ r, Hid (r = ps.all fun s => decide (s.size ≤ 4096)) := ⟨_, rfl⟩
 rw [← hr.out]
 clear hp hP
 go_enter Tryz.func105, Tryz.ntmps105
 go_wp2
 go_loop [7] (fun v => ∃ j : Nat, j ≤ p ∧ v = .int .i64 j ∧ (ps.take j).all (fun s => decide (s.size ≤ 4096)) = true) (fun v => p - (intOf v).toNat)
 case atStart => exact ⟨0, by omega, rfl, rfl⟩
 case round =>
  obtain ⟨j, hj, rfl, hA⟩ := hrel
  have HA : Hid ((ps.take j).all (fun s => decide (s.size ≤ 4096)) = true) := hA
  clear hA
  by_cases hlt : j < p
  ·
   have hlt' : (j : Int) < p := by omega
   obtain ⟨s, hs⟩ : ∃ x, Hid (ps[j]? = some x) := get_some (by rw [← EP.out]; exact hlt)
   obtain ⟨b1, o1, rfl, -, hc, hss⟩ := RP.out.2.2 j s hs.out
   by_cases hsz : s.size ≤ 4096
   ·
    have hsz' : ¬ (4096 : Int) < s.size := by omega
    go_wp2
    go_round
    case rel => exact ⟨j + 1, by omega, by go_num, by rw [all_more hs.out, HA.out, decide_eq_true hsz]; rfl⟩
    case measure => simp [intOf]; omega
   ·
    have hsz' : (4096 : Int) < s.size := by omega
    have hrf : Hid (r = false) := by
     show _ = _
     rw [hr.out, List.all_eq_false.2 ⟨s, List.mem_of_getElem? hs.out, by simpa using hsz⟩]
    go_wp2
    go_ret
    exact ⟨by rw [hrf.out]; rfl, HB⟩
  ·
   obtain rfl : p = j := by omega
   have hj0 : ¬ (p : Int) < p := by omega
   have hall : Hid (r = true) := by
    show _ = _
    have := HA.out
    rw [EP.out, List.take_length] at this
    rw [hr.out]
    exact this
   go_wp2
   go_ret
   exact ⟨by rw [hall.out]; rfl, HB⟩
set_option maxRecDepth 20000 in
theorem behind_any (a a' b : Option Addr) (n c n' c' p f : Nat) (root gen block : Int) (w : World) (mn : n' ≤ 9223372036854775807) :
  Calls Tryz.prog 106 #[.agg #[.slice a n c, .slice a' n' c', .slice b p f, .int .i64 root, .int .i64 gen], .int .i64 block] w fun e w' => e = .returned (.bool (decide (10 ≤ block) && decide (block < (n' : Int)))) ∧ Below w.heap.size w w' := by
 have HB : Below w.heap.size w (w.alloc (.cells #[.slice a n c, .slice a' n' c', .slice b p f, .int .i64 root, .int .i64 gen] 40)) := (Below.refl _ _).alloc (Nat.le_refl _) _
 have BW := woodBox_new w (.slice a n c) (.slice a' n' c') (.slice b p f) (.int .i64 root) (.int .i64 gen) 40 rfl
 obtain ⟨x0, x1, x2, x3, x4⟩ := BW
 obtain ⟨r, hr⟩ : ∃ r, r = (decide (10 ≤ block) && decide (block < (n' : Int))) := ⟨_, rfl⟩
 rw [← hr]
 by_cases h1 : 10 ≤ block
 ·
  have hr' : Hid (r = decide (block < (n' : Int))) := by show _ = _; rw [hr, decide_eq_true h1]; rfl
  clear hr
  go_enter Tryz.func106, Tryz.ntmps106
  go_wp2
  go_ret
  exact ⟨by rw [hr'.out]; rfl, HB⟩
 ·
  have hr' : Hid (r = false) := by show _ = _; rw [hr, decide_eq_false h1]; rfl
  have h1' : ¬ 10 ≤ block := h1
  clear hr
  go_enter Tryz.func106, Tryz.ntmps106
  go_wp2
  go_ret
  exact ⟨by rw [hr'.out]; rfl, HB⟩
set_option maxRecDepth 20000 in
set_option maxHeartbeats 2000000 in
theorem lookRight_any (a a' b : Option Addr) (n c n' c' p f : Nat) (bs ns : List Bool) (ps : List ByteArray) (root gen : Int) (w : World) (hn : n = bs.length) (hn' : n' = ns.length) (hp : p = ps.length) (hB : IsB w a c bs) (hB' : IsB w a' c' ns) (hP : IsS w b f ps) :
  Calls Tryz.prog 56 #[.agg #[.slice a n c, .slice a' n' c', .slice b p f, .int .i64 root, .int .i64 gen]] w fun e w' => e = .returned (.bool (rightW bs ns ps root gen)) ∧ Below w.heap.size w w' := by
 obtain ⟨W, hW⟩ : ∃ W, W = w.alloc (.cells #[.slice a n c, .slice a' n' c', .slice b p f, .int .i64 root, .int .i64 gen] 40) := ⟨_, rfl⟩
 have HB : Below w.heap.size w W := by rw [hW]; exact (Below.refl _ _).alloc (Nat.le_refl _) _
 have BW : WoodBox W w.heap.size (.slice a n c) (.slice a' n' c') (.slice b p f) (.int .i64 root) (.int .i64 gen) := by rw [hW]; exact woodBox_new _ _ _ _ _ _ _ rfl
 have cA := allocRight_any a a' c c' n n' bs ns W hn hn' (hB.below HB) (hB'.below HB)
 have cH0 : ∀ V, Below w.heap.size w V → Calls Tryz.prog 105 #[.slice b p f] V fun e w' => e = .returned (.bool (ps.all fun s => decide (s.size ≤ 4096))) ∧ Below V.heap.size V w' := fun V hV => haveRoom_any b p f ps V hp (hP.below hV)
 have mn : n' ≤ 9223372036854775807 := by rw [hn']; exact Nat.le_trans hB'.1 hB'.2.1
 have mp : p ≤ 9223372036854775807 := by rw [hp]; exact Nat.le_trans hP.1 hP.2.1
 have cB0 : ∀ V, Calls Tryz.prog 106 #[.agg #[.slice a n c, .slice a' n' c', .slice b p f, .int .i64 root, .int .i64 gen], .int .i64 root] V fun e w' => e = .returned (.bool (decide (10 ≤ root) && decide (root < (n' : Int)))) ∧ Below V.heap.size V w' := fun V => behind_any a a' b n c n' c' p f root gen root V mn
 obtain ⟨r, hr⟩ : ∃ r, r = rightW bs ns ps root gen := ⟨_, rfl⟩
 rw [← hr]
 unfold rightW at hr
 rw [← hp, ← hn'] at hr
 obtain ⟨rA, hA⟩ : ∃ x, x = rightA bs ns := ⟨_, rfl⟩
 obtain ⟨rH, hH⟩ : ∃ x, x = ps.all fun s => decide (s.size ≤ 4096) := ⟨_, rfl⟩
 obtain ⟨rB, hBB⟩ : ∃ x, x = (decide (10 ≤ root) && decide (root < (n' : Int))) := ⟨_, rfl⟩
 rw [← hA] at hr cA
 rw [← hH, ← hBB] at hr
 obtain ⟨x0, x1, x2, x3, x4⟩ := id (hW ▸ BW)
 have cH : ∀ V, Below w.heap.size w V → Calls Tryz.prog 105 #[.slice b p f] V fun e w' => e = .returned (.bool rH) ∧ Below V.heap.size V w' := fun V hV => by rw [hH]; exact cH0 V hV
 have cB : ∀ V, Calls Tryz.prog 106 #[.agg #[.slice a n c, .slice a' n' c', .slice b p f, .int .i64 root, .int .i64 gen], .int .i64 root] V fun e w' => e = .returned (.bool rB) ∧ Below V.heap.size V w' := fun V => by rw [hBB]; exact cB0 V
 clear hn hn' hp hB hB' hP cH0 cB0 hA hH hBB
 cases rA with
 | false =>
  have hrf : Hid (r = false) := by show _ = _; rw [hr]; simp
  clear hr
  go_enter Tryz.func56, Tryz.ntmps56
  go_wp2_with (first
   | (go_at_call 61; rw [← hW]; refine cA.mono ?_; rintro y w1 ⟨rfl, hb⟩; replace HB := Below.tr HB hb; replace BW := BW.below hb; clear x0 x1 x2 x3 x4; obtain ⟨x0, x1, x2, x3, x4⟩ := id BW; clear hb)
   | (go_at_call 105; refine (cH _ HB).mono ?_; rintro y w2 ⟨rfl, hb⟩; replace HB := Below.tr HB hb; replace BW := BW.below hb; clear x0 x1 x2 x3 x4; obtain ⟨x0, x1, x2, x3, x4⟩ := id BW; clear hb)
   | (go_at_call 106; refine (cB _).mono ?_; rintro y w3 ⟨rfl, hb⟩; replace HB := Below.tr HB hb; replace BW := BW.below hb; clear x0 x1 x2 x3 x4; obtain ⟨x0, x1, x2, x3, x4⟩ := id BW; clear hb))
  go_ret
  exact ⟨by rw [hrf.out]; rfl, HB⟩
 | true =>
  by_cases h1 : p = n'
  ·
   have h1' : ((p : Int) == n') = true := by simp [h1]
   replace hr : r = (decide (1 ≤ gen) && decide (gen ≤ 1099511627776) && rH && (decide (root = 0) || rB)) := by rw [hr, decide_eq_true h1]; simp
   clear h1
   cases rH with
   | false =>
    have hrf : Hid (r = false) := by show _ = _; rw [hr]; simp
    clear hr
    go_enter Tryz.func56, Tryz.ntmps56
    go_wp2_with (first
     | (go_at_call 61; rw [← hW]; refine cA.mono ?_; rintro y w1 ⟨rfl, hb⟩; replace HB := Below.tr HB hb; replace BW := BW.below hb; clear x0 x1 x2 x3 x4; obtain ⟨x0, x1, x2, x3, x4⟩ := id BW; clear hb)
     | (go_at_call 105; refine (cH _ HB).mono ?_; rintro y w2 ⟨rfl, hb⟩; replace HB := Below.tr HB hb; replace BW := BW.below hb; clear x0 x1 x2 x3 x4; obtain ⟨x0, x1, x2, x3, x4⟩ := id BW; clear hb)
     | (go_at_call 106; refine (cB _).mono ?_; rintro y w3 ⟨rfl, hb⟩; replace HB := Below.tr HB hb; replace BW := BW.below hb; clear x0 x1 x2 x3 x4; obtain ⟨x0, x1, x2, x3, x4⟩ := id BW; clear hb))
    go_ret
    exact ⟨by rw [hrf.out]; rfl, HB⟩
   | true =>
    by_cases h2 : root = 0
    ·
     have h2' : (root == 0) = true := by simp [h2]
     replace hr : r = (decide (1 ≤ gen) && decide (gen ≤ 1099511627776)) := by rw [hr, decide_eq_true h2]; simp
     clear h2
     by_cases h3 : 1 ≤ gen
     ·
      have hrf : Hid (r = decide (gen ≤ 1099511627776)) := by show _ = _; rw [hr, decide_eq_true h3]; rfl
      clear hr
      go_enter Tryz.func56, Tryz.ntmps56
      go_wp2_with (first
       | (go_at_call 61; rw [← hW]; refine cA.mono ?_; rintro y w1 ⟨rfl, hb⟩; replace HB := Below.tr HB hb; replace BW := BW.below hb; clear x0 x1 x2 x3 x4; obtain ⟨x0, x1, x2, x3, x4⟩ := id BW; clear hb)
       | (go_at_call 105; refine (cH _ HB).mono ?_; rintro y w2 ⟨rfl, hb⟩; replace HB := Below.tr HB hb; replace BW := BW.below hb; clear x0 x1 x2 x3 x4; obtain ⟨x0, x1, x2, x3, x4⟩ := id BW; clear hb)
       | (go_at_call 106; refine (cB _).mono ?_; rintro y w3 ⟨rfl, hb⟩; replace HB := Below.tr HB hb; replace BW := BW.below hb; clear x0 x1 x2 x3 x4; obtain ⟨x0, x1, x2, x3, x4⟩ := id BW; clear hb))
      go_ret
      exact ⟨by rw [hrf.out]; rfl, HB⟩
     ·
      have hrf : Hid (r = false) := by show _ = _; rw [hr, decide_eq_false h3]; rfl
      clear hr
      go_enter Tryz.func56, Tryz.ntmps56
      go_wp2_with (first
       | (go_at_call 61; rw [← hW]; refine cA.mono ?_; rintro y w1 ⟨rfl, hb⟩; replace HB := Below.tr HB hb; replace BW := BW.below hb; clear x0 x1 x2 x3 x4; obtain ⟨x0, x1, x2, x3, x4⟩ := id BW; clear hb)
       | (go_at_call 105; refine (cH _ HB).mono ?_; rintro y w2 ⟨rfl, hb⟩; replace HB := Below.tr HB hb; replace BW := BW.below hb; clear x0 x1 x2 x3 x4; obtain ⟨x0, x1, x2, x3, x4⟩ := id BW; clear hb)
       | (go_at_call 106; refine (cB _).mono ?_; rintro y w3 ⟨rfl, hb⟩; replace HB := Below.tr HB hb; replace BW := BW.below hb; clear x0 x1 x2 x3 x4; obtain ⟨x0, x1, x2, x3, x4⟩ := id BW; clear hb))
      go_ret
      exact ⟨by rw [hrf.out]; rfl, HB⟩
    ·
     have h2' : (root == 0) = false := by simp [h2]
     replace hr : r = (decide (1 ≤ gen) && decide (gen ≤ 1099511627776) && rB) := by rw [hr, decide_eq_false h2]; simp
     cases rB with
     | false =>
      have hrf : Hid (r = false) := by show _ = _; rw [hr]; simp
      clear hr
      go_enter Tryz.func56, Tryz.ntmps56
      go_wp2_with (first
       | (go_at_call 61; rw [← hW]; refine cA.mono ?_; rintro y w1 ⟨rfl, hb⟩; replace HB := Below.tr HB hb; replace BW := BW.below hb; clear x0 x1 x2 x3 x4; obtain ⟨x0, x1, x2, x3, x4⟩ := id BW; clear hb)
       | (go_at_call 105; refine (cH _ HB).mono ?_; rintro y w2 ⟨rfl, hb⟩; replace HB := Below.tr HB hb; replace BW := BW.below hb; clear x0 x1 x2 x3 x4; obtain ⟨x0, x1, x2, x3, x4⟩ := id BW; clear hb)
       | (go_at_call 106; refine (cB _).mono ?_; rintro y w3 ⟨rfl, hb⟩; replace HB := Below.tr HB hb; replace BW := BW.below hb; clear x0 x1 x2 x3 x4; obtain ⟨x0, x1, x2, x3, x4⟩ := id BW; clear hb))
      go_ret
      exact ⟨by rw [hrf.out]; rfl, HB⟩
     | true =>
      by_cases h3 : 1 ≤ gen
      ·
       have hrf : Hid (r = decide (gen ≤ 1099511627776)) := by show _ = _; rw [hr, decide_eq_true h3]; simp
       clear hr
       go_enter Tryz.func56, Tryz.ntmps56
       go_wp2_with (first
        | (go_at_call 61; rw [← hW]; refine cA.mono ?_; rintro y w1 ⟨rfl, hb⟩; replace HB := Below.tr HB hb; replace BW := BW.below hb; clear x0 x1 x2 x3 x4; obtain ⟨x0, x1, x2, x3, x4⟩ := id BW; clear hb)
        | (go_at_call 105; refine (cH _ HB).mono ?_; rintro y w2 ⟨rfl, hb⟩; replace HB := Below.tr HB hb; replace BW := BW.below hb; clear x0 x1 x2 x3 x4; obtain ⟨x0, x1, x2, x3, x4⟩ := id BW; clear hb)
        | (go_at_call 106; refine (cB _).mono ?_; rintro y w3 ⟨rfl, hb⟩; replace HB := Below.tr HB hb; replace BW := BW.below hb; clear x0 x1 x2 x3 x4; obtain ⟨x0, x1, x2, x3, x4⟩ := id BW; clear hb))
       go_ret
       exact ⟨by rw [hrf.out]; rfl, HB⟩
      ·
       have hrf : Hid (r = false) := by show _ = _; rw [hr, decide_eq_false h3]; rfl
       clear hr
       go_enter Tryz.func56, Tryz.ntmps56
       go_wp2_with (first
        | (go_at_call 61; rw [← hW]; refine cA.mono ?_; rintro y w1 ⟨rfl, hb⟩; replace HB := Below.tr HB hb; replace BW := BW.below hb; clear x0 x1 x2 x3 x4; obtain ⟨x0, x1, x2, x3, x4⟩ := id BW; clear hb)
        | (go_at_call 105; refine (cH _ HB).mono ?_; rintro y w2 ⟨rfl, hb⟩; replace HB := Below.tr HB hb; replace BW := BW.below hb; clear x0 x1 x2 x3 x4; obtain ⟨x0, x1, x2, x3, x4⟩ := id BW; clear hb)
        | (go_at_call 106; refine (cB _).mono ?_; rintro y w3 ⟨rfl, hb⟩; replace HB := Below.tr HB hb; replace BW := BW.below hb; clear x0 x1 x2 x3 x4; obtain ⟨x0, x1, x2, x3, x4⟩ := id BW; clear hb))
       go_ret
       exact ⟨by rw [hrf.out]; rfl, HB⟩
  ·
   have h1' : ((p : Int) == n') = false := by simp; omega
   have hrf : Hid (r = false) := by show _ = _; rw [hr, decide_eq_false h1]; simp
   clear hr h1
   go_enter Tryz.func56, Tryz.ntmps56
   go_wp2_with (first
    | (go_at_call 61; rw [← hW]; refine cA.mono ?_; rintro y w1 ⟨rfl, hb⟩; replace HB := Below.tr HB hb; replace BW := BW.below hb; clear x0 x1 x2 x3 x4; obtain ⟨x0, x1, x2, x3, x4⟩ := id BW; clear hb)
    | (go_at_call 105; refine (cH _ HB).mono ?_; rintro y w2 ⟨rfl, hb⟩; replace HB := Below.tr HB hb; replace BW := BW.below hb; clear x0 x1 x2 x3 x4; obtain ⟨x0, x1, x2, x3, x4⟩ := id BW; clear hb)
    | (go_at_call 106; refine (cB _).mono ?_; rintro y w3 ⟨rfl, hb⟩; replace HB := Below.tr HB hb; replace BW := BW.below hb; clear x0 x1 x2 x3 x4; obtain ⟨x0, x1, x2, x3, x4⟩ := id BW; clear hb))
   go_ret
   exact ⟨by rw [hrf.out]; rfl, HB⟩
def LoadC (V : World) (x : Ending) (V' : World) (right : Bool) (o : Option NodeS) : Prop :=
 if right = true then (match o with
  | none => Answers V x V' false [] [] [] 81
  | some nd => Answers V x V' nd.1 nd.2.1 nd.2.2.1 nd.2.2.2 0) else Answers V x V' false [] [] [] 1
theorem isI_pair (W : World) (m n : Int) : IsI (W.alloc (.cells #[.int .i64 m, .int .i64 n] 3)) (some ⟨W.heap.size, 0, none⟩) 2 [m, n] := by
 refine ⟨Nat.le_refl _, by decide, fun j x hx => ⟨W.heap.size, 0, rfl, by simp, ?_⟩⟩
 match j, hx with
 | 0, hx => simp at hx; subst hx; exact World.cell?_alloc_at _ _ _ _ rfl
 | 1, hx => simp at hx; subst hx; exact World.cell?_alloc_at _ _ _ _ rfl
theorem gE_kind {K : Int} {s : ByteArray} (h : ¬ K ∈ [(1 : Int), 2]) : gE K s = 81 := by
 unfold gE nodeR
 simp at h
 rw [if_neg h.1, if_neg h.2]
theorem pageN_want (s : ByteArray) (gen : Int) (rt : Bool) : pageN s gen rt = if wantE s [1, 2] = 0 ∧ wantG s [1, 2] ≤ gen ∧ gE (wantK s [1, 2]) (wantB s [1, 2]) = 0 ∧ rightN (gN (wantK s [1, 2]) (wantB s [1, 2])).1 (gN (wantK s [1, 2]) (wantB s [1, 2])).2.1 (gN (wantK s [1, 2]) (wantB s [1, 2])).2.2.1 (gN (wantK s [1, 2]) (wantB s [1, 2])).2.2.2 rt = true then some (gN (wantK s [1, 2]) (wantB s [1, 2])) else none := by
 by_cases h0 : readE s = 0
 ·
  by_cases h1 : readK s ∈ [(1 : Int), 2]
  ·
   have hE : wantE s [1, 2] = 0 := by unfold wantE; rw [if_pos h0, if_pos h1]
   have hK : wantK s [1, 2] = readK s := by unfold wantK; rw [if_pos hE]
   have hG : wantG s [1, 2] = readG s := by unfold wantG; rw [if_pos hE]
   have hB : wantB s [1, 2] = readB s := by unfold wantB; rw [if_pos hE]
   rw [hE, hK, hG, hB]
   unfold pageN
   rw [h0]
  ·
   have hE : wantE s [1, 2] = 40 := by unfold wantE; rw [if_pos h0, if_neg h1]
   unfold pageN
   rw [if_neg (fun h => by rw [gE_kind h1] at h; exact absurd h.2.2.1 (by decide)), if_neg (fun h => by rw [hE] at h; exact absurd h.1 (by decide))]
 ·
  have hE : wantE s [1, 2] = readE s := by unfold wantE; rw [if_neg h0]
  unfold pageN
  rw [if_neg (fun h => h0 h.1), if_neg (fun h => h0 (by rw [← hE]; exact h.1))]
theorem wantB_few (s : ByteArray) (ms : List Int) : (wantB s ms).size ≤ maxLen := by
 unfold wantB
 split
 ·
  exact Nat.le_trans (readB_few s) (by unfold maxLen; omega)
 ·
  exact Nat.zero_le _
set_option maxRecDepth 20000 in
set_option maxHeartbeats 4000000 in
theorem load_any (h : Nat) (a a' b : Option Addr) (n c n' c' p f : Nat) (ns : List Bool) (ps : List ByteArray) (root gen block : Int) (rt : Bool) (V : World) (hn' : n' = ns.length) (hp : p = ps.length) (hpn : p = n') (BV : WoodBox V h (.slice a n c) (.slice a' n' c') (.slice b p f) (.int .i64 root) (.int .i64 gen)) (hB' : IsB V a' c' ns) (hP : IsS V b f ps) :
  Calls Tryz.prog 184 #[.pointer (some ⟨h, 0, none⟩), .int .i64 block, .bool rt] V fun x V' => LoadC V x V' true (holdsS ns ps gen block rt) := by
 obtain ⟨W, hW⟩ : ∃ W, W = V.alloc (.cells #[.bool false, .slice none 0 0, .slice none 0 0, .slice none 0 0] 205) := ⟨_, rfl⟩
 have HB : Below V.heap.size V W := by rw [hW]; exact (Below.refl _ _).alloc (Nat.le_refl _) _
 have BR : Box4 W V.heap.size (.bool false) (.slice none 0 0) (.slice none 0 0) (.slice none 0 0) := by rw [hW]; exact box4_new _ _ _ _ _ _ rfl
 have BW := BV.below HB
 have mn : n' ≤ 9223372036854775807 := by rw [hn']; exact Nat.le_trans hB'.1 hB'.2.1
 have cB0 : ∀ U, Calls Tryz.prog 106 #[.agg #[.slice a n c, .slice a' n' c', .slice b p f, .int .i64 root, .int .i64 gen], .int .i64 block] U fun e w' => e = .returned (.bool (decide (10 ≤ block) && decide (block < (n' : Int)))) ∧ Below U.heap.size U w' := fun U => behind_any a a' b n c n' c' p f root gen block U mn
 obtain ⟨O, hO'⟩ : ∃ O, O = holdsS ns ps gen block rt := ⟨_, rfl⟩
 rw [← hO']
 obtain ⟨⟨r0, r1, r2, r3⟩, f0, f1, f2, f3⟩ := id (hW ▸ BR)
 obtain ⟨x0, x1, x2, x3, x4⟩ := id (hW ▸ BW)
 by_cases hin : 10 ≤ block ∧ block < n'
 ·
  have cB : ∀ U, Calls Tryz.prog 106 #[.agg #[.slice a n c, .slice a' n' c', .slice b p f, .int .i64 root, .int .i64 gen], .int .i64 block] U fun e w' => e = .returned (.bool true) ∧ Below U.heap.size U w' := fun U => by have := cB0 U; rw [decide_eq_true hin.1, decide_eq_true hin.2] at this; exact this
  obtain ⟨h10, hl1⟩ := hin
  obtain ⟨i, rfl⟩ : ∃ i : Nat, block = i := ⟨block.toNat, by omega⟩
  have hi1 : i < ns.length := by omega
  have hi2 : i < ps.length := by omega
  obtain ⟨nw, hgn⟩ : ∃ s, ns[i]? = some s := ⟨_, List.getElem?_eq_getElem hi1⟩
  obtain ⟨s, hs⟩ : ∃ s, ps[i]? = some s := ⟨_, List.getElem?_eq_getElem hi2⟩
  have hO1 : O = if nw = true then pageN s gen rt else none := by
   rw [hO']
   unfold holdsS
   simp only [Int.toNat_natCast, List.getD_eq_getElem?_getD, hgn, hs, Option.getD_some]
   by_cases hh : nw = true
   ·
    rw [if_pos ⟨h10, by omega, by omega, hh⟩, if_pos hh]
   ·
    rw [if_neg (fun x => hh x.2.2.2), if_neg hh]
  obtain ⟨b1, o1, rfl, hlb1, hc1⟩ := hB'.2.2 i nw hgn
  obtain ⟨b2, o2, rfl, hlb2, hc2, hss⟩ := hP.2.2 i s hs
  have z1 := cell_below HB hc1
  have z2 := cell_below HB hc2
  have k4 : (i : Int) < n' := by omega
  have k5 : (i : Int) < p := by omega
  have cW0 := fun U => want_any s (some ⟨U.heap.size, 0, none⟩) 2 [1, 2] (U.alloc (.cells #[.int .i64 1, .int .i64 2] 3)) hss (isI_pair U 1 2)
  have cG := fun U => nodeGet_any (wantK s [1, 2]) (wantB s [1, 2]) U (wantB_few s _)
  rw [pageN_want] at hO1
  clear hO' hn' hp hpn hB' hP h10 hl1 hi1 hi2 hgn hs hlb1 hlb2 hc1 hc2 hss BV cB0
  obtain ⟨rE, hrE⟩ : ∃ x, x = wantE s [1, 2] := ⟨_, rfl⟩
  obtain ⟨rK, hrK⟩ : ∃ x, x = wantK s [1, 2] := ⟨_, rfl⟩
  obtain ⟨rG, hrG⟩ : ∃ x, x = wantG s [1, 2] := ⟨_, rfl⟩
  obtain ⟨rB, hrB⟩ : ∃ x, x = wantB s [1, 2] := ⟨_, rfl⟩
  rw [← hrE, ← hrK, ← hrG, ← hrB] at hO1
  rw [← hrE, ← hrK, ← hrG, ← hrB] at cW0
  rw [← hrK, ← hrB] at cG
  clear hrE hrK hrG hrB
  have cW : ∀ U, Calls Tryz.prog 74 #[.string s, .slice (some ⟨U.heap.size, 0, none⟩) 2 2] (U.alloc (.cells #[.int .i64 1, .int .i64 2] 3)) fun e w' => e = .returned (.tuple #[.agg #[.int .i64 rK, .int .i64 rG, .string rB], .int .i64 rE]) ∧ Below U.heap.size U w' := fun U => (cW0 U).mono fun e w' h => ⟨h.1, Below.tr ((Below.refl _ _).alloc (Nat.le_refl _) _) h.2⟩
  clear cW0
  obtain ⟨nE, hnE⟩ : ∃ x, x = gE rK rB := ⟨_, rfl⟩
  obtain ⟨⟨nl, nk, nv, nc⟩, hnd⟩ : ∃ x, x = gN rK rB := ⟨_, rfl⟩
  rw [← hnE, ← hnd] at hO1 cG
  clear hnE hnd
  have cR : ∀ U a1 d1 k1 a2 d2 k2 a3 d3 k3, k1 = nk.length → k2 = nv.length → k3 = nc.length → IsS U a1 d1 nk → IsS U a2 d2 nv → IsI U a3 d3 nc → Calls Tryz.prog 193 #[.agg #[.bool nl, .slice a1 k1 d1, .slice a2 k2 d2, .slice a3 k3 d3], .bool rt] U fun e w' => e = .returned (.bool (rightN nl nk nv nc rt)) ∧ Below U.heap.size U w' := fun U a1 d1 k1 a2 d2 k2 a3 d3 k3 h1 h2 h3 i1 i2 i3 => nodeRight_any nl a1 a2 a3 d1 d2 d3 k1 k2 k3 nk nv nc rt U h1 h2 h3 i1 i2 i3
  cases nw with
  | false =>
   replace hO1 : O = none := hO1
   clear cW cG cR
   go_enter Tryz.func184, Tryz.ntmps184
   go_wp2_with (
    (go_at_call 106; rw [← hW]; refine (cB _).mono ?_; rintro y w1 ⟨rfl, hb⟩; replace HB := Below.tr HB hb; replace BR := BR.below hb; replace BW := BW.below hb; replace z1 := cell_below hb z1; replace z2 := cell_below hb z2; clear r0 r1 r2 r3 f0 f1 f2 f3 x0 x1 x2 x3 x4; obtain ⟨⟨r0, r1, r2, r3⟩, f0, f1, f2, f3⟩ := id BR; obtain ⟨x0, x1, x2, x3, x4⟩ := id BW; clear hb))
   refine bodyPost_ret (v := .tuple #[.agg #[.bool false, .slice none 0 0, .slice none 0 0, .slice none 0 0], .int .i64 81]) (by simp [results, Tryz.results184, go_sem, r0, r1, r2, r3]) rfl ?_
   rw [hO1]
   exact answers_none (below_put4 HB (Nat.le_refl _) _ _ _ _)
  | true =>
   replace hO1 : O = _ := hO1.trans (if_pos rfl)
   by_cases hE : rE = 0
   ·
    subst hE
    by_cases hG : rG ≤ gen
    ·
     have hG' : ¬ gen < rG := by omega
     by_cases hNE : nE = 0
     ·
      subst hNE
      cases hR : rightN nl nk nv nc rt with
      | true =>
       replace hO1 : O = some (nl, nk, nv, nc) := by rw [hO1, if_pos ⟨rfl, hG, rfl, hR⟩]
       rw [hR] at cR
       clear hR hG
       go_enter Tryz.func184, Tryz.ntmps184
       go_wp2_with (first
        | (go_at_call 106; rw [← hW]; refine (cB _).mono ?_; rintro y w1 ⟨rfl, hb⟩; replace HB := Below.tr HB hb; replace BR := BR.below hb; replace BW := BW.below hb; replace z1 := cell_below hb z1; replace z2 := cell_below hb z2; clear r0 r1 r2 r3 f0 f1 f2 f3 x0 x1 x2 x3 x4; obtain ⟨⟨r0, r1, r2, r3⟩, f0, f1, f2, f3⟩ := id BR; obtain ⟨x0, x1, x2, x3, x4⟩ := id BW; clear hb)
        | (go_at_call 74; refine (cW _).mono ?_; rintro y w2 ⟨rfl, hb⟩; have hA : Below w2.heap.size w2 (w2.alloc (.cells #[.int .i64 rK, .int .i64 rG, .string rB] 115)) := (Below.refl _ _).alloc (Nat.le_refl _) _; have b3 := box3_new w2 (.int .i64 rK) (.int .i64 rG) (.string rB) 115; replace HB := Below.tr (Below.tr HB hb) hA; replace BR := (BR.below hb).below hA; replace BW := (BW.below hb).below hA; clear z1 z2 r0 r1 r2 r3 f0 f1 f2 f3 x0 x1 x2 x3 x4; obtain ⟨⟨r0, r1, r2, r3⟩, f0, f1, f2, f3⟩ := id BR; obtain ⟨x0, x1, x2, x3, x4⟩ := id BW; obtain ⟨⟨g0, g1, g2⟩, -⟩ := id b3; clear hb hA))
       go_region
       have HU : Below (w2.alloc (.cells #[.int .i64 rK, .int .i64 rG, .string rB] 115)).heap.size (w2.alloc (.cells #[.int .i64 rK, .int .i64 rG, .string rB] 115)) (w2.alloc (.cells #[.int .i64 rK, .int .i64 rG, .string rB] 115)).drew := (Below.refl _ _).drew
       generalize (w2.alloc (.cells #[.int .i64 rK, .int .i64 rG, .string rB] 115)).drew = U at HU ⊢
       replace HB := Below.tr HB HU
       replace BR := BR.below HU
       replace b3 := b3.below HU
       clear r0 r1 r2 r3 f0 f1 f2 f3 x0 x1 x2 x3 x4 g0 g1 g2 BW HU
       obtain ⟨⟨r0, r1, r2, r3⟩, f0, f1, f2, f3⟩ := id BR
       obtain ⟨⟨g0, g1, g2⟩, -⟩ := id b3
       go_wp2_with (first
        | (go_at_call 192; refine (cG _).mono ?_; rintro y w3 ⟨k1, a1, d1, k2, a2, d2, k3, a3, d3, rfl, e1, e2, e3, i1, i2, i3, j1, j2, j3, hb⟩; have hA : Below w3.heap.size w3 (w3.alloc (.cells #[.bool nl, .slice a1 k1 d1, .slice a2 k2 d2, .slice a3 k3 d3] 205)) := (Below.refl _ _).alloc (Nat.le_refl _) _; have b4 := box4_new w3 (.bool nl) (.slice a1 k1 d1) (.slice a2 k2 d2) (.slice a3 k3 d3) 205 rfl; have hlo : V.heap.size + 1 ≤ U.heap.size := (by have := BR.lt; omega); replace HB := Below.tr (Below.tr HB hb) hA; replace BR := (BR.below hb).below hA; clear r0 r1 r2 r3 f0 f1 f2 f3 g0 g1 g2 b3; obtain ⟨⟨r0, r1, r2, r3⟩, f0, f1, f2, f3⟩ := id BR; obtain ⟨⟨m0, m1, m2, m3⟩, -⟩ := id b4; have E : Hid (k1 = nk.length ∧ k2 = nv.length ∧ k3 = nc.length) := ⟨e1, e2, e3⟩; have I : Hid (IsS (w3.alloc (.cells #[.bool nl, .slice a1 k1 d1, .slice a2 k2 d2, .slice a3 k3 d3] 205)) a1 d1 nk ∧ IsS (w3.alloc (.cells #[.bool nl, .slice a1 k1 d1, .slice a2 k2 d2, .slice a3 k3 d3] 205)) a2 d2 nv ∧ IsI (w3.alloc (.cells #[.bool nl, .slice a1 k1 d1, .slice a2 k2 d2, .slice a3 k3 d3] 205)) a3 d3 nc) := ⟨i1.below hA, i2.below hA, i3.below hA⟩; have J : Hid (From (V.heap.size + 1) a1 ∧ From (V.heap.size + 1) a2 ∧ From (V.heap.size + 1) a3) := ⟨j1.mono hlo, j2.mono hlo, j3.mono hlo⟩; clear hb hA hlo e1 e2 e3 i1 i2 i3 j1 j2 j3)
        | (go_at_call 193; refine (cR _ a1 d1 k1 a2 d2 k2 a3 d3 k3 E.out.1 E.out.2.1 E.out.2.2 I.out.1 I.out.2.1 I.out.2.2).mono ?_; rintro y w4 ⟨rfl, hb⟩; replace HB := Below.tr HB hb; replace BR := BR.below hb; replace b4 := b4.below hb; clear r0 r1 r2 r3 f0 f1 f2 f3 m0 m1 m2 m3; obtain ⟨⟨r0, r1, r2, r3⟩, f0, f1, f2, f3⟩ := id BR; obtain ⟨⟨m0, m1, m2, m3⟩, -⟩ := id b4; replace I : Hid (IsS w4 a1 d1 nk ∧ IsS w4 a2 d2 nv ∧ IsI w4 a3 d3 nc) := ⟨I.out.1.below hb, I.out.2.1.below hb, I.out.2.2.below hb⟩; clear hb))
       have T4 := turns_put4 w4 V.heap.size (.bool nl) (.slice a1 k1 d1) (.slice a2 k2 d2) (.slice a3 k3 d3)
       obtain ⟨j1, j2, j3⟩ := J.out
       refine bodyPost_ret (v := .tuple #[.agg #[.bool nl, .slice a1 k1 d1, .slice a2 k2 d2, .slice a3 k3 d3], .int .i64 0]) (by simp [results, Tryz.results184, go_sem, r0, r1, r2, r3]) rfl ?_
       rw [hO1]
       exact ⟨k1, a1, d1, k2, a2, d2, k3, a3, d3, rfl, E.out.1, E.out.2.1, E.out.2.2, I.out.1.turns T4 (fun x hx e => by have := j1 x hx; omega), I.out.2.1.turns T4 (fun x hx e => by have := j2 x hx; omega), I.out.2.2.turns T4 (fun x hx e => by have := j3 x hx; omega), j1.mono (by omega), j2.mono (by omega), j3.mono (by omega), below_put4 HB (Nat.le_refl _) _ _ _ _⟩
      | false =>
       replace hO1 : O = none := by rw [hO1, if_neg (fun h => by rw [hR] at h; exact absurd h.2.2.2 (by decide))]
       rw [hR] at cR
       clear hR hG
       go_enter Tryz.func184, Tryz.ntmps184
       go_wp2_with (first
        | (go_at_call 106; rw [← hW]; refine (cB _).mono ?_; rintro y w1 ⟨rfl, hb⟩; replace HB := Below.tr HB hb; replace BR := BR.below hb; replace BW := BW.below hb; replace z1 := cell_below hb z1; replace z2 := cell_below hb z2; clear r0 r1 r2 r3 f0 f1 f2 f3 x0 x1 x2 x3 x4; obtain ⟨⟨r0, r1, r2, r3⟩, f0, f1, f2, f3⟩ := id BR; obtain ⟨x0, x1, x2, x3, x4⟩ := id BW; clear hb)
        | (go_at_call 74; refine (cW _).mono ?_; rintro y w2 ⟨rfl, hb⟩; have hA : Below w2.heap.size w2 (w2.alloc (.cells #[.int .i64 rK, .int .i64 rG, .string rB] 115)) := (Below.refl _ _).alloc (Nat.le_refl _) _; have b3 := box3_new w2 (.int .i64 rK) (.int .i64 rG) (.string rB) 115; replace HB := Below.tr (Below.tr HB hb) hA; replace BR := (BR.below hb).below hA; replace BW := (BW.below hb).below hA; clear z1 z2 r0 r1 r2 r3 f0 f1 f2 f3 x0 x1 x2 x3 x4; obtain ⟨⟨r0, r1, r2, r3⟩, f0, f1, f2, f3⟩ := id BR; obtain ⟨x0, x1, x2, x3, x4⟩ := id BW; obtain ⟨⟨g0, g1, g2⟩, -⟩ := id b3; clear hb hA))
       go_region
       have HU : Below (w2.alloc (.cells #[.int .i64 rK, .int .i64 rG, .string rB] 115)).heap.size (w2.alloc (.cells #[.int .i64 rK, .int .i64 rG, .string rB] 115)) (w2.alloc (.cells #[.int .i64 rK, .int .i64 rG, .string rB] 115)).drew := (Below.refl _ _).drew
       generalize (w2.alloc (.cells #[.int .i64 rK, .int .i64 rG, .string rB] 115)).drew = U at HU ⊢
       replace HB := Below.tr HB HU
       replace BR := BR.below HU
       replace b3 := b3.below HU
       clear r0 r1 r2 r3 f0 f1 f2 f3 x0 x1 x2 x3 x4 g0 g1 g2 BW HU
       obtain ⟨⟨r0, r1, r2, r3⟩, f0, f1, f2, f3⟩ := id BR
       obtain ⟨⟨g0, g1, g2⟩, -⟩ := id b3
       go_wp2_with (first
        | (go_at_call 192; refine (cG _).mono ?_; rintro y w3 ⟨k1, a1, d1, k2, a2, d2, k3, a3, d3, rfl, e1, e2, e3, i1, i2, i3, j1, j2, j3, hb⟩; have hA : Below w3.heap.size w3 (w3.alloc (.cells #[.bool nl, .slice a1 k1 d1, .slice a2 k2 d2, .slice a3 k3 d3] 205)) := (Below.refl _ _).alloc (Nat.le_refl _) _; have b4 := box4_new w3 (.bool nl) (.slice a1 k1 d1) (.slice a2 k2 d2) (.slice a3 k3 d3) 205 rfl; have hlo : V.heap.size + 1 ≤ U.heap.size := (by have := BR.lt; omega); replace HB := Below.tr (Below.tr HB hb) hA; replace BR := (BR.below hb).below hA; clear r0 r1 r2 r3 f0 f1 f2 f3 g0 g1 g2 b3; obtain ⟨⟨r0, r1, r2, r3⟩, f0, f1, f2, f3⟩ := id BR; obtain ⟨⟨m0, m1, m2, m3⟩, -⟩ := id b4; have E : Hid (k1 = nk.length ∧ k2 = nv.length ∧ k3 = nc.length) := ⟨e1, e2, e3⟩; have I : Hid (IsS (w3.alloc (.cells #[.bool nl, .slice a1 k1 d1, .slice a2 k2 d2, .slice a3 k3 d3] 205)) a1 d1 nk ∧ IsS (w3.alloc (.cells #[.bool nl, .slice a1 k1 d1, .slice a2 k2 d2, .slice a3 k3 d3] 205)) a2 d2 nv ∧ IsI (w3.alloc (.cells #[.bool nl, .slice a1 k1 d1, .slice a2 k2 d2, .slice a3 k3 d3] 205)) a3 d3 nc) := ⟨i1.below hA, i2.below hA, i3.below hA⟩; have J : Hid (From (V.heap.size + 1) a1 ∧ From (V.heap.size + 1) a2 ∧ From (V.heap.size + 1) a3) := ⟨j1.mono hlo, j2.mono hlo, j3.mono hlo⟩; clear hb hA hlo e1 e2 e3 i1 i2 i3 j1 j2 j3)
        | (go_at_call 193; refine (cR _ a1 d1 k1 a2 d2 k2 a3 d3 k3 E.out.1 E.out.2.1 E.out.2.2 I.out.1 I.out.2.1 I.out.2.2).mono ?_; rintro y w4 ⟨rfl, hb⟩; replace HB := Below.tr HB hb; replace BR := BR.below hb; replace b4 := b4.below hb; clear r0 r1 r2 r3 f0 f1 f2 f3 m0 m1 m2 m3; obtain ⟨⟨r0, r1, r2, r3⟩, f0, f1, f2, f3⟩ := id BR; obtain ⟨⟨m0, m1, m2, m3⟩, -⟩ := id b4; replace I : Hid (IsS w4 a1 d1 nk ∧ IsS w4 a2 d2 nv ∧ IsI w4 a3 d3 nc) := ⟨I.out.1.below hb, I.out.2.1.below hb, I.out.2.2.below hb⟩; clear hb))
       refine bodyPost_ret (v := .tuple #[.agg #[.bool false, .slice none 0 0, .slice none 0 0, .slice none 0 0], .int .i64 81]) (by simp [results, Tryz.results184, go_sem, r0, r1, r2, r3]) rfl ?_
       rw [hO1]
       exact answers_none (below_put4 HB (Nat.le_refl _) _ _ _ _)
     ·
      have hNE' : (nE != 0) = true := by simpa using hNE
      replace hO1 : O = none := by rw [hO1, if_neg (fun h => hNE h.2.2.1)]
      clear hG
      go_enter Tryz.func184, Tryz.ntmps184
      go_wp2_with (first
       | (go_at_call 106; rw [← hW]; refine (cB _).mono ?_; rintro y w1 ⟨rfl, hb⟩; replace HB := Below.tr HB hb; replace BR := BR.below hb; replace BW := BW.below hb; replace z1 := cell_below hb z1; replace z2 := cell_below hb z2; clear r0 r1 r2 r3 f0 f1 f2 f3 x0 x1 x2 x3 x4; obtain ⟨⟨r0, r1, r2, r3⟩, f0, f1, f2, f3⟩ := id BR; obtain ⟨x0, x1, x2, x3, x4⟩ := id BW; clear hb)
       | (go_at_call 74; refine (cW _).mono ?_; rintro y w2 ⟨rfl, hb⟩; have hA : Below w2.heap.size w2 (w2.alloc (.cells #[.int .i64 rK, .int .i64 rG, .string rB] 115)) := (Below.refl _ _).alloc (Nat.le_refl _) _; have b3 := box3_new w2 (.int .i64 rK) (.int .i64 rG) (.string rB) 115; replace HB := Below.tr (Below.tr HB hb) hA; replace BR := (BR.below hb).below hA; replace BW := (BW.below hb).below hA; clear z1 z2 r0 r1 r2 r3 f0 f1 f2 f3 x0 x1 x2 x3 x4; obtain ⟨⟨r0, r1, r2, r3⟩, f0, f1, f2, f3⟩ := id BR; obtain ⟨x0, x1, x2, x3, x4⟩ := id BW; obtain ⟨⟨g0, g1, g2⟩, -⟩ := id b3; clear hb hA))
      go_region
      have HU : Below (w2.alloc (.cells #[.int .i64 rK, .int .i64 rG, .string rB] 115)).heap.size (w2.alloc (.cells #[.int .i64 rK, .int .i64 rG, .string rB] 115)) (w2.alloc (.cells #[.int .i64 rK, .int .i64 rG, .string rB] 115)).drew := (Below.refl _ _).drew
      generalize (w2.alloc (.cells #[.int .i64 rK, .int .i64 rG, .string rB] 115)).drew = U at HU ⊢
      replace HB := Below.tr HB HU
      replace BR := BR.below HU
      replace b3 := b3.below HU
      clear r0 r1 r2 r3 f0 f1 f2 f3 x0 x1 x2 x3 x4 g0 g1 g2 BW HU
      obtain ⟨⟨r0, r1, r2, r3⟩, f0, f1, f2, f3⟩ := id BR
      obtain ⟨⟨g0, g1, g2⟩, -⟩ := id b3
      go_wp2_with (
       (go_at_call 192; refine (cG _).mono ?_; rintro y w3 ⟨k1, a1, d1, k2, a2, d2, k3, a3, d3, rfl, e1, e2, e3, i1, i2, i3, j1, j2, j3, hb⟩; have hA : Below w3.heap.size w3 (w3.alloc (.cells #[.bool nl, .slice a1 k1 d1, .slice a2 k2 d2, .slice a3 k3 d3] 205)) := (Below.refl _ _).alloc (Nat.le_refl _) _; have b4 := box4_new w3 (.bool nl) (.slice a1 k1 d1) (.slice a2 k2 d2) (.slice a3 k3 d3) 205 rfl; have hlo : V.heap.size + 1 ≤ U.heap.size := (by have := BR.lt; omega); replace HB := Below.tr (Below.tr HB hb) hA; replace BR := (BR.below hb).below hA; clear r0 r1 r2 r3 f0 f1 f2 f3 g0 g1 g2 b3; obtain ⟨⟨r0, r1, r2, r3⟩, f0, f1, f2, f3⟩ := id BR; obtain ⟨⟨m0, m1, m2, m3⟩, -⟩ := id b4; have E : Hid (k1 = nk.length ∧ k2 = nv.length ∧ k3 = nc.length) := ⟨e1, e2, e3⟩; have I : Hid (IsS (w3.alloc (.cells #[.bool nl, .slice a1 k1 d1, .slice a2 k2 d2, .slice a3 k3 d3] 205)) a1 d1 nk ∧ IsS (w3.alloc (.cells #[.bool nl, .slice a1 k1 d1, .slice a2 k2 d2, .slice a3 k3 d3] 205)) a2 d2 nv ∧ IsI (w3.alloc (.cells #[.bool nl, .slice a1 k1 d1, .slice a2 k2 d2, .slice a3 k3 d3] 205)) a3 d3 nc) := ⟨i1.below hA, i2.below hA, i3.below hA⟩; have J : Hid (From (V.heap.size + 1) a1 ∧ From (V.heap.size + 1) a2 ∧ From (V.heap.size + 1) a3) := ⟨j1.mono hlo, j2.mono hlo, j3.mono hlo⟩; clear hb hA hlo e1 e2 e3 i1 i2 i3 j1 j2 j3))
      refine bodyPost_ret (v := .tuple #[.agg #[.bool false, .slice none 0 0, .slice none 0 0, .slice none 0 0], .int .i64 81]) (by simp [results, Tryz.results184, go_sem, r0, r1, r2, r3]) rfl ?_
      rw [hO1]
      exact answers_none (below_put4 HB (Nat.le_refl _) _ _ _ _)
    ·
     have hG' : gen < rG := by omega
     replace hO1 : O = none := by rw [hO1, if_neg (fun h => hG h.2.1)]
     clear hG cG cR
     go_enter Tryz.func184, Tryz.ntmps184
     go_wp2_with (first
      | (go_at_call 106; rw [← hW]; refine (cB _).mono ?_; rintro y w1 ⟨rfl, hb⟩; replace HB := Below.tr HB hb; replace BR := BR.below hb; replace BW := BW.below hb; replace z1 := cell_below hb z1; replace z2 := cell_below hb z2; clear r0 r1 r2 r3 f0 f1 f2 f3 x0 x1 x2 x3 x4; obtain ⟨⟨r0, r1, r2, r3⟩, f0, f1, f2, f3⟩ := id BR; obtain ⟨x0, x1, x2, x3, x4⟩ := id BW; clear hb)
      | (go_at_call 74; refine (cW _).mono ?_; rintro y w2 ⟨rfl, hb⟩; have hA : Below w2.heap.size w2 (w2.alloc (.cells #[.int .i64 rK, .int .i64 rG, .string rB] 115)) := (Below.refl _ _).alloc (Nat.le_refl _) _; have b3 := box3_new w2 (.int .i64 rK) (.int .i64 rG) (.string rB) 115; replace HB := Below.tr (Below.tr HB hb) hA; replace BR := (BR.below hb).below hA; replace BW := (BW.below hb).below hA; clear z1 z2 r0 r1 r2 r3 f0 f1 f2 f3 x0 x1 x2 x3 x4; obtain ⟨⟨r0, r1, r2, r3⟩, f0, f1, f2, f3⟩ := id BR; obtain ⟨x0, x1, x2, x3, x4⟩ := id BW; obtain ⟨⟨g0, g1, g2⟩, -⟩ := id b3; clear hb hA))
     go_region
     have HU : Below (w2.alloc (.cells #[.int .i64 rK, .int .i64 rG, .string rB] 115)).heap.size (w2.alloc (.cells #[.int .i64 rK, .int .i64 rG, .string rB] 115)) (w2.alloc (.cells #[.int .i64 rK, .int .i64 rG, .string rB] 115)).drew := (Below.refl _ _).drew
     generalize (w2.alloc (.cells #[.int .i64 rK, .int .i64 rG, .string rB] 115)).drew = U at HU ⊢
     replace HB := Below.tr HB HU
     replace BR := BR.below HU
     replace b3 := b3.below HU
     clear r0 r1 r2 r3 f0 f1 f2 f3 x0 x1 x2 x3 x4 g0 g1 g2 BW HU
     obtain ⟨⟨r0, r1, r2, r3⟩, f0, f1, f2, f3⟩ := id BR
     obtain ⟨⟨g0, g1, g2⟩, -⟩ := id b3
     go_wp2
     refine bodyPost_ret (v := .tuple #[.agg #[.bool false, .slice none 0 0, .slice none 0 0, .slice none 0 0], .int .i64 81]) (by simp [results, Tryz.results184, go_sem, r0, r1, r2, r3]) rfl ?_
     rw [hO1]
     exact answers_none (below_put4 HB (Nat.le_refl _) _ _ _ _)
   ·
    have hE' : (rE != 0) = true := by simpa using hE
    replace hO1 : O = none := by rw [hO1, if_neg (fun h => hE h.1)]
    clear cG cR
    go_enter Tryz.func184, Tryz.ntmps184
    go_wp2_with (first
     | (go_at_call 106; rw [← hW]; refine (cB _).mono ?_; rintro y w1 ⟨rfl, hb⟩; replace HB := Below.tr HB hb; replace BR := BR.below hb; replace BW := BW.below hb; replace z1 := cell_below hb z1; replace z2 := cell_below hb z2; clear r0 r1 r2 r3 f0 f1 f2 f3 x0 x1 x2 x3 x4; obtain ⟨⟨r0, r1, r2, r3⟩, f0, f1, f2, f3⟩ := id BR; obtain ⟨x0, x1, x2, x3, x4⟩ := id BW; clear hb)
     | (go_at_call 74; refine (cW _).mono ?_; rintro y w2 ⟨rfl, hb⟩; have hA : Below w2.heap.size w2 (w2.alloc (.cells #[.int .i64 rK, .int .i64 rG, .string rB] 115)) := (Below.refl _ _).alloc (Nat.le_refl _) _; have b3 := box3_new w2 (.int .i64 rK) (.int .i64 rG) (.string rB) 115; replace HB := Below.tr (Below.tr HB hb) hA; replace BR := (BR.below hb).below hA; replace BW := (BW.below hb).below hA; clear z1 z2 r0 r1 r2 r3 f0 f1 f2 f3 x0 x1 x2 x3 x4; obtain ⟨⟨r0, r1, r2, r3⟩, f0, f1, f2, f3⟩ := id BR; obtain ⟨x0, x1, x2, x3, x4⟩ := id BW; obtain ⟨⟨g0, g1, g2⟩, -⟩ := id b3; clear hb hA))
    go_region
    have HU : Below (w2.alloc (.cells #[.int .i64 rK, .int .i64 rG, .string rB] 115)).heap.size (w2.alloc (.cells #[.int .i64 rK, .int .i64 rG, .string rB] 115)) (w2.alloc (.cells #[.int .i64 rK, .int .i64 rG, .string rB] 115)).drew := (Below.refl _ _).drew
    generalize (w2.alloc (.cells #[.int .i64 rK, .int .i64 rG, .string rB] 115)).drew = U at HU ⊢
    replace HB := Below.tr HB HU
    replace BR := BR.below HU
    replace b3 := b3.below HU
    clear r0 r1 r2 r3 f0 f1 f2 f3 x0 x1 x2 x3 x4 g0 g1 g2 BW HU
    obtain ⟨⟨r0, r1, r2, r3⟩, f0, f1, f2, f3⟩ := id BR
    obtain ⟨⟨g0, g1, g2⟩, -⟩ := id b3
    go_wp2
    refine bodyPost_ret (v := .tuple #[.agg #[.bool false, .slice none 0 0, .slice none 0 0, .slice none 0 0], .int .i64 81]) (by simp [results, Tryz.results184, go_sem, r0, r1, r2, r3]) rfl ?_
    rw [hO1]
    exact answers_none (below_put4 HB (Nat.le_refl _) _ _ _ _)
 ·
  have cB : ∀ U, Calls Tryz.prog 106 #[.agg #[.slice a n c, .slice a' n' c', .slice b p f, .int .i64 root, .int .i64 gen], .int .i64 block] U fun e w' => e = .returned (.bool false) ∧ Below U.heap.size U w' := fun U => by
   have := cB0 U
   have hh : (decide (10 ≤ block) && decide (block < (n' : Int))) = false := by
    rw [Bool.and_eq_false_iff, decide_eq_false_iff_not, decide_eq_false_iff_not]
    by_cases h10 : 10 ≤ block
    ·
     exact .inr fun h => hin ⟨h10, h⟩
    ·
     exact .inl h10
   rw [hh] at this
   exact this
  have hO1 : O = none := by
   rw [hO']
   unfold holdsS
   rw [if_neg (fun h => hin ⟨h.1, by omega⟩)]
  have z1 : True := trivial
  have z2 : True := trivial
  clear hO' hn' hp hpn hB' hP BV cB0 hin
  go_enter Tryz.func184, Tryz.ntmps184
  go_wp2_with (go_at_call 106; rw [← hW]; refine (cB _).mono ?_; rintro y w1 ⟨rfl, hb⟩; replace HB := Below.tr HB hb; replace BR := BR.below hb; replace BW := BW.below hb; clear r0 r1 r2 r3 f0 f1 f2 f3 x0 x1 x2 x3 x4; obtain ⟨⟨r0, r1, r2, r3⟩, f0, f1, f2, f3⟩ := id BR; obtain ⟨x0, x1, x2, x3, x4⟩ := id BW; clear hb)
  refine bodyPost_ret (v := .tuple #[.agg #[.bool false, .slice none 0 0, .slice none 0 0, .slice none 0 0], .int .i64 81]) (by simp [results, Tryz.results184, go_sem, r0, r1, r2, r3]) rfl ?_
  rw [hO1]
  exact answers_none (below_put4 HB (Nat.le_refl _) _ _ _ _)
def nodeO : Option NodeS → NodeS
 | none => (false, [], [], [])
 | some nd => nd
def errO : Option NodeS → Int
 | none => 81
 | some _ => 0
theorem loadC_true (V : World) (x : Ending) (V' : World) (O : Option NodeS) : LoadC V x V' true O ↔ Answers V x V' (nodeO O).1 (nodeO O).2.1 (nodeO O).2.2.1 (nodeO O).2.2.2 (errO O) := by
 unfold LoadC
 rw [if_pos rfl]
 cases O <;> exact Iff.rfl
def WalkBox (V : World) (h : Nat) (v0 v1 v2 v3 v4 : Value) (lv : Int) : Prop := WoodBox V h v0 v1 v2 v3 v4 ∧ V.cell? ⟨h, 5, none⟩ = some (.int .i64 lv) ∧ V.frozen? ⟨h, 5, none⟩ = false
theorem walkBox_new (w : World) (v0 v1 v2 v3 v4 : Value) (lv : Int) (t : TypeId) {h : Nat} (hh : h = w.heap.size) : WalkBox (w.alloc (.cells #[v0, v1, v2, v3, v4, .int .i64 lv] t)) h v0 v1 v2 v3 v4 lv := by
 subst hh
 refine ⟨⟨World.cell?_alloc_at _ _ _ _ rfl, World.cell?_alloc_at _ _ _ _ rfl, World.cell?_alloc_at _ _ _ _ rfl, World.cell?_alloc_at _ _ _ _ rfl, World.cell?_alloc_at _ _ _ _ rfl⟩, World.cell?_alloc_at _ _ _ _ rfl, ?_⟩
 exact (World.frozen?_alloc_mark w _ _ _ _ 5).trans (by simp)
theorem rightW_len {bs ns : List Bool} {ps : List ByteArray} {root gen : Int} (h : rightW bs ns ps root gen = true) : ps.length = ns.length := by
 unfold rightW at h
 simp only [Bool.and_eq_true, decide_eq_true_eq] at h
 exact h.1.1.1.1.2
set_option maxRecDepth 20000 in
set_option maxHeartbeats 4000000 in
theorem lookLoad_any (a a' b : Option Addr) (n c n' c' p f : Nat) (bs ns : List Bool) (ps : List ByteArray) (root gen block : Int) (rt : Bool) (w : World) (hn : n = bs.length) (hn' : n' = ns.length) (hp : p = ps.length) (hB : IsB w a c bs) (hB' : IsB w a' c' ns) (hP : IsS w b f ps) :
  Calls Tryz.prog 171 #[.agg #[.slice a n c, .slice a' n' c', .slice b p f, .int .i64 root, .int .i64 gen], .int .i64 block, .bool rt] w fun x w' => LoadC w x w' (rightW bs ns ps root gen) (holdsS ns ps gen block rt) := by
 obtain ⟨W, hW⟩ : ∃ W, W = (w.alloc (.cells #[.slice a n c, .slice a' n' c', .slice b p f, .int .i64 root, .int .i64 gen] 40)).alloc (.cells #[.bool false, .slice none 0 0, .slice none 0 0, .slice none 0 0] 205) := ⟨_, rfl⟩
 have BW : WoodBox W w.heap.size (.slice a n c) (.slice a' n' c') (.slice b p f) (.int .i64 root) (.int .i64 gen) := by rw [hW]; exact (woodBox_new _ _ _ _ _ _ _ rfl).below ((Below.refl _ _).alloc (Nat.le_refl _) _)
 have BR : Box4 W (w.heap.size + 1) (.bool false) (.slice none 0 0) (.slice none 0 0) (.slice none 0 0) := by rw [hW]; exact box4_new _ _ _ _ _ _ (by simp)
 have HB : Below w.heap.size w W := by rw [hW]; exact ((Below.refl _ _).alloc (Nat.le_refl _) _).alloc (by simp) _
 have cR := lookRight_any a a' b n c n' c' p f bs ns ps root gen W hn hn' hp (hB.below HB) (hB'.below HB) (hP.below HB)
 obtain ⟨⟨r0, r1, r2, r3⟩, f0, f1, f2, f3⟩ := id (hW ▸ BR)
 obtain ⟨x0, x1, x2, x3, x4⟩ := id (hW ▸ BW)
 have hle : w.heap.size ≤ w.heap.size + 1 := by omega
 cases hR : rightW bs ns ps root gen with
 | false =>
  rw [hR] at cR
  clear hn hn' hp hB hB' hP hR
  go_enter Tryz.func171, Tryz.ntmps171
  go_wp2_with (
   (go_at_call 56; rw [← hW]; refine cR.mono ?_; rintro y w1 ⟨rfl, hb⟩; replace HB := Below.tr HB hb; replace BR := BR.below hb; replace BW := BW.below hb; clear r0 r1 r2 r3 f0 f1 f2 f3 x0 x1 x2 x3 x4; obtain ⟨⟨r0, r1, r2, r3⟩, f0, f1, f2, f3⟩ := id BR; obtain ⟨x0, x1, x2, x3, x4⟩ := id BW; clear hb))
  refine bodyPost_ret (v := .tuple #[.agg #[.bool false, .slice none 0 0, .slice none 0 0, .slice none 0 0], .int .i64 1]) (by simp [results, Tryz.results171, go_sem, r0, r1, r2, r3]) rfl ?_
  exact answers_none (below_put4 HB hle _ _ _ _)
 | true =>
  rw [hR] at cR
  have hpn : p = n' := by rw [hp, hn']; exact rightW_len hR
  obtain ⟨O, hO⟩ : ∃ O, O = holdsS ns ps gen block rt := ⟨_, rfl⟩
  rw [← hO]
  simp only [loadC_true]
  obtain ⟨⟨nl, nk, nv, nc⟩, hN⟩ : ∃ x, x = nodeO O := ⟨_, rfl⟩
  obtain ⟨nE, hE⟩ : ∃ x, x = errO O := ⟨_, rfl⟩
  rw [← hN, ← hE]
  have cL : ∀ (h : Nat) U, Below w.heap.size w U → WoodBox U h (.slice a n c) (.slice a' n' c') (.slice b p f) (.int .i64 root) (.int .i64 gen) → Calls Tryz.prog 184 #[.pointer (some ⟨h, 0, none⟩), .int .i64 block, .bool rt] U fun x V' => Answers U x V' nl nk nv nc nE := fun h U hU hb => by
   refine (load_any h a a' b n c n' c' p f ns ps root gen block rt U hn' hp hpn hb (hB'.below hU) (hP.below hU)).mono fun x V' hx => ?_
   rw [← hO, loadC_true, ← hN, ← hE] at hx
   exact hx
  clear hn hn' hp hB hB' hP hR hO hpn hN hE
  go_enter Tryz.func171, Tryz.ntmps171
  go_wp2_with (first
   | (go_at_call 56; rw [← hW]; refine cR.mono ?_; rintro y w1 ⟨rfl, hb⟩; replace HB := Below.tr HB hb; replace BR := BR.below hb; replace BW := BW.below hb; clear r0 r1 r2 r3 f0 f1 f2 f3 x0 x1 x2 x3 x4; obtain ⟨⟨r0, r1, r2, r3⟩, f0, f1, f2, f3⟩ := id BR; obtain ⟨x0, x1, x2, x3, x4⟩ := id BW; clear hb)
   | (go_at_call 184; have hA : Below w1.heap.size w1 (w1.alloc (.cells #[.slice a n c, .slice a' n' c', .slice b p f, .int .i64 root, .int .i64 gen, .int .i64 0] 239)) := (Below.refl _ _).alloc (Nat.le_refl _) _; have BK := walkBox_new w1 (.slice a n c) (.slice a' n' c') (.slice b p f) (.int .i64 root) (.int .i64 gen) 0 239 rfl; refine (cL _ _ (Below.tr HB hA) BK.1).mono ?_; rintro y w2 ⟨k1, a1, d1, k2, a2, d2, k3, a3, d3, rfl, e1, e2, e3, i1, i2, i3, j1, j2, j3, hb⟩; have hlo : w.heap.size + 2 ≤ (w1.alloc (.cells #[.slice a n c, .slice a' n' c', .slice b p f, .int .i64 root, .int .i64 gen, .int .i64 0] 239)).heap.size := (by have := BR.lt; simp; omega); replace HB := Below.tr (Below.tr HB hA) hb; replace BR := (BR.below hA).below hb; clear r0 r1 r2 r3 f0 f1 f2 f3 x0 x1 x2 x3 x4 BW BK; obtain ⟨⟨r0, r1, r2, r3⟩, f0, f1, f2, f3⟩ := id BR; have E : Hid (k1 = nk.length ∧ k2 = nv.length ∧ k3 = nc.length) := ⟨e1, e2, e3⟩; have I : Hid (IsS w2 a1 d1 nk ∧ IsS w2 a2 d2 nv ∧ IsI w2 a3 d3 nc) := ⟨i1, i2, i3⟩; have J : Hid (From (w.heap.size + 2) a1 ∧ From (w.heap.size + 2) a2 ∧ From (w.heap.size + 2) a3) := ⟨j1.mono hlo, j2.mono hlo, j3.mono hlo⟩; clear hb hA hlo e1 e2 e3 i1 i2 i3 j1 j2 j3))
  have T4 := turns_put4 w2 (w.heap.size + 1) (.bool nl) (.slice a1 k1 d1) (.slice a2 k2 d2) (.slice a3 k3 d3)
  obtain ⟨j1, j2, j3⟩ := J.out
  refine bodyPost_ret (v := .tuple #[.agg #[.bool nl, .slice a1 k1 d1, .slice a2 k2 d2, .slice a3 k3 d3], .int .i64 nE]) (by simp [results, Tryz.results171, go_sem, r0, r1, r2, r3]) rfl ?_
  exact ⟨k1, a1, d1, k2, a2, d2, k3, a3, d3, rfl, E.out.1, E.out.2.1, E.out.2.2, I.out.1.turns T4 (fun x hx e => by have := j1 x hx; omega), I.out.2.1.turns T4 (fun x hx e => by have := j2 x hx; omega), I.out.2.2.turns T4 (fun x hx e => by have := j3 x hx; omega), j1.mono (by omega), j2.mono (by omega), j3.mono (by omega), below_put4 HB hle _ _ _ _⟩
theorem str_empty {s : ByteArray} (h : s.size = 0) : s = ⟨#[]⟩ := by
 have h3 : s.data.size = 0 := h
 cases s with
 | mk d => simp at h3; subst h3; rfl
theorem str_full {s : ByteArray} (h : ¬ s.size = 0) : s.toList.isEmpty = false := by
 have h3 : ¬ s.toList = [] := fun e => h (by rw [ByteArray.toList_eq] at e; exact (size_list s).symm.trans (by rw [e]; rfl))
 cases hh : s.toList with
 | nil => exact absurd hh h3
 | cons _ _ => rfl
theorem getD_some {α : Type} {xs : List α} {i : Nat} {x d : α} (h : xs[i]? = some x) : xs.getD i d = x := by rw [List.getD_eq_getElem?_getD, h]; rfl
set_option maxRecDepth 20000 in
set_option maxHeartbeats 1000000 in
theorem placeWithin_any (block depth : Int) (low high : ByteArray) (a : Option Addr) (n c : Nat) (ks : List ByteArray) (w : World) (hn : n = ks.length) (hK : IsS w a c ks) :
  Calls Tryz.prog 172 #[.agg #[.int .i64 block, .int .i64 depth, .string low, .string high], .slice a n c] w fun e w' => e = .returned (.bool (withinK ks low high)) ∧ Below w.heap.size w w' := by
 have HB : Below w.heap.size w (w.alloc (.cells #[.int .i64 block, .int .i64 depth, .string low, .string high] 202)) := (Below.refl _ _).alloc (Nat.le_refl _) _
 obtain ⟨⟨x0, x1, x2, x3⟩, -⟩ := box4_new w (.int .i64 block) (.int .i64 depth) (.string low) (.string high) 202 rfl
 have mn : n ≤ 9223372036854775807 := by rw [hn]; exact Nat.le_trans hK.1 hK.2.1
 obtain ⟨r, hr⟩ : ∃ r, r = withinK ks low high := ⟨_, rfl⟩
 rw [← hr]
 cases ks with
 | nil =>
  have hrf : Hid (r = false) := by show _ = _; rw [hr]; rfl
  simp at hn
  subst hn
  clear hr hK
  go_enter Tryz.func172, Tryz.ntmps172
  go_wp2
  go_ret
  exact ⟨by rw [hrf.out]; rfl, HB⟩
 | cons k ks =>
  have hl : (k :: ks).length - 1 < (k :: ks).length := by simp
  obtain ⟨z, hz⟩ : ∃ z, (k :: ks)[(k :: ks).length - 1]? = some z := ⟨_, List.getElem?_eq_getElem hl⟩
  obtain ⟨b, o, rfl, -, hc0, -⟩ := hK.2.2 0 k rfl
  obtain ⟨b', o', heq, -, hc1, -⟩ := hK.2.2 _ z hz
  cases heq
  have hr1 : r = (!ltB k low && (decide (high.size = 0) || ltB z high)) := by rw [hr]; unfold withinK; rw [getD_some hz]; rfl
  rw [← hn] at hc1
  have z0 := cell_alloc hc0 (.cells #[.int .i64 block, .int .i64 depth, .string low, .string high] 202)
  have z1 := cell_alloc hc1 (.cells #[.int .i64 block, .int .i64 depth, .string low, .string high] 202)
  rw [Nat.add_zero] at z0
  obtain ⟨m, hm⟩ : ∃ m, n = m + 1 := ⟨n - 1, by rw [hn]; simp⟩
  subst hm
  rw [Nat.add_sub_cancel] at z1
  have k0 : (0 : Int) < ((m + 1 : Nat) : Int) := by omega
  have k1 : ¬ ((m + 1 : Nat) : Int) = 0 := by omega
  have k2 : ((m : Nat) : Int) < ((m + 1 : Nat) : Int) := by omega
  have k3 : ((m + 1 : Nat) : Int) - 1 = m := by omega
  clear hr hn hK hz hl hc0 hc1
  cases h1 : ltB k low with
  | true =>
   have h1' : Op.bytesLess k.toList low.toList = true := h1
   have hrf : Hid (r = false) := by show _ = _; rw [hr1, h1]; rfl
   clear hr1 h1
   go_enter Tryz.func172, Tryz.ntmps172
   go_wp2
   go_region
   go_wp2
   go_ret
   exact ⟨by rw [hrf.out]; rfl, HB.drew⟩
  | false =>
   have h1' : Op.bytesLess k.toList low.toList = false := h1
   by_cases h2 : high.size = 0
   ·
    obtain rfl := str_empty h2
    have hrf : Hid (r = true) := by show _ = _; rw [hr1, h1]; rfl
    clear hr1 h1
    go_enter Tryz.func172, Tryz.ntmps172
    go_wp2
    go_region
    go_wp2
    go_ret
    exact ⟨by rw [hrf.out]; rfl, HB.drew⟩
   ·
    have h5 := str_full h2
    cases h4 : ltB z high with
    | true =>
     have h4' : Op.bytesLess z.toList high.toList = true := h4
     have hrf : Hid (r = true) := by show _ = _; rw [hr1, h1, h4]; simp
     clear hr1 h1 h2 h4
     go_enter Tryz.func172, Tryz.ntmps172
     go_wp2
     go_region
     go_wp2
     go_ret
     exact ⟨by rw [hrf.out]; rfl, HB.drew⟩
    | false =>
     have h4' : Op.bytesLess z.toList high.toList = false := h4
     have hrf : Hid (r = false) := by show _ = _; rw [hr1, h1, h4]; simp [h2]
     clear hr1 h1 h2 h4
     go_enter Tryz.func172, Tryz.ntmps172
     go_wp2
     go_region
     go_wp2
     go_ret
     exact ⟨by rw [hrf.out]; rfl, HB.drew⟩
set_option maxRecDepth 20000 in
set_option maxHeartbeats 2000000 in
theorem placeBelow_any (block depth : Int) (low high : ByteArray) (l : Bool) (a a' a'' : Option Addr) (n c n' c' n'' c'' : Nat) (ks vs : List ByteArray) (cs : List Int) (i : Nat) (kb : Int) (w : World) (e1 : n = ks.length) (e3 : n'' = cs.length) (i1 : IsS w a c ks) (i3 : IsI w a'' c'' cs) (hi : cs[i]? = some kb) (hc : cs.length = ks.length + 1) (hd : 0 ≤ depth ∧ depth ≤ 100) :
  Calls Tryz.prog 174 #[.agg #[.int .i64 block, .int .i64 depth, .string low, .string high], .agg #[.bool l, .slice a n c, .slice a' n' c', .slice a'' n'' c''], .int .i64 i] w fun e w' => e = .returned (.agg #[.int .i64 kb, .int .i64 (depth + 1), .string (kidFrom low ks i), .string (kidTo high ks i)]) ∧ Below w.heap.size w w' := by
 obtain ⟨W, hW⟩ : ∃ W, W = ((w.alloc (.cells #[.int .i64 block, .int .i64 depth, .string low, .string high] 202)).alloc (.cells #[.bool l, .slice a n c, .slice a' n' c', .slice a'' n'' c''] 205)).alloc (.cells #[.int .i64 0, .int .i64 0, .string ⟨#[]⟩, .string ⟨#[]⟩] 202) := ⟨_, rfl⟩
 have HB : Below w.heap.size w W := by rw [hW]; exact (((Below.refl _ _).alloc (Nat.le_refl _) _).alloc (by simp) _).alloc (by simp only [World.size_alloc]; omega) _
 have BP : Box4 W w.heap.size (.int .i64 block) (.int .i64 depth) (.string low) (.string high) := by rw [hW]; exact ((box4_new _ _ _ _ _ _ rfl).alloc _).alloc _
 have BN : Box4 W (w.heap.size + 1) (.bool l) (.slice a n c) (.slice a' n' c') (.slice a'' n'' c'') := by rw [hW]; exact (box4_new _ _ _ _ _ _ (by simp)).alloc _
 have BR : Box4 W (w.heap.size + 1 + 1) (.int .i64 0) (.int .i64 0) (.string ⟨#[]⟩) (.string ⟨#[]⟩) := by rw [hW]; exact box4_new _ _ _ _ _ _ (by simp)
 have mn : n ≤ 9223372036854775807 := by rw [e1]; exact Nat.le_trans i1.1 i1.2.1
 have mn'' : n'' ≤ 9223372036854775807 := by rw [e3]; exact Nat.le_trans i3.1 i3.2.1
 have hil := (List.getElem?_eq_some_iff.1 hi).1
 have hi' : (i : Int) < n'' := by omega
 obtain ⟨b, o, rfl, -, hc0⟩ := i3.2.2 i kb hi
 have z := cell_below HB hc0
 have hdw : IntKind.i64.wrap (depth + 1) = depth + 1 := by rw [IntKind.wrap_i64]; omega
 obtain ⟨x, hx⟩ : ∃ x, x = kidFrom low ks i := ⟨_, rfl⟩
 obtain ⟨y, hy⟩ : ∃ y, y = kidTo high ks i := ⟨_, rfl⟩
 rw [← hx, ← hy]
 obtain ⟨⟨p0, p1, p2, p3⟩, -⟩ := id (hW ▸ BP)
 obtain ⟨⟨q0, q1, q2, q3⟩, -⟩ := id (hW ▸ BN)
 obtain ⟨⟨r0, r1, r2, r3⟩, f0, f1, f2, f3⟩ := id (hW ▸ BR)
 rw [hW] at z
 have z' := cell_alloc z (.cells #[.int .i64 0, .int .i64 0, .string ⟨#[]⟩, .string ⟨#[]⟩] 202)
 have E1 : Hid (n = ks.length ∧ n'' = cs.length ∧ cs.length = ks.length + 1) := ⟨e1, e3, hc⟩
 have I1 : Hid (IsS w a c ks) := i1
 have X : Hid (x = kidFrom low ks i ∧ y = kidTo high ks i) := ⟨hx, hy⟩
 clear e1 e3 hc hi hil i1 i3 hc0 hx hy
 go_enter Tryz.func174, Tryz.ntmps174
 go_wp2
 go_region
 rw [← hW]
 have HU : Below W.heap.size W (W.alloc (.cells #[.int .i64 kb, .int .i64 (depth + 1), .string low, .string high] 202)).drew := ((Below.refl _ _).alloc (Nat.le_refl _) _).drew
 have hWs : W.heap.size = w.heap.size + 1 + 1 + 1 := by rw [hW]; simp
 have BK : Box4 (W.alloc (.cells #[.int .i64 kb, .int .i64 (depth + 1), .string low, .string high] 202)).drew (w.heap.size + 1 + 1 + 1) (.int .i64 kb) (.int .i64 (depth + 1)) (.string low) (.string high) := (box4_new _ _ _ _ _ _ hWs.symm).drew
 generalize (W.alloc (.cells #[.int .i64 kb, .int .i64 (depth + 1), .string low, .string high] 202)).drew = U at HU BK ⊢
 replace HB := Below.tr HB HU
 replace BN := BN.below HU
 replace BR := BR.below HU
 clear p0 p1 p2 p3 q0 q1 q2 q3 r0 r1 r2 r3 f0 f1 f2 f3 z z' hW BP HU hWs
 have hil : i ≤ ks.length := by have := E1.out; omega
 by_cases h0 : i = 0
 ·
  by_cases h1 : i < ks.length
  ·
   obtain ⟨⟨q0, q1, q2, q3⟩, -⟩ := id BN
   obtain ⟨⟨k0, k1, k2, k3⟩, kf0, kf1, kf2, kf3⟩ := id BK
   obtain rfl : x = low := by rw [X.out.1]; unfold kidFrom; rw [if_pos h0]
   have hm0 : ¬ (0 : Int) < i := by omega
   obtain ⟨ky, hky⟩ : ∃ k, Hid (ks[i]? = some k) := get_some h1
   obtain ⟨b1, o1, rfl, hlt1, hc2, -⟩ := I1.out.2.2 i ky hky.out
   have zk := cell_below HB hc2
   obtain rfl : y = ky := by rw [X.out.2]; unfold kidTo; rw [if_pos h1]; exact getD_some hky.out
   have hn1 : (i : Int) < n := by have := E1.out; omega
   replace BK := BK.set3 (.string y)
   replace BR := BR.other (p := ⟨w.heap.size + 1 + 1 + 1, 3, none⟩) (by simp) (.string y)
   replace HB : Below w.heap.size w (U.setCell ⟨w.heap.size + 1 + 1 + 1, 3, none⟩ (.string y)) := HB.setCell (by simp; omega) _
   obtain ⟨⟨u0, u1, u2, u3⟩, -⟩ := id BK
   obtain ⟨⟨r0, r1, r2, r3⟩, rf0, rf1, rf2, rf3⟩ := id BR
   clear hil h0 h1 X E1 I1 BN BK BR hd mn'' hi' hky hc2 hlt1
   go_wp2
   refine bodyPost_ret (v := .agg #[.int .i64 kb, .int .i64 (depth + 1), .string x, .string y]) (by simp [results, Tryz.results174, go_sem, r0, r1, r2, r3]) rfl ?_
   exact ⟨rfl, below_put4 HB (by omega) _ _ _ _⟩
  ·
   obtain ⟨⟨q0, q1, q2, q3⟩, -⟩ := id BN
   obtain ⟨⟨k0, k1, k2, k3⟩, kf0, kf1, kf2, kf3⟩ := id BK
   obtain rfl : x = low := by rw [X.out.1]; unfold kidFrom; rw [if_pos h0]
   have hm0 : ¬ (0 : Int) < i := by omega
   obtain rfl : y = high := by rw [X.out.2]; unfold kidTo; rw [if_neg h1]
   have hn1 : ¬ (i : Int) < n := by have := E1.out; omega
   obtain ⟨⟨r0, r1, r2, r3⟩, rf0, rf1, rf2, rf3⟩ := id BR
   clear hil h0 h1 X E1 I1 BN BK BR hd mn'' hi'
   go_wp2
   refine bodyPost_ret (v := .agg #[.int .i64 kb, .int .i64 (depth + 1), .string x, .string y]) (by simp [results, Tryz.results174, go_sem, r0, r1, r2, r3]) rfl ?_
   exact ⟨rfl, below_put4 HB (by omega) _ _ _ _⟩
 ·
  by_cases h1 : i < ks.length
  ·
   obtain ⟨⟨q0, q1, q2, q3⟩, -⟩ := id BN
   obtain ⟨⟨k0, k1, k2, k3⟩, kf0, kf1, kf2, kf3⟩ := id BK
   obtain ⟨m, hm⟩ : ∃ m : Nat, (i : Int) - 1 = m := ⟨i - 1, by omega⟩
   obtain ⟨kx, hkx⟩ : ∃ k, Hid (ks[m]? = some k) := get_some (by omega)
   obtain ⟨b1, o1, rfl, hlt1, hc1, -⟩ := I1.out.2.2 m kx hkx.out
   have zm := cell_below HB hc1
   have hm1 : (m : Int) < n := by have := E1.out; omega
   obtain rfl : x = kx := by rw [X.out.1]; unfold kidFrom; rw [if_neg h0, show i - 1 = m by omega]; exact getD_some hkx.out
   replace BK := BK.set2 (.string x)
   replace BN := BN.other (p := ⟨w.heap.size + 1 + 1 + 1, 2, none⟩) (fun e => by have e' : w.heap.size + 1 + 1 + 1 = w.heap.size + 1 := e; omega) (.string x)
   replace BR := BR.other (p := ⟨w.heap.size + 1 + 1 + 1, 2, none⟩) (by simp) (.string x)
   replace HB : Below w.heap.size w (U.setCell ⟨w.heap.size + 1 + 1 + 1, 2, none⟩ (.string x)) := HB.setCell (by simp; omega) _
   obtain ⟨⟨s0, s1, s2, s3⟩, -⟩ := id BN
   obtain ⟨⟨t0, t1, t2, t3⟩, tf0, tf1, tf2, tf3⟩ := id BK
   have hm0 : (0 : Int) < i := by omega
   obtain ⟨ky, hky⟩ : ∃ k, Hid (ks[i]? = some k) := get_some h1
   obtain ⟨b2, o2, heq, -, hc2, -⟩ := I1.out.2.2 i ky hky.out
   cases heq
   have zk := cell_below HB hc2
   obtain rfl : y = ky := by rw [X.out.2]; unfold kidTo; rw [if_pos h1]; exact getD_some hky.out
   have hn1 : (i : Int) < n := by have := E1.out; omega
   replace BK := BK.set3 (.string y)
   replace BR := BR.other (p := ⟨w.heap.size + 1 + 1 + 1, 3, none⟩) (by simp) (.string y)
   replace HB : Below w.heap.size w ((U.setCell ⟨w.heap.size + 1 + 1 + 1, 2, none⟩ (.string x)).setCell ⟨w.heap.size + 1 + 1 + 1, 3, none⟩ (.string y)) := HB.setCell (by simp; omega) _
   obtain ⟨⟨u0, u1, u2, u3⟩, -⟩ := id BK
   obtain ⟨⟨r0, r1, r2, r3⟩, rf0, rf1, rf2, rf3⟩ := id BR
   clear hil h0 h1 X E1 I1 BN BK BR hd mn'' hi' hkx hlt1 hc1 hky hc2
   go_wp2
   refine bodyPost_ret (v := .agg #[.int .i64 kb, .int .i64 (depth + 1), .string x, .string y]) (by simp [results, Tryz.results174, go_sem, r0, r1, r2, r3]) rfl ?_
   exact ⟨rfl, below_put4 HB (by omega) _ _ _ _⟩
  ·
   obtain ⟨⟨q0, q1, q2, q3⟩, -⟩ := id BN
   obtain ⟨⟨k0, k1, k2, k3⟩, kf0, kf1, kf2, kf3⟩ := id BK
   obtain ⟨m, hm⟩ : ∃ m : Nat, (i : Int) - 1 = m := ⟨i - 1, by omega⟩
   obtain ⟨kx, hkx⟩ : ∃ k, Hid (ks[m]? = some k) := get_some (by omega)
   obtain ⟨b1, o1, rfl, hlt1, hc1, -⟩ := I1.out.2.2 m kx hkx.out
   have zm := cell_below HB hc1
   have hm1 : (m : Int) < n := by have := E1.out; omega
   obtain rfl : x = kx := by rw [X.out.1]; unfold kidFrom; rw [if_neg h0, show i - 1 = m by omega]; exact getD_some hkx.out
   replace BK := BK.set2 (.string x)
   replace BN := BN.other (p := ⟨w.heap.size + 1 + 1 + 1, 2, none⟩) (fun e => by have e' : w.heap.size + 1 + 1 + 1 = w.heap.size + 1 := e; omega) (.string x)
   replace BR := BR.other (p := ⟨w.heap.size + 1 + 1 + 1, 2, none⟩) (by simp) (.string x)
   replace HB : Below w.heap.size w (U.setCell ⟨w.heap.size + 1 + 1 + 1, 2, none⟩ (.string x)) := HB.setCell (by simp; omega) _
   obtain ⟨⟨s0, s1, s2, s3⟩, -⟩ := id BN
   obtain ⟨⟨t0, t1, t2, t3⟩, tf0, tf1, tf2, tf3⟩ := id BK
   have hm0 : (0 : Int) < i := by omega
   obtain rfl : y = high := by rw [X.out.2]; unfold kidTo; rw [if_neg h1]
   have hn1 : ¬ (i : Int) < n := by have := E1.out; omega
   obtain ⟨⟨r0, r1, r2, r3⟩, rf0, rf1, rf2, rf3⟩ := id BR
   clear hil h0 h1 X E1 I1 BN BK BR hd mn'' hi' hkx hlt1 hc1
   go_wp2
   refine bodyPost_ret (v := .agg #[.int .i64 kb, .int .i64 (depth + 1), .string x, .string y]) (by simp [results, Tryz.results174, go_sem, r0, r1, r2, r3]) rfl ?_
   exact ⟨rfl, below_put4 HB (by omega) _ _ _ _⟩
end Go.Proofs.YtaobfgplheoefaaGreat
namespace Go.Proofs.YtaobfgplheoefaaGreat
namespace Plain
def Room (c : ClimbS) : Prop := c.blocks + howN (freeB [] c.held) c.held.length ≤ 10000 ∧ c.pairs ≤ 9 * c.blocks
theorem room_take {c : ClimbS} (h : Room c) {b : Int} (h1 : 0 ≤ b) (h2 : b < c.held.length) (h3 : atB c.held b.toNat = false) : Room (c.take b) ∧ c.pairs + 9 ≤ 9 * (c.take b).blocks := by
 have hf : freeB [] c.held b.toNat = true := (freeB_iff _ _ _).2 ⟨by omega, h3, rfl⟩
 have := (free_taken hf).2.2
 unfold Room at h ⊢
 have e1 : (c.take b).held.length = c.held.length := by show (c.held.set _ _).length = _; rw [List.length_set]
 have e2 : (c.take b).blocks = c.blocks + 1 := rfl
 have e3 : (c.take b).pairs = c.pairs := rfl
 have e4 : (c.take b).held = c.held.set b.toNat true := rfl
 rw [e1, e2, e3, e4]
 omega
theorem room_leaf {c : ClimbS} (h : Room c) {m : Nat} {d : Int} (hm : c.pairs + m ≤ 9 * c.blocks) : Room (leafC m d c).2 := by
 unfold leafC
 split
 ·
  exact ⟨h.1, hm⟩
 ·
  exact h
theorem room_climb {H : Int → Bool → Option NodeS} (hH : ∀ b r (n : NodeS), H b r = some n → n.2.1.length ≤ 9) : ∀ (k : Nat) (c : ClimbS) (block : Int) (low high : ByteArray), Room c → Room (climbS H k c block low high).2
 | 0, c, block, low, high, h => h
 | k + 1, c, block, low, high, h => by
  have fold : ∀ (l : List (Int × ByteArray × ByteArray)) (r : Int × ClimbS), Room r.2 → Room (l.foldl (fun (r : Int × ClimbS) (x : Int × ByteArray × ByteArray) => if r.1 = 0 then climbS H k r.2 x.1 x.2.1 x.2.2 else r) r).2 := by
   intro l
   induction l with
   | nil => exact fun r hr => hr
   | cons x l ih =>
    intro r hr
    rw [List.foldl_cons]
    refine ih _ ?_
    split
    ·
     exact room_climb hH k r.2 _ _ _ hr
    ·
     exact hr
  rw [climbS]
  split
  ·
   exact h
  ·
   rename_i n hn
   split
   ·
    rename_i hc
    obtain ⟨h1, h2⟩ := room_take h hc.2.1 hc.2.2.1 hc.2.2.2
    split
    ·
     have := hH _ _ _ hn
     exact room_leaf h1 (by show c.pairs + _ ≤ _; omega)
    ·
     exact fold _ _ h1
   ·
    exact h
end Plain
open Go.RowKit Plain
set_option linter.unusedVariables false
theorem RowT.turns {P : Nat → Prop} {w w' : World} {g cap : Nat} {l : List Bool} (h : RowT w g cap l) (t : Turns P w w') (hp : ¬ P g) : RowT w' g cap l := by
 have hl := h.lt
 obtain ⟨cur, hg, hr⟩ := h
 exact ⟨cur, by rw [t.block g hl hp]; exact hg, hr⟩
structure ClimbAt (V : World) (h g N : Nat) (v0 v1 v2 v3 v4 : Value) (c : ClimbS) : Prop where
 wb : WoodBox V h v0 v1 v2 v3 v4
 c5 : V.cell? ⟨h, 5, none⟩ = some (.int .i64 c.pairs)
 c6 : V.cell? ⟨h, 6, none⟩ = some (.int .i64 c.height)
 c7 : V.cell? ⟨h, 7, none⟩ = some (.int .i64 c.blocks)
 c8 : V.cell? ⟨h, 8, none⟩ = some (.slice (some ⟨g, 0, none⟩) N N)
 f5 : V.frozen? ⟨h, 5, none⟩ = false
 f6 : V.frozen? ⟨h, 6, none⟩ = false
 f7 : V.frozen? ⟨h, 7, none⟩ = false
 row : RowT V g N c.held
 len : c.held.length = N
 ne : h ≠ g
section
variable {V V' : World} {h g N : Nat} {v0 v1 v2 v3 v4 : Value} {c : ClimbS}
theorem ClimbAt.lt (n : ClimbAt V h g N v0 v1 v2 v3 v4 c) : h < V.heap.size := cell_lt n.c5
theorem ClimbAt.turns {P : Nat → Prop} (n : ClimbAt V h g N v0 v1 v2 v3 v4 c) (t : Turns P V V') (h1 : ¬ P h) (h2 : ¬ P g) : ClimbAt V' h g N v0 v1 v2 v3 v4 c :=
 ⟨n.wb.turns t h1, t.cell (p := ⟨h, 5, none⟩) h1 n.c5, t.cell (p := ⟨h, 6, none⟩) h1 n.c6, t.cell (p := ⟨h, 7, none⟩) h1 n.c7, t.cell (p := ⟨h, 8, none⟩) h1 n.c8, t.frozen (p := ⟨h, 5, none⟩) n.lt h1 n.f5, t.frozen (p := ⟨h, 6, none⟩) n.lt h1 n.f6, t.frozen (p := ⟨h, 7, none⟩) n.lt h1 n.f7, n.row.turns t h2, n.len, n.ne⟩
theorem ClimbAt.below (n : ClimbAt V h g N v0 v1 v2 v3 v4 c) (hb : Below V.heap.size V V') : ClimbAt V' h g N v0 v1 v2 v3 v4 c := n.turns (P := fun _ => False) (Turns.of_below hb) id id
theorem ClimbAt.box (n : ClimbAt V h g N v0 v1 v2 v3 v4 c) (j : Nat) (u : Value) (hj : 5 ≤ j) : WoodBox (V.setCell ⟨h, j, none⟩ u) h v0 v1 v2 v3 v4 ∧ RowT (V.setCell ⟨h, j, none⟩ u) g N c.held ∧ (∀ i x, i ≠ j → V.cell? ⟨h, i, none⟩ = some x → (V.setCell ⟨h, j, none⟩ u).cell? ⟨h, i, none⟩ = some x) ∧ ∀ i, V.frozen? ⟨h, i, none⟩ = false → (V.setCell ⟨h, j, none⟩ u).frozen? ⟨h, i, none⟩ = false := by
 have o : ∀ i x, i ≠ j → V.cell? ⟨h, i, none⟩ = some x → (V.setCell ⟨h, j, none⟩ u).cell? ⟨h, i, none⟩ = some x := fun i x hi hx => by rw [World.cell?_setCell_other _ _ _ _ (fun hh => hi (by cases hh; rfl))]; exact hx
 obtain ⟨b0, b1, b2, b3, b4⟩ := n.wb
 exact ⟨⟨o 0 _ (by omega) b0, o 1 _ (by omega) b1, o 2 _ (by omega) b2, o 3 _ (by omega) b3, o 4 _ (by omega) b4⟩, n.row.turns (Turns.setCell (P := fun k => k = h) (Turns.refl _ _) (p := ⟨h, j, none⟩) rfl u) (fun e => n.ne e.symm), o, fun i hi => by rw [World.frozen?_setCell]; exact hi⟩
theorem ClimbAt.set5 (n : ClimbAt V h g N v0 v1 v2 v3 v4 c) (m : Nat) : ClimbAt (V.setCell ⟨h, 5, none⟩ (.int .i64 m)) h g N v0 v1 v2 v3 v4 ⟨c.held, m, c.height, c.blocks⟩ := by
 obtain ⟨hw, hr, o, f⟩ := n.box 5 (.int .i64 m) (by decide)
 exact ⟨hw, World.cell?_setCell_same _ _ _ n.c5, o 6 _ (by decide) n.c6, o 7 _ (by decide) n.c7, o 8 _ (by decide) n.c8, f 5 n.f5, f 6 n.f6, f 7 n.f7, hr, n.len, n.ne⟩
theorem ClimbAt.set6 (n : ClimbAt V h g N v0 v1 v2 v3 v4 c) (m : Int) : ClimbAt (V.setCell ⟨h, 6, none⟩ (.int .i64 m)) h g N v0 v1 v2 v3 v4 ⟨c.held, c.pairs, m, c.blocks⟩ := by
 obtain ⟨hw, hr, o, f⟩ := n.box 6 (.int .i64 m) (by decide)
 exact ⟨hw, o 5 _ (by decide) n.c5, World.cell?_setCell_same _ _ _ n.c6, o 7 _ (by decide) n.c7, o 8 _ (by decide) n.c8, f 5 n.f5, f 6 n.f6, f 7 n.f7, hr, n.len, n.ne⟩
theorem ClimbAt.set7 (n : ClimbAt V h g N v0 v1 v2 v3 v4 c) (m : Nat) : ClimbAt (V.setCell ⟨h, 7, none⟩ (.int .i64 m)) h g N v0 v1 v2 v3 v4 ⟨c.held, c.pairs, c.height, m⟩ := by
 obtain ⟨hw, hr, o, f⟩ := n.box 7 (.int .i64 m) (by decide)
 exact ⟨hw, o 5 _ (by decide) n.c5, o 6 _ (by decide) n.c6, World.cell?_setCell_same _ _ _ n.c7, o 8 _ (by decide) n.c8, f 5 n.f5, f 6 n.f6, f 7 n.f7, hr, n.len, n.ne⟩
theorem ClimbAt.hold (n : ClimbAt V h g N v0 v1 v2 v3 v4 c) (j : Nat) (x : Bool) : ClimbAt (V.setCell ⟨g, j, none⟩ (.bool x)) h g N v0 v1 v2 v3 v4 ⟨c.held.set j x, c.pairs, c.height, c.blocks⟩ := by
 have t : Turns (fun k => k = g) V (V.setCell ⟨g, j, none⟩ (.bool x)) := Turns.setCell (P := fun k => k = g) (Turns.refl _ _) (p := ⟨g, j, none⟩) rfl _
 exact ⟨n.wb.turns t n.ne, t.cell (p := ⟨h, 5, none⟩) n.ne n.c5, t.cell (p := ⟨h, 6, none⟩) n.ne n.c6, t.cell (p := ⟨h, 7, none⟩) n.ne n.c7, t.cell (p := ⟨h, 8, none⟩) n.ne n.c8, t.frozen (p := ⟨h, 5, none⟩) n.lt n.ne n.f5, t.frozen (p := ⟨h, 6, none⟩) n.lt n.ne n.f6, t.frozen (p := ⟨h, 7, none⟩) n.lt n.ne n.f7, n.row.set j x, by rw [List.length_set]; exact n.len, n.ne⟩
end
set_option maxRecDepth 20000 in
set_option maxHeartbeats 2000000 in
theorem hold_any (V : World) (h g N : Nat) (v0 v1 v2 v3 v4 : Value) (c : ClimbS) (a : Option Addr) (cap n : Nat) (bs : List Int) (hn : n = bs.length) (hI : IsI V a cap bs) (ha : bs ≠ [] → ∀ x, a = some x → x.block ≠ g) (D : ClimbAt V h g N v0 v1 v2 v3 v4 c) (hN : N ≤ 9223372036854775807) :
  Calls Tryz.prog 129 #[.pointer (some ⟨h, 0, none⟩), .slice a n cap] V fun e V' => e = .returned (.bool (holdL c.held bs).1) ∧ ClimbAt V' h g N v0 v1 v2 v3 v4 ⟨(holdL c.held bs).2, c.pairs, c.height, c.blocks⟩ ∧ Turns (fun k => k = g) V V' := by
 obtain ⟨R, hR⟩ : ∃ R, R = holdL c.held bs := ⟨_, rfl⟩
 rw [← hR]
 have HR : Hid (R = holdL c.held (bs.drop 0)) := hR
 have mn : n ≤ 9223372036854775807 := by rw [hn]; exact Nat.le_trans hI.1 hI.2.1
 have EN : Hid (n = bs.length) := hn
 have RI : Hid (IsI V a cap bs) := hI
 clear hR hn hI
 go_enter Tryz.func129, Tryz.ntmps129
 go_wp2
 go_loopw [9] (fun v wr => ∃ (j : Nat) (l : List Bool), j ≤ n ∧ v = .int .i64 j ∧ R = holdL l (bs.drop j) ∧ ClimbAt wr h g N v0 v1 v2 v3 v4 ⟨l, c.pairs, c.height, c.blocks⟩ ∧ Turns (fun k => k = g) V wr) (fun v _ => n - (intOf v).toNat)
 case atStart => exact ⟨0, c.held, by omega, rfl, HR.out, D, Turns.refl _ _⟩
 case round =>
  clear D HR
  obtain ⟨j, l, hj, rfl, hA, D, T⟩ := hrel
  have HA : Hid (R = holdL l (bs.drop j)) := hA
  clear hA
  have x8 := D.c8
  by_cases hlt : j < n
  ·
   have hlt' : (j : Int) < n := by omega
   obtain ⟨b, hb⟩ : ∃ x, Hid (bs[j]? = some x) := get_some (by rw [← EN.out]; exact hlt)
   obtain ⟨b1, o1, rfl, -, hc⟩ := RI.out.2.2 j b hb.out
   have hne := ha (fun e => by have := hb.out; rw [e] at this; simp at this) _ rfl
   have z := T.cell (p := ⟨b1, o1 + j, none⟩) hne hc
   have hd : Hid (bs.drop j = b :: bs.drop (j + 1)) := by
    obtain ⟨hl, hv⟩ := List.getElem?_eq_some_iff.1 hb.out
    show _ = _
    rw [List.drop_eq_getElem_cons hl, hv]
   have hlen : Hid (l.length = N) := D.len
   clear hc hb
   by_cases h0 : b < 0
   ·
    have HF : Hid (R = (false, l)) := by show _ = _; rw [HA.out, hd.out, holdL, if_neg (fun hh => by omega)]
    go_wp2
    go_ret
    rw [HF.out]
    exact ⟨rfl, D, T⟩
   ·
    by_cases h1 : b < N
    ·
     have h1' : ¬ (N : Int) ≤ b := by omega
     obtain ⟨i, rfl⟩ : ∃ i : Nat, b = i := ⟨b.toNat, by omega⟩
     have hil : i < l.length := by have := hlen.out; omega
     obtain ⟨x, hx⟩ : ∃ x, Hid (l[i]? = some x) := get_some hil
     obtain ⟨q, qf⟩ := D.row.cell hx.out
     cases x with
     | true =>
      have HF : Hid (R = (false, l)) := by show _ = _; rw [HA.out, hd.out, holdL, if_neg (fun hh => by have := hh.2.2; rw [Int.toNat_natCast, atB_some hx.out] at this; cases this)]
      clear hil
      go_wp2
      go_ret
      rw [HF.out]
      exact ⟨rfl, D, T⟩
     | false =>
      have HF : Hid (R = holdL (l.set i true) (bs.drop (j + 1))) := by show _ = _; rw [HA.out, hd.out, holdL, if_pos ⟨by omega, by omega, by rw [Int.toNat_natCast, atB_some hx.out]⟩, Int.toNat_natCast]
      have D' := D.hold i true
      have T' : Turns (fun k => k = g) V (wr.setCell ⟨g, i, none⟩ (.bool true)) := T.setCell (p := ⟨g, i, none⟩) rfl _
      clear hil HA hd hx
      go_wp2
      go_roundw
      case rel => exact ⟨j + 1, l.set i true, by omega, by go_num, HF.out, D', T'⟩
      case measure => simp [intOf]; omega
    ·
     have h1' : (N : Int) ≤ b := by omega
     have HF : Hid (R = (false, l)) := by show _ = _; rw [HA.out, hd.out, holdL, if_neg (fun hh => by have := hlen.out; omega)]
     go_wp2
     go_ret
     rw [HF.out]
     exact ⟨rfl, D, T⟩
  ·
   obtain rfl : n = j := by omega
   have hj0 : ¬ (n : Int) < n := by omega
   have HF : Hid (R = (true, l)) := by show _ = _; rw [HA.out, EN.out, List.drop_length]; rfl
   go_wp2
   go_ret
   rw [HF.out]
   exact ⟨rfl, D, T⟩
set_option maxRecDepth 20000 in
set_option maxHeartbeats 2000000 in
theorem leaf_any (V : World) (h g N : Nat) (v0 v1 v2 v3 v4 : Value) (c : ClimbS) (nl : Bool) (a1 a2 a3 : Option Addr) (k1 d1 k2 d2 k3 d3 : Nat) (d : Int) (D : ClimbAt V h g N v0 v1 v2 v3 v4 c) (hk : c.pairs ≤ 1000000) (hk1 : k1 ≤ 1000) :
  Calls Tryz.prog 173 #[.pointer (some ⟨h, 0, none⟩), .agg #[.bool nl, .slice a1 k1 d1, .slice a2 k2 d2, .slice a3 k3 d3], .int .i64 d] V fun e V' => e = .returned (.int .i64 (leafC k1 d c).1) ∧ ClimbAt V' h g N v0 v1 v2 v3 v4 (leafC k1 d c).2 ∧ Turns (fun k => k = h) V V' := by
 have hlt := D.lt
 obtain ⟨o, ho⟩ : ∃ o, o = Obj.cells #[.bool nl, .slice a1 k1 d1, .slice a2 k2 d2, .slice a3 k3 d3] 205 := ⟨_, rfl⟩
 have al : ∀ U : World, Below U.heap.size U (U.alloc o) := fun U => (Below.refl _ _).alloc (Nat.le_refl _) _
 have bn : ∀ U : World, Box4 (U.alloc o) U.heap.size (.bool nl) (.slice a1 k1 d1) (.slice a2 k2 d2) (.slice a3 k3 d3) := fun U => by rw [ho]; exact box4_new _ _ _ _ _ _ rfl
 have T : Turns (fun k => k = h) V V := Turns.refl _ _
 have hsum : IntKind.i64.wrap ((c.pairs : Int) + (k1 : Int)) = ((c.pairs + k1 : Nat) : Int) := by rw [IntKind.wrap_i64]; omega
 have x6 := (D.below (al V)).c6
 by_cases h0 : c.height = 0
 ·
  have h0' : (c.height == 0) = true := by simpa using h0
  have hL : leafC k1 d c = (0, ⟨c.held, c.pairs + k1, d, c.blocks⟩) := by unfold leafC; rw [if_pos (.inl h0)]
  rw [hL]
  have y6 := (D.below (al V)).f6
  have D1 := D.set6 d
  have T1 : Turns (fun k => k = h) V (V.setCell ⟨h, 6, none⟩ (.int .i64 d)) := T.setCell (p := ⟨h, 6, none⟩) rfl _
  have n1 := (bn (V.setCell ⟨h, 6, none⟩ (.int .i64 d))).1.2.1
  rw [World.size_setCell] at n1
  have z5 := (D1.below (al _)).c5
  have w5 := (D1.below (al _)).f5
  have z6 := (D1.below (al _)).c6
  have D2 := (D1.set5 (c.pairs + k1)).below (al _)
  have T2 : Turns (fun k => k = h) V (((V.setCell ⟨h, 6, none⟩ (.int .i64 d)).setCell ⟨h, 5, none⟩ (.int .i64 (c.pairs + k1 : Nat))).alloc o) := (T1.setCell (p := ⟨h, 5, none⟩) rfl _).tr (al _)
  have hd : (d != d) = false := by simp
  subst ho
  clear hL h0 D1 T1 al bn
  go_enter Tryz.func173, Tryz.ntmps173
  go_wp2
  go_region
  go_wp2
  go_ret
  exact ⟨rfl, D2.below (Below.refl _ _).drew, T2.drew⟩
 ·
  have h0' : (c.height == 0) = false := by simpa using h0
  by_cases h1 : c.height = d
  ·
   have hL : leafC k1 d c = (0, ⟨c.held, c.pairs + k1, d, c.blocks⟩) := by unfold leafC; rw [if_pos (.inr h1)]
   rw [hL]
   have h1' : (c.height != d) = false := by simpa using h1
   have z5 := (D.below (al V)).c5
   have w5 := (D.below (al V)).f5
   have n1 := (bn V).1.2.1
   have D2 := (D.set5 (c.pairs + k1)).below (al _)
   have T2 : Turns (fun k => k = h) V ((V.setCell ⟨h, 5, none⟩ (.int .i64 (c.pairs + k1 : Nat))).alloc o) := (T.setCell (p := ⟨h, 5, none⟩) rfl _).tr (al _)
   have D3 : ClimbAt ((V.setCell ⟨h, 5, none⟩ (.int .i64 (c.pairs + k1 : Nat))).alloc o) h g N v0 v1 v2 v3 v4 ⟨c.held, c.pairs + k1, d, c.blocks⟩ := by rw [← h1]; exact D2
   subst ho
   clear hL h0 h1 D2 al bn
   go_enter Tryz.func173, Tryz.ntmps173
   go_wp2
   go_region
   go_wp2
   go_ret
   exact ⟨rfl, D3.below (Below.refl _ _).drew, T2.drew⟩
  ·
   have hL : leafC k1 d c = (81, c) := by unfold leafC; rw [if_neg (fun hh => hh.elim h0 h1)]
   rw [hL]
   have h1' : (c.height != d) = true := by simpa using h1
   have D2 := D.below (al V)
   have T2 : Turns (fun k => k = h) V (V.alloc o) := T.tr (al _)
   subst ho
   clear hL h0 h1 al bn
   go_enter Tryz.func173, Tryz.ntmps173
   go_wp2
   go_ret
   exact ⟨rfl, D2, T2⟩
end Go.Proofs.YtaobfgplheoefaaGreat

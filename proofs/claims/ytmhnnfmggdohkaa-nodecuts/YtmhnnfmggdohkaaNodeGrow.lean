/-
  A node under building that takes on whole rows.
-/
import Derived.Test.YtmhnnfmggdohkaaNodeJoined
import Derived.Test.YtmhnnfmggdohkaaNodeBuild
namespace Go.Proofs.Ytmhnnfmggdohkaa
open Go.RowKit Plain
set_option linter.unusedVariables false

theorem off_grow {h H : Nat} {v v' : Value} (ho : Off h v) (hg : v'.ownBlock = v.ownBlock ∨ v'.ownBlock = some H) (hh : h < H) : Off h v' := by
  intro k hk e
  subst e
  rcases hg with hg | hg
  · exact ho k (hg ▸ hk) rfl
  · rw [hg] at hk; cases hk; omega

theorem apart_grow {v v' u : Value} {H : Nat} (h : Apart v u) (hg : v'.ownBlock = v.ownBlock ∨ v'.ownBlock = some H) (hu : ∀ k, u.ownBlock = some k → k < H) : Apart v' u := by
  intro k h1 h2
  rcases hg with hg | hg
  · exact h k (hg ▸ h1) h2
  · rw [hg] at h1; cases h1; have := hu H h2; omega

theorem owns_form {w : World} {B : Nat} {e : TypeId} {s : Nat} {v : Value} {n : Nat} {xs : List Value} (h : w.ownsRow B e s v n xs) : ∃ q k d, v = .slice q k d := by
  rcases h.2 with ⟨rfl, rfl⟩ | ⟨g, cap, cur, rfl, _⟩
  · exact ⟨_, _, _, rfl⟩
  · exact ⟨_, _, _, rfl⟩

/-- A whole row more in part 1. -/
theorem NodeAt.cat1 {w : World} {h B : Nat} {l : Bool} {u1 u2 u3 : Value} {xs ys : List ByteArray} {zs : List Int} (n : NodeAt w h B l u1 u2 u3 xs ys zs) (a : Option Addr) (c m : Nat) (ms : List ByteArray) (hm : m = ms.length) (hY : IsS w a c ms) (hl : xs.length + m ≤ 4096) :
    ∃ q k d w', (Builtin.append_ #[22, 22] 22 #[u1, .slice a m c]).run Try.prog w = .ok (.slice q k d) w' ∧ Box4 w' h (.bool l) u1 u2 u3 ∧
      NodeAt (w'.setCell ⟨h, 1, none⟩ (.slice q k d)) h B l (.slice q k d) u2 u3 (xs ++ ms) ys zs ∧ Turns (fun k => k = h ∨ u1.ownBlock = some k) w (w'.setCell ⟨h, 1, none⟩ (.slice q k d)) := by
  obtain ⟨v', w', hrun, hown, hgr, hat⟩ := append_S w B u1 xs.length xs n.r1 n.le a c m ms hm hY hl
  obtain ⟨q, k, d, rfl⟩ := owns_form hown
  have t0 : Turns (fun k => u1.ownBlock = some k) w w' := (Turns.refl _ _).grown hgr (fun k hk => hk)
  have hbox : Box4 w' h (.bool l) u1 u2 u3 := n.box.turns t0 fun hk => n.o1 h hk rfl
  have hh : h < w.heap.size := n.box.lt
  refine ⟨q, k, d, w', hrun, hbox, ⟨?_, ?_, ?_, ?_, ?_, ?_, n.a23, off_grow n.o1 hat hh, n.o2, n.o3, ?_⟩, ?_⟩
  · obtain ⟨⟨c0, c1, c2, c3⟩, f0, f1, f2, f3⟩ := hbox
    refine ⟨⟨?_, World.cell?_setCell_same _ _ _ c1, ?_, ?_⟩, ?_, ?_, ?_, ?_⟩
    · rw [World.cell?_setCell_other _ _ _ _ (fun hh => by cases hh)]; exact c0
    · rw [World.cell?_setCell_other _ _ _ _ (fun hh => by cases hh)]; exact c2
    · rw [World.cell?_setCell_other _ _ _ _ (fun hh => by cases hh)]; exact c3
    · rw [World.frozen?_setCell]; exact f0
    · rw [World.frozen?_setCell]; exact f1
    · rw [World.frozen?_setCell]; exact f2
    · rw [World.frozen?_setCell]; exact f3
  · rw [List.length_append, ← hm]
    exact owns_off hown (off_grow n.o1 hat hh) 1 _
  · exact owns_off (t0.owns n.r2 fun k h2 h1 => n.a12 k h1 h2) n.o2 1 _
  · exact owns_off (t0.owns n.r3 fun k h2 h1 => n.a13 k h1 h2) n.o3 1 _
  · exact apart_grow n.a12 hat fun k hk => (n.r2.lt k hk).2
  · exact apart_grow n.a13 hat fun k hk => (n.r3.lt k hk).2
  · have := t0.size
    have := n.le
    simp; omega
  · exact (t0.mono fun k hk => .inr hk).setCell (p := ⟨h, 1, none⟩) (.inl rfl) _

/-- A whole row more in part 2. -/
theorem NodeAt.cat2 {w : World} {h B : Nat} {l : Bool} {u1 u2 u3 : Value} {xs ys : List ByteArray} {zs : List Int} (n : NodeAt w h B l u1 u2 u3 xs ys zs) (a : Option Addr) (c m : Nat) (ms : List ByteArray) (hm : m = ms.length) (hY : IsS w a c ms) (hl : ys.length + m ≤ 4096) :
    ∃ q k d w', (Builtin.append_ #[22, 22] 22 #[u2, .slice a m c]).run Try.prog w = .ok (.slice q k d) w' ∧ Box4 w' h (.bool l) u1 u2 u3 ∧
      NodeAt (w'.setCell ⟨h, 2, none⟩ (.slice q k d)) h B l u1 (.slice q k d) u3 xs (ys ++ ms) zs ∧ Turns (fun k => k = h ∨ u2.ownBlock = some k) w (w'.setCell ⟨h, 2, none⟩ (.slice q k d)) := by
  obtain ⟨v', w', hrun, hown, hgr, hat⟩ := append_S w B u2 ys.length ys n.r2 n.le a c m ms hm hY hl
  obtain ⟨q, k, d, rfl⟩ := owns_form hown
  have t0 : Turns (fun k => u2.ownBlock = some k) w w' := (Turns.refl _ _).grown hgr (fun k hk => hk)
  have hbox : Box4 w' h (.bool l) u1 u2 u3 := n.box.turns t0 fun hk => n.o2 h hk rfl
  have hh : h < w.heap.size := n.box.lt
  refine ⟨q, k, d, w', hrun, hbox, ⟨?_, ?_, ?_, ?_, ?_, n.a13, ?_, n.o1, off_grow n.o2 hat hh, n.o3, ?_⟩, ?_⟩
  · obtain ⟨⟨c0, c1, c2, c3⟩, f0, f1, f2, f3⟩ := hbox
    refine ⟨⟨?_, ?_, World.cell?_setCell_same _ _ _ c2, ?_⟩, ?_, ?_, ?_, ?_⟩
    · rw [World.cell?_setCell_other _ _ _ _ (fun hh => by cases hh)]; exact c0
    · rw [World.cell?_setCell_other _ _ _ _ (fun hh => by cases hh)]; exact c1
    · rw [World.cell?_setCell_other _ _ _ _ (fun hh => by cases hh)]; exact c3
    · rw [World.frozen?_setCell]; exact f0
    · rw [World.frozen?_setCell]; exact f1
    · rw [World.frozen?_setCell]; exact f2
    · rw [World.frozen?_setCell]; exact f3
  · exact owns_off (t0.owns n.r1 fun k h2 h1 => n.a12 k h2 h1) n.o1 2 _
  · rw [List.length_append, ← hm]
    exact owns_off hown (off_grow n.o2 hat hh) 2 _
  · exact owns_off (t0.owns n.r3 fun k h2 h1 => n.a23 k h1 h2) n.o3 2 _
  · exact (apart_grow n.a12.symm hat fun k hk => (n.r1.lt k hk).2).symm
  · exact apart_grow n.a23 hat fun k hk => (n.r3.lt k hk).2
  · have := t0.size
    have := n.le
    simp; omega
  · exact (t0.mono fun k hk => .inr hk).setCell (p := ⟨h, 2, none⟩) (.inl rfl) _

/-- A whole row more in part 3. -/
theorem NodeAt.cat3 {w : World} {h B : Nat} {l : Bool} {u1 u2 u3 : Value} {xs ys : List ByteArray} {zs : List Int} (n : NodeAt w h B l u1 u2 u3 xs ys zs) (a : Option Addr) (c m : Nat) (ms : List Int) (hm : m = ms.length) (hY : IsI w a c ms) (hl : zs.length + m ≤ 4096) :
    ∃ q k d w', (Builtin.append_ #[23, 23] 23 #[u3, .slice a m c]).run Try.prog w = .ok (.slice q k d) w' ∧ Box4 w' h (.bool l) u1 u2 u3 ∧
      NodeAt (w'.setCell ⟨h, 3, none⟩ (.slice q k d)) h B l u1 u2 (.slice q k d) xs ys (zs ++ ms) ∧ Turns (fun k => k = h ∨ u3.ownBlock = some k) w (w'.setCell ⟨h, 3, none⟩ (.slice q k d)) := by
  obtain ⟨v', w', hrun, hown, hgr, hat⟩ := append_I w B u3 zs.length zs n.r3 n.le a c m ms hm hY hl
  obtain ⟨q, k, d, rfl⟩ := owns_form hown
  have t0 : Turns (fun k => u3.ownBlock = some k) w w' := (Turns.refl _ _).grown hgr (fun k hk => hk)
  have hbox : Box4 w' h (.bool l) u1 u2 u3 := n.box.turns t0 fun hk => n.o3 h hk rfl
  have hh : h < w.heap.size := n.box.lt
  refine ⟨q, k, d, w', hrun, hbox, ⟨?_, ?_, ?_, ?_, n.a12, ?_, ?_, n.o1, n.o2, off_grow n.o3 hat hh, ?_⟩, ?_⟩
  · obtain ⟨⟨c0, c1, c2, c3⟩, f0, f1, f2, f3⟩ := hbox
    refine ⟨⟨?_, ?_, ?_, World.cell?_setCell_same _ _ _ c3⟩, ?_, ?_, ?_, ?_⟩
    · rw [World.cell?_setCell_other _ _ _ _ (fun hh => by cases hh)]; exact c0
    · rw [World.cell?_setCell_other _ _ _ _ (fun hh => by cases hh)]; exact c1
    · rw [World.cell?_setCell_other _ _ _ _ (fun hh => by cases hh)]; exact c2
    · rw [World.frozen?_setCell]; exact f0
    · rw [World.frozen?_setCell]; exact f1
    · rw [World.frozen?_setCell]; exact f2
    · rw [World.frozen?_setCell]; exact f3
  · exact owns_off (t0.owns n.r1 fun k h2 h1 => n.a13 k h2 h1) n.o1 3 _
  · exact owns_off (t0.owns n.r2 fun k h2 h1 => n.a23 k h2 h1) n.o2 3 _
  · rw [List.length_append, ← hm]
    exact owns_off hown (off_grow n.o3 hat hh) 3 _
  · exact (apart_grow n.a13.symm hat fun k hk => (n.r1.lt k hk).2).symm
  · exact (apart_grow n.a23.symm hat fun k hk => (n.r2.lt k hk).2).symm
  · have := t0.size
    have := n.le
    simp; omega
  · exact (t0.mono fun k hk => .inr hk).setCell (p := ⟨h, 3, none⟩) (.inl rfl) _

/-- What is handed back of it, where its rows are known as slices. -/
theorem NodeAt.rowsS {w : World} {h B : Nat} {l : Bool} {a a' a'' : Option Addr} {n n' n'' c c' c'' : Nat} {xs ys : List ByteArray} {zs : List Int} (N : NodeAt w h B l (.slice a n c) (.slice a' n' c') (.slice a'' n'' c'') xs ys zs) (hx : ∀ x ∈ xs, x.size ≤ maxLen) (hy : ∀ x ∈ ys, x.size ≤ maxLen) :
    n = xs.length ∧ n' = ys.length ∧ n'' = zs.length ∧ IsS w a c xs ∧ IsS w a' c' ys ∧ IsI w a'' c'' zs ∧ From B a ∧ From B a' ∧ From B a'' := by
  obtain ⟨b, d, b', d', b'', d'', e1, e2, e3, i1, i2, i3, j1, j2, j3⟩ := N.rows hx hy
  cases e1
  cases e2
  cases e3
  exact ⟨rfl, rfl, rfl, i1, i2, i3, j1, j2, j3⟩

end Go.Proofs.Ytmhnnfmggdohkaa

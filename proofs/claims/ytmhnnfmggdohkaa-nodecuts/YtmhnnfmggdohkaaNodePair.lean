/-
  Two nodes under building at once, their rows apart.
-/
import Derived.Test.YtmhnnfmggdohkaaNodeBuild
namespace Go.Proofs.Ytmhnnfmggdohkaa
open Go.RowKit Plain
set_option linter.unusedVariables false

/-- A block that holds one of three rows. -/
def Has (u1 u2 u3 : Value) (g : Nat) : Prop := u1.ownBlock = some g ∨ u2.ownBlock = some g ∨ u3.ownBlock = some g

theorem NodeAt.turnsF {P : Nat → Prop} {w w' : World} {h B : Nat} {l : Bool} {u1 u2 u3 : Value} {xs ys : List ByteArray} {zs : List Int} (n : NodeAt w h B l u1 u2 u3 xs ys zs) (t : Turns P w w') (hp : ¬ P h) (hb : ∀ k, Has u1 u2 u3 k → ¬ P k) : NodeAt w' h B l u1 u2 u3 xs ys zs :=
  ⟨n.box.turns t hp, t.owns n.r1 fun g hg => hb g (.inl hg), t.owns n.r2 fun g hg => hb g (.inr (.inl hg)), t.owns n.r3 fun g hg => hb g (.inr (.inr hg)), n.a12, n.a13, n.a23, n.o1, n.o2, n.o3, Nat.le_trans n.le t.size⟩

theorem NodeAt.has {w : World} {h B : Nat} {l : Bool} {u1 u2 u3 : Value} {xs ys : List ByteArray} {zs : List Int} (n : NodeAt w h B l u1 u2 u3 xs ys zs) {k : Nat} (hk : Has u1 u2 u3 k) : B ≤ k ∧ k < w.heap.size := by
  rcases hk with hk | hk | hk
  · exact n.r1.lt k hk
  · exact n.r2.lt k hk
  · exact n.r3.lt k hk

/-- Two nodes. -/
structure Pair (w : World) (h h' B : Nat) (l : Bool) (u1 u2 u3 : Value) (xs ys : List ByteArray) (zs : List Int) (v1 v2 v3 : Value) (xs' ys' : List ByteArray) (zs' : List Int) : Prop where
  A : NodeAt w h B l u1 u2 u3 xs ys zs
  C : NodeAt w h' B l v1 v2 v3 xs' ys' zs'
  ha : h < B
  hc : h' < B
  ne : h ≠ h'
  dis : ∀ g, Has u1 u2 u3 g → ¬ Has v1 v2 v3 g

theorem Pair.symm {w : World} {h h' B : Nat} {l : Bool} {u1 u2 u3 : Value} {xs ys : List ByteArray} {zs : List Int} {v1 v2 v3 : Value} {xs' ys' : List ByteArray} {zs' : List Int} (p : Pair w h h' B l u1 u2 u3 xs ys zs v1 v2 v3 xs' ys' zs') : Pair w h' h B l v1 v2 v3 xs' ys' zs' u1 u2 u3 xs ys zs :=
  ⟨p.C, p.A, p.hc, p.ha, fun e => p.ne e.symm, fun g h1 h2 => p.dis g h2 h1⟩

/-- One key more in the first of two. -/
theorem Pair.push1 {w : World} {h h' B : Nat} {l : Bool} {u1 u2 u3 : Value} {xs ys : List ByteArray} {zs : List Int} {v1 v2 v3 : Value} {xs' ys' : List ByteArray} {zs' : List Int} (p : Pair w h h' B l u1 u2 u3 xs ys zs v1 v2 v3 xs' ys' zs') (x : ByteArray) (hl : xs.length ≤ 4096) :
    ∃ g cap w', (Builtin.append_ #[22, 22] 22 #[u1, .slice (some ⟨w.heap.size, 0, none⟩) 1 1]).run Try.prog (w.alloc (.cells #[.string x] 9)) = .ok (.slice (some ⟨g, 0, none⟩) (xs.length + 1) cap) w' ∧ Box4 w' h (.bool l) u1 u2 u3 ∧
      Pair (w'.setCell ⟨h, 1, none⟩ (.slice (some ⟨g, 0, none⟩) (xs.length + 1) cap)) h h' B l (.slice (some ⟨g, 0, none⟩) (xs.length + 1) cap) u2 u3 (xs ++ [x]) ys zs v1 v2 v3 xs' ys' zs' ∧ Turns (Own h B) w (w'.setCell ⟨h, 1, none⟩ (.slice (some ⟨g, 0, none⟩) (xs.length + 1) cap)) := by
  obtain ⟨g, cap, w', hrun, hbox, N, T⟩ := p.A.push1 x hl
  obtain ⟨g2, cap2, w2, hrun2, hown, hgr, hat, hge, hlt⟩ := push_S w B u1 xs.length xs x p.A.r1 p.A.le hl
  rw [hrun] at hrun2
  cases hrun2
  have t0 : Turns (fun k => u1.ownBlock = some k) w w' := ((Turns.refl _ _).alloc _).grown hgr (fun k hk => hk)
  have t1 : Turns (fun k => k = h ∨ u1.ownBlock = some k) w (w'.setCell ⟨h, 1, none⟩ (.slice (some ⟨g, 0, none⟩) (xs.length + 1) cap)) := (t0.mono fun k hk => .inr hk).setCell (p := ⟨h, 1, none⟩) (.inl rfl) _
  refine ⟨g, cap, w', hrun, hbox, ⟨N, p.C.turnsF t1 ?_ ?_, p.ha, p.hc, p.ne, ?_⟩, T⟩
  · rintro (e | e)
    · exact p.ne e.symm
    · have := (p.A.r1.lt _ e).1
      have := p.hc
      omega
  · rintro k hk (e | e)
    · have := (p.C.has hk).1
      have := p.ha
      omega
    · exact p.dis k (.inl e) hk
  · intro k hk hv
    rcases hk with hk | hk | hk
    · have hk' : g = k := by simpa [Value.ownBlock] using hk
      subst hk'
      rcases hat with hat | hat
      · exact p.dis g (.inl hat) hv
      · have := (p.C.has hv).2; omega
    · exact p.dis k (.inr (.inl hk)) hv
    · exact p.dis k (.inr (.inr hk)) hv

/-- One value more in the first of two. -/
theorem Pair.push2 {w : World} {h h' B : Nat} {l : Bool} {u1 u2 u3 : Value} {xs ys : List ByteArray} {zs : List Int} {v1 v2 v3 : Value} {xs' ys' : List ByteArray} {zs' : List Int} (p : Pair w h h' B l u1 u2 u3 xs ys zs v1 v2 v3 xs' ys' zs') (x : ByteArray) (hl : ys.length ≤ 4096) :
    ∃ g cap w', (Builtin.append_ #[22, 22] 22 #[u2, .slice (some ⟨w.heap.size, 0, none⟩) 1 1]).run Try.prog (w.alloc (.cells #[.string x] 9)) = .ok (.slice (some ⟨g, 0, none⟩) (ys.length + 1) cap) w' ∧ Box4 w' h (.bool l) u1 u2 u3 ∧
      Pair (w'.setCell ⟨h, 2, none⟩ (.slice (some ⟨g, 0, none⟩) (ys.length + 1) cap)) h h' B l u1 (.slice (some ⟨g, 0, none⟩) (ys.length + 1) cap) u3 xs (ys ++ [x]) zs v1 v2 v3 xs' ys' zs' ∧ Turns (Own h B) w (w'.setCell ⟨h, 2, none⟩ (.slice (some ⟨g, 0, none⟩) (ys.length + 1) cap)) := by
  obtain ⟨g, cap, w', hrun, hbox, N, T⟩ := p.A.push2 x hl
  obtain ⟨g2, cap2, w2, hrun2, hown, hgr, hat, hge, hlt⟩ := push_S w B u2 ys.length ys x p.A.r2 p.A.le hl
  rw [hrun] at hrun2
  cases hrun2
  have t0 : Turns (fun k => u2.ownBlock = some k) w w' := ((Turns.refl _ _).alloc _).grown hgr (fun k hk => hk)
  have t1 : Turns (fun k => k = h ∨ u2.ownBlock = some k) w (w'.setCell ⟨h, 2, none⟩ (.slice (some ⟨g, 0, none⟩) (ys.length + 1) cap)) := (t0.mono fun k hk => .inr hk).setCell (p := ⟨h, 2, none⟩) (.inl rfl) _
  refine ⟨g, cap, w', hrun, hbox, ⟨N, p.C.turnsF t1 ?_ ?_, p.ha, p.hc, p.ne, ?_⟩, T⟩
  · rintro (e | e)
    · exact p.ne e.symm
    · have := (p.A.r2.lt _ e).1
      have := p.hc
      omega
  · rintro k hk (e | e)
    · have := (p.C.has hk).1
      have := p.ha
      omega
    · exact p.dis k (.inr (.inl e)) hk
  · intro k hk hv
    rcases hk with hk | hk | hk
    · exact p.dis k (.inl hk) hv
    · have hk' : g = k := by simpa [Value.ownBlock] using hk
      subst hk'
      rcases hat with hat | hat
      · exact p.dis g (.inr (.inl hat)) hv
      · have := (p.C.has hv).2; omega
    · exact p.dis k (.inr (.inr hk)) hv

/-- One child more in the first of two. -/
theorem Pair.push3 {w : World} {h h' B : Nat} {l : Bool} {u1 u2 u3 : Value} {xs ys : List ByteArray} {zs : List Int} {v1 v2 v3 : Value} {xs' ys' : List ByteArray} {zs' : List Int} (p : Pair w h h' B l u1 u2 u3 xs ys zs v1 v2 v3 xs' ys' zs') (x : Int) (hl : zs.length ≤ 4096) :
    ∃ g cap w', (Builtin.append_ #[23, 23] 23 #[u3, .slice (some ⟨w.heap.size, 0, none⟩) 1 1]).run Try.prog (w.alloc (.cells #[.int .i64 x] 3)) = .ok (.slice (some ⟨g, 0, none⟩) (zs.length + 1) cap) w' ∧ Box4 w' h (.bool l) u1 u2 u3 ∧
      Pair (w'.setCell ⟨h, 3, none⟩ (.slice (some ⟨g, 0, none⟩) (zs.length + 1) cap)) h h' B l u1 u2 (.slice (some ⟨g, 0, none⟩) (zs.length + 1) cap) xs ys (zs ++ [x]) v1 v2 v3 xs' ys' zs' ∧ Turns (Own h B) w (w'.setCell ⟨h, 3, none⟩ (.slice (some ⟨g, 0, none⟩) (zs.length + 1) cap)) := by
  obtain ⟨g, cap, w', hrun, hbox, N, T⟩ := p.A.push3 x hl
  obtain ⟨g2, cap2, w2, hrun2, hown, hgr, hat, hge, hlt⟩ := push_Z w B u3 zs.length zs x p.A.r3 p.A.le hl
  rw [hrun] at hrun2
  cases hrun2
  have t0 : Turns (fun k => u3.ownBlock = some k) w w' := ((Turns.refl _ _).alloc _).grown hgr (fun k hk => hk)
  have t1 : Turns (fun k => k = h ∨ u3.ownBlock = some k) w (w'.setCell ⟨h, 3, none⟩ (.slice (some ⟨g, 0, none⟩) (zs.length + 1) cap)) := (t0.mono fun k hk => .inr hk).setCell (p := ⟨h, 3, none⟩) (.inl rfl) _
  refine ⟨g, cap, w', hrun, hbox, ⟨N, p.C.turnsF t1 ?_ ?_, p.ha, p.hc, p.ne, ?_⟩, T⟩
  · rintro (e | e)
    · exact p.ne e.symm
    · have := (p.A.r3.lt _ e).1
      have := p.hc
      omega
  · rintro k hk (e | e)
    · have := (p.C.has hk).1
      have := p.ha
      omega
    · exact p.dis k (.inr (.inr e)) hk
  · intro k hk hv
    rcases hk with hk | hk | hk
    · exact p.dis k (.inl hk) hv
    · exact p.dis k (.inr (.inl hk)) hv
    · have hk' : g = k := by simpa [Value.ownBlock] using hk
      subst hk'
      rcases hat with hat | hat
      · exact p.dis g (.inr (.inr hat)) hv
      · have := (p.C.has hv).2; omega

theorem isS_sizes {w : World} {a : Option Addr} {c : Nat} {xs : List ByteArray} (h : IsS w a c xs) : ∀ x ∈ xs, x.size ≤ maxLen := fun x hx => by
  obtain ⟨q, hq⟩ := List.getElem?_of_mem hx
  obtain ⟨_, _, _, _, _, hs⟩ := h.2.2 q x hq
  exact hs

theorem NodeAt.rowsN {w : World} {h B : Nat} {l : Bool} {u1 u2 u3 : Value} {xs ys : List ByteArray} {zs : List Int} (n : NodeAt w h B l u1 u2 u3 xs ys zs) (hx : ∀ x ∈ xs, x.size ≤ maxLen) (hy : ∀ x ∈ ys, x.size ≤ maxLen) :
    ∃ a n a' n' a'' n'' c c' c'', u1 = .slice a n c ∧ u2 = .slice a' n' c' ∧ u3 = .slice a'' n'' c'' ∧ n = xs.length ∧ n' = ys.length ∧ n'' = zs.length ∧ IsS w a c xs ∧ IsS w a' c' ys ∧ IsI w a'' c'' zs ∧ From B a ∧ From B a' ∧ From B a'' := by
  obtain ⟨a, c, a', c', a'', c'', e1, e2, e3, i1, i2, i3, j1, j2, j3⟩ := n.rows hx hy
  exact ⟨a, _, a', _, a'', _, c, c', c'', e1, e2, e3, rfl, rfl, rfl, i1, i2, i3, j1, j2, j3⟩

end Go.Proofs.Ytmhnnfmggdohkaa

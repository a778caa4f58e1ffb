/-
  Package ring's read: the closures that keep the first error, and the loop.
-/
import Derived.Test.YtcdcnonkoffbhaaRingMem
import Derived.Test.YtcdcnonkoffbhaaGet
import Derived.Test.YtcdcnonkoffbhaaNodeBuild
import Derived.OneCell
import Derived.Lib.AppendZeros
namespace Go.Proofs.Ytcdcnonkoffbhaa
open Go.RowKit Plain
set_option linter.unusedVariables false

/-- A body, the place in it and the first error, in boxes of their own. -/
structure RdAt (V : World) (h : Nat) (s : ByteArray) (p e : Int) : Prop where
  b : V.cell? ⟨h, 0, none⟩ = some (.string s)
  p : V.cell? ⟨h + 1, 0, none⟩ = some (.int .i64 p)
  e : V.cell? ⟨h + 1 + 1, 0, none⟩ = some (.int .i64 e)
  fp : V.frozen? ⟨h + 1, 0, none⟩ = false
  fe : V.frozen? ⟨h + 1 + 1, 0, none⟩ = false

def Two (h : Nat) (k : Nat) : Prop := k = h + 1 ∨ k = h + 1 + 1

theorem RdAt.turns {P : Nat → Prop} {V V' : World} {h : Nat} {s : ByteArray} {p e : Int} (r : RdAt V h s p e) (t : Turns P V V') (h0 : ¬ P h) (h1 : ¬ P (h + 1)) (h2 : ¬ P (h + 1 + 1)) : RdAt V' h s p e :=
  ⟨t.cell (p := ⟨h, 0, none⟩) h0 r.b, t.cell (p := ⟨h + 1, 0, none⟩) h1 r.p, t.cell (p := ⟨h + 1 + 1, 0, none⟩) h2 r.e, t.frozen (p := ⟨h + 1, 0, none⟩) (cell_lt r.p) h1 r.fp, t.frozen (p := ⟨h + 1 + 1, 0, none⟩) (cell_lt r.e) h2 r.fe⟩

theorem RdAt.put {V : World} {h : Nat} {s : ByteArray} {p e : Int} (r : RdAt V h s p e) (p' e' : Int) : RdAt ((V.setCell ⟨h + 1, 0, none⟩ (.int .i64 p')).setCell ⟨h + 1 + 1, 0, none⟩ (.int .i64 e')) h s p' e' :=
  ⟨cell_set_other (.inl (by omega)) (cell_set_other (.inl (by omega)) r.b), cell_set_other (.inl (by omega)) (World.cell?_setCell_same _ _ _ r.p), World.cell?_setCell_same _ _ _ (cell_set_other (.inl (by omega)) r.e), by simpa using r.fp, by simpa using r.fe⟩

theorem RdAt.err {V : World} {h : Nat} {s : ByteArray} {p e : Int} (r : RdAt V h s p e) (e' : Int) : RdAt (V.setCell ⟨h + 1 + 1, 0, none⟩ (.int .i64 e')) h s p e' :=
  ⟨cell_set_other (.inl (by omega)) r.b, cell_set_other (.inl (by omega)) r.p, World.cell?_setCell_same _ _ _ r.e, by simpa using r.fp, by simpa using r.fe⟩

theorem turns_two (V : World) (h : Nat) (u1 u2 : Value) : Turns (Two h) V ((V.setCell ⟨h + 1, 0, none⟩ u1).setCell ⟨h + 1 + 1, 0, none⟩ u2) :=
  Turns.setCell (P := Two h) (Turns.setCell (P := Two h) (Turns.refl _ _) (p := ⟨h + 1, 0, none⟩) (.inl rfl) u1) (p := ⟨h + 1 + 1, 0, none⟩) (.inr rfl) u2

set_option maxRecDepth 20000 in
set_option maxHeartbeats 1000000 in
theorem nextNumber_any (h : Nat) (s : ByteArray) (p e : Int) (V : World) (r : RdAt V h s p e) (hs : s.size ≤ maxLen) :
    Calls Try.prog 59 #[.pointer (some ⟨h + 1 + 1, 0, none⟩), .pointer (some ⟨h, 0, none⟩), .pointer (some ⟨h + 1, 0, none⟩)] V fun x w' => x = .returned (.int .i64 (nmR s p e)) ∧ RdAt w' h s (nmP s p e) (nmE s p e) ∧ Turns (Two h) V w' ∧ w'.heap.size = V.heap.size := by
  obtain ⟨rb, rp, re, fp, fe⟩ := id r
  by_cases he : e = 0
  · subst he
    have e1 : nmR s p 0 = getR s p 1 := by unfold nmR; rw [if_pos rfl]
    have e2 : nmP s p 0 = getT s p 1 := by unfold nmP; rw [if_pos rfl]
    have e3 : nmE s p 0 = getE s p 1 := by unfold nmE; rw [if_pos rfl]
    rw [e1, e2, e3]
    have cC := fun V => get_any s p 1 V hs
    generalize getR s p 1 = x at *
    generalize getT s p 1 = q at *
    generalize getE s p 1 = y at *
    clear e1 e2 e3
    have fe' : (V.setCell ⟨h + 1, 0, none⟩ (.int .i64 q)).frozen? ⟨h + 1 + 1, 0, none⟩ = false := by simpa using fe
    have re' : (V.setCell ⟨h + 1, 0, none⟩ (.int .i64 q)).cell? ⟨h + 1 + 1, 0, none⟩ = some (.int .i64 0) := cell_set_other (.inl (by omega)) re
    go_enter Try.func59, Try.ntmps59
    go_wp2_with (go_at_call 31; refine (cC _).mono ?_; rintro e w' ⟨rfl, rfl⟩)
    go_ret
    exact ⟨rfl, r.put q y, turns_two V h _ _, by simp⟩
  · have e1 : nmR s p e = 0 := by unfold nmR; rw [if_neg he]
    have e2 : nmP s p e = p := by unfold nmP; rw [if_neg he]
    have e3 : nmE s p e = e := by unfold nmE; rw [if_neg he]
    rw [e1, e2, e3]
    have he' : (e == 0) = false := by simpa using he
    clear e1 e2 e3
    go_enter Try.func59, Try.ntmps59
    go_wp2
    go_ret
    exact ⟨rfl, r, Turns.refl _ _, rfl⟩

set_option maxRecDepth 20000 in
set_option maxHeartbeats 1000000 in
theorem nextText_any (h : Nat) (s : ByteArray) (p e : Int) (V : World) (r : RdAt V h s p e) (hs : s.size ≤ maxLen) :
    Calls Try.prog 60 #[.pointer (some ⟨h + 1 + 1, 0, none⟩), .pointer (some ⟨h, 0, none⟩), .pointer (some ⟨h + 1, 0, none⟩)] V fun x w' => x = .returned (.string (txS s p e)) ∧ RdAt w' h s (txP s p e) (txE s p e) ∧ Turns (Two h) V w' ∧ w'.heap.size = V.heap.size := by
  obtain ⟨rb, rp, re, fp, fe⟩ := id r
  by_cases he : e = 0
  · subst he
    have e1 : txS s p 0 = cutS s p := by unfold txS; rw [if_pos rfl]
    have e2 : txP s p 0 = cutT s p := by unfold txP; rw [if_pos rfl]
    have e3 : txE s p 0 = cutE s p := by unfold txE; rw [if_pos rfl]
    rw [e1, e2, e3]
    have cC := fun V => cut_any s p V hs
    generalize cutS s p = x at *
    generalize cutT s p = q at *
    generalize cutE s p = y at *
    clear e1 e2 e3
    have fe' : (V.setCell ⟨h + 1, 0, none⟩ (.int .i64 q)).frozen? ⟨h + 1 + 1, 0, none⟩ = false := by simpa using fe
    have re' : (V.setCell ⟨h + 1, 0, none⟩ (.int .i64 q)).cell? ⟨h + 1 + 1, 0, none⟩ = some (.int .i64 0) := cell_set_other (.inl (by omega)) re
    go_enter Try.func60, Try.ntmps60
    go_wp2_with (go_at_call 61; refine (cC _).mono ?_; rintro e w' ⟨rfl, rfl⟩)
    go_ret
    exact ⟨rfl, r.put q y, turns_two V h _ _, by simp⟩
  · have e1 : txS s p e = ⟨#[]⟩ := by unfold txS; rw [if_neg he]
    have e2 : txP s p e = p := by unfold txP; rw [if_neg he]
    have e3 : txE s p e = e := by unfold txE; rw [if_neg he]
    rw [e1, e2, e3]
    have he' : (e == 0) = false := by simpa using he
    clear e1 e2 e3
    go_enter Try.func60, Try.ntmps60
    go_wp2
    go_ret
    exact ⟨rfl, r, Turns.refl _ _, rfl⟩

theorem Box3.put0 {w : World} {h : Nat} {v0 v1 v2 : Value} (b : Box3 w h v0 v1 v2) (u : Value) : Box3 (w.setCell ⟨h, 0, none⟩ u) h u v1 v2 := by
  obtain ⟨⟨b0, b1, b2⟩, f0, f1, f2⟩ := b
  exact ⟨⟨World.cell?_setCell_same _ _ _ b0, cell_set_other (.inr (by decide)) b1, cell_set_other (.inr (by decide)) b2⟩, by simpa using f0, by simpa using f1, by simpa using f2⟩
theorem Box3.put1 {w : World} {h : Nat} {v0 v1 v2 : Value} (b : Box3 w h v0 v1 v2) (u : Value) : Box3 (w.setCell ⟨h, 1, none⟩ u) h v0 u v2 := by
  obtain ⟨⟨b0, b1, b2⟩, f0, f1, f2⟩ := b
  exact ⟨⟨cell_set_other (.inr (by decide)) b0, World.cell?_setCell_same _ _ _ b1, cell_set_other (.inr (by decide)) b2⟩, by simpa using f0, by simpa using f1, by simpa using f2⟩
theorem Box3.put2 {w : World} {h : Nat} {v0 v1 v2 : Value} (b : Box3 w h v0 v1 v2) (u : Value) : Box3 (w.setCell ⟨h, 2, none⟩ u) h v0 v1 u := by
  obtain ⟨⟨b0, b1, b2⟩, f0, f1, f2⟩ := b
  exact ⟨⟨cell_set_other (.inr (by decide)) b0, cell_set_other (.inr (by decide)) b1, World.cell?_setCell_same _ _ _ b2⟩, by simpa using f0, by simpa using f1, by simpa using f2⟩

/-- In a round: the reader, the change that is read, in its box, and the row of those read so far. -/
structure RdMid (w V : World) (k : Nat) (s : ByteArray) (p e : Int) (x0 x1 x2 : Value) (u : Value) (j : Nat) (cs : List Chg) : Prop where
  rd : RdAt V w.heap.size s p e
  box : Box3 V k x0 x1 x2
  row : V.ownsRow (w.heap.size + 3) 68 3 u j (cellsC cs)
  hk : w.heap.size + 3 ≤ k
  off : u.ownBlock ≠ some k
  bel : Below w.heap.size w V

theorem RdMid.turn {w V V' : World} {k : Nat} {s : ByteArray} {p e p' e' : Int} {x0 x1 x2 u : Value} {j : Nat} {cs : List Chg} (m : RdMid w V k s p e x0 x1 x2 u j cs) (t : Turns (Two w.heap.size) V V') (r : RdAt V' w.heap.size s p' e') : RdMid w V' k s p' e' x0 x1 x2 u j cs := by
  refine ⟨r, Box3.turns m.box t (fun h => ?_), t.owns m.row (fun g hg h => ?_), m.hk, m.off, Below.turns m.bel t (fun i h => ?_)⟩
  · have := m.hk; rcases h with h | h <;> omega
  · have := (m.row.lt g hg).1; rcases h with h | h <;> omega
  · rcases h with h | h <;> omega

theorem RdAt.off {V : World} {h : Nat} {s : ByteArray} {p e : Int} (r : RdAt V h s p e) {k i : Nat} (hk : h + 3 ≤ k) (u : Value) : RdAt (V.setCell ⟨k, i, none⟩ u) h s p e :=
  ⟨cell_set_other (.inl (by omega)) r.b, cell_set_other (.inl (by omega)) r.p, cell_set_other (.inl (by omega)) r.e, by simpa using r.fp, by simpa using r.fe⟩

theorem RdMid.put0 {w V : World} {k : Nat} {s : ByteArray} {p e : Int} {x0 x1 x2 u : Value} {j : Nat} {cs : List Chg} (m : RdMid w V k s p e x0 x1 x2 u j cs) (y : Value) : RdMid w (V.setCell ⟨k, 0, none⟩ y) k s p e y x1 x2 u j cs :=
  ⟨m.rd.off m.hk y, Box3.put0 m.box y, ownsRow_setCell_other m.row m.off y, m.hk, m.off, m.bel.setCell (p := ⟨k, 0, none⟩) (by have := m.hk; show w.heap.size ≤ k; omega) y⟩
theorem RdMid.put1 {w V : World} {k : Nat} {s : ByteArray} {p e : Int} {x0 x1 x2 u : Value} {j : Nat} {cs : List Chg} (m : RdMid w V k s p e x0 x1 x2 u j cs) (y : Value) : RdMid w (V.setCell ⟨k, 1, none⟩ y) k s p e x0 y x2 u j cs :=
  ⟨m.rd.off m.hk y, Box3.put1 m.box y, ownsRow_setCell_other m.row m.off y, m.hk, m.off, m.bel.setCell (p := ⟨k, 1, none⟩) (by have := m.hk; show w.heap.size ≤ k; omega) y⟩
theorem RdMid.put2 {w V : World} {k : Nat} {s : ByteArray} {p e : Int} {x0 x1 x2 u : Value} {j : Nat} {cs : List Chg} (m : RdMid w V k s p e x0 x1 x2 u j cs) (y : Value) : RdMid w (V.setCell ⟨k, 2, none⟩ y) k s p e x0 x1 y u j cs :=
  ⟨m.rd.off m.hk y, Box3.put2 m.box y, ownsRow_setCell_other m.row m.off y, m.hk, m.off, m.bel.setCell (p := ⟨k, 2, none⟩) (by have := m.hk; show w.heap.size ≤ k; omega) y⟩
theorem RdMid.err {w V : World} {k : Nat} {s : ByteArray} {p e : Int} {x0 x1 x2 u : Value} {j : Nat} {cs : List Chg} (m : RdMid w V k s p e x0 x1 x2 u j cs) (y : Int) : RdMid w (V.setCell ⟨w.heap.size + 1 + 1, 0, none⟩ (.int .i64 y)) k s p y x0 x1 x2 u j cs :=
  m.turn (Turns.setCell (P := Two w.heap.size) (Turns.refl _ _) (p := ⟨w.heap.size + 1 + 1, 0, none⟩) (.inr rfl) _) (m.rd.err y)

/-- The change is put at the row's end. -/
theorem RdMid.push {w V : World} {k : Nat} {s : ByteArray} {p e : Int} {x : Chg} {u : Value} {j : Nat} {cs : List Chg} (m : RdMid w V k s p e (.string x.1) (.string x.2.1) (.bool x.2.2) u j cs) (hj : j ≤ 1000000) (z : Nat) (hz : V.heap.size = z) :
    ∃ g cap V', (Builtin.append_ #[34, 34] 34 #[u, .slice (some ⟨z, 0, none⟩) 1 1]).run Try.prog (V.alloc (.cells #[.string x.1, .string x.2.1, .bool x.2.2] 68)) = .ok (.slice (some ⟨g, 0, none⟩) (j + 1) cap) V' ∧
      V'.ownsRow (w.heap.size + 3) 68 3 (.slice (some ⟨g, 0, none⟩) (j + 1) cap) (j + 1) (cellsC (cs ++ [x])) ∧ RdAt V' w.heap.size s p e ∧ Below w.heap.size w V' := by
  subst hz
  have hb3 : w.heap.size + 3 ≤ V.heap.size := by have := m.hk; have : k < V.heap.size := cell_lt m.box.1.1; omega
  obtain ⟨g, cap, V', hrun, hown, hgr, hat, hge, hlt⟩ := push_C V (w.heap.size + 3) u j cs x m.row hb3 hj
  have t0 : Turns (fun i => u.ownBlock = some i) V V' := ((Turns.refl _ _).alloc _).grown hgr (fun i hi => hi)
  have hno : ∀ i, i < w.heap.size + 3 → ¬ u.ownBlock = some i := fun i hi h => by have := (m.row.lt i h).1; omega
  exact ⟨g, cap, V', hrun, hown, m.rd.turns t0 (hno _ (by omega)) (hno _ (by omega)) (hno _ (by omega)), Below.turns m.bel t0 (fun i h => by have := (m.row.lt i h).1; omega)⟩

end Go.Proofs.Ytcdcnonkoffbhaa

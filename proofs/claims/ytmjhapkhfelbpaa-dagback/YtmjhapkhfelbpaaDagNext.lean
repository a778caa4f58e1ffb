/-
  Package dag: the closure that reads the next number; a task under building.
-/
import Derived.Test.YtmjhapkhfelbpaaDagBytesP
import Derived.Test.YtmjhapkhfelbpaaDagMem
import Derived.Test.YtmjhapkhfelbpaaNodeBuild
import Derived.Test.YtmjhapkhfelbpaaSuperMem
import Derived.Test.YtmjhapkhfelbpaaGet
import Derived.Test.YtmjhapkhfelbpaaAnychain
import Derived.Lib.AppendZeros
namespace Go.Proofs.Ytmjhapkhfelbpaa
open Go.RowKit Plain
set_option linter.unusedVariables false

/-- A text, the place in it and the first error, in boxes of their own. -/
structure NxAt (V : World) (hs hp he : Nat) (s : ByteArray) (p e : Int) : Prop where
  b : V.cell? ⟨hs, 0, none⟩ = some (.string s)
  p : V.cell? ⟨hp, 0, none⟩ = some (.int .i64 p)
  e : V.cell? ⟨he, 0, none⟩ = some (.int .i64 e)
  fp : V.frozen? ⟨hp, 0, none⟩ = false
  fe : V.frozen? ⟨he, 0, none⟩ = false
  n1 : hs ≠ hp
  n2 : hs ≠ he
  n3 : hp ≠ he

theorem NxAt.turns {P : Nat → Prop} {V V' : World} {hs hp he : Nat} {s : ByteArray} {p e : Int} (r : NxAt V hs hp he s p e) (t : Turns P V V') (h0 : ¬ P hs) (h1 : ¬ P hp) (h2 : ¬ P he) : NxAt V' hs hp he s p e :=
  ⟨t.cell (p := ⟨hs, 0, none⟩) h0 r.b, t.cell (p := ⟨hp, 0, none⟩) h1 r.p, t.cell (p := ⟨he, 0, none⟩) h2 r.e, t.frozen (p := ⟨hp, 0, none⟩) (cell_lt r.p) h1 r.fp, t.frozen (p := ⟨he, 0, none⟩) (cell_lt r.e) h2 r.fe, r.n1, r.n2, r.n3⟩

theorem NxAt.drew {V : World} {hs hp he : Nat} {s : ByteArray} {p e : Int} (r : NxAt V hs hp he s p e) : NxAt V.drew hs hp he s p e := r.turns (P := fun _ => False) (Turns.refl _ _).drew id id id

theorem NxAt.put {V : World} {hs hp he : Nat} {s : ByteArray} {p e : Int} (r : NxAt V hs hp he s p e) (p' e' : Int) : NxAt ((V.setCell ⟨hp, 0, none⟩ (.int .i64 p')).setCell ⟨he, 0, none⟩ (.int .i64 e')) hs hp he s p' e' :=
  ⟨cell_set_other (.inl r.n2) (cell_set_other (.inl r.n1) r.b), cell_set_other (.inl r.n3) (World.cell?_setCell_same _ _ _ r.p), World.cell?_setCell_same _ _ _ (cell_set_other (.inl r.n3.symm) r.e), by simpa using r.fp, by simpa using r.fe, r.n1, r.n2, r.n3⟩

def TwoB (hp he : Nat) (k : Nat) : Prop := k = hp ∨ k = he

set_option maxRecDepth 20000 in
set_option maxHeartbeats 1000000 in
/-- NEXT; the world behind it is known ahead. -/
theorem nextD_any (hs hp he : Nat) (s : ByteArray) (p e k : Int) (V : World) (r : NxAt V hs hp he s p e) (hz : s.size ≤ maxLen) :
    ∃ w1, NxAt w1 hs hp he s (gnP s p e k) (gnE s p e k) ∧ Turns (TwoB hp he) V w1 ∧ w1.heap.size = V.heap.size ∧
      Calls Try.prog 47 #[.int .i64 k, .pointer (some ⟨he, 0, none⟩), .pointer (some ⟨hs, 0, none⟩), .pointer (some ⟨hp, 0, none⟩)] V fun x w' => x = .returned (.int .i64 (gnR s p e k)) ∧ w' = w1 := by
  obtain ⟨rb, rp, re, fp, fe, n1, n2, n3⟩ := id r
  by_cases h0 : e = 0
  · subst h0
    have e1 : gnR s p 0 k = getR s p k := if_pos rfl
    have e2 : gnP s p 0 k = getT s p k := if_pos rfl
    have e3 : gnE s p 0 k = getE s p k := if_pos rfl
    rw [e1, e2, e3]
    have cC := fun V => get_any s p k V hz
    generalize getR s p k = x at *
    generalize getT s p k = q at *
    generalize getE s p k = y at *
    clear e1 e2 e3
    have fe' : (V.setCell ⟨hp, 0, none⟩ (.int .i64 q)).frozen? ⟨he, 0, none⟩ = false := by simpa using fe
    have re' : (V.setCell ⟨hp, 0, none⟩ (.int .i64 q)).cell? ⟨he, 0, none⟩ = some (.int .i64 0) := cell_set_other (.inl (fun h => n3 h.symm)) re
    refine ⟨(V.setCell ⟨hp, 0, none⟩ (.int .i64 q)).setCell ⟨he, 0, none⟩ (.int .i64 y), r.put q y, ((Turns.refl (TwoB hp he) V).setCell (p := ⟨hp, 0, none⟩) (.inl rfl) _).setCell (p := ⟨he, 0, none⟩) (.inr rfl) _, by simp, ?_⟩
    clear r
    go_enter Try.func47, Try.ntmps47
    go_wp2_with (go_at_call 48; refine (cC _).mono ?_; rintro e w' ⟨rfl, rfl⟩)
    go_ret
    exact ⟨rfl, rfl⟩
  · have e1 : gnR s p e k = 0 := if_neg h0
    have e2 : gnP s p e k = p := if_neg h0
    have e3 : gnE s p e k = e := if_neg h0
    rw [e1, e2, e3]
    have he' : (e == 0) = false := by simpa using h0
    refine ⟨V, r, Turns.refl _ _, rfl, ?_⟩
    clear e1 e2 e3 r
    go_enter Try.func47, Try.ntmps47
    go_wp2
    go_ret
    exact ⟨rfl, rfl⟩

/-- A task in a box of its own at h; its needs lie from B on. -/
structure TkAt (w : World) (h B : Nat) (u x1 x2 x3 : Value) (ns : List Int) : Prop where
  box : Box4 w h u x1 x2 x3
  row : w.ownsRow B 3 1 u ns.length (ns.map (Value.int .i64))
  off : Off h u
  le : B ≤ w.heap.size

theorem TkAt.turns {P : Nat → Prop} {w w' : World} {h B : Nat} {u x1 x2 x3 : Value} {ns : List Int} (n : TkAt w h B u x1 x2 x3 ns) (t : Turns P w w') (hp : ¬ P h) (hb : ∀ k, P k → k < B) : TkAt w' h B u x1 x2 x3 ns :=
  ⟨n.box.turns t hp, t.owns n.row fun g hg x => by have := (n.row.lt g hg).1; have := hb g x; omega, n.off, Nat.le_trans n.le t.size⟩

theorem TkAt.below {w w' : World} {h B : Nat} {u x1 x2 x3 : Value} {ns : List Int} (n : TkAt w h B u x1 x2 x3 ns) (hb : Below w.heap.size w w') : TkAt w' h B u x1 x2 x3 ns := n.turns (P := fun _ => False) (Turns.of_below hb) id (fun _ x => x.elim)
theorem TkAt.drew {w : World} {h B : Nat} {u x1 x2 x3 : Value} {ns : List Int} (n : TkAt w h B u x1 x2 x3 ns) : TkAt w.drew h B u x1 x2 x3 ns := n.below (Below.refl _ _).drew

/-- One need more. -/
theorem TkAt.push {w : World} {h B : Nat} {u x1 x2 x3 : Value} {ns : List Int} (n : TkAt w h B u x1 x2 x3 ns) (x : Int) (hl : ns.length ≤ 4096) :
    ∃ g cap w', (Builtin.append_ #[29, 29] 29 #[u, .slice (some ⟨w.heap.size, 0, none⟩) 1 1]).run Try.prog (w.alloc (.cells #[.int .i64 x] 3)) = .ok (.slice (some ⟨g, 0, none⟩) (ns.length + 1) cap) w' ∧ Box4 (w.alloc (.cells #[.int .i64 x] 3)) h u x1 x2 x3 ∧ Box4 w' h u x1 x2 x3 ∧
      TkAt (w'.setCell ⟨h, 0, none⟩ (.slice (some ⟨g, 0, none⟩) (ns.length + 1) cap)) h B (.slice (some ⟨g, 0, none⟩) (ns.length + 1) cap) x1 x2 x3 (ns ++ [x]) ∧ Turns (Own h B) w (w'.setCell ⟨h, 0, none⟩ (.slice (some ⟨g, 0, none⟩) (ns.length + 1) cap)) := by
  obtain ⟨g, cap, w', hrun, hown, hgr, hat, hge, hlt⟩ := push_Z w B u ns.length ns x n.row n.le hl
  have t0 : Turns (fun k => u.ownBlock = some k) w w' := ((Turns.refl _ _).alloc _).grown hgr (fun k hk => hk)
  have hbox : Box4 w' h u x1 x2 x3 := n.box.turns t0 fun hk => n.off h hk rfl
  have hh : h < w.heap.size + 1 := by have := n.box.lt; omega
  refine ⟨g, cap, w', hrun, n.box.alloc _, hbox, ⟨hbox.put0 _, ?_, off_grown n.off hat hh, ?_⟩, ?_⟩
  · rw [List.length_append]
    exact owns_off hown (off_grown n.off hat hh) 0 _
  · have := t0.size
    have := n.le
    simp; omega
  · exact (t0.mono fun k hk => .inr (n.row.lt k hk).1).setCell (p := ⟨h, 0, none⟩) (.inl rfl) _

/-- What the operations of a line 't.Needs = append(t.Needs, next(1))' yield, and the worlds. -/
def pushD (h i : Nat) (F : Value) (H g n cap : Nat) (u x : Value) : Nat → Value
  | 0 => .pointer (some ⟨h, i, none⟩)
  | 1 => u
  | 2 => F
  | 3 => x
  | 4 => .slice (some ⟨H, 0, none⟩) 1 1
  | 5 => .slice (some ⟨g, 0, none⟩) (n + 1) cap
  | 6 => .pointer (some ⟨h, i, none⟩)
  | _ => undef

def worldsD (w0 w1 w2 w3 w4 : World) : Nat → World
  | 0 => w0
  | 1 => w1
  | 2 => w2
  | 3 => w3
  | _ => w4

end Go.Proofs.Ytmjhapkhfelbpaa

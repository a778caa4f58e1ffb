/-
  Worlds of which some blocks alone have turned; rows of the call's own that grow. Nothing of any program but its plain types.
-/
import Derived.Test.YtnipikdlfmcheaaNodeMem
namespace Go.Proofs.Ytnipikdlfmcheaa
open Go.RowKit Plain
set_option linter.unusedVariables false

/-- Of the blocks that were there only such as P says have turned; the streams are as they were; no block has gone. -/
structure Turns (P : Nat → Prop) (w w' : World) : Prop where
  os : w'.os = w.os
  tape : w'.tape = w.tape
  output : w'.output = w.output
  size : w.heap.size ≤ w'.heap.size
  block : ∀ k, k < w.heap.size → ¬ P k → w'.heap[k]? = w.heap[k]?

theorem Turns.refl (P : Nat → Prop) (w : World) : Turns P w w := ⟨rfl, rfl, rfl, Nat.le_refl _, fun _ _ _ => rfl⟩

theorem Turns.trans {P : Nat → Prop} {a b c : World} (h : Turns P a b) (k : Turns P b c) : Turns P a c :=
  ⟨k.os.trans h.os, k.tape.trans h.tape, k.output.trans h.output, Nat.le_trans h.size k.size, fun i hi hp => (k.block i (Nat.lt_of_lt_of_le hi h.size) hp).trans (h.block i hi hp)⟩

theorem Turns.mono {P Q : Nat → Prop} {w w' : World} (h : Turns P w w') (hq : ∀ k, P k → Q k) : Turns Q w w' :=
  ⟨h.os, h.tape, h.output, h.size, fun k hk hp => h.block k hk fun x => hp (hq k x)⟩

/-- Where only what is there may turn. -/
theorem Turns.mono' {P Q : Nat → Prop} {w w' : World} (h : Turns P w w') (hq : ∀ k, k < w.heap.size → P k → Q k) : Turns Q w w' :=
  ⟨h.os, h.tape, h.output, h.size, fun k hk hp => h.block k hk fun x => hp (hq k hk x)⟩

theorem Turns.of_below {P : Nat → Prop} {w w' : World} (h : Below w.heap.size w w') : Turns P w w' :=
  ⟨h.os, h.tape, h.output, h.size, fun k hk _ => h.block k hk⟩

theorem Turns.drew {P : Nat → Prop} {a w : World} (h : Turns P a w) : Turns P a w.drew := ⟨h.os, h.tape, h.output, h.size, h.block⟩

theorem Turns.alloc {P : Nat → Prop} {a w : World} (h : Turns P a w) (o : Obj) : Turns P a (w.alloc o) :=
  h.trans (Turns.of_below ((Below.refl _ _).alloc (Nat.le_refl _) o))

theorem Turns.setCell {P : Nat → Prop} {a w : World} (h : Turns P a w) {p : Addr} (hp : P p.block) (u : Value) : Turns P a (w.setCell p u) :=
  h.trans ⟨rfl, rfl, rfl, by simp [World.setCell], fun k hk hn => Below.heap_setCell _ _ _ _ (fun e => hn (e ▸ hp))⟩

theorem Turns.grown {P : Nat → Prop} {a w w' : World} {row : Option Nat} (h : Turns P a w) (hg : w.grownBy w' row) (hr : ∀ k, row = some k → P k) : Turns P a w' :=
  h.trans ⟨hg.os, hg.tape, hg.output, hg.size, fun k hk hn => hg.block k hk fun e => hn (hr k e.symm)⟩

theorem Turns.tr {P : Nat → Prop} {a w w' : World} (h : Turns P a w) (hb : Below w.heap.size w w') : Turns P a w' := h.trans (Turns.of_below hb)

theorem Turns.cell {P : Nat → Prop} {w w' : World} (h : Turns P w w') {p : Addr} {v : Value} (hn : ¬ P p.block) (hc : w.cell? p = some v) : w'.cell? p = some v := by
  rw [World.cell?_of_block (w := w) (h.block p.block (cell_lt hc) hn)]; exact hc

theorem Turns.frozen {P : Nat → Prop} {w w' : World} (h : Turns P w w') {p : Addr} (hl : p.block < w.heap.size) (hn : ¬ P p.block) (hc : w.frozen? p = false) : w'.frozen? p = false := by
  rw [World.frozen?_of_block (w := w) (h.block p.block hl hn)]; exact hc

/-- Where all that may turn is the call's own. -/
theorem Below.turns {P : Nat → Prop} {w a b : World} (h : Below w.heap.size w a) (k : Turns P a b) (hP : ∀ i, P i → w.heap.size ≤ i) : Below w.heap.size w b :=
  ⟨k.os.trans h.os, k.tape.trans h.tape, k.output.trans h.output, Nat.le_trans h.size k.size, fun i hi => (k.block i (Nat.lt_of_lt_of_le hi h.size) fun x => by have := hP i x; omega).trans (h.block i hi)⟩

theorem Turns.owns {P : Nat → Prop} {w w' : World} {B : Nat} {e : TypeId} {s : Nat} {v : Value} {n : Nat} {xs : List Value} (h : Turns P w w') (ho : w.ownsRow B e s v n xs) (hn : ∀ g, v.ownBlock = some g → ¬ P g) : w'.ownsRow B e s v n xs := by
  obtain ⟨h1, h2⟩ := ho
  refine ⟨h1, ?_⟩
  rcases h2 with h2 | ⟨g, cap, cur, hv, hg, hh, r⟩
  · exact .inl h2
  · have hl : g < w.heap.size := by
      refine Nat.lt_of_not_le fun hx => ?_
      rw [Array.getElem?_eq_none hx] at hh
      cases hh
    exact .inr ⟨g, cap, cur, hv, hg, by rw [h.block g hl (hn g (by rw [hv]; rfl))]; exact hh, r⟩

/-- A row that lies from block 'base' on, if anywhere. -/
def From (base : Nat) (a : Option Addr) : Prop := ∀ x, a = some x → base ≤ x.block

theorem from_nil (base : Nat) : From base none := fun x h => by cases h
theorem From.mono {base base' : Nat} {a : Option Addr} (h : From base a) (hb : base' ≤ base) : From base' a := fun x e => Nat.le_trans hb (h x e)

theorem IsI.turns {P : Nat → Prop} {w w' : World} {a : Option Addr} {c : Nat} {ms : List Int} (h : IsI w a c ms) (t : Turns P w w') (hp : ∀ x, a = Option.some x → ¬ P x.block) : IsI w' a c ms := by
  refine ⟨h.1, h.2.1, fun j x hx => ?_⟩
  obtain ⟨b, o, ha, hlt, hc⟩ := h.2.2 j x hx
  exact ⟨b, o, ha, Nat.lt_of_lt_of_le hlt t.size, t.cell (p := ⟨b, o + j, none⟩) (hp ⟨b, o, none⟩ ha) hc⟩

theorem IsS.turns {P : Nat → Prop} {w w' : World} {a : Option Addr} {c : Nat} {ms : List ByteArray} (h : IsS w a c ms) (t : Turns P w w') (hp : ∀ x, a = Option.some x → ¬ P x.block) : IsS w' a c ms := by
  refine ⟨h.1, h.2.1, fun j x hx => ?_⟩
  obtain ⟨b, o, ha, hlt, hc, hs⟩ := h.2.2 j x hx
  exact ⟨b, o, ha, Nat.lt_of_lt_of_le hlt t.size, t.cell (p := ⟨b, o + j, none⟩) (hp ⟨b, o, none⟩ ha) hc, hs⟩

/-- Two rows that lie apart. -/
def Apart (u v : Value) : Prop := ∀ g, u.ownBlock = some g → v.ownBlock ≠ some g

theorem Apart.symm {u v : Value} (h : Apart u v) : Apart v u := fun g h1 h2 => h g h2 h1
theorem apart_nil (v : Value) (c : Nat) : Apart (.slice none 0 c) v := fun g h => by simp [Value.ownBlock] at h
theorem apart_nil' (v : Value) (c : Nat) : Apart v (.slice none 0 c) := (apart_nil v c).symm

/-- A row that has grown lies apart from what its elder one lay apart from. -/
theorem apart_grown {v u : Value} {g n cap H : Nat} (h : Apart v u) (hg : v.ownBlock = some g ∨ g = H) (hu : ∀ k, u.ownBlock = some k → k < H) : Apart (.slice (some ⟨g, 0, none⟩) n cap) u := by
  intro k h1 h2
  simp [Value.ownBlock] at h1
  subst h1
  rcases hg with hg | hg
  · exact h g hg h2
  · have := hu g h2; omega

/-- One text more at the end of a row of the call's own. -/
theorem push_S (W : World) (base : Nat) (v : Value) (n : Nat) (l : List ByteArray) (x : ByteArray) (hown : W.ownsRow base 9 1 v n (l.map Value.string)) (hb : base ≤ W.heap.size) (hn : n ≤ 4096) :
    ∃ g cap w', (Builtin.append_ #[66, 66] 66 #[v, .slice (some ⟨W.heap.size, 0, none⟩) 1 1]).run Try.prog (W.alloc (.cells #[.string x] 9)) = .ok (.slice (some ⟨g, 0, none⟩) (n + 1) cap) w' ∧
      w'.ownsRow base 9 1 (.slice (some ⟨g, 0, none⟩) (n + 1) cap) (n + 1) ((l ++ [x]).map Value.string) ∧ (W.alloc (.cells #[.string x] 9)).grownBy w' v.ownBlock ∧ (v.ownBlock = some g ∨ g = W.heap.size + 1) ∧ base ≤ g ∧ g < w'.heap.size := by
  obtain ⟨i0, hi, hz0, hz1, hz2⟩ := info_parts Try.info9
  obtain ⟨g, cap, w', h1, h2, h3, h4, h5⟩ := run_append_lies (P := Try.prog) (W.alloc (.cells #[.string x] 9)) 66 66 base 9 i0 _ 1 16 Try.underlying66 hi hz0 hz1 hz2 rfl (by decide) v n (l.map Value.string) (hown.alloc _) ⟨W.heap.size, 0, none⟩ 1 1 [.string x] rfl
    (by
      intro j u hj
      match j, hj with
      | 0, hj => simp at hj; subst hj; rw [at_add]; exact World.cell?_alloc_at _ _ _ _ rfl)
    (by intro u hu; simp at hu; subst hu; rfl) (by omega) (by unfold maxLen; omega) (by omega) (by simp; omega) (W.heap.size + 1) (by simp)
  refine ⟨g, cap, w', h1, by rw [List.map_append]; exact h2, h3, h4, (h2.lt g rfl).1, h5⟩

/-- A row of the call's own, as a slice. -/
theorem owns_S {w : World} {base : Nat} {v : Value} {n : Nat} {l : List ByteArray} (h : w.ownsRow base 9 1 v n (l.map Value.string)) (hl : ∀ x ∈ l, x.size ≤ maxLen) : ∃ a c, v = .slice a n c ∧ n = l.length ∧ IsS w a c l ∧ From base a := by
  have hlen : l.length = n := by simpa using h.1
  have hcells := fun g => h.cells (g := g)
  have hlt := h.lt
  rcases h.2 with ⟨rfl, rfl⟩ | ⟨g, cap, cur, rfl, hg, hh, hnc, hcm, hcs, htk⟩
  · obtain rfl : l = [] := List.length_eq_zero_iff.1 hlen
    exact ⟨none, 0, rfl, rfl, ⟨Nat.le_refl _, Nat.zero_le _, fun j m hj => by simp at hj⟩, from_nil _⟩
  · refine ⟨_, _, rfl, hlen.symm, ⟨by omega, hcm, fun j x hx => ⟨g, 0, rfl, (hlt g rfl).2, ?_, hl x (List.mem_of_getElem? hx)⟩⟩, fun x hx => by cases hx; exact hg⟩
    have := hcells g rfl j (.string x) (by rw [List.getElem?_map, hx]; rfl)
    rw [at_add] at this
    exact this

/-- One number more. -/
theorem push_Z (W : World) (base : Nat) (v : Value) (n : Nat) (l : List Int) (x : Int) (hown : W.ownsRow base 3 1 v n (l.map (Value.int .i64))) (hb : base ≤ W.heap.size) (hn : n ≤ 4096) :
    ∃ g cap w', (Builtin.append_ #[22, 22] 22 #[v, .slice (some ⟨W.heap.size, 0, none⟩) 1 1]).run Try.prog (W.alloc (.cells #[.int .i64 x] 3)) = .ok (.slice (some ⟨g, 0, none⟩) (n + 1) cap) w' ∧
      w'.ownsRow base 3 1 (.slice (some ⟨g, 0, none⟩) (n + 1) cap) (n + 1) ((l ++ [x]).map (Value.int .i64)) ∧ (W.alloc (.cells #[.int .i64 x] 3)).grownBy w' v.ownBlock ∧ (v.ownBlock = some g ∨ g = W.heap.size + 1) ∧ base ≤ g ∧ g < w'.heap.size := by
  obtain ⟨i0, hi, hz0, hz1, hz2⟩ := info_parts Try.info3
  obtain ⟨g, cap, w', h1, h2, h3, h4, h5⟩ := run_append_lies (P := Try.prog) (W.alloc (.cells #[.int .i64 x] 3)) 22 22 base 3 i0 _ 1 8 Try.underlying22 hi hz0 hz1 hz2 rfl (by decide) v n (l.map (Value.int .i64)) (hown.alloc _) ⟨W.heap.size, 0, none⟩ 1 1 [.int .i64 x] rfl
    (by
      intro j u hj
      match j, hj with
      | 0, hj => simp at hj; subst hj; rw [at_add]; exact World.cell?_alloc_at _ _ _ _ rfl)
    (by intro u hu; simp at hu; subst hu; rfl) (by omega) (by unfold maxLen; omega) (by omega) (by simp; omega) (W.heap.size + 1) (by simp)
  refine ⟨g, cap, w', h1, by rw [List.map_append]; exact h2, h3, h4, (h2.lt g rfl).1, h5⟩

theorem owns_I {w : World} {base : Nat} {v : Value} {n : Nat} {l : List Int} (h : w.ownsRow base 3 1 v n (l.map (Value.int .i64))) : ∃ a c, v = .slice a n c ∧ n = l.length ∧ IsI w a c l ∧ From base a := by
  have hlen : l.length = n := by simpa using h.1
  have hcells := fun g => h.cells (g := g)
  have hlt := h.lt
  rcases h.2 with ⟨rfl, rfl⟩ | ⟨g, cap, cur, rfl, hg, hh, hnc, hcm, hcs, htk⟩
  · obtain rfl : l = [] := List.length_eq_zero_iff.1 hlen
    exact ⟨none, 0, rfl, rfl, ⟨Nat.le_refl _, Nat.zero_le _, fun j m hj => by simp at hj⟩, from_nil _⟩
  · refine ⟨_, _, rfl, hlen.symm, ⟨by omega, hcm, fun j x hx => ⟨g, 0, rfl, (hlt g rfl).2, ?_⟩⟩, fun x hx => by cases hx; exact hg⟩
    have := hcells g rfl j (.int .i64 x) (by rw [List.getElem?_map, hx]; rfl)
    rw [at_add] at this
    exact this

end Go.Proofs.Ytnipikdlfmcheaa

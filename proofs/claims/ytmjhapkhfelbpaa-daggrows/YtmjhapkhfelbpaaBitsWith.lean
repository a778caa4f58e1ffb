/-
  Copies of a row; slices.Clone of a row; package bits: With; the document's own With.
-/
import Derived.Test.YtmjhapkhfelbpaaBitsRef
import Derived.Lib.AppendZeros
namespace Go.Proofs.Ytmjhapkhfelbpaa
open Go.RowKit Plain
set_option linter.unusedVariables false

/-- A row that the call itself owns, or none. -/
def OwnT (base : Nat) (w : World) (a : Option Addr) (cap : Nat) (l : List Bool) : Prop :=
  (a = none ∧ cap = 0 ∧ l = []) ∨ ∃ g, a = some ⟨g, 0, none⟩ ∧ base ≤ g ∧ RowT w g cap l

theorem OwnT.isB {base : Nat} {w : World} {a : Option Addr} {cap : Nat} {l : List Bool} (h : OwnT base w a cap l) : IsB w a cap l := by
  rcases h with ⟨rfl, rfl, rfl⟩ | ⟨g, rfl, _, hr⟩
  · exact IsB_nil _
  · exact hr.isB

theorem OwnT.below {base : Nat} {w w' : World} {a : Option Addr} {cap : Nat} {l : List Bool} (h : OwnT base w a cap l) (hb : Below w.heap.size w w') : OwnT base w' a cap l := by
  rcases h with h | ⟨g, h1, h2, hr⟩
  · exact .inl h
  · exact .inr ⟨g, h1, h2, hr.below hb⟩

theorem OwnT.some {base : Nat} {w : World} {a : Option Addr} {cap : Nat} {l : List Bool} (h : OwnT base w a cap l) (hl : 0 < l.length) : ∃ g, a = some ⟨g, 0, none⟩ ∧ base ≤ g ∧ RowT w g cap l := by
  rcases h with ⟨_, _, rfl⟩ | h
  · cases hl
  · exact h

theorem isB_src {w : World} {ad : Addr} {c : Nat} {l : List Bool} (h : IsB w (some ad) c l) : ∀ j u, (l.map Value.bool)[j]? = some u → w.cell? (ad.add j) = some u := by
  intro j u hj
  rw [List.getElem?_map] at hj
  obtain ⟨x, hx, rfl⟩ := Option.map_eq_some_iff.1 hj
  obtain ⟨b', o', ha, _, hc⟩ := h.2.2 j x hx
  cases ha
  rw [at_add]
  exact hc

theorem run_append_none {w : World} (base : Nat) (t ty e : TypeId) (i : TypeInfo) (size m c : Nat) (hm : m = 0) (ht : Try.prog.underlying t = some (.slice e)) (hi : Try.prog.info? e = some i)
    (v : Value) (n : Nat) (xs : List Value) (hown : w.ownsRow base e size v n xs) :
    (Builtin.append_ #[t, t] ty #[v, .slice none m c]).run Try.prog w = .ok v w := by
  subst hm
  rcases hown.2 with ⟨rfl, rfl⟩ | ⟨g, cap, cur, rfl, _, _, hnc, _⟩
  · simp [Builtin.append_, run_underlying ht, sizeOf, typeInfo, hi, Builtin.lenOf, Builtin.firstCells]
  · simp [Builtin.append_, run_underlying ht, sizeOf, typeInfo, hi, Builtin.lenOf, Builtin.firstCells, hnc, storeCells]

/-- 'append([]bool{}, l...)': a row of the call's own. -/
theorem copyT (W : World) (a : Option Addr) (c n : Nat) (l : List Bool) (hn : n = l.length) (hB : IsB W a c l) (hz : n ≤ 140737488355328) (ty : TypeId) :
    ∃ g cap w', (Builtin.append_ #[25, 25] ty #[.slice (some ⟨W.heap.size, 0, none⟩) 0 0, .slice a n c]).run Try.prog (W.alloc (.cells #[] 4)) = .ok (.slice (some ⟨g, 0, none⟩) n cap) w' ∧ W.heap.size ≤ g ∧ RowT w' g cap l ∧ Below W.heap.size W w' := by
  subst hn
  obtain ⟨i0, hi, hz0, hz1, hz2⟩ := info_parts Try.info4
  have hown := World.ownsRow_made (base := W.heap.size) (e := 4) (size := 1) W #[] 0 (Nat.le_refl _) (Nat.zero_le _) rfl
  have hB0 := (Below.refl W.heap.size W).alloc (Nat.le_refl _) (.cells #[] 4)
  cases a with
  | none =>
    have h0 : l = [] := by
      rcases Nat.eq_zero_or_pos l.length with h | h
      · exact List.length_eq_zero_iff.1 h
      · obtain ⟨b, o, hh, _⟩ := hB.some h
        cases hh
    subst h0
    refine ⟨W.heap.size, 0, _, run_append_none W.heap.size _ ty _ i0 1 0 c rfl Try.underlying25 hi _ _ _ hown, Nat.le_refl _, ⟨#[], ?_, rfl, Nat.le_refl _, Nat.zero_le _, rfl⟩, hB0⟩
    exact heap_new W _
  | some ad =>
    obtain ⟨v', w', hr, h2, h3, h4⟩ := run_append_own (P := Try.prog) (W.alloc (.cells #[] 4)) W.heap.size 25 ty 4 i0 _ 1 1 Try.underlying25 hi hz0 hz1 hz2 rfl (by decide) _ 0 _ hown ad l.length c (l.map Value.bool) (by simp) (isB_src (hB.below hB0))
      (fun u hu => by obtain ⟨x, _, rfl⟩ := List.mem_map.1 hu; rfl) (by have := hB.1; have := hB.2.1; unfold maxLen at *; omega) (by omega) (by simp)
    rcases h2.2 with ⟨h, _⟩ | ⟨g, cap, cur, h, hg, hcur, hnc, hcm, hsz, htk⟩
    · exact absurd (h4.1 h).1 (by simp)
    · subst h
      refine ⟨g, cap, w', by rw [hr, Nat.zero_add], hg, ⟨cur, hcur, by simpa using htk, by omega, hcm, by omega⟩, hB0.grown h3 (by simp) (by intro k hk; simp [Value.ownBlock] at hk; omega)⟩

theorem placesOk_take {l : List Bool} {ps : List Int} {j : Nat} {p : Int} (h : placesOk l (ps.take j) = true) (hp : ps[j]? = some p) (h0 : 0 ≤ p) (h1 : p < l.length) : placesOk l (ps.take (j + 1)) = true := by
  unfold placesOk at h ⊢
  rw [List.take_add_one, hp, List.all_append, h]
  simp [h0, h1]

theorem placesOk_bad {l : List Bool} {ps : List Int} {j : Nat} {p : Int} (hp : ps[j]? = some p) (h : p < 0 ∨ (l.length : Int) ≤ p) : placesOk l ps = false := by
  unfold placesOk
  rw [List.all_eq_false]
  refine ⟨p, List.mem_of_getElem? hp, ?_⟩
  simp
  omega

theorem setB_take (l : List Bool) (is : Bool) {ps : List Int} {j : Nat} {p : Int} (hp : ps[j]? = some p) : setB l is (ps.take (j + 1)) = (setB l is (ps.take j)).set p.toNat is := by
  rw [List.take_add_one, hp, setB_append]; rfl

theorem withE_bad {l : List Bool} {ps : List Int} (h : placesOk l ps = false) : withE l ps = 1 := by unfold withE; rw [h]; rfl
theorem withL_bad {l : List Bool} {is : Bool} {ps : List Int} (h : placesOk l ps = false) : withL l is ps = [] := by unfold withL; rw [h]; rfl
theorem withE_ok {l : List Bool} {ps : List Int} (h : placesOk l ps = true) : withE l ps = 0 := by unfold withE; rw [h]; rfl
theorem withL_ok {l : List Bool} {is : Bool} {ps : List Int} (h : placesOk l ps = true) : withL l is ps = setB l is ps := by unfold withL; rw [h]; rfl

end Go.Proofs.Ytmjhapkhfelbpaa

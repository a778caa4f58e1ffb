/-
  The program's own joined rows, and the parts of a node.
-/
import Derived.Test.YtmjhapkhfelbpaaNodeBuild
import Derived.Deep.AppendLies
import Derived.Lib.AppendZeros
namespace Go.Proofs.Ytmjhapkhfelbpaa
open Go.RowKit Plain
set_option linter.unusedVariables false

theorem append_nil {w : World} (base : Nat) (t ty e : TypeId) (i : TypeInfo) (size m c : Nat) (hm : m = 0) (ht : Try.prog.underlying t = some (.slice e)) (hi : Try.prog.info? e = some i)
    (v : Value) (n : Nat) (xs : List Value) (hown : w.ownsRow base e size v n xs) :
    (Builtin.append_ #[t, t] ty #[v, .slice none m c]).run Try.prog w = .ok v w := by
  subst hm
  rcases hown.2 with ⟨rfl, rfl⟩ | ⟨g, cap, cur, rfl, _, _, hnc, _⟩
  · simp [Builtin.append_, run_underlying ht, sizeOf, typeInfo, hi, Builtin.lenOf, Builtin.firstCells]
  · simp [Builtin.append_, run_underlying ht, sizeOf, typeInfo, hi, Builtin.lenOf, Builtin.firstCells, hnc, storeCells]

theorem IsS.none {w : World} {c : Nat} {l : List ByteArray} (h : IsS w none c l) : l = [] := by
  rcases Nat.eq_zero_or_pos l.length with h0 | h0
  · exact List.length_eq_zero_iff.1 h0
  · obtain ⟨b, o, hh, _⟩ := h.2.2 0 l[0] (List.getElem?_eq_getElem h0)
    cases hh

theorem IsI.none {w : World} {c : Nat} {l : List Int} (h : IsI w none c l) : l = [] := by
  rcases Nat.eq_zero_or_pos l.length with h0 | h0
  · exact List.length_eq_zero_iff.1 h0
  · obtain ⟨b, o, hh, _⟩ := h.2.2 0 l[0] (List.getElem?_eq_getElem h0)
    cases hh

theorem grown_refl (w : World) (r : Option Nat) : w.grownBy w r := ⟨rfl, rfl, rfl, Nat.le_refl _, fun _ _ _ => rfl⟩

/-- A row of texts put behind a row of the call's own. -/
theorem append_S (W : World) (base : Nat) (v : Value) (n : Nat) (l : List ByteArray) (hown : W.ownsRow base 9 1 v n (l.map Value.string)) (hb : base ≤ W.heap.size) (a : Option Addr) (c m : Nat) (ys : List ByteArray) (hm : m = ys.length) (hY : IsS W a c ys) (hn : n + m ≤ 4096) :
    ∃ v' w', (Builtin.append_ #[60, 60] 60 #[v, .slice a m c]).run Try.prog W = .ok v' w' ∧
      w'.ownsRow base 9 1 v' (n + m) ((l ++ ys).map Value.string) ∧ W.grownBy w' v.ownBlock ∧ (v'.ownBlock = v.ownBlock ∨ v'.ownBlock = some W.heap.size) := by
  obtain ⟨i0, hi, hz0, hz1, hz2⟩ := info_parts Try.info9
  cases a with
  | none =>
    have h0 := hY.none
    subst h0
    have hm0 : m = 0 := hm
    refine ⟨v, W, append_nil base _ _ _ i0 1 m c hm0 Try.underlying60 hi _ _ _ hown, ?_, grown_refl _ _, .inl rfl⟩
    rw [hm0, List.append_nil]; exact hown
  | some ad =>
    obtain ⟨v', w', hr, h2, h3, h4, h5⟩ := run_append_own_at (P := Try.prog) W base 60 60 9 i0 _ 1 16 Try.underlying60 hi hz0 hz1 hz2 rfl (by decide) v n (l.map Value.string) hown ad m c (ys.map Value.string) (by simp [hm])
      (by
        intro j u hj
        rw [List.getElem?_map] at hj
        cases hx : ys[j]? with
        | none => rw [hx] at hj; cases hj
        | some x =>
          rw [hx] at hj
          cases hj
          obtain ⟨b, o, hh, _, hc, _⟩ := hY.2.2 j x hx
          cases hh
          rw [at_add]; exact hc)
      (fun u hu => by obtain ⟨x, _, rfl⟩ := List.mem_map.1 hu; rfl) (by unfold maxLen; omega) (by omega) hb
    exact ⟨v', w', hr, by rw [List.map_append]; exact h2, h3, h5⟩

/-- A row of numbers put behind a row of the call's own. -/
theorem append_I (W : World) (base : Nat) (v : Value) (n : Nat) (l : List Int) (hown : W.ownsRow base 3 1 v n (l.map (Value.int .i64))) (hb : base ≤ W.heap.size) (a : Option Addr) (c m : Nat) (ys : List Int) (hm : m = ys.length) (hY : IsI W a c ys) (hn : n + m ≤ 4096) :
    ∃ v' w', (Builtin.append_ #[29, 29] 29 #[v, .slice a m c]).run Try.prog W = .ok v' w' ∧
      w'.ownsRow base 3 1 v' (n + m) ((l ++ ys).map (Value.int .i64)) ∧ W.grownBy w' v.ownBlock ∧ (v'.ownBlock = v.ownBlock ∨ v'.ownBlock = some W.heap.size) := by
  obtain ⟨i0, hi, hz0, hz1, hz2⟩ := info_parts Try.info3
  cases a with
  | none =>
    have h0 := hY.none
    subst h0
    have hm0 : m = 0 := hm
    refine ⟨v, W, append_nil base _ _ _ i0 1 m c hm0 Try.underlying29 hi _ _ _ hown, ?_, grown_refl _ _, .inl rfl⟩
    rw [hm0, List.append_nil]; exact hown
  | some ad =>
    obtain ⟨v', w', hr, h2, h3, h4, h5⟩ := run_append_own_at (P := Try.prog) W base 29 29 3 i0 _ 1 8 Try.underlying29 hi hz0 hz1 hz2 rfl (by decide) v n (l.map (Value.int .i64)) hown ad m c (ys.map (Value.int .i64)) (by simp [hm])
      (by
        intro j u hj
        rw [List.getElem?_map] at hj
        cases hx : ys[j]? with
        | none => rw [hx] at hj; cases hj
        | some x =>
          rw [hx] at hj
          cases hj
          obtain ⟨b, o, hh, _, hc⟩ := hY.2.2 j x hx
          cases hh
          rw [at_add]; exact hc)
      (fun u hu => by obtain ⟨x, _, rfl⟩ := List.mem_map.1 hu; rfl) (by unfold maxLen; omega) (by omega) hb
    exact ⟨v', w', hr, by rw [List.map_append]; exact h2, h3, h5⟩

/-- Rows that lie side by side in a block. -/
def RowsS (w : World) (H : Nat) (rs : List (Option Addr × Nat × List ByteArray)) : Prop :=
  ∀ i r, rs[i]? = some r → w.cell? ⟨H, i, none⟩ = some (.slice r.1 r.2.2.length r.2.1) ∧ IsS w r.1 r.2.1 r.2.2

def flatS (rs : List (Option Addr × Nat × List ByteArray)) : List ByteArray := rs.flatMap fun r => r.2.2

theorem flatS_take {rs : List (Option Addr × Nat × List ByteArray)} {i : Nat} {r : Option Addr × Nat × List ByteArray} (h : rs[i]? = some r) : flatS (rs.take (i + 1)) = flatS (rs.take i) ++ r.2.2 := by
  unfold flatS
  rw [List.take_add_one, h, List.flatMap_append]
  simp

theorem flatS_le (rs : List (Option Addr × Nat × List ByteArray)) (i : Nat) : (flatS (rs.take i)).length ≤ (flatS rs).length := by
  have e : flatS rs = flatS (rs.take i) ++ flatS (rs.drop i) := by
    unfold flatS
    rw [← List.flatMap_append, List.take_append_drop]
  rw [e, List.length_append]; omega

/-- Rows that lie side by side in a block. -/
def RowsI (w : World) (H : Nat) (rs : List (Option Addr × Nat × List Int)) : Prop :=
  ∀ i r, rs[i]? = some r → w.cell? ⟨H, i, none⟩ = some (.slice r.1 r.2.2.length r.2.1) ∧ IsI w r.1 r.2.1 r.2.2

def flatI (rs : List (Option Addr × Nat × List Int)) : List Int := rs.flatMap fun r => r.2.2

theorem flatI_take {rs : List (Option Addr × Nat × List Int)} {i : Nat} {r : Option Addr × Nat × List Int} (h : rs[i]? = some r) : flatI (rs.take (i + 1)) = flatI (rs.take i) ++ r.2.2 := by
  unfold flatI
  rw [List.take_add_one, h, List.flatMap_append]
  simp

theorem flatI_le (rs : List (Option Addr × Nat × List Int)) (i : Nat) : (flatI (rs.take i)).length ≤ (flatI rs).length := by
  have e : flatI rs = flatI (rs.take i) ++ flatI (rs.drop i) := by
    unfold flatI
    rw [← List.flatMap_append, List.take_append_drop]
  rw [e, List.length_append]; omega

end Go.Proofs.Ytmjhapkhfelbpaa

/-
  As more is done: which were free are so still, but for what was done. Plain lists, and the set of them.
-/
import Derived.Test.YtmjhapkhfelbpaaDagThose
import Derived.Test.YtmjhapkhfelbpaaIntset
namespace Go.Proofs.Ytmjhapkhfelbpaa.Plain
open Go.RowKit
set_option linter.unusedVariables false

/-- How many of the first so many were there. -/
def hitN (L M : List Nat) (j : Nat) : Nat := ((M.take j).filter (fun y => decide (y ∈ L))).length

theorem hitN_yes {L M : List Nat} {j y : Nat} (hy : M[j]? = some y) (h : y ∈ L) : hitN L M (j + 1) = hitN L M j + 1 := by
  unfold hitN; rw [List.take_add_one, hy, List.filter_append, List.length_append]; simp [h]
theorem hitN_no {L M : List Nat} {j y : Nat} (hy : M[j]? = some y) (h : ¬ y ∈ L) : hitN L M (j + 1) = hitN L M j := by
  unfold hitN; rw [List.take_add_one, hy, List.filter_append, List.length_append]; simp [h]
theorem hitN_le (L M : List Nat) (j : Nat) : hitN L M j ≤ j := by
  unfold hitN
  have h1 := List.length_filter_le (fun y => decide (y ∈ L)) (M.take j)
  rw [List.length_take] at h1
  omega

theorem filter_but (L : List Nat) (hn : L.Nodup) {x : Nat} (hx : x ∈ L) : (L.filter (fun y => decide (y ≠ x))).length + 1 = L.length := by
  induction L with
  | nil => cases hx
  | cons a l ih =>
    rw [List.nodup_cons] at hn
    by_cases h : a = x
    · subst h
      have : l.filter (fun y => decide (y ≠ a)) = l := by
        rw [List.filter_eq_self]
        intro y hy
        exact decide_eq_true fun e => hn.1 (e ▸ hy)
      rw [List.filter_cons, if_neg (by simp), this]
      simp
    · have hxl : x ∈ l := by
        rcases List.mem_cons.1 hx with e | e
        · exact absurd e.symm h
        · exact e
      rw [List.filter_cons, if_pos (by simpa using h), List.length_cons, ih hn.2 hxl, List.length_cons]

theorem freeL_nodup (ts : List TaskP) (o : List Bool) : (freeL ts o).Nodup := List.Nodup.sublist List.filter_sublist List.nodup_range

/-- All that were free but one are so still. -/
theorem hit_all {ts : List TaskP} {o : List Bool} {x : Nat} (ho : o.length = ts.length) (hx : x ∈ freeL ts o) : hitN (freeL ts o) (freeL ts (o.set x true)) (freeL ts (o.set x true)).length + 1 = (freeL ts o).length := by
  rw [← filter_but (freeL ts o) (freeL_nodup ts o) hx]
  congr 1
  unfold hitN
  rw [List.take_length]
  congr 1
  have hxl := (mem_freeL.1 hx).1
  show ((List.range ts.length).filter (freeB ts (o.set x true))).filter _ = ((List.range ts.length).filter (freeB ts o)).filter _
  rw [List.filter_filter, List.filter_filter]
  refine List.filter_congr fun y hy => ?_
  have hyl := List.mem_range.1 hy
  have hm : decide (y ∈ freeL ts o) = freeB ts o y := by
    rw [Bool.eq_iff_iff, decide_eq_true_eq, mem_freeL]
    exact ⟨fun h => h.2, fun h => ⟨hyl, h⟩⟩
  rw [hm]
  by_cases hyx : y = x
  · subst hyx
    have : freeB ts (o.set y true) y = false := by
      rw [Bool.eq_false_iff]
      intro h
      have := ((freeB_iff ts _ y).1 h).1
      rw [onAt_set, if_pos ⟨rfl, by omega⟩] at this
      cases this
    rw [this]
    simp
  · cases hf : freeB ts o y with
    | true => rw [free_more hyx hf]; simp [hyx]
    | false => simp

/-- What gets free needed what was done. -/
theorem free_new {ts : List TaskP} {o : List Bool} {x y : Nat} (hi : Inside ts) (hy : y ∈ freeL ts (o.set x true)) (h0 : ¬ y ∈ freeL ts o) : (x : Int) ∈ needsAt ts y := by
  obtain ⟨h1, h2⟩ := mem_freeL.1 hy
  refine free_needs hi h2 ?_
  rw [Bool.eq_false_iff]
  exact fun h => h0 (mem_freeL.2 ⟨h1, h⟩)

/-- A place of a row, from any number. -/
theorem place_of (z : Int) (K : Nat) (hK : 0 < K) : ∃ i : Nat, (z.tmod K + K).tmod K = i ∧ i < K := by
  have h1 : -(K : Int) < z.tmod K := by
    have := Int.lt_tmod_of_pos z (show (0 : Int) < K by omega)
    exact this
  have h2 : z.tmod K < K := Int.tmod_lt_of_pos z (by omega)
  have h3 : 0 ≤ (z.tmod K + K).tmod K := Int.tmod_nonneg _ (by omega)
  have h4 : (z.tmod K + K).tmod K < K := Int.tmod_lt_of_pos _ (by omega)
  exact ⟨((z.tmod K + K).tmod K).toNat, by omega, by omega⟩

end Go.Proofs.Ytmjhapkhfelbpaa.Plain
namespace Go.Proofs.Ytmjhapkhfelbpaa
open Go.RowKit Plain
set_option linter.unusedVariables false

def memS (l : List Nat) : Int → Bool := fun y => decide (y ∈ intsN l)

theorem memS_nat (l : List Nat) (y : Nat) : memS l y = decide (y ∈ l) := by
  unfold memS intsN
  rw [Bool.eq_iff_iff, decide_eq_true_eq, decide_eq_true_eq, List.mem_map]
  exact ⟨fun ⟨z, hz, e⟩ => by have : z = y := by omega
                              exact this ▸ hz, fun h => ⟨y, h, rfl⟩⟩

theorem isSet_congr {P : Program} {k e : TypeId} {w : World} {b n c : Nat} {S S' : Int → Bool} (h : IsSet P k e w b n S c) (hs : ∀ x, wfI x → S x = S' x) : IsSet P k e w b n S' c := by
  obtain ⟨D, ho, ht, hr, hc⟩ := h
  exact ⟨D, ho, ht, fun x hx => by rw [← hs x hx]; exact hr x hx, hc⟩

theorem theIB16 : IB Try.prog 48 3 4 := ⟨Try.underlying48, Try.underlying3, Try.underlying4, fun w => by kernel_rfl⟩

theorem wfI_nat {y : Nat} (h : y ≤ 4096) : wfI (y : Int) := by
  have h1 : -9223372036854775808 ≤ (y : Int) := by omega
  have h2 : (y : Int) ≤ 9223372036854775807 := by omega
  generalize (y : Int) = x at h1 h2
  unfold wfI
  simp [Lit.wf, IntKind.min, IntKind.max, IntKind.signed, IntKind.bits]
  exact ⟨h1, h2⟩

end Go.Proofs.Ytmjhapkhfelbpaa

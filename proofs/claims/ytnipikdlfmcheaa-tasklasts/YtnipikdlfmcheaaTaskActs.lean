/-
  What is done, as it is handed in.
-/
import Derived.Test.YtnipikdlfmcheaaTaskOpen
import Derived.Deep.SlicePairs
namespace Go.Proofs.Ytnipikdlfmcheaa
open Go.RowKit Plain Go.ChangeShapes Go.WideShapes
set_option linter.unusedVariables false

def wfI (n : Int) : Prop := (Lit.int .i64 n).wf = true

def IsA (w : World) (a : Option Addr) (c : Nat) (xs : List (Int × Int)) : Prop :=
  xs.length ≤ c ∧ c ≤ maxLen ∧ ∀ j p, xs[j]? = some p → ∃ b o, a = some ⟨b, o, none⟩ ∧ b < w.heap.size ∧ w.cell? ⟨b, o + j * 2, none⟩ = some (.int .i64 p.1) ∧ w.cell? ⟨b, o + j * 2 + 1, none⟩ = some (.int .i64 p.2) ∧ wfI p.1 ∧ wfI p.2

set_option maxRecDepth 20000 in
theorem open_acts {H : Type} {enc : TypeId × Value → H} {w : World} {r : Reach} {b0 : Nat} {v : Value} {d : DataW H} {p : List MemPlace}
    (hv : Value.okWide Try.prog w r b0 46 v) (h : DataW.Trod enc Try.prog w 0 (fun _ => true) true 46 v d p) :
    ∃ a c xs, v = .slice a xs.length c ∧ IsA w a c xs := by
  obtain ⟨a, len, cap, rfl⟩ := okWide_slice Try.underlying46 hv
  obtain ⟨fuel, hf⟩ := h
  have hf' : DataW.trod enc Try.prog w 0 (fun _ => true) true fuel 46 [.slice a len cap] = some (d, p) := by simpa [Value.cells] using hf
  rcases Deep.open_slice_pairs Try.underlying46 Try.underlying48 (by kernel_rfl) rfl rfl (by kernel_rfl) (by kernel_rfl) hf' with ⟨hcs, _⟩ | ⟨a, l, c, m, n, V0, V1, D0, D1, P0, P1, hcs, _, hl, hm, hmm, _, hcell⟩
  · simp at hcs
    obtain ⟨rfl, rfl, rfl⟩ := hcs
    exact ⟨none, 0, [], rfl, Nat.le_refl _, Nat.zero_le _, fun j p h => by simp at h⟩
  · simp at hcs
    obtain ⟨rfl, rfl, rfl⟩ := hcs
    simp at hmm
    have each : ∀ i, i < m → ∃ p : Int × Int, w.cell? (a.add (i * 2)) = some (.int .i64 p.1) ∧ w.cell? (a.add (i * 2 + 1)) = some (.int .i64 p.2) ∧ wfI p.1 ∧ wfI p.2 := by
      intro i hi
      obtain ⟨h0, h1, g0, g1⟩ := hcell i hi
      obtain ⟨k, hk, _, hkw⟩ := DataW.trod_int (k := .i64) Try.underlying3 g0
      obtain ⟨s, hs, _, hss⟩ := DataW.trod_int (k := .i64) Try.underlying3 g1
      simp at hk hs
      rw [hk] at h0
      rw [hs] at h1
      exact ⟨(k, s), h0, h1, hkw, hss⟩
    obtain ⟨q, hq⟩ := Deep.choose_lt each
    refine ⟨some a, cap, (List.range len).map q, by simp, by simpa using hl, hm, fun j p hp => ?_⟩
    have hj : j < len := by simpa using (List.getElem?_eq_some_iff.1 hp).1
    rw [List.getElem?_map, List.getElem?_range hj] at hp
    obtain rfl : q j = p := Option.some.inj hp
    obtain ⟨h0, h1, h2⟩ := hq j (by omega)
    obtain ⟨b, o, rfl, hb⟩ := spot_none (hq 0 (by omega)).1
    rw [at_add] at h0 h1
    exact ⟨b, o, rfl, hb, h0, by rw [Nat.add_assoc]; exact h1, h2⟩

end Go.Proofs.Ytnipikdlfmcheaa

/-
  A pair, and a row of pairs, as they are handed in.
-/
import Derived.Test.YtaecfbfcjaailaaGreatBdA
import Derived.Lib.SmallJoins
import Derived.Deep.SlicePairs
namespace Go.Proofs.YtaecfbfcjaailaaGreat
open Go.RowKit Plain Go.ChangeShapes Go.WideShapes
set_option linter.unusedVariables false

set_option maxRecDepth 20000 in
theorem open_pair {H : Type} {enc : TypeId × Value → H} {w : World} {r : Reach} {b0 : Nat} {v : Value} {d : DataW H} {p : List MemPlace}
    (hv : Value.okWide Tryz.prog w r b0 50 v) (h : DataW.Trod enc Tryz.prog w 0 (fun _ => true) true 50 v d p) :
    ∃ k s, v = .agg #[.string k, .string s] ∧ k.size ≤ maxLen ∧ s.size ≤ maxLen := by
  obtain ⟨v0, v1, y0, y1, n, rfl, _, _, h0, h1⟩ := Joins.open_agg2 Tryz.underlying50 (by kernel_rfl) (by kernel_rfl) hv h
  obtain ⟨k, hk, _, hks⟩ := DataW.trod_string Tryz.underlying9 h0
  obtain ⟨s, hs, _, hss⟩ := DataW.trod_string Tryz.underlying9 h1
  simp at hk hs
  subst hk hs
  exact ⟨k, s, rfl, hks, hss⟩

set_option maxRecDepth 20000 in
theorem open_pairs {H : Type} {enc : TypeId × Value → H} {w : World} {r : Reach} {b0 : Nat} {v : Value} {d : DataW H} {p : List MemPlace}
    (hv : Value.okWide Tryz.prog w r b0 37 v) (h : DataW.Trod enc Tryz.prog w 0 (fun _ => true) true 37 v d p) :
    ∃ a c xs, v = .slice a xs.length c ∧ IsQ w a c xs := by
  obtain ⟨a, len, cap, rfl⟩ := okWide_slice Tryz.underlying37 hv
  obtain ⟨fuel, hf⟩ := h
  have hf' : DataW.trod enc Tryz.prog w 0 (fun _ => true) true fuel 37 [.slice a len cap] = some (d, p) := by simpa [Value.cells] using hf
  rcases Deep.open_slice_pairs Tryz.underlying37 Tryz.underlying50 (by kernel_rfl) rfl rfl (by kernel_rfl) (by kernel_rfl) hf' with ⟨hcs, _⟩ | ⟨a, l, c, m, n, V0, V1, D0, D1, P0, P1, hcs, _, hl, hm, hmm, _, hcell⟩
  · simp at hcs
    obtain ⟨rfl, rfl, rfl⟩ := hcs
    exact ⟨none, 0, [], rfl, isQ_nil _⟩
  · simp at hcs
    obtain ⟨rfl, rfl, rfl⟩ := hcs
    simp at hmm
    have each : ∀ i, i < m → ∃ p : ByteArray × ByteArray, w.cell? (a.add (i * 2)) = some (.string p.1) ∧ w.cell? (a.add (i * 2 + 1)) = some (.string p.2) ∧ p.1.size ≤ maxLen ∧ p.2.size ≤ maxLen := by
      intro i hi
      obtain ⟨h0, h1, g0, g1⟩ := hcell i hi
      obtain ⟨k, hk, _, hkw⟩ := DataW.trod_string Tryz.underlying9 g0
      obtain ⟨s, hs, _, hss⟩ := DataW.trod_string Tryz.underlying9 g1
      simp at hk hs
      rw [hk] at h0
      rw [hs] at h1
      exact ⟨(k, s), h0, h1, hkw, hss⟩
    obtain ⟨q, hq⟩ := Deep.choose_lt each
    refine ⟨some a, cap, (List.range len).map q, by simp, by simpa using hl, hm, fun j p hp => ?_⟩
    have hj : j < len := by simpa using (List.getElem?_eq_some_iff.1 hp).1
    rw [List.getElem?_map, List.getElem?_range hj] at hp
    obtain rfl : q j = p := Option.some.inj hp
    obtain ⟨h0, h1, h2⟩ := hq j (by omega)
    obtain ⟨b, o, rfl, hb⟩ := spot_none (hq 0 (by omega)).1
    rw [at_add] at h0 h1
    exact ⟨b, o, rfl, hb, h0, by rw [Nat.add_assoc]; exact h1, h2⟩

end Go.Proofs.YtaecfbfcjaailaaGreat

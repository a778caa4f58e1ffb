/-
  A device, and numbers, as they are handed in: what the walk is told of them.
-/
import Derived.Test.YtcdcnonkoffbhaaDevNew
import Derived.Lib.SmallJoins
import Derived.Deep.SlicePairs
namespace Go.Proofs.Ytcdcnonkoffbhaa
open Go.RowKit Plain Go.ChangeShapes Go.WideShapes
set_option linter.unusedVariables false
set_option maxRecDepth 20000

/-- A box of a device behind one call: its cells, that it may be written. -/
theorem box_open {w w' : World} {v0 v1 : Value} {t : TypeId} (hb : Below (w.alloc (.cells #[v0, v1] t)).heap.size (w.alloc (.cells #[v0, v1] t)) w') :
    (w'.cell? ⟨w.heap.size, 0, none⟩ = some v0 ∧ w'.cell? ⟨w.heap.size, 1, none⟩ = some v1) ∧ w'.frozen? ⟨w.heap.size, 0, none⟩ = false ∧ w'.frozen? ⟨w.heap.size, 1, none⟩ = false := by
  refine ⟨box_cells hb, ?_, ?_⟩
  · rw [hb.frozen (p := ⟨w.heap.size, 0, none⟩) (by simp)]
    exact (World.frozen?_alloc_mark w _ _ _ _ 0).trans (by simp)
  · rw [hb.frozen (p := ⟨w.heap.size, 1, none⟩) (by simp)]
    exact (World.frozen?_alloc_mark w _ _ _ _ 1).trans (by simp)

/-- The same, behind a store of both cells and one call more. -/
theorem box_set {w1 w2 : World} {h : Nat} {v0 v1 u0 u1 : Value} (q0 : w1.cell? ⟨h, 0, none⟩ = some u0) (q1 : w1.cell? ⟨h, 1, none⟩ = some u1)
    (hb : Below ((w1.setCell ⟨h, 0, none⟩ v0).setCell ⟨h, 1, none⟩ v1).heap.size ((w1.setCell ⟨h, 0, none⟩ v0).setCell ⟨h, 1, none⟩ v1) w2) :
    w2.cell? ⟨h, 0, none⟩ = some v0 ∧ w2.cell? ⟨h, 1, none⟩ = some v1 := by
  refine ⟨cell_below hb ?_, cell_below hb ?_⟩
  · rw [World.cell?_setCell_other _ _ _ _ (fun hh => by cases hh)]
    exact World.cell?_setCell_same _ _ _ q0
  · refine World.cell?_setCell_same _ _ _ (u := u1) ?_
    rw [World.cell?_setCell_other _ _ _ _ (fun hh => by cases hh)]
    exact q1

theorem below_set2 {w w1 w2 : World} {h : Nat} {v0 v1 : Value} (hB : Below w.heap.size w w1) (hh : w.heap.size ≤ h)
    (hb : Below ((w1.setCell ⟨h, 0, none⟩ v0).setCell ⟨h, 1, none⟩ v1).heap.size ((w1.setCell ⟨h, 0, none⟩ v0).setCell ⟨h, 1, none⟩ v1) w2) : Below w.heap.size w w2 :=
  Below.tr ((hB.setCell (p := ⟨h, 0, none⟩) hh _).setCell (p := ⟨h, 1, none⟩) hh _) hb

theorem cell_drew {w : World} {p : Addr} {v : Value} (h : w.cell? p = some v) : w.drew.cell? p = some v := h

theorem open_P {H : Type} {enc : TypeId × Value → H} {w : World} {fuel : Nat} {v : Value} {x : DataW H × List MemPlace}
    (h : DataW.trod enc Try.prog w 0 (fun _ => true) true fuel 46 [v] = some x) : ∃ a c ps, v = .slice a ps.length c ∧ IsP w a c ps := by
  rcases Deep.open_slice_pairs Try.underlying46 Try.underlying45 (by kernel_rfl) rfl rfl (by kernel_rfl) (by kernel_rfl) h with ⟨hcs, _⟩ | ⟨a, l, c, m, n, V0, V1, D0, D1, P0, P1, hcs, _, hl, hm, hmm, _, hcell⟩
  · simp at hcs
    exact ⟨none, 0, [], hcs, IsP_nil _⟩
  · simp at hcs
    simp at hmm
    have each : ∀ i, i < m → ∃ p : Int × ByteArray, w.cell? (a.add (i * 2)) = some (.int .i64 p.1) ∧ w.cell? (a.add (i * 2 + 1)) = some (.string p.2) ∧ p.2.size ≤ maxLen ∧ -9223372036854775808 ≤ p.1 ∧ p.1 ≤ 9223372036854775807 := by
      intro i hi
      obtain ⟨h0, h1, g0, g1⟩ := hcell i hi
      obtain ⟨k, hk, _, hkw⟩ := DataW.trod_int (k := .i64) Try.underlying3 g0
      obtain ⟨s, hs, _, hss⟩ := DataW.trod_string Try.underlying9 g1
      simp at hk hs
      rw [hk] at h0
      rw [hs] at h1
      have hb : -9223372036854775808 ≤ k ∧ k ≤ 9223372036854775807 := by simpa [Lit.wf, IntKind.min, IntKind.max, IntKind.signed, IntKind.bits] using hkw
      exact ⟨(k, s), h0, h1, hss, hb.1, hb.2⟩
    obtain ⟨q, hq⟩ := Deep.choose_lt each
    refine ⟨some a, c, (List.range l).map q, by rw [List.length_map, List.length_range]; exact hcs, by rw [List.length_map, List.length_range]; exact hl, hm, fun j p hp => ?_⟩
    have hj : j < l := by
      have := (List.getElem?_eq_some_iff.1 hp).1
      rw [List.length_map, List.length_range] at this; exact this
    rw [List.getElem?_map, List.getElem?_range hj] at hp
    obtain rfl : q j = p := Option.some.inj hp
    obtain ⟨h0, h1, h2⟩ := hq j (by omega)
    obtain ⟨b, o, rfl, hb⟩ := spot_none (hq 0 (by omega)).1
    rw [at_add] at h0 h1
    exact ⟨b, o, rfl, hb, h0, by rw [Nat.add_assoc]; exact h1, h2⟩

theorem open_dev {H : Type} {enc : TypeId × Value → H} {w : World} {r : Reach} {b0 : Nat} {v : Value} {d : DataW H} {p : List MemPlace}
    (hv : Value.okWide Try.prog w r b0 48 v) (h : DataW.Trod enc Try.prog w 0 (fun _ => true) true 48 v d p) :
    ∃ a c bs a' c' ps, v = .agg #[.slice a bs.length c, .slice a' ps.length c'] ∧ IsS w a c bs ∧ IsP w a' c' ps := by
  obtain ⟨v0, v1, y0, y1, n, rfl, _, _, h0, h1⟩ := Joins.open_agg2 Try.underlying48 (by kernel_rfl) (by kernel_rfl) hv h
  obtain ⟨a, c, bs, rfl, hS⟩ := open_S h0
  obtain ⟨a', c', ps, rfl, hP⟩ := open_P h1
  exact ⟨a, c, bs, a', c', ps, rfl, hS, hP⟩

end Go.Proofs.Ytcdcnonkoffbhaa

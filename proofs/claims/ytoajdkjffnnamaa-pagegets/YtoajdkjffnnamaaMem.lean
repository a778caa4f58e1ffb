/-
  Memory: cells, boxes of three cells, rows of numbers as they are handed in.
-/
import Derived.Test.YtoajdkjffnnamaaPut
import Derived.Lib.SmallJoins
namespace Go.Proofs.Ytoajdkjffnnamaa
open Go.RowKit Plain Go.ChangeShapes Go.WideShapes
set_option linter.unusedVariables false

theorem cell_lt {w : World} {p : Addr} {v : Value} (h : w.cell? p = some v) : p.block < w.heap.size := by
  refine Nat.lt_of_not_le fun hn => ?_
  unfold World.cell? at h
  rw [Array.getElem?_eq_none hn] at h
  cases h

theorem cell_below {w w' : World} {p : Addr} {v : Value} (hb : Below w.heap.size w w') (h : w.cell? p = some v) : w'.cell? p = some v := by
  rw [hb.cell (cell_lt h)]; exact h

theorem cell_alloc {w : World} {p : Addr} {v : Value} (h : w.cell? p = some v) : ∀ o, (w.alloc o).cell? p = some v := fun o => Lib.cell?_alloc_some _ h

theorem at_add (g o j : Nat) : (⟨g, o, none⟩ : Addr).add j = ⟨g, o + j, none⟩ := by
  unfold Addr.add; split <;> simp_all

/-- A struct of three cells that lies in a block of its own. -/
def Box3 (w : World) (h : Nat) (v0 v1 v2 : Value) : Prop :=
  (w.cell? ⟨h, 0, none⟩ = some v0 ∧ w.cell? ⟨h, 1, none⟩ = some v1 ∧ w.cell? ⟨h, 2, none⟩ = some v2) ∧ w.frozen? ⟨h, 0, none⟩ = false ∧ w.frozen? ⟨h, 1, none⟩ = false ∧ w.frozen? ⟨h, 2, none⟩ = false

theorem box3_new (w : World) (v0 v1 v2 : Value) (t : TypeId) : Box3 (w.alloc (.cells #[v0, v1, v2] t)) w.heap.size v0 v1 v2 := by
  refine ⟨⟨World.cell?_alloc_at _ _ _ _ rfl, World.cell?_alloc_at _ _ _ _ rfl, World.cell?_alloc_at _ _ _ _ rfl⟩, ?_, ?_, ?_⟩
  · exact (World.frozen?_alloc_mark w _ _ _ _ 0).trans (by simp)
  · exact (World.frozen?_alloc_mark w _ _ _ _ 1).trans (by simp)
  · exact (World.frozen?_alloc_mark w _ _ _ _ 2).trans (by simp)

theorem Box3.below {w w' : World} {h : Nat} {v0 v1 v2 : Value} (b : Box3 w h v0 v1 v2) (hb : Below w.heap.size w w') : Box3 w' h v0 v1 v2 := by
  obtain ⟨⟨c0, c1, c2⟩, f0, f1, f2⟩ := b
  have hl := cell_lt c0
  exact ⟨⟨cell_below hb c0, cell_below hb c1, cell_below hb c2⟩, by rw [hb.frozen (p := ⟨h, 0, none⟩) hl]; exact f0, by rw [hb.frozen (p := ⟨h, 1, none⟩) hl]; exact f1, by rw [hb.frozen (p := ⟨h, 2, none⟩) hl]; exact f2⟩

/-- A slice of numbers that lies in memory. -/
def IsI (w : World) (a : Option Addr) (c : Nat) (ms : List Int) : Prop :=
  ms.length ≤ c ∧ c ≤ maxLen ∧ ∀ j m, ms[j]? = some m → ∃ b o, a = some ⟨b, o, none⟩ ∧ b < w.heap.size ∧ w.cell? ⟨b, o + j, none⟩ = some (.int .i64 m)

theorem IsI.below {w w' : World} {a : Option Addr} {c : Nat} {ms : List Int} (h : IsI w a c ms) (hb : Below w.heap.size w w') : IsI w' a c ms := by
  refine ⟨h.1, h.2.1, fun j x hx => ?_⟩
  obtain ⟨b, o, ha, hlt, hc⟩ := h.2.2 j x hx
  exact ⟨b, o, ha, Nat.lt_of_lt_of_le hlt hb.size, by rw [hb.cell (p := ⟨b, o + j, none⟩) hlt]; exact hc⟩

theorem IsI.take {w : World} {a : Option Addr} {c : Nat} {ms : List Int} (h : IsI w a c ms) (n : Nat) : IsI w a c (ms.take n) := by
  refine ⟨by rw [List.length_take]; have := h.1; omega, h.2.1, fun j x hx => h.2.2 j x ?_⟩
  rw [List.getElem?_take] at hx
  split at hx
  · exact hx
  · cases hx

theorem spot_none {w : World} {x : Addr} {v : Value} (h : w.cell? (x.add 0) = some v) : ∃ b o, x = ⟨b, o, none⟩ ∧ b < w.heap.size := by
  obtain ⟨b, o, s⟩ := x
  have hs : s = none := by simpa [Addr.add] using World.cell?_spot h
  subst hs
  rw [at_add] at h
  exact ⟨b, o, rfl, cell_lt h⟩

theorem open_I {H : Type} {enc : TypeId × Value → H} {w : World} {fuel : Nat} {v : Value} {x : DataW H × List MemPlace}
    (h : DataW.trod enc Try.prog w 0 (fun _ => true) true fuel 30 [v] = some x) : ∃ a c ms, v = .slice a ms.length c ∧ IsI w a c ms := by
  rcases open_ints Try.underlying30 Try.underlying3 (by kernel_rfl) h with ⟨hcs, _⟩ | ⟨a, l, c, ss, hcs, _, hl, hm, hz, _, hcell, hwz⟩
  · simp at hcs
    exact ⟨none, 0, [], hcs, Nat.le_refl _, Nat.zero_le _, fun j m hj => by simp at hj⟩
  · simp at hcs
    simp at hz
    refine ⟨some a, c, ss.take l, by rw [List.length_take, hz, Nat.min_eq_left hl]; exact hcs, by rw [List.length_take]; omega, hm, fun j y hy => ?_⟩
    have hjl : j < ss.length := by
      have := (List.getElem?_eq_some_iff.1 hy).1
      rw [List.length_take] at this; omega
    have hyy : ss[j]? = some y := by
      rw [List.getElem?_take] at hy
      split at hy
      · exact hy
      · cases hy
    have hc := hcell j hjl
    rw [List.getD_eq_getElem?_getD, hyy] at hc
    obtain ⟨b, o, rfl, hb⟩ := spot_none (hcell 0 (by omega))
    rw [at_add] at hc
    exact ⟨b, o, rfl, hb, hc⟩

theorem open_nums {H : Type} {enc : TypeId × Value → H} {w : World} {r : Reach} {b0 : Nat} {v : Value} {d : DataW H} {p : List MemPlace}
    (hv : Value.okWide Try.prog w r b0 30 v) (h : DataW.Trod enc Try.prog w 0 (fun _ => true) true 30 v d p) :
    ∃ a c ms, v = .slice a ms.length c ∧ IsI w a c ms := by
  obtain ⟨a, len, cap, rfl⟩ := okWide_slice Try.underlying30 hv
  obtain ⟨fuel, hf⟩ := h
  exact open_I (by simpa [Value.cells] using hf)

end Go.Proofs.Ytoajdkjffnnamaa

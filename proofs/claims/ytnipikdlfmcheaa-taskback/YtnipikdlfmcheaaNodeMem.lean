/-
  A node in memory: a yes or no, two rows of texts, a row of numbers, in a box of their own, and as it is handed in.
-/
import Derived.Test.YtnipikdlfmcheaaCore
import Derived.Test.YtnipikdlfmcheaaNodePlain
namespace Go.Proofs.Ytnipikdlfmcheaa
open Go.RowKit Plain Go.ChangeShapes Go.WideShapes
set_option linter.unusedVariables false

/-- A slice of texts that lies in memory. -/
def IsS (w : World) (a : Option Addr) (c : Nat) (bs : List ByteArray) : Prop :=
  bs.length ≤ c ∧ c ≤ maxLen ∧ ∀ j x, bs[j]? = some x → ∃ b o, a = some ⟨b, o, none⟩ ∧ b < w.heap.size ∧ w.cell? ⟨b, o + j, none⟩ = some (.string x) ∧ x.size ≤ maxLen

theorem IsS.below {w w' : World} {a : Option Addr} {c : Nat} {bs : List ByteArray} (h : IsS w a c bs) (hb : Below w.heap.size w w') : IsS w' a c bs := by
  refine ⟨h.1, h.2.1, fun j x hx => ?_⟩
  obtain ⟨b, o, ha, hlt, hc, hs⟩ := h.2.2 j x hx
  exact ⟨b, o, ha, Nat.lt_of_lt_of_le hlt hb.size, by rw [hb.cell (p := ⟨b, o + j, none⟩) hlt]; exact hc, hs⟩

theorem IsS.take {w : World} {a : Option Addr} {c : Nat} {ms : List ByteArray} (h : IsS w a c ms) (n : Nat) : IsS w a c (ms.take n) := by
  refine ⟨by rw [List.length_take]; have := h.1; omega, h.2.1, fun j x hx => h.2.2 j x ?_⟩
  rw [List.getElem?_take] at hx
  split at hx
  · exact hx
  · cases hx

theorem isS_nil (w : World) : IsS w none 0 [] := ⟨Nat.le_refl _, Nat.zero_le _, fun j m hj => by simp at hj⟩
theorem isI_nil (w : World) : IsI w none 0 [] := ⟨Nat.le_refl _, Nat.zero_le _, fun j m hj => by simp at hj⟩

theorem IsS.size {w : World} {a : Option Addr} {c : Nat} {bs : List ByteArray} (h : IsS w a c bs) : bs.length ≤ 9223372036854775807 := Nat.le_trans h.1 h.2.1
theorem IsI.size {w : World} {a : Option Addr} {c : Nat} {bs : List Int} (h : IsI w a c bs) : bs.length ≤ 9223372036854775807 := Nat.le_trans h.1 h.2.1

theorem open_S {H : Type} {enc : TypeId × Value → H} {w : World} {fuel : Nat} {v : Value} {x : DataW H × List MemPlace}
    (h : DataW.trod enc Try.prog w 0 (fun _ => true) true fuel 66 [v] = some x) : ∃ a c bs, v = .slice a bs.length c ∧ IsS w a c bs := by
  rcases open_strings Try.underlying66 Try.underlying9 (by kernel_rfl) h with ⟨hcs, _⟩ | ⟨a, l, c, ss, hcs, _, hl, hm, hz, _, hcell, hwz⟩
  · simp at hcs
    exact ⟨none, 0, [], hcs, isS_nil _⟩
  · simp at hcs
    simp at hz
    refine ⟨some a, c, ss.take l, by rw [List.length_take, hz, Nat.min_eq_left hl]; exact hcs, by rw [List.length_take]; omega, hm, fun j y hy => ?_⟩
    have hjl : j < ss.length := by
      have := (List.getElem?_eq_some_iff.1 hy).1
      rw [List.length_take] at this; omega
    have hyy : ss[j]? = some y := by
      rw [List.getElem?_take] at hy
      split at hy
      · exact hy
      · cases hy
    have hc := hcell j hjl
    rw [List.getD_eq_getElem?_getD, hyy] at hc
    obtain ⟨b, o, rfl, hb⟩ := spot_none (hcell 0 (by omega))
    rw [at_add] at hc
    exact ⟨b, o, rfl, hb, hc, hwz y (List.mem_of_getElem? hyy)⟩

/-- A struct of four cells in a box of its own. -/
def Box4 (w : World) (h : Nat) (v0 v1 v2 v3 : Value) : Prop :=
  (w.cell? ⟨h, 0, none⟩ = some v0 ∧ w.cell? ⟨h, 1, none⟩ = some v1 ∧ w.cell? ⟨h, 2, none⟩ = some v2 ∧ w.cell? ⟨h, 3, none⟩ = some v3) ∧ w.frozen? ⟨h, 0, none⟩ = false ∧ w.frozen? ⟨h, 1, none⟩ = false ∧ w.frozen? ⟨h, 2, none⟩ = false ∧ w.frozen? ⟨h, 3, none⟩ = false

theorem box4_new (w : World) (v0 v1 v2 v3 : Value) (t : TypeId) {h : Nat} (hh : h = w.heap.size) : Box4 (w.alloc (.cells #[v0, v1, v2, v3] t)) h v0 v1 v2 v3 := by
  subst hh
  refine ⟨⟨World.cell?_alloc_at _ _ _ _ rfl, World.cell?_alloc_at _ _ _ _ rfl, World.cell?_alloc_at _ _ _ _ rfl, World.cell?_alloc_at _ _ _ _ rfl⟩, ?_, ?_, ?_, ?_⟩
  · exact (World.frozen?_alloc_mark w _ _ _ _ 0).trans (by simp)
  · exact (World.frozen?_alloc_mark w _ _ _ _ 1).trans (by simp)
  · exact (World.frozen?_alloc_mark w _ _ _ _ 2).trans (by simp)
  · exact (World.frozen?_alloc_mark w _ _ _ _ 3).trans (by simp)

theorem Box4.lt {w : World} {h : Nat} {v0 v1 v2 v3 : Value} (b : Box4 w h v0 v1 v2 v3) : h < w.heap.size := cell_lt b.1.1

theorem Box4.below {w w' : World} {h : Nat} {v0 v1 v2 v3 : Value} (b : Box4 w h v0 v1 v2 v3) (hb : Below w.heap.size w w') : Box4 w' h v0 v1 v2 v3 := by
  have hl := b.lt
  obtain ⟨⟨c0, c1, c2, c3⟩, f0, f1, f2, f3⟩ := b
  exact ⟨⟨cell_below hb c0, cell_below hb c1, cell_below hb c2, cell_below hb c3⟩, by rw [hb.frozen (p := ⟨h, 0, none⟩) hl]; exact f0, by rw [hb.frozen (p := ⟨h, 1, none⟩) hl]; exact f1, by rw [hb.frozen (p := ⟨h, 2, none⟩) hl]; exact f2, by rw [hb.frozen (p := ⟨h, 3, none⟩) hl]; exact f3⟩

theorem Box4.alloc {w : World} {h : Nat} {v0 v1 v2 v3 : Value} (b : Box4 w h v0 v1 v2 v3) (o : Obj) : Box4 (w.alloc o) h v0 v1 v2 v3 := b.below ((Below.refl _ _).alloc (Nat.le_refl _) o)

theorem Box4.drew {w : World} {h : Nat} {v0 v1 v2 v3 : Value} (b : Box4 w h v0 v1 v2 v3) : Box4 w.drew h v0 v1 v2 v3 := b.below (Below.refl _ _).drew

end Go.Proofs.Ytnipikdlfmcheaa

/-
  Package device's New, and the statements' own alive and few.
-/
import Derived.Test.YtcdcnonkoffbhaaDevAt
namespace Go.Proofs.Ytcdcnonkoffbhaa
open Go.RowKit Plain
set_option linter.unusedVariables false
set_option maxRecDepth 20000

/-- The blocks of a new device, and the error. -/
def newL (n : Int) : List ByteArray := if 1 ≤ n ∧ n ≤ 2048 then List.replicate n.toNat ByteArray.empty else []
def newE (n : Int) : Int := if 1 ≤ n ∧ n ≤ 2048 then 0 else 1

/-- A struct of two cells that the call itself laid, behind one call more. -/
theorem box_cells {w w' : World} {v0 v1 : Value} {t : TypeId} (hb : Below (w.alloc (.cells #[v0, v1] t)).heap.size (w.alloc (.cells #[v0, v1] t)) w') :
    w'.cell? ⟨w.heap.size, 0, none⟩ = some v0 ∧ w'.cell? ⟨w.heap.size, 1, none⟩ = some v1 :=
  ⟨cell_below hb (World.cell?_alloc_at _ _ _ _ rfl), cell_below hb (World.cell?_alloc_at _ _ _ _ rfl)⟩

theorem Joins_cell (w : World) (C : Array Value) (t : TypeId) (n j : Nat) (hn : n = w.heap.size) : (w.alloc (.cells C t)).cell? ⟨n, j, none⟩ = C[j]? := by
  subst hn; exact World.cell?_alloc_mark w C t _ j

theorem IsP_nil (w : World) : IsP w none 0 [] := ⟨Nat.le_refl _, Nat.zero_le _, fun j p h => by simp at h⟩
theorem IsS_nil (w : World) : IsS w none 0 [] := ⟨Nat.le_refl _, Nat.zero_le _, fun j p h => by simp at h⟩

theorem newL_bad {n : Int} (h : ¬ (1 ≤ n ∧ n ≤ 2048)) : newL n = [] := if_neg h
theorem newE_bad {n : Int} (h : ¬ (1 ≤ n ∧ n ≤ 2048)) : newE n = 1 := if_neg h
theorem newL_ok {n : Nat} (h : 1 ≤ n ∧ n ≤ 2048) : newL n = List.replicate n ByteArray.empty := if_pos (by omega)
theorem newE_ok {n : Nat} (h : 1 ≤ n ∧ n ≤ 2048) : newE n = 0 := if_pos (by omega)

theorem IsS_new (W : World) (k : Nat) (hk : k ≤ 2048) (Z : Array Value) (hZ : Z = (List.replicate k (Value.string ⟨#[]⟩)).toArray) {g : Nat} (hg : ∀ j, W.cell? ⟨g, j, none⟩ = Z[j]?) : IsS W (some ⟨g, 0, none⟩) k (List.replicate k ByteArray.empty) := by
  refine ⟨by simp, by unfold maxLen; omega, fun j x hx => ?_⟩
  rw [List.getElem?_replicate] at hx
  split at hx
  · rename_i hj
    cases hx
    have hc : W.cell? ⟨g, j, none⟩ = some (.string ByteArray.empty) := by
      rw [hg, hZ]
      simp [hj]
      rfl
    exact ⟨g, 0, rfl, cell_lt hc, by rw [Nat.zero_add]; exact hc, Nat.zero_le _⟩
  · cases hx

theorem right_one : rightD [ByteArray.empty] [] = true := by
  rw [rightD_iff]
  refine ⟨⟨by simp, by simp, by simp⟩, ?_, by simp⟩
  intro s hs
  simp at hs
  rw [hs, okS_iff]
  exact ⟨by decide, fun h => absurd h (by decide)⟩

/-- What checkBlock tells. -/
def checkE (bs : List ByteArray) (ps : List (Int × ByteArray)) (k : Int) : Int :=
  if rightD bs ps = true then (if (decide (0 ≤ k) && decide (k < bs.length)) = true then 0 else 30) else 1

/-- A device of few blocks and writes, or of too many. -/
def fewS (bs : List ByteArray) : List ByteArray := if 40 < bs.length ∧ bs.length ≤ 2048 then bs.take 40 else bs
def fewP (ps : List (Int × ByteArray)) : List (Int × ByteArray) := if 40 < ps.length ∧ ps.length < 2048 then ps.take 40 else ps

theorem IsP.take {w : World} {a : Option Addr} {c : Nat} {ps : List (Int × ByteArray)} (h : IsP w a c ps) (n : Nat) : IsP w a c (ps.take n) := by
  refine ⟨Nat.le_trans (by rw [List.length_take]; omega) h.1, h.2.1, fun j x hx => h.2.2 j x ?_⟩
  rw [List.getElem?_take] at hx
  split at hx
  · exact hx
  · cases hx

theorem IsS.few {w : World} {a : Option Addr} {c : Nat} {bs : List ByteArray} (h : IsS w a c bs) : IsS w a c (fewS bs) := by
  unfold fewS
  split
  · exact h.take 40
  · exact h

theorem IsP.few {w : World} {a : Option Addr} {c : Nat} {ps : List (Int × ByteArray)} (h : IsP w a c ps) : IsP w a c (fewP ps) := by
  unfold fewP
  split
  · exact h.take 40
  · exact h

/-- A slice that is not empty has a place. -/
theorem IsS.some {w : World} {a : Option Addr} {c : Nat} {bs : List ByteArray} (h : IsS w a c bs) (hn : 0 < bs.length) : ∃ b o, a = some ⟨b, o, none⟩ := by
  obtain ⟨b, o, ha, _⟩ := h.2.2 0 _ (List.getElem?_eq_getElem hn)
  exact ⟨b, o, ha⟩

theorem IsP.some {w : World} {a : Option Addr} {c : Nat} {ps : List (Int × ByteArray)} (h : IsP w a c ps) (hn : 0 < ps.length) : ∃ b o, a = some ⟨b, o, none⟩ := by
  obtain ⟨b, o, ha, _⟩ := h.2.2 0 _ (List.getElem?_eq_getElem hn)
  exact ⟨b, o, ha⟩

end Go.Proofs.Ytcdcnonkoffbhaa

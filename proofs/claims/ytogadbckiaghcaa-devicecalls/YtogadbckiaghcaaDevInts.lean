/-
  A row of numbers that a call itself has made; masks that leave all sectors.
-/
import Derived.Test.YtogadbckiaghcaaDevCrash
import Derived.RangeFuncRecord
namespace Go.Proofs.Ytogadbckiaghcaa
open Go.RowKit Plain
set_option linter.unusedVariables false

theorem Try.info3 : (Try.prog.info? 3).map (fun i => (i.zero, i.size, i.bytes)) = some (some (.int .i64 0), 1, 8) := by kernel_rfl

/-- A row of numbers that the call itself owns. -/
def RowI (w : World) (g : Nat) (ms : List Int) : Prop := w.heap[g]? = some (.cells (ms.map (Value.int .i64)).toArray 3 (0, 0))

theorem RowI.lt {w : World} {g : Nat} {ms : List Int} (h : RowI w g ms) : g < w.heap.size := (Array.getElem?_eq_some_iff.1 h).1

theorem RowI.below {w w' : World} {g : Nat} {ms : List Int} (h : RowI w g ms) (hb : Below w.heap.size w w') : RowI w' g ms := by
  have hl := h.lt
  unfold RowI at h ⊢
  rw [hb.block g hl]; exact h

theorem RowI.cell {w : World} {g : Nat} {ms : List Int} (h : RowI w g ms) {j : Nat} {m : Int} (hm : ms[j]? = some m) : w.cell? ⟨g, j, none⟩ = some (.int .i64 m) ∧ w.frozen? ⟨g, j, none⟩ = false := by
  refine ⟨?_, Joins.unfrozen_of_block h j⟩
  rw [Joins.cell_of_block h]
  simp [hm]

theorem RowI.set {w : World} {g : Nat} {ms : List Int} (h : RowI w g ms) (j : Nat) (m : Int) : RowI (w.setCell ⟨g, j, none⟩ (.int .i64 m)) g (ms.set j m) := by
  have := Joins.block_setCell h (i := j) (.int .i64 m)
  unfold RowI
  rw [this]
  congr 2
  rw [List.map_set]
  simp

theorem RowI.isI {w : World} {g : Nat} {ms : List Int} (h : RowI w g ms) (hm : ms.length ≤ maxLen) : IsI w (some ⟨g, 0, none⟩) ms.length ms :=
  ⟨Nat.le_refl _, hm, fun j m hj => ⟨g, 0, rfl, h.lt, by rw [Nat.zero_add]; exact (h.cell hj).1⟩⟩

theorem RowI.new (W : World) (n : Nat) {Z : Array Value} (hZ : Z = (List.replicate n (Value.int .i64 0)).toArray) {g : Nat} (hg : g = W.heap.size) : RowI (W.alloc (.cells Z 3)) g (List.replicate n 0) := by
  subst hg hZ
  unfold RowI
  rw [List.map_replicate]
  exact World.alloc_heap_new W _

/-- The first so many are 255. -/
def allN (n j : Nat) : List Int := List.replicate j 255 ++ List.replicate (n - j) 0

theorem allN_length {n j : Nat} (h : j ≤ n) : (allN n j).length = n := by simp [allN]; omega

theorem allN_succ {n j : Nat} (h : j < n) : (allN n j).set j 255 = allN n (j + 1) := by
  unfold allN
  rw [List.set_append_right _ _ (by simp), List.length_replicate, Nat.sub_self, show n - j = (n - (j + 1)) + 1 by omega, List.replicate_succ, List.set_cons_zero, List.replicate_succ', List.append_assoc]
  rfl

theorem allN_full (n : Nat) : allN n n = List.replicate n 255 := by simp [allN]

theorem crashA_all {bs : List ByteArray} {ps : List (Int × ByteArray)} (h : rightD bs ps = true) : crashA (maskAt (List.replicate ps.length 255)) bs ps = flushL bs ps := by
  unfold crashA flushL
  rw [if_pos h, if_pos h]
  unfold crashL
  refine crashOn_congr bs ps 0 fun j hj => ?_
  unfold maskAt
  rw [List.getElem?_replicate, if_pos (by omega)]
  rfl

theorem flushL_again {bs : List ByteArray} (h : rightD bs [] = true) : flushL bs [] = bs := by
  unfold flushL
  rw [if_pos h]; rfl

theorem flushL_right {bs : List ByteArray} {ps : List (Int × ByteArray)} (h : rightD bs ps = true) : rightD (flushL bs ps) [] = true := by
  unfold flushL
  rw [if_pos h]
  exact rightD_crash h _

theorem flushL_length {bs : List ByteArray} {ps : List (Int × ByteArray)} (h : rightD bs ps = true) : (flushL bs ps).length = bs.length := by
  unfold flushL
  rw [if_pos h]
  exact crashOn_length _ _ _ _

end Go.Proofs.Ytogadbckiaghcaa

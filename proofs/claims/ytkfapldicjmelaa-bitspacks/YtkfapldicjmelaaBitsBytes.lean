/-
  Plain facts: a row of yes and no as bytes, place by place; bits of a byte as Go reckons them.
-/
import Derived.Test.YtkfapldicjmelaaBitsMem
import Derived.Laws.BitsAllLaws
namespace Go.Proofs.Ytkfapldicjmelaa
open Go.RowKit Plain
set_option linter.unusedVariables false

theorem min_run {x y z : Int} (h : min x y = z) (W : World) : (Builtin.min_ #[3, 3] 3 #[.int .i64 x, .int .i64 y]).run Try.prog W = .ok (.int .i64 z) W := by
  simp [Builtin.min_, Builtin.min2]
  split <;> omega

theorem max_run {x y z : Int} (h : max x y = z) (W : World) : (Builtin.max_ #[3, 3] 3 #[.int .i64 x, .int .i64 y]).run Try.prog W = .ok (.int .i64 z) W := by
  simp [Builtin.max_, Builtin.max2]
  split <;> omega

theorem atB_take (l : List Bool) (j i : Nat) : atB (l.take j) i = (decide (i < j) && atB l i) := by
  unfold atB
  rw [List.getElem?_take]
  by_cases h : i < j
  · rw [if_pos h, decide_eq_true h, Bool.true_and]
  · rw [if_neg h, decide_eq_false h, Bool.false_and]; rfl

theorem lowB_congr {l m : List Bool} {p : Nat} (n : Nat) (h : ∀ k, k < n → atB l (p + k) = atB m (p + k)) : lowB l p n = lowB m p n := by
  induction n with
  | zero => rfl
  | succ n ih => rw [lowB, lowB, ih fun k hk => h k (by omega), h n (by omega)]

theorem lowB_nil (p n : Nat) : lowB [] p n = 0 := by
  induction n with
  | zero => rfl
  | succ n ih => rw [lowB, ih, atB_past (Nat.zero_le _)]; simp [bn]

/-- The bytes when the first so many places have been laid. -/
def packN (l : List Bool) (j : Nat) : List UInt8 := (List.range (sizeB l.length)).map (byteB (l.take j))

theorem packN_length (l : List Bool) (j : Nat) : (packN l j).length = sizeB l.length := by simp [packN]

theorem packN_get (l : List Bool) (j i : Nat) (h : i < sizeB l.length) : (packN l j)[i]? = some (byteB (l.take j) i) := by
  unfold packN; rw [List.getElem?_map, List.getElem?_range h]; rfl

theorem packN_zero (l : List Bool) : packN l 0 = List.replicate (sizeB l.length) 0 := by
  apply List.ext_getElem?
  intro i
  by_cases h : i < sizeB l.length
  · rw [packN_get _ _ _ h, List.getElem?_replicate, if_pos h]
    unfold byteB
    rw [List.take_zero, lowB_nil]; rfl
  · rw [List.getElem?_eq_none (by rw [packN_length]; omega), List.getElem?_eq_none (by simp; omega)]

theorem packN_full (l : List Bool) : packN l l.length = packL l := by unfold packN packL; rw [List.take_length]

theorem packN_no {l : List Bool} {j : Nat} (h : atB l j = false) : packN l (j + 1) = packN l j := by
  unfold packN
  apply List.map_congr_left
  intro i _
  unfold byteB
  congr 1
  apply lowB_congr
  intro k _
  rw [atB_take, atB_take]
  by_cases e : 8 * i + k = j
  · rw [e, h, Bool.and_false, Bool.and_false]
  · congr 1
    rw [decide_eq_decide]; omega

theorem bit_test (a k : Nat) : a / 2 ^ k % 2 = bn (a.testBit k) := by
  rw [Nat.testBit_eq_decide_div_mod_eq]
  unfold bn
  have := Nat.mod_lt (a / 2 ^ k) (by decide : 2 > 0)
  split
  · rename_i h; simpa using h
  · rename_i h; simp at h; omega

theorem packN_yes {l : List Bool} {j : Nat} (h : atB l j = true) (x : UInt8) (hx : (packN l j)[j / 8]? = some x) : packN l (j + 1) = (packN l j).set (j / 8) (x ||| UInt8.ofNat (2 ^ (j % 8))) := by
  have hj : j < l.length := by
    refine Nat.lt_of_not_le fun hn => ?_
    rw [atB_past hn] at h; cases h
  have hz : j / 8 < sizeB l.length := by unfold sizeB; omega
  rw [packN_get _ _ _ hz] at hx
  cases hx
  apply List.ext_getElem?
  intro i
  by_cases hi : i < sizeB l.length
  · rw [packN_get _ _ _ hi]
    by_cases e : j / 8 = i
    · subst e
      rw [List.getElem?_set_self (by rw [packN_length]; exact hz), Option.some_inj]
      apply UInt8.toNat_inj.1
      have h8 : j % 8 < 8 := Nat.mod_lt _ (by decide)
      have hp : 2 ^ (j % 8) < 2 ^ 8 := Nat.pow_lt_pow_right (by decide) h8
      rw [UInt8.toNat_or, byteB_nat, byteB_nat, UInt8.toNat_ofNat', Nat.mod_eq_of_lt hp]
      refine byte_bits 8 (lowB_lt _ _ _) (Nat.or_lt_two_pow (lowB_lt _ _ _) hp) fun k hk => ?_
      rw [lowB_bit _ _ _ _ hk, bit_test, Nat.testBit_or, Nat.testBit_two_pow, Nat.testBit_eq_decide_div_mod_eq, lowB_bit _ _ _ _ hk, atB_take, atB_take]
      by_cases e : 8 * (j / 8) + k = j
      · rw [e, h, show decide (j % 8 = k) = true from decide_eq_true (by omega)]
        simp
      · rw [show decide (j % 8 = k) = false from decide_eq_false (by omega), Bool.or_false]
        rw [show decide (8 * (j / 8) + k < j + 1) = decide (8 * (j / 8) + k < j) from by rw [decide_eq_decide]; omega]
        cases (decide (8 * (j / 8) + k < j) && atB l (8 * (j / 8) + k)) <;> rfl
    · rw [List.getElem?_set_ne e, packN_get _ _ _ hi, Option.some_inj]
      unfold byteB
      congr 1
      apply lowB_congr
      intro k hk
      rw [atB_take, atB_take]
      congr 1
      rw [decide_eq_decide]; omega
  · rw [List.getElem?_eq_none (by rw [packN_length]; omega), List.getElem?_eq_none (by rw [List.length_set, packN_length]; omega)]

theorem or_bit (x : UInt8) (k : Nat) : (Value.int .u8 (bits .or .u8 (x.toNat : Int) (2 ^ (k % 8) % 256))) = cellOf (x ||| UInt8.ofNat (2 ^ (k % 8))) := by
  have h8 : k % 8 < 8 := Nat.mod_lt _ (by decide)
  have hp : 2 ^ (k % 8) < 2 ^ 8 := Nat.pow_lt_pow_right (by decide) h8
  have e : ((2 : Int) ^ (k % 8) % 256) = ((2 ^ (k % 8) % 256 : Nat) : Int) := by simp
  unfold cellOf
  rw [e, u8_or_nat _ _ x.toNat_lt (by omega), UInt8.toNat_or, UInt8.toNat_ofNat']

theorem bitAt_get {s : ByteArray} {i : Nat} (h : i / 8 < s.size) : bitAt s i = decide (s[i / 8].toNat / 2 ^ (i % 8) % 2 = 1) := by
  unfold bitAt
  rw [List.getElem?_eq_getElem (show i / 8 < s.data.toList.length from h)]
  rfl

/-- A bit as package bits asks for it. -/
theorem and_bit {s : ByteArray} {i : Nat} (h : i / 8 < s.size) : (bits .and .u8 ((s[i / 8].toNat : Int) / 2 ^ (i % 8)) 1 == 1) = bitAt s i := by
  have e : ((s[i / 8].toNat : Int) / 2 ^ (i % 8)) = ((s[i / 8].toNat / 2 ^ (i % 8) : Nat) : Int) := by
    rw [Int.natCast_ediv]; simp
  have hl : s[i / 8].toNat / 2 ^ (i % 8) < 256 := Nat.lt_of_le_of_lt (Nat.div_le_self _ _) (UInt8.toNat_lt _)
  rw [e, show (1 : Int) = ((1 : Nat) : Int) from rfl, u8_and_nat _ _ hl (by decide), bitAt_get h]
  rw [Nat.and_one_is_mod, Bool.eq_iff_iff, beq_iff_eq, decide_eq_true_eq]
  omega

/-- A bit as the document's own version asks for it. -/
theorem rem_bit {s : ByteArray} {i : Nat} (h : i / 8 < s.size) : (((s[i / 8].toNat : Int) / 2 ^ (i % 8)).tmod 2 == 1) = bitAt s i := by
  have e : ((s[i / 8].toNat : Int) / 2 ^ (i % 8)) = ((s[i / 8].toNat / 2 ^ (i % 8) : Nat) : Int) := by
    rw [Int.natCast_ediv]; simp
  rw [e, bitAt_get h, Int.tmod_eq_emod_of_nonneg (Int.natCast_nonneg _), Bool.eq_iff_iff, beq_iff_eq, decide_eq_true_eq]
  omega

/-- A row of bytes that the call itself laid. -/
def RowB (w : World) (g : Nat) (l : List UInt8) : Prop := w.heap[g]? = some (.cells ((l.map cellOf).toArray) 5 (0, 0))

theorem RowB.cell {w : World} {g : Nat} {l : List UInt8} (h : RowB w g l) {j : Nat} {x : UInt8} (hx : l[j]? = some x) : w.cell? ⟨g, j, none⟩ = some (cellOf x) ∧ w.frozen? ⟨g, j, none⟩ = false := by
  refine ⟨?_, Joins.unfrozen_of_block h j⟩
  rw [Joins.cell_of_block h]
  simp [hx]

theorem RowB.below {w w' : World} {g : Nat} {l : List UInt8} (h : RowB w g l) (hb : Below w.heap.size w w') : RowB w' g l := by
  unfold RowB at h ⊢
  rw [hb.block g (Array.getElem?_eq_some_iff.1 h).1]
  exact h

theorem RowB.lt {w : World} {g : Nat} {l : List UInt8} (h : RowB w g l) : g < w.heap.size := (Array.getElem?_eq_some_iff.1 h).1

theorem RowB.set {w : World} {g : Nat} {l : List UInt8} (h : RowB w g l) (j : Nat) (x : UInt8) : RowB (w.setCell ⟨g, j, none⟩ (cellOf x)) g (l.set j x) := by
  have := Joins.block_setCell h (i := j) (cellOf x)
  unfold RowB
  rw [this]
  congr 2
  rw [List.map_set]
  simp

theorem RowB.new (W : World) (n : Nat) {Z : Array Value} (hZ : Z = (List.replicate n (Value.int .u8 0)).toArray) {g : Nat} (hg : g = W.heap.size) : RowB (W.alloc (.cells Z 5)) g (List.replicate n 0) := by
  subst hg hZ
  unfold RowB
  rw [List.map_replicate]
  exact heap_new W _

theorem RowB.conv {w : World} {g : Nat} {l : List UInt8} (h : RowB w g l) (m cap : Nat) (hm : l.length = m) :
    (convert 47 9 (.slice (some ⟨g, 0, none⟩) m cap)).run Try.prog w = .ok (.string ⟨l.toArray⟩) w := by
  subst hm
  refine run_convert_bytes_back (P := Try.prog) _ 47 9 5 ⟨g, 0, none⟩ cap l Try.underlying47 Try.underlying5 Try.underlying9 fun j hj => ?_
  rw [at_add, Nat.zero_add]
  exact (h.cell (List.getElem?_eq_getElem hj)).1

end Go.Proofs.Ytkfapldicjmelaa

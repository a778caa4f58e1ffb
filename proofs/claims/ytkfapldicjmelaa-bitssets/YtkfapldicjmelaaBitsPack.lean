/-
  Package bits: bytesFor, bit, hasBitFrom, Pack; one yes is one bit.
-/
import Derived.Test.YtkfapldicjmelaaBitsBytes
namespace Go.Proofs.Ytkfapldicjmelaa
open Go.RowKit Plain
set_option linter.unusedVariables false

set_option maxHeartbeats 400000 in
theorem bytesFor_any (n : Nat) (w : World) (hn : n ≤ 4611686018427387904) :
    Calls Try.prog 23 #[.int .i64 n] w fun e w' => e = .returned (.int .i64 (sizeB n)) ∧ w = w' := by
  have e : Hid ((((n : Int) + 8 - 1).tdiv 8) = (sizeB n : Int)) := by
    show _ = _
    rw [Int.tdiv_eq_ediv_of_nonneg (by omega)]; unfold sizeB; omega
  go_enter Try.func23, Try.ntmps23
  go_wp2
  go_ret
  refine ⟨ret_int ?_, rfl⟩
  have := e.out
  first | exact this | (unfold sizeB; omega)

set_option maxHeartbeats 400000 in
theorem bit_any (s : ByteArray) (i : Nat) (w : World) (hs : s.size ≤ maxLen) (hi : i / 8 < s.size) (hn : i ≤ 4611686018427387904) :
    Calls Try.prog 25 #[.string s, .int .i64 i] w fun e w' => e = .returned (.bool (bitAt s i)) ∧ w = w' := by
  have hb := and_bit hi
  unfold maxLen at hs
  generalize bitAt s i = q at hb ⊢
  go_enter Try.func25, Try.ntmps25
  go_wp2
  go_ret
  exact ⟨rfl, rfl⟩

/-- Whether a bit from a place on is 1. -/
def far (s : ByteArray) (n : Nat) : Bool := (List.range (8 * s.size)).any fun i => decide (n ≤ i) && bitAt s i

theorem far_no {s : ByteArray} {n : Nat} (h : ∀ i, n ≤ i → i < 8 * s.size → bitAt s i = false) : far s n = false := by
  unfold far
  rw [List.any_eq_false]
  intro i hi
  have hi' := List.mem_range.1 hi
  by_cases hn : n ≤ i
  · rw [h i hn hi']; simp
  · simp [hn]

theorem far_yes {s : ByteArray} {n i : Nat} (h1 : n ≤ i) (h2 : i < 8 * s.size) (h : bitAt s i = true) : far s n = true := by
  unfold far
  rw [List.any_eq_true]
  exact ⟨i, List.mem_range.2 h2, by simp [h1, h]⟩

theorem far_iff (s : ByteArray) (n : Nat) : far s n = false ↔ ∀ i, n ≤ i → bitAt s i = false := by
  constructor
  · intro h i hi
    by_cases h2 : i < 8 * s.size
    · cases hb : bitAt s i with
      | false => rfl
      | true => rw [far_yes hi h2 hb] at h; cases h
    · exact bitAt_past (by omega)
  · intro h; exact far_no fun i hi _ => h i hi

set_option maxHeartbeats 1000000 in
theorem hasBitFrom_any (s : ByteArray) (n : Nat) (w : World) (hs : s.size ≤ 4096) (hn : n ≤ 4096) :
    Calls Try.prog 24 #[.string s, .int .i64 n] w fun e w' => e = .returned (.bool (far s n)) ∧ w = w' := by
  go_enter Try.func24, Try.ntmps24
  go_wp2
  go_loopw [5] (fun v wr => ∃ i : Nat, n ≤ i ∧ i ≤ 40960 ∧ v = .int .i64 i ∧ (∀ j, n ≤ j → j < i → bitAt s j = false) ∧ w = wr) (fun v _ => 8 * s.size - (intOf v).toNat)
  case atStart => exact ⟨n, by omega, by omega, rfl, fun j h1 h2 => by omega, by trivial⟩
  case round =>
    obtain ⟨i, hni, hi, rfl, hno, rfl⟩ := hrel
    have HN : Hid (∀ j, n ≤ j → j < i → bitAt s j = false) := hno
    clear hno
    by_cases hlt : i < 8 * s.size
    · have hlt' : (i : Int) < 8 * (s.size : Int) := by omega
      obtain ⟨q, hq⟩ : ∃ q, Hid (bitAt s i = q) := ⟨_, rfl⟩
      have cb : ∀ W, Calls Try.prog 25 #[.string s, .int .i64 i] W fun e w' => e = .returned (.bool q) ∧ W = w' := by
        intro W; rw [← hq.out]; exact bit_any s i W (by unfold maxLen; omega) (by omega) (by omega)
      cases q with
      | true =>
        go_wp2_with (go_at_call 25; refine (cb _).mono ?_; rintro e w' ⟨rfl, rfl⟩)
        go_ret
        exact ⟨ret_bool (far_yes hni hlt hq.out).symm, rfl⟩
      | false =>
        go_wp2_with (go_at_call 25; refine (cb _).mono ?_; rintro e w' ⟨rfl, rfl⟩)
        go_roundw
        case rel =>
          refine ⟨i + 1, by omega, by omega, by go_num, fun j h1 h2 => ?_, by trivial⟩
          by_cases e : j = i
          · rw [e]; exact hq.out
          · exact HN.out j h1 (by omega)
        case measure => simp [intOf]; omega
    · have hlt' : ¬ (i : Int) < 8 * (s.size : Int) := by omega
      go_wp2
      go_ret
      exact ⟨ret_bool (far_no fun j h1 h2 => HN.out j h1 (by omega)).symm, rfl⟩

set_option maxHeartbeats 1000000 in
theorem pack_any (a : Option Addr) (c : Nat) (l : List Bool) (w : World) (hB : IsB w a c l) (hl : l.length ≤ 4096) :
    Calls Try.prog 13 #[.slice a l.length c] w fun e w' => e = .returned (.string (packS l)) ∧ Below w.heap.size w w' := by
  obtain ⟨n, hn⟩ : ∃ n, n = l.length := ⟨_, rfl⟩
  obtain ⟨k, hk, hkb⟩ : ∃ k, Hid (k = sizeB n) ∧ k ≤ 4096 := ⟨_, rfl, by unfold sizeB; omega⟩
  obtain ⟨Z, hmk, hZ⟩ : ∃ Z : Array Value, (∀ W : World, (Instr.makeSlice 47 (.int .i64 k) (.int .i64 k)).run Try.prog W = .ok (.slice (some ⟨W.heap.size, 0, none⟩) k k) (W.alloc (.cells Z 5))) ∧ Hid (Z = (List.replicate k (Value.int .u8 0)).toArray) :=
    ⟨madeCells #[.int .u8 0] k, fun W => run_make_row' (P := Try.prog) 47 5 (.int .u8 0) 1 Try.underlying47 Try.info5 rfl .i64 .i64 k (by omega) (by omega) W, made_one _ k⟩
  have cb : ∀ W, Calls Try.prog 23 #[.int .i64 n] W fun e w' => e = .returned (.int .i64 k) ∧ W = w' := by
    intro W; rw [hk.out]; exact bytesFor_any n W (by omega)
  have HB : Hid (IsB w a c l) := hB
  have HR : Hid (RowB (w.alloc (.cells Z 5)) w.heap.size (packN l 0)) := by
    show RowB _ _ _
    rw [packN_zero, ← hn, ← hk.out]
    exact RowB.new w k hZ.out rfl
  have HL : Hid (∀ j, (packN l j).length = k) := fun j => by rw [packN_length, ← hn]; exact hk.out.symm
  have HE : Hid (n = l.length) := hn
  have hnb : n ≤ 4096 := by omega
  rw [← hn]
  clear hB hn hl
  go_enter Try.func13, Try.ntmps13
  go_wp2_with (go_at_call 23; refine (cb _).mono ?_; rintro e w' ⟨rfl, rfl⟩)
  go_loopw [11] (fun v wr => ∃ j : Nat, j ≤ n ∧ v = .int .i64 j ∧ RowB wr w.heap.size (packN l j) ∧ Below w.heap.size w wr) (fun v _ => n - (intOf v).toNat)
  case atStart => exact ⟨0, by omega, rfl, HR.out, (Below.refl _ _).alloc (Nat.le_refl _) _⟩
  case round =>
    obtain ⟨j, hj, rfl, hrow, hbel⟩ := hrel
    have HW : Hid (RowB wr w.heap.size (packN l j)) := hrow
    clear hrow
    by_cases hlt : j < n
    · have hlt' : (j : Int) < n := by omega
      have hjl : j < l.length := by rw [← HE.out]; exact hlt
      obtain ⟨q, hq⟩ : ∃ q, Hid (l[j]? = some q) := ⟨_, List.getElem?_eq_getElem hjl⟩
      obtain ⟨b, o, rfl, hbl, hc0⟩ := HB.out.2.2 j q hq.out
      have hc := cell_below hbel hc0
      have hkj : j / 8 < k := by rw [hk.out]; unfold sizeB; omega
      have hkj' : (j : Int) / 8 < k := by omega
      cases q with
      | false =>
        have hnx : Hid (packN l (j + 1) = packN l j) := packN_no (atB_some hq.out)
        go_wp2
        go_roundw
        case rel => exact ⟨j + 1, by omega, by go_num, by rw [hnx.out]; exact HW.out, hbel⟩
        case measure => simp [intOf]; omega
      | true =>
        obtain ⟨x, hx⟩ : ∃ x, Hid ((packN l j)[j / 8]? = some x) := ⟨_, List.getElem?_eq_getElem (by rw [HL.out]; exact hkj)⟩
        obtain ⟨hcx, hfx⟩ := HW.out.cell hx.out
        have hnx : Hid (packN l (j + 1) = (packN l j).set (j / 8) (x ||| UInt8.ofNat (2 ^ (j % 8)))) := packN_yes (atB_some hq.out) x hx.out
        have hset : Hid (∀ y, RowB (wr.setCell ⟨w.heap.size, j / 8, none⟩ (cellOf y)) w.heap.size ((packN l j).set (j / 8) y)) := fun y => HW.out.set _ y
        unfold cellOf at hcx
        go_wp2
        go_region
        go_wp2
        go_roundw
        case rel =>
          refine ⟨j + 1, by omega, by go_num, ?_, (hbel.setCell (p := ⟨w.heap.size, j / 8, none⟩) (Nat.le_refl _) _).drew⟩
          rw [hnx.out, or_bit x j]
          exact (hset.out _).below (Below.refl _ _).drew
        case measure => simp [intOf]; omega
    · obtain rfl : j = n := by omega
      have hcv := HW.out.conv k k (HL.out _)
      have he : Hid ((⟨(packN l j).toArray⟩ : ByteArray) = packS l) := by
        show _ = _
        rw [HE.out, packN_full]; rfl
      rw [he.out] at hcv
      go_wp2
      go_ret
      exact ⟨rfl, hbel⟩

theorem packS_one : packS [true] = ⟨#[1]⟩ := by decide +kernel

set_option maxHeartbeats 400000 in
theorem alive_any (w : World) :
    Calls Try.prog 12 #[] w fun e w' => e = .returned (.bool true) ∧ Below w.heap.size w w' := by
  have cp : Calls Try.prog 13 #[.slice (some ⟨w.heap.size, 0, none⟩) 1 1] (w.alloc (.cells #[.bool true] 4)) fun e w' => e = .returned (.string ⟨#[1]⟩) ∧ Below w.heap.size w w' := by
    have hR : RowT (w.alloc (.cells #[.bool true] 4)) w.heap.size 1 [true] := ⟨_, heap_new w _, rfl, Nat.le_refl _, by decide, rfl⟩
    have := pack_any _ _ _ _ hR.isB (by simp)
    rw [packS_one] at this
    exact this.mono fun e w' ⟨he, hb⟩ => ⟨he, Below.tr ((Below.refl _ _).alloc (Nat.le_refl _) _) hb⟩
  go_enter Try.func12, Try.ntmps12
  go_wp2_with (go_at_call 13; refine cp.mono ?_; rintro e w' ⟨rfl, hb⟩)
  go_ret
  exact ⟨ret_bool (by decide), hb⟩

end Go.Proofs.Ytkfapldicjmelaa

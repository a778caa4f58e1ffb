/-
  Package bits: Unpack.
-/
import Derived.Test.YtkfapldicjmelaaBitsPack
namespace Go.Proofs.Ytkfapldicjmelaa
open Go.RowKit Plain
set_option linter.unusedVariables false

/-- The row when the first so many places have been read. -/
def unN (s : ByteArray) (n j : Nat) : List Bool := unpackL s j ++ List.replicate (n - j) false

theorem unN_zero (s : ByteArray) (n : Nat) : unN s n 0 = List.replicate n false := by simp [unN, unpackL]
theorem unN_full (s : ByteArray) (n : Nat) : unN s n n = unpackL s n := by simp [unN]
theorem unN_length (s : ByteArray) {n j : Nat} (h : j ≤ n) : (unN s n j).length = n := by simp [unN, unpackL_length]; omega

theorem unpackL_succ (s : ByteArray) (j : Nat) : unpackL s (j + 1) = unpackL s j ++ [bitAt s j] := by
  unfold unpackL; rw [List.range_succ, List.map_append]; rfl

theorem unN_succ (s : ByteArray) {n j : Nat} (h : j < n) : (unN s n j).set j (bitAt s j) = unN s n (j + 1) := by
  unfold unN
  rw [List.set_append_right _ _ (by rw [unpackL_length]; omega), unpackL_length, Nat.sub_self, show n - j = (n - (j + 1)) + 1 by omega, List.replicate_succ, List.set_cons_zero, unpackL_succ, List.append_assoc]
  rfl

theorem unE_arg {s : ByteArray} {n : Int} (h : ¬ (0 ≤ n ∧ n ≤ 2048)) : unE s n = 1 := by unfold unE; rw [if_neg h]
theorem unE_short {s : ByteArray} {n : Nat} (h : n ≤ 2048) (hs : s.size < sizeB n) : unE s n = 3 := by
  unfold unE; rw [if_pos ⟨by omega, by omega⟩, if_pos (by simpa using hs)]
theorem unE_form {s : ByteArray} {n : Nat} (h : n ≤ 2048) (hs : ¬ s.size < sizeB n) (hf : ¬ packS (unpackL s n) = s) : unE s n = 4 := by
  unfold unE; rw [if_pos ⟨by omega, by omega⟩, if_neg (by simpa using hs), if_neg (by simpa using hf)]
theorem unE_ok {s : ByteArray} {n : Nat} (h : n ≤ 2048) (hf : packS (unpackL s n) = s) : unE s n = 0 := by
  have hz := ((pack_unpack s n).1 hf).1
  unfold unE; rw [if_pos ⟨by omega, by omega⟩, if_neg (by simp; omega), if_pos (by simpa using hf)]
theorem unL_bad {s : ByteArray} {n : Int} (h : unE s n ≠ 0) : unL s n = [] := by unfold unL; rw [if_neg h]
theorem unL_ok {s : ByteArray} {n : Nat} (h : unE s n = 0) : unL s n = unpackL s n := by unfold unL; rw [if_pos h]; rfl
theorem unE_err {s : ByteArray} {n : Int} : unE s n = 0 → ∃ k : Nat, n = k ∧ k ≤ 2048 ∧ packS (unpackL s k) = s := by
  intro h
  by_cases h1 : 0 ≤ n ∧ n ≤ 2048
  · refine ⟨n.toNat, by omega, by omega, ?_⟩
    unfold unE at h
    rw [if_pos h1] at h
    split at h
    · cases h
    · split at h
      · assumption
      · cases h
  · rw [unE_arg h1] at h; cases h

set_option maxHeartbeats 2000000 in
/-- UNPACK, at all arguments. -/
theorem unpack_any (s : ByteArray) (n : Int) (w : World) (hs : s.size ≤ maxLen) :
    Calls Try.prog 10 #[.string s, .int .i64 n] w fun e w' => ∃ a c, e = .returned (.tuple #[.slice a (unL s n).length c, .int .i64 (unE s n)]) ∧ IsB w' a c (unL s n) ∧ Below w.heap.size w w' := by
  by_cases h0 : n < 0
  · have hE : Hid (unE s n = 1) := unE_arg (by omega)
    have hL : Hid (unL s n = []) := unL_bad (by rw [hE.out]; decide)
    go_enter Try.func10, Try.ntmps10
    go_wp2
    go_ret2
    exact ⟨none, 0, by rw [hE.out, hL.out]; rfl, by rw [hL.out]; exact IsB_nil _, Below.refl _ _⟩
  by_cases h1 : 2048 < n
  · have hE : Hid (unE s n = 1) := unE_arg (by omega)
    have hL : Hid (unL s n = []) := unL_bad (by rw [hE.out]; decide)
    go_enter Try.func10, Try.ntmps10
    go_wp2
    go_ret2
    exact ⟨none, 0, by rw [hE.out, hL.out]; rfl, by rw [hL.out]; exact IsB_nil _, Below.refl _ _⟩
  obtain ⟨m, rfl⟩ : ∃ m : Nat, n = m := ⟨n.toNat, by omega⟩
  have hm : m ≤ 2048 := by omega
  obtain ⟨k, hk, hkb⟩ : ∃ k, Hid (k = sizeB m) ∧ k ≤ 256 := ⟨_, rfl, by unfold sizeB; omega⟩
  have cb : ∀ W, Calls Try.prog 23 #[.int .i64 m] W fun e w' => e = .returned (.int .i64 k) ∧ W = w' := by
    intro W; rw [hk.out]; exact bytesFor_any m W (by omega)
  unfold maxLen at hs
  by_cases h2 : s.size < k
  · have hE : Hid (unE s m = 3) := unE_short hm (by rw [← hk.out]; exact h2)
    have hL : Hid (unL s m = []) := unL_bad (by rw [hE.out]; decide)
    have h2' : (s.size : Int) < k := by omega
    go_enter Try.func10, Try.ntmps10
    go_wp2_with (go_at_call 23; refine (cb _).mono ?_; rintro e w' ⟨rfl, rfl⟩)
    go_ret2
    exact ⟨none, 0, by rw [hE.out, hL.out]; rfl, by rw [hL.out]; exact IsB_nil _, Below.refl _ _⟩
  have h2' : ¬ (s.size : Int) < k := by omega
  by_cases h3 : k < s.size
  · have hE : Hid (unE s m = 4) := unE_form hm (by rw [← hk.out]; exact h2) fun h => by have := ((pack_unpack s m).1 h).1; rw [← hk.out] at this; omega
    have hL : Hid (unL s m = []) := unL_bad (by rw [hE.out]; decide)
    have h3' : (k : Int) < s.size := by omega
    go_enter Try.func10, Try.ntmps10
    go_wp2_with (go_at_call 23; refine (cb _).mono ?_; rintro e w' ⟨rfl, rfl⟩)
    go_ret2
    exact ⟨none, 0, by rw [hE.out, hL.out]; rfl, by rw [hL.out]; exact IsB_nil _, Below.refl _ _⟩
  have h3' : ¬ (k : Int) < s.size := by omega
  have hz : Hid (s.size = sizeB m) := by show _ = _; rw [← hk.out]; omega
  obtain ⟨q, hq⟩ : ∃ q, Hid (far s m = q) := ⟨_, rfl⟩
  have ch : ∀ W, Calls Try.prog 24 #[.string s, .int .i64 m] W fun e w' => e = .returned (.bool q) ∧ W = w' := by
    intro W; rw [← hq.out]; exact hasBitFrom_any s m W (by omega) (by omega)
  cases q with
  | true =>
    have hE : Hid (unE s m = 4) := unE_form hm (by rw [← hk.out]; exact h2) fun h => by have := (far_iff s m).2 ((pack_unpack s m).1 h).2; rw [hq.out] at this; cases this
    have hL : Hid (unL s m = []) := unL_bad (by rw [hE.out]; decide)
    go_enter Try.func10, Try.ntmps10
    go_wp2_with (first
      | (go_at_call 23; refine (cb _).mono ?_; rintro e w' ⟨rfl, rfl⟩)
      | (go_at_call 24; refine (ch _).mono ?_; rintro e w' ⟨rfl, rfl⟩))
    go_ret2
    exact ⟨none, 0, by rw [hE.out, hL.out]; rfl, by rw [hL.out]; exact IsB_nil _, Below.refl _ _⟩
  | false =>
    have hE : Hid (unE s m = 0) := unE_ok hm ((pack_unpack s m).2 ⟨hz.out, (far_iff s m).1 hq.out⟩)
    have hL : Hid (unL s m = unpackL s m) := unL_ok hE.out
    obtain ⟨Z, hmk, hZ⟩ : ∃ Z : Array Value, (∀ W : World, (Instr.makeSlice 22 (.int .i64 m) (.int .i64 m)).run Try.prog W = .ok (.slice (some ⟨W.heap.size, 0, none⟩) m m) (W.alloc (.cells Z 4))) ∧ Hid (Z = (List.replicate m (Value.bool false)).toArray) :=
      ⟨madeCells #[.bool false] m, fun W => run_make_row' (P := Try.prog) 22 4 (.bool false) 1 Try.underlying22 Try.info4 rfl .i64 .i64 m (by omega) (by omega) W, made_one _ m⟩
    have HR : Hid (RowT (w.alloc (.cells Z 4)) w.heap.size m (unN s m 0)) := by
      show RowT _ _ _ _
      rw [unN_zero]
      exact RowT.new w m hZ.out rfl (by unfold maxLen; omega)
    go_enter Try.func10, Try.ntmps10
    go_wp2_with (first
      | (go_at_call 23; refine (cb _).mono ?_; rintro e w' ⟨rfl, rfl⟩)
      | (go_at_call 24; refine (ch _).mono ?_; rintro e w' ⟨rfl, rfl⟩))
    clear cb ch
    go_loopw [32] (fun v wr => ∃ j : Nat, j ≤ m ∧ v = .int .i64 j ∧ RowT wr w.heap.size m (unN s m j) ∧ Below w.heap.size w wr) (fun v _ => m - (intOf v).toNat)
    case atStart => exact ⟨0, by omega, rfl, HR.out, (Below.refl _ _).alloc (Nat.le_refl _) _⟩
    case round =>
      obtain ⟨j, hj, rfl, hrow, hbel⟩ := hrel
      have HW : Hid (RowT wr w.heap.size m (unN s m j)) := hrow
      clear hrow
      by_cases hlt : j < m
      · have hlt' : (j : Int) < m := by omega
        obtain ⟨q, hq⟩ : ∃ q, Hid (bitAt s j = q) := ⟨_, rfl⟩
        have cb : ∀ W, Calls Try.prog 25 #[.string s, .int .i64 j] W fun e w' => e = .returned (.bool q) ∧ W = w' := by
          intro W; rw [← hq.out]; exact bit_any s j W (by unfold maxLen; omega) (by rw [hz.out]; unfold sizeB; omega) (by omega)
        obtain ⟨hcx, hfx⟩ := HW.out.cell (List.getElem?_eq_getElem (show j < _ by rw [unN_length s hj]; exact hlt))
        generalize (unN s m j)[j]'_ = x at hcx
        have hset : Hid (RowT (wr.setCell ⟨w.heap.size, j, none⟩ (.bool q)) w.heap.size m (unN s m (j + 1))) := by
          show RowT _ _ _ _
          rw [← unN_succ s hlt, hq.out]
          exact HW.out.set j q
        clear hq
        go_wp2_with (go_at_call 25; refine (cb _).mono ?_; rintro e w' ⟨rfl, rfl⟩)
        go_roundw
        case rel => exact ⟨j + 1, by omega, by go_num, hset.out, hbel.setCell (p := ⟨w.heap.size, j, none⟩) (Nat.le_refl _) _⟩
        case measure => simp [intOf]; omega
      · obtain rfl : j = m := by omega
        go_wp2
        go_ret2
        refine ⟨some ⟨w.heap.size, 0, none⟩, j, by rw [hE.out, hL.out, unpackL_length]; rfl, ?_, hbel⟩
        rw [hL.out, ← unN_full]
        exact HW.out.isB

end Go.Proofs.Ytkfapldicjmelaa

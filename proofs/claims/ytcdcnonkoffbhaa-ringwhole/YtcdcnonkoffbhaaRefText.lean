/-
  What the document's own Text, Trim and Pad do.
-/
import Derived.Test.YtcdcnonkoffbhaaPut
import Derived.Test.YtcdcnonkoffbhaaPlainB
namespace Go.Proofs.Ytcdcnonkoffbhaa
open Go.RowKit Plain
set_option linter.unusedVariables false

set_option maxHeartbeats 400000 in
theorem refTrim_any (s : ByteArray) (w : World) (hs : s.size ≤ maxLen) :
    Calls Try.prog 51 #[.string s] w fun e w' => e = .returned (.string (trimS s)) ∧ w = w' := by
  unfold maxLen at hs
  go_enter Try.func51, Try.ntmps51
  go_wp2
  go_loop [3] (fun v => ∃ k : Nat, k ≤ s.size ∧ v = .int .i64 k ∧ trimN s s.size = trimN s k) (fun v => (intOf v).toNat)
  case atStart => exact ⟨s.size, by omega, rfl, rfl⟩
  case round =>
    obtain ⟨k, hk, rfl, HT⟩ := hrel
    have HT' : Hid (trimN s s.size = trimN s k) := HT
    clear HT
    match k, hk, HT' with
    | 0, hk, HT' =>
      have e0 : Hid (trimS s = ByteArray.empty) := trimS_none s HT'.out
      go_wp2
      go_ret
      exact ⟨ret_str e0.out.symm, rfl⟩
    | k + 1, hk, HT' =>
      have ek : (((k + 1 : Nat) : Int)) = (k : Int) + 1 := by omega
      rw [ek]
      by_cases hz : s[k] = 0
      · have ht : Hid (trimN s (k + 1) = trimN s k) := trimN_down s k (by omega) hz
        have hz' : ((s[k].toNat : Int) == 0) = true := by rw [hz]; rfl
        clear hz
        go_wp2
        go_round
        case rel => exact ⟨k, by omega, rfl, by rw [HT'.out, ht.out]⟩
        case measure => simp [intOf]
      · have ht : Hid (trimN s (k + 1) = k + 1) := trimN_stay s k (by omega) hz
        have hz' : ((s[k].toNat : Int) == 0) = false := by
          have : s[k].toNat ≠ 0 := fun h => hz (UInt8.toNat_inj.1 h)
          simpa using this
        clear hz
        go_wp2
        go_ret
        exact ⟨ret_str (by rw [trimS, HT'.out, ht.out]), rfl⟩

set_option maxHeartbeats 400000 in
theorem refText_any (s : ByteArray) (w : World) (hs : s.size ≤ maxLen) :
    Calls Try.prog 50 #[.string s] w fun e w' => e = .returned (.tuple #[.string (textS s), .int .i64 (textE s)]) ∧ Below w.heap.size w w' := by
  unfold maxLen at hs
  have hB : Below w.heap.size w w := Below.refl _ _
  by_cases h : s.size ≤ 65535
  · have h' : ¬ (65535 : Int) < s.size := by omega
    rw [textS, textE, if_pos h, if_pos h, cat_two]
    have hcv := conv_row w (putL s.size 2) 2 (putL_length _ _) 2
    rw [put_two s.size h] at hcv
    have hsum : ¬ 9223372036854775807 < (putL (s.size : Int) 2).length + s.size := by rw [putL_length]; omega
    go_enter Try.func50, Try.ntmps50
    go_wp2
    go_ret2
    exact ⟨rfl, hB.alloc (Nat.le_refl _) _⟩
  · have h' : (65535 : Int) < s.size := by omega
    rw [textS, textE, if_neg h, if_neg h]
    go_enter Try.func50, Try.ntmps50
    go_wp2
    go_ret2
    exact ⟨rfl, hB⟩

set_option maxHeartbeats 400000 in
theorem refPad_any (s : ByteArray) (k : Int) (w : World) (hs : s.size ≤ maxLen) :
    Calls Try.prog 56 #[.string s, .int .i64 k] w fun e w' => e = .returned (.tuple #[.string (padS s k), .int .i64 (padE s k)]) ∧ Below w.heap.size w w' := by
  unfold maxLen at hs
  have hB : Below w.heap.size w w := Below.refl _ _
  by_cases h : 0 ≤ k ∧ k ≤ 4096
  · obtain ⟨h0, h1⟩ := h
    obtain ⟨m, rfl⟩ : ∃ m : Nat, k = m := ⟨k.toNat, by omega⟩
    have hk0 : ¬ (m : Int) < 0 := by omega
    have hk1 : ¬ (4096 : Int) < m := by omega
    by_cases hl : s.size ≤ m
    · have hE : padE s m = 0 := by unfold padE; rw [if_pos ⟨h0, h1⟩, if_pos (by omega)]
      have hl' : ¬ m < s.size := by omega
      have ed : (m : Int) - (s.size : Int) = ((m - s.size : Nat) : Int) := by omega
      have hd : m - s.size ≤ 4096 := by omega
      rw [padS, hE, if_pos rfl]
      show Calls _ _ _ _ fun e w' => e = .returned (.tuple #[.string (s ++ zeros (m - s.size)), .int .i64 0]) ∧ _
      generalize m - s.size = d at ed hd
      have hmk := fun W => run_make_row' (P := Try.prog) 59 5 (.int .u8 0) 1 Try.underlying59 Try.info5 rfl .i64 .i64 d (by omega) (by omega) W
      have hcv := conv_row w (List.replicate d 0) d (List.length_replicate) d
      rw [zeros_cells] at hcv
      have ez : (⟨(List.replicate d 0).toArray⟩ : ByteArray) = zeros d := rfl
      rw [ez] at hcv
      have hsum : ¬ 9223372036854775807 < s.size + (zeros d).size := by rw [zeros_size]; omega
      clear hE ez
      go_enter Try.func56, Try.ntmps56
      go_wp2
      go_ret2
      exact ⟨rfl, hB.alloc (Nat.le_refl _) _⟩
    · have hE : padE s m = 2 := by unfold padE; rw [if_pos ⟨h0, h1⟩, if_neg (by omega)]
      rw [padS, hE, if_neg (by decide)]
      have hl' : m < s.size := by omega
      clear hE
      go_enter Try.func56, Try.ntmps56
      go_wp2
      go_ret2
      exact ⟨rfl, hB⟩
  · have hE : padE s k = 1 := by unfold padE; rw [if_neg h]
    rw [padS, hE, if_neg (by decide)]
    clear hE
    by_cases h0 : k < 0
    · go_enter Try.func56, Try.ntmps56
      go_wp2
      go_ret2
      exact ⟨rfl, hB⟩
    · have h1 : 4096 < k := by omega
      clear h
      go_enter Try.func56, Try.ntmps56
      go_wp2
      go_ret2
      exact ⟨rfl, hB⟩

end Go.Proofs.Ytcdcnonkoffbhaa

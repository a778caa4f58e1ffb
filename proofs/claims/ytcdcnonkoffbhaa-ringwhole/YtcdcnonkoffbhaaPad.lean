/-
  What code.Trim and code.Pad do, for every text.
-/
import Derived.Test.YtcdcnonkoffbhaaText
namespace Go.Proofs.Ytcdcnonkoffbhaa
open Go.RowKit Plain
set_option linter.unusedVariables false

set_option maxHeartbeats 400000 in
theorem trim_any (s : ByteArray) (w : World) (hs : s.size ≤ maxLen) :
    Calls Try.prog 46 #[.string s] w fun e w' => e = .returned (.string (trimS s)) ∧ w = w' := by
  unfold maxLen at hs
  go_enter Try.func46, Try.ntmps46
  go_wp2
  go_loop [3] (fun v => ∃ k : Nat, k ≤ s.size ∧ v = .int .i64 k ∧ trimN s s.size = trimN s k) (fun v => (intOf v).toNat)
  case atStart => exact ⟨s.size, by omega, rfl, rfl⟩
  case round =>
    obtain ⟨k, hk, rfl, HT⟩ := hrel
    have HT' : Hid (trimN s s.size = trimN s k) := HT
    clear HT
    match k, hk, HT' with
    | 0, hk, HT' =>
      have e0 : Hid (trimS s = ByteArray.empty) := trimS_none s HT'.out
      go_wp2
      go_ret
      exact ⟨ret_str e0.out.symm, rfl⟩
    | k + 1, hk, HT' =>
      have ek : (((k + 1 : Nat) : Int)) = (k : Int) + 1 := by omega
      rw [ek]
      by_cases hz : s[k] = 0
      · have ht : Hid (trimN s (k + 1) = trimN s k) := trimN_down s k (by omega) hz
        have hz' : ((s[k].toNat : Int) == 0) = true := by rw [hz]; rfl
        clear hz
        go_wp2
        go_round
        case rel => exact ⟨k, by omega, rfl, by rw [HT'.out, ht.out]⟩
        case measure => simp [intOf]
      · have ht : Hid (trimN s (k + 1) = k + 1) := trimN_stay s k (by omega) hz
        have hz' : ((s[k].toNat : Int) == 0) = false := by
          have : s[k].toNat ≠ 0 := fun h => hz (UInt8.toNat_inj.1 h)
          simpa using this
        clear hz
        go_wp2
        go_ret
        exact ⟨ret_str (by rw [trimS, HT'.out, ht.out]), rfl⟩

theorem repeat_any (c : Nat) (w : World) (h : c ≤ 4096) :
    Calls Try.prog 83 #[.string ⟨#[0]⟩, .int .i64 c] w fun e w' => e = .returned (.string (zeros c)) ∧ Below w.heap.size w w' := by
  have h := Try.strings_Repeat ⟨#[0]⟩ c w (by omega) (by show 1 * c ≤ _; omega)
  have e1 : (⟨(Lib.repeatL (⟨#[0]⟩ : ByteArray).data.toList c).toArray⟩ : ByteArray) = zeros c := by
    show (⟨(Lib.repeatL [0] c).toArray⟩ : ByteArray) = _
    rw [repeat_flat]; rfl
  rw [e1] at h
  exact h

set_option maxHeartbeats 400000 in
/-- PAD, at all arguments. -/
theorem pad_any (s : ByteArray) (k : Int) (w : World) (hs : s.size ≤ maxLen) :
    Calls Try.prog 75 #[.string s, .int .i64 k] w fun e w' => e = .returned (.tuple #[.string (padS s k), .int .i64 (padE s k)]) ∧ Below w.heap.size w w' := by
  unfold maxLen at hs
  have hB : Below w.heap.size w w := Below.refl _ _
  by_cases h : 0 ≤ k ∧ k ≤ 4096
  · obtain ⟨h0, h1⟩ := h
    obtain ⟨m, rfl⟩ : ∃ m : Nat, k = m := ⟨k.toNat, by omega⟩
    have hk0 : ¬ (m : Int) < 0 := by omega
    have hk1 : ¬ (4096 : Int) < m := by omega
    by_cases hl : s.size ≤ m
    · have hE : padE s m = 0 := by unfold padE; rw [if_pos ⟨h0, h1⟩, if_pos (by omega)]
      have hl' : ¬ m < s.size := by omega
      have ed : (m : Int) - (s.size : Int) = ((m - s.size : Nat) : Int) := by omega
      have hz : s.size + (zeros (m - s.size)).size ≤ 140737488355328 := by
        rw [zeros_size]; omega
      have hr := fun w => repeat_any (m - s.size) w (by omega)
      rw [padS, hE, if_pos rfl, ← cat_two]
      show Calls _ _ _ _ fun e w' => e = .returned (.tuple #[.string (cat [s, zeros (m - s.size)]), .int .i64 0]) ∧ _
      generalize m - s.size = d at ed hz hr
      clear hE
      go_enter Try.func75, Try.ntmps75
      go_wp2_with (first
        | (go_at_call 83; refine (hr _).mono ?_; rintro e w' ⟨rfl, hb⟩; replace hB := Below.tr hB hb; clear hb)
        | (go_at_call 27; refine (all_two _ _ _ hz).mono ?_; rintro e w' ⟨rfl, hb⟩; replace hB := Below.tr hB hb; clear hb))
      go_ret2
      exact ⟨rfl, hB⟩
    · have hE : padE s m = 2 := by unfold padE; rw [if_pos ⟨h0, h1⟩, if_neg (by omega)]
      rw [padS, hE, if_neg (by decide)]
      have hl' : m < s.size := by omega
      clear hE
      go_enter Try.func75, Try.ntmps75
      go_wp2
      go_ret2
      exact ⟨rfl, hB⟩
  · have hE : padE s k = 1 := by unfold padE; rw [if_neg h]
    rw [padS, hE, if_neg (by decide)]
    clear hE
    by_cases h0 : k < 0
    · go_enter Try.func75, Try.ntmps75
      go_wp2
      go_ret2
      exact ⟨rfl, hB⟩
    · have h1 : 4096 < k := by omega
      clear h
      go_enter Try.func75, Try.ntmps75
      go_wp2
      go_ret2
      exact ⟨rfl, hB⟩

end Go.Proofs.Ytcdcnonkoffbhaa

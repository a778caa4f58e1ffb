/-
  What the document's own Get and Cut do, for every text and place.
-/
import Derived.Test.YtnipikdlfmcheaaPut
namespace Go.Proofs.Ytnipikdlfmcheaa
open Go.RowKit Plain
set_option linter.unusedVariables false

set_option maxHeartbeats 400000 in
theorem refGet_ok (s : ByteArray) (p k : Nat) (w : World) (hs : s.size ≤ maxLen) (h1 : 1 ≤ k) (h6 : k ≤ 6) (hp : p + k ≤ s.size) :
    Calls Try.prog 55 #[.string s, .int .i64 p, .int .i64 k] w fun e w' => e = .returned (.tuple #[.int .i64 (getV s p k), .int .i64 (p + k), .int .i64 0]) ∧ w = w' := by
  unfold maxLen at hs
  have hsp : ¬ s.size < p := by omega
  have hp0 : ¬ (p : Int) < 0 := by omega
  have hk1 : 1 ≤ (k : Int) := by omega
  have hk6 : (k : Int) ≤ 6 := by omega
  have hle : ¬ (s.size : Int) - (p : Int) < (k : Int) := by omega
  go_enter Try.func55, Try.ntmps55
  go_wp2
  go_loop [9, 10] (fun n v => ∃ i : Nat, i ≤ k ∧ v = .int .i64 i ∧ n = .int .i64 (getV s p i)) (fun _ v => k - (intOf v).toNat)
  case atStart => exact ⟨0, by omega, rfl, rfl⟩
  case round =>
    obtain ⟨i, hi, rfl, rfl⟩ := hrel
    obtain ⟨g0, g1⟩ := getV_bd s p i
    have g2 := pw_le i (by omega)
    by_cases hlt : i < k
    · have HS : Hid (getV s p (i + 1) = getV s p i * 256 + (s[p + i].toNat : Int)) := getV_succ s p i (by omega)
      have ho := UInt8.toNat_lt s[p + i]
      go_wp2
      go_round
      case rel => exact ⟨i + 1, by omega, by go_num, by rw [HS.out]⟩
      case measure => simp [intOf]; omega
    · obtain rfl : i = k := by omega
      go_wp2
      go_ret3
      exact ⟨rfl, rfl⟩

set_option maxHeartbeats 1000000 in
theorem refGet_arg (s : ByteArray) (p k : Int) (w : World) (hs : s.size ≤ maxLen) (h : ¬ (1 ≤ k ∧ k ≤ 6 ∧ 0 ≤ p ∧ p ≤ s.size)) :
    Calls Try.prog 55 #[.string s, .int .i64 p, .int .i64 k] w fun e w' => e = .returned (.tuple #[.int .i64 0, .int .i64 0, .int .i64 1]) ∧ w = w' := by
  unfold maxLen at hs
  by_cases h1 : 1 ≤ k
  · by_cases h6 : k ≤ 6
    · by_cases h0 : p < 0
      · clear h
        go_enter Try.func55, Try.ntmps55
        go_wp2
        go_ret3
        exact ⟨rfl, rfl⟩
      · obtain ⟨q, rfl⟩ : ∃ q : Nat, p = q := ⟨p.toNat, by omega⟩
        have hq : s.size < q := by omega
        clear h
        go_enter Try.func55, Try.ntmps55
        go_wp2
        go_ret3
        exact ⟨rfl, rfl⟩
    · clear h
      go_enter Try.func55, Try.ntmps55
      go_wp2
      go_ret3
      exact ⟨rfl, rfl⟩
  · clear h
    go_enter Try.func55, Try.ntmps55
    go_wp2
    go_ret3
    exact ⟨rfl, rfl⟩

set_option maxHeartbeats 400000 in
theorem refGet_short (s : ByteArray) (p k : Nat) (w : World) (hs : s.size ≤ maxLen) (h1 : 1 ≤ k) (h6 : k ≤ 6) (hp : p ≤ s.size) (hsh : (s.size : Int) - (p : Int) < (k : Int)) :
    Calls Try.prog 55 #[.string s, .int .i64 p, .int .i64 k] w fun e w' => e = .returned (.tuple #[.int .i64 0, .int .i64 0, .int .i64 3]) ∧ w = w' := by
  unfold maxLen at hs
  have hsp : ¬ s.size < p := by omega
  have hp0 : ¬ (p : Int) < 0 := by omega
  have hk1 : 1 ≤ (k : Int) := by omega
  have hk6 : (k : Int) ≤ 6 := by omega
  go_enter Try.func55, Try.ntmps55
  go_wp2
  go_ret3
  exact ⟨rfl, rfl⟩

/-- GET, at all arguments. -/
theorem refGet_any (s : ByteArray) (p k : Int) (w : World) (hs : s.size ≤ maxLen) :
    Calls Try.prog 55 #[.string s, .int .i64 p, .int .i64 k] w fun e w' => e = .returned (.tuple #[.int .i64 (getR s p k), .int .i64 (getT s p k), .int .i64 (getE s p k)]) ∧ w = w' := by
  by_cases h : 1 ≤ k ∧ k ≤ 6 ∧ 0 ≤ p ∧ p ≤ s.size
  · obtain ⟨h1, h6, h0, hp⟩ := h
    obtain ⟨q, rfl⟩ : ∃ q : Nat, p = q := ⟨p.toNat, by omega⟩
    obtain ⟨m, rfl⟩ : ∃ m : Nat, k = m := ⟨k.toNat, by omega⟩
    by_cases h2 : (s.size : Int) - (q : Int) < (m : Int)
    · have e : getE s q m = 3 := by unfold getE; rw [if_pos ⟨h1, h6, h0, hp⟩, if_pos h2]
      rw [getR, getT, e, if_neg (by decide), if_neg (by decide)]
      exact refGet_short s q m w hs (by omega) (by omega) (by omega) h2
    · have e : getE s q m = 0 := by unfold getE; rw [if_pos ⟨h1, h6, h0, hp⟩, if_neg h2]
      rw [getR, getT, e, if_pos rfl, if_pos rfl]
      exact refGet_ok s q m w hs (by omega) (by omega) (by omega)
  · have e : getE s p k = 1 := by unfold getE; rw [if_neg h]
    rw [getR, getT, e, if_neg (by decide), if_neg (by decide)]
    exact refGet_arg s p k w hs h

set_option maxHeartbeats 400000 in
/-- CUT, at all arguments. -/
theorem refCut_any (s : ByteArray) (p : Int) (w : World) (hs : s.size ≤ maxLen) :
    Calls Try.prog 56 #[.string s, .int .i64 p] w fun e w' => e = .returned (.tuple #[.string (cutS s p), .int .i64 (cutT s p), .int .i64 (cutE s p)]) ∧ w = w' := by
  have hs' := hs
  unfold maxLen at hs
  by_cases h : getE s p 2 = 0
  · obtain ⟨-, -, h0, hp⟩ := getE_ok h
    obtain ⟨q, rfl⟩ : ∃ q : Nat, p = q := ⟨p.toNat, by omega⟩
    obtain ⟨g0, g1⟩ := getV_bd s q 2
    have g2 : pw 2 = 65536 := by decide
    have eR : getR s q 2 = getV s q 2 := by rw [getR, if_pos h]; rfl
    have eT : getT s q 2 = q + 2 := by rw [getT, if_pos h]
    obtain ⟨v, hv⟩ : ∃ v : Nat, getV s q 2 = v := ⟨(getV s q 2).toNat, by omega⟩
    have hcE : cutE s q = if (s.size : Int) - ((q : Int) + 2) < (v : Int) then 3 else 0 := by rw [cutE, if_pos h]; simp [hv]
    rw [hv] at eR g0 g1
    by_cases hsh : (s.size : Int) - ((q : Int) + 2) < (v : Int)
    · rw [if_pos hsh] at hcE
      rw [cutS, cutT, hcE, if_neg (by decide), if_neg (by decide)]
      clear hcE hv
      go_enter Try.func56, Try.ntmps56
      go_wp2_with (go_at_call 55; refine (refGet_any _ _ _ _ hs').mono ?_; rintro e w' ⟨rfl, rfl⟩)
      go_ret3
      exact ⟨rfl, rfl⟩
    · rw [if_neg hsh] at hcE
      rw [cutS, cutT, hcE, if_pos rfl, if_pos rfl]
      have e1 : ((q : Int) + 2).toNat = q + 2 := by omega
      have e2 : ((q : Int) + 2 + getV s q 2).toNat = q + 2 + v := by rw [hv]; omega
      have e3 : ((q : Int).toNat) = q := rfl
      rw [e3, e1, e2, hv]
      obtain ⟨f, hf⟩ : ∃ f : Nat, q + 2 = f := ⟨_, rfl⟩
      have hf' : (q : Int) + 2 = f := by omega
      have hsh' : f + v ≤ s.size := by omega
      rw [hf'] at eT
      rw [hf, hf']
      have hv' : v < 65536 := by omega
      clear hcE hv e2 e1 e3 hsh hp hf hf' h0 g0 g1 g2
      go_enter Try.func56, Try.ntmps56
      go_wp2_with (go_at_call 55; refine (refGet_any _ _ _ _ hs').mono ?_; rintro e w' ⟨rfl, rfl⟩)
      go_ret3
      exact ⟨rfl, rfl⟩
  · have hcE : cutE s p = getE s p 2 := by rw [cutE, if_neg h]
    rw [cutS, cutT, hcE, if_neg h, if_neg h]
    have hne : (getE s p 2 != 0) = true := by simpa using h
    clear h hcE
    go_enter Try.func56, Try.ntmps56
    go_wp2_with (go_at_call 55; refine (refGet_any _ _ _ _ hs').mono ?_; rintro e w' ⟨rfl, rfl⟩)
    go_ret3
    exact ⟨rfl, rfl⟩

end Go.Proofs.Ytnipikdlfmcheaa

/-
  The walk of the law SumBursts: it returns true at all arguments.
-/
import Derived.Test.YtdnmiipeimfccaaSumTurnPlain
import Derived.Test.YtdnmiipeimfccaaSumIsWalk
namespace Go.Proofs.Ytdnmiipeimfccaa
open Go.RowKit Plain
set_option linter.unusedVariables false

theorem turned_any (s : ByteArray) (f p : Nat) (w : World) (hs : s.size ≤ 1000000) (hf : f < 8 * s.size) (hp : p < 4294967296) :
    Calls Try.prog 19 #[.string s, .int .i64 f, .int .u32 p] w fun e w' => e = .returned (.string (turnS s f p)) ∧ Below w.heap.size w w' :=
  turned_ok s f p w hs hf hp

/-- The place that the law draws from any number. -/
theorem place_of (fr : Int) (n : Nat) (h : 0 < n) : ∃ m t : Nat, 8 * (n : Int) = (m : Int) ∧ (fr.tmod m + m).tmod m = (t : Int) ∧ t < m ∧ -(m : Int) < fr.tmod m ∧ fr.tmod m < m := by
  have hp : (0 : Int) < ((8 * n : Nat) : Int) := by omega
  have h1 := Int.lt_tmod_of_pos fr hp
  have h2 := Int.tmod_lt_of_pos fr hp
  have h3 := Int.tmod_lt_of_pos (fr.tmod ((8 * n : Nat) : Int) + ((8 * n : Nat) : Int)) hp
  have h4 : 0 ≤ (fr.tmod ((8 * n : Nat) : Int) + ((8 * n : Nat) : Int)).tmod ((8 * n : Nat) : Int) := Int.tmod_nonneg _ (by omega)
  exact ⟨8 * n, ((fr.tmod ((8 * n : Nat) : Int) + ((8 * n : Nat) : Int)).tmod ((8 * n : Nat) : Int)).toNat, by omega, by omega, by omega, h1, h2⟩

set_option maxHeartbeats 1000000 in
theorem sumBursts_walk (s : ByteArray) (fr pt : Int) (w : World) (hs : s.size ≤ maxLen) (wf : (Lit.int .i64 fr).wf = true) (wp : (Lit.int .u32 pt).wf = true) :
    Calls Try.prog 6 #[.string s, .int .i64 fr, .int .u32 pt] w fun e w' => e = .returned (.bool true) ∧ Below w.heap.size w w' := by
  have hB : Below w.heap.size w w := Below.refl _ _
  obtain ⟨p, rfl, hp⟩ := wf_u32 wp
  obtain ⟨a, ca, a1⟩ : ∃ a, (∀ W, Calls Try.prog 9 #[.string s] W fun e w' => e = .returned (.string a) ∧ W = w') ∧ a.size ≤ 5000 := ⟨_, fun W => short_any s W hs, shortS_max s⟩
  have CA : Hid (∀ W, Calls Try.prog 9 #[.string s] W fun e w' => e = .returned (.string a) ∧ W = w') := ca
  have h1 : Hid (a.size ≤ maxLen) := Nat.le_trans a1 (by decide)
  have h2 : Hid (a.size ≤ 1000000) := Nat.le_trans a1 (by decide)
  clear ca hs wp wf
  by_cases h0 : a.size = 0
  · have h0' : (a.size : Int) = 0 := by omega
    go_enter Try.func6, Try.ntmps6
    go_wp2_with (first
      | (go_at_call 9; refine (CA.out _).mono ?_; rintro e w' ⟨rfl, rfl⟩)
      | (go_at_call 10; refine (alive_any _).mono ?_; rintro e w' ⟨rfl, hb⟩; replace hB := Below.tr hB hb; clear hb))
    go_ret
    exact ⟨rfl, hB⟩
  · have h0' : ((a.size : Int) == 0) = false := by rw [beq_eq_false_iff_ne]; omega
    obtain ⟨m, t, em, ht, htm, b1, b2⟩ := place_of fr a.size (by omega)
    have hm : (m : Int) ≤ 40000 := by omega
    have hm0 : (0 : Int) < m := by omega
    have hlt : Hid (t < 8 * a.size) := by show t < 8 * a.size; omega
    have h3 : Hid ((turnS a t p).size ≤ maxLen) := by show (turnS a t p).size ≤ maxLen; rw [turnS_size]; exact h1.out
    have hif := turnS_sum a t p (Nat.le_of_lt hlt.out)
    have tok : True := trivial
    by_cases hq : a = turnS a t p
    · have e1 : ((ofS a : Nat) : Int) = ((ofS (turnS a t p) : Nat) : Int) := by rw [hif.2 hq]
      have e2 := str_eq_true hq
      clear hif hq
      go_enter Try.func6, Try.ntmps6
      go_wp2_with (first
        | (go_at_call 9; refine (CA.out _).mono ?_; rintro e w' ⟨rfl, rfl⟩)
        | (go_at_call 19; refine (turned_any a t p _ h2.out hlt.out hp).mono ?_; rintro e w' ⟨rfl, hb⟩; replace hB := Below.tr hB hb; clear hb)
        | (go_at_call 11; have _t := tok; refine (of_one a _ h1.out).mono ?_; rintro e w' ⟨rfl, hb⟩; replace hB := Below.tr hB hb; clear hb tok)
        | (go_at_call 11; refine (of_one (turnS a t p) _ h3.out).mono ?_; rintro e w' ⟨rfl, hb⟩; replace hB := Below.tr hB hb; clear hb)
        | (go_at_call 10; refine (alive_any _).mono ?_; rintro e w' ⟨rfl, hb⟩; replace hB := Below.tr hB hb; clear hb))
      go_ret
      exact ⟨rfl, hB⟩
    · have e1 : (((ofS a : Nat) : Int) == ((ofS (turnS a t p) : Nat) : Int)) = false := by
        rw [beq_eq_false_iff_ne]; intro h; exact hq (hif.1 (by omega))
      have e2 := str_eq_false hq
      clear hif hq
      go_enter Try.func6, Try.ntmps6
      go_wp2_with (first
        | (go_at_call 9; refine (CA.out _).mono ?_; rintro e w' ⟨rfl, rfl⟩)
        | (go_at_call 19; refine (turned_any a t p _ h2.out hlt.out hp).mono ?_; rintro e w' ⟨rfl, hb⟩; replace hB := Below.tr hB hb; clear hb)
        | (go_at_call 11; have _t := tok; refine (of_one a _ h1.out).mono ?_; rintro e w' ⟨rfl, hb⟩; replace hB := Below.tr hB hb; clear hb tok)
        | (go_at_call 11; refine (of_one (turnS a t p) _ h3.out).mono ?_; rintro e w' ⟨rfl, hb⟩; replace hB := Below.tr hB hb; clear hb)
        | (go_at_call 10; refine (alive_any _).mono ?_; rintro e w' ⟨rfl, hb⟩; replace hB := Below.tr hB hb; clear hb))
      go_ret
      exact ⟨rfl, hB⟩

end Go.Proofs.Ytdnmiipeimfccaa

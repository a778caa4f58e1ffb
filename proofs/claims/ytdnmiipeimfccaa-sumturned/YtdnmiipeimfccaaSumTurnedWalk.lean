/-
  The walk of the law SumTurned: it returns true at all arguments.
-/
import Derived.Test.YtdnmiipeimfccaaSumBurstsWalk
namespace Go.Proofs.Ytdnmiipeimfccaa
open Go.RowKit Plain
set_option linter.unusedVariables false

set_option maxHeartbeats 1000000 in
theorem sumTurned_walk (s : ByteArray) (fr pt : Int) (w : World) (hs : s.size ≤ maxLen) (wf : (Lit.int .i64 fr).wf = true) (wp : (Lit.int .u32 pt).wf = true) :
    Calls Try.prog 7 #[.string s, .int .i64 fr, .int .u32 pt] w fun e w' => e = .returned (.bool true) ∧ Below w.heap.size w w' := by
  have hB : Below w.heap.size w w := Below.refl _ _
  obtain ⟨p, rfl, hp⟩ := wf_u32 wp
  have hx := shortS_max s
  have hS : Hid ((shortS s).size ≤ 1000000) := Nat.le_trans hx (by decide)
  have hsz := sealS_size (shortS s)
  have ho := openE_seal (shortS s)
  obtain ⟨a, ea⟩ : ∃ a, sealS (shortS s) = a := ⟨_, rfl⟩
  have CS : Hid (∀ W, Calls Try.prog 17 #[.string (shortS s)] W fun e w' => e = .returned (.string a) ∧ Below W.heap.size W w') := by
    intro W; rw [← ea]; exact seal_ok _ _ hS.out
  rw [ea] at hsz ho
  have a1 : a.size ≤ 5004 := by omega
  have a4 : ¬ (a.size : Int) < 4 := by omega
  have a4' : 4 ≤ a.size := by omega
  have h2 : Hid (a.size ≤ 1000000) := Nat.le_trans a1 (by decide)
  clear wp wf hx hsz ea
  obtain ⟨m, t, em, ht, htm, b1, b2⟩ := place_of fr a.size (by omega)
  have hm : (m : Int) ≤ 50000 := by omega
  have hm0 : (0 : Int) < m := by omega
  have hlt : Hid (t < 8 * a.size) := by show t < 8 * a.size; omega
  have h3 : Hid ((turnS a t p).size ≤ maxLen) := by show (turnS a t p).size ≤ maxLen; rw [turnS_size]; exact Nat.le_trans a1 (by decide)
  have hif := turned_open a t p a4' ho (Nat.le_of_lt hlt.out)
  have hk := openE_kinds (turnS a t p)
  have hk3 : ¬ openE (turnS a t p) = 3 := by
    unfold openE
    rw [if_neg (by rw [turnS_size]; omega)]
    split <;> decide
  by_cases hq : turnS a t p = a
  · have e1 := hif.2 hq
    have e2 := str_eq_true hq
    clear hif hq hk hk3 ho a4'
    go_enter Try.func7, Try.ntmps7
    go_wp2_with (first
      | (go_at_call 9; refine (short_any _ _ hs).mono ?_; rintro e w' ⟨rfl, rfl⟩)
      | (go_at_call 17; refine (CS.out _).mono ?_; rintro e w' ⟨rfl, hb⟩; replace hB := Below.tr hB hb; clear hb)
      | (go_at_call 19; refine (turned_any a t p _ h2.out hlt.out hp).mono ?_; rintro e w' ⟨rfl, hb⟩; replace hB := Below.tr hB hb; clear hb)
      | (go_at_call 15; refine (open_any (turnS a t p) _ h3.out).mono ?_; rintro e w' ⟨rfl, hb⟩; replace hB := Below.tr hB hb; clear hb)
      | (go_at_call 10; refine (alive_any _).mono ?_; rintro e w' ⟨rfl, hb⟩; replace hB := Below.tr hB hb; clear hb))
    go_ret
    exact ⟨rfl, hB⟩
  · have e1 : openE (turnS a t p) = 41 := by
      rcases hk with h | h | h
      · exact absurd (hif.1 h) hq
      · exact absurd h hk3
      · exact h
    have e2 := str_eq_false hq
    clear hif hq hk hk3 ho a4'
    go_enter Try.func7, Try.ntmps7
    go_wp2_with (first
      | (go_at_call 9; refine (short_any _ _ hs).mono ?_; rintro e w' ⟨rfl, rfl⟩)
      | (go_at_call 17; refine (CS.out _).mono ?_; rintro e w' ⟨rfl, hb⟩; replace hB := Below.tr hB hb; clear hb)
      | (go_at_call 19; refine (turned_any a t p _ h2.out hlt.out hp).mono ?_; rintro e w' ⟨rfl, hb⟩; replace hB := Below.tr hB hb; clear hb)
      | (go_at_call 15; refine (open_any (turnS a t p) _ h3.out).mono ?_; rintro e w' ⟨rfl, hb⟩; replace hB := Below.tr hB hb; clear hb)
      | (go_at_call 10; refine (alive_any _).mono ?_; rintro e w' ⟨rfl, hb⟩; replace hB := Below.tr hB hb; clear hb))
    go_ret
    exact ⟨rfl, hB⟩

end Go.Proofs.Ytdnmiipeimfccaa

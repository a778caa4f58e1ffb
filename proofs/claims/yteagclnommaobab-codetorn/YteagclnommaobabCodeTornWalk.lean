/-
  The walk of the law CodeTorn: it returns true at all arguments.
-/
import Derived.Test.YteagclnommaobabText
import Derived.Test.YteagclnommaobabGet
import Derived.Test.YteagclnommaobabPlainC
namespace Go.Proofs.Yteagclnommaobab
open Go.RowKit Plain
set_option linter.unusedVariables false

set_option maxHeartbeats 400000 in
theorem codeTorn_walk (s : ByteArray) (k : Int) (w : World) (hs : s.size ≤ maxLen) (wk : (Lit.int .i64 k).wf = true) :
    Calls Try.prog 4 #[.string s, .int .i64 k] w fun e w' => e = .returned (.bool true) ∧ Below w.heap.size w w' := by
  have hB : Below w.heap.size w w := Below.refl _ _
  have hkb : -9223372036854775808 ≤ k ∧ k ≤ 9223372036854775807 := by simpa [Lit.wf, IntKind.min, IntKind.max, IntKind.signed, IntKind.bits] using wk
  have hs' := hs
  unfold maxLen at hs
  by_cases h : s.size ≤ 65535
  · have eE : textE s = 0 := by rw [textE, if_pos h]
    have eL := textS_size h
    obtain ⟨L, hL⟩ : ∃ L : Nat, 2 + s.size = L := ⟨_, rfl⟩
    rw [hL] at eL
    have hr1 : -(L : Int) < k.tmod L := by have := Int.lt_tmod_of_pos k (show (0 : Int) < L by omega); omega
    have hr2 : k.tmod L < L := Int.tmod_lt_of_pos k (by omega)
    have hL2 : ¬ (L : Int) < 2 := by omega
    have hL0 : 0 < L := by omega
    have hL3 : L ≤ 65537 := by omega
    obtain ⟨t, ht⟩ : ∃ t : Nat, k.tmod L % L = t := ⟨(k.tmod L % L).toNat, by have := Int.emod_nonneg (k.tmod L) (show (L : Int) ≠ 0 by omega); omega⟩
    have htL : t < L := by have := Int.emod_lt_of_pos (k.tmod L) (show (0 : Int) < L by omega); omega
    have eC := torn s h t (by omega)
    have eS : cutS ((textS s).extract 0 t) 0 = ⟨#[]⟩ := by rw [cutS, eC, if_neg (by decide)]
    have eT : cutT ((textS s).extract 0 t) 0 = 0 := by rw [cutT, eC, if_neg (by decide)]
    have hsz : ((textS s).extract 0 t).size ≤ maxLen := by rw [ByteArray.size_extract, textS_size h]; unfold maxLen; omega
    have hsz' : Hid (((textS s).extract 0 t).size ≤ maxLen) := hsz
    clear h wk hsz hL
    go_enter Try.func4, Try.ntmps4
    go_wp2_with (first
      | (go_at_call 7; refine (text_any _ _ hs').mono ?_; rintro e w' ⟨rfl, hb⟩; replace hB := Below.tr hB hb; clear hb)
      | (go_at_call 8; refine (cut_any _ _ _ hsz'.out).mono ?_; rintro e w' ⟨rfl, rfl⟩)
      | (go_at_call 6; refine (alive_any _).mono ?_; rintro e w' ⟨rfl, hb⟩; replace hB := Below.tr hB hb; clear hb))
    go_ret
    exact ⟨rfl, hB⟩
  · have eE : textE s = 2 := by rw [textE, if_neg h]
    have h' : (65535 : Int) < s.size := by omega
    clear h
    go_enter Try.func4, Try.ntmps4
    go_wp2_with (first
      | (go_at_call 7; refine (text_any _ _ hs').mono ?_; rintro e w' ⟨rfl, hb⟩; replace hB := Below.tr hB hb; clear hb)
      | (go_at_call 6; refine (alive_any _).mono ?_; rintro e w' ⟨rfl, hb⟩; replace hB := Below.tr hB hb; clear hb))
    go_ret
    exact ⟨rfl, hB⟩

end Go.Proofs.Yteagclnommaobab

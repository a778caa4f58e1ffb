/-
  The walk of the law CodeEven: it returns true at all arguments.
-/
import Derived.Test.YteagclnommaobaaPad
import Derived.Test.YteagclnommaobaaPlainD
namespace Go.Proofs.Yteagclnommaobaa
open Go.RowKit Plain
set_option linter.unusedVariables false

set_option maxHeartbeats 1000000 in
theorem codeEven_walk (s : ByteArray) (k : Int) (w : World) (hs : s.size ≤ maxLen) (wk : (Lit.int .i64 k).wf = true) :
    Calls Try.prog 8 #[.string s, .int .i64 k] w fun e w' => e = .returned (.bool true) ∧ Below w.heap.size w w' := by
  have hB : Below w.heap.size w w := Below.refl _ _
  have hs' := hs
  unfold maxLen at hs
  by_cases h : s.size ≤ 4096
  · have h' : ¬ (4096 : Int) < s.size := by omega
    obtain ⟨p1, p2⟩ := padS_trim s h
    have hts : Hid ((trimS s).size ≤ maxLen) := by
      have := trimN_le s s.size
      show (trimS s).size ≤ maxLen
      rw [trimS_size]; unfold maxLen; omega
    obtain ⟨q, hq⟩ : ∃ q : Nat, min (max k 0) (4096 - (s.size : Int)) = q := ⟨(min (max k 0) (4096 - (s.size : Int))).toNat, by omega⟩
    have hq2 : s.size + q ≤ 4096 := by omega
    have q0 := padS_more s q hq2
    have q1 : padS s ((s.size : Int) + (q : Int)) = s ++ zeros q := q0.1
    have q2 : padE s ((s.size : Int) + (q : Int)) = 0 := q0.2
    have q3 := trim_more s q
    have q4 := zeros_size q
    have hz2 : Hid ((s ++ zeros q).size ≤ maxLen) := by
      show (s ++ zeros q).size ≤ maxLen
      rw [ByteArray.size_append, zeros_size]; unfold maxLen; omega
    clear q0 wk
    have tok1 : True := trivial
    have tok2 : True := trivial
    rcases Nat.eq_zero_or_pos (trimS s).size with hn | hn
    · go_enter Try.func8, Try.ntmps8
      go_wp2_with (first
        | (go_at_call 16; have _t := tok2; refine (trim_any s _ hs').mono ?_; rintro e w' ⟨rfl, rfl⟩; clear tok2)
        | (go_at_call 16; refine (trim_any _ _ hz2.out).mono ?_; rintro e w' ⟨rfl, rfl⟩)
        | (go_at_call 14; have _t := tok1; refine (pad_any _ _ _ hts.out).mono ?_; rintro e w' ⟨rfl, hb⟩; replace hB := Below.tr hB hb; clear hb tok1)
        | (go_at_call 14; refine (pad_any s _ _ hs').mono ?_; rintro e w' ⟨rfl, hb⟩; replace hB := Below.tr hB hb; clear hb)
        | (go_at_call 11; refine (alive_any _).mono ?_; rintro e w' ⟨rfl, hb⟩; replace hB := Below.tr hB hb; clear hb))
      go_ret
      exact ⟨rfl, hB⟩
    · obtain ⟨m, hm1⟩ : ∃ m, (trimS s).size = m + 1 := ⟨(trimS s).size - 1, by omega⟩
      have hm : m < (trimS s).size := by omega
      have hl := trimS_last s m hm1 hm
      have hm2 : m ≤ 4096 := by have := trimN_le s s.size; rw [trimS_size] at hm1; omega
      clear hn
      go_enter Try.func8, Try.ntmps8
      go_wp2_with (first
        | (go_at_call 16; have _t := tok2; refine (trim_any s _ hs').mono ?_; rintro e w' ⟨rfl, rfl⟩; clear tok2)
        | (go_at_call 16; refine (trim_any _ _ hz2.out).mono ?_; rintro e w' ⟨rfl, rfl⟩)
        | (go_at_call 14; have _t := tok1; refine (pad_any _ _ _ hts.out).mono ?_; rintro e w' ⟨rfl, hb⟩; replace hB := Below.tr hB hb; clear hb tok1)
        | (go_at_call 14; refine (pad_any s _ _ hs').mono ?_; rintro e w' ⟨rfl, hb⟩; replace hB := Below.tr hB hb; clear hb)
        | (go_at_call 11; refine (alive_any _).mono ?_; rintro e w' ⟨rfl, hb⟩; replace hB := Below.tr hB hb; clear hb))
      go_ret
      exact ⟨rfl, hB⟩
  · have h' : (4096 : Int) < s.size := by omega
    clear h
    go_enter Try.func8, Try.ntmps8
    go_wp2_with (go_at_call 11; refine (alive_any _).mono ?_; rintro e w' ⟨rfl, hb⟩; replace hB := Below.tr hB hb; clear hb)
    go_ret
    exact ⟨rfl, hB⟩

end Go.Proofs.Yteagclnommaobaa

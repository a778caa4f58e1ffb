/-
  Package ring's Unpack.
-/
import Derived.Test.YtcdcnonkoffbhaaRingReadB
namespace Go.Proofs.Ytcdcnonkoffbhaa
open Go.RowKit Plain
set_option linter.unusedVariables false

set_option maxRecDepth 20000 in
set_option maxHeartbeats 1000000 in
theorem ringUnpack_any (s : ByteArray) (w : World) (hs : s.size ≤ maxLen) :
    Calls Try.prog 20 #[.string s] w fun x w' => ∃ a c, x = .returned (.tuple #[.slice a (unpL s).length c, .int .i64 (unpE s)]) ∧ IsC w' a c (unpL s) ∧ Below w.heap.size w w' := by
  have hsm : s.size ≤ 9223372036854775807 := hs
  have hB := Below.refl w.heap.size w
  have c1 := fun W => ringRead_any s W hs
  have hE : unpE s = if s.size ≤ 480 then (if (chF s).e = 0 then (if (chF s).p = s.size then (if (chF s).cs.all mayC then 0 else 4) else 4) else (chF s).e) else 2 := rfl
  have hL : unpL s = if unpE s = 0 then (chF s).cs else [] := rfl
  have hlen : (chF s).cs.length = chM s := chSt_len s _
  by_cases h4 : s.size ≤ 480
  · have h4' : (s.size : Int) ≤ 480 := by omega
    rw [if_pos h4] at hE
    have c2 : ∀ W a c, IsC W a c (chF s).cs → Calls Try.prog 33 #[.slice a (chM s) c] W fun e w' => e = .returned (.bool ((chF s).cs.all mayC)) ∧ Below W.heap.size W w' := fun W a c h => mayBe_any a c _ _ W hlen.symm h
    rw [hL]
    generalize unpE s = E at *
    generalize chM s = M at *
    generalize (chF s).p = p at *
    generalize (chF s).e = e at *
    generalize (chF s).cs = cs at *
    have HL : Hid (cs.length = M) := hlen
    clear hlen hL hs
    by_cases h0 : e = 0
    · subst h0
      rw [if_pos rfl] at hE
      by_cases h1 : p = s.size
      · subst h1
        rw [if_pos rfl] at hE
        cases hm : cs.all mayC with
        | true =>
          rw [hm, if_pos rfl] at hE
          rw [hm] at c2
          subst hE
          rw [if_pos rfl, HL.out]
          clear hm
          go_enter Try.func20, Try.ntmps20
          go_wp2_with (first
  | (go_at_call 37; refine (c1 _).mono ?_; rintro x w1 ⟨a, c, rfl, hI, hb⟩; replace hB := Below.tr hB hb; clear hb)
  | (go_at_call 33; refine (c2 _ _ _ hI).mono ?_; rintro x w2 ⟨rfl, hb⟩; replace hI := hI.below hb; replace hB := Below.tr hB hb; clear hb))
          go_ret2
          exact ⟨a, c, rfl, hI, hB⟩
        | false =>
          rw [hm, if_neg (by decide)] at hE
          rw [hm] at c2
          subst hE
          rw [if_neg (by decide)]
          clear hm
          go_enter Try.func20, Try.ntmps20
          go_wp2_with (first
  | (go_at_call 37; refine (c1 _).mono ?_; rintro x w1 ⟨a, c, rfl, hI, hb⟩; replace hB := Below.tr hB hb; clear hb)
  | (go_at_call 33; refine (c2 _ _ _ hI).mono ?_; rintro x w2 ⟨rfl, hb⟩; replace hB := Below.tr hB hb; clear hb))
          go_ret2
          refine ⟨none, 0, ?_, isC_nil _ _ _ (Nat.zero_le _), hB⟩
          rfl
      · rw [if_neg h1] at hE
        subst hE
        rw [if_neg (by decide)]
        have h1' : (p == (s.size : Int)) = false := by simpa using h1
        go_enter Try.func20, Try.ntmps20
        go_wp2_with (first
  | (go_at_call 37; refine (c1 _).mono ?_; rintro x w1 ⟨a, c, rfl, hI, hb⟩; replace hB := Below.tr hB hb; clear hb)
          )
        go_ret2
        refine ⟨none, 0, ?_, isC_nil _ _ _ (Nat.zero_le _), hB⟩
        rfl
    · rw [if_neg h0] at hE
      subst hE
      rw [if_neg h0]
      have h0' : (E == 0) = false := by simpa using h0
      go_enter Try.func20, Try.ntmps20
      go_wp2_with (first
  | (go_at_call 37; refine (c1 _).mono ?_; rintro x w1 ⟨a, c, rfl, hI, hb⟩; replace hB := Below.tr hB hb; clear hb)
        )
      go_ret2
      refine ⟨none, 0, ?_, isC_nil _ _ _ (Nat.zero_le _), hB⟩
      rfl
  · have h4' : ¬ (s.size : Int) ≤ 480 := by omega
    rw [if_neg h4] at hE
    rw [hL, hE, if_neg (by decide)]
    clear hE hL hlen c1
    go_enter Try.func20, Try.ntmps20
    go_wp2
    go_ret2
    refine ⟨none, 0, ?_, isC_nil _ _ _ (Nat.zero_le _), hB⟩
    rfl

end Go.Proofs.Ytcdcnonkoffbhaa

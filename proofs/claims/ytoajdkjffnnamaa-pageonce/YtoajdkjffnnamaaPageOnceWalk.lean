/-
  The walk through the statement PageOnce.
-/
import Derived.Test.YtoajdkjffnnamaaPageGet
namespace Go.Proofs.Ytoajdkjffnnamaa
open Go.RowKit Plain
set_option linter.unusedVariables false

theorem readB_max (s : ByteArray) : (readB s).size ≤ 4096 := by
  unfold readB
  by_cases h : readE s = 0
  · rw [if_pos h]
    have hs : s.size ≤ 4096 := by
      by_cases hs : s.size ≤ 4096
      · exact hs
      · rw [readE, if_neg hs] at h; omega
    unfold fB
    rw [ByteArray.size_extract, fullS_size hs]
    omega
  · rw [if_neg h]
    exact Nat.zero_le _

set_option maxHeartbeats 1000000 in
theorem pageOnce_walk (s : ByteArray) (w : World) (hs : s.size ≤ maxLen) :
    Calls Try.prog 6 #[.string s] w fun e w' => e = .returned (.bool true) ∧ Below w.heap.size w w' := by
  have c1 := fun W => pageGet_any s W hs
  have c2 : ∀ W, Calls Try.prog 12 #[.string ⟨#[]⟩] W fun e w' => ∃ k g b, e = .returned (.tuple #[.agg #[.int .i64 k, .int .i64 g, .string b], .int .i64 41]) ∧ Below W.heap.size W w' := by
    intro W
    refine (pageGet_any ⟨#[]⟩ W (by decide)).mono fun ee w' ⟨he, hb⟩ => ⟨readK ⟨#[]⟩, readG ⟨#[]⟩, readB ⟨#[]⟩, ?_, hb⟩
    rw [he, read_none]
  have c3 := alive_any
  have c4 := fun W => refTrim_any s W hs
  by_cases h : readE s = 0
  · obtain ⟨hR, hP⟩ := page_once h
    have hbs : (readB s).size ≤ maxLen := Nat.le_trans (readB_max s) (by unfold maxLen; omega)
    have c5 := fun W => pagePut_any (readK s) (readG s) (readB s) W hbs
    have c6 := fun W => right_any (readK s) (readG s) (readB s) W hbs
    rw [hR] at c6
    rw [hP, show pageE (readK s) (readG s) (readB s) = 0 by rw [pageE, if_pos hR]] at c5
    rw [h] at c1
    obtain ⟨K, hK⟩ : ∃ K, K = readK s := ⟨_, rfl⟩
    obtain ⟨G, hG⟩ : ∃ G, G = readG s := ⟨_, rfl⟩
    obtain ⟨B, hB⟩ : ∃ B, B = readB s := ⟨_, rfl⟩
    obtain ⟨T, hT⟩ : ∃ T, T = trimS s := ⟨_, rfl⟩
    rw [← hK, ← hG, ← hB] at c1 c5 c6
    rw [← hT] at c5 c4
    clear hK hG hB hT hR hP hbs h
    have tok1 : True := trivial
    have hB : Below w.heap.size w w := Below.refl _ _
    go_enter Try.func6, Try.ntmps6
    go_wp2_with (first
      | (go_at_call 12; have _t := tok1; refine (c1 _).mono ?_; rintro e w1 ⟨rfl, hb⟩; replace hB := Below.tr hB hb; have Q := box3_new w1 (.int .i64 K) (.int .i64 G) (.string B) 23; clear hb tok1)
      | (go_at_call 12; refine (c2 _).mono ?_; rintro e w2 ⟨k, g, b, rfl, hb⟩; replace Q := (Q.below hb).alloc (.cells #[.int .i64 k, .int .i64 g, .string b] 23); replace hB := hB.alloc hB.size (.cells #[.int .i64 K, .int .i64 G, .string B] 23); replace hB := Below.tr hB hb; replace hB := hB.alloc hB.size (.cells #[.int .i64 k, .int .i64 g, .string b] 23); obtain ⟨⟨q0, q1, q2⟩, f0, f1, f2⟩ := id Q; clear hb)
      | (go_at_call 7; refine (c5 _).mono ?_; rintro e w3 ⟨rfl, hb⟩; replace Q := Q.below hb; obtain ⟨⟨q0, q1, q2⟩, f0, f1, f2⟩ := id Q; replace hB := Below.tr hB hb; clear hb)
      | (go_at_call 9; refine (c3 _).mono ?_; rintro e w4 ⟨rfl, hb⟩; replace Q := Q.below hb; obtain ⟨⟨q0, q1, q2⟩, f0, f1, f2⟩ := id Q; replace hB := Below.tr hB hb; clear hb)
      | (go_at_call 15; refine (c4 _).mono ?_; rintro e w5 ⟨rfl, rfl⟩)
      | (go_at_call 10; refine (c6 _).mono ?_; rintro e w6 ⟨rfl, hb⟩; replace hB := Below.tr hB hb; clear hb))
    go_ret
    exact ⟨ret_bool (by simp), hB⟩
  · have e1 : readK s = 0 := by rw [readK, if_neg h]
    have e2 : readG s = 0 := by rw [readG, if_neg h]
    have e3 : readB s = ⟨#[]⟩ := by rw [readB, if_neg h]
    rw [e1, e2, e3] at c1
    obtain ⟨E, hE⟩ : ∃ E, E = readE s := ⟨_, rfl⟩
    rw [← hE] at c1 h
    clear hE e1 e2 e3
    have h' : (E == 0) = false := by simpa using h
    have tok1 : True := trivial
    have hB : Below w.heap.size w w := Below.refl _ _
    go_enter Try.func6, Try.ntmps6
    go_wp2_with (first
      | (go_at_call 12; have _t := tok1; refine (c1 _).mono ?_; rintro e w1 ⟨rfl, hb⟩; replace hB := Below.tr hB hb; have Q := box3_new w1 (.int .i64 0) (.int .i64 0) (.string ⟨#[]⟩) 23; clear hb tok1)
      | (go_at_call 12; refine (c2 _).mono ?_; rintro e w2 ⟨k, g, b, rfl, hb⟩; replace Q := (Q.below hb).alloc (.cells #[.int .i64 k, .int .i64 g, .string b] 23); replace hB := hB.alloc hB.size (.cells #[.int .i64 0, .int .i64 0, .string ⟨#[]⟩] 23); replace hB := Below.tr hB hb; replace hB := hB.alloc hB.size (.cells #[.int .i64 k, .int .i64 g, .string b] 23); obtain ⟨⟨q0, q1, q2⟩, f0, f1, f2⟩ := id Q; clear hb)
      | (go_at_call 9; refine (c3 _).mono ?_; rintro e w4 ⟨rfl, hb⟩; replace Q := Q.below hb; obtain ⟨⟨q0, q1, q2⟩, f0, f1, f2⟩ := id Q; replace hB := Below.tr hB hb; clear hb))
    go_ret
    exact ⟨ret_bool (by simp), hB⟩

end Go.Proofs.Ytoajdkjffnnamaa

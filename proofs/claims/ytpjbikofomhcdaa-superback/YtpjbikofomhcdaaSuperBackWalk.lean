/-
  The walk through the statement SuperBack.
-/
import Derived.Test.YtpjbikofomhcdaaSuperChoose
namespace Go.Proofs.Ytpjbikofomhcdaa
open Go.RowKit Plain
set_option linter.unusedVariables false


set_option maxHeartbeats 2000000 in
theorem superBack_walk (g r m z : Int) (s : ByteArray) (w : World) (wg : (Lit.int .i64 g).wf = true) (wr : (Lit.int .i64 r).wf = true) (wm : (Lit.int .i64 m).wf = true) (wz : (Lit.int .i64 z).wf = true) (hs : s.size ≤ maxLen) :
    Calls Try.prog 5 #[.agg #[.int .i64 g, .int .i64 r, .int .i64 m, .int .i64 z], .string s] w fun e w' => e = .returned (.bool true) ∧ Below w.heap.size w w' := by
  have c1 := fun W => suPut_any g r m z W
  have c3 := alive12_any
  have c4 := fun W => suGet_any s W hs
  clear wg wr wm wz
  have tk1 : True := trivial
  cases h : rightSu g r m z with
  | true =>
    have tk2 : True := trivial
    obtain ⟨b1, b2, b3, b4, b5⟩ := su_back h
    have hz := su_size g r m z
    have c2 := fun W => suGet_any (suS g r m z) W (by unfold maxLen; omega)
    rw [b1, b2, b3, b4, b5] at c2
    rw [show suP g r m z = 0 by rw [suP, if_pos h]] at c1
    obtain ⟨q, hq⟩ : ∃ q, q = suS g r m z := ⟨_, rfl⟩
    rw [← hq] at c1 c2 hz
    have hz' : ¬ (512 : Int) < q.size := by omega
    have hz'' : q.size ≤ 9223372036854775807 := by omega
    clear hq h b1 b2 b3 b4 b5 hz
    by_cases h0 : suE s = 0
    · obtain ⟨o1, o2⟩ := su_once h0
      obtain ⟨y1, y2⟩ := trim_front s
      have c5 := fun W => suPut_any (suG s) (suR s) (suM s) (suZ s) W
      have c6 := fun W => suRight_any (suG s) (suR s) (suM s) (suZ s) W
      rw [o1] at c6
      rw [o2, show suP (suG s) (suR s) (suM s) (suZ s) = 0 by rw [suP, if_pos o1]] at c5
      rw [h0] at c4
      obtain ⟨G, hG⟩ : ∃ x, x = suG s := ⟨_, rfl⟩
      obtain ⟨R, hR⟩ : ∃ x, x = suR s := ⟨_, rfl⟩
      obtain ⟨M, hM⟩ : ∃ x, x = suM s := ⟨_, rfl⟩
      obtain ⟨Z, hZ⟩ : ∃ x, x = suZ s := ⟨_, rfl⟩
      obtain ⟨B, hBB⟩ : ∃ x, x = trimS s := ⟨_, rfl⟩
      rw [← hG, ← hR, ← hM, ← hZ] at c4 c5 c6
      rw [← hBB] at c5 y1 y2
      unfold maxLen at hs
      have y3 : (B.toList == (s.extract 0 B.size).toList) = true := str_eq_true y2
      have y4 : (B.size : Int) ≤ s.size := by omega
      have y5 : B.size ≤ 9223372036854775807 := by omega
      clear hG hR hM hZ hBB h0 o1 o2 y2
      go_enter Try.func5, Try.ntmps5
      go_wp2_with (first
      | (go_at_call 7; have _t := tk1; refine (c1 _).mono ?_; rintro e w1 ⟨rfl, hb⟩; have Q := box4_cells hb; obtain ⟨⟨q0, q1, q2, q3⟩, -⟩ := id Q; have hB := below_box hb; clear hb tk1)
      | (go_at_call 12; have _t := tk2; refine (c2 _).mono ?_; rintro e w2 ⟨rfl, hb⟩; replace Q := (Q.below hb).alloc (.cells #[.int .i64 g, .int .i64 r, .int .i64 m, .int .i64 z] 23); have T := box4_new w2 (.int .i64 g) (.int .i64 r) (.int .i64 m) (.int .i64 z) 23 rfl; obtain ⟨⟨q0, q1, q2, q3⟩, -⟩ := id Q; obtain ⟨⟨t0, t1, t2, t3⟩, -⟩ := id T; replace hB := Below.tr hB hb; replace hB := hB.alloc hB.size (.cells #[.int .i64 g, .int .i64 r, .int .i64 m, .int .i64 z] 23); clear hb tk2)
      | (go_at_call 12; refine (c4 _).mono ?_; rintro e w4 ⟨rfl, hb⟩; have X := box4_new w4 (.int .i64 G) (.int .i64 R) (.int .i64 M) (.int .i64 Z) 23 rfl; obtain ⟨⟨x0, x1, x2, x3⟩, -⟩ := id X; replace hB := Below.tr hB hb; replace hB := hB.alloc hB.size (.cells #[.int .i64 G, .int .i64 R, .int .i64 M, .int .i64 Z] 23); clear hb)
      | (go_at_call 9; refine (c3 _).mono ?_; rintro e w3 ⟨rfl, hb⟩; replace X := X.below hb; obtain ⟨⟨x0, x1, x2, x3⟩, -⟩ := id X; replace hB := Below.tr hB hb; clear hb)
      | (go_at_call 7; refine (c5 _).mono ?_; rintro e w5 ⟨rfl, hb⟩; replace X := X.below hb; obtain ⟨⟨x0, x1, x2, x3⟩, -⟩ := id X; replace hB := Below.tr hB hb; clear hb)
      | (go_at_call 10; refine (c6 _).mono ?_; rintro e w6 ⟨rfl, hb⟩; replace hB := Below.tr hB hb; clear hb)
        )
      go_ret
      exact ⟨ret_bool (by simp), hB⟩
    · have e1 : suG s = 0 := by rw [suG, if_neg h0]
      have e2 : suR s = 0 := by rw [suR, if_neg h0]
      have e3 : suM s = 0 := by rw [suM, if_neg h0]
      have e4 : suZ s = 0 := by rw [suZ, if_neg h0]
      rw [e1, e2, e3, e4] at c4
      obtain ⟨E, hE⟩ : ∃ x, x = suE s := ⟨_, rfl⟩
      rw [← hE] at c4 h0
      have h0' : (E == 0) = false := by simpa using h0
      clear hE e1 e2 e3 e4
      go_enter Try.func5, Try.ntmps5
      go_wp2_with (first
      | (go_at_call 7; have _t := tk1; refine (c1 _).mono ?_; rintro e w1 ⟨rfl, hb⟩; have Q := box4_cells hb; obtain ⟨⟨q0, q1, q2, q3⟩, -⟩ := id Q; have hB := below_box hb; clear hb tk1)
      | (go_at_call 12; have _t := tk2; refine (c2 _).mono ?_; rintro e w2 ⟨rfl, hb⟩; replace Q := (Q.below hb).alloc (.cells #[.int .i64 g, .int .i64 r, .int .i64 m, .int .i64 z] 23); have T := box4_new w2 (.int .i64 g) (.int .i64 r) (.int .i64 m) (.int .i64 z) 23 rfl; obtain ⟨⟨q0, q1, q2, q3⟩, -⟩ := id Q; obtain ⟨⟨t0, t1, t2, t3⟩, -⟩ := id T; replace hB := Below.tr hB hb; replace hB := hB.alloc hB.size (.cells #[.int .i64 g, .int .i64 r, .int .i64 m, .int .i64 z] 23); clear hb tk2)
      | (go_at_call 12; refine (c4 _).mono ?_; rintro e w4 ⟨rfl, hb⟩; have X := box4_new w4 (.int .i64 0) (.int .i64 0) (.int .i64 0) (.int .i64 0) 23 rfl; obtain ⟨⟨x0, x1, x2, x3⟩, -⟩ := id X; replace hB := Below.tr hB hb; replace hB := hB.alloc hB.size (.cells #[.int .i64 0, .int .i64 0, .int .i64 0, .int .i64 0] 23); clear hb)
      | (go_at_call 9; refine (c3 _).mono ?_; rintro e w3 ⟨rfl, hb⟩; replace X := X.below hb; obtain ⟨⟨x0, x1, x2, x3⟩, -⟩ := id X; replace hB := Below.tr hB hb; clear hb)
        )
      go_ret
      exact ⟨ret_bool (by simp), hB⟩
  | false =>
    have hn : ¬ rightSu g r m z = true := by rw [h]; decide
    rw [show suP g r m z = 1 by rw [suP, if_neg hn], show suS g r m z = ⟨#[]⟩ by rw [suS, if_neg hn]] at c1
    clear h hn
    by_cases h0 : suE s = 0
    · obtain ⟨o1, o2⟩ := su_once h0
      obtain ⟨y1, y2⟩ := trim_front s
      have c5 := fun W => suPut_any (suG s) (suR s) (suM s) (suZ s) W
      have c6 := fun W => suRight_any (suG s) (suR s) (suM s) (suZ s) W
      rw [o1] at c6
      rw [o2, show suP (suG s) (suR s) (suM s) (suZ s) = 0 by rw [suP, if_pos o1]] at c5
      rw [h0] at c4
      obtain ⟨G, hG⟩ : ∃ x, x = suG s := ⟨_, rfl⟩
      obtain ⟨R, hR⟩ : ∃ x, x = suR s := ⟨_, rfl⟩
      obtain ⟨M, hM⟩ : ∃ x, x = suM s := ⟨_, rfl⟩
      obtain ⟨Z, hZ⟩ : ∃ x, x = suZ s := ⟨_, rfl⟩
      obtain ⟨B, hBB⟩ : ∃ x, x = trimS s := ⟨_, rfl⟩
      rw [← hG, ← hR, ← hM, ← hZ] at c4 c5 c6
      rw [← hBB] at c5 y1 y2
      unfold maxLen at hs
      have y3 : (B.toList == (s.extract 0 B.size).toList) = true := str_eq_true y2
      have y4 : (B.size : Int) ≤ s.size := by omega
      have y5 : B.size ≤ 9223372036854775807 := by omega
      clear hG hR hM hZ hBB h0 o1 o2 y2
      go_enter Try.func5, Try.ntmps5
      go_wp2_with (first
      | (go_at_call 7; have _t := tk1; refine (c1 _).mono ?_; rintro e w1 ⟨rfl, hb⟩; have Q := box4_cells hb; obtain ⟨⟨q0, q1, q2, q3⟩, -⟩ := id Q; have hB := below_box hb; clear hb tk1)
      | (go_at_call 12; have _t := tk2; refine (c2 _).mono ?_; rintro e w2 ⟨rfl, hb⟩; replace Q := (Q.below hb).alloc (.cells #[.int .i64 g, .int .i64 r, .int .i64 m, .int .i64 z] 23); have T := box4_new w2 (.int .i64 g) (.int .i64 r) (.int .i64 m) (.int .i64 z) 23 rfl; obtain ⟨⟨q0, q1, q2, q3⟩, -⟩ := id Q; obtain ⟨⟨t0, t1, t2, t3⟩, -⟩ := id T; replace hB := Below.tr hB hb; replace hB := hB.alloc hB.size (.cells #[.int .i64 g, .int .i64 r, .int .i64 m, .int .i64 z] 23); clear hb tk2)
      | (go_at_call 12; refine (c4 _).mono ?_; rintro e w4 ⟨rfl, hb⟩; have X := box4_new w4 (.int .i64 G) (.int .i64 R) (.int .i64 M) (.int .i64 Z) 23 rfl; obtain ⟨⟨x0, x1, x2, x3⟩, -⟩ := id X; replace hB := Below.tr hB hb; replace hB := hB.alloc hB.size (.cells #[.int .i64 G, .int .i64 R, .int .i64 M, .int .i64 Z] 23); clear hb)
      | (go_at_call 9; refine (c3 _).mono ?_; rintro e w3 ⟨rfl, hb⟩; replace X := X.below hb; obtain ⟨⟨x0, x1, x2, x3⟩, -⟩ := id X; replace hB := Below.tr hB hb; clear hb)
      | (go_at_call 7; refine (c5 _).mono ?_; rintro e w5 ⟨rfl, hb⟩; replace X := X.below hb; obtain ⟨⟨x0, x1, x2, x3⟩, -⟩ := id X; replace hB := Below.tr hB hb; clear hb)
      | (go_at_call 10; refine (c6 _).mono ?_; rintro e w6 ⟨rfl, hb⟩; replace hB := Below.tr hB hb; clear hb)
        )
      go_ret
      exact ⟨ret_bool (by simp), hB⟩
    · have e1 : suG s = 0 := by rw [suG, if_neg h0]
      have e2 : suR s = 0 := by rw [suR, if_neg h0]
      have e3 : suM s = 0 := by rw [suM, if_neg h0]
      have e4 : suZ s = 0 := by rw [suZ, if_neg h0]
      rw [e1, e2, e3, e4] at c4
      obtain ⟨E, hE⟩ : ∃ x, x = suE s := ⟨_, rfl⟩
      rw [← hE] at c4 h0
      have h0' : (E == 0) = false := by simpa using h0
      clear hE e1 e2 e3 e4
      go_enter Try.func5, Try.ntmps5
      go_wp2_with (first
      | (go_at_call 7; have _t := tk1; refine (c1 _).mono ?_; rintro e w1 ⟨rfl, hb⟩; have Q := box4_cells hb; obtain ⟨⟨q0, q1, q2, q3⟩, -⟩ := id Q; have hB := below_box hb; clear hb tk1)
      | (go_at_call 12; have _t := tk2; refine (c2 _).mono ?_; rintro e w2 ⟨rfl, hb⟩; replace Q := (Q.below hb).alloc (.cells #[.int .i64 g, .int .i64 r, .int .i64 m, .int .i64 z] 23); have T := box4_new w2 (.int .i64 g) (.int .i64 r) (.int .i64 m) (.int .i64 z) 23 rfl; obtain ⟨⟨q0, q1, q2, q3⟩, -⟩ := id Q; obtain ⟨⟨t0, t1, t2, t3⟩, -⟩ := id T; replace hB := Below.tr hB hb; replace hB := hB.alloc hB.size (.cells #[.int .i64 g, .int .i64 r, .int .i64 m, .int .i64 z] 23); clear hb tk2)
      | (go_at_call 12; refine (c4 _).mono ?_; rintro e w4 ⟨rfl, hb⟩; have X := box4_new w4 (.int .i64 0) (.int .i64 0) (.int .i64 0) (.int .i64 0) 23 rfl; obtain ⟨⟨x0, x1, x2, x3⟩, -⟩ := id X; replace hB := Below.tr hB hb; replace hB := hB.alloc hB.size (.cells #[.int .i64 0, .int .i64 0, .int .i64 0, .int .i64 0] 23); clear hb)
      | (go_at_call 9; refine (c3 _).mono ?_; rintro e w3 ⟨rfl, hb⟩; replace X := X.below hb; obtain ⟨⟨x0, x1, x2, x3⟩, -⟩ := id X; replace hB := Below.tr hB hb; clear hb)
        )
      go_ret
      exact ⟨ret_bool (by simp), hB⟩

end Go.Proofs.Ytpjbikofomhcdaa

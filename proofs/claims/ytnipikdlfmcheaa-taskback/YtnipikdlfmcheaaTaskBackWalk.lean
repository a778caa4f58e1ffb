/-
  The walk of the law TaskBack: it returns true at all arguments.
-/
import Derived.Test.YtnipikdlfmcheaaTaskOpen
import Derived.Test.YtnipikdlfmcheaaTaskPut
import Derived.Test.YtnipikdlfmcheaaTaskGet
namespace Go.Proofs.Ytnipikdlfmcheaa
open Go.RowKit Plain
set_option linter.unusedVariables false

theorem put_back {s : StP} (h : standT s = true) : putT s = bytesT s ∧ putET s = 0 := ⟨by unfold putT; rw [h]; rfl, by unfold putET; rw [h]; rfl⟩
theorem put_none {s : StP} (h : standT s = false) : putT s = ⟨#[]⟩ ∧ putET s = 1 := ⟨by unfold putT; rw [h]; rfl, by unfold putET; rw [h]; rfl⟩


set_option maxRecDepth 20000 in
set_option maxHeartbeats 4000000 in
theorem taskBack_walk (i t d k : Int) (r : ByteArray) (x : ByteArray) (w : World) (w4 : (Lit.int .i64 i).wf = true) (w5 : (Lit.int .i64 t).wf = true) (w6 : (Lit.int .i64 d).wf = true) (w7 : (Lit.int .i64 k).wf = true) (hr : r.size ≤ maxLen) (hx : x.size ≤ maxLen) :
    Calls Try.prog 7 #[.agg #[.int .i64 i, .int .i64 t, .int .i64 d, .int .i64 k, .string r], .string x] w fun e w' => e = .returned (.bool true) ∧ Below w.heap.size w w' := by
  clear w4 w5 w6 w7
  have c1 := fun W => putT_any i t d k r W hr
  have c3 := fun W => getT_any x W hx
  have t1 := trivial
  cases hS : standT ⟨i, t, d, k, r⟩ with
  | true =>
    have t2 := trivial
    rw [(put_back hS).1, (put_back hS).2] at c1
    obtain ⟨g1, g2, g3⟩ := got_back hS
    have c2 := fun W => getT_any (bytesT ⟨i, t, d, k, r⟩) W (by unfold maxLen; omega)
    rw [g1, g2] at c2
    generalize bytesT ⟨i, t, d, k, r⟩ = B at *
    have g3' : ¬ (40 : Int) < B.size := by omega
    have g3'' : B.size ≤ 9223372036854775807 := by omega
    simp only [vT] at c2
    clear hS g1 g2 g3 hr
    by_cases h0 : gotE x = 0
    · obtain ⟨o1, o2⟩ := got_once h0
      rw [h0] at c3
      obtain ⟨pi, pt, pd, pk, pr, hp⟩ : ∃ a b c d e, gotT x = ⟨a, b, c, d, e⟩ := ⟨_, _, _, _, _, rfl⟩
      have hz : pr.size ≤ maxLen := by
        have := ((standT_iff _).1 o1).2.2.2.2.2.1
        rw [hp] at this
        have : pr.size ≤ 16 := this
        unfold maxLen; omega
      rw [hp] at c3 o1 o2
      have c5 := fun W => putT_any pi pt pd pk pr W hz
      rw [(put_back o1).1, (put_back o1).2, o2] at c5
      simp only [vT] at c3
      clear o1 o2 hp h0 hz hx
      go_enter Try.func7, Try.ntmps7
      go_wp2_with (first
        | (go_at_call 26; have _t := t1; refine (c1 _).mono ?_; clear t1 _t; rintro e v0 ⟨rfl, hb⟩; obtain ⟨bs, hB⟩ := boxes1 w [.int .i64 i, .int .i64 t, .int .i64 d, .int .i64 k, .string r] _ hb; clear hb)
        | (go_at_call 27; have _t := t2; refine (c2 _).mono ?_; clear t2 _t; rintro e v1 ⟨rfl, hb⟩; replace bs := (bs.below hb).alloc (.cells #[.int .i64 i, .int .i64 t, .int .i64 d, .int .i64 k, .string r] 26); replace hB := Below.tr hB hb; replace hB := hB.alloc hB.size (.cells #[.int .i64 i, .int .i64 t, .int .i64 d, .int .i64 k, .string r] 26); have b1 := boxL_new v1 [.int .i64 i, .int .i64 t, .int .i64 d, .int .i64 k, .string r] 26 rfl; have s0 := bs.1 0 _ rfl; have s1 := bs.1 1 _ rfl; have s2 := bs.1 2 _ rfl; have s3 := bs.1 3 _ rfl; have s4 := bs.1 4 _ rfl; have y0 := b1.1 0 _ rfl; have y1 := b1.1 1 _ rfl; have y2 := b1.1 2 _ rfl; have y3 := b1.1 3 _ rfl; have y4 := b1.1 4 _ rfl; clear hb b1)
        | (go_at_call 27; refine (c3 _).mono ?_; rintro e v2 ⟨rfl, hb⟩; replace hB := Below.tr hB hb; replace hB := hB.alloc hB.size (.cells #[.int .i64 pi, .int .i64 pt, .int .i64 pd, .int .i64 pk, .string pr] 26); have b2 := boxL_new v2 [.int .i64 pi, .int .i64 pt, .int .i64 pd, .int .i64 pk, .string pr] 26 rfl; have z0 := b2.1 0 _ rfl; have z1 := b2.1 1 _ rfl; have z2 := b2.1 2 _ rfl; have z3 := b2.1 3 _ rfl; have z4 := b2.1 4 _ rfl; clear hb bs)
        | (go_at_call 9; refine (alive18_any _).mono ?_; rintro e v3 ⟨rfl, hb⟩; clear z0 z1 z2 z3 z4; replace b2 := b2.below hb; replace hB := Below.tr hB hb; have z0 := b2.1 0 _ rfl; have z1 := b2.1 1 _ rfl; have z2 := b2.1 2 _ rfl; have z3 := b2.1 3 _ rfl; have z4 := b2.1 4 _ rfl; clear hb)
        | (go_at_call 26; refine (c5 _).mono ?_; rintro e v4 ⟨rfl, hb⟩; clear z0 z1 z2 z3 z4; replace b2 := b2.below hb; replace hB := Below.tr hB hb; have z0 := b2.1 0 _ rfl; have z1 := b2.1 1 _ rfl; have z2 := b2.1 2 _ rfl; have z3 := b2.1 3 _ rfl; have z4 := b2.1 4 _ rfl; clear hb)
        )
      go_ret
      exact ⟨ret_bool (by simp), hB⟩
    · have e2 : gotT x = zeroT := by rw [gotT, if_neg h0]
      rw [e2] at c3
      have h0' : (gotE x != 0) = true := by simpa using h0
      generalize gotE x = E at *
      replace c3 : ∀ W, Calls Try.prog 27 #[.string x] W fun e w' => e = .returned (.tuple #[.agg #[.int .i64 0, .int .i64 0, .int .i64 0, .int .i64 0, .string ⟨#[]⟩], .int .i64 E]) ∧ Below W.heap.size W w' := c3
      clear e2 h0 hx
      go_enter Try.func7, Try.ntmps7
      go_wp2_with (first
        | (go_at_call 26; have _t := t1; refine (c1 _).mono ?_; clear t1 _t; rintro e v0 ⟨rfl, hb⟩; obtain ⟨bs, hB⟩ := boxes1 w [.int .i64 i, .int .i64 t, .int .i64 d, .int .i64 k, .string r] _ hb; clear hb)
        | (go_at_call 27; have _t := t2; refine (c2 _).mono ?_; clear t2 _t; rintro e v1 ⟨rfl, hb⟩; replace bs := (bs.below hb).alloc (.cells #[.int .i64 i, .int .i64 t, .int .i64 d, .int .i64 k, .string r] 26); replace hB := Below.tr hB hb; replace hB := hB.alloc hB.size (.cells #[.int .i64 i, .int .i64 t, .int .i64 d, .int .i64 k, .string r] 26); have b1 := boxL_new v1 [.int .i64 i, .int .i64 t, .int .i64 d, .int .i64 k, .string r] 26 rfl; have s0 := bs.1 0 _ rfl; have s1 := bs.1 1 _ rfl; have s2 := bs.1 2 _ rfl; have s3 := bs.1 3 _ rfl; have s4 := bs.1 4 _ rfl; have y0 := b1.1 0 _ rfl; have y1 := b1.1 1 _ rfl; have y2 := b1.1 2 _ rfl; have y3 := b1.1 3 _ rfl; have y4 := b1.1 4 _ rfl; clear hb b1)
        | (go_at_call 27; refine (c3 _).mono ?_; rintro e v2 ⟨rfl, hb⟩; replace hB := Below.tr hB hb; replace hB := hB.alloc hB.size (.cells #[.int .i64 0, .int .i64 0, .int .i64 0, .int .i64 0, .string ⟨#[]⟩] 26); have b2 := boxL_new v2 [.int .i64 0, .int .i64 0, .int .i64 0, .int .i64 0, .string ⟨#[]⟩] 26 rfl; have z0 := b2.1 0 _ rfl; have z1 := b2.1 1 _ rfl; have z2 := b2.1 2 _ rfl; have z3 := b2.1 3 _ rfl; have z4 := b2.1 4 _ rfl; clear hb bs)
        | (go_at_call 9; refine (alive18_any _).mono ?_; rintro e v3 ⟨rfl, hb⟩; clear z0 z1 z2 z3 z4; replace b2 := b2.below hb; replace hB := Below.tr hB hb; have z0 := b2.1 0 _ rfl; have z1 := b2.1 1 _ rfl; have z2 := b2.1 2 _ rfl; have z3 := b2.1 3 _ rfl; have z4 := b2.1 4 _ rfl; clear hb)
        )
      go_ret
      exact ⟨ret_bool (by simp), hB⟩
  | false =>
    rw [(put_none hS).1, (put_none hS).2] at c1
    clear hS hr
    by_cases h0 : gotE x = 0
    · obtain ⟨o1, o2⟩ := got_once h0
      rw [h0] at c3
      obtain ⟨pi, pt, pd, pk, pr, hp⟩ : ∃ a b c d e, gotT x = ⟨a, b, c, d, e⟩ := ⟨_, _, _, _, _, rfl⟩
      have hz : pr.size ≤ maxLen := by
        have := ((standT_iff _).1 o1).2.2.2.2.2.1
        rw [hp] at this
        have : pr.size ≤ 16 := this
        unfold maxLen; omega
      rw [hp] at c3 o1 o2
      have c5 := fun W => putT_any pi pt pd pk pr W hz
      rw [(put_back o1).1, (put_back o1).2, o2] at c5
      simp only [vT] at c3
      clear o1 o2 hp h0 hz hx
      go_enter Try.func7, Try.ntmps7
      go_wp2_with (first
        | (go_at_call 26; have _t := t1; refine (c1 _).mono ?_; clear t1 _t; rintro e v0 ⟨rfl, hb⟩; obtain ⟨bs, hB⟩ := boxes1 w [.int .i64 i, .int .i64 t, .int .i64 d, .int .i64 k, .string r] _ hb; clear hb)
        | (go_at_call 27; refine (c3 _).mono ?_; rintro e v2 ⟨rfl, hb⟩; replace hB := Below.tr hB hb; replace hB := hB.alloc hB.size (.cells #[.int .i64 pi, .int .i64 pt, .int .i64 pd, .int .i64 pk, .string pr] 26); have b2 := boxL_new v2 [.int .i64 pi, .int .i64 pt, .int .i64 pd, .int .i64 pk, .string pr] 26 rfl; have z0 := b2.1 0 _ rfl; have z1 := b2.1 1 _ rfl; have z2 := b2.1 2 _ rfl; have z3 := b2.1 3 _ rfl; have z4 := b2.1 4 _ rfl; clear hb bs)
        | (go_at_call 9; refine (alive18_any _).mono ?_; rintro e v3 ⟨rfl, hb⟩; clear z0 z1 z2 z3 z4; replace b2 := b2.below hb; replace hB := Below.tr hB hb; have z0 := b2.1 0 _ rfl; have z1 := b2.1 1 _ rfl; have z2 := b2.1 2 _ rfl; have z3 := b2.1 3 _ rfl; have z4 := b2.1 4 _ rfl; clear hb)
        | (go_at_call 26; refine (c5 _).mono ?_; rintro e v4 ⟨rfl, hb⟩; clear z0 z1 z2 z3 z4; replace b2 := b2.below hb; replace hB := Below.tr hB hb; have z0 := b2.1 0 _ rfl; have z1 := b2.1 1 _ rfl; have z2 := b2.1 2 _ rfl; have z3 := b2.1 3 _ rfl; have z4 := b2.1 4 _ rfl; clear hb)
        )
      go_ret
      exact ⟨ret_bool (by simp), hB⟩
    · have e2 : gotT x = zeroT := by rw [gotT, if_neg h0]
      rw [e2] at c3
      have h0' : (gotE x != 0) = true := by simpa using h0
      generalize gotE x = E at *
      replace c3 : ∀ W, Calls Try.prog 27 #[.string x] W fun e w' => e = .returned (.tuple #[.agg #[.int .i64 0, .int .i64 0, .int .i64 0, .int .i64 0, .string ⟨#[]⟩], .int .i64 E]) ∧ Below W.heap.size W w' := c3
      clear e2 h0 hx
      go_enter Try.func7, Try.ntmps7
      go_wp2_with (first
        | (go_at_call 26; have _t := t1; refine (c1 _).mono ?_; clear t1 _t; rintro e v0 ⟨rfl, hb⟩; obtain ⟨bs, hB⟩ := boxes1 w [.int .i64 i, .int .i64 t, .int .i64 d, .int .i64 k, .string r] _ hb; clear hb)
        | (go_at_call 27; refine (c3 _).mono ?_; rintro e v2 ⟨rfl, hb⟩; replace hB := Below.tr hB hb; replace hB := hB.alloc hB.size (.cells #[.int .i64 0, .int .i64 0, .int .i64 0, .int .i64 0, .string ⟨#[]⟩] 26); have b2 := boxL_new v2 [.int .i64 0, .int .i64 0, .int .i64 0, .int .i64 0, .string ⟨#[]⟩] 26 rfl; have z0 := b2.1 0 _ rfl; have z1 := b2.1 1 _ rfl; have z2 := b2.1 2 _ rfl; have z3 := b2.1 3 _ rfl; have z4 := b2.1 4 _ rfl; clear hb bs)
        | (go_at_call 9; refine (alive18_any _).mono ?_; rintro e v3 ⟨rfl, hb⟩; clear z0 z1 z2 z3 z4; replace b2 := b2.below hb; replace hB := Below.tr hB hb; have z0 := b2.1 0 _ rfl; have z1 := b2.1 1 _ rfl; have z2 := b2.1 2 _ rfl; have z3 := b2.1 3 _ rfl; have z4 := b2.1 4 _ rfl; clear hb)
        )
      go_ret
      exact ⟨ret_bool (by simp), hB⟩

end Go.Proofs.Ytnipikdlfmcheaa

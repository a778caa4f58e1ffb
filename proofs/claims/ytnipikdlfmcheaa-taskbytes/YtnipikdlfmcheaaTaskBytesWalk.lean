/-
  The walk of the law TaskBytes: it returns true at all arguments.
-/
import Derived.Test.YtnipikdlfmcheaaTaskOpen
import Derived.Test.YtnipikdlfmcheaaTaskPut
import Derived.Test.YtnipikdlfmcheaaTaskRefGet
namespace Go.Proofs.Ytnipikdlfmcheaa
open Go.RowKit Plain
set_option linter.unusedVariables false


set_option maxRecDepth 20000 in
set_option maxHeartbeats 4000000 in
theorem taskBytes_walk (i t d k : Int) (r : ByteArray) (x : ByteArray) (w : World) (w4 : (Lit.int .i64 i).wf = true) (w5 : (Lit.int .i64 t).wf = true) (w6 : (Lit.int .i64 d).wf = true) (w7 : (Lit.int .i64 k).wf = true) (hr : r.size ≤ maxLen) (hx : x.size ≤ maxLen) :
    Calls Try.prog 6 #[.agg #[.int .i64 i, .int .i64 t, .int .i64 d, .int .i64 k, .string r], .string x] w fun e w' => e = .returned (.bool true) ∧ Below w.heap.size w w' := by
  clear w4 w5 w6 w7
  have c1 := fun W => putT_any i t d k r W hr
  have c2 := fun W => getT_any x W hx
  have c3 := fun W => refGetT_any x W hx
  have c4 := fun W => refStands_any i t d k r W hr
  have c5 := fun W => refPutT_any i t d k r W hr
  generalize gotE x = E at *
  generalize gotT x = p at *
  obtain ⟨pi, pt, pd, pk, pr⟩ := p
  simp only [vT] at c2 c3
  clear hr hx
  cases hS : standT ⟨i, t, d, k, r⟩ with
  | true =>
    rw [hS] at c4
    rw [show putT ⟨i, t, d, k, r⟩ = bytesT ⟨i, t, d, k, r⟩ by unfold putT; rw [hS]; rfl, show putET ⟨i, t, d, k, r⟩ = 0 by unfold putET; rw [hS]; rfl] at c1
    generalize bytesT ⟨i, t, d, k, r⟩ = B at *
    clear hS
    go_enter Try.func6, Try.ntmps6
    go_wp2_with (first
      | (go_at_call 26; refine (c1 _).mono ?_; rintro e v0 ⟨rfl, hb⟩; obtain ⟨bs, hB⟩ := boxes1 w [.int .i64 i, .int .i64 t, .int .i64 d, .int .i64 k, .string r] _ hb; clear hb)
      | (go_at_call 27; refine (c2 _).mono ?_; rintro e v1 ⟨rfl, hb⟩; replace bs := (bs.below hb).alloc (.cells #[.int .i64 pi, .int .i64 pt, .int .i64 pd, .int .i64 pk, .string pr] 26); replace hB := Below.tr hB hb; replace hB := hB.alloc hB.size (.cells #[.int .i64 pi, .int .i64 pt, .int .i64 pd, .int .i64 pk, .string pr] 26); have b1 := boxL_new v1 [.int .i64 pi, .int .i64 pt, .int .i64 pd, .int .i64 pk, .string pr] 26 rfl; clear hb)
      | (go_at_call 28; refine (c3 _).mono ?_; rintro e v2 ⟨rfl, hb⟩; replace bs := (bs.below hb).alloc (.cells #[.int .i64 pi, .int .i64 pt, .int .i64 pd, .int .i64 pk, .string pr] 26); replace b1 := (b1.below hb).alloc (.cells #[.int .i64 pi, .int .i64 pt, .int .i64 pd, .int .i64 pk, .string pr] 26); replace hB := Below.tr hB hb; replace hB := hB.alloc hB.size (.cells #[.int .i64 pi, .int .i64 pt, .int .i64 pd, .int .i64 pk, .string pr] 26); have b2 := boxL_new v2 [.int .i64 pi, .int .i64 pt, .int .i64 pd, .int .i64 pk, .string pr] 26 rfl; have y0 := b1.1 0 _ rfl; have y1 := b1.1 1 _ rfl; have y2 := b1.1 2 _ rfl; have y3 := b1.1 3 _ rfl; have y4 := b1.1 4 _ rfl; have z0 := b2.1 0 _ rfl; have z1 := b2.1 1 _ rfl; have z2 := b2.1 2 _ rfl; have z3 := b2.1 3 _ rfl; have z4 := b2.1 4 _ rfl; clear hb)
      | (go_at_call 9; refine (alive18_any _).mono ?_; rintro e v3 ⟨rfl, hb⟩; clear y0 y1 y2 y3 y4 z0 z1 z2 z3 z4; replace bs := bs.below hb; replace hB := Below.tr hB hb; have s0 := bs.1 0 _ rfl; have s1 := bs.1 1 _ rfl; have s2 := bs.1 2 _ rfl; have s3 := bs.1 3 _ rfl; have s4 := bs.1 4 _ rfl; clear hb b1 b2)
      | (go_at_call 29; refine (c4 _).mono ?_; rintro e v4 ⟨rfl, hb⟩; clear s0 s1 s2 s3 s4; replace bs := bs.below hb; replace hB := Below.tr hB hb; have s0 := bs.1 0 _ rfl; have s1 := bs.1 1 _ rfl; have s2 := bs.1 2 _ rfl; have s3 := bs.1 3 _ rfl; have s4 := bs.1 4 _ rfl; clear hb)
      | (go_at_call 30; refine (c5 _).mono ?_; rintro e v5 ⟨rfl, hb⟩; replace hB := Below.tr hB hb; clear hb))
    go_ret
    exact ⟨ret_bool (by simp), hB⟩
  | false =>
    rw [hS] at c4
    rw [show putT ⟨i, t, d, k, r⟩ = ⟨#[]⟩ by unfold putT; rw [hS]; rfl, show putET ⟨i, t, d, k, r⟩ = 1 by unfold putET; rw [hS]; rfl] at c1
    clear hS c5
    go_enter Try.func6, Try.ntmps6
    go_wp2_with (first
      | (go_at_call 26; refine (c1 _).mono ?_; rintro e v0 ⟨rfl, hb⟩; obtain ⟨bs, hB⟩ := boxes1 w [.int .i64 i, .int .i64 t, .int .i64 d, .int .i64 k, .string r] _ hb; clear hb)
      | (go_at_call 27; refine (c2 _).mono ?_; rintro e v1 ⟨rfl, hb⟩; replace bs := (bs.below hb).alloc (.cells #[.int .i64 pi, .int .i64 pt, .int .i64 pd, .int .i64 pk, .string pr] 26); replace hB := Below.tr hB hb; replace hB := hB.alloc hB.size (.cells #[.int .i64 pi, .int .i64 pt, .int .i64 pd, .int .i64 pk, .string pr] 26); have b1 := boxL_new v1 [.int .i64 pi, .int .i64 pt, .int .i64 pd, .int .i64 pk, .string pr] 26 rfl; clear hb)
      | (go_at_call 28; refine (c3 _).mono ?_; rintro e v2 ⟨rfl, hb⟩; replace bs := (bs.below hb).alloc (.cells #[.int .i64 pi, .int .i64 pt, .int .i64 pd, .int .i64 pk, .string pr] 26); replace b1 := (b1.below hb).alloc (.cells #[.int .i64 pi, .int .i64 pt, .int .i64 pd, .int .i64 pk, .string pr] 26); replace hB := Below.tr hB hb; replace hB := hB.alloc hB.size (.cells #[.int .i64 pi, .int .i64 pt, .int .i64 pd, .int .i64 pk, .string pr] 26); have b2 := boxL_new v2 [.int .i64 pi, .int .i64 pt, .int .i64 pd, .int .i64 pk, .string pr] 26 rfl; have y0 := b1.1 0 _ rfl; have y1 := b1.1 1 _ rfl; have y2 := b1.1 2 _ rfl; have y3 := b1.1 3 _ rfl; have y4 := b1.1 4 _ rfl; have z0 := b2.1 0 _ rfl; have z1 := b2.1 1 _ rfl; have z2 := b2.1 2 _ rfl; have z3 := b2.1 3 _ rfl; have z4 := b2.1 4 _ rfl; clear hb)
      | (go_at_call 9; refine (alive18_any _).mono ?_; rintro e v3 ⟨rfl, hb⟩; clear y0 y1 y2 y3 y4 z0 z1 z2 z3 z4; replace bs := bs.below hb; replace hB := Below.tr hB hb; have s0 := bs.1 0 _ rfl; have s1 := bs.1 1 _ rfl; have s2 := bs.1 2 _ rfl; have s3 := bs.1 3 _ rfl; have s4 := bs.1 4 _ rfl; clear hb b1 b2)
      | (go_at_call 29; refine (c4 _).mono ?_; rintro e v4 ⟨rfl, hb⟩; clear s0 s1 s2 s3 s4; replace bs := bs.below hb; replace hB := Below.tr hB hb; have s0 := bs.1 0 _ rfl; have s1 := bs.1 1 _ rfl; have s2 := bs.1 2 _ rfl; have s3 := bs.1 3 _ rfl; have s4 := bs.1 4 _ rfl; clear hb)
      | (go_at_call 30; refine (c5 _).mono ?_; rintro e v5 ⟨rfl, hb⟩; replace hB := Below.tr hB hb; clear hb))
    go_ret
    exact ⟨ret_bool (by simp), hB⟩

end Go.Proofs.Ytnipikdlfmcheaa

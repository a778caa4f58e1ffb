/-
  The walk of the law TaskLeases: it returns true at all arguments.
-/
import Derived.Test.YtnipikdlfmcheaaTaskOpen
import Derived.Test.YtnipikdlfmcheaaTaskLease
import Derived.Test.YtnipikdlfmcheaaTaskRefLease
namespace Go.Proofs.Ytnipikdlfmcheaa
open Go.RowKit Plain
set_option linter.unusedVariables false

set_option maxRecDepth 20000 in
set_option maxHeartbeats 4000000 in
theorem taskLeases_walk (ta : Option Addr) (tc : Nat) (ns : List Int) (tr wt le : Int) (i t d k : Int) (r : ByteArray) (now x : Int) (w : World) (hI : IsI w ta tc ns) (w1 : (Lit.int .i64 tr).wf = true) (w2 : (Lit.int .i64 wt).wf = true) (w3 : (Lit.int .i64 le).wf = true)
    (w4 : (Lit.int .i64 i).wf = true) (w5 : (Lit.int .i64 t).wf = true) (w6 : (Lit.int .i64 d).wf = true) (w7 : (Lit.int .i64 k).wf = true) (hr : r.size ≤ maxLen) (wn : (Lit.int .i64 now).wf = true) (wx : (Lit.int .i64 x).wf = true) :
    Calls Try.prog 4 #[.agg #[.slice ta ns.length tc, .int .i64 tr, .int .i64 wt, .int .i64 le], .agg #[.int .i64 i, .int .i64 t, .int .i64 d, .int .i64 k, .string r], .int .i64 now, .int .i64 x] w fun e w' => e = .returned (.bool true) ∧ Below w.heap.size w w' := by
  have ht := (wf_le w5).2
  have hn := (wf_le wn).2
  clear w1 w2 w3 w4 w5 w6 w7 wn hI
  obtain ⟨tl, htl⟩ : ∃ x, x = ns.length := ⟨_, rfl⟩
  rw [← htl]
  clear htl
  have c1 := fun W => leaseT_any ta tl tc tr wt le i t d k r now x W
  have c2 := fun W => refLeaseT_any ta tl tc tr wt le i t d k r now x W hn
  clear ht hn hr wx
  generalize leaseE ⟨i, t, d, k, r⟩ now x = E at *
  generalize leaseT le ⟨i, t, d, k, r⟩ now x = p at *
  obtain ⟨pi, pt, pd, pk, pr⟩ := p
  simp only [vT] at c1 c2
  go_enter Try.func4, Try.ntmps4
  go_wp2_with (first
    | (go_at_call 18; refine (c1 _).mono ?_; rintro e v0 ⟨rfl, hb⟩; obtain ⟨bt', bs', hB'⟩ := boxes2 w [.slice ta tl tc, .int .i64 tr, .int .i64 wt, .int .i64 le] [.int .i64 i, .int .i64 t, .int .i64 d, .int .i64 k, .string r] _ _ (by simp) (by simp) hb; have bt := bt'.alloc (.cells #[.int .i64 pi, .int .i64 pt, .int .i64 pd, .int .i64 pk, .string pr] 26); have bs := bs'.alloc (.cells #[.int .i64 pi, .int .i64 pt, .int .i64 pd, .int .i64 pk, .string pr] 26); have hB := hB'.alloc hB'.size (.cells #[.int .i64 pi, .int .i64 pt, .int .i64 pd, .int .i64 pk, .string pr] 26); clear bt' bs' hB'; have b0 := boxL_new v0 [.int .i64 pi, .int .i64 pt, .int .i64 pd, .int .i64 pk, .string pr] 26 rfl; have x0 := bt.1 0 _ rfl; have x1 := bt.1 1 _ rfl; have x2 := bt.1 2 _ rfl; have x3 := bt.1 3 _ rfl; have s0 := bs.1 0 _ rfl; have s1 := bs.1 1 _ rfl; have s2 := bs.1 2 _ rfl; have s3 := bs.1 3 _ rfl; have s4 := bs.1 4 _ rfl; clear hb)
    | (go_at_call 19; refine (c2 _).mono ?_; rintro e v1 ⟨rfl, hb⟩; clear x0 x1 x2 x3 s0 s1 s2 s3 s4; replace bt := (bt.below hb).alloc (.cells #[.int .i64 pi, .int .i64 pt, .int .i64 pd, .int .i64 pk, .string pr] 26); replace bs := (bs.below hb).alloc (.cells #[.int .i64 pi, .int .i64 pt, .int .i64 pd, .int .i64 pk, .string pr] 26); replace hB := Below.tr hB hb; replace hB := hB.alloc hB.size (.cells #[.int .i64 pi, .int .i64 pt, .int .i64 pd, .int .i64 pk, .string pr] 26); replace b0 := (b0.below hb).alloc (.cells #[.int .i64 pi, .int .i64 pt, .int .i64 pd, .int .i64 pk, .string pr] 26); have b1 := boxL_new v1 [.int .i64 pi, .int .i64 pt, .int .i64 pd, .int .i64 pk, .string pr] 26 rfl; have x0 := bt.1 0 _ rfl; have x1 := bt.1 1 _ rfl; have x2 := bt.1 2 _ rfl; have x3 := bt.1 3 _ rfl; have s0 := bs.1 0 _ rfl; have s1 := bs.1 1 _ rfl; have s2 := bs.1 2 _ rfl; have s3 := bs.1 3 _ rfl; have s4 := bs.1 4 _ rfl; clear hb)
    | (go_at_call 9; refine (alive18_any _).mono ?_; rintro e v9 ⟨rfl, hb⟩; clear x0 x1 x2 x3 s0 s1 s2 s3 s4 bt bs; replace hB := Below.tr hB hb; replace b0 := b0.below hb; have c00 := b0.1 0 _ rfl; have c01 := b0.1 1 _ rfl; have c02 := b0.1 2 _ rfl; have c03 := b0.1 3 _ rfl; have c04 := b0.1 4 _ rfl; replace b1 := b1.below hb; have c10 := b1.1 0 _ rfl; have c11 := b1.1 1 _ rfl; have c12 := b1.1 2 _ rfl; have c13 := b1.1 3 _ rfl; have c14 := b1.1 4 _ rfl; clear hb b0 b1))
  go_ret
  exact ⟨ret_bool (by simp), hB⟩

end Go.Proofs.Ytnipikdlfmcheaa

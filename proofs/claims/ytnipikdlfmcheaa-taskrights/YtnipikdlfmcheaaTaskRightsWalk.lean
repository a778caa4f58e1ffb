/-
  The walk of the law TaskRights: it returns true at all arguments.
-/
import Derived.Test.YtnipikdlfmcheaaTaskOpen
import Derived.Test.YtnipikdlfmcheaaTaskRight
import Derived.Test.YtnipikdlfmcheaaTaskRefRight
import Derived.Test.YtnipikdlfmcheaaTaskExpire
import Derived.Test.YtnipikdlfmcheaaTaskRefLease
namespace Go.Proofs.Ytnipikdlfmcheaa
open Go.RowKit Plain
set_option linter.unusedVariables false

set_option maxRecDepth 20000 in
set_option maxHeartbeats 4000000 in
theorem taskRights_walk (ta : Option Addr) (tc : Nat) (ns : List Int) (tr wt le : Int) (i t d k : Int) (r : ByteArray) (now : Int) (w : World) (hI : IsI w ta tc ns) (w1 : (Lit.int .i64 tr).wf = true) (w2 : (Lit.int .i64 wt).wf = true) (w3 : (Lit.int .i64 le).wf = true)
    (w4 : (Lit.int .i64 i).wf = true) (w5 : (Lit.int .i64 t).wf = true) (w6 : (Lit.int .i64 d).wf = true) (w7 : (Lit.int .i64 k).wf = true) (hr : r.size ≤ maxLen) (w8 : (Lit.int .i64 now).wf = true) :
    Calls Try.prog 3 #[.agg #[.slice ta ns.length tc, .int .i64 tr, .int .i64 wt, .int .i64 le], .agg #[.int .i64 i, .int .i64 t, .int .i64 d, .int .i64 k, .string r], .int .i64 now] w fun e w' => e = .returned (.bool true) ∧ Below w.heap.size w w' := by
  have ht := (wf_le w5).2
  have hd := (wf_le w6).2
  have hn := (wf_le w8).2
  clear w1 w2 w3 w4 w5 w6 w7 w8 hI
  obtain ⟨tl, htl⟩ : ∃ x, x = ns.length := ⟨_, rfl⟩
  rw [← htl]
  clear htl
  have c1 := fun W => rightT_any ta tl tc tr wt le i t d k r W hr
  have c2 := fun W => refRightT_any ta tl tc tr wt le i t d k r W hr
  have c3 := fun W => readyT_any i t d k r W
  have c4 := fun W => refReadyT_any i t d k r W
  have c5 := fun W => expireT_any ta tl tc tr wt le i t d k r now W ht
  have c6 := fun W => refExpireT_any ta tl tc tr wt le i t d k r now W hn ht hd
  have c7 := fun W => cancelT_any i t d k r W
  have c8 := fun W => refCancelT_any i t d k r W
  clear ht hd hn hr
  generalize rightT tr ⟨i, t, d, k, r⟩ = Q at *
  generalize readyT ⟨i, t, d, k, r⟩ = a at *
  generalize expireT tr wt ⟨i, t, d, k, r⟩ now = b at *
  generalize cancelT ⟨i, t, d, k, r⟩ = c at *
  obtain ⟨pi, pt, pd, pk, pr⟩ := a
  obtain ⟨qi, qt, qd, qk, qr⟩ := b
  obtain ⟨ui, ut, ud, uk, ur⟩ := c
  simp only [vT] at c3 c4 c5 c6 c7 c8
  obtain ⟨W, hW⟩ : ∃ W, W = (w.alloc (.cells #[.slice ta tl tc, .int .i64 tr, .int .i64 wt, .int .i64 le] 24)).alloc (.cells #[.int .i64 i, .int .i64 t, .int .i64 d, .int .i64 k, .string r] 26) := ⟨_, rfl⟩
  have bt : BoxL W w.heap.size [.slice ta tl tc, .int .i64 tr, .int .i64 wt, .int .i64 le] := by rw [hW]; exact (boxL_new w [.slice ta tl tc, .int .i64 tr, .int .i64 wt, .int .i64 le] 24 rfl).alloc _
  have bs : BoxL W (w.heap.size + 1) [.int .i64 i, .int .i64 t, .int .i64 d, .int .i64 k, .string r] := by rw [hW]; exact boxL_new _ [.int .i64 i, .int .i64 t, .int .i64 d, .int .i64 k, .string r] 26 (by simp)
  have hB : Below w.heap.size w W := by rw [hW]; exact bel2 _ _ _
  go_enter Try.func3, Try.ntmps3
  go_wp2
  rw [← hW]
  clear hW
  replace bt : BoxL W.drew w.heap.size [.slice ta tl tc, .int .i64 tr, .int .i64 wt, .int .i64 le] := bt
  replace bs : BoxL W.drew (w.heap.size + 1) [.int .i64 i, .int .i64 t, .int .i64 d, .int .i64 k, .string r] := bs
  replace hB := hB.drew
  have x0 := bt.1 0 _ rfl
  have x1 := bt.1 1 _ rfl
  have x2 := bt.1 2 _ rfl
  have x3 := bt.1 3 _ rfl
  have s0 := bs.1 0 _ rfl
  have s1 := bs.1 1 _ rfl
  have s2 := bs.1 2 _ rfl
  have s3 := bs.1 3 _ rfl
  have s4 := bs.1 4 _ rfl
  go_region_held3 (fun V => V.cell? ⟨w.heap.size, 0, none⟩ = some (.slice ta tl tc) ∧ V.cell? ⟨w.heap.size, 1, none⟩ = some (.int .i64 tr) ∧ V.cell? ⟨w.heap.size, 2, none⟩ = some (.int .i64 wt) ∧ V.cell? ⟨w.heap.size, 3, none⟩ = some (.int .i64 le) ∧ V.cell? ⟨w.heap.size + 1, 0, none⟩ = some (.int .i64 i) ∧ V.cell? ⟨w.heap.size + 1, 1, none⟩ = some (.int .i64 t) ∧ V.cell? ⟨w.heap.size + 1, 2, none⟩ = some (.int .i64 d) ∧ V.cell? ⟨w.heap.size + 1, 3, none⟩ = some (.int .i64 k) ∧ V.cell? ⟨w.heap.size + 1, 4, none⟩ = some (.string r)) (exact ⟨x0, x1, x2, x3, s0, s1, s2, s3, s4⟩) (first
    | (go_at_call 9; refine (alive18_any _).mono ?_; rintro e v0 ⟨rfl, hb⟩; replace bt := bt.below hb; replace bs := bs.below hb; replace hB := Below.tr hB hb; replace x0 := cell_below hb x0; replace x1 := cell_below hb x1; replace x2 := cell_below hb x2; replace x3 := cell_below hb x3; replace s0 := cell_below hb s0; replace s1 := cell_below hb s1; replace s2 := cell_below hb s2; replace s3 := cell_below hb s3; replace s4 := cell_below hb s4; clear hb)
    | (go_at_call 10; refine (c1 _).mono ?_; rintro e v1 ⟨rfl, hb⟩; replace bt := bt.below hb; replace bs := bs.below hb; replace hB := Below.tr hB hb; replace x0 := cell_below hb x0; replace x1 := cell_below hb x1; replace x2 := cell_below hb x2; replace x3 := cell_below hb x3; replace s0 := cell_below hb s0; replace s1 := cell_below hb s1; replace s2 := cell_below hb s2; replace s3 := cell_below hb s3; replace s4 := cell_below hb s4; clear hb)
    | (go_at_call 11; refine (c2 _).mono ?_; rintro e v2 ⟨rfl, hb⟩; replace bt := bt.below hb; replace bs := bs.below hb; replace hB := Below.tr hB hb; replace x0 := cell_below hb x0; replace x1 := cell_below hb x1; replace x2 := cell_below hb x2; replace x3 := cell_below hb x3; replace s0 := cell_below hb s0; replace s1 := cell_below hb s1; replace s2 := cell_below hb s2; replace s3 := cell_below hb s3; replace s4 := cell_below hb s4; clear hb)
    | (go_at_call 12; refine (c3 _).mono ?_; rintro e v3 ⟨rfl, hb⟩; replace bt := bt.below hb; replace bs := bs.below hb; replace hB := Below.tr hB hb; replace x0 := cell_below hb x0; replace x1 := cell_below hb x1; replace x2 := cell_below hb x2; replace x3 := cell_below hb x3; replace s0 := cell_below hb s0; replace s1 := cell_below hb s1; replace s2 := cell_below hb s2; replace s3 := cell_below hb s3; replace s4 := cell_below hb s4; clear hb)
    | (go_at_call 13; refine (c4 _).mono ?_; rintro e v4 ⟨rfl, hb⟩; replace bt := bt.below hb; replace bs := bs.below hb; replace hB := Below.tr hB hb; replace x0 := cell_below hb x0; replace x1 := cell_below hb x1; replace x2 := cell_below hb x2; replace x3 := cell_below hb x3; replace s0 := cell_below hb s0; replace s1 := cell_below hb s1; replace s2 := cell_below hb s2; replace s3 := cell_below hb s3; replace s4 := cell_below hb s4; clear hb)
    | (go_at_call 14; refine (c5 _).mono ?_; rintro e v5 ⟨rfl, hb⟩; replace bt := bt.below hb; replace bs := bs.below hb; replace hB := Below.tr hB hb; replace x0 := cell_below hb x0; replace x1 := cell_below hb x1; replace x2 := cell_below hb x2; replace x3 := cell_below hb x3; replace s0 := cell_below hb s0; replace s1 := cell_below hb s1; replace s2 := cell_below hb s2; replace s3 := cell_below hb s3; replace s4 := cell_below hb s4; clear hb)
    | (go_at_call 15; refine (c6 _).mono ?_; rintro e v6 ⟨rfl, hb⟩; replace bt := bt.below hb; replace bs := bs.below hb; replace hB := Below.tr hB hb; replace x0 := cell_below hb x0; replace x1 := cell_below hb x1; replace x2 := cell_below hb x2; replace x3 := cell_below hb x3; replace s0 := cell_below hb s0; replace s1 := cell_below hb s1; replace s2 := cell_below hb s2; replace s3 := cell_below hb s3; replace s4 := cell_below hb s4; clear hb)
    | (go_at_call 16; refine (c7 _).mono ?_; rintro e v7 ⟨rfl, hb⟩; replace bt := bt.below hb; replace bs := bs.below hb; replace hB := Below.tr hB hb; replace x0 := cell_below hb x0; replace x1 := cell_below hb x1; replace x2 := cell_below hb x2; replace x3 := cell_below hb x3; replace s0 := cell_below hb s0; replace s1 := cell_below hb s1; replace s2 := cell_below hb s2; replace s3 := cell_below hb s3; replace s4 := cell_below hb s4; clear hb)
    | (go_at_call 17; refine (c8 _).mono ?_; rintro e v8 ⟨rfl, hb⟩; replace bt := bt.below hb; replace bs := bs.below hb; replace hB := Below.tr hB hb; replace x0 := cell_below hb x0; replace x1 := cell_below hb x1; replace x2 := cell_below hb x2; replace x3 := cell_below hb x3; replace s0 := cell_below hb s0; replace s1 := cell_below hb s1; replace s2 := cell_below hb s2; replace s3 := cell_below hb s3; replace s4 := cell_below hb s4; clear hb))
  go_wp2
  go_ret
  exact ⟨ret_bool (by simp), hB⟩

end Go.Proofs.Ytnipikdlfmcheaa

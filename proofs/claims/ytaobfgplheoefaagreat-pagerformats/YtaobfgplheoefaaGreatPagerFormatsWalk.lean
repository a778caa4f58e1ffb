/-
  PagerFormats: the walk.
-/
import Derived.Test.YtaobfgplheoefaaGreatSfD
namespace Go.Proofs.YtaobfgplheoefaaGreat
open Go.RowKit Plain
set_option linter.unusedVariables false

set_option maxRecDepth 20000 in
set_option maxHeartbeats 2000000 in
theorem pagerFormats_walk (n : Int) (w : World) (wn : (Lit.int .i64 n).wf = true) :
    Calls Tryz.prog 3 #[.int .i64 n] w fun e w' => e = .returned (.bool true) ∧ Below w.heap.size w w' := by
  have cF := format_any n w
  have cA := alive14_any
  cases hm : mayB n with
  | false =>
    obtain ⟨e1, e2⟩ := fm_no hm
    rw [e1, e2, List.length_nil] at cF
    have hout : n < 24 ∨ 2048 < n := by
      by_cases h : 24 ≤ n ∧ n ≤ 2048
      · rw [mayB_iff.2 h] at hm; cases hm
      · omega
    clear e1 e2 hm
    by_cases h1 : n < 24
    · have h2 : ¬ 2048 < n := by omega
      go_enter Tryz.func3, Tryz.ntmps3
      go_wp2_with (first
        | (go_at_call 7; refine cF.mono ?_; rintro e w1 ⟨a, c, rfl, _, hb⟩; have hC := (Below.refl w1.heap.size w1).alloc (Nat.le_refl _) (.cells #[.slice a 0 c, .slice none 0 0] 25); have HB := Below.tr hb hC; have bD := boxL_new w1 [.slice a 0 c, .slice none 0 0] 25 rfl; clear hb hC)
        | (go_at_call 8; refine (cA _).mono ?_; rintro e w2 ⟨rfl, hb⟩; replace HB := Below.tr HB hb; replace bD := bD.below hb; have d0 := bD.1 0 _ rfl; clear hb))
      go_ret
      exact ⟨ret_bool (by simp), HB⟩
    · have h2 : 2048 < n := by omega
      go_enter Tryz.func3, Tryz.ntmps3
      go_wp2_with (first
        | (go_at_call 7; refine cF.mono ?_; rintro e w1 ⟨a, c, rfl, _, hb⟩; have hC := (Below.refl w1.heap.size w1).alloc (Nat.le_refl _) (.cells #[.slice a 0 c, .slice none 0 0] 25); have HB := Below.tr hb hC; have bD := boxL_new w1 [.slice a 0 c, .slice none 0 0] 25 rfl; clear hb hC)
        | (go_at_call 8; refine (cA _).mono ?_; rintro e w2 ⟨rfl, hb⟩; replace HB := Below.tr HB hb; replace bD := bD.below hb; have d0 := bD.1 0 _ rfl; clear hb))
      go_ret
      exact ⟨ret_bool (by simp), HB⟩
  | true =>
    obtain ⟨h1, h2⟩ := mayB_iff.1 hm
    obtain ⟨k, rfl⟩ : ∃ k : Nat, n = k := ⟨n.toNat, by omega⟩
    obtain ⟨e1, e2⟩ := fm_yes hm
    rw [e1, e2, fmtL_length] at cF
    have hn1 : ¬ (k : Int) < 24 := by omega
    have hn2 : ¬ (2048 : Int) < k := by omega
    have cR := fun W => refFormat_any k W (by omega) (by omega)
    have cL : ∀ (W : World) (a b : Option Addr) (c d : Nat), IsS W a c (fmtL k) → IsS W b d (fmtL k) → Calls Tryz.prog 9 #[.agg #[.slice a k c, .slice none 0 0], .agg #[.slice b k d, .slice none 0 0]] W fun e w' => e = .returned (.bool true) ∧ Below W.heap.size W w' := by
      intro W a b c d h1 h2
      have := like_any a none b none c 0 d 0 (fmtL k) (fmtL k) [] [] W h1 (IsP_nil _) h2 (IsP_nil _)
      rw [fmtL_length] at this
      rw [show likeD (fmtL k) (fmtL k) [] [] = true by unfold likeD; simp] at this
      exact this
    obtain ⟨L, hL⟩ : ∃ L, L = fmtL k := ⟨_, rfl⟩
    rw [← hL] at cF cR cL
    clear hL e1 e2 hm wn h1 h2
    go_enter Tryz.func3, Tryz.ntmps3
    go_wp2_with (first
      | (go_at_call 7; refine cF.mono ?_; rintro e w1 ⟨a, c, rfl, hS, hb⟩; have hC := (Below.refl w1.heap.size w1).alloc (Nat.le_refl _) (.cells #[.slice a k c, .slice none 0 0] 25); have HB := Below.tr hb hC; have bD := boxL_new w1 [.slice a k c, .slice none 0 0] 25 rfl; have HS : Hid (IsS _ a c L) := hS.below hC; clear hb hC hS))
    have hD0 : Below (w1.alloc (.cells #[.slice a k c, .slice none 0 0] 25)).heap.size (w1.alloc (.cells #[.slice a k c, .slice none 0 0] 25)) (w1.alloc (.cells #[.slice a k c, .slice none 0 0] 25)).drew := (Below.refl _ _).drew
    replace HB := Below.tr HB hD0
    replace bD := bD.below hD0
    replace HS : Hid (IsS _ a c L) := HS.out.below hD0
    clear hD0
    go_region_held3 (fun V => V.cell? ⟨w1.heap.size, 0, none⟩ = some (.slice a k c) ∧ V.cell? ⟨w1.heap.size, 1, none⟩ = some (.slice none 0 0)) (exact ⟨bD.1 0 _ rfl, bD.1 1 _ rfl⟩)
      (first
       | (go_at_call 8; refine (cA _).mono ?_; rintro e w2 ⟨rfl, hb⟩; replace HB := Below.tr HB hb; replace bD := bD.below hb; replace HS : Hid (IsS _ a c L) := HS.out.below hb; clear hb)
       | (go_at_call 10; refine (cR _).mono ?_; rintro e w3 ⟨b, d, rfl, hT, hb⟩; replace HB := Below.tr HB hb; replace bD := bD.below hb; replace HS : Hid (IsS _ a c L) := HS.out.below hb; have HT : Hid (IsS _ b d L) := hT; clear hb hT)
       | (go_at_call 9; refine (cL _ a b c d HS.out HT.out).mono ?_; rintro e w4 ⟨rfl, hb⟩; replace HB := Below.tr HB hb; replace bD := bD.below hb; clear hb))
    go_wp2
    go_ret
    exact ⟨ret_bool (by simp), HB⟩

end Go.Proofs.YtaobfgplheoefaaGreat


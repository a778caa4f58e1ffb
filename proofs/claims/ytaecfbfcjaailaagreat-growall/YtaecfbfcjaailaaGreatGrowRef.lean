/-
  The document's own LikeWood of two woods that are the same; In; the statements' own none.
-/
import Derived.Test.YtaecfbfcjaailaaGreatGrowIn
namespace Go.Proofs.YtaecfbfcjaailaaGreat
open Go.RowKit Plain
set_option linter.unusedVariables false

set_option maxRecDepth 20000 in
set_option maxHeartbeats 4000000 in
/-- LIKE WOOD, of two that are the same. -/
theorem likeWood_same (a a' b d d' e : Option Addr) (n n' p c c' f k k' l : Nat) (G : WoodS) (w : World) (h1 : WoodL w a n c a' n' c' b p f G) (h2 : WoodL w d n k d' n' k' e p l G) :
    Calls Tryz.prog 22 #[.agg #[.slice a n c, .slice a' n' c', .slice b p f, .int .i64 G.root, .int .i64 G.gen], .agg #[.slice d n k, .slice d' n' k', .slice e p l, .int .i64 G.root, .int .i64 G.gen]] w fun e w' => e = .returned (.bool true) ∧ Below w.heap.size w w' := by
  obtain ⟨W, hW⟩ : ∃ W, W = (w.alloc (.cells #[.slice a n c, .slice a' n' c', .slice b p f, .int .i64 G.root, .int .i64 G.gen] 27)).alloc (.cells #[.slice d n k, .slice d' n' k', .slice e p l, .int .i64 G.root, .int .i64 G.gen] 27) := ⟨_, rfl⟩
  have B1 : WoodBox W w.heap.size (.slice a n c) (.slice a' n' c') (.slice b p f) (.int .i64 G.root) (.int .i64 G.gen) := by rw [hW]; exact (woodBox_new _ _ _ _ _ _ _ rfl).below ((Below.refl _ _).alloc (Nat.le_refl _) _)
  have B2 : WoodBox W (w.heap.size + 1) (.slice d n k) (.slice d' n' k') (.slice e p l) (.int .i64 G.root) (.int .i64 G.gen) := by rw [hW]; exact woodBox_new _ _ _ _ _ _ _ (by simp)
  have HB : Below w.heap.size w W := by rw [hW]; exact ((Below.refl _ _).alloc (Nat.le_refl _) _).alloc (by simp) _
  have cL : Calls Tryz.prog 34 #[.agg #[.slice a n c, .slice a' n' c'], .agg #[.slice d n k, .slice d' n' k']] W fun x w' => x = .returned (.bool true) ∧ Below W.heap.size W w' := by
    have := allocLike_any a a' d d' c c' k k' n n' n n' G.base G.now G.base G.now W h1.1 h1.2.1 h1.1 h1.2.1 (h1.2.2.2.1.below HB) (h1.2.2.2.2.1.below HB) (h2.2.2.2.1.below HB) (h2.2.2.2.2.1.below HB)
    rw [likeA_same] at this
    exact this
  have EP : Hid (p = G.pages.length) := h1.2.2.1
  have P1 : Hid (IsS w b f G.pages) := h1.2.2.2.2.2
  have P2 : Hid (IsS w e l G.pages) := h2.2.2.2.2.2
  have mp : p ≤ 9223372036854775807 := by rw [h1.2.2.1]; exact Nat.le_trans h1.2.2.2.2.2.1 h1.2.2.2.2.2.2.1
  have rr : ((G.root : Int) != G.root) = false := by simp
  have rg : ((G.gen : Int) != G.gen) = false := by simp
  clear h1 h2
  obtain ⟨x0, x1, x2, x3, x4⟩ := id (hW ▸ B1)
  obtain ⟨y0, y1, y2, y3, y4⟩ := id (hW ▸ B2)
  go_enter Tryz.func22, Tryz.ntmps22
  go_wp2_with (go_at_call 34; rw [← hW]; refine cL.mono ?_; rintro y w1 ⟨rfl, hb⟩; replace B1 := B1.below hb; replace B2 := B2.below hb; replace HB := Below.tr HB hb; clear hb cL x0 x1 x2 x3 x4 y0 y1 y2 y3 y4; obtain ⟨x0, x1, x2, x3, x4⟩ := id B1; obtain ⟨y0, y1, y2, y3, y4⟩ := id B2)
  clear x0 x1 x2 x3 x4 y0 y1 y2 y3 y4
  go_loopw [48] (fun v wr => ∃ j : Nat, j ≤ p ∧ v = .int .i64 j ∧ WoodBox wr w.heap.size (.slice a n c) (.slice a' n' c') (.slice b p f) (.int .i64 G.root) (.int .i64 G.gen) ∧ WoodBox wr (w.heap.size + 1) (.slice d n k) (.slice d' n' k') (.slice e p l) (.int .i64 G.root) (.int .i64 G.gen) ∧ Below w.heap.size w wr) (fun v _ => p - (intOf v).toNat)
  case atStart => exact ⟨0, by omega, rfl, B1, B2, HB⟩
  case round =>
    clear B1 B2 HB
    obtain ⟨j, hj, rfl, B1, B2, HB⟩ := hrel
    by_cases hlt : j < p
    · have hlt' : (j : Int) < p := by omega
      obtain ⟨s, hs⟩ : ∃ x, Hid (G.pages[j]? = some x) := get_some (by rw [← EP.out]; exact hlt)
      obtain ⟨g1, o1, rfl, -, hc0, -⟩ := P1.out.2.2 j s hs.out
      obtain ⟨g2, o2, rfl, -, hc1, -⟩ := P2.out.2.2 j s hs.out
      have z0 := cell_below HB hc0
      have z1 := cell_below HB hc1
      have s0 := str_eq_true (rfl : s = s)
      clear hc0 hc1
      obtain ⟨x0, x1, x2, x3, x4⟩ := id B1
      obtain ⟨y0, y1, y2, y3, y4⟩ := id B2
      go_wp2
      go_region
      go_wp2
      go_roundw
      case rel => exact ⟨j + 1, by omega, by go_num, B1.below (Below.refl _ _).drew, B2.below (Below.refl _ _).drew, HB.drew⟩
      case measure => simp [intOf]; omega
    · obtain rfl : p = j := by omega
      have hj0 : ¬ (p : Int) < p := by omega
      go_wp2
      go_ret
      exact ⟨rfl, HB⟩

set_option maxRecDepth 20000 in
set_option maxHeartbeats 2000000 in
/-- NONE, of no wood. -/
theorem none09_any (a a' b : Option Addr) (c c' f : Nat) (w : World) (h1 : WoodL w a 0 c a' 0 c' b 0 f WoodS.none) :
    Calls Tryz.prog 14 #[.agg #[.slice a 0 c, .slice a' 0 c', .slice b 0 f, .int .i64 0, .int .i64 0]] w fun e w' => e = .returned (.bool true) ∧ Below w.heap.size w w' := by
  have HB : Below w.heap.size w (w.alloc (.cells #[.slice a 0 c, .slice a' 0 c', .slice b 0 f, .int .i64 0, .int .i64 0] 27)) := (Below.refl _ _).alloc (Nat.le_refl _) _
  obtain ⟨x0, x1, x2, x3, x4⟩ := woodBox_new w (.slice a 0 c) (.slice a' 0 c') (.slice b 0 f) (.int .i64 0) (.int .i64 0) 27 rfl
  have cL : ∀ V, WoodL V a 0 c a' 0 c' b 0 f WoodS.none → Calls Tryz.prog 22 #[.agg #[.slice a 0 c, .slice a' 0 c', .slice b 0 f, .int .i64 0, .int .i64 0], .agg #[.slice none 0 0, .slice none 0 0, .slice none 0 0, .int .i64 0, .int .i64 0]] V fun e w' => e = .returned (.bool true) ∧ Below V.heap.size V w' := fun V x => likeWood_same a a' b none none none 0 0 0 c c' f 0 0 0 WoodS.none V x ⟨rfl, rfl, rfl, IsB_nil _, IsB_nil _, isS_nil _⟩
  have h2 := cL _ (h1.below HB)
  clear h1 cL
  go_enter Tryz.func14, Tryz.ntmps14
  go_wp2_with (go_at_call 22; refine h2.mono ?_; rintro y w1 ⟨rfl, hb⟩; replace HB := Below.tr HB hb)
  go_ret
  exact ⟨rfl, HB⟩

end Go.Proofs.YtaecfbfcjaailaaGreat

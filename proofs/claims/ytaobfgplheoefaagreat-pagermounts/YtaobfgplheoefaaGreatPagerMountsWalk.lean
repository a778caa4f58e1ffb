/-
  PagerMounts: the walk.
-/
import Derived.Test.YtaobfgplheoefaaGreatSmB
namespace Go.Proofs.YtaobfgplheoefaaGreat
open Go.RowKit Plain
set_option linter.unusedVariables false

set_option maxRecDepth 20000 in
set_option maxHeartbeats 4000000 in
theorem pagerMounts_walk (a a' : Option Addr) (c c' : Nat) (bs : List ByteArray) (ps : List (Int × ByteArray)) (w : World) (hS : IsS w a c bs) (hP : IsP w a' c' ps) :
    Calls Tryz.prog 4 #[.agg #[.slice a bs.length c, .slice a' ps.length c']] w fun e w' => e = .returned (.bool true) ∧ Below w.heap.size w w' := by
  obtain ⟨n, hn⟩ : ∃ n, n = bs.length := ⟨_, rfl⟩
  obtain ⟨n', hn'⟩ : ∃ n, n = ps.length := ⟨_, rfl⟩
  rw [← hn, ← hn']
  obtain ⟨t, i, hbest⟩ := best_any [readS bs ps 0, readS bs ps 1]
  have cA := alive14_any
  have hnl : n ≤ maxLen := by rw [hn]; exact Nat.le_trans hS.1 hS.2.1
  have hnl' : n' ≤ maxLen := by rw [hn']; exact Nat.le_trans hP.1 hP.2.1
  have cB := fun W => small14_any a a' n n' c c' W hnl hnl'
  have cM : ∀ V, Below w.heap.size w V → Calls Tryz.prog 12 #[.agg #[.slice a n c, .slice a' n' c']] V fun e w' => ∃ y0 y1 y2 y3 y4 ya yn yc yb ym yd ye yk yf y8 y9 yg yl yh, e = .returned (.tuple #[.agg #[.int .i64 y0, .int .i64 y1, .int .i64 y2, .int .i64 y3, .int .i64 y4, .slice ya yn yc, .slice yb ym yd, .slice ye yk yf, .int .i64 y8, .int .i64 y9, .slice yg yl yh], .int .i64 (mtE bs ps t)]) ∧ FoundA (mtE bs ps t) bs t i w' (.agg #[.int .i64 y0, .int .i64 y1, .int .i64 y2, .int .i64 y3, .int .i64 y4, .slice ya yn yc, .slice yb ym yd, .slice ye yk yf, .int .i64 y8, .int .i64 y9, .slice yg yl yh]) ∧ Below V.heap.size V w' :=
    fun V hV => (mount_any a a' n n' c c' bs ps t i V hn hn' (hS.below hV) (hP.below hV) hbest).mono fun e w' ⟨v, he, hf, hb⟩ => by
      have hf' := hf
      obtain ⟨a1, c1, a2, c2, a3, c3, a4, c4, rfl, -⟩ := hf'
      exact ⟨_, _, _, _, _, _, _, _, _, _, _, _, _, _, _, _, _, _, _, he, hf, hb⟩
  have cN : ∀ V, Below w.heap.size w V → Calls Tryz.prog 13 #[.agg #[.slice a n c, .slice a' n' c']] V fun e w' => ∃ y0 y1 y2 y3 y4 ya yn yc yb ym yd ye yk yf y8 y9 yg yl yh, e = .returned (.tuple #[.agg #[.int .i64 y0, .int .i64 y1, .int .i64 y2, .int .i64 y3, .int .i64 y4, .slice ya yn yc, .slice yb ym yd, .slice ye yk yf, .int .i64 y8, .int .i64 y9, .slice yg yl yh], .int .i64 (mtE bs ps t)]) ∧ FoundA (mtE bs ps t) bs t i w' (.agg #[.int .i64 y0, .int .i64 y1, .int .i64 y2, .int .i64 y3, .int .i64 y4, .slice ya yn yc, .slice yb ym yd, .slice ye yk yf, .int .i64 y8, .int .i64 y9, .slice yg yl yh]) ∧ Below V.heap.size V w' :=
    fun V hV => (refMount_any a a' n n' c c' bs ps t i V hn hn' (hS.below hV) (hP.below hV) hbest).mono fun e w' ⟨v, he, hf, hb⟩ => by
      have hf' := hf
      obtain ⟨a1, c1, a2, c2, a3, c3, a4, c4, rfl, -⟩ := hf'
      exact ⟨_, _, _, _, _, _, _, _, _, _, _, _, _, _, _, _, _, _, _, he, hf, hb⟩
  have cL := fun V x y (h1 : FoundA (mtE bs ps t) bs t i V x) (h2 : FoundA (mtE bs ps t) bs t i V y) => foundLike_same (mtE bs ps t) bs t i x y V h1 h2
  have fB : ∀ V V' v, FoundA (mtE bs ps t) bs t i V v → Below V.heap.size V V' → FoundA (mtE bs ps t) bs t i V' v := by
    rintro V V' v ⟨a1, c1, a2, c2, a3, c3, a4, c4, h, h1, h2, h3, h4⟩ hb
    exact ⟨a1, c1, a2, c2, a3, c3, a4, c4, h, h1.below hb, h2.below hb, h3.below hb, h4.below hb⟩
  have FB : Hid _ := fB
  generalize hE : mtE bs ps t = E at cM cN cL FB
  clear hE fB
  obtain ⟨W0, hW0⟩ : ∃ W0, W0 = w.alloc (.cells #[.slice a n c, .slice a' n' c'] 25) := ⟨_, rfl⟩
  have HB : Below w.heap.size w W0 := by rw [hW0]; exact (Below.refl _ _).alloc (Nat.le_refl _) _
  have bD : BoxL W0 w.heap.size [.slice a n c, .slice a' n' c'] := by rw [hW0]; exact boxL_new w _ _ rfl
  have hEE : (E == E) = true := by simp
  clear hbest hn hn' hS hP hnl hnl'
  cases hs : decide (n ≤ 200 ∧ n' ≤ 200) with
  | false =>
    rw [hs] at cB
    go_enter Tryz.func4, Tryz.ntmps4
    go_wp2_with (first
      | (go_at_call 11; rw [← hW0]; refine (cB _).mono ?_; rintro e w1 ⟨rfl, hb⟩; replace HB := Below.tr HB hb; clear hb)
      | (go_at_call 8; refine (cA _).mono ?_; rintro e w2 ⟨rfl, hb⟩; replace HB := Below.tr HB hb; clear hb))
    go_ret
    exact ⟨rfl, HB⟩
  | true =>
    rw [hs] at cB
    clear hs
    go_enter Tryz.func4, Tryz.ntmps4
    go_wp2_with (first
      | (go_at_call 11; rw [← hW0]; refine (cB _).mono ?_; rintro e w1 ⟨rfl, hb⟩; replace HB := Below.tr HB hb; replace bD := bD.below hb; have d0 := bD.1 0 _ rfl; have d1 := bD.1 1 _ rfl; clear hb)
      | (go_at_call 12; refine (cM _ HB).mono ?_; rintro e w2 ⟨y0, y1, y2, y3, y4, ya, yn, yc, yb, ym, yd, ye, yk, yf, y8, y9, yg, yl, yh, rfl, hf, hb⟩; have hC := (Below.refl w2.heap.size w2).alloc (Nat.le_refl _) (.cells #[.int .i64 y0, .int .i64 y1, .int .i64 y2, .int .i64 y3, .int .i64 y4, .slice ya yn yc, .slice yb ym yd, .slice ye yk yf, .int .i64 y8, .int .i64 y9, .slice yg yl yh] 42); replace HB := Below.tr (Below.tr HB hb) hC; replace bD := (bD.below hb).below hC; have bX := boxL_new w2 [.int .i64 y0, .int .i64 y1, .int .i64 y2, .int .i64 y3, .int .i64 y4, .slice ya yn yc, .slice yb ym yd, .slice ye yk yf, .int .i64 y8, .int .i64 y9, .slice yg yl yh] 42 rfl; have FX : Hid (FoundA E bs t i _ _) := FB.out _ _ _ hf hC; clear hb hC hf d0 d1; have d0 := bD.1 0 _ rfl; have d1 := bD.1 1 _ rfl)
      | (go_at_call 13; refine (cN _ HB).mono ?_; rintro e w3 ⟨z0, z1, z2, z3, z4, za, zn, zc, zb, zm, zd, ze, zk, zf, z8, z9, zg, zl, zh, rfl, hf, hb⟩; have hC := (Below.refl w3.heap.size w3).alloc (Nat.le_refl _) (.cells #[.int .i64 z0, .int .i64 z1, .int .i64 z2, .int .i64 z3, .int .i64 z4, .slice za zn zc, .slice zb zm zd, .slice ze zk zf, .int .i64 z8, .int .i64 z9, .slice zg zl zh] 42); replace HB := Below.tr (Below.tr HB hb) hC; replace bX := (bX.below hb).below hC; have bY := boxL_new w3 [.int .i64 z0, .int .i64 z1, .int .i64 z2, .int .i64 z3, .int .i64 z4, .slice za zn zc, .slice zb zm zd, .slice ze zk zf, .int .i64 z8, .int .i64 z9, .slice zg zl zh] 42 rfl; replace FX : Hid (FoundA E bs t i _ _) := FB.out _ _ _ (FB.out _ _ _ FX.out hb) hC; have FY : Hid (FoundA E bs t i _ _) := FB.out _ _ _ hf hC; clear hb hC hf d0 d1 bD)
      | (go_at_call 8; refine (cA _).mono ?_; rintro e w4 ⟨rfl, hb⟩; replace HB := Below.tr HB hb; replace bX := bX.below hb; replace bY := bY.below hb; replace FX : Hid (FoundA E bs t i _ _) := FB.out _ _ _ FX.out hb; replace FY : Hid (FoundA E bs t i _ _) := FB.out _ _ _ FY.out hb; clear hb; obtain ⟨⟨p0, p1, p2, p3, p4, p5, p6, p7, p8, p9, p10⟩, -⟩ := bX.cells11; obtain ⟨⟨r0, r1, r2, r3, r4, r5, r6, r7, r8, r9, r10⟩, -⟩ := bY.cells11)
      | (go_at_call 14; refine (cL _ _ _ FX.out FY.out).mono ?_; rintro e w5 ⟨rfl, hb⟩; replace HB := Below.tr HB hb; clear hb))
    go_ret
    exact ⟨ret_bool (by simp), HB⟩

end Go.Proofs.YtaobfgplheoefaaGreat


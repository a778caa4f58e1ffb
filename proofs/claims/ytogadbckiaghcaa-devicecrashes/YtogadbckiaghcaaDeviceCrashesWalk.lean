/-
  The walk of the law DeviceCrashes: it returns true at all arguments.
-/
import Derived.Test.YtogadbckiaghcaaDevRefCrash
import Derived.Test.YtogadbckiaghcaaDevRight
import Derived.Test.YtogadbckiaghcaaDevLike
import Derived.Deep.RegionHeld3
namespace Go.Proofs.Ytogadbckiaghcaa
open Go.RowKit Plain
set_option linter.unusedVariables false

theorem maskOf_false (ms : List Int) : maskOf false ms = maskAt ms := rfl

set_option maxRecDepth 20000 in
set_option maxHeartbeats 4000000 in
theorem deviceCrashes_walk (a a' : Option Addr) (c c' : Nat) (bs : List ByteArray) (ps : List (Int × ByteArray)) (am : Option Addr) (cm : Nat) (ms : List Int) (w : World) (hS : IsS w a c bs) (hP : IsP w a' c' ps) (hI : IsI w am cm ms) :
    Calls Try.prog 5 #[.agg #[.slice a bs.length c, .slice a' ps.length c'], .slice am ms.length cm] w fun e w' => e = .returned (.bool true) ∧ Below w.heap.size w w' := by
  have hB0 : Below w.heap.size w (w.alloc (.cells #[.slice a bs.length c, .slice a' ps.length c'] 25)) := (Below.refl _ _).alloc (Nat.le_refl _) _
  have cf := few_any a a' c c' bs ps _ (hS.below hB0) (hP.below hB0)
  obtain ⟨ds, hds⟩ : ∃ ds, ds = fewS bs := ⟨_, rfl⟩
  obtain ⟨qs, hqs⟩ : ∃ qs, qs = fewP ps := ⟨_, rfl⟩
  have HS : Hid (IsS w a c ds) := by rw [hds]; exact hS.few
  have HP : Hid (IsP w a' c' qs) := by rw [hqs]; exact hP.few
  have HI : Hid (IsI w am cm ms) := hI
  rw [← hds, ← hqs] at cf
  clear hS hP hds hqs hI
  obtain ⟨xs, hxs⟩ : ∃ xs, xs = crashA (maskAt ms) ds qs := ⟨_, rfl⟩
  obtain ⟨e, he⟩ : ∃ e, e = rightE ds qs := ⟨_, rfl⟩
  have cc : ∀ W, Below w.heap.size w W → Calls Try.prog 21 #[.agg #[.slice a ds.length c, .slice a' qs.length c'], .slice am ms.length cm] W fun r w' => ∃ b d, r = .returned (.tuple #[.agg #[.slice b xs.length d, .slice none 0 0], .int .i64 e]) ∧ IsS w' b d xs ∧ Below W.heap.size W w' := by
    intro W h
    rw [hxs, he]
    exact crash_any a a' am c c' cm ds qs ms W (HS.out.below h) (HP.out.below h) (HI.out.below h)
  cases hr : rightD ds qs with
  | false =>
    have x1 : xs = [] := by rw [hxs]; unfold crashA; rw [hr]; rfl
    have x2 : e = 1 := by rw [he]; unfold rightE; rw [hr]; rfl
    clear hxs he
    subst x1 x2
    go_enter Try.func5, Try.ntmps5
    go_wp2_with (first
      | (go_at_call 9; refine cf.mono ?_; rintro e w1 ⟨rfl, hb1⟩; have hB1 := Below.tr hB0 hb1; obtain ⟨⟨q0, q1⟩, f0, f1⟩ := box_open hb1)
      | (go_at_call 21; refine (cc _ ((hB1.setCell (p := ⟨w.heap.size, 0, none⟩) (Nat.le_refl _) _).setCell (p := ⟨w.heap.size, 1, none⟩) (Nat.le_refl _) _)).mono ?_; rintro e w2 ⟨g, cg, rfl, hG, hb2⟩; obtain ⟨r0, r1⟩ := box_set q0 q1 hb2; have hB2 := below_set2 hB1 (Nat.le_refl _) hb2; clear q0 q1 f0 f1 hb2 hG; have r0a := cell_alloc r0; have r1a := cell_alloc r1)
      | (go_at_call 14; refine (refRight_any a a' c c' ds qs _ (HS.out.below (hB2.alloc hB2.size _)) (HP.out.below (hB2.alloc hB2.size _))).mono ?_; rw [hr]; rintro e w3 ⟨rfl, hb3⟩; obtain ⟨z0, z1⟩ := box_cells hb3; have hB3 := Below.tr (hB2.alloc hB2.size _) hb3)
      | (go_at_call 12; refine (alive_any _).mono ?_; rintro e w4 ⟨rfl, hb4⟩; replace z0 := cell_below hb4 z0; have hB4 := Below.tr hB3 hb4))
    go_ret
    exact ⟨rfl, hB4⟩
  | true =>
    have x1 : xs = crashL (maskAt ms) ds qs := by rw [hxs]; unfold crashA; rw [hr]; rfl
    have x2 : e = 0 := by rw [he]; unfold rightE; rw [hr]; rfl
    have cr : ∀ W, Below w.heap.size w W → Calls Try.prog 18 #[.agg #[.slice a ds.length c, .slice a' qs.length c'], .bool false, .slice am ms.length cm] W fun r w' => ∃ b d, r = .returned (.agg #[.slice b xs.length d, .slice none 0 0]) ∧ IsS w' b d xs ∧ Below W.heap.size W w' := by
      intro W h
      have := refCrash_any a a' am c c' cm ds qs false ms W (HS.out.below h) (HP.out.below h) (HI.out.below h) hr
      rw [maskOf_false, ← x1] at this
      exact this
    clear hxs he x1
    subst x2
    have hlr : likeD xs xs [] [] = true := by unfold likeD; rw [decide_eq_true rfl]; rfl
    go_enter Try.func5, Try.ntmps5
    go_wp2_with (first
      | (go_at_call 9; refine cf.mono ?_; rintro e w1 ⟨rfl, hb1⟩; have hB1 := Below.tr hB0 hb1; obtain ⟨⟨q0, q1⟩, f0, f1⟩ := box_open hb1)
      | (go_at_call 21; refine (cc _ ((hB1.setCell (p := ⟨w.heap.size, 0, none⟩) (Nat.le_refl _) _).setCell (p := ⟨w.heap.size, 1, none⟩) (Nat.le_refl _) _)).mono ?_; rintro e w2 ⟨g, cg, rfl, hG, hb2⟩; have HG : Hid (IsS w2 g cg xs) := hG; obtain ⟨r0, r1⟩ := box_set q0 q1 hb2; have hB2 := below_set2 hB1 (Nat.le_refl _) hb2; clear q0 q1 f0 f1 hb2 hG; have r0a := cell_alloc r0; have r1a := cell_alloc r1)
      | (go_at_call 14; refine (refRight_any a a' c c' ds qs _ (HS.out.below (hB2.alloc hB2.size _)) (HP.out.below (hB2.alloc hB2.size _))).mono ?_; rw [hr]; rintro e w3 ⟨rfl, hb3⟩; obtain ⟨z0, z1⟩ := box_cells hb3; replace r0 := cell_below hb3 (r0a _); replace r1 := cell_below hb3 (r1a _); have hB := Below.tr (hB2.alloc hB2.size _) hb3; replace HG : Hid (IsS w3 g cg xs) := (HG.out.below ((Below.refl _ _).alloc (Nat.le_refl _) _)).below hb3; clear hb3 r0a r1a))
    replace hB := hB.drew
    replace HG : Hid (IsS w3.drew g cg xs) := HG.out.below (Below.refl _ _).drew
    clear hB1 hB2 hB0 cf cc
    go_region_held3 (fun V => (V.cell? ⟨w.heap.size, 0, none⟩ = some (.slice a ds.length c) ∧ V.cell? ⟨w.heap.size, 1, none⟩ = some (.slice a' qs.length c')) ∧ V.cell? ⟨w2.heap.size, 0, none⟩ = some (.slice g xs.length cg) ∧ V.cell? ⟨w2.heap.size, 1, none⟩ = some (.slice none 0 0))
      (exact ⟨⟨r0, r1⟩, z0, z1⟩) (first
      | (go_at_call 12; refine (alive_any _).mono ?_; rintro e w' ⟨rfl, hb⟩; replace HG : Hid (IsS w' g cg xs) := IsS.below (w := w3.drew) HG.out hb; replace hB := Below.tr hB hb; replace r0 := cell_below hb r0; replace r1 := cell_below hb r1; replace z0 := cell_below hb z0; replace z1 := cell_below hb z1; clear hb)
      | (go_at_call 18; refine (cr _ hB).mono ?_; rintro e w' ⟨k, ck, rfl, hK, hb⟩; replace HG : Hid (IsS w' g cg xs) := HG.out.below hb; have HK : Hid (IsS w' k ck xs) := hK; replace hB := Below.tr hB hb; replace r0 := cell_below hb r0; replace r1 := cell_below hb r1; replace z0 := cell_below hb z0; replace z1 := cell_below hb z1; clear hb hK)
      | (go_at_call 11; refine (like_any g none k none cg 0 ck 0 xs xs [] [] _ HG.out (IsP_nil _) HK.out (IsP_nil _)).mono ?_; rw [hlr]; rintro e w' ⟨rfl, hb⟩; replace hB := Below.tr hB hb; replace r0 := cell_below hb r0; replace r1 := cell_below hb r1; replace z0 := cell_below hb z0; replace z1 := cell_below hb z1; clear hb))
    go_wp2
    go_ret
    exact ⟨rfl, hB⟩

end Go.Proofs.Ytogadbckiaghcaa

/-
  The walk of the law DeviceRights: it returns true at all arguments.
-/
import Derived.Test.YtogadbckiaghcaaDevOpen
import Derived.Test.YtogadbckiaghcaaDevRight
import Derived.Test.YtogadbckiaghcaaDevLike
import Derived.Deep.RegionHeld3
namespace Go.Proofs.Ytogadbckiaghcaa
open Go.RowKit Plain
set_option linter.unusedVariables false

set_option maxRecDepth 20000 in
set_option maxHeartbeats 4000000 in
theorem deviceRights_walk (a a' : Option Addr) (c c' : Nat) (bs : List ByteArray) (ps : List (Int × ByteArray)) (n : Int) (w : World) (hS : IsS w a c bs) (hP : IsP w a' c' ps) (_hn : (Lit.int .i64 n).wf = true) :
    Calls Try.prog 3 #[.agg #[.slice a bs.length c, .slice a' ps.length c'], .int .i64 n] w fun e w' => e = .returned (.bool true) ∧ Below w.heap.size w w' := by
  have hB0 : Below w.heap.size w (w.alloc (.cells #[.slice a bs.length c, .slice a' ps.length c'] 25)) := (Below.refl _ _).alloc (Nat.le_refl _) _
  have cf := few_any a a' c c' bs ps _ (hS.below hB0) (hP.below hB0)
  obtain ⟨ds, hds⟩ : ∃ ds, ds = fewS bs := ⟨_, rfl⟩
  obtain ⟨qs, hqs⟩ : ∃ qs, qs = fewP ps := ⟨_, rfl⟩
  have HS : Hid (IsS w a c ds) := by rw [hds]; exact hS.few
  have HP : Hid (IsP w a' c' qs) := by rw [hqs]; exact hP.few
  rw [← hds, ← hqs] at cf
  clear hS hP hds hqs
  by_cases hn : 1 ≤ n ∧ n ≤ 2048
  · obtain ⟨k, rfl⟩ : ∃ k : Nat, n = k := ⟨n.toNat, by omega⟩
    have hk : 1 ≤ k ∧ k ≤ 2048 := by omega
    have e1 : newL (k : Int) = List.replicate k ByteArray.empty := newL_ok hk
    have e2 : newE (k : Int) = 0 := newE_ok hk
    obtain ⟨R, hR, hRl⟩ : ∃ R, R = List.replicate k ByteArray.empty ∧ R.length = k := ⟨_, rfl, List.length_replicate⟩
    have cn : ∀ W, Calls Try.prog 10 #[.int .i64 k] W fun e w' => ∃ a c, e = .returned (.tuple #[.agg #[.slice a k c, .slice none 0 0], .int .i64 0]) ∧ IsS w' a c R ∧ Below W.heap.size W w' := by
      intro W
      have := new_any k W
      rw [e1, e2, ← hR, hRl] at this
      exact this
    obtain ⟨Z, hmk, hZ⟩ : ∃ Z : Array Value, (∀ W : World, (Instr.makeSlice 22 (.int .i64 k) (.int .i64 k)).run Try.prog W = .ok (.slice (some ⟨W.heap.size, 0, none⟩) k k) (W.alloc (.cells Z 9))) ∧ Hid (∀ (W : World) (g : Nat), g = W.heap.size → IsS (W.alloc (.cells Z 9)) (some ⟨g, 0, none⟩) k R) :=
      ⟨madeCells #[.string ⟨#[]⟩] k, fun W => run_make_row' (P := Try.prog) 22 9 (.string ⟨#[]⟩) 16 Try.underlying22 Try.info9 rfl .i64 .i64 k (by omega) (by omega) W,
        fun W g hg => by rw [hR]; exact IsS_new _ k (by omega) _ (made_one _ k) (fun j => Joins_cell _ _ _ _ j hg)⟩
    have HL : Hid (R.length = k ∧ R.length = k) := ⟨hRl, hRl⟩
    have HL0 : Hid (([] : List (Int × ByteArray)).length = 0 ∧ ([] : List (Int × ByteArray)).length = 0) := ⟨rfl, rfl⟩
    have hlr : likeD R R [] [] = true := by unfold likeD; rw [decide_eq_true rfl]; rfl
    have hk6 : k ≤ 9223372036854775807 := by omega
    obtain ⟨h1, h2⟩ := hn
    clear e1 e2 hR hRl
    go_enter Try.func3, Try.ntmps3
    go_wp2_with (first
      | (go_at_call 9; refine cf.mono ?_; rintro e w1 ⟨rfl, hb1⟩; have hB1 := Below.tr hB0 hb1; obtain ⟨⟨q0, q1⟩, f0, f1⟩ := box_open hb1)
      | (go_at_call 10; refine (cn _).mono ?_; rintro e w2 ⟨g, cg, rfl, hG, hb2⟩; have HG : Hid (IsS w2 g cg R) := hG; obtain ⟨r0, r1⟩ := box_set q0 q1 hb2; have hB2 := below_set2 hB1 (Nat.le_refl _) hb2; clear q0 q1 f0 f1 hb2 hG; replace r0 := cell_alloc r0; replace r1 := cell_alloc r1))
    obtain ⟨W, hW⟩ : ∃ W, W = w2.alloc (.cells #[.slice g k cg, .slice none 0 0] 25) := ⟨_, rfl⟩
    have hB : Below w.heap.size w W := by rw [hW]; exact hB2.alloc hB2.size _
    replace HG : Hid (IsS W g cg R) := by show IsS _ _ _ _; rw [hW]; exact HG.out.below ((Below.refl _ _).alloc (Nat.le_refl _) _)
    replace r0 : W.cell? ⟨w.heap.size, 0, none⟩ = some (.slice a ds.length c) := by rw [hW]; exact r0 _
    replace r1 : W.cell? ⟨w.heap.size, 1, none⟩ = some (.slice a' qs.length c') := by rw [hW]; exact r1 _
    have x0 : W.cell? ⟨w2.heap.size, 0, none⟩ = some (.slice g k cg) := by rw [hW]; exact World.cell?_alloc_at _ _ _ _ rfl
    have x1 : W.cell? ⟨w2.heap.size, 1, none⟩ = some (.slice none 0 0) := by rw [hW]; exact World.cell?_alloc_at _ _ _ _ rfl
    rw [← hW]
    clear hB2 hB1 hb1 hB0 cf cn hW
    go_region_held3 (fun V => V.cell? ⟨w.heap.size, 0, none⟩ = some (.slice a ds.length c) ∧ V.cell? ⟨w.heap.size, 1, none⟩ = some (.slice a' qs.length c') ∧ V.cell? ⟨w2.heap.size, 0, none⟩ = some (.slice g k cg) ∧ V.cell? ⟨w2.heap.size, 1, none⟩ = some (.slice none 0 0))
      (first | exact ⟨r0, r1, x0, x1⟩ | exact ⟨cell_drew r0, cell_drew r1, cell_drew x0, cell_drew x1⟩ | exact ⟨cell_drew (cell_alloc r0 _), cell_drew (cell_alloc r1 _), cell_drew (cell_alloc x0 _), cell_drew (cell_alloc x1 _)⟩)
      (first | (go_at_call 11; refine (like_same g none _ none cg 0 k 0 k 0 R R [] [] _ HL HL0 hk6 (by omega) (HG.out.below (((Below.refl _ _).alloc (Nat.le_refl _) _).drew)) (IsP_nil _) ((hZ.out _ _ rfl).below ((Below.refl _ _).drew)) (IsP_nil _)).mono ?_; rw [hlr]; rintro e w' ⟨rfl, hb⟩; replace hB := Below.tr (hB.alloc hB.size _).drew hb; replace r0 := cell_below hb (cell_drew (cell_alloc r0 _)); replace r1 := cell_below hb (cell_drew (cell_alloc r1 _)); replace x0 := cell_below hb (cell_drew (cell_alloc x0 _)); replace x1 := cell_below hb (cell_drew (cell_alloc x1 _)); clear hb))
    go_wp2
    replace hB := hB.drew
    replace r0 := cell_drew r0
    replace r1 := cell_drew r1
    go_region_held3 (fun V => V.cell? ⟨w.heap.size, 0, none⟩ = some (.slice a ds.length c) ∧ V.cell? ⟨w.heap.size, 1, none⟩ = some (.slice a' qs.length c')) (exact ⟨r0, r1⟩) (first
      | (go_at_call 12; refine (alive_any _).mono ?_; rintro e w' ⟨rfl, hb⟩; replace hB := Below.tr hB hb; replace r0 := cell_below hb r0; replace r1 := cell_below hb r1; clear hb)
      | (go_at_call 13; refine (right_any a a' c c' ds qs _ (HS.out.below hB) (HP.out.below hB)).mono ?_; rintro e w' ⟨rfl, hb⟩; replace hB := Below.tr hB hb; replace r0 := cell_below hb r0; replace r1 := cell_below hb r1; clear hb)
      | (go_at_call 14; refine (refRight_any a a' c c' ds qs _ (HS.out.below hB) (HP.out.below hB)).mono ?_; rintro e w' ⟨rfl, hb⟩; replace hB := Below.tr hB hb; replace r0 := cell_below hb r0; replace r1 := cell_below hb r1; clear hb))
    go_wp2
    go_ret
    exact ⟨ret_bool (by simp), hB⟩
  · have e1 : newL n = [] := newL_bad hn
    have e2 : newE n = 1 := newE_bad hn
    have cn : ∀ W, Calls Try.prog 10 #[.int .i64 n] W fun e w' => ∃ a c, e = .returned (.tuple #[.agg #[.slice a 0 c, .slice none 0 0], .int .i64 1]) ∧ Below W.heap.size W w' := by
      intro W
      have := new_any n W
      rw [e1, e2] at this
      exact this.mono fun e w' ⟨a, c, h, _, hb⟩ => ⟨a, c, h, hb⟩
    clear e1 e2
    go_enter Try.func3, Try.ntmps3
    go_wp2_with (first
      | (go_at_call 9; refine cf.mono ?_; rintro e w1 ⟨rfl, hb1⟩; have hB1 := Below.tr hB0 hb1; obtain ⟨⟨q0, q1⟩, f0, f1⟩ := box_open hb1)
      | (go_at_call 10; refine (cn _).mono ?_; rintro e w2 ⟨g, cg, rfl, hb2⟩; obtain ⟨r0, r1⟩ := box_set q0 q1 hb2; have hB2 := below_set2 hB1 (Nat.le_refl _) hb2; clear q0 q1 f0 f1 hb2; replace r0 := cell_alloc r0; replace r1 := cell_alloc r1))
    all_goals (
      obtain ⟨W, hW⟩ : ∃ W, W = w2.alloc (.cells #[.slice g 0 cg, .slice none 0 0] 25) := ⟨_, rfl⟩
      have hB : Below w.heap.size w W.drew := by rw [hW]; exact (hB2.alloc hB2.size _).drew
      replace r0 : W.drew.cell? ⟨w.heap.size, 0, none⟩ = some (.slice a ds.length c) := by rw [hW]; exact r0 _
      replace r1 : W.drew.cell? ⟨w.heap.size, 1, none⟩ = some (.slice a' qs.length c') := by rw [hW]; exact r1 _
      rw [← hW]
      clear hB2 hB1 hb1 hB0 cf cn hW
      go_region_held3 (fun V => V.cell? ⟨w.heap.size, 0, none⟩ = some (.slice a ds.length c) ∧ V.cell? ⟨w.heap.size, 1, none⟩ = some (.slice a' qs.length c')) (exact ⟨r0, r1⟩) (first
        | (go_at_call 12; refine (alive_any _).mono ?_; rintro e w' ⟨rfl, hb⟩; replace hB := Below.tr hB hb; replace r0 := cell_below hb r0; replace r1 := cell_below hb r1; clear hb)
        | (go_at_call 13; refine (right_any a a' c c' ds qs _ (HS.out.below hB) (HP.out.below hB)).mono ?_; rintro e w' ⟨rfl, hb⟩; replace hB := Below.tr hB hb; replace r0 := cell_below hb r0; replace r1 := cell_below hb r1; clear hb)
        | (go_at_call 14; refine (refRight_any a a' c c' ds qs _ (HS.out.below hB) (HP.out.below hB)).mono ?_; rintro e w' ⟨rfl, hb⟩; replace hB := Below.tr hB hb; replace r0 := cell_below hb r0; replace r1 := cell_below hb r1; clear hb))
      go_wp2
      go_ret
      exact ⟨ret_bool (by simp), hB⟩)

end Go.Proofs.Ytogadbckiaghcaa

/-
  The walk of the law DeviceCalls: it returns true at all arguments.
-/
import Derived.Test.YtogadbckiaghcaaDevRefTells
import Derived.Test.YtogadbckiaghcaaDevRead
import Derived.Test.YtogadbckiaghcaaDevWrite
import Derived.Test.YtogadbckiaghcaaDevRight
import Derived.Test.YtogadbckiaghcaaDevLike
import Derived.Test.YtogadbckiaghcaaDevInts
import Derived.Deep.RegionHeld3
namespace Go.Proofs.Ytogadbckiaghcaa
open Go.RowKit Plain
set_option linter.unusedVariables false

theorem IsI_nil (w : World) : IsI w none 0 [] := ⟨Nat.le_refl _, Nat.zero_le _, fun j p h => by simp at h⟩

theorem maskOf_true (ms : List Int) : maskOf true ms = fun _ => 255 := rfl

theorem checkE_out {bs : List ByteArray} {ps : List (Int × ByteArray)} {k : Int} (h : rightD bs ps = true) (hk : ¬ (0 ≤ k ∧ k < bs.length)) : checkE bs ps k = 30 := by
  unfold checkE
  rw [if_pos h, if_neg (by simp; omega)]

theorem checkE_wrong {bs : List ByteArray} {ps : List (Int × ByteArray)} {k : Int} (h : rightD bs ps = false) : checkE bs ps k = 1 := by
  unfold checkE
  rw [if_neg (by rw [h]; decide)]

theorem checkE_in {bs : List ByteArray} {ps : List (Int × ByteArray)} {k : Int} (h : rightD bs ps = true) (h0 : 0 ≤ k) (h1 : k < bs.length) : checkE bs ps k = 0 := by
  unfold checkE
  rw [if_pos h, if_pos (by simp; omega)]

theorem writeE_check {bs : List ByteArray} {ps : List (Int × ByteArray)} {k : Int} {s : ByteArray} (h : checkE bs ps k ≠ 0) : writeE bs ps k s = checkE bs ps k := if_neg h

set_option maxRecDepth 20000 in
set_option maxHeartbeats 8000000 in
theorem deviceCalls_walk (a a' : Option Addr) (c c' : Nat) (bs : List ByteArray) (ps : List (Int × ByteArray)) (k : Int) (s : ByteArray) (w : World) (hS : IsS w a c bs) (hP : IsP w a' c' ps) (hk6 : (Lit.int .i64 k).wf = true) (hs : s.size ≤ maxLen) :
    Calls Try.prog 4 #[.agg #[.slice a bs.length c, .slice a' ps.length c'], .int .i64 k, .string s] w fun e w' => e = .returned (.bool true) ∧ Below w.heap.size w w' := by
  have hB0 : Below w.heap.size w (w.alloc (.cells #[.slice a bs.length c, .slice a' ps.length c'] 25)) := (Below.refl _ _).alloc (Nat.le_refl _) _
  have cf := few_any a a' c c' bs ps _ (hS.below hB0) (hP.below hB0)
  obtain ⟨ds, hds⟩ : ∃ ds, ds = fewS bs := ⟨_, rfl⟩
  obtain ⟨qs, hqs⟩ : ∃ qs, qs = fewP ps := ⟨_, rfl⟩
  have HS : Hid (IsS w a c ds) := by rw [hds]; exact hS.few
  have HP : Hid (IsP w a' c' qs) := by rw [hqs]; exact hP.few
  rw [← hds, ← hqs] at cf
  have hk7 : -9223372036854775808 ≤ k ∧ k ≤ 9223372036854775807 := by
    have h := hk6
    simp only [Lit.wf, Bool.and_eq_true, decide_eq_true_eq] at h
    exact h
  have hs' : s.size ≤ 9223372036854775807 := hs
  have hm : ds.length ≤ 9223372036854775807 := Nat.le_trans HS.out.1 HS.out.2.1
  have hm' : qs.length ≤ 9223372036854775807 := Nat.le_trans HP.out.1 HP.out.2.1
  clear hS hP hds hqs hk6
  have cR : ∀ W, Below w.heap.size w W → Calls Try.prog 15 #[.agg #[.slice a ds.length c, .slice a' qs.length c'], .int .i64 k] W fun r w' => r = .returned (.tuple #[.string (readS ds qs k), .int .i64 (checkE ds qs k)]) ∧ Below W.heap.size W w' :=
    fun W h => read_any a a' c c' ds qs k W (HS.out.below h) (HP.out.below h)
  have cW : ∀ W, Below w.heap.size w W → Calls Try.prog 16 #[.agg #[.slice a ds.length c, .slice a' qs.length c'], .int .i64 k, .string s] W fun e w' => ∃ b d b' d', e = .returned (.tuple #[.agg #[.slice b (writeB ds qs k s).length d, .slice b' (writeP ds qs k s).length d'], .int .i64 (writeE ds qs k s)]) ∧ IsS w' b d (writeB ds qs k s) ∧ IsP w' b' d' (writeP ds qs k s) ∧ Below W.heap.size W w' :=
    fun W h => write_any a a' c c' ds qs k s W (HS.out.below h) (HP.out.below h) hk7 hs
  have cX : ∀ W, Below w.heap.size w W → Calls Try.prog 17 #[.agg #[.slice a ds.length c, .slice a' qs.length c']] W fun r w' => ∃ b d, r = .returned (.tuple #[.agg #[.slice b (flushL ds qs).length d, .slice none 0 0], .int .i64 (rightE ds qs)]) ∧ IsS w' b d (flushL ds qs) ∧ Below W.heap.size W w' :=
    fun W h => flush_any a a' c c' ds qs W (HS.out.below h) (HP.out.below h)
  obtain ⟨B1, hB1⟩ : ∃ B1, B1 = writeB ds qs k s := ⟨_, rfl⟩
  obtain ⟨P1, hP1⟩ : ∃ P1, P1 = writeP ds qs k s := ⟨_, rfl⟩
  obtain ⟨xs, hxs⟩ : ∃ xs, xs = flushL ds qs := ⟨_, rfl⟩
  obtain ⟨z, hz⟩ : ∃ z, z = readS ds qs k := ⟨_, rfl⟩
  rw [← hB1, ← hP1] at cW
  rw [← hxs] at cX
  rw [← hz] at cR
  cases hr : rightD ds qs with
  | false =>
    have e1 : checkE ds qs k = 1 := checkE_wrong hr
    have e2 : writeE ds qs k s = 1 := by rw [writeE_check (by rw [e1]; decide), e1]
    have e3 : rightE ds qs = 1 := by unfold rightE; rw [hr]; rfl
    have e4 : B1 = [] := by rw [hB1, (write_bad (by rw [e2]; decide)).1]
    have e5 : xs = [] := by rw [hxs]; unfold flushL; rw [hr]; rfl
    have e6 : z = ⟨#[]⟩ := by rw [hz]; exact readS_bad (by rw [e1]; decide)
    rw [e1] at cR
    rw [e2] at cW
    rw [e3] at cX
    clear hB1 hP1 hxs hz e1 e2 e3
    subst e4 e5 e6
    go_enter Try.func4, Try.ntmps4
    go_wp2_with (first
        | (go_at_call 9; refine cf.mono ?_; rintro e w1 ⟨rfl, hb1⟩; have hB := Below.tr hB0 hb1; obtain ⟨⟨q0, q1⟩, f0, f1⟩ := box_open hb1)
        | (go_at_call 15; refine (cR _ ((hB.setCell (p := ⟨w.heap.size, 0, none⟩) (Nat.le_refl _) _).setCell (p := ⟨w.heap.size, 1, none⟩) (Nat.le_refl _) _)).mono ?_; rintro e w2 ⟨rfl, hb2⟩; obtain ⟨r0, r1⟩ := box_set q0 q1 hb2; replace hB := below_set2 hB (Nat.le_refl _) hb2; clear q0 q1 f0 f1 hb2)
        | (go_at_call 16; refine (cW _ hB).mono ?_; rintro e w3 ⟨g, cg, g', cg', rfl, hG, hG', hb⟩; replace hB := Below.tr hB hb; replace hB := hB.alloc hB.size (.cells #[.slice g 0 cg, .slice g' P1.length cg'] 25); replace r0 := cell_alloc (cell_below hb r0) (.cells #[.slice g 0 cg, .slice g' P1.length cg'] 25); replace r1 := cell_alloc (cell_below hb r1) (.cells #[.slice g 0 cg, .slice g' P1.length cg'] 25); have HG : Hid (IsS (w3.alloc (.cells #[.slice g 0 cg, .slice g' P1.length cg'] 25)) g cg []) := (hG).below ((Below.refl _ _).alloc (Nat.le_refl _) _); have HGp : Hid (IsP (w3.alloc (.cells #[.slice g 0 cg, .slice g' P1.length cg'] 25)) g' cg' P1) := (hG').below ((Below.refl _ _).alloc (Nat.le_refl _) _); clear hG hG' hb)
        | (go_at_call 17; refine (cX _ hB).mono ?_; rintro e w4 ⟨x, cx, rfl, hX, hb⟩; obtain ⟨g0, g1⟩ := box_cells hb; replace hB := Below.tr hB hb; replace hB := hB.alloc hB.size (.cells #[.slice x 0 cx, .slice none 0 0] 25); replace r0 := cell_alloc (cell_below hb r0) (.cells #[.slice x 0 cx, .slice none 0 0] 25); replace r1 := cell_alloc (cell_below hb r1) (.cells #[.slice x 0 cx, .slice none 0 0] 25); replace g0 := cell_alloc g0 (.cells #[.slice x 0 cx, .slice none 0 0] 25); replace g1 := cell_alloc g1 (.cells #[.slice x 0 cx, .slice none 0 0] 25); replace HG : Hid (IsS (w4.alloc (.cells #[.slice x 0 cx, .slice none 0 0] 25)) g cg []) := (HG.out.below hb).below ((Below.refl _ _).alloc (Nat.le_refl _) _); replace HGp : Hid (IsP (w4.alloc (.cells #[.slice x 0 cx, .slice none 0 0] 25)) g' cg' P1) := (HGp.out.below hb).below ((Below.refl _ _).alloc (Nat.le_refl _) _); have HX : Hid (IsS (w4.alloc (.cells #[.slice x 0 cx, .slice none 0 0] 25)) x cx []) := (hX).below ((Below.refl _ _).alloc (Nat.le_refl _) _); clear hX hb)
        | (go_at_call 14; refine (refRight_any a a' c c' ds qs _ (HS.out.below hB) (HP.out.below hB)).mono ?_; rw [hr]; rintro e w5 ⟨rfl, hb⟩; obtain ⟨x0, x1⟩ := box_cells hb; replace r0 := cell_below hb r0; replace r1 := cell_below hb r1; replace g0 := cell_below hb g0; replace g1 := cell_below hb g1; replace hB := Below.tr hB hb; replace HG : Hid (IsS w5 g cg []) := HG.out.below hb; replace HGp : Hid (IsP w5 g' cg' P1) := HGp.out.below hb; replace HX : Hid (IsS w5 x cx []) := HX.out.below hb; clear hb)
        | (go_at_call 12; refine (alive_any _).mono ?_; rintro e w6 ⟨rfl, hb⟩; replace r0 := cell_below hb r0; replace r1 := cell_below hb r1; replace g0 := cell_below hb g0; replace g1 := cell_below hb g1; replace x0 := cell_below hb x0; replace x1 := cell_below hb x1; replace hB := Below.tr hB hb; replace HG : Hid (IsS w6 g cg []) := HG.out.below hb; replace HGp : Hid (IsP w6 g' cg' P1) := HGp.out.below hb; replace HX : Hid (IsS w6 x cx []) := HX.out.below hb; clear hb))
    go_ret
    exact ⟨rfl, hB⟩
  | true =>
    have e3 : rightE ds qs = 0 := by unfold rightE; rw [hr]; rfl
    have hfl : xs = crashL (maskOf true []) ds qs := by rw [hxs, maskOf_true]; unfold flushL; rw [if_pos hr]
    have cC : ∀ W, Below w.heap.size w W → Calls Try.prog 18 #[.agg #[.slice a ds.length c, .slice a' qs.length c'], .bool true, .slice none 0 0] W fun r w' => ∃ b d, r = .returned (.agg #[.slice b xs.length d, .slice none 0 0]) ∧ IsS w' b d xs ∧ Below W.heap.size W w' := by
      intro W h
      have := refCrash_any a a' none c c' 0 ds qs true [] W (HS.out.below h) (HP.out.below h) (IsI_nil _) hr
      rw [← hfl] at this
      exact this
    have hlr : likeD xs xs [] [] = true := by unfold likeD; rw [decide_eq_true rfl]; rfl
    rw [e3] at cX
    clear e3 hxs hfl
    by_cases hin : 0 ≤ k ∧ k < ds.length
    · obtain ⟨hk0, hk1⟩ := hin
      have e1 : checkE ds qs k = 0 := checkE_in hr hk0 hk1
      obtain ⟨m, rfl⟩ : ∃ m : Nat, k = m := ⟨k.toNat, by omega⟩
      have hz' : z = tellsS ds qs m := by rw [hz]; unfold readS; rw [if_pos e1]; rfl
      have cT : ∀ W, Below w.heap.size w W → Calls Try.prog 19 #[.agg #[.slice a ds.length c, .slice a' qs.length c'], .int .i64 m] W fun r w' => r = .returned (.string z) ∧ Below W.heap.size W w' := by
        intro W h
        rw [hz']
        exact refTells_any a a' c c' ds qs m W (HS.out.below h) (HP.out.below h) (by omega)
      have hzz : (!z.toList == z.toList) = false := str_ne_false rfl
      obtain ⟨⟨-, -, h3⟩, -, -⟩ := (rightD_iff ds qs).1 hr
      rw [e1] at cR
      clear hz hz'
      by_cases hlong : 4096 < s.size ∨ qs.length = 2048
      · have e2 : writeE ds qs m s = 2 := by unfold writeE; rw [if_pos e1, if_pos hlong]
        have e4 : B1 = [] := by rw [hB1, (write_bad (by rw [e2]; decide)).1]
        have e5 : P1 = [] := by rw [hP1, (write_bad (by rw [e2]; decide)).2]
        rw [e2] at cW
        clear hB1 hP1 e1 e2
        subst e4 e5
        by_cases hb1 : 4096 < s.size
        · have hb1' : (s.size : Int) > 4096 := by omega
          go_enter Try.func4, Try.ntmps4
          go_wp2_with (first
            | (go_at_call 9; refine cf.mono ?_; rintro e w1 ⟨rfl, hb1⟩; have hB := Below.tr hB0 hb1; obtain ⟨⟨q0, q1⟩, f0, f1⟩ := box_open hb1)
            | (go_at_call 15; refine (cR _ ((hB.setCell (p := ⟨w.heap.size, 0, none⟩) (Nat.le_refl _) _).setCell (p := ⟨w.heap.size, 1, none⟩) (Nat.le_refl _) _)).mono ?_; rintro e w2 ⟨rfl, hb2⟩; obtain ⟨r0, r1⟩ := box_set q0 q1 hb2; replace hB := below_set2 hB (Nat.le_refl _) hb2; clear q0 q1 f0 f1 hb2)
            | (go_at_call 16; refine (cW _ hB).mono ?_; rintro e w3 ⟨g, cg, g', cg', rfl, hG, hG', hb⟩; replace hB := Below.tr hB hb; replace hB := hB.alloc hB.size (.cells #[.slice g 0 cg, .slice g' 0 cg'] 25); replace r0 := cell_alloc (cell_below hb r0) (.cells #[.slice g 0 cg, .slice g' 0 cg'] 25); replace r1 := cell_alloc (cell_below hb r1) (.cells #[.slice g 0 cg, .slice g' 0 cg'] 25); have HG : Hid (IsS (w3.alloc (.cells #[.slice g 0 cg, .slice g' 0 cg'] 25)) g cg []) := (hG).below ((Below.refl _ _).alloc (Nat.le_refl _) _); have HGp : Hid (IsP (w3.alloc (.cells #[.slice g 0 cg, .slice g' 0 cg'] 25)) g' cg' []) := (hG').below ((Below.refl _ _).alloc (Nat.le_refl _) _); clear hG hG' hb)
            | (go_at_call 17; refine (cX _ hB).mono ?_; rintro e w4 ⟨x, cx, rfl, hX, hb⟩; obtain ⟨g0, g1⟩ := box_cells hb; replace hB := Below.tr hB hb; replace hB := hB.alloc hB.size (.cells #[.slice x xs.length cx, .slice none 0 0] 25); replace r0 := cell_alloc (cell_below hb r0) (.cells #[.slice x xs.length cx, .slice none 0 0] 25); replace r1 := cell_alloc (cell_below hb r1) (.cells #[.slice x xs.length cx, .slice none 0 0] 25); replace g0 := cell_alloc g0 (.cells #[.slice x xs.length cx, .slice none 0 0] 25); replace g1 := cell_alloc g1 (.cells #[.slice x xs.length cx, .slice none 0 0] 25); replace HG : Hid (IsS (w4.alloc (.cells #[.slice x xs.length cx, .slice none 0 0] 25)) g cg []) := (HG.out.below hb).below ((Below.refl _ _).alloc (Nat.le_refl _) _); replace HGp : Hid (IsP (w4.alloc (.cells #[.slice x xs.length cx, .slice none 0 0] 25)) g' cg' []) := (HGp.out.below hb).below ((Below.refl _ _).alloc (Nat.le_refl _) _); have HX : Hid (IsS (w4.alloc (.cells #[.slice x xs.length cx, .slice none 0 0] 25)) x cx xs) := (hX).below ((Below.refl _ _).alloc (Nat.le_refl _) _); clear hX hb)
            | (go_at_call 14; refine (refRight_any a a' c c' ds qs _ (HS.out.below hB) (HP.out.below hB)).mono ?_; rw [hr]; rintro e w5 ⟨rfl, hb⟩; obtain ⟨x0, x1⟩ := box_cells hb; replace r0 := cell_below hb r0; replace r1 := cell_below hb r1; replace g0 := cell_below hb g0; replace g1 := cell_below hb g1; replace hB := Below.tr hB hb; replace HG : Hid (IsS w5 g cg []) := HG.out.below hb; replace HGp : Hid (IsP w5 g' cg' []) := HGp.out.below hb; replace HX : Hid (IsS w5 x cx xs) := HX.out.below hb; clear hb))
          replace hB := hB.drew
          replace HG : Hid (IsS w5.drew g cg []) := HG.out.below (Below.refl _ _).drew
          replace HGp : Hid (IsP w5.drew g' cg' []) := HGp.out.below (Below.refl _ _).drew
          replace HX : Hid (IsS w5.drew x cx xs) := HX.out.below (Below.refl _ _).drew
          go_region_held3 (fun V => ((V.cell? ⟨w.heap.size, 0, none⟩ = some (.slice a ds.length c) ∧ V.cell? ⟨w.heap.size, 1, none⟩ = some (.slice a' qs.length c')) ∧ V.cell? ⟨w3.heap.size, 0, none⟩ = some (.slice g 0 cg) ∧ V.cell? ⟨w3.heap.size, 1, none⟩ = some (.slice g' 0 cg')) ∧ V.cell? ⟨w4.heap.size, 0, none⟩ = some (.slice x xs.length cx) ∧ V.cell? ⟨w4.heap.size, 1, none⟩ = some (.slice none 0 0))
            (exact ⟨⟨⟨r0, r1⟩, g0, g1⟩, x0, x1⟩) (first
            | (go_at_call 18; refine (cC _ hB).mono ?_; rintro e w' ⟨y, cy, rfl, hY, hb⟩; have HY : Hid (IsS w' y cy xs) := hY; replace r0 := cell_below hb r0; replace r1 := cell_below hb r1; replace g0 := cell_below hb g0; replace g1 := cell_below hb g1; replace x0 := cell_below hb x0; replace x1 := cell_below hb x1; replace hB := Below.tr hB hb; replace HG : Hid (IsS w' g cg []) := HG.out.below hb; replace HGp : Hid (IsP w' g' cg' []) := HGp.out.below hb; replace HX : Hid (IsS w' x cx xs) := HX.out.below hb; clear hb; clear hY)
            | (go_at_call 11; refine (like_any x none y none cx 0 cy 0 xs xs [] [] _ HX.out (IsP_nil _) HY.out (IsP_nil _)).mono ?_; rw [hlr]; rintro e w' ⟨rfl, hb⟩; replace r0 := cell_below hb r0; replace r1 := cell_below hb r1; replace g0 := cell_below hb g0; replace g1 := cell_below hb g1; replace x0 := cell_below hb x0; replace x1 := cell_below hb x1; replace hB := Below.tr hB hb; replace HG : Hid (IsS w' g cg []) := HG.out.below hb; replace HGp : Hid (IsP w' g' cg' []) := HGp.out.below hb; replace HX : Hid (IsS w' x cx xs) := HX.out.below hb; clear hb))
          go_wp2_with (first
            | (go_at_call 19; refine (cT _ hB).mono ?_; rintro e w7 ⟨rfl, hb⟩; replace r0 := cell_below hb r0; replace r1 := cell_below hb r1; replace g0 := cell_below hb g0; replace g1 := cell_below hb g1; replace x0 := cell_below hb x0; replace x1 := cell_below hb x1; replace hB := Below.tr hB hb; replace HG : Hid (IsS w7 g cg []) := HG.out.below hb; replace HGp : Hid (IsP w7 g' cg' []) := HGp.out.below hb; replace HX : Hid (IsS w7 x cx xs) := HX.out.below hb; clear hb)
            | (go_at_call 12; refine (alive_any _).mono ?_; rintro e w6 ⟨rfl, hb⟩; replace r0 := cell_below hb r0; replace r1 := cell_below hb r1; replace g0 := cell_below hb g0; replace g1 := cell_below hb g1; replace x0 := cell_below hb x0; replace x1 := cell_below hb x1; replace hB := Below.tr hB hb; replace HG : Hid (IsS w6 g cg []) := HG.out.below hb; replace HGp : Hid (IsP w6 g' cg' []) := HGp.out.below hb; replace HX : Hid (IsS w6 x cx xs) := HX.out.below hb; clear hb))
          go_ret
          exact ⟨rfl, hB⟩
        · have hb1' : ¬ (s.size : Int) > 4096 := by omega
          have hb2' : (2048 : Int) ≤ qs.length := by omega
          go_enter Try.func4, Try.ntmps4
          go_wp2_with (first
            | (go_at_call 9; refine cf.mono ?_; rintro e w1 ⟨rfl, hb1⟩; have hB := Below.tr hB0 hb1; obtain ⟨⟨q0, q1⟩, f0, f1⟩ := box_open hb1)
            | (go_at_call 15; refine (cR _ ((hB.setCell (p := ⟨w.heap.size, 0, none⟩) (Nat.le_refl _) _).setCell (p := ⟨w.heap.size, 1, none⟩) (Nat.le_refl _) _)).mono ?_; rintro e w2 ⟨rfl, hb2⟩; obtain ⟨r0, r1⟩ := box_set q0 q1 hb2; replace hB := below_set2 hB (Nat.le_refl _) hb2; clear q0 q1 f0 f1 hb2)
            | (go_at_call 16; refine (cW _ hB).mono ?_; rintro e w3 ⟨g, cg, g', cg', rfl, hG, hG', hb⟩; replace hB := Below.tr hB hb; replace hB := hB.alloc hB.size (.cells #[.slice g 0 cg, .slice g' 0 cg'] 25); replace r0 := cell_alloc (cell_below hb r0) (.cells #[.slice g 0 cg, .slice g' 0 cg'] 25); replace r1 := cell_alloc (cell_below hb r1) (.cells #[.slice g 0 cg, .slice g' 0 cg'] 25); have HG : Hid (IsS (w3.alloc (.cells #[.slice g 0 cg, .slice g' 0 cg'] 25)) g cg []) := (hG).below ((Below.refl _ _).alloc (Nat.le_refl _) _); have HGp : Hid (IsP (w3.alloc (.cells #[.slice g 0 cg, .slice g' 0 cg'] 25)) g' cg' []) := (hG').below ((Below.refl _ _).alloc (Nat.le_refl _) _); clear hG hG' hb)
            | (go_at_call 17; refine (cX _ hB).mono ?_; rintro e w4 ⟨x, cx, rfl, hX, hb⟩; obtain ⟨g0, g1⟩ := box_cells hb; replace hB := Below.tr hB hb; replace hB := hB.alloc hB.size (.cells #[.slice x xs.length cx, .slice none 0 0] 25); replace r0 := cell_alloc (cell_below hb r0) (.cells #[.slice x xs.length cx, .slice none 0 0] 25); replace r1 := cell_alloc (cell_below hb r1) (.cells #[.slice x xs.length cx, .slice none 0 0] 25); replace g0 := cell_alloc g0 (.cells #[.slice x xs.length cx, .slice none 0 0] 25); replace g1 := cell_alloc g1 (.cells #[.slice x xs.length cx, .slice none 0 0] 25); replace HG : Hid (IsS (w4.alloc (.cells #[.slice x xs.length cx, .slice none 0 0] 25)) g cg []) := (HG.out.below hb).below ((Below.refl _ _).alloc (Nat.le_refl _) _); replace HGp : Hid (IsP (w4.alloc (.cells #[.slice x xs.length cx, .slice none 0 0] 25)) g' cg' []) := (HGp.out.below hb).below ((Below.refl _ _).alloc (Nat.le_refl _) _); have HX : Hid (IsS (w4.alloc (.cells #[.slice x xs.length cx, .slice none 0 0] 25)) x cx xs) := (hX).below ((Below.refl _ _).alloc (Nat.le_refl _) _); clear hX hb)
            | (go_at_call 14; refine (refRight_any a a' c c' ds qs _ (HS.out.below hB) (HP.out.below hB)).mono ?_; rw [hr]; rintro e w5 ⟨rfl, hb⟩; obtain ⟨x0, x1⟩ := box_cells hb; replace r0 := cell_below hb r0; replace r1 := cell_below hb r1; replace g0 := cell_below hb g0; replace g1 := cell_below hb g1; replace hB := Below.tr hB hb; replace HG : Hid (IsS w5 g cg []) := HG.out.below hb; replace HGp : Hid (IsP w5 g' cg' []) := HGp.out.below hb; replace HX : Hid (IsS w5 x cx xs) := HX.out.below hb; clear hb))
          replace hB := hB.drew
          replace HG : Hid (IsS w5.drew g cg []) := HG.out.below (Below.refl _ _).drew
          replace HGp : Hid (IsP w5.drew g' cg' []) := HGp.out.below (Below.refl _ _).drew
          replace HX : Hid (IsS w5.drew x cx xs) := HX.out.below (Below.refl _ _).drew
          go_region_held3 (fun V => ((V.cell? ⟨w.heap.size, 0, none⟩ = some (.slice a ds.length c) ∧ V.cell? ⟨w.heap.size, 1, none⟩ = some (.slice a' qs.length c')) ∧ V.cell? ⟨w3.heap.size, 0, none⟩ = some (.slice g 0 cg) ∧ V.cell? ⟨w3.heap.size, 1, none⟩ = some (.slice g' 0 cg')) ∧ V.cell? ⟨w4.heap.size, 0, none⟩ = some (.slice x xs.length cx) ∧ V.cell? ⟨w4.heap.size, 1, none⟩ = some (.slice none 0 0))
            (exact ⟨⟨⟨r0, r1⟩, g0, g1⟩, x0, x1⟩) (first
            | (go_at_call 18; refine (cC _ hB).mono ?_; rintro e w' ⟨y, cy, rfl, hY, hb⟩; have HY : Hid (IsS w' y cy xs) := hY; replace r0 := cell_below hb r0; replace r1 := cell_below hb r1; replace g0 := cell_below hb g0; replace g1 := cell_below hb g1; replace x0 := cell_below hb x0; replace x1 := cell_below hb x1; replace hB := Below.tr hB hb; replace HG : Hid (IsS w' g cg []) := HG.out.below hb; replace HGp : Hid (IsP w' g' cg' []) := HGp.out.below hb; replace HX : Hid (IsS w' x cx xs) := HX.out.below hb; clear hb; clear hY)
            | (go_at_call 11; refine (like_any x none y none cx 0 cy 0 xs xs [] [] _ HX.out (IsP_nil _) HY.out (IsP_nil _)).mono ?_; rw [hlr]; rintro e w' ⟨rfl, hb⟩; replace r0 := cell_below hb r0; replace r1 := cell_below hb r1; replace g0 := cell_below hb g0; replace g1 := cell_below hb g1; replace x0 := cell_below hb x0; replace x1 := cell_below hb x1; replace hB := Below.tr hB hb; replace HG : Hid (IsS w' g cg []) := HG.out.below hb; replace HGp : Hid (IsP w' g' cg' []) := HGp.out.below hb; replace HX : Hid (IsS w' x cx xs) := HX.out.below hb; clear hb))
          go_wp2_with (first
            | (go_at_call 19; refine (cT _ hB).mono ?_; rintro e w7 ⟨rfl, hb⟩; replace r0 := cell_below hb r0; replace r1 := cell_below hb r1; replace g0 := cell_below hb g0; replace g1 := cell_below hb g1; replace x0 := cell_below hb x0; replace x1 := cell_below hb x1; replace hB := Below.tr hB hb; replace HG : Hid (IsS w7 g cg []) := HG.out.below hb; replace HGp : Hid (IsP w7 g' cg' []) := HGp.out.below hb; replace HX : Hid (IsS w7 x cx xs) := HX.out.below hb; clear hb)
            | (go_at_call 12; refine (alive_any _).mono ?_; rintro e w6 ⟨rfl, hb⟩; replace r0 := cell_below hb r0; replace r1 := cell_below hb r1; replace g0 := cell_below hb g0; replace g1 := cell_below hb g1; replace x0 := cell_below hb x0; replace x1 := cell_below hb x1; replace hB := Below.tr hB hb; replace HG : Hid (IsS w6 g cg []) := HG.out.below hb; replace HGp : Hid (IsP w6 g' cg' []) := HGp.out.below hb; replace HX : Hid (IsS w6 x cx xs) := HX.out.below hb; clear hb))
          go_ret
          exact ⟨rfl, hB⟩
      · have e2 : writeE ds qs m s = 0 := by unfold writeE; rw [if_pos e1, if_neg hlong]
        have e4 : B1 = ds := by rw [hB1, (write_ok e2).1]
        have e5 : P1 = qs ++ [((m : Int), trimS s)] := by rw [hP1, (write_ok e2).2]
        rw [e2] at cW
        have hb1' : ¬ (s.size : Int) > 4096 := by omega
        have hb2' : ¬ (2048 : Int) ≤ qs.length := by omega
        have cQ : ∀ W, Below w.heap.size w W → Calls Try.prog 20 #[.agg #[.slice a ds.length c, .slice a' qs.length c'], .int .i64 m, .string s] W fun r w' => ∃ g cap, r = .returned (.agg #[.slice a ds.length c, .slice g P1.length cap]) ∧ IsP w' g cap P1 ∧ Below W.heap.size W w' := by
          intro W h
          have := refWrite_any a a' c c' ds qs m s W (HS.out.below h) (HP.out.below h) hk7 hs (by omega)
          rw [← e5, show qs.length + 1 = P1.length by rw [e5, List.length_append]; rfl] at this
          exact this.mono fun e w' ⟨g, cap, h1, h2, h3⟩ => ⟨_, cap, h1, h2, h3⟩
        have hlw : likeD ds ds P1 P1 = true := by unfold likeD; rw [decide_eq_true rfl, decide_eq_true rfl]; rfl
        clear hB1 hP1 e1 e2 e5
        rw [e4] at cW
        clear e4
        go_enter Try.func4, Try.ntmps4
        go_wp2_with (first
          | (go_at_call 9; refine cf.mono ?_; rintro e w1 ⟨rfl, hb1⟩; have hB := Below.tr hB0 hb1; obtain ⟨⟨q0, q1⟩, f0, f1⟩ := box_open hb1)
          | (go_at_call 15; refine (cR _ ((hB.setCell (p := ⟨w.heap.size, 0, none⟩) (Nat.le_refl _) _).setCell (p := ⟨w.heap.size, 1, none⟩) (Nat.le_refl _) _)).mono ?_; rintro e w2 ⟨rfl, hb2⟩; obtain ⟨r0, r1⟩ := box_set q0 q1 hb2; replace hB := below_set2 hB (Nat.le_refl _) hb2; clear q0 q1 f0 f1 hb2)
          | (go_at_call 16; refine (cW _ hB).mono ?_; rintro e w3 ⟨g, cg, g', cg', rfl, hG, hG', hb⟩; replace hB := Below.tr hB hb; replace hB := hB.alloc hB.size (.cells #[.slice g ds.length cg, .slice g' P1.length cg'] 25); replace r0 := cell_alloc (cell_below hb r0) (.cells #[.slice g ds.length cg, .slice g' P1.length cg'] 25); replace r1 := cell_alloc (cell_below hb r1) (.cells #[.slice g ds.length cg, .slice g' P1.length cg'] 25); have HG : Hid (IsS (w3.alloc (.cells #[.slice g ds.length cg, .slice g' P1.length cg'] 25)) g cg ds) := (hG).below ((Below.refl _ _).alloc (Nat.le_refl _) _); have HGp : Hid (IsP (w3.alloc (.cells #[.slice g ds.length cg, .slice g' P1.length cg'] 25)) g' cg' P1) := (hG').below ((Below.refl _ _).alloc (Nat.le_refl _) _); clear hG hG' hb)
          | (go_at_call 17; refine (cX _ hB).mono ?_; rintro e w4 ⟨x, cx, rfl, hX, hb⟩; obtain ⟨g0, g1⟩ := box_cells hb; replace hB := Below.tr hB hb; replace hB := hB.alloc hB.size (.cells #[.slice x xs.length cx, .slice none 0 0] 25); replace r0 := cell_alloc (cell_below hb r0) (.cells #[.slice x xs.length cx, .slice none 0 0] 25); replace r1 := cell_alloc (cell_below hb r1) (.cells #[.slice x xs.length cx, .slice none 0 0] 25); replace g0 := cell_alloc g0 (.cells #[.slice x xs.length cx, .slice none 0 0] 25); replace g1 := cell_alloc g1 (.cells #[.slice x xs.length cx, .slice none 0 0] 25); replace HG : Hid (IsS (w4.alloc (.cells #[.slice x xs.length cx, .slice none 0 0] 25)) g cg ds) := (HG.out.below hb).below ((Below.refl _ _).alloc (Nat.le_refl _) _); replace HGp : Hid (IsP (w4.alloc (.cells #[.slice x xs.length cx, .slice none 0 0] 25)) g' cg' P1) := (HGp.out.below hb).below ((Below.refl _ _).alloc (Nat.le_refl _) _); have HX : Hid (IsS (w4.alloc (.cells #[.slice x xs.length cx, .slice none 0 0] 25)) x cx xs) := (hX).below ((Below.refl _ _).alloc (Nat.le_refl _) _); clear hX hb)
          | (go_at_call 14; refine (refRight_any a a' c c' ds qs _ (HS.out.below hB) (HP.out.below hB)).mono ?_; rw [hr]; rintro e w5 ⟨rfl, hb⟩; obtain ⟨x0, x1⟩ := box_cells hb; replace r0 := cell_below hb r0; replace r1 := cell_below hb r1; replace g0 := cell_below hb g0; replace g1 := cell_below hb g1; replace hB := Below.tr hB hb; replace HG : Hid (IsS w5 g cg ds) := HG.out.below hb; replace HGp : Hid (IsP w5 g' cg' P1) := HGp.out.below hb; replace HX : Hid (IsS w5 x cx xs) := HX.out.below hb; clear hb))
        replace hB := hB.drew
        replace HG : Hid (IsS w5.drew g cg ds) := HG.out.below (Below.refl _ _).drew
        replace HGp : Hid (IsP w5.drew g' cg' P1) := HGp.out.below (Below.refl _ _).drew
        replace HX : Hid (IsS w5.drew x cx xs) := HX.out.below (Below.refl _ _).drew
        go_region_held3 (fun V => ((V.cell? ⟨w.heap.size, 0, none⟩ = some (.slice a ds.length c) ∧ V.cell? ⟨w.heap.size, 1, none⟩ = some (.slice a' qs.length c')) ∧ V.cell? ⟨w3.heap.size, 0, none⟩ = some (.slice g ds.length cg) ∧ V.cell? ⟨w3.heap.size, 1, none⟩ = some (.slice g' P1.length cg')) ∧ V.cell? ⟨w4.heap.size, 0, none⟩ = some (.slice x xs.length cx) ∧ V.cell? ⟨w4.heap.size, 1, none⟩ = some (.slice none 0 0))
          (exact ⟨⟨⟨r0, r1⟩, g0, g1⟩, x0, x1⟩) (first
          | (go_at_call 18; refine (cC _ hB).mono ?_; rintro e w' ⟨y, cy, rfl, hY, hb⟩; have HY : Hid (IsS w' y cy xs) := hY; replace r0 := cell_below hb r0; replace r1 := cell_below hb r1; replace g0 := cell_below hb g0; replace g1 := cell_below hb g1; replace x0 := cell_below hb x0; replace x1 := cell_below hb x1; replace hB := Below.tr hB hb; replace HG : Hid (IsS w' g cg ds) := HG.out.below hb; replace HGp : Hid (IsP w' g' cg' P1) := HGp.out.below hb; replace HX : Hid (IsS w' x cx xs) := HX.out.below hb; clear hb; clear hY)
          | (go_at_call 11; refine (like_any x none y none cx 0 cy 0 xs xs [] [] _ HX.out (IsP_nil _) HY.out (IsP_nil _)).mono ?_; rw [hlr]; rintro e w' ⟨rfl, hb⟩; replace r0 := cell_below hb r0; replace r1 := cell_below hb r1; replace g0 := cell_below hb g0; replace g1 := cell_below hb g1; replace x0 := cell_below hb x0; replace x1 := cell_below hb x1; replace hB := Below.tr hB hb; replace HG : Hid (IsS w' g cg ds) := HG.out.below hb; replace HGp : Hid (IsP w' g' cg' P1) := HGp.out.below hb; replace HX : Hid (IsS w' x cx xs) := HX.out.below hb; clear hb))
        go_wp2_with (first
          | (go_at_call 19; refine (cT _ hB).mono ?_; rintro e w7 ⟨rfl, hb⟩; replace r0 := cell_below hb r0; replace r1 := cell_below hb r1; replace g0 := cell_below hb g0; replace g1 := cell_below hb g1; replace x0 := cell_below hb x0; replace x1 := cell_below hb x1; replace hB := Below.tr hB hb; replace HG : Hid (IsS w7 g cg ds) := HG.out.below hb; replace HGp : Hid (IsP w7 g' cg' P1) := HGp.out.below hb; replace HX : Hid (IsS w7 x cx xs) := HX.out.below hb; clear hb)
  )
        replace hB := hB.drew
        replace HG : Hid (IsS w7.drew g cg ds) := HG.out.below (Below.refl _ _).drew
        replace HGp : Hid (IsP w7.drew g' cg' P1) := HGp.out.below (Below.refl _ _).drew
        replace HX : Hid (IsS w7.drew x cx xs) := HX.out.below (Below.refl _ _).drew
        go_region_held3 (fun V => ((V.cell? ⟨w.heap.size, 0, none⟩ = some (.slice a ds.length c) ∧ V.cell? ⟨w.heap.size, 1, none⟩ = some (.slice a' qs.length c')) ∧ V.cell? ⟨w3.heap.size, 0, none⟩ = some (.slice g ds.length cg) ∧ V.cell? ⟨w3.heap.size, 1, none⟩ = some (.slice g' P1.length cg')) ∧ V.cell? ⟨w4.heap.size, 0, none⟩ = some (.slice x xs.length cx) ∧ V.cell? ⟨w4.heap.size, 1, none⟩ = some (.slice none 0 0))
          (exact ⟨⟨⟨r0, r1⟩, g0, g1⟩, x0, x1⟩) (first
          | (go_at_call 12; refine (alive_any _).mono ?_; rintro e w' ⟨rfl, hb⟩; replace r0 := cell_below hb r0; replace r1 := cell_below hb r1; replace g0 := cell_below hb g0; replace g1 := cell_below hb g1; replace x0 := cell_below hb x0; replace x1 := cell_below hb x1; replace hB := Below.tr hB hb; replace HG : Hid (IsS w' g cg ds) := HG.out.below hb; replace HGp : Hid (IsP w' g' cg' P1) := HGp.out.below hb; replace HX : Hid (IsS w' x cx xs) := HX.out.below hb; clear hb)
          | (go_at_call 20; refine (cQ _ hB).mono ?_; rintro e w' ⟨v, cv, rfl, hV, hb⟩; have HV : Hid (IsP w' v cv P1) := hV; replace r0 := cell_below hb r0; replace r1 := cell_below hb r1; replace g0 := cell_below hb g0; replace g1 := cell_below hb g1; replace x0 := cell_below hb x0; replace x1 := cell_below hb x1; replace hB := Below.tr hB hb; replace HG : Hid (IsS w' g cg ds) := HG.out.below hb; replace HGp : Hid (IsP w' g' cg' P1) := HGp.out.below hb; replace HX : Hid (IsS w' x cx xs) := HX.out.below hb; clear hb; clear hV)
          | (go_at_call 11; refine (like_any g g' a v cg cg' c cv ds ds P1 P1 _ HG.out HGp.out (HS.out.below hB) HV.out).mono ?_; rw [hlw]; rintro e w' ⟨rfl, hb⟩; replace r0 := cell_below hb r0; replace r1 := cell_below hb r1; replace g0 := cell_below hb g0; replace g1 := cell_below hb g1; replace x0 := cell_below hb x0; replace x1 := cell_below hb x1; replace hB := Below.tr hB hb; replace HG : Hid (IsS w' g cg ds) := HG.out.below hb; replace HGp : Hid (IsP w' g' cg' P1) := HGp.out.below hb; replace HX : Hid (IsS w' x cx xs) := HX.out.below hb; clear hb))
        go_wp2
        go_ret
        exact ⟨rfl, hB⟩
    · have e1 : checkE ds qs k = 30 := checkE_out hr hin
      have e2 : writeE ds qs k s = 30 := by rw [writeE_check (by rw [e1]; decide), e1]
      have e4 : B1 = [] := by rw [hB1, (write_bad (by rw [e2]; decide)).1]
      have e5 : P1 = [] := by rw [hP1, (write_bad (by rw [e2]; decide)).2]
      have e6 : z = ⟨#[]⟩ := by rw [hz]; exact readS_bad (by rw [e1]; decide)
      rw [e1] at cR
      rw [e2] at cW
      clear hB1 hP1 hz e1 e2
      subst e4 e5 e6
      have hout : k < 0 ∨ (0 ≤ k ∧ (ds.length : Int) ≤ k) := by omega
      clear hin
      rcases hout with hk0 | ⟨hk0, hk1⟩
      · skip
        go_enter Try.func4, Try.ntmps4
        go_wp2_with (first
          | (go_at_call 9; refine cf.mono ?_; rintro e w1 ⟨rfl, hb1⟩; have hB := Below.tr hB0 hb1; obtain ⟨⟨q0, q1⟩, f0, f1⟩ := box_open hb1)
          | (go_at_call 15; refine (cR _ ((hB.setCell (p := ⟨w.heap.size, 0, none⟩) (Nat.le_refl _) _).setCell (p := ⟨w.heap.size, 1, none⟩) (Nat.le_refl _) _)).mono ?_; rintro e w2 ⟨rfl, hb2⟩; obtain ⟨r0, r1⟩ := box_set q0 q1 hb2; replace hB := below_set2 hB (Nat.le_refl _) hb2; clear q0 q1 f0 f1 hb2)
          | (go_at_call 16; refine (cW _ hB).mono ?_; rintro e w3 ⟨g, cg, g', cg', rfl, hG, hG', hb⟩; replace hB := Below.tr hB hb; replace hB := hB.alloc hB.size (.cells #[.slice g 0 cg, .slice g' 0 cg'] 25); replace r0 := cell_alloc (cell_below hb r0) (.cells #[.slice g 0 cg, .slice g' 0 cg'] 25); replace r1 := cell_alloc (cell_below hb r1) (.cells #[.slice g 0 cg, .slice g' 0 cg'] 25); have HG : Hid (IsS (w3.alloc (.cells #[.slice g 0 cg, .slice g' 0 cg'] 25)) g cg []) := (hG).below ((Below.refl _ _).alloc (Nat.le_refl _) _); have HGp : Hid (IsP (w3.alloc (.cells #[.slice g 0 cg, .slice g' 0 cg'] 25)) g' cg' []) := (hG').below ((Below.refl _ _).alloc (Nat.le_refl _) _); clear hG hG' hb)
          | (go_at_call 17; refine (cX _ hB).mono ?_; rintro e w4 ⟨x, cx, rfl, hX, hb⟩; obtain ⟨g0, g1⟩ := box_cells hb; replace hB := Below.tr hB hb; replace hB := hB.alloc hB.size (.cells #[.slice x xs.length cx, .slice none 0 0] 25); replace r0 := cell_alloc (cell_below hb r0) (.cells #[.slice x xs.length cx, .slice none 0 0] 25); replace r1 := cell_alloc (cell_below hb r1) (.cells #[.slice x xs.length cx, .slice none 0 0] 25); replace g0 := cell_alloc g0 (.cells #[.slice x xs.length cx, .slice none 0 0] 25); replace g1 := cell_alloc g1 (.cells #[.slice x xs.length cx, .slice none 0 0] 25); replace HG : Hid (IsS (w4.alloc (.cells #[.slice x xs.length cx, .slice none 0 0] 25)) g cg []) := (HG.out.below hb).below ((Below.refl _ _).alloc (Nat.le_refl _) _); replace HGp : Hid (IsP (w4.alloc (.cells #[.slice x xs.length cx, .slice none 0 0] 25)) g' cg' []) := (HGp.out.below hb).below ((Below.refl _ _).alloc (Nat.le_refl _) _); have HX : Hid (IsS (w4.alloc (.cells #[.slice x xs.length cx, .slice none 0 0] 25)) x cx xs) := (hX).below ((Below.refl _ _).alloc (Nat.le_refl _) _); clear hX hb)
          | (go_at_call 14; refine (refRight_any a a' c c' ds qs _ (HS.out.below hB) (HP.out.below hB)).mono ?_; rw [hr]; rintro e w5 ⟨rfl, hb⟩; obtain ⟨x0, x1⟩ := box_cells hb; replace r0 := cell_below hb r0; replace r1 := cell_below hb r1; replace g0 := cell_below hb g0; replace g1 := cell_below hb g1; replace hB := Below.tr hB hb; replace HG : Hid (IsS w5 g cg []) := HG.out.below hb; replace HGp : Hid (IsP w5 g' cg' []) := HGp.out.below hb; replace HX : Hid (IsS w5 x cx xs) := HX.out.below hb; clear hb))
        replace hB := hB.drew
        replace HG : Hid (IsS w5.drew g cg []) := HG.out.below (Below.refl _ _).drew
        replace HGp : Hid (IsP w5.drew g' cg' []) := HGp.out.below (Below.refl _ _).drew
        replace HX : Hid (IsS w5.drew x cx xs) := HX.out.below (Below.refl _ _).drew
        go_region_held3 (fun V => ((V.cell? ⟨w.heap.size, 0, none⟩ = some (.slice a ds.length c) ∧ V.cell? ⟨w.heap.size, 1, none⟩ = some (.slice a' qs.length c')) ∧ V.cell? ⟨w3.heap.size, 0, none⟩ = some (.slice g 0 cg) ∧ V.cell? ⟨w3.heap.size, 1, none⟩ = some (.slice g' 0 cg')) ∧ V.cell? ⟨w4.heap.size, 0, none⟩ = some (.slice x xs.length cx) ∧ V.cell? ⟨w4.heap.size, 1, none⟩ = some (.slice none 0 0))
          (exact ⟨⟨⟨r0, r1⟩, g0, g1⟩, x0, x1⟩) (first
          | (go_at_call 18; refine (cC _ hB).mono ?_; rintro e w' ⟨y, cy, rfl, hY, hb⟩; have HY : Hid (IsS w' y cy xs) := hY; replace r0 := cell_below hb r0; replace r1 := cell_below hb r1; replace g0 := cell_below hb g0; replace g1 := cell_below hb g1; replace x0 := cell_below hb x0; replace x1 := cell_below hb x1; replace hB := Below.tr hB hb; replace HG : Hid (IsS w' g cg []) := HG.out.below hb; replace HGp : Hid (IsP w' g' cg' []) := HGp.out.below hb; replace HX : Hid (IsS w' x cx xs) := HX.out.below hb; clear hb; clear hY)
          | (go_at_call 11; refine (like_any x none y none cx 0 cy 0 xs xs [] [] _ HX.out (IsP_nil _) HY.out (IsP_nil _)).mono ?_; rw [hlr]; rintro e w' ⟨rfl, hb⟩; replace r0 := cell_below hb r0; replace r1 := cell_below hb r1; replace g0 := cell_below hb g0; replace g1 := cell_below hb g1; replace x0 := cell_below hb x0; replace x1 := cell_below hb x1; replace hB := Below.tr hB hb; replace HG : Hid (IsS w' g cg []) := HG.out.below hb; replace HGp : Hid (IsP w' g' cg' []) := HGp.out.below hb; replace HX : Hid (IsS w' x cx xs) := HX.out.below hb; clear hb))
        go_wp2_with (first
          | (go_at_call 12; refine (alive_any _).mono ?_; rintro e w6 ⟨rfl, hb⟩; replace r0 := cell_below hb r0; replace r1 := cell_below hb r1; replace g0 := cell_below hb g0; replace g1 := cell_below hb g1; replace x0 := cell_below hb x0; replace x1 := cell_below hb x1; replace hB := Below.tr hB hb; replace HG : Hid (IsS w6 g cg []) := HG.out.below hb; replace HGp : Hid (IsP w6 g' cg' []) := HGp.out.below hb; replace HX : Hid (IsS w6 x cx xs) := HX.out.below hb; clear hb))
        go_ret
        exact ⟨rfl, hB⟩
      · skip
        go_enter Try.func4, Try.ntmps4
        go_wp2_with (first
          | (go_at_call 9; refine cf.mono ?_; rintro e w1 ⟨rfl, hb1⟩; have hB := Below.tr hB0 hb1; obtain ⟨⟨q0, q1⟩, f0, f1⟩ := box_open hb1)
          | (go_at_call 15; refine (cR _ ((hB.setCell (p := ⟨w.heap.size, 0, none⟩) (Nat.le_refl _) _).setCell (p := ⟨w.heap.size, 1, none⟩) (Nat.le_refl _) _)).mono ?_; rintro e w2 ⟨rfl, hb2⟩; obtain ⟨r0, r1⟩ := box_set q0 q1 hb2; replace hB := below_set2 hB (Nat.le_refl _) hb2; clear q0 q1 f0 f1 hb2)
          | (go_at_call 16; refine (cW _ hB).mono ?_; rintro e w3 ⟨g, cg, g', cg', rfl, hG, hG', hb⟩; replace hB := Below.tr hB hb; replace hB := hB.alloc hB.size (.cells #[.slice g 0 cg, .slice g' 0 cg'] 25); replace r0 := cell_alloc (cell_below hb r0) (.cells #[.slice g 0 cg, .slice g' 0 cg'] 25); replace r1 := cell_alloc (cell_below hb r1) (.cells #[.slice g 0 cg, .slice g' 0 cg'] 25); have HG : Hid (IsS (w3.alloc (.cells #[.slice g 0 cg, .slice g' 0 cg'] 25)) g cg []) := (hG).below ((Below.refl _ _).alloc (Nat.le_refl _) _); have HGp : Hid (IsP (w3.alloc (.cells #[.slice g 0 cg, .slice g' 0 cg'] 25)) g' cg' []) := (hG').below ((Below.refl _ _).alloc (Nat.le_refl _) _); clear hG hG' hb)
          | (go_at_call 17; refine (cX _ hB).mono ?_; rintro e w4 ⟨x, cx, rfl, hX, hb⟩; obtain ⟨g0, g1⟩ := box_cells hb; replace hB := Below.tr hB hb; replace hB := hB.alloc hB.size (.cells #[.slice x xs.length cx, .slice none 0 0] 25); replace r0 := cell_alloc (cell_below hb r0) (.cells #[.slice x xs.length cx, .slice none 0 0] 25); replace r1 := cell_alloc (cell_below hb r1) (.cells #[.slice x xs.length cx, .slice none 0 0] 25); replace g0 := cell_alloc g0 (.cells #[.slice x xs.length cx, .slice none 0 0] 25); replace g1 := cell_alloc g1 (.cells #[.slice x xs.length cx, .slice none 0 0] 25); replace HG : Hid (IsS (w4.alloc (.cells #[.slice x xs.length cx, .slice none 0 0] 25)) g cg []) := (HG.out.below hb).below ((Below.refl _ _).alloc (Nat.le_refl _) _); replace HGp : Hid (IsP (w4.alloc (.cells #[.slice x xs.length cx, .slice none 0 0] 25)) g' cg' []) := (HGp.out.below hb).below ((Below.refl _ _).alloc (Nat.le_refl _) _); have HX : Hid (IsS (w4.alloc (.cells #[.slice x xs.length cx, .slice none 0 0] 25)) x cx xs) := (hX).below ((Below.refl _ _).alloc (Nat.le_refl _) _); clear hX hb)
          | (go_at_call 14; refine (refRight_any a a' c c' ds qs _ (HS.out.below hB) (HP.out.below hB)).mono ?_; rw [hr]; rintro e w5 ⟨rfl, hb⟩; obtain ⟨x0, x1⟩ := box_cells hb; replace r0 := cell_below hb r0; replace r1 := cell_below hb r1; replace g0 := cell_below hb g0; replace g1 := cell_below hb g1; replace hB := Below.tr hB hb; replace HG : Hid (IsS w5 g cg []) := HG.out.below hb; replace HGp : Hid (IsP w5 g' cg' []) := HGp.out.below hb; replace HX : Hid (IsS w5 x cx xs) := HX.out.below hb; clear hb))
        replace hB := hB.drew
        replace HG : Hid (IsS w5.drew g cg []) := HG.out.below (Below.refl _ _).drew
        replace HGp : Hid (IsP w5.drew g' cg' []) := HGp.out.below (Below.refl _ _).drew
        replace HX : Hid (IsS w5.drew x cx xs) := HX.out.below (Below.refl _ _).drew
        go_region_held3 (fun V => ((V.cell? ⟨w.heap.size, 0, none⟩ = some (.slice a ds.length c) ∧ V.cell? ⟨w.heap.size, 1, none⟩ = some (.slice a' qs.length c')) ∧ V.cell? ⟨w3.heap.size, 0, none⟩ = some (.slice g 0 cg) ∧ V.cell? ⟨w3.heap.size, 1, none⟩ = some (.slice g' 0 cg')) ∧ V.cell? ⟨w4.heap.size, 0, none⟩ = some (.slice x xs.length cx) ∧ V.cell? ⟨w4.heap.size, 1, none⟩ = some (.slice none 0 0))
          (exact ⟨⟨⟨r0, r1⟩, g0, g1⟩, x0, x1⟩) (first
          | (go_at_call 18; refine (cC _ hB).mono ?_; rintro e w' ⟨y, cy, rfl, hY, hb⟩; have HY : Hid (IsS w' y cy xs) := hY; replace r0 := cell_below hb r0; replace r1 := cell_below hb r1; replace g0 := cell_below hb g0; replace g1 := cell_below hb g1; replace x0 := cell_below hb x0; replace x1 := cell_below hb x1; replace hB := Below.tr hB hb; replace HG : Hid (IsS w' g cg []) := HG.out.below hb; replace HGp : Hid (IsP w' g' cg' []) := HGp.out.below hb; replace HX : Hid (IsS w' x cx xs) := HX.out.below hb; clear hb; clear hY)
          | (go_at_call 11; refine (like_any x none y none cx 0 cy 0 xs xs [] [] _ HX.out (IsP_nil _) HY.out (IsP_nil _)).mono ?_; rw [hlr]; rintro e w' ⟨rfl, hb⟩; replace r0 := cell_below hb r0; replace r1 := cell_below hb r1; replace g0 := cell_below hb g0; replace g1 := cell_below hb g1; replace x0 := cell_below hb x0; replace x1 := cell_below hb x1; replace hB := Below.tr hB hb; replace HG : Hid (IsS w' g cg []) := HG.out.below hb; replace HGp : Hid (IsP w' g' cg' []) := HGp.out.below hb; replace HX : Hid (IsS w' x cx xs) := HX.out.below hb; clear hb))
        go_wp2_with (first
          | (go_at_call 12; refine (alive_any _).mono ?_; rintro e w6 ⟨rfl, hb⟩; replace r0 := cell_below hb r0; replace r1 := cell_below hb r1; replace g0 := cell_below hb g0; replace g1 := cell_below hb g1; replace x0 := cell_below hb x0; replace x1 := cell_below hb x1; replace hB := Below.tr hB hb; replace HG : Hid (IsS w6 g cg []) := HG.out.below hb; replace HGp : Hid (IsP w6 g' cg' []) := HGp.out.below hb; replace HX : Hid (IsS w6 x cx xs) := HX.out.below hb; clear hb))
        go_ret
        exact ⟨rfl, hB⟩

end Go.Proofs.Ytogadbckiaghcaa

/-
  The walk of the law DeviceSettles: it returns true at all arguments.
-/
import Derived.Test.YtogadbckiaghcabDevInts
import Derived.Test.YtogadbckiaghcabDevRead
import Derived.Test.YtogadbckiaghcabDevLike
import Derived.Deep.RegionHeld3
namespace Go.Proofs.Ytogadbckiaghcab
open Go.RowKit Plain
set_option linter.unusedVariables false

theorem Kept.isS {g : Nat} {W wr : World} (h : Kept g W wr) {a : Option Addr} {c : Nat} {bs : List ByteArray} {w : World} (hP : IsS w a c bs) (hW : Below w.heap.size w W) (hg : w.heap.size ≤ g) : IsS wr a c bs := by
  refine ⟨hP.1, hP.2.1, fun j p hp => ?_⟩
  obtain ⟨b, o, ha, hlt, hc, hr⟩ := hP.2.2 j p hp
  exact ⟨b, o, ha, Nat.lt_of_lt_of_le hlt (Nat.le_trans hW.size h.1), h.cell (by show b ≠ g; omega) (cell_below hW hc), hr⟩

set_option maxRecDepth 20000 in
set_option maxHeartbeats 4000000 in
theorem deviceSettles_walk (a a' : Option Addr) (c c' : Nat) (bs : List ByteArray) (ps : List (Int × ByteArray)) (w : World) (hS : IsS w a c bs) (hP : IsP w a' c' ps) :
    Calls Try.prog 4 #[.agg #[.slice a bs.length c, .slice a' ps.length c']] w fun e w' => e = .returned (.bool true) ∧ Below w.heap.size w w' := by
  have hB0 : Below w.heap.size w (w.alloc (.cells #[.slice a bs.length c, .slice a' ps.length c'] 29)) := (Below.refl _ _).alloc (Nat.le_refl _) _
  have cf := few_any a a' c c' bs ps _ (hS.below hB0) (hP.below hB0)
  obtain ⟨ds, hds⟩ : ∃ ds, ds = fewS bs := ⟨_, rfl⟩
  obtain ⟨qs, hqs⟩ : ∃ qs, qs = fewP ps := ⟨_, rfl⟩
  have HS : Hid (IsS w a c ds) := by rw [hds]; exact hS.few
  have HP : Hid (IsP w a' c' qs) := by rw [hqs]; exact hP.few
  rw [← hds, ← hqs] at cf
  clear hS hP hds hqs
  obtain ⟨xs, hxs⟩ : ∃ xs, xs = flushL ds qs := ⟨_, rfl⟩
  obtain ⟨e, he⟩ : ∃ e, e = rightE ds qs := ⟨_, rfl⟩
  have cc : ∀ W, Below w.heap.size w W → Calls Try.prog 9 #[.agg #[.slice a ds.length c, .slice a' qs.length c']] W fun r w' => ∃ b d, r = .returned (.tuple #[.agg #[.slice b xs.length d, .slice none 0 0], .int .i64 e]) ∧ IsS w' b d xs ∧ Below W.heap.size W w' := by
    intro W h
    rw [hxs, he]
    exact flush_any a a' c c' ds qs W (HS.out.below h) (HP.out.below h)
  cases hr : rightD ds qs with
  | false =>
    have x2 : e = 1 := by rw [he]; unfold rightE; rw [hr]; rfl
    clear hxs he
    subst x2
    go_enter Try.func4, Try.ntmps4
    go_wp2_with (first
      | (go_at_call 8; refine cf.mono ?_; rintro e w1 ⟨rfl, hb1⟩; have hB1 := Below.tr hB0 hb1; obtain ⟨⟨q0, q1⟩, f0, f1⟩ := box_open hb1)
      | (go_at_call 9; refine (cc _ ((hB1.setCell (p := ⟨w.heap.size, 0, none⟩) (Nat.le_refl _) _).setCell (p := ⟨w.heap.size, 1, none⟩) (Nat.le_refl _) _)).mono ?_; rintro e w2 ⟨g, cg, rfl, hG, hb2⟩; obtain ⟨r0, r1⟩ := box_set q0 q1 hb2; have hB2 := below_set2 hB1 (Nat.le_refl _) hb2; clear q0 q1 f0 f1 hb2 hG; replace r0 := cell_alloc r0; replace r1 := cell_alloc r1)
      | (go_at_call 7; refine (alive_any _).mono ?_; rintro e w3 ⟨rfl, hb3⟩; replace r0 := cell_below hb3 (r0 _); replace r1 := cell_below hb3 (r1 _); have hB3 := Below.tr (hB2.alloc hB2.size _) hb3)
      | (go_at_call 10; refine (right_any a a' c c' ds qs _ (HS.out.below hB3) (HP.out.below hB3)).mono ?_; rw [hr]; rintro e w4 ⟨rfl, hb4⟩; have hB4 := Below.tr hB3 hb4))
    go_ret
    exact ⟨rfl, hB4⟩
  | true =>
    have x2 : e = 0 := by rw [he]; unfold rightE; rw [hr]; rfl
    have hrx : rightD xs [] = true := by rw [hxs]; exact flushL_right hr
    have hlx : xs.length = ds.length := by rw [hxs]; exact flushL_length hr
    obtain ⟨⟨h1, h2, h3⟩, -, -⟩ := (rightD_iff ds qs).1 hr
    have cy : ∀ W g cap, Below w.heap.size w W → IsI W g cap (List.replicate qs.length 255) → Calls Try.prog 11 #[.agg #[.slice a ds.length c, .slice a' qs.length c'], .slice g qs.length cap] W fun r w' => ∃ b d, r = .returned (.tuple #[.agg #[.slice b xs.length d, .slice none 0 0], .int .i64 0]) ∧ IsS w' b d xs ∧ Below W.heap.size W w' := by
      intro W g cap h hI
      have := crash_any a a' g c c' cap ds qs _ W (HS.out.below h) (HP.out.below h) hI
      rw [crashA_all hr, ← hxs, ← he, x2, List.length_replicate] at this
      exact this
    have cz : ∀ W g cap, IsS W g cap xs → Calls Try.prog 9 #[.agg #[.slice g xs.length cap, .slice none 0 0]] W fun r w' => ∃ b d, r = .returned (.tuple #[.agg #[.slice b xs.length d, .slice none 0 0], .int .i64 0]) ∧ IsS w' b d xs ∧ Below W.heap.size W w' := by
      intro W g cap h
      have := flush_any g none cap 0 xs [] W h (IsP_nil _)
      rw [flushL_again hrx, show rightE xs [] = 0 by unfold rightE; rw [hrx]; rfl] at this
      exact this
    have cd : ∀ W (i : Nat), Below w.heap.size w W → i < ds.length → Calls Try.prog 13 #[.agg #[.slice a ds.length c, .slice a' qs.length c'], .int .i64 i] W fun r w' => r = .returned (.tuple #[.string (blk xs i), .int .i64 0]) ∧ Below W.heap.size W w' := by
      intro W i h hi
      have := read_any a a' c c' ds qs i W (HS.out.below h) (HP.out.below h)
      have hz : checkE ds qs i = 0 := by unfold checkE; rw [if_pos hr, if_pos (by simp; omega)]
      have ht : readS ds qs i = blk xs i := by
        unfold readS
        rw [if_pos hz, hxs]
        unfold flushL
        rw [if_pos hr, flush_tells hr]
        rfl
      rw [hz, ht] at this
      exact this
    have hlr : likeD xs xs [] [] = true := by unfold likeD; rw [decide_eq_true rfl]; rfl
    clear hxs he
    subst x2
    obtain ⟨n, hn⟩ : ∃ n, n = qs.length := ⟨_, rfl⟩
    obtain ⟨Z, hmk, hZ⟩ : ∃ Z : Array Value, (∀ W : World, (Instr.makeSlice 35 (.int .i64 n) (.int .i64 n)).run Try.prog W = .ok (.slice (some ⟨W.heap.size, 0, none⟩) n n) (W.alloc (.cells Z 3))) ∧ Hid (Z = (List.replicate n (Value.int .i64 0)).toArray) :=
      ⟨madeCells #[.int .i64 0] n, fun W => run_make_row' (P := Try.prog) 35 3 (.int .i64 0) 8 Try.underlying35 Try.info3 rfl .i64 .i64 n (by omega) (by omega) W, made_one _ n⟩
    rw [← hn] at cf cc cy cd h3
    have hn3 : (n : Int) ≤ 2048 := by omega
    have Hn : Hid (n = qs.length) := hn
    have hne : ((xs.length : Int) != (ds.length : Int)) = false := by rw [hlx]; simp
    have Hlx : Hid (xs.length = ds.length) := hlx
    clear hn hlx
    have tok1 : True := trivial
    go_enter Try.func4, Try.ntmps4
    go_wp2_with (first
      | (go_at_call 8; refine cf.mono ?_; rintro e w1 ⟨rfl, hb1⟩; have hB1 := Below.tr hB0 hb1; obtain ⟨⟨q0, q1⟩, f0, f1⟩ := box_open hb1)
      | (have _t := tok1; go_at_call 9; clear tok1; refine (cc _ ((hB1.setCell (p := ⟨w.heap.size, 0, none⟩) (Nat.le_refl _) _).setCell (p := ⟨w.heap.size, 1, none⟩) (Nat.le_refl _) _)).mono ?_; rintro e w2 ⟨g, cg, rfl, hG, hb2⟩; have HG : Hid (IsS w2 g cg xs) := hG; obtain ⟨r0, r1⟩ := box_set q0 q1 hb2; have hB2 := below_set2 hB1 (Nat.le_refl _) hb2; clear q0 q1 f0 f1 hb2 hG; have r0a := cell_alloc r0; have r1a := cell_alloc r1))
    obtain ⟨V, hV⟩ : ∃ V, V = (w2.alloc (.cells #[.slice g xs.length cg, .slice none 0 0] 29)).alloc (.cells Z 3) := ⟨_, rfl⟩
    have hb : Below w2.heap.size w2 V := by rw [hV]; exact ((Below.refl _ _).alloc (Nat.le_refl _) _).alloc (by simp) _
    have hVs : V.heap.size = w2.heap.size + 2 := by rw [hV]; simp
    have x0 : V.cell? ⟨w2.heap.size, 0, none⟩ = some (.slice g xs.length cg) := by rw [hV]; exact Lib.cell?_alloc_some _ (World.cell?_alloc_at _ _ _ _ rfl)
    have x1 : V.cell? ⟨w2.heap.size, 1, none⟩ = some (.slice none 0 0) := by rw [hV]; exact Lib.cell?_alloc_some _ (World.cell?_alloc_at _ _ _ _ rfl)
    replace r0 := cell_below hb r0
    replace r1 := cell_below hb r1
    have HR : Hid (RowI V (w2.heap.size + 1) (allN n 0)) := by
      show RowI _ _ _
      rw [hV, show allN n 0 = List.replicate n 0 by simp [allN]]
      exact RowI.new _ n hZ.out (by simp)
    have hBV := Below.tr hB2 hb
    have hw2 := hB2.size
    rw [← hV]
    clear hV r0a r1a hmk hZ cf hb1 hB1 hB0
    go_loopw [35] (fun v wr => ∃ j : Nat, j ≤ n ∧ v = .int .i64 j ∧ RowI wr (w2.heap.size + 1) (allN n j) ∧ Kept (w2.heap.size + 1) V wr ∧ Below w.heap.size w wr) (fun v _ => n - (intOf v).toNat)
    case atStart => exact ⟨0, by omega, rfl, HR.out, Kept.refl _ _, hBV⟩
    case round =>
      obtain ⟨j, hj, rfl, hrow, hkp, hbel⟩ := hrel
      by_cases hlt : j < n
      · obtain ⟨m, hm⟩ : ∃ m, (allN n j)[j]? = some m := ⟨_, List.getElem?_eq_getElem (by rw [allN_length hj]; exact hlt)⟩
        obtain ⟨hrc, hrf⟩ := hrow.cell hm
        have hlt' : (j : Int) < n := by omega
        have HN : Hid (RowI (wr.setCell ⟨w2.heap.size + 1, j, none⟩ (.int .i64 255)) (w2.heap.size + 1) (allN n (j + 1))) := by
          show RowI _ _ _
          rw [← allN_succ hlt]
          exact hrow.set j 255
        clear hrow hm
        go_wp2
        go_roundw
        case rel => exact ⟨j + 1, by omega, by go_num, HN.out, hkp.set _ _, hbel.setCell (p := ⟨w2.heap.size + 1, j, none⟩) (by show _ ≤ w2.heap.size + 1; omega) _⟩
        case measure => simp [intOf]; omega
      · obtain rfl : j = n := by omega
        replace x0 := hkp.cell (by show w2.heap.size ≠ w2.heap.size + 1; omega) x0
        replace x1 := hkp.cell (by show w2.heap.size ≠ w2.heap.size + 1; omega) x1
        replace r0 := hkp.cell (by show w.heap.size ≠ w2.heap.size + 1; omega) r0
        replace r1 := hkp.cell (by show w.heap.size ≠ w2.heap.size + 1; omega) r1
        replace HG : Hid (IsS wr g cg xs) := hkp.isS HG.out hb (by omega)
        have hI : IsI wr (some ⟨w2.heap.size + 1, 0, none⟩) j (List.replicate j 255) := by
          have := hrow.isI (by rw [allN_length (Nat.le_refl _)]; unfold maxLen; omega)
          rw [allN_length (Nat.le_refl _), allN_full] at this
          exact this
        have c1 := cy wr _ _ hbel hI
        have hB := hbel
        clear hrow hkp HR hI hBV hbel hB2 cy cc
        go_wp2_with (first
          | (go_at_call 11; refine c1.mono ?_; rintro e w4 ⟨gy, ky, rfl, hY, hb4⟩; have HY : Hid (IsS w4 gy ky xs) := hY; replace HG : Hid (IsS w4 g cg xs) := HG.out.below hb4; replace x0 := cell_alloc (cell_below hb4 x0); replace x1 := cell_alloc (cell_below hb4 x1); replace r0 := cell_alloc (cell_below hb4 r0); replace r1 := cell_alloc (cell_below hb4 r1); replace hB := Below.tr hB hb4; clear hY hb4 c1)
          | (go_at_call 9; refine (cz _ g cg (HG.out.below ((Below.refl _ _).alloc (Nat.le_refl _) _))).mono ?_; rintro e w5 ⟨gz, kz, rfl, hY, hb5⟩; obtain ⟨y0, y1⟩ := box_cells hb5; have HZ : Hid (IsS w5 gz kz xs) := hY; replace HY : Hid (IsS w5 gy ky xs) := (HY.out.below ((Below.refl _ _).alloc (Nat.le_refl _) _)).below hb5; replace HG : Hid (IsS w5 g cg xs) := (HG.out.below ((Below.refl _ _).alloc (Nat.le_refl _) _)).below hb5; replace y0 := cell_alloc y0; replace y1 := cell_alloc y1; replace x0 := cell_alloc (cell_below hb5 (x0 _)); replace x1 := cell_alloc (cell_below hb5 (x1 _)); replace r0 := cell_alloc (cell_below hb5 (r0 _)); replace r1 := cell_alloc (cell_below hb5 (r1 _)); replace hB := Below.tr (hB.alloc hB.size _) hb5; clear hY hb5))
        obtain ⟨W, hW⟩ : ∃ W, W = w5.alloc (.cells #[.slice gz xs.length kz, .slice none 0 0] 29) := ⟨_, rfl⟩
        have hb6 : Below w5.heap.size w5 W := by rw [hW]; exact (Below.refl _ _).alloc (Nat.le_refl _) _
        replace hB := Below.tr hB hb6
        replace HG : Hid (IsS W g cg xs) := HG.out.below hb6
        replace HY : Hid (IsS W gy ky xs) := HY.out.below hb6
        replace HZ : Hid (IsS W gz kz xs) := HZ.out.below hb6
        have z0 : W.cell? ⟨w5.heap.size, 0, none⟩ = some (.slice gz xs.length kz) := by rw [hW]; exact World.cell?_alloc_at _ _ _ _ rfl
        have z1 : W.cell? ⟨w5.heap.size, 1, none⟩ = some (.slice none 0 0) := by rw [hW]; exact World.cell?_alloc_at _ _ _ _ rfl
        replace r0 : W.cell? ⟨w.heap.size, 0, none⟩ = some (.slice a ds.length c) := by rw [hW]; exact r0 _
        replace r1 : W.cell? ⟨w.heap.size, 1, none⟩ = some (.slice a' j c') := by rw [hW]; exact r1 _
        replace x0 : W.cell? ⟨w2.heap.size, 0, none⟩ = some (.slice g xs.length cg) := by rw [hW]; exact x0 _
        replace x1 : W.cell? ⟨w2.heap.size, 1, none⟩ = some (.slice none 0 0) := by rw [hW]; exact x1 _
        replace y0 : W.cell? ⟨w4.heap.size, 0, none⟩ = some (.slice gy xs.length ky) := by rw [hW]; exact y0 _
        replace y1 : W.cell? ⟨w4.heap.size, 1, none⟩ = some (.slice none 0 0) := by rw [hW]; exact y1 _
        rw [← hW]
        clear hW
        have tokA : True := trivial
        go_wp2_with (first
          | (have _tA := tokA; go_at_call 12; clear tokA; refine (like_any g none gy none cg 0 ky 0 xs xs [] [] _ HG.out (IsP_nil _) HY.out (IsP_nil _)).mono ?_; rw [hlr]; rintro e w6 ⟨rfl, hb7⟩; replace z0 := cell_below hb7 z0; replace z1 := cell_below hb7 z1; replace r0 := cell_below hb7 r0; replace r1 := cell_below hb7 r1; replace x0 := cell_below hb7 x0; replace x1 := cell_below hb7 x1; replace y0 := cell_below hb7 y0; replace y1 := cell_below hb7 y1; replace HG : Hid (IsS w6 g cg xs) := HG.out.below hb7; replace HZ : Hid (IsS w6 gz kz xs) := HZ.out.below hb7; replace hB := Below.tr hB hb7; clear hb7)
          | (go_at_call 12; refine (like_any g none gz none cg 0 kz 0 xs xs [] [] _ HG.out (IsP_nil _) HZ.out (IsP_nil _)).mono ?_; rw [hlr]; rintro e w7 ⟨rfl, hb7⟩; replace z0 := cell_below hb7 z0; replace z1 := cell_below hb7 z1; replace r0 := cell_below hb7 r0; replace r1 := cell_below hb7 r1; replace x0 := cell_below hb7 x0; replace x1 := cell_below hb7 x1; replace y0 := cell_below hb7 y0; replace y1 := cell_below hb7 y1; replace HG : Hid (IsS w7 g cg xs) := HG.out.below hb7; replace hB := Below.tr hB hb7; clear hb7)
          | (go_at_call 10; refine (right_any g none cg 0 xs [] _ HG.out (IsP_nil _)).mono ?_; rw [hrx]; rintro e w8 ⟨rfl, hb7⟩; replace z0 := cell_below hb7 z0; replace z1 := cell_below hb7 z1; replace r0 := cell_below hb7 r0; replace r1 := cell_below hb7 r1; replace x0 := cell_below hb7 x0; replace x1 := cell_below hb7 x1; replace y0 := cell_below hb7 y0; replace y1 := cell_below hb7 y1; replace HG : Hid (IsS w8 g cg xs) := HG.out.below hb7; replace hB := Below.tr hB hb7; clear hb7))
        clear z0 z1 y0 y1 x1 hne
        go_loopw [94] (fun v wr => ∃ i : Nat, i ≤ ds.length ∧ v = .int .i64 i ∧ Below w8.heap.size w8 wr) (fun v _ => ds.length - (intOf v).toNat)
        case atStart => exact ⟨0, by omega, rfl, Below.refl _ _⟩
        case round =>
          obtain ⟨i, hi, rfl, hbel⟩ := hrel
          replace r0 := cell_below hbel r0
          replace r1 := cell_below hbel r1
          replace x0 := cell_below hbel x0
          replace hB := Below.tr hB hbel
          by_cases hil : i < ds.length
          · have c2 := cd wr i hB hil
            obtain ⟨b, o, rfl, hlb, hcx, hxs⟩ := (HG.out.below hbel).2.2 i (blk xs i) (blk_get (by rw [Hlx.out]; exact hil))
            have hs : (!(blk xs i).toList == (blk xs i).toList) = false := str_ne_false rfl
            have hil' : (i : Int) < ds.length := by omega
            have hil2 : (i : Int) < xs.length := by rw [Hlx.out]; exact hil'
            generalize blk xs i = z at c2 hcx hs hxs
            go_wp2_with (go_at_call 13; refine c2.mono ?_; rintro e w9 ⟨rfl, hb9⟩; replace x0 := cell_below hb9 x0; replace hcx := cell_below hb9 hcx)
            go_roundw
            case rel => exact ⟨i + 1, by omega, by go_num, Below.tr hbel hb9⟩
            case measure => simp [intOf]; omega
          · obtain rfl : i = ds.length := by omega
            go_wp2_with (go_at_call 7; refine (alive_any _).mono ?_; rintro e w9 ⟨rfl, hb9⟩)
            go_ret
            exact ⟨rfl, Below.tr hB hb9⟩

end Go.Proofs.Ytogadbckiaghcab

/-
  The walk of the law DeviceWhole: it returns true at all arguments that a machine bears.
-/
import Derived.Test.YtogadbckiaghcaaDevSmall
import Derived.Test.YtogadbckiaghcaaDevRight
import Derived.Test.YtogadbckiaghcaaDevLike
namespace Go.Proofs.Ytogadbckiaghcaa
open Go.RowKit Plain
set_option linter.unusedVariables false

theorem Kept.rowS {g h cap : Nat} {W wr : World} {bs : List ByteArray} (hk : Kept h W wr) (hr : RowS W g cap bs) (hn : g ≠ h) : RowS wr g cap bs := by
  have hl := hr.lt
  obtain ⟨cur, hg, h2⟩ := hr
  exact ⟨cur, by rw [hk.2 g hl hn]; exact hg, h2⟩

theorem str_dec (s z : ByteArray) : (s.toList == z.toList) = decide (s = z) := by
  by_cases h : s = z
  · rw [decide_eq_true h, str_eq_true h]
  · rw [decide_eq_false h, str_eq_false h]

theorem smS_sizes {bs : List ByteArray} : ∀ s ∈ bs.map smS, s.size ≤ maxLen := by
  intro s hs
  obtain ⟨x, _, rfl⟩ := List.mem_map.1 hs
  exact Nat.le_trans (smS_size x) (by unfold maxLen; omega)

set_option maxRecDepth 20000 in
set_option maxHeartbeats 8000000 in
theorem deviceWhole_walk (a a' : Option Addr) (c c' : Nat) (bs : List ByteArray) (ps : List (Int × ByteArray)) (am : Option Addr) (cm : Nat) (ms : List Int) (w : World) (hS : IsS w a c bs) (hP : IsP w a' c' ps) (hI : IsI w am cm ms) (hz : bs.length * 16 ≤ 140737488355328) (hz' : ps.length * 24 ≤ 140737488355328) :
    Calls Try.prog 8 #[.agg #[.slice a bs.length c, .slice a' ps.length c'], .slice am ms.length cm] w fun e w' => e = .returned (.bool true) ∧ Below w.heap.size w w' := by
  have hB0 : Below w.heap.size w (w.alloc (.cells #[.slice a bs.length c, .slice a' ps.length c'] 25)) := (Below.refl _ _).alloc (Nat.le_refl _) _
  have cf := few_any a a' c c' bs ps _ (hS.below hB0) (hP.below hB0)
  obtain ⟨ds, hds⟩ : ∃ ds, ds = fewS bs := ⟨_, rfl⟩
  obtain ⟨qs, hqs⟩ : ∃ qs, qs = fewP ps := ⟨_, rfl⟩
  have HS : Hid (IsS w a c ds) := by rw [hds]; exact hS.few
  have HP : Hid (IsP w a' c' qs) := by rw [hqs]; exact hP.few
  have HI : Hid (IsI w am cm ms) := hI
  have hzd : ds.length * 16 ≤ 140737488355328 := by
    have : ds.length ≤ bs.length := by rw [hds]; unfold fewS; split <;> simp [List.length_take] <;> omega
    omega
  have hzq : qs.length * 24 ≤ 140737488355328 := by
    have : qs.length ≤ ps.length := by rw [hqs]; unfold fewP; split <;> simp [List.length_take] <;> omega
    omega
  rw [← hds, ← hqs] at cf
  have HK : Hid (∀ p ∈ qs, okP p) := isP_okP HP.out
  have HZ : Hid (∀ s ∈ ds, s.size ≤ maxLen) := by
    intro s hs
    obtain ⟨j, hj⟩ := List.mem_iff_getElem?.1 hs
    obtain ⟨_, _, _, _, _, h⟩ := HS.out.2.2 j s hj
    exact h
  have hm : ds.length ≤ 9223372036854775807 := by omega
  have hm' : qs.length ≤ 9223372036854775807 := by omega
  clear hS hP hI hds hqs hz hz'
  go_enter Try.func8, Try.ntmps8
  go_wp2_with (first
    | (go_at_call 9; refine cf.mono ?_; rintro e w1 ⟨rfl, hb1⟩; have hB := Below.tr hB0 hb1; obtain ⟨⟨q0, q1⟩, f0, f1⟩ := box_open hb1; obtain ⟨r0, r1⟩ := box_set (v0 := .slice a ds.length c) (v1 := .slice a' qs.length c') q0 q1 (Below.refl _ _); have r0a := cell_alloc r0; have r1a := cell_alloc r1; have hs1 : w.heap.size < w1.heap.size := cell_lt q0)
    | (at_builtin; have hB1 : Below w.heap.size w ((w1.setCell ⟨w.heap.size, 0, none⟩ (.slice a ds.length c)).setCell ⟨w.heap.size, 1, none⟩ (.slice a' qs.length c')) := (hB.setCell (p := ⟨w.heap.size, 0, none⟩) (Nat.le_refl _) _).setCell (p := ⟨w.heap.size, 1, none⟩) (Nat.le_refl _) _; obtain ⟨g, cap, w2, hrun, hg, hrow, hb⟩ := copyS ((w1.setCell ⟨w.heap.size, 0, none⟩ (.slice a ds.length c)).setCell ⟨w.heap.size, 1, none⟩ (.slice a' qs.length c')) a c ds (HS.out.below hB1) hzd 22; have hW1s : ((w1.setCell ⟨w.heap.size, 0, none⟩ (.slice a ds.length c)).setCell ⟨w.heap.size, 1, none⟩ (.slice a' qs.length c')).heap.size = w1.heap.size := (by simp); rw [hW1s] at hrun hg; refine Lib.wpList_append_run _ rfl _ _ _ _ rfl _ _ rfl rfl _ _ hrun ?_; have fr0 : ((w1.setCell ⟨w.heap.size, 0, none⟩ (.slice a ds.length c)).setCell ⟨w.heap.size, 1, none⟩ (.slice a' qs.length c')).frozen? ⟨w.heap.size, 0, none⟩ = false := (by rw [World.frozen?_setCell, World.frozen?_setCell]; exact f0); have fr1 : ((w1.setCell ⟨w.heap.size, 0, none⟩ (.slice a ds.length c)).setCell ⟨w.heap.size, 1, none⟩ (.slice a' qs.length c')).frozen? ⟨w.heap.size, 1, none⟩ = false := (by rw [World.frozen?_setCell, World.frozen?_setCell]; exact f1); replace r0 := cell_below hb r0; replace r1 := cell_below hb r1; replace fr0 := frozen_below hb (by rw [hW1s]; exact hs1) fr0; replace fr1 := frozen_below hb (by rw [hW1s]; exact hs1) fr1; have hB2 := Below.tr hB1 hb; have HROW : Hid (RowS w2 g cap ds) := hrow; have hs2 := hb.size; rw [hW1s] at hs2; clear hb hrow hrun q0 q1 f0 f1 r0a r1a hB hB1 hW1s))
  obtain ⟨V, hV⟩ : ∃ V, V = w2.setCell ⟨w.heap.size, 0, none⟩ (.slice (some ⟨g, 0, none⟩) ds.length cap) := ⟨_, rfl⟩
  have hgw : w.heap.size < g := by omega
  have v0 : V.cell? ⟨w.heap.size, 0, none⟩ = some (.slice (some ⟨g, 0, none⟩) ds.length cap) := by rw [hV]; exact World.cell?_setCell_same _ _ _ r0
  have v1 : V.cell? ⟨w.heap.size, 1, none⟩ = some (.slice a' qs.length c') := by rw [hV, World.cell?_setCell_other _ _ _ _ (fun hh => by cases hh)]; exact r1
  replace fr0 : V.frozen? ⟨w.heap.size, 0, none⟩ = false := by rw [hV, World.frozen?_setCell]; exact fr0
  replace fr1 : V.frozen? ⟨w.heap.size, 1, none⟩ = false := by rw [hV, World.frozen?_setCell]; exact fr1
  replace HROW : Hid (RowS V g cap ds) := by show RowS _ _ _ _; rw [hV]; exact RowS.setOther HROW.out (by omega)
  have hBV : Below w.heap.size w V := by rw [hV]; exact hB2.setCell (p := ⟨w.heap.size, 0, none⟩) (Nat.le_refl _) _
  have hVs : w.heap.size < V.heap.size := cell_lt v0
  rw [← hV]
  clear hV r0 r1 hB2 hs2 hs1 hb1 cf hB0 HS hg
  go_loopw [26] (fun v wr => ∃ j : Nat, j ≤ ds.length ∧ v = .int .i64 j ∧ RowS wr g cap (mapN smS ds j) ∧ Kept g V wr ∧ Below w.heap.size w wr) (fun v _ => ds.length - (intOf v).toNat)
  case atStart => exact ⟨0, by omega, rfl, by rw [mapN_zero]; exact HROW.out, Kept.refl _ _, hBV⟩
  case round =>
    obtain ⟨j, hj, rfl, hrow, hkp, hbel⟩ := hrel
    have d0 := hkp.cell (by show w.heap.size ≠ g; omega) v0
    have d1 := hkp.cell (by show w.heap.size ≠ g; omega) v1
    by_cases hlt : j < ds.length
    · obtain ⟨x, hx⟩ : ∃ x, ds[j]? = some x := ⟨_, List.getElem?_eq_getElem hlt⟩
      obtain ⟨hrc, hrf⟩ := hrow.cell (mapN_at smS hx)
      have hxz : x.size ≤ 9223372036854775807 := HZ.out x (List.mem_of_getElem? hx)
      have hlt' : (j : Int) < ds.length := by omega
      by_cases hbig : 512 < x.size
      · have hbig' : (x.size : Int) > 512 := by omega
        have HN : Hid (RowS (wr.setCell ⟨g, j, none⟩ (.string ⟨#[]⟩)) g cap (mapN smS ds (j + 1))) := by
          show RowS _ _ _ _
          rw [mapN_succ smS hx, smS_long hbig]
          exact hrow.set (by rw [mapN_length]; exact hlt) _
        clear hrow hx
        go_wp2
        go_roundw
        case rel => exact ⟨j + 1, by omega, by go_num, HN.out, hkp.set _ _, hbel.setCell (p := ⟨g, j, none⟩) (by show _ ≤ g; omega) _⟩
        case measure => simp [intOf]; omega
      · have hbig' : ¬ (x.size : Int) > 512 := by omega
        have HN : Hid (RowS wr g cap (mapN smS ds (j + 1))) := by
          show RowS _ _ _ _
          rw [mapN_stay smS hx (smS_short hbig)]
          exact hrow
        clear hrow hx
        go_wp2
        go_roundw
        case rel => exact ⟨j + 1, by omega, by go_num, HN.out, hkp, hbel⟩
        case measure => simp [intOf]; omega
    · obtain rfl : j = ds.length := by omega
      rw [mapN_all] at hrow
      obtain ⟨DS, hDS⟩ : ∃ DS, DS = ds.map smS := ⟨_, rfl⟩
      rw [← hDS] at hrow
      have HROW2 : Hid (RowS wr g cap DS) := hrow
      have g0 := hkp.frozen (by show w.heap.size < V.heap.size; exact hVs) (by show w.heap.size ≠ g; omega) fr0
      have g1 := hkp.frozen (by show w.heap.size < V.heap.size; exact hVs) (by show w.heap.size ≠ g; omega) fr1
      have hIP := hkp.isP HP.out hBV (by omega)
      have hwr := hbel.size
      have hHw : w.heap.size < wr.heap.size := cell_lt d0
      obtain ⟨g2, cap2, w3, hrun, hg2, hrow2, hb3⟩ := copyP wr a' c' qs hIP hzq 23
      have d1a := cell_alloc d1
      replace d0 := cell_below hb3 d0
      have e1 := cell_below hb3 d1
      replace g0 := frozen_below hb3 hHw g0
      replace g1 := frozen_below hb3 hHw g1
      have hB3 := Below.tr hbel hb3
      have hgl := HROW2.out.lt
      replace HROW2 : Hid (RowS w3 g cap DS) := HROW2.out.below hb3
      have HROWP : Hid (RowP w3 g2 cap2 qs) := hrow2
      have HDS : Hid (DS = ds.map smS) := hDS
      clear hrow hrow2 hIP hkp HROW v0 v1 fr0 fr1 hbel hDS hb3 hBV HP
      go_wp2_with (at_builtin; refine Lib.wpList_append_run _ rfl _ _ _ _ rfl _ _ rfl rfl _ _ hrun ?_)
      obtain ⟨V3, hV3⟩ : ∃ V3, V3 = w3.setCell ⟨w.heap.size, 1, none⟩ (.slice (some ⟨g2, 0, none⟩) qs.length cap2) := ⟨_, rfl⟩
      have z0 : V3.cell? ⟨w.heap.size, 0, none⟩ = some (.slice (some ⟨g, 0, none⟩) ds.length cap) := by rw [hV3, World.cell?_setCell_other _ _ _ _ (fun hh => by cases hh)]; exact d0
      have z1 : V3.cell? ⟨w.heap.size, 1, none⟩ = some (.slice (some ⟨g2, 0, none⟩) qs.length cap2) := by rw [hV3]; exact World.cell?_setCell_same _ _ _ e1
      replace HROW2 : Hid (RowS V3 g cap DS) := by show RowS _ _ _ _; rw [hV3]; exact RowS.setOther HROW2.out (by omega)
      replace HROWP : Hid (RowP V3 g2 cap2 qs) := by show RowP _ _ _ _; rw [hV3]; exact RowP.setOther HROWP.out (by omega)
      have hBV3 : Below w.heap.size w V3 := by rw [hV3]; exact hB3.setCell (p := ⟨w.heap.size, 1, none⟩) (Nat.le_refl _) _
      have hgg : g ≠ g2 := by omega
      have hgw2 : w.heap.size < g2 := by omega
      rw [← hV3]
      clear hV3 d0 d1 e1 g0 g1 d1a hB3 hrun hg2 hgl hwr hHw
      go_loopw [47] (fun v wr => ∃ j : Nat, j ≤ qs.length ∧ v = .int .i64 j ∧ RowP wr g2 cap2 (mapN smP qs j) ∧ Kept g2 V3 wr ∧ Below w.heap.size w wr) (fun v _ => qs.length - (intOf v).toNat)
      case atStart => exact ⟨0, by omega, rfl, by rw [mapN_zero]; exact HROWP.out, Kept.refl _ _, hBV3⟩
      case round =>
        obtain ⟨j, hj2, rfl, hrow, hkp, hbel⟩ := hrel
        have d1 := hkp.cell (by show w.heap.size ≠ g2; omega) z1
        have d1a := cell_alloc d1
        have hws := hbel.size
        by_cases hlt2 : j < qs.length
        · obtain ⟨p, hx⟩ : ∃ x, qs[j]? = some x := ⟨_, List.getElem?_eq_getElem hlt2⟩
          have hpc := cellsP_at (mapN_at smP hx)
          obtain ⟨hc1, -⟩ := hrow.at hpc.1
          obtain ⟨hc2, hcf⟩ := hrow.at hpc.2
          have hgl := hrow.lt
          have hc2a := cell_alloc hc2
          have hcfa := frozen_alloc hgl hcf
          have hxz : p.2.size ≤ 9223372036854775807 := (HK.out p (List.mem_of_getElem? hx)).1
          have hlt' : (j : Int) < qs.length := by omega
          by_cases hbig : 512 < p.2.size
          · have hbig' : (p.2.size : Int) > 512 := by omega
            have HN : Hid (∀ o, RowP ((wr.setCell ⟨g2, j * 2 + 1, none⟩ (.string ⟨#[120]⟩)).alloc o) g2 cap2 (mapN smP qs (j + 1))) := by
              intro o
              rw [mapN_succ smP hx, smP_long hbig]
              exact (hrow.set (mapN_at smP hx) _).below ((Below.refl _ _).alloc (Nat.le_refl _) o)
            clear hrow hx hpc
            go_wp2
            go_roundw
            case rel => exact ⟨j + 1, by omega, by go_num, HN.out _, (hkp.set _ _).below ((Below.refl _ _).alloc (Nat.le_refl _) _), (hbel.setCell (p := ⟨g2, j * 2 + 1, none⟩) (by show _ ≤ g2; omega) _).alloc (by simpa using hws) _⟩
            case measure => simp [intOf]; omega
          · have hbig' : ¬ (p.2.size : Int) > 512 := by omega
            have HN : Hid (∀ o, RowP (wr.alloc o) g2 cap2 (mapN smP qs (j + 1))) := by
              intro o
              rw [mapN_stay smP hx (smP_short hbig)]
              exact hrow.below ((Below.refl _ _).alloc (Nat.le_refl _) o)
            clear hrow hx hpc
            go_wp2
            go_roundw
            case rel => exact ⟨j + 1, by omega, by go_num, HN.out _, hkp.below ((Below.refl _ _).alloc (Nat.le_refl _) _), hbel.alloc hws _⟩
            case measure => simp [intOf]; omega
        · obtain rfl : j = qs.length := by omega
          rw [mapN_all] at hrow
          obtain ⟨QS, hQS⟩ : ∃ QS, QS = qs.map smP := ⟨_, rfl⟩
          rw [← hQS] at hrow
          have HROWP2 : Hid (RowP wr g2 cap2 QS) := hrow
          replace HROW2 : Hid (RowS wr g cap DS) := hkp.rowS HROW2.out hgg
          have d0 := hkp.cell (by show w.heap.size ≠ g2; omega) z0
          have hLD : DS.length = ds.length := by rw [HDS.out, List.length_map]
          have hLQ : QS.length = qs.length := by rw [hQS, List.length_map]
          have HSD : Hid (IsS wr (some ⟨g, 0, none⟩) cap DS) := HROW2.out.isS (by rw [HDS.out]; exact smS_sizes)
          have HPQ : Hid (IsP wr (some ⟨g2, 0, none⟩) cap2 QS) := HROWP2.out.isP (by rw [hQS]; exact smP_okP HK.out)
          have cRt : Calls Try.prog 14 #[.agg #[.slice (some ⟨g, 0, none⟩) ds.length cap, .slice (some ⟨g2, 0, none⟩) qs.length cap2]] wr fun e w' => e = .returned (.bool (rightD DS QS)) ∧ Below wr.heap.size wr w' := by
            have := refRight_any (some ⟨g, 0, none⟩) (some ⟨g2, 0, none⟩) cap cap2 DS QS wr HSD.out HPQ.out
            rw [hLD, hLQ] at this
            exact this
          cases hr : rightD DS QS with
          | false =>
            rw [hr] at cRt
            clear hrow hkp HROW2 HROWP2 HROWP hQS hLD hLQ
            go_wp2_with (first
              | (go_at_call 14; refine cRt.mono ?_; rintro e w4 ⟨rfl, hb⟩; have hB4 := Below.tr hbel hb)
              | (go_at_call 12; refine (alive_any _).mono ?_; rintro e w5 ⟨rfl, hb⟩; have hB5 := Below.tr hB4 hb))
            go_ret
            exact ⟨rfl, hB5⟩
          | true =>
            rw [hr] at cRt
            obtain ⟨xs, hxs⟩ : ∃ xs, xs = crashA (maskAt ms) DS QS := ⟨_, rfl⟩
            have hLX : xs.length = ds.length := by rw [hxs, crashA_length _ hr, hLD]
            have HW : Hid (∀ k, k < ds.length → anyN QS k (blk xs k) ((blk xs k).toList == (blk DS k).toList) QS.length = true) := by
              intro k hk
              rw [str_dec]
              refine anyN_all ?_
              rw [hxs, hQS, HDS.out]
              rw [hQS, HDS.out] at hr
              exact crash_whole _ hr hk
            have cC : ∀ W, Below w.heap.size w W → IsS W (some ⟨g, 0, none⟩) cap DS → IsP W (some ⟨g2, 0, none⟩) cap2 QS → Calls Try.prog 21 #[.agg #[.slice (some ⟨g, 0, none⟩) ds.length cap, .slice (some ⟨g2, 0, none⟩) qs.length cap2], .slice am ms.length cm] W fun r w' => ∃ b d, r = .returned (.tuple #[.agg #[.slice b ds.length d, .slice none 0 0], .int .i64 0]) ∧ IsS w' b d xs ∧ Below W.heap.size W w' := by
              intro W hW h1 h2
              have := crash_any (some ⟨g, 0, none⟩) (some ⟨g2, 0, none⟩) am cap cap2 cm DS QS ms W h1 h2 (HI.out.below hW)
              rw [← hxs, hLX, hLD, hLQ, show rightE DS QS = 0 by unfold rightE; rw [hr]; rfl] at this
              exact this
            have HLX : Hid (xs.length = ds.length) := hLX
            have HLD : Hid (DS.length = ds.length) := hLD
            have HLQ : Hid (QS.length = qs.length) := hLQ
            clear hrow hkp HROW2 HROWP2 HROWP hQS hxs hLX hLD hLQ HDS d1a HK HZ
            go_wp2_with (first
              | (go_at_call 14; refine cRt.mono ?_; rintro e w4 ⟨rfl, hb⟩; have hB4 := Below.tr hbel hb; replace HSD : Hid (IsS w4 (some ⟨g, 0, none⟩) cap DS) := HSD.out.below hb; replace HPQ : Hid (IsP w4 (some ⟨g2, 0, none⟩) cap2 QS) := HPQ.out.below hb; replace d0 := cell_below hb d0; replace d1 := cell_below hb d1; clear hb)
              | (go_at_call 21; refine (cC _ hB4 HSD.out HPQ.out).mono ?_; rintro e w5 ⟨x, cx, rfl, hX, hb⟩; have hB5 := Below.tr hB4 hb; replace HSD : Hid (IsS w5 (some ⟨g, 0, none⟩) cap DS) := HSD.out.below hb; replace HPQ : Hid (IsP w5 (some ⟨g2, 0, none⟩) cap2 QS) := HPQ.out.below hb; have HX : Hid (IsS w5 x cx xs) := hX; replace d0 := cell_below hb d0; replace d1 := cell_below hb d1; have d0a := cell_alloc d0; have d1a := cell_alloc d1; clear hb hX))
            obtain ⟨V4, hV4⟩ : ∃ V4, V4 = w5.alloc (.cells #[.slice x ds.length cx, .slice none 0 0] 25) := ⟨_, rfl⟩
            have hb4 : Below w5.heap.size w5 V4 := by rw [hV4]; exact (Below.refl _ _).alloc (Nat.le_refl _) _
            replace d0 := cell_below hb4 d0
            replace d1 := cell_below hb4 d1
            replace HSD : Hid (IsS V4 (some ⟨g, 0, none⟩) cap DS) := HSD.out.below hb4
            replace HPQ : Hid (IsP V4 (some ⟨g2, 0, none⟩) cap2 QS) := HPQ.out.below hb4
            replace HX : Hid (IsS V4 x cx xs) := HX.out.below hb4
            have hB6 := Below.tr hB5 hb4
            rw [← hV4]
            clear hV4 hb4 d0a d1a hB5 hB4 cRt cC
            go_loopw [86] (fun v wr => ∃ i : Nat, i ≤ ds.length ∧ v = .int .i64 i ∧ Below V4.heap.size V4 wr) (fun v _ => ds.length - (intOf v).toNat)
            case atStart => exact ⟨0, by omega, rfl, Below.refl _ _⟩
            case round =>
              obtain ⟨i, hi, rfl, hbw⟩ := hrel
              by_cases hil : i < ds.length
              · obtain ⟨b, o, rfl, hlb, hcx, hxz⟩ := (HX.out.below hbw).2.2 i (blk xs i) (blk_get (by rw [HLX.out]; exact hil))
                obtain ⟨b', o', he, hlb', hcd, hdz⟩ := (HSD.out.below hbw).2.2 i (blk DS i) (blk_get (by rw [HLD.out]; exact hil))
                cases he
                have e0 := cell_below hbw d0
                have e1 := cell_below hbw d1
                have hW := HW.out i hil
                have hil' : (i : Int) < ds.length := by omega
                rw [Nat.zero_add] at hcd
                obtain ⟨b0, hb0⟩ : ∃ b0, b0 = ((blk xs i).toList == (blk DS i).toList) := ⟨_, rfl⟩
                rw [← hb0] at hW
                generalize blk xs i = t at hcx hxz hb0 hW
                generalize blk DS i = z at hcd hdz hb0
                have HW2 : Hid (anyN QS i t b0 qs.length = true) := by show _ = _; rw [← HLQ.out]; exact hW
                have hb0' := hb0.symm
                clear hW hb0
                go_wp2
                go_loopw [13, 101] (fun k v wr => ∃ j : Nat, j ≤ qs.length ∧ v = .int .i64 j ∧ k = .bool (anyN QS i t b0 j) ∧ Below V4.heap.size V4 wr) (fun _ v _ => qs.length - (intOf v).toNat)
                case atStart => exact ⟨0, by omega, rfl, by simp [anyN], hbw⟩
                case round =>
                  obtain ⟨j, hj3, rfl, rfl, hbw2⟩ := hrel
                  clear hcx hcd e0 e1 hbw hlb hlb'
                  have hws2 := hbw2.size
                  by_cases hjl : j < qs.length
                  · obtain ⟨p, hx⟩ : ∃ x, QS[j]? = some x := ⟨_, List.getElem?_eq_getElem (by rw [HLQ.out]; exact hjl)⟩
                    obtain ⟨b', o', he, hlb', hc1, hc2, hpz, -, -⟩ := (HPQ.out.below hbw2).2.2 j p hx
                    cases he
                    rw [Nat.zero_add] at hc1 hc2
                    have hjl' : (j : Int) < qs.length := by omega
                    have HN : Hid (anyN QS i t b0 (j + 1) = (anyN QS i t b0 j || (decide (p.1 = i) && decide (p.2 = t)))) := anyN_succ i t b0 hx
                    obtain ⟨k, hk⟩ : ∃ k, k = anyN QS i t b0 j := ⟨_, rfl⟩
                    rw [← hk] at HN ⊢
                    clear hx hk
                    cases k with
                    | true =>
                      go_wp2
                      go_roundw
                      case rel => exact ⟨j + 1, by omega, by go_num, by rw [HN.out]; rfl, hbw2.alloc hws2 _⟩
                      case measure => simp [intOf]; omega
                    | false =>
                      by_cases hpi : p.1 = (i : Int)
                      · rw [hpi] at hc1
                        go_wp2
                        go_roundw
                        case rel => exact ⟨j + 1, by omega, by go_num, by rw [HN.out, decide_eq_true hpi]; simp; exact str_dec _ _, hbw2.alloc hws2 _⟩
                        case measure => simp [intOf]; omega
                      · have hpi' : (p.1 == (i : Int)) = false := by simpa using hpi
                        go_wp2
                        go_roundw
                        case rel => exact ⟨j + 1, by omega, by go_num, by rw [HN.out, decide_eq_false hpi]; rfl, hbw2.alloc hws2 _⟩
                        case measure => simp [intOf]; omega
                  · obtain rfl : j = qs.length := by omega
                    have hW3 := HW2.out
                    rw [hW3]
                    go_wp2
                    go_roundw
                    case rel => exact ⟨i + 1, by omega, by go_num, hbw2⟩
                    case measure => simp [intOf]; omega
              · obtain rfl : i = ds.length := by omega
                have hB7 := Below.tr hB6 hbw
                go_wp2_with (go_at_call 12; refine (alive_any _).mono ?_; rintro e w9 ⟨rfl, hb9⟩)
                go_ret
                exact ⟨rfl, Below.tr hB7 hb9⟩

end Go.Proofs.Ytogadbckiaghcaa

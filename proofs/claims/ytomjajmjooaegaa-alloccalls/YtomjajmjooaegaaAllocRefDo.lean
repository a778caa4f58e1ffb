/-
  The document's own Take and Give, of allocs that may be.
-/
import Derived.Test.YtomjajmjooaegaaAllocRefPut
namespace Go.Proofs.Ytomjajmjooaegaa
open Go.RowKit Plain
set_option linter.unusedVariables false

set_option maxRecDepth 20000 in
set_option maxHeartbeats 2000000 in
/-- The document's own TAKE. -/
theorem refTake_any (a a' : Option Addr) (c c' n : Nat) (b m : List Bool) (w : World) (hr : rightA b m = true) (hn : n = b.length) (hn' : n = m.length) (hB : IsB w a c b) (hB' : IsB w a' c' m) :
    Calls Try.prog 19 #[.agg #[.slice a n c, .slice a' n c']] w fun e w' => ∃ a1 c1 a2 c2, e = .returned (.tuple #[.agg #[.slice a1 (takeB b m).length c1, .slice a2 (takeN b m).length c2], .int .i64 (takeK b m), .int .i64 (takeE b m)]) ∧ IsB w' a1 c1 (takeB b m) ∧ IsB w' a2 c2 (takeN b m) ∧ Below w.heap.size w w' := by
  obtain ⟨W, hW⟩ : ∃ W, W = (w.alloc (.cells #[.slice a n c, .slice a' n c'] 24)).alloc (.cells #[.slice none 0 0, .slice none 0 0] 24) := ⟨_, rfl⟩
  obtain ⟨hB0, hWs, bi, bo⟩ := two_boxes hW
  obtain ⟨hl, h24, h48, -⟩ := (rightA_iff b m).1 hr
  have hnb : n ≤ 2048 := by omega
  have ci : ∀ (i : Nat) (q : Bool) V, Below W.heap.size W V → freeB b m i = q → Calls Try.prog 21 #[.agg #[.slice a n c, .slice a' n c'], .int .i64 i] V fun e w' => e = .returned (.bool q) ∧ Below V.heap.size V w' := by
    rintro i q V hV rfl
    exact isFree_any a a' c c' n b m i V hn hn' (hB.below (Below.tr hB0 hV)) (hB'.below (Below.tr hB0 hV))
  have cp : ∀ (i : Nat) V, Below W.heap.size W V → Calls Try.prog 30 #[.agg #[.slice a n c, .slice a' n c'], .int .i64 i, .bool true] V fun e w' => ∃ a2 c2, e = .returned (.agg #[.slice a n c, .slice a2 n c2]) ∧ OwnT V.heap.size w' a2 c2 (m.set i true) ∧ Below V.heap.size V w' :=
    fun i V hV => refPut_any a a' c c' n n m i true V hn' hnb (hB'.below (Below.tr hB0 hV))
  have HBB : Hid (IsB w a c b) := hB
  have HN : Hid (n = b.length ∧ n = m.length ∧ rightA b m = true ∧ b.length = m.length) := ⟨hn, hn', hr, hl⟩
  clear hn hn' hB hB' hr hl h24 h48
  go_enter Try.func19, Try.ntmps19
  go_wp2
  rw [← hW]
  go_loopw [9] (fun v wr => ∃ j : Nat, j ≤ n ∧ v = .int .i64 j ∧ (∀ i, i < j → freeB b m i = false) ∧ Below W.heap.size W wr) (fun v _ => n - (intOf v).toNat)
  case atStart => exact ⟨0, by omega, rfl, fun i hi => by omega, Below.refl _ _⟩
  case round =>
    obtain ⟨j, hj, rfl, hno, hbel⟩ := hrel
    have HA : Hid (∀ i, i < j → freeB b m i = false) := hno
    clear hno
    obtain ⟨⟨q0, q1⟩, -, -⟩ := bi.below hbel
    by_cases hlt : j < n
    · have hlt' : (j : Int) < n := by omega
      obtain ⟨q, hq⟩ : ∃ q, Hid (freeB b m j = q) := ⟨_, rfl⟩
      have cj := ci j q wr hbel hq.out
      cases q with
      | true =>
        have hP : takeP b m = j := takeP_is HN.out.2.2.2 hq.out HA.out
        have hE := take_some HN.out.2.2.1 hP
        have G : Hid (takeE b m = 0 ∧ takeK b m = j ∧ takeB b m = b ∧ takeN b m = m.set j true ∧ (m.set j true).length = n ∧ b.length = n) := ⟨hE, (take_ok hE hP).1, (take_ok hE hP).2.1, (take_ok hE hP).2.2, by rw [List.length_set, ← HN.out.2.1], HN.out.1.symm⟩
        clear hP hE
        go_wp2_with (first
          | (go_at_call 21; refine cj.mono ?_; rintro e w2 ⟨rfl, hb⟩; have HB2 := Below.tr hbel hb; obtain ⟨⟨r0, r1⟩, -, -⟩ := bi.below HB2; clear hb cj)
          | (go_at_call 30; refine (cp j _ HB2).mono ?_; rintro e w3 ⟨a2, c2, rfl, ho, hb⟩; have O2 : Hid (OwnT W.heap.size w3 a2 c2 (m.set j true)) := ho.mono HB2.size; have HB3 := Below.tr HB2 hb; obtain ⟨⟨t0, t1⟩, f0, f1⟩ := bo.below HB3; clear hb ho))
        obtain ⟨g0, g1, g2, g3, g4, g5⟩ := G.out
        refine bodyPost_ret (v := .tuple #[.agg #[.slice a n c, .slice a2 n c2], .int .i64 j, .int .i64 0]) (by simp [results, Try.results19, go_sem, t0, t1]) rfl ⟨a, c, a2, c2, by rw [g0, g1, g2, g3, g4, g5], ?_, ?_, below_set2 (Below.tr hB0 HB3) (Nat.le_succ _)⟩
        · rw [g2]
          exact HBB.out.below (below_set2 (Below.tr hB0 HB3) (Nat.le_succ _))
        · rw [g3]
          exact ((O2.out.store (by omega) _ _).store (by omega) _ _).isB
      | false =>
        have hnx : Hid (∀ i, i < j + 1 → freeB b m i = false) := by
          intro i hi
          by_cases e : i = j
          · rw [e]; exact hq.out
          · exact HA.out i (by omega)
        go_wp2_with (go_at_call 21; refine cj.mono ?_; rintro e w2 ⟨rfl, hb⟩)
        go_roundw
        case rel => exact ⟨j + 1, by omega, by go_num, hnx.out, Below.tr hbel hb⟩
        case measure => simp [intOf]; omega
    · obtain rfl : j = n := by omega
      have hP : takeP b m = -1 := (takeP_none HN.out.2.2.2).2 (howN_zero.2 (by rw [← HN.out.2.1]; exact HA.out))
      have hE := take_none HN.out.2.2.1 hP
      have G : Hid (takeE b m = 60 ∧ takeK b m = 0 ∧ takeB b m = [] ∧ takeN b m = []) := ⟨hE, take_err (by rw [hE]; decide)⟩
      obtain ⟨⟨t0, t1⟩, f0, f1⟩ := bo.below hbel
      clear hP hE
      go_wp2
      obtain ⟨g0, g1, g2, g3⟩ := G.out
      refine bodyPost_ret (v := .tuple #[.agg #[.slice none 0 0, .slice none 0 0], .int .i64 0, .int .i64 60]) (by simp [results, Try.results19, go_sem, t0, t1]) rfl ⟨none, 0, none, 0, by rw [g0, g1, g2, g3]; rfl, by rw [g2]; exact IsB_nil _, by rw [g3]; exact IsB_nil _, below_set2 (Below.tr hB0 hbel) (Nat.le_succ _)⟩

set_option maxRecDepth 20000 in
set_option maxHeartbeats 2000000 in
/-- The document's own GIVE. -/
theorem refGive_any (a a' ap : Option Addr) (c c' cp n k : Nat) (b m : List Bool) (xs : List Int) (w : World) (hr : rightA b m = true) (hn : n = b.length) (hn' : n = m.length) (hk : k = xs.length) (hB : IsB w a c b) (hB' : IsB w a' c' m) (hI : IsI w ap cp xs) :
    Calls Try.prog 20 #[.agg #[.slice a n c, .slice a' n c'], .slice ap k cp] w fun e w' => ∃ a1 c1 a2 c2, e = .returned (.tuple #[.agg #[.slice a1 (giveB b m xs).length c1, .slice a2 (giveN b m xs).length c2], .int .i64 (giveE b m xs)]) ∧ IsB w' a1 c1 (giveB b m xs) ∧ IsB w' a2 c2 (giveN b m xs) ∧ Below w.heap.size w w' := by
  obtain ⟨W, hW⟩ : ∃ W, W = (w.alloc (.cells #[.slice a n c, .slice a' n c'] 24)).alloc (.cells #[.slice none 0 0, .slice none 0 0] 24) := ⟨_, rfl⟩
  obtain ⟨hB0, hWs, bi, bo⟩ := two_boxes hW
  obtain ⟨hl, h24, h48, -⟩ := (rightA_iff b m).1 hr
  have hnb : n ≤ 2048 := by omega
  have hkb : k ≤ 9223372036854775807 := by rw [hk]; exact Nat.le_trans hI.1 hI.2.1
  have HI : Hid (IsI w ap cp xs) := hI
  have HK : Hid (k = xs.length) := hk
  have HBB : Hid (IsB w a c b) := hB
  have HN : Hid (n = b.length ∧ n = m.length ∧ rightA b m = true ∧ b.length = m.length) := ⟨hn, hn', hr, hl⟩
  have far0 : ∀ g o, a' = some ⟨g, o, none⟩ → g ≠ w.heap.size + 1 := by
    rintro g o rfl
    obtain ⟨g', o', he, hlt⟩ := hB'.some (by omega)
    cases he
    omega
  have K0 : Hid (IsB W a' c' m) := hB'.below hB0
  have n24 : 24 ≤ n := by omega
  clear hn hn' hB hB' hr hl h24 h48 hI hk
  go_enter Try.func20, Try.ntmps20
  go_wp2
  rw [← hW]
  go_loopw [10] (fun v wr => ∃ (j : Nat) (l : List Bool) (a2 : Option Addr) (c2 : Nat), j ≤ k ∧ v = .int .i64 j ∧ giveR m (xs.take j) = some l ∧ Box2 wr w.heap.size (.slice a n c) (.slice a2 n c2) ∧ Box2 wr (w.heap.size + 1) (.slice none 0 0) (.slice none 0 0) ∧ IsB wr a2 c2 l ∧ (∀ g o, a2 = some ⟨g, o, none⟩ → g ≠ w.heap.size + 1) ∧ Below w.heap.size w wr ∧ w.heap.size + 2 ≤ wr.heap.size) (fun v _ => k - (intOf v).toNat)
  case atStart => exact ⟨0, m, a', c', by omega, rfl, rfl, bi, bo, K0.out, far0, hB0, by omega⟩
  case round =>
    obtain ⟨j, l, a2, c2, hj, rfl, hgl, xi, xo, hB2, hfar, hbel, hsz⟩ := hrel
    have HO : Hid (IsB wr a2 c2 l) := hB2
    have HG : Hid (giveR m (xs.take j) = some l) := hgl
    have hll : l.length = n := by rw [giveR_length hgl, ← HN.out.2.1]
    obtain ⟨b2, o2, rfl, -⟩ := hB2.some (by omega)
    have FAR : Hid (b2 ≠ w.heap.size + 1) := hfar b2 o2 rfl
    clear hB2 hgl hfar far0
    by_cases hlt : j < k
    · have hlt' : (j : Int) < k := by omega
      obtain ⟨x, hx⟩ : ∃ p, Hid (xs[j]? = some p) := ⟨_, List.getElem?_eq_getElem (by rw [← HK.out]; exact hlt)⟩
      obtain ⟨bb, oo, rfl, hbl, hc0⟩ := HI.out.2.2 j x hx.out
      have hc := cell_below hbel hc0
      obtain ⟨⟨q0, q1⟩, d0, d1⟩ := id xi
      obtain ⟨⟨r0, r1⟩, f0, f1⟩ := id xo
      by_cases hok : 10 ≤ x ∧ x < l.length ∧ atB l x.toNat = true
      · obtain ⟨q, rfl⟩ : ∃ q : Nat, x = q := ⟨x.toNat, by omega⟩
        have hq1 : ¬ (q : Int) < 10 := by omega
        have hq2 : ¬ (n : Int) ≤ q := by omega
        have hqn : (q : Int) < n := by omega
        have hql : q < l.length := by omega
        have hat : l[q]? = some true := by
          have := hok.2.2
          rw [Int.toNat_natCast] at this
          rw [List.getElem?_eq_getElem hql]
          rw [atB_some (List.getElem?_eq_getElem hql)] at this
          rw [this]
        have hcx := HO.out.at hat
        have hnx : Hid (giveR m (xs.take (j + 1)) = some (l.set q false)) := by
          show _ = _
          rw [giveR_take HG.out hx.out, if_pos hok, Int.toNat_natCast]
        have cw := refPut_any a (some ⟨b2, o2, none⟩) c c2 n n l q false wr hll.symm hnb HO.out
        clear hat hok hll
        go_wp2_with (go_at_call 30; refine cw.mono ?_; rintro e w3 ⟨a3, c3, rfl, ho, hb⟩; have O3 : Hid (OwnT wr.heap.size w3 a3 c3 (l.set q false)) := ho; have HB3 := Below.tr hbel hb; have yi := xi.below hb; have yo := xo.below hb; obtain ⟨⟨t0, t1⟩, e0, e1⟩ := id yi; have hs3 := hb.size; clear hb ho)
        go_roundw
        case rel =>
          refine ⟨j + 1, l.set q false, a3, c3, by omega, by go_num, hnx.out, yi.set _ _, yo.other (by omega) _ _, ((O3.out.store (by omega) _ _).store (by omega) _ _).isB, ?_, below_set2 HB3 (Nat.le_refl _), by simp; omega⟩
          rintro g o rfl
          rcases O3.out with ⟨h, _⟩ | ⟨g', h1, h2, _⟩
          · cases h
          · cases h1; omega
        case measure => simp [intOf]; omega
      · have hE : giveE b m xs = 30 := give_none HN.out.2.2.1 (giveR_bad HG.out hx.out hok)
        have G : Hid (giveE b m xs = 30 ∧ giveB b m xs = [] ∧ giveN b m xs = []) := ⟨hE, give_err (by rw [hE]; decide)⟩
        have fin : ∀ w1, Below w.heap.size w w1 → ∃ a1 c1 a2 c2, Ending.returned (.tuple #[.agg #[.slice none 0 0, .slice none 0 0], .int .i64 30]) = .returned (.tuple #[.agg #[.slice a1 (giveB b m xs).length c1, .slice a2 (giveN b m xs).length c2], .int .i64 (giveE b m xs)]) ∧ IsB w1 a1 c1 (giveB b m xs) ∧ IsB w1 a2 c2 (giveN b m xs) ∧ Below w.heap.size w w1 := by
          intro w1 hb
          obtain ⟨g0, g1, g2⟩ := G.out
          exact ⟨none, 0, none, 0, by rw [g0, g1, g2]; rfl, by rw [g1]; exact IsB_nil _, by rw [g2]; exact IsB_nil _, hb⟩
        have hend : ∀ w1, w1 = (wr.setCell ⟨w.heap.size + 1, 0, none⟩ (.slice none 0 0)).setCell ⟨w.heap.size + 1, 1, none⟩ (.slice none 0 0) → Below w.heap.size w w1 := by
          rintro w1 rfl; exact below_set2 hbel (Nat.le_succ _)
        clear hE
        by_cases h1 : x < 10
        · clear hok
          go_wp2
          refine bodyPost_ret (v := .tuple #[.agg #[.slice none 0 0, .slice none 0 0], .int .i64 30]) (by simp [results, Try.results20, go_sem, r0, r1]) rfl (fin _ (hend _ rfl))
        · by_cases h2 : (n : Int) ≤ x
          · clear hok
            go_wp2
            refine bodyPost_ret (v := .tuple #[.agg #[.slice none 0 0, .slice none 0 0], .int .i64 30]) (by simp [results, Try.results20, go_sem, r0, r1]) rfl (fin _ (hend _ rfl))
          · obtain ⟨q, rfl⟩ : ∃ q : Nat, x = q := ⟨x.toNat, by omega⟩
            have hqn : (q : Int) < n := by omega
            have hql : q < l.length := by omega
            have hat : l[q]? = some false := by
              rw [List.getElem?_eq_getElem hql]
              cases hv : l[q] with
              | false => rfl
              | true => exact absurd ⟨by omega, by omega, by rw [Int.toNat_natCast, atB_some (List.getElem?_eq_getElem hql)]; exact hv⟩ hok
            have hcx := HO.out.at hat
            clear hat hok hll
            go_wp2
            refine bodyPost_ret (v := .tuple #[.agg #[.slice none 0 0, .slice none 0 0], .int .i64 30]) (by simp [results, Try.results20, go_sem, r0, r1]) rfl (fin _ (hend _ rfl))
    · obtain rfl : j = k := by omega
      have hE : Hid (giveE b m xs = 0 ∧ giveB b m xs = b ∧ giveN b m xs = l) := give_some HN.out.2.2.1 (by have := HG.out; rw [HK.out, List.take_length] at this; exact this)
      obtain ⟨⟨q0, q1⟩, -, -⟩ := xi
      obtain ⟨⟨r0, r1⟩, f0, f1⟩ := xo
      go_wp2
      obtain ⟨g0, g1, g2⟩ := hE.out
      refine bodyPost_ret (v := .tuple #[.agg #[.slice a n c, .slice (some ⟨b2, o2, none⟩) n c2], .int .i64 0]) (by simp [results, Try.results20, go_sem, r0, r1]) rfl ⟨a, c, some ⟨b2, o2, none⟩, c2, by rw [g0, g1, g2, hll, ← HN.out.1], ?_, ?_, below_set2 hbel (Nat.le_succ _)⟩
      · rw [g1]
        exact HBB.out.below (below_set2 hbel (Nat.le_succ _))
      · rw [g2]
        exact (HO.out.setOther (fun g o h => by cases h; exact FAR.out)).setOther (fun g o h => by cases h; exact FAR.out)

end Go.Proofs.Ytomjajmjooaegaa

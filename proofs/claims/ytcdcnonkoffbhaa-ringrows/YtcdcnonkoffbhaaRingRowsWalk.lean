/-
  The walk through the statement RingRows.
-/
import Derived.Test.YtcdcnonkoffbhaaRingBody
import Derived.Test.YtcdcnonkoffbhaaRingScan
namespace Go.Proofs.Ytcdcnonkoffbhaa.Plain
open Go.RowKit

def cut480 (b : ByteArray) : ByteArray := b.extract 0 (min b.size 480)
theorem cut480_size (b : ByteArray) : (cut480 b).size ≤ 480 := by unfold cut480; rw [ByteArray.size_extract]; omega
/-- Records with rising numbers. -/
def recsR (g : Int) (vs : List ByteArray) : List ByteArray := vs.mapIdx fun i b => recS g i (cut480 b)

theorem recsR_next {g : Int} {vs : List ByteArray} {j : Nat} {b : ByteArray} (h : vs[j]? = some b) : recsR g (vs.take (j + 1)) = recsR g (vs.take j) ++ [recS g j (cut480 b)] := by
  have hj := (List.getElem?_eq_some_iff.1 h).1
  rw [List.take_add_one, h, Option.toList_some, recsR, List.mapIdx_concat, List.length_take]
  rw [show min j vs.length = j by omega]
  rfl
theorem recsR_at {g : Int} {vs : List ByteArray} {j : Nat} {x : ByteArray} (h : (recsR g vs)[j]? = some x) : ∃ b, vs[j]? = some b ∧ x = recS g j (cut480 b) := by
  rw [recsR, List.getElem?_mapIdx] at h
  cases hv : vs[j]? with
  | none => rw [hv] at h; cases h
  | some b => rw [hv] at h; exact ⟨b, rfl, (Option.some.inj h).symm⟩
theorem recsR_len (g : Int) (vs : List ByteArray) : (recsR g vs).length = vs.length := by simp [recsR]
theorem recsR_size (g : Int) (vs : List ByteArray) : ∀ x ∈ recsR g vs, x.size ≤ 494 := by
  intro x hx
  obtain ⟨j, hj⟩ := List.getElem?_of_mem hx
  obtain ⟨b, _, rfl⟩ := recsR_at hj
  exact rec_size _ _ _

theorem rec_ok {g : Int} {j : Nat} (b : ByteArray) (hg : 1 ≤ g) (hg2 : g ≤ 1099511627776) (hj : j ≤ 7) : recE g j (cut480 b) = 0 :=
  recE_zero ((rightR_iff _ _).2 ⟨⟨hg, hg2⟩, by omega, by omega⟩) (cut480_size b)

theorem rows_scan {g : Int} {vs es : List ByteArray} (hg : 1 ≤ g) (hg2 : g ≤ 1099511627776) (hl : vs.length ≤ 8) (he : ∀ x ∈ es, ¬ rgE x g = 0) : scanR g 0 (recsR g vs ++ es) = vs.map cut480 := by
  have hlen := recsR_len g vs
  have h : AllR g (recsR g vs ++ es) vs.length := by
    intro i x hi hx
    rw [List.getElem?_append_left (by omega)] at hx
    obtain ⟨b, hb, rfl⟩ := recsR_at hx
    obtain ⟨a, c, _⟩ := rec_back (rec_ok (j := i) b hg hg2 (by omega))
    exact ⟨a, c⟩
  rw [scan_stop h (fun x hx => ?_)]
  · rw [← hlen, List.take_left]
    apply List.ext_getElem?
    intro i
    rw [List.getElem?_map, List.getElem?_map]
    cases hv : vs[i]? with
    | none =>
      rw [List.getElem?_eq_none (by rw [hlen]; exact List.getElem?_eq_none_iff.1 hv)]
      rfl
    | some b =>
      have hi := (List.getElem?_eq_some_iff.1 hv).1
      obtain ⟨x, hx⟩ : ∃ x, (recsR g vs)[i]? = some x := ⟨_, List.getElem?_eq_getElem (by omega)⟩
      obtain ⟨b', hb', rfl⟩ := recsR_at hx
      rw [hv] at hb'
      obtain rfl := Option.some.inj hb'
      rw [hx]
      obtain ⟨_, _, d⟩ := rec_back (rec_ok (j := i) b hg hg2 (by omega))
      show some (rgB _ g) = some _
      rw [d]
  · rintro ⟨h0, _⟩
    rw [List.getElem?_append_right (by omega)] at hx
    exact he x (List.mem_of_getElem? hx) h0

theorem rows_none {g g' : Int} {vs es : List ByteArray} (hg : 1 ≤ g) (hg2 : g ≤ 1099511627776) (hn : g ≠ g') (hl : 1 ≤ vs.length) : scanR g' 0 (recsR g vs ++ es) = [] := by
  cases vs with
  | nil => simp at hl
  | cons b vs =>
    have : recsR g (b :: vs) ++ es = recS g (0 : Nat) (cut480 b) :: (vs.mapIdx (fun i b => recS g ((i + 1 : Nat) : Int) (cut480 b)) ++ es) := by
      simp [recsR, List.mapIdx_cons]
    rw [this, scanR, if_neg]
    rintro ⟨h, _⟩
    rw [rec_other (rec_ok (j := 0) b hg hg2 (by omega)) hn] at h
    exact absurd h (by decide)

end Go.Proofs.Ytcdcnonkoffbhaa.Plain
namespace Go.Proofs.Ytcdcnonkoffbhaa
open Go.RowKit Plain
set_option linter.unusedVariables false

theorem cut480_run (b : ByteArray) {k : Nat} (h : k = min b.size 480) : cut480 b = b.extract 0 k := by rw [h]; rfl

set_option maxRecDepth 20000 in
set_option maxHeartbeats 4000000 in
theorem ringRows_walk (gen : Int) (a : Option Addr) (c : Nat) (xs : List ByteArray) (a' : Option Addr) (c' : Nat) (ys : List ByteArray) (w : World) (wg : (Lit.int .i64 gen).wf = true) (hS : IsS w a c xs) (hT : IsS w a' c' ys) :
    Calls Try.prog 7 #[.int .i64 gen, .slice a xs.length c, .slice a' ys.length c'] w fun e w' => e = .returned (.bool true) ∧ Below w.heap.size w w' := by
  obtain ⟨G1, hG1⟩ : ∃ G, max gen 2 = G := ⟨_, rfl⟩
  obtain ⟨G, hG⟩ : ∃ G', min G1 1099511627776 = G' := ⟨_, rfl⟩
  have hGl : 2 ≤ G := by omega
  have hG2 : G ≤ 1099511627776 := by omega
  obtain ⟨vs, hvs⟩ : ∃ vs, vs = xs.take 8 := ⟨_, rfl⟩
  obtain ⟨n, hn⟩ : ∃ n, n = vs.length := ⟨_, rfl⟩
  have hmin : min (xs.length : Int) 8 = (n : Int) := by rw [hn, hvs, List.length_take]; omega
  have hn8 : n ≤ 8 := by rw [hn, hvs, List.length_take]; omega
  have hV : IsS w a c vs := by rw [hvs]; exact hS.take 8
  have hnc : n ≤ c := by rw [hn]; exact hV.1
  have hlc : xs.length ≤ c := hS.1
  have hcm : c ≤ 9223372036854775807 := hS.2.1
  have hym : ys.length ≤ 9223372036854775807 := hT.size
  have HV : Hid (IsS w a c vs) := hV
  have HT : Hid (IsS w a' c' ys) := hT
  have HN : Hid (n = vs.length) := hn
  obtain ⟨l, hll⟩ : ∃ l, l = xs.length := ⟨_, rfl⟩
  obtain ⟨y, hy⟩ : ∃ y, y = ys.length := ⟨_, rfl⟩
  have HY : Hid (y = ys.length) := hy
  rw [← hll] at hmin hlc ⊢
  rw [← hy] at hym ⊢
  have c5 := alive13_any
  have rmax := max_run hG1
  have rminG := min_run hG
  have rmin := min_run hmin
  clear hvs hn hV hS hT hll hy wg hG1 hG
  go_enter Try.func7, Try.ntmps7
  go_wp2
  go_loopw [7, 8, 27] (fun b b8 v wr => ∃ j : Nat, j ≤ n ∧ v = .int .i64 j ∧ wr.ownsRow w.heap.size 9 1 b j ((recsR G (vs.take j)).map Value.string) ∧ wr.ownsRow w.heap.size 9 1 b8 j (((vs.take j).map cut480).map Value.string) ∧ Apart b b8 ∧ Below w.heap.size w wr) (fun _ _ v _ => n - (intOf v).toNat)
  case atStart => exact ⟨0, by omega, rfl, World.ownsRow_nil _ _ _ _, World.ownsRow_nil _ _ _ _, apart_nil _ _, Below.refl _ _⟩
  case round =>
    obtain ⟨j, hj, rfl, own7, own8, hap, hB⟩ := hrel
    by_cases hlt : j < n
    · obtain ⟨x, hx⟩ : ∃ x, vs[j]? = some x := ⟨_, List.getElem?_eq_getElem (by rw [← HN.out]; exact hlt)⟩
      obtain ⟨bk, o, rfl, hbk, d0, hxs⟩ := HV.out.2.2 j x hx
      replace d0 := cell_below hB d0
      have hxm : x.size ≤ 9223372036854775807 := hxs
      have hjn : (j : Int) < n := by omega
      obtain ⟨k, hk⟩ : ∃ k, k = min x.size 480 := ⟨_, rfl⟩
      have hkm : min (x.size : Int) 480 = (k : Int) := by omega
      have hkx : k ≤ x.size := by omega
      have rk := min_run hkm
      have c1 : ∀ W, Calls Try.prog 9 #[.int .i64 G, .int .i64 j, .string (x.extract 0 k)] W fun e w' => e = .returned (.tuple #[.string (recS G j (cut480 x)), .int .i64 0]) ∧ Below W.heap.size W w' := by
        intro W
        have := ringPut_any G j (cut480 x) W (by have := cut480_size x; unfold maxLen; omega)
        rw [rec_ok x (by omega) hG2 (by omega), cut480_run x hk] at this
        rw [cut480_run x hk]
        exact this
      have hn1 : Hid (recsR G (vs.take (j + 1)) = recsR G (vs.take j) ++ [recS G j (cut480 x)]) := recsR_next hx
      have hn2 : Hid ((vs.take (j + 1)).map cut480 = (vs.take j).map cut480 ++ [x.extract 0 k]) := by
        show _ = _
        rw [List.take_add_one, hx, Option.toList_some, List.map_append, ← cut480_run x hk]; rfl
      generalize recS G j (cut480 x) = q at *
      replace own7 : Hid _ := own7
      replace own8 : Hid _ := own8
      replace hap : Hid _ := hap
      clear hx hk hbk
      have tok1 : True := trivial
      go_wp2_with (first
        | (go_at_call 9; refine (c1 _).mono ?_; rintro e w2 ⟨rfl, hb⟩; have hB2 := Below.tr hB hb; have o7 := (Turns.of_below (P := fun _ => False) hb).owns own7.out (fun _ _ h => h); have o8 := (Turns.of_below (P := fun _ => False) hb).owns own8.out (fun _ _ h => h); obtain ⟨g1, cap1, w3, hrun1, own71, hgr1, hat1, hge1, hlt1⟩ := push_S w2 w.heap.size u7 j _ q o7 hB2.size (by omega); have t1 : Turns (fun i => u7.ownBlock = some i) w2 w3 := ((Turns.refl _ _).alloc _).grown hgr1 (fun i hi => hi); have o81 := t1.owns o8 (fun g hg h => hap.out g h hg); have hB3 : Below w.heap.size w w3 := (hB2.alloc hB2.size _).grown hgr1 (Nat.le_trans hB2.size (by simp)) (fun i hi => (o7.lt i hi).1); have ap1 : Apart (.slice (some ⟨g1, 0, none⟩) (j + 1) cap1) u8 := apart_grown hap.out hat1 (fun i hi => Nat.lt_succ_of_lt (o8.lt i hi).2); obtain ⟨g2, cap2, w4, hrun2, own82, hgr2, hat2, hge2, hlt2⟩ := push_S w3 w.heap.size u8 j _ (x.extract 0 k) o81 hB3.size (by omega); have t2 : Turns (fun i => u8.ownBlock = some i) w3 w4 := ((Turns.refl _ _).alloc _).grown hgr2 (fun i hi => hi); have own72 : Hid _ := t2.owns own71 (fun g hg h => ap1 g hg h); have hB4 : Below w.heap.size w w4 := (hB3.alloc hB3.size _).grown hgr2 (Nat.le_trans hB3.size (by simp)) (fun i hi => (o81.lt i hi).1); have ap2 : Hid (Apart (.slice (some ⟨g1, 0, none⟩) (j + 1) cap1) (.slice (some ⟨g2, 0, none⟩) (j + 1) cap2)) := (apart_grown ap1.symm hat2 (fun i hi => Nat.lt_succ_of_lt (own71.lt i hi).2)).symm; have own83 : Hid _ := own82; clear hb o7 o8 hgr1 hat1 hge1 hlt1 t1 o81 ap1 hgr2 hat2 hge2 hlt2 t2 own71 own82)
        | (at_builtin; have _t := tok1; refine Lib.wpList_append_run _ rfl _ _ _ _ rfl _ _ rfl rfl _ _ hrun1 ?_; clear tok1 _t)
        | (at_builtin; refine Lib.wpList_append_run _ rfl _ _ _ _ rfl _ _ rfl rfl _ _ hrun2 ?_))
      go_roundw
      case rel => exact ⟨j + 1, by omega, by go_num, by rw [hn1.out]; exact own72.out, by rw [hn2.out]; exact own83.out, ap2.out, hB4⟩
      case measure => simp [intOf]; omega
    · obtain rfl : j = n := by omega
      rw [List.take_of_length_le (by rw [← HN.out]; exact Nat.le_refl _)] at own7 own8
      replace own7 : Hid _ := own7
      replace own8 : Hid _ := own8
      replace hap : Hid _ := hap
      clear rmin hmin rmax rminG
      go_wp2
      go_loopw [7, 57] (fun b v wr => ∃ (i m : Nat) (es : List ByteArray), i ≤ y ∧ v = .int .i64 i ∧ m = j + i ∧ m ≤ 8 ∧ i ≤ 5 ∧ wr.ownsRow w.heap.size 9 1 b m ((recsR G vs ++ es).map Value.string) ∧ Hid (wr.ownsRow w.heap.size 9 1 u8 j ((vs.map cut480).map Value.string)) ∧ Hid (Apart b u8) ∧ Hid (∀ x ∈ es, ¬ rgE x G = 0) ∧ Hid (∀ x ∈ recsR G vs ++ es, x.size ≤ maxLen) ∧ Below w.heap.size w wr) (fun _ v _ => y - (intOf v).toNat)
      case atStart =>
        have e0 : Hid (∀ x ∈ ([] : List ByteArray), ¬ rgE x G = 0) := by
          show ∀ x ∈ ([] : List ByteArray), ¬ rgE x G = 0
          intro x hx; cases hx
        have e1 : Hid (∀ x ∈ recsR G vs ++ [], x.size ≤ maxLen) := by
          show ∀ x ∈ recsR G vs ++ [], x.size ≤ maxLen
          intro x hx
          rw [List.append_nil] at hx
          have := recsR_size G vs x hx
          unfold maxLen; omega
        exact ⟨0, j, [], Nat.zero_le _, rfl, rfl, hn8, Nat.zero_le _, (by rw [List.append_nil]; exact own7.out), own8, hap, e0, e1, hB⟩
      case round =>
        clear own7 own8 hap hB
        obtain ⟨i, m, es, hi, rfl, hm, hm8, hi5, own7, own8, hap, HE, HSZ, hB⟩ := hrel
        obtain ⟨q1, d1, rfl, hm1, hI1, -⟩ := owns_S own7 HSZ.out
        replace own7 : Hid _ := own7
        replace hm1 : Hid _ := hm1
        replace hm : Hid _ := hm
        replace hI1 : Hid _ := hI1
        generalize hn' : j = n at *
        clear hn' hlt
        by_cases hlt : i < y
        · obtain ⟨x, hx⟩ : ∃ x, ys[i]? = some x := ⟨_, List.getElem?_eq_getElem (by rw [← HY.out]; exact hlt)⟩
          obtain ⟨bk, o, rfl, hbk, d0, hxs⟩ := HT.out.2.2 i x hx
          replace d0 := cell_below hB d0
          have hxm : x.size ≤ 9223372036854775807 := hxs
          have hjn : (i : Int) < y := by omega
          clear hx hbk hxs
          by_cases h5 : 5 ≤ i
          · have h5' : (5 : Int) ≤ i := by omega
            obtain ⟨q2, d2, rfl, hm2, hI2, -⟩ := owns_S own8.out (fun x hx => by
              obtain ⟨y, _, rfl⟩ := List.mem_map.1 hx
              have := cut480_size y
              unfold maxLen; omega)
            have hS1 : Hid (scanR G 0 (recsR G vs ++ es) = vs.map cut480) := rows_scan (by omega) hG2 (by rw [← HN.out]; exact hn8) HE.out
            have c6 : ∀ W, Below wr.heap.size wr W → Calls Try.prog 15 #[.int .i64 G, .slice q1 m d1] W fun e w' => ∃ a' c', e = .returned (.slice a' n c') ∧ IsS w' a' c' (vs.map cut480) ∧ Below W.heap.size W w' := by
              intro W hb
              have := ringScan_any G q1 d1 m _ W hm1.out (IsS.below hI1.out hb) (by omega)
              rw [hS1.out, List.length_map, ← HN.out] at this
              exact this
            have c7 : 1 ≤ n → ∀ W, Below wr.heap.size wr W → Calls Try.prog 15 #[.int .i64 (G - 1), .slice q1 m d1] W fun e w' => ∃ a' c', e = .returned (.slice a' 0 c') ∧ Below W.heap.size W w' := by
              intro hn1 W hb
              have := ringScan_any (G - 1) q1 d1 m _ W hm1.out (IsS.below hI1.out hb) (by omega)
              rw [rows_none (by omega) hG2 (by omega) (by rw [← HN.out]; exact hn1)] at this
              exact this.mono fun e w' ⟨a', c', he, _, hb⟩ => ⟨a', c', he, hb⟩
            have c8 : ∀ W a1 k1, IsS W a1 k1 (vs.map cut480) → IsS W q2 d2 (vs.map cut480) → Calls Try.prog 14 #[.slice a1 n k1, .slice q2 n d2] W fun e w' => e = .returned (.bool true) ∧ Below W.heap.size W w' := by
              intro W a1 k1 h1 h2
              have := ringSame_any a1 q2 k1 d2 _ _ W h1 h2
              rw [List.length_map, ← HN.out, decide_eq_true rfl] at this
              exact this
            have hJ2 : Hid (IsS wr q2 d2 (vs.map cut480)) := hI2
            have hbb := Below.refl wr.heap.size wr
            clear hm1 hm2 hI1 hI2 own7 own8 HE hS1 hap HSZ
            by_cases hn0 : n = 0
            · subst hn0
              clear c7
              go_wp2_with (first
                | (go_at_call 13; refine (c5 _).mono ?_; rintro e y1 ⟨rfl, hb⟩; replace hbb := Below.tr hbb hb; clear hb)
                | (go_at_call 15; refine (c6 _ hbb).mono ?_; rintro e y2 ⟨a1, k1, rfl, h1, hb⟩; replace hbb := Below.tr hbb hb; clear hb)
                | (go_at_call 14; refine (c8 _ _ _ h1 (hJ2.out.below hbb)).mono ?_; rintro e y3 ⟨rfl, hb⟩; replace hbb := Below.tr hbb hb; clear hb))
              go_ret
              exact ⟨rfl, Below.tr hB hbb⟩
            · have hn0' : ((n : Int) == 0) = false := by rw [beq_eq_false_iff_ne]; omega
              have hn00 : ¬ (n : Int) = 0 := by omega
              replace c7 := c7 (by omega)
              have tok1 : True := trivial
              go_wp2_with (first
                | (go_at_call 13; refine (c5 _).mono ?_; rintro e y1 ⟨rfl, hb⟩; replace hbb := Below.tr hbb hb; clear hb)
                | (go_at_call 15; have _t := tok1; refine (c6 _ hbb).mono ?_; rintro e y2 ⟨a1, k1, rfl, h1, hb⟩; replace hbb := Below.tr hbb hb; clear hb tok1 _t)
                | (go_at_call 14; refine (c8 _ _ _ h1 (hJ2.out.below hbb)).mono ?_; rintro e y3 ⟨rfl, hb⟩; replace hbb := Below.tr hbb hb; clear hb)
                | (go_at_call 15; refine (c7 _ hbb).mono ?_; rintro e y4 ⟨a2, k2, rfl, hb⟩; replace hbb := Below.tr hbb hb; clear hb))
              go_ret
              exact ⟨rfl, Below.tr hB hbb⟩
          · have h5' : ¬ (5 : Int) ≤ i := by omega
            by_cases h8 : 8 ≤ m
            · have h8' : (8 : Int) ≤ m := by omega
              obtain ⟨q2, d2, rfl, hm2, hI2, -⟩ := owns_S own8.out (fun x hx => by
                obtain ⟨y, _, rfl⟩ := List.mem_map.1 hx
                have := cut480_size y
                unfold maxLen; omega)
              have hS1 : Hid (scanR G 0 (recsR G vs ++ es) = vs.map cut480) := rows_scan (by omega) hG2 (by rw [← HN.out]; exact hn8) HE.out
              have c6 : ∀ W, Below wr.heap.size wr W → Calls Try.prog 15 #[.int .i64 G, .slice q1 m d1] W fun e w' => ∃ a' c', e = .returned (.slice a' n c') ∧ IsS w' a' c' (vs.map cut480) ∧ Below W.heap.size W w' := by
                intro W hb
                have := ringScan_any G q1 d1 m _ W hm1.out (IsS.below hI1.out hb) (by omega)
                rw [hS1.out, List.length_map, ← HN.out] at this
                exact this
              have c7 : 1 ≤ n → ∀ W, Below wr.heap.size wr W → Calls Try.prog 15 #[.int .i64 (G - 1), .slice q1 m d1] W fun e w' => ∃ a' c', e = .returned (.slice a' 0 c') ∧ Below W.heap.size W w' := by
                intro hn1 W hb
                have := ringScan_any (G - 1) q1 d1 m _ W hm1.out (IsS.below hI1.out hb) (by omega)
                rw [rows_none (by omega) hG2 (by omega) (by rw [← HN.out]; exact hn1)] at this
                exact this.mono fun e w' ⟨a', c', he, _, hb⟩ => ⟨a', c', he, hb⟩
              have c8 : ∀ W a1 k1, IsS W a1 k1 (vs.map cut480) → IsS W q2 d2 (vs.map cut480) → Calls Try.prog 14 #[.slice a1 n k1, .slice q2 n d2] W fun e w' => e = .returned (.bool true) ∧ Below W.heap.size W w' := by
                intro W a1 k1 h1 h2
                have := ringSame_any a1 q2 k1 d2 _ _ W h1 h2
                rw [List.length_map, ← HN.out, decide_eq_true rfl] at this
                exact this
              have hJ2 : Hid (IsS wr q2 d2 (vs.map cut480)) := hI2
              have hbb := Below.refl wr.heap.size wr
              clear hm1 hm2 hI1 hI2 own7 own8 HE hS1 hap HSZ
              by_cases hn0 : n = 0
              · subst hn0
                clear c7
                go_wp2_with (first
                  | (go_at_call 13; refine (c5 _).mono ?_; rintro e y1 ⟨rfl, hb⟩; replace hbb := Below.tr hbb hb; clear hb)
                  | (go_at_call 15; refine (c6 _ hbb).mono ?_; rintro e y2 ⟨a1, k1, rfl, h1, hb⟩; replace hbb := Below.tr hbb hb; clear hb)
                  | (go_at_call 14; refine (c8 _ _ _ h1 (hJ2.out.below hbb)).mono ?_; rintro e y3 ⟨rfl, hb⟩; replace hbb := Below.tr hbb hb; clear hb))
                go_ret
                exact ⟨rfl, Below.tr hB hbb⟩
              · have hn0' : ((n : Int) == 0) = false := by rw [beq_eq_false_iff_ne]; omega
                have hn00 : ¬ (n : Int) = 0 := by omega
                replace c7 := c7 (by omega)
                have tok1 : True := trivial
                go_wp2_with (first
                  | (go_at_call 13; refine (c5 _).mono ?_; rintro e y1 ⟨rfl, hb⟩; replace hbb := Below.tr hbb hb; clear hb)
                  | (go_at_call 15; have _t := tok1; refine (c6 _ hbb).mono ?_; rintro e y2 ⟨a1, k1, rfl, h1, hb⟩; replace hbb := Below.tr hbb hb; clear hb tok1 _t)
                  | (go_at_call 14; refine (c8 _ _ _ h1 (hJ2.out.below hbb)).mono ?_; rintro e y3 ⟨rfl, hb⟩; replace hbb := Below.tr hbb hb; clear hb)
                  | (go_at_call 15; refine (c7 _ hbb).mono ?_; rintro e y4 ⟨a2, k2, rfl, hb⟩; replace hbb := Below.tr hbb hb; clear hb))
                go_ret
                exact ⟨rfl, Below.tr hB hbb⟩
            · have h8' : ¬ (8 : Int) ≤ m := by omega
              obtain ⟨k, hk⟩ : ∃ k, k = min x.size 480 := ⟨_, rfl⟩
              have hkm : min (x.size : Int) 480 = (k : Int) := by omega
              have hkx : k ≤ x.size := by omega
              have rk := min_run hkm
              have c1 : ∀ W, Calls Try.prog 9 #[.int .i64 (G - 1), .int .i64 m, .string (x.extract 0 k)] W fun e w' => e = .returned (.tuple #[.string (recS (G - 1) m (cut480 x)), .int .i64 0]) ∧ Below W.heap.size W w' := by
                intro W
                have := ringPut_any (G - 1) m (cut480 x) W (by have := cut480_size x; unfold maxLen; omega)
                rw [rec_ok x (by omega) (by omega) (by omega), cut480_run x hk] at this
                rw [cut480_run x hk]
                exact this
              have HE2 : Hid (¬ rgE (recS (G - 1) m (cut480 x)) G = 0) := by
                show ¬ _
                rw [rec_other (rec_ok x (by omega) (by omega) (by omega)) (by omega)]
                decide
              have hrs : Hid ((recS (G - 1) m (cut480 x)).size ≤ maxLen) := by
                show _ ≤ _
                have := rec_size (G - 1) m (cut480 x)
                unfold maxLen; omega
              have hgw : IntKind.i64.wrap (G - 1) = G - 1 := i64_in _ (by omega) (by omega)
              generalize recS (G - 1) m (cut480 x) = q at *
              clear hk hm1 hI1
              go_wp2_with (first
                | (go_at_call 9; refine (c1 _).mono ?_; rintro e w2 ⟨rfl, hb⟩; have hB2 := Below.tr hB hb; have o7 := (Turns.of_below (P := fun _ => False) hb).owns own7.out (fun _ _ h => h); have o8 := (Turns.of_below (P := fun _ => False) hb).owns own8.out (fun _ _ h => h); obtain ⟨g1, cap1, w3, hrun1, own71, hgr1, hat1, hge1, hlt1⟩ := push_S w2 w.heap.size (.slice q1 m d1) m _ q o7 hB2.size (by omega); have t1 : Turns (fun i => (Value.slice q1 m d1).ownBlock = some i) w2 w3 := ((Turns.refl _ _).alloc _).grown hgr1 (fun i hi => hi); have o81 : Hid _ := t1.owns o8 (fun g hg h => hap.out g h hg); have hB3 : Below w.heap.size w w3 := (hB2.alloc hB2.size _).grown hgr1 (Nat.le_trans hB2.size (by simp)) (fun i hi => (o7.lt i hi).1); have ap1 : Hid (Apart (.slice (some ⟨g1, 0, none⟩) (m + 1) cap1) u8) := apart_grown hap.out hat1 (fun i hi => Nat.lt_succ_of_lt (o8.lt i hi).2); have own72 : Hid _ := own71; clear hb o7 o8 hgr1 hat1 hge1 hlt1 t1 own71)
                | (at_builtin; refine Lib.wpList_append_run _ rfl _ _ _ _ rfl _ _ rfl rfl _ _ hrun1 ?_))
              go_roundw
              case rel =>
                refine ⟨i + 1, m + 1, es ++ [q], by omega, by go_num, by have := hm.out; omega, by omega, by omega, by rw [← List.append_assoc]; exact own72.out, o81, ap1, fun x hx => ?_, fun x hx => ?_, hB3⟩
                · rcases List.mem_append.1 hx with hx | hx
                  · exact HE.out x hx
                  · simp at hx; subst hx; exact HE2.out
                · rw [← List.append_assoc] at hx
                  rcases List.mem_append.1 hx with hx | hx
                  · exact HSZ.out x hx
                  · simp at hx; subst hx; exact hrs.out
              case measure => simp [intOf]; omega
        · obtain rfl : i = y := by omega
          obtain ⟨q2, d2, rfl, hm2, hI2, -⟩ := owns_S own8.out (fun x hx => by
            obtain ⟨y, _, rfl⟩ := List.mem_map.1 hx
            have := cut480_size y
            unfold maxLen; omega)
          have hS1 : Hid (scanR G 0 (recsR G vs ++ es) = vs.map cut480) := rows_scan (by omega) hG2 (by rw [← HN.out]; exact hn8) HE.out
          have c6 : ∀ W, Below wr.heap.size wr W → Calls Try.prog 15 #[.int .i64 G, .slice q1 m d1] W fun e w' => ∃ a' c', e = .returned (.slice a' n c') ∧ IsS w' a' c' (vs.map cut480) ∧ Below W.heap.size W w' := by
            intro W hb
            have := ringScan_any G q1 d1 m _ W hm1.out (IsS.below hI1.out hb) (by omega)
            rw [hS1.out, List.length_map, ← HN.out] at this
            exact this
          have c7 : 1 ≤ n → ∀ W, Below wr.heap.size wr W → Calls Try.prog 15 #[.int .i64 (G - 1), .slice q1 m d1] W fun e w' => ∃ a' c', e = .returned (.slice a' 0 c') ∧ Below W.heap.size W w' := by
            intro hn1 W hb
            have := ringScan_any (G - 1) q1 d1 m _ W hm1.out (IsS.below hI1.out hb) (by omega)
            rw [rows_none (by omega) hG2 (by omega) (by rw [← HN.out]; exact hn1)] at this
            exact this.mono fun e w' ⟨a', c', he, _, hb⟩ => ⟨a', c', he, hb⟩
          have c8 : ∀ W a1 k1, IsS W a1 k1 (vs.map cut480) → IsS W q2 d2 (vs.map cut480) → Calls Try.prog 14 #[.slice a1 n k1, .slice q2 n d2] W fun e w' => e = .returned (.bool true) ∧ Below W.heap.size W w' := by
            intro W a1 k1 h1 h2
            have := ringSame_any a1 q2 k1 d2 _ _ W h1 h2
            rw [List.length_map, ← HN.out, decide_eq_true rfl] at this
            exact this
          have hJ2 : Hid (IsS wr q2 d2 (vs.map cut480)) := hI2
          have hbb := Below.refl wr.heap.size wr
          clear hm1 hm2 hI1 hI2 own7 own8 HE hS1 hap HSZ
          by_cases hn0 : n = 0
          · subst hn0
            clear c7
            go_wp2_with (first
              | (go_at_call 13; refine (c5 _).mono ?_; rintro e y1 ⟨rfl, hb⟩; replace hbb := Below.tr hbb hb; clear hb)
              | (go_at_call 15; refine (c6 _ hbb).mono ?_; rintro e y2 ⟨a1, k1, rfl, h1, hb⟩; replace hbb := Below.tr hbb hb; clear hb)
              | (go_at_call 14; refine (c8 _ _ _ h1 (hJ2.out.below hbb)).mono ?_; rintro e y3 ⟨rfl, hb⟩; replace hbb := Below.tr hbb hb; clear hb))
            go_ret
            exact ⟨rfl, Below.tr hB hbb⟩
          · have hn0' : ((n : Int) == 0) = false := by rw [beq_eq_false_iff_ne]; omega
            have hn00 : ¬ (n : Int) = 0 := by omega
            replace c7 := c7 (by omega)
            have tok1 : True := trivial
            go_wp2_with (first
              | (go_at_call 13; refine (c5 _).mono ?_; rintro e y1 ⟨rfl, hb⟩; replace hbb := Below.tr hbb hb; clear hb)
              | (go_at_call 15; have _t := tok1; refine (c6 _ hbb).mono ?_; rintro e y2 ⟨a1, k1, rfl, h1, hb⟩; replace hbb := Below.tr hbb hb; clear hb tok1 _t)
              | (go_at_call 14; refine (c8 _ _ _ h1 (hJ2.out.below hbb)).mono ?_; rintro e y3 ⟨rfl, hb⟩; replace hbb := Below.tr hbb hb; clear hb)
              | (go_at_call 15; refine (c7 _ hbb).mono ?_; rintro e y4 ⟨a2, k2, rfl, hb⟩; replace hbb := Below.tr hbb hb; clear hb))
            go_ret
            exact ⟨rfl, Below.tr hB hbb⟩

end Go.Proofs.Ytcdcnonkoffbhaa

/-
  The walk through the statement AllocTakes.
-/
import Derived.Test.YtomjajmjooaegaaAllocRef
import Derived.Deep.RegionHeld3
namespace Go.Proofs.Ytomjajmjooaegaa
open Go.RowKit Plain
set_option linter.unusedVariables false

theorem IsB.alloc {w : World} {a : Option Addr} {c : Nat} {l : List Bool} (h : IsB w a c l) (o : Obj) : IsB (w.alloc o) a c l := h.below ((Below.refl _ _).alloc (Nat.le_refl _) o)

/-- Of a block that was taken: given back it is free again. -/
theorem give_back {b m : List Bool} (h : rightA b m = true) {p : Nat} (hp : freeB b m p = true) : giveR (m.set p true) [(p : Int)] = some m := by
  obtain ⟨h1, h2, h3⟩ := (freeB_iff b m p).1 hp
  have h10 := free_ten h hp
  rw [giveR, if_pos, giveR, Int.toNat_natCast, set_back h1 h2]
  refine ⟨by omega, by rw [List.length_set]; omega, ?_⟩
  rw [Int.toNat_natCast, atB_setB, if_pos ⟨rfl, h1⟩]

set_option maxRecDepth 20000 in
set_option maxHeartbeats 4000000 in
theorem allocTakes_walk (a a' : Option Addr) (c c' : Nat) (b m : List Bool) (w : World) (hB : IsB w a c b) (hB' : IsB w a' c' m) :
    Calls Try.prog 5 #[.agg #[.slice a b.length c, .slice a' m.length c']] w fun e w' => e = .returned (.bool true) ∧ Below w.heap.size w w' := by
  obtain ⟨n, hn⟩ : ∃ n, n = b.length := ⟨_, rfl⟩
  obtain ⟨n', hn'⟩ : ∃ n, n = m.length := ⟨_, rfl⟩
  rw [← hn, ← hn']
  obtain ⟨W, hW⟩ : ∃ W, W = w.alloc (.cells #[.slice a n c, .slice a' n' c'] 24) := ⟨_, rfl⟩
  have hB0 : Below w.heap.size w W := by rw [hW]; exact (Below.refl _ _).alloc (Nat.le_refl _) _
  have bA : Box2 W w.heap.size (.slice a n c) (.slice a' n' c') := by rw [hW]; exact box2_new _ _ _ _ rfl
  have HB : Below W.heap.size W W := Below.refl _ _
  have cr := refRight_any a a' c c' n n' b m W hn hn' (hB.below hB0) (hB'.below hB0)
  cases hr : rightA b m with
  | false =>
    rw [hr, hW] at cr
    clear hn hn' hB hB'
    go_enter Try.func5, Try.ntmps5
    go_wp2_with (first
      | (go_at_call 13; refine cr.mono ?_; rintro e w1 ⟨rfl, hb⟩; rw [← hW] at hb; replace HB := Below.tr HB hb; clear hb)
      | (go_at_call 11; refine (alive_any _).mono ?_; rintro e w2 ⟨rfl, hb⟩; replace HB := Below.tr HB hb; clear hb))
    go_ret
    exact ⟨rfl, Below.tr hB0 HB⟩
  | true =>
    obtain ⟨hl, h24, h48, -⟩ := (rightA_iff b m).1 hr
    obtain rfl : n = n' := by omega
    rw [hr, hW] at cr
    have ct : ∀ V, Below W.heap.size W V → Calls Try.prog 16 #[.agg #[.slice a n c, .slice a' n c']] V fun e w' => ∃ a1 c1 a2 c2, e = .returned (.tuple #[.agg #[.slice a1 (takeB b m).length c1, .slice a2 (takeN b m).length c2], .int .i64 (takeK b m), .int .i64 (takeE b m)]) ∧ IsB w' a1 c1 (takeB b m) ∧ IsB w' a2 c2 (takeN b m) ∧ Below V.heap.size V w' := by
      intro V hV
      exact (take_any a a' c c' n n b m V hn hn' (hB.below (Below.tr hB0 hV)) (hB'.below (Below.tr hB0 hV))).mono fun e w' ⟨a1, c1, a2, c2, h1, h2, h3, h4⟩ => ⟨a1, c1, a2, c2, h1, h2.isB, h3.isB, h4⟩
    have hfC : freeC b m = howN (freeB b m) m.length := by unfold freeC; rw [if_pos hr]
    rcases takeP_spec hl with ⟨e, -⟩ | ⟨p, e, hp, hf, -⟩
    · have hE := take_none hr e
      obtain ⟨g1, g2, g3⟩ := take_err (b := b) (m := m) (by rw [hE]; decide)
      have hz : freeC b m = 0 := by rw [hfC]; exact (takeP_none hl).1 e
      have cf : ∀ V, Below W.heap.size W V → Calls Try.prog 14 #[.agg #[.slice a n c, .slice a' n c']] V fun e w' => e = .returned (.int .i64 0) ∧ Below V.heap.size V w' := by
        intro V hV
        have := free_any a a' c c' n n b m V hn hn' (hB.below (Below.tr hB0 hV)) (hB'.below (Below.tr hB0 hV))
        rw [hz] at this
        exact this
      rw [hE, g1, g2, g3] at ct
      clear hn hn' hB hB' hE g1 g2 g3 hz hfC
      go_enter Try.func5, Try.ntmps5
      go_wp2_with (first
        | (go_at_call 13; refine cr.mono ?_; rintro e w1 ⟨rfl, hb⟩; rw [← hW] at hb; replace HB := Below.tr HB hb; obtain ⟨⟨q0, q1⟩, -, -⟩ := bA.below HB; clear hb cr)
        | (go_at_call 16; refine (ct _ HB).mono ?_; rintro e w2 ⟨a1, c1, a2, c2, rfl, -, -, hb⟩; replace HB := Below.tr HB hb; clear hb ct; replace HB := HB.alloc HB.size (.cells #[.slice a1 0 c1, .slice a2 0 c2] 24))
        | (go_at_call 11; refine (alive_any _).mono ?_; rintro e w3 ⟨rfl, hb⟩; replace HB := Below.tr HB hb; obtain ⟨⟨r0, r1⟩, -, -⟩ := bA.below HB; clear hb)
        | (go_at_call 14; refine (cf _ HB).mono ?_; rintro e w4 ⟨rfl, hb⟩; replace HB := Below.tr HB hb; clear hb cf))
      go_ret
      exact ⟨rfl, Below.tr hB0 HB⟩
    · have hE := take_some hr e
      obtain ⟨g1, g2, g3⟩ := take_ok hE e
      obtain ⟨m1, hm1⟩ : ∃ m1, m1 = m.set p true := ⟨_, rfl⟩
      have hlm : n = m1.length := by rw [hm1, List.length_set, hn']
      have hr1 : rightA b m1 = true := by rw [hm1]; exact right_set hr (free_ten hr hf) true
      have hgv := give_some hr1 (by rw [hm1]; exact give_back hr hf)
      obtain ⟨ft1, ft2, ft3⟩ := free_taken hf
      have hfC1 : freeC b m1 = howN (freeB b m1) m.length := by unfold freeC; rw [if_pos hr1, ← hlm, hn']
      obtain ⟨F, hF⟩ : ∃ F, F = freeC b m1 := ⟨_, rfl⟩
      have hF1 : freeC b m = F + 1 := by rw [hF, hfC1, hfC, ft3, hm1]
      have hFb : F ≤ 2048 := by rw [hF]; exact freeC_le _ _
      rw [hE, g1, g2, g3, ← hm1, ← hlm, ← hn] at ct
      have cg : ∀ V H a1 c1 a2 c2, H = V.heap.size → IsB V a1 c1 b → IsB V a2 c2 m1 → Calls Try.prog 17 #[.agg #[.slice a1 n c1, .slice a2 n c2], .slice (some ⟨H, 0, none⟩) 1 1] (V.alloc (.cells #[.int .i64 p] 3)) fun e w' => ∃ a3 c3 a4 c4, e = .returned (.tuple #[.agg #[.slice a3 n c3, .slice a4 n c4], .int .i64 0]) ∧ IsB w' a3 c3 b ∧ IsB w' a4 c4 m ∧ Below V.heap.size V w' := by
        rintro V H a1 c1 a2 c2 rfl h1 h2
        have hA : Below V.heap.size V (V.alloc (.cells #[.int .i64 (p : Int)] 3)) := (Below.refl _ _).alloc (Nat.le_refl _) _
        have := give_any a1 a2 (some ⟨V.heap.size, 0, none⟩) c1 c2 1 n n 1 b m1 [(p : Int)] (V.alloc (.cells #[.int .i64 (p : Int)] 3)) hn hlm rfl (h1.below hA) (h2.below hA) (isI_one V p)
        rw [hgv.1, hgv.2.1, hgv.2.2, ← hn, ← hn'] at this
        exact this.mono fun e w' ⟨a3, c3, a4, c4, k1, k2, k3, k4⟩ => ⟨a3, c3, a4, c4, k1, k2.isB, k3.isB, Below.tr hA k4⟩
      have ct2 : ∀ V a1 c1 a2 c2, IsB V a1 c1 b → IsB V a2 c2 m → Calls Try.prog 16 #[.agg #[.slice a1 n c1, .slice a2 n c2]] V fun e w' => ∃ a1 c1 a2 c2, e = .returned (.tuple #[.agg #[.slice a1 n c1, .slice a2 n c2], .int .i64 p, .int .i64 0]) ∧ Below V.heap.size V w' := by
        intro V a1 c1 a2 c2 h1 h2
        have := take_any a1 a2 c1 c2 n n b m V hn hn' h1 h2
        rw [hE, g1, g2, g3, ← hm1, ← hlm, ← hn] at this
        exact this.mono fun e w' ⟨a3, c3, a4, c4, k1, k2, k3, k4⟩ => ⟨a3, c3, a4, c4, k1, k4⟩
      have ci : ∀ V, Below W.heap.size W V → Calls Try.prog 21 #[.agg #[.slice a n c, .slice a' n c'], .int .i64 p] V fun e w' => e = .returned (.bool true) ∧ Below V.heap.size V w' := by
        intro V hV
        have := isFree_any a a' c c' n b m p V hn hn' (hB.below (Below.tr hB0 hV)) (hB'.below (Below.tr hB0 hV))
        rw [hf] at this
        exact this
      have ci1 : ∀ V a1 c1 a2 c2, IsB V a1 c1 b → IsB V a2 c2 m1 → Calls Try.prog 21 #[.agg #[.slice a1 n c1, .slice a2 n c2], .int .i64 p] V fun e w' => e = .returned (.bool false) ∧ Below V.heap.size V w' := by
        intro V a1 c1 a2 c2 h1 h2
        have := isFree_any a1 a2 c1 c2 n b m1 p V hn hlm h1 h2
        rw [hm1, ft1] at this
        exact this
      have cf : ∀ V, Below W.heap.size W V → Calls Try.prog 14 #[.agg #[.slice a n c, .slice a' n c']] V fun e w' => e = .returned (.int .i64 ((F : Int) + 1)) ∧ Below V.heap.size V w' := by
        intro V hV
        have := free_any a a' c c' n n b m V hn hn' (hB.below (Below.tr hB0 hV)) (hB'.below (Below.tr hB0 hV))
        rw [hF1] at this
        exact this
      have cf1 : ∀ V a1 c1 a2 c2, IsB V a1 c1 b → IsB V a2 c2 m1 → Calls Try.prog 14 #[.agg #[.slice a1 n c1, .slice a2 n c2]] V fun e w' => e = .returned (.int .i64 F) ∧ Below V.heap.size V w' := by
        intro V a1 c1 a2 c2 h1 h2
        have := free_any a1 a2 c1 c2 n n b m1 V hn hlm h1 h2
        rw [← hF] at this
        exact this
      have cl : ∀ V a1 c1 a2 c2, IsB V a1 c1 b → IsB V a2 c2 m → Below W.heap.size W V → Calls Try.prog 9 #[.agg #[.slice a1 n c1, .slice a2 n c2], .agg #[.slice a n c, .slice a' n c']] V fun e w' => e = .returned (.bool true) ∧ Below V.heap.size V w' := by
        intro V a1 c1 a2 c2 h1 h2 hV
        have := like_any a1 a2 a a' c1 c2 c c' n n n n b m b m V hn hn' hn hn' h1 h2 (hB.below (Below.tr hB0 hV)) (hB'.below (Below.tr hB0 hV))
        rw [likeA_same] at this
        exact this
      have t1 : True := trivial
      have t2 : True := trivial
      have t3 : True := trivial
      have hsub : IntKind.i64.wrap ((F : Int) + 1 - 1) = F := by rw [show (F : Int) + 1 - 1 = F by omega]; exact i64_in _ (by omega) (by omega)
      have hsub2 : IntKind.i64.wrap (F : Int) = F := i64_in _ (by omega) (by omega)
      clear hn hn' hB hB' hE g1 g2 g3 hfC hF hF1 hfC1 ft1 ft2 ft3 hgv hm1 hlm hr1 e hp hf hl h24 h48 hr
      go_enter Try.func5, Try.ntmps5
      go_wp2_with (first
        | (go_at_call 13; refine cr.mono ?_; rintro e w1 ⟨rfl, hb⟩; rw [← hW] at hb; replace HB := Below.tr HB hb; obtain ⟨⟨q0, q1⟩, -, -⟩ := bA.below HB; clear hb cr)
        | (go_at_call 16; have _t := t1; refine (ct _ HB).mono ?_; rintro e w2 ⟨a1, c1, a2, c2, rfl, k1, k2, hb⟩; clear t1; replace HB := Below.tr HB hb; have K1 : Hid (IsB _ a1 c1 b) := k1.alloc (.cells #[.slice a1 n c1, .slice a2 n c2] 24); have K2 : Hid (IsB _ a2 c2 m1) := k2.alloc (.cells #[.slice a1 n c1, .slice a2 n c2] 24); have bB := box2_new w2 (.slice a1 n c1) (.slice a2 n c2) 24 rfl; replace HB := HB.alloc HB.size (.cells #[.slice a1 n c1, .slice a2 n c2] 24); clear hb ct k1 k2)
        | (go_at_call 17; refine (cg _ (w2.heap.size + 1) a1 c1 a2 c2 (by simp) K1.out K2.out).mono ?_; rintro e w3 ⟨a3, c3, a4, c4, rfl, k3, k4, hb⟩; replace HB := Below.tr HB hb; replace bB := bB.below hb; have K3 : Hid (IsB _ a3 c3 b) := k3.alloc (.cells #[.slice a3 n c3, .slice a4 n c4] 24); have K4 : Hid (IsB _ a4 c4 m) := k4.alloc (.cells #[.slice a3 n c3, .slice a4 n c4] 24); have K1 : Hid (IsB _ a1 c1 b) := (K1.out.below hb).alloc (.cells #[.slice a3 n c3, .slice a4 n c4] 24); have K2 : Hid (IsB _ a2 c2 m1) := (K2.out.below hb).alloc (.cells #[.slice a3 n c3, .slice a4 n c4] 24); have bC := box2_new w3 (.slice a3 n c3) (.slice a4 n c4) 24 rfl; replace bB := bB.alloc (.cells #[.slice a3 n c3, .slice a4 n c4] 24); replace HB := HB.alloc HB.size (.cells #[.slice a3 n c3, .slice a4 n c4] 24); clear hb cg k3 k4)
        | (go_at_call 16; refine (ct2 _ a3 c3 a4 c4 K3.out K4.out).mono ?_; rintro e w4 ⟨a5, c5, a6, c6, rfl, hb⟩; replace HB := Below.tr HB hb; replace bB := bB.below hb; replace bC := bC.below hb; have K1 : Hid (IsB w4 a1 c1 b) := K1.out.below hb; have K2 : Hid (IsB w4 a2 c2 m1) := K2.out.below hb; have K3 : Hid (IsB w4 a3 c3 b) := K3.out.below hb; have K4 : Hid (IsB w4 a4 c4 m) := K4.out.below hb; clear hb ct2))
      have hA : Below w4.heap.size w4 (w4.alloc (.cells #[.slice a5 n c5, .slice a6 n c6] 24)) := (Below.refl _ _).alloc (Nat.le_refl _) _
      replace bA := ((bA.below HB).below hA).drew
      replace bB := (bB.below hA).drew
      replace bC := (bC.below hA).drew
      replace K1 := (K1.out.below hA).below (Below.refl _ _).drew
      replace K2 := (K2.out.below hA).below (Below.refl _ _).drew
      replace K3 := (K3.out.below hA).below (Below.refl _ _).drew
      replace K4 := (K4.out.below hA).below (Below.refl _ _).drew
      replace HB := (Below.tr HB hA).drew
      clear hA
      generalize w4.alloc (.cells #[.slice a5 n c5, .slice a6 n c6] 24) = V0 at bA bB bC K1 K2 K3 K4 HB ⊢
      obtain ⟨U, hU⟩ : ∃ U, U = V0.drew := ⟨_, rfl⟩
      rw [← hU] at bA bB bC K1 K2 K3 K4 HB
      have HU : Below U.heap.size U V0.drew := by rw [← hU]; exact Below.refl _ _
      have L1 : ∀ V, Below U.heap.size U V → IsB V a1 c1 b := fun V hV => K1.below hV
      have L2 : ∀ V, Below U.heap.size U V → IsB V a2 c2 m1 := fun V hV => K2.below hV
      have L3 : ∀ V, Below U.heap.size U V → IsB V a3 c3 b := fun V hV => K3.below hV
      have L4 : ∀ V, Below U.heap.size U V → IsB V a4 c4 m := fun V hV => K4.below hV
      generalize w2.heap.size = h1 at bB ⊢
      generalize w3.heap.size = h2 at bC ⊢
      clear K1 K2 K3 K4
      go_region_held3 (fun V => (V.cell? ⟨w.heap.size, 0, none⟩ = some (.slice a n c) ∧ V.cell? ⟨w.heap.size, 1, none⟩ = some (.slice a' n c')) ∧ (V.cell? ⟨h1, 0, none⟩ = some (.slice a1 n c1) ∧ V.cell? ⟨h1, 1, none⟩ = some (.slice a2 n c2)) ∧ (V.cell? ⟨h2, 0, none⟩ = some (.slice a3 n c3) ∧ V.cell? ⟨h2, 1, none⟩ = some (.slice a4 n c4))) (exact ⟨(bA.below HU).1, (bB.below HU).1, (bC.below HU).1⟩) (first
        | (go_at_call 11; refine (alive_any _).mono ?_; rintro e w' ⟨rfl, hb⟩; replace HU := Below.tr HU hb; clear hb)
        | (go_at_call 21; have _t := t2; refine (ci _ (Below.tr HB HU)).mono ?_; rintro e w' ⟨rfl, hb⟩; clear t2; replace HU := Below.tr HU hb; clear hb)
        | (go_at_call 21; refine (ci1 _ a1 c1 a2 c2 (L1 _ HU) (L2 _ HU)).mono ?_; rintro e w' ⟨rfl, hb⟩; replace HU := Below.tr HU hb; clear hb)
        | (go_at_call 14; have _t := t3; refine (cf1 _ a1 c1 a2 c2 (L1 _ HU) (L2 _ HU)).mono ?_; rintro e w' ⟨rfl, hb⟩; clear t3; replace HU := Below.tr HU hb; clear hb)
        | (go_at_call 14; refine (cf _ (Below.tr HB HU)).mono ?_; rintro e w' ⟨rfl, hb⟩; replace HU := Below.tr HU hb; clear hb)
        | (go_at_call 9; refine (cl _ a3 c3 a4 c4 (L3 _ HU) (L4 _ HU) (Below.tr HB HU)).mono ?_; rintro e w' ⟨rfl, hb⟩; replace HU := Below.tr HU hb; clear hb))
      go_wp2
      go_ret
      exact ⟨rfl, Below.tr hB0 (Below.tr HB HU)⟩

end Go.Proofs.Ytomjajmjooaegaa

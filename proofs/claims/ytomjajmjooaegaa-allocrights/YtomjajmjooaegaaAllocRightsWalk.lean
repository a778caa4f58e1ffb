/-
  The walk through the statement AllocRights.
-/
import Derived.Test.YtomjajmjooaegaaAllocRefNew
import Derived.Deep.RegionHeld3
namespace Go.Proofs.Ytomjajmjooaegaa
open Go.RowKit Plain
set_option linter.unusedVariables false

theorem Box2.cells {w : World} {h : Nat} {v0 v1 : Value} (b : Box2 w h v0 v1) : w.cell? ⟨h, 0, none⟩ = some v0 ∧ w.cell? ⟨h, 1, none⟩ = some v1 := b.1

set_option maxRecDepth 20000 in
set_option maxHeartbeats 4000000 in
theorem allocRights_walk (a a' : Option Addr) (c c' : Nat) (b m : List Bool) (z : Int) (w : World) (hB : IsB w a c b) (hB' : IsB w a' c' m) (_hz : (Lit.int .i64 z).wf = true) :
    Calls Try.prog 3 #[.agg #[.slice a b.length c, .slice a' m.length c'], .int .i64 z] w fun e w' => e = .returned (.bool true) ∧ Below w.heap.size w w' := by
  obtain ⟨n, hn⟩ : ∃ n, n = b.length := ⟨_, rfl⟩
  obtain ⟨n', hn'⟩ : ∃ n, n = m.length := ⟨_, rfl⟩
  rw [← hn, ← hn']
  obtain ⟨W, hW⟩ : ∃ W, W = w.alloc (.cells #[.slice a n c, .slice a' n' c'] 24) := ⟨_, rfl⟩
  have hB0 : Below w.heap.size w W := by rw [hW]; exact (Below.refl _ _).alloc (Nat.le_refl _) _
  have bx : Box2 W w.heap.size (.slice a n c) (.slice a' n' c') := by rw [hW]; exact box2_new _ _ _ _ rfl
  have HB : Below W.heap.size W W := Below.refl _ _
  obtain ⟨R, hR⟩ : ∃ R, R = rightA b m := ⟨_, rfl⟩
  obtain ⟨F, hF⟩ : ∃ F, F = freeC b m := ⟨_, rfl⟩
  have c1 : ∀ V, Below W.heap.size W V → Calls Try.prog 12 #[.agg #[.slice a n c, .slice a' n' c']] V fun e w' => e = .returned (.bool R) ∧ Below V.heap.size V w' := by
    intro V hV; rw [hR]; exact right_any a a' c c' n n' b m V hn hn' (hB.below (Below.tr hB0 hV)) (hB'.below (Below.tr hB0 hV))
  have c2 : ∀ V, Below W.heap.size W V → Calls Try.prog 13 #[.agg #[.slice a n c, .slice a' n' c']] V fun e w' => e = .returned (.bool R) ∧ Below V.heap.size V w' := by
    intro V hV; rw [hR]; exact refRight_any a a' c c' n n' b m V hn hn' (hB.below (Below.tr hB0 hV)) (hB'.below (Below.tr hB0 hV))
  have c3 : ∀ V, Below W.heap.size W V → Calls Try.prog 14 #[.agg #[.slice a n c, .slice a' n' c']] V fun e w' => e = .returned (.int .i64 F) ∧ Below V.heap.size V w' := by
    intro V hV; rw [hF]; exact free_any a a' c c' n n' b m V hn hn' (hB.below (Below.tr hB0 hV)) (hB'.below (Below.tr hB0 hV))
  have c4 : ∀ V, Below W.heap.size W V → Calls Try.prog 15 #[.agg #[.slice a n c, .slice a' n' c']] V fun e w' => e = .returned (.int .i64 F) ∧ Below V.heap.size V w' := by
    intro V hV; rw [hF]; exact refFree_any a a' c c' n n' b m V hn hn' (hB.below (Below.tr hB0 hV)) (hB'.below (Below.tr hB0 hV))
  have eR : (R == R) = true := by simp
  have eF : ((F : Int) == F) = true := by simp
  clear hn hn' hB hB' hR hF
  cases hm : mayB z with
  | true =>
    obtain ⟨h1, h2⟩ := mayB_iff.1 hm
    obtain ⟨k, rfl⟩ : ∃ k : Nat, z = k := ⟨z.toNat, by omega⟩
    obtain ⟨e1, e2⟩ := mayB_yes hm
    have hk : k ≤ 2048 := by omega
    have h3 : ¬ (k : Int) < 24 := by omega
    have h4 : ¬ (2048 : Int) < k := by omega
    obtain ⟨L, hL, hlen⟩ : ∃ L, L = newL k ∧ k = L.length := ⟨_, rfl, (newL_length k).symm⟩
    have cn := new_any k W
    rw [e1, e2, ← hL, ← hlen, hW] at cn
    have cm : ∀ V, Calls Try.prog 10 #[.int .i64 k] V fun e w' => ∃ a1 c1 a2 c2, e = .returned (.agg #[.slice a1 k c1, .slice a2 k c2]) ∧ IsB w' a1 c1 L ∧ IsB w' a2 c2 L ∧ Below V.heap.size V w' := by
      intro V; rw [hL]; exact refNew_any k V hk
    have cl : ∀ V a1 c1 a2 c2 a3 c3 a4 c4, IsB V a1 c1 L → IsB V a2 c2 L → IsB V a3 c3 L → IsB V a4 c4 L → Calls Try.prog 9 #[.agg #[.slice a1 k c1, .slice a2 k c2], .agg #[.slice a3 k c3, .slice a4 k c4]] V fun e w' => e = .returned (.bool true) ∧ Below V.heap.size V w' := by
      intro V a1 c1 a2 c2 a3 c3 a4 c4 h1 h2 h3 h4
      have := like_any a1 a2 a3 a4 c1 c2 c3 c4 k k k k L L L L V hlen hlen hlen hlen h1 h2 h3 h4
      rw [likeA_same] at this
      exact this
    clear e1 e2 hL hlen h1 h2
    go_enter Try.func3, Try.ntmps3
    go_wp2_with (go_at_call 8; refine cn.mono ?_; rintro e w1 ⟨a1, c1', a2, c2', rfl, o1, o2, hb⟩; rw [← hW] at hb; have K1 : Hid (IsB w1 a1 c1' L) := o1.isB; have K2 : Hid (IsB w1 a2 c2' L) := o2.isB; replace HB := Below.tr HB hb; clear hb o1 o2 cn)
    have by1 := box2_new w1 (.slice a1 k c1') (.slice a2 k c2') 24 rfl
    replace K1 : Hid (IsB (w1.alloc (.cells #[.slice a1 k c1', .slice a2 k c2'] 24)) a1 c1' L) := K1.out.below ((Below.refl _ _).alloc (Nat.le_refl _) _)
    replace K2 : Hid (IsB (w1.alloc (.cells #[.slice a1 k c1', .slice a2 k c2'] 24)) a2 c2' L) := K2.out.below ((Below.refl _ _).alloc (Nat.le_refl _) _)
    replace HB := HB.alloc HB.size (.cells #[.slice a1 k c1', .slice a2 k c2'] 24)
    generalize w1.alloc (.cells #[.slice a1 k c1', .slice a2 k c2'] 24) = W1 at by1 K1 K2 HB ⊢
    generalize w1.heap.size = h at by1 ⊢
    replace HB := HB.drew
    replace K1 : Hid (IsB W1.drew a1 c1' L) := K1
    replace K2 : Hid (IsB W1.drew a2 c2' L) := K2
    replace by1 := by1.drew
    go_region_held3 (fun V => V.cell? ⟨h, 0, none⟩ = some (.slice a1 k c1') ∧ V.cell? ⟨h, 1, none⟩ = some (.slice a2 k c2')) (exact by1.cells) (first
      | (go_at_call 10; refine (cm _).mono ?_; rintro e w2 ⟨a3, d3, a4, d4, rfl, k3, k4, hb⟩; replace HB := Below.tr HB hb; replace by1 := by1.below hb; replace K1 : Hid (IsB w2 a1 c1' L) := K1.out.below hb; replace K2 : Hid (IsB w2 a2 c2' L) := K2.out.below hb; have K3 : Hid (IsB w2 a3 d3 L) := k3; have K4 : Hid (IsB w2 a4 d4 L) := k4; clear hb k3 k4)
      | (go_at_call 9; refine (cl _ a1 c1' a2 c2' a3 d3 a4 d4 K1.out K2.out K3.out K4.out).mono ?_; rintro e w3 ⟨rfl, hb⟩; replace HB := Below.tr HB hb; replace by1 := by1.below hb; clear hb K3 K4 K1 K2))
    go_wp2
    replace HB := HB.drew
    go_region_held3 (fun V => V.cell? ⟨w.heap.size, 0, none⟩ = some (.slice a n c) ∧ V.cell? ⟨w.heap.size, 1, none⟩ = some (.slice a' n' c')) (exact (bx.below HB).cells) (first
      | (go_at_call 11; refine (alive_any _).mono ?_; rintro e w' ⟨rfl, hb⟩; replace HB := Below.tr HB hb; clear hb)
      | (go_at_call 12; refine (c1 _ HB).mono ?_; rintro e w' ⟨rfl, hb⟩; replace HB := Below.tr HB hb; clear hb)
      | (go_at_call 13; refine (c2 _ HB).mono ?_; rintro e w' ⟨rfl, hb⟩; replace HB := Below.tr HB hb; clear hb)
      | (go_at_call 14; refine (c3 _ HB).mono ?_; rintro e w' ⟨rfl, hb⟩; replace HB := Below.tr HB hb; clear hb)
      | (go_at_call 15; refine (c4 _ HB).mono ?_; rintro e w' ⟨rfl, hb⟩; replace HB := Below.tr HB hb; clear hb))
    go_wp2
    go_ret
    exact ⟨rfl, Below.tr hB0 HB⟩
  | false =>
    obtain ⟨e1, e2⟩ := mayB_no hm
    have h3 : ¬ (24 ≤ z ∧ z ≤ 2048) := by rw [← mayB_iff, hm]; decide
    have cn := new_any z W
    rw [e1, e2, hW] at cn
    have cl : ∀ V a1 c1 a2 c2, IsB V a1 c1 [] → IsB V a2 c2 [] → Calls Try.prog 9 #[.agg #[.slice a1 0 c1, .slice a2 0 c2], .agg #[.slice none 0 0, .slice none 0 0]] V fun e w' => e = .returned (.bool true) ∧ Below V.heap.size V w' := by
      intro V a1 c1 a2 c2 h1 h2
      have := like_any a1 a2 none none c1 c2 0 0 0 0 0 0 [] [] [] [] V rfl rfl rfl rfl h1 h2 (IsB_nil _) (IsB_nil _)
      rw [likeA_same] at this
      exact this
    clear e1 e2
    by_cases h24 : z < 24
    · go_enter Try.func3, Try.ntmps3
      go_wp2_with (first
        | (go_at_call 8; refine cn.mono ?_; rintro e w1 ⟨a1, c1', a2, c2', rfl, o1, o2, hb⟩; rw [← hW] at hb; have K1 : Hid (IsB w1 a1 c1' []) := o1.isB; have K2 : Hid (IsB w1 a2 c2' []) := o2.isB; replace HB := Below.tr HB hb; clear hb o1 o2 cn; have hA : Below w1.heap.size w1 (w1.alloc (.cells #[.slice a1 0 c1', .slice a2 0 c2'] 24)) := (Below.refl _ _).alloc (Nat.le_refl _) _)
        | (go_at_call 9; refine (cl _ a1 c1' a2 c2' (K1.out.below hA) (K2.out.below hA)).mono ?_; rintro e w3 ⟨rfl, hb⟩; replace HB := Below.tr (Below.tr HB hA) hb; clear hb K1 K2))
      replace HB := HB.drew
      go_region_held3 (fun V => V.cell? ⟨w.heap.size, 0, none⟩ = some (.slice a n c) ∧ V.cell? ⟨w.heap.size, 1, none⟩ = some (.slice a' n' c')) (exact (bx.below HB).cells) (first
        | (go_at_call 11; refine (alive_any _).mono ?_; rintro e w' ⟨rfl, hb⟩; replace HB := Below.tr HB hb; clear hb)
        | (go_at_call 12; refine (c1 _ HB).mono ?_; rintro e w' ⟨rfl, hb⟩; replace HB := Below.tr HB hb; clear hb)
        | (go_at_call 13; refine (c2 _ HB).mono ?_; rintro e w' ⟨rfl, hb⟩; replace HB := Below.tr HB hb; clear hb)
        | (go_at_call 14; refine (c3 _ HB).mono ?_; rintro e w' ⟨rfl, hb⟩; replace HB := Below.tr HB hb; clear hb)
        | (go_at_call 15; refine (c4 _ HB).mono ?_; rintro e w' ⟨rfl, hb⟩; replace HB := Below.tr HB hb; clear hb))
      go_wp2
      go_ret
      exact ⟨rfl, Below.tr hB0 HB⟩
    · go_enter Try.func3, Try.ntmps3
      go_wp2_with (first
        | (go_at_call 8; refine cn.mono ?_; rintro e w1 ⟨a1, c1', a2, c2', rfl, o1, o2, hb⟩; rw [← hW] at hb; have K1 : Hid (IsB w1 a1 c1' []) := o1.isB; have K2 : Hid (IsB w1 a2 c2' []) := o2.isB; replace HB := Below.tr HB hb; clear hb o1 o2 cn; have hA : Below w1.heap.size w1 (w1.alloc (.cells #[.slice a1 0 c1', .slice a2 0 c2'] 24)) := (Below.refl _ _).alloc (Nat.le_refl _) _)
        | (go_at_call 9; refine (cl _ a1 c1' a2 c2' (K1.out.below hA) (K2.out.below hA)).mono ?_; rintro e w3 ⟨rfl, hb⟩; replace HB := Below.tr (Below.tr HB hA) hb; clear hb K1 K2))
      replace HB := HB.drew
      go_region_held3 (fun V => V.cell? ⟨w.heap.size, 0, none⟩ = some (.slice a n c) ∧ V.cell? ⟨w.heap.size, 1, none⟩ = some (.slice a' n' c')) (exact (bx.below HB).cells) (first
        | (go_at_call 11; refine (alive_any _).mono ?_; rintro e w' ⟨rfl, hb⟩; replace HB := Below.tr HB hb; clear hb)
        | (go_at_call 12; refine (c1 _ HB).mono ?_; rintro e w' ⟨rfl, hb⟩; replace HB := Below.tr HB hb; clear hb)
        | (go_at_call 13; refine (c2 _ HB).mono ?_; rintro e w' ⟨rfl, hb⟩; replace HB := Below.tr HB hb; clear hb)
        | (go_at_call 14; refine (c3 _ HB).mono ?_; rintro e w' ⟨rfl, hb⟩; replace HB := Below.tr HB hb; clear hb)
        | (go_at_call 15; refine (c4 _ HB).mono ?_; rintro e w' ⟨rfl, hb⟩; replace HB := Below.tr HB hb; clear hb))
      go_wp2
      go_ret
      exact ⟨rfl, Below.tr hB0 HB⟩

end Go.Proofs.Ytomjajmjooaegaa

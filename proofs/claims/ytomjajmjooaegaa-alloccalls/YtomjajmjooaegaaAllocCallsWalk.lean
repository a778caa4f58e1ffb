/-
  The walk through the statement AllocCalls.
-/
import Derived.Test.YtomjajmjooaegaaAllocRefDo
import Derived.Test.YtomjajmjooaegaaAllocBox
import Derived.Deep.RegionHeld3
namespace Go.Proofs.Ytomjajmjooaegaa
open Go.RowKit Plain
set_option linter.unusedVariables false

set_option maxRecDepth 20000 in
set_option maxHeartbeats 8000000 in
theorem allocCalls_walk (a a' : Option Addr) (c c' : Nat) (b m : List Bool) (ap : Option Addr) (cp : Nat) (xs0 : List Int) (w : World) (hB : IsB w a c b) (hB' : IsB w a' c' m) (hI0 : IsI w ap cp xs0) :
    Calls Try.prog 4 #[.agg #[.slice a b.length c, .slice a' m.length c'], .slice ap xs0.length cp] w fun e w' => e = .returned (.bool true) ∧ Below w.heap.size w w' := by
  obtain ⟨n, hn⟩ : ∃ n, n = b.length := ⟨_, rfl⟩
  obtain ⟨n', hn'⟩ : ∃ n, n = m.length := ⟨_, rfl⟩
  obtain ⟨xs, hxs⟩ : ∃ l, l = xs0.take 20 := ⟨_, rfl⟩
  have hI : IsI w ap cp xs := by rw [hxs]; exact hI0.take 20
  obtain ⟨k0, hk0⟩ : ∃ n, n = xs0.length := ⟨_, rfl⟩
  obtain ⟨k, hk⟩ : ∃ n, n = xs.length := ⟨_, rfl⟩
  have hmin : min (k0 : Int) 20 = (k : Int) := by rw [hk, hxs, hk0, List.length_take]; omega
  have hmr := min_run hmin
  have hkc : k ≤ cp := by rw [hk]; exact hI.1
  have hcp : cp ≤ 9223372036854775807 := hI0.2.1
  have hk0c : k0 ≤ cp := by rw [hk0]; exact hI0.1
  have hk20 : k ≤ 20 := by omega
  rw [← hn, ← hn', ← hk0]
  obtain ⟨W, hW⟩ : ∃ W, W = w.alloc (.cells #[.slice a n c, .slice a' n' c'] 24) := ⟨_, rfl⟩
  have hB0 : Below w.heap.size w W := by rw [hW]; exact (Below.refl _ _).alloc (Nat.le_refl _) _
  have A : AllocAt W w.heap.size a n c a' n' c' b m := by rw [hW]; exact AllocAt.new hB hB' _
  have HB : Below W.heap.size W W := Below.refl _ _
  obtain ⟨tB, htB⟩ : ∃ l, l = takeB b m := ⟨_, rfl⟩
  obtain ⟨tN, htN⟩ : ∃ l, l = takeN b m := ⟨_, rfl⟩
  obtain ⟨tK, htK⟩ : ∃ l, l = takeK b m := ⟨_, rfl⟩
  obtain ⟨tE, htE⟩ : ∃ l, l = takeE b m := ⟨_, rfl⟩
  obtain ⟨gB, hgB⟩ : ∃ l, l = giveB b m xs := ⟨_, rfl⟩
  obtain ⟨gN, hgN⟩ : ∃ l, l = giveN b m xs := ⟨_, rfl⟩
  obtain ⟨gE, hgE⟩ : ∃ l, l = giveE b m xs := ⟨_, rfl⟩
  obtain ⟨cL, hcL⟩ : ∃ l, l = commitL b m := ⟨_, rfl⟩
  obtain ⟨cE, hcE⟩ : ∃ l, l = commitE b m := ⟨_, rfl⟩
  have ct : Calls Try.prog 16 #[.agg #[.slice a n c, .slice a' n' c']] W fun e w' => ∃ a1 c1 a2 c2, e = .returned (.tuple #[.agg #[.slice a1 tB.length c1, .slice a2 tN.length c2], .int .i64 tK, .int .i64 tE]) ∧ IsB w' a1 c1 tB ∧ IsB w' a2 c2 tN ∧ Below W.heap.size W w' := by
    rw [htB, htN, htK, htE]
    exact (take_any a a' c c' n n' b m W hn hn' A.2.1 A.2.2).mono fun e w' ⟨a1, c1, a2, c2, h1, h2, h3, h4⟩ => ⟨a1, c1, a2, c2, h1, h2.isB, h3.isB, h4⟩
  have cg : ∀ V, Below W.heap.size W V → Calls Try.prog 17 #[.agg #[.slice a n c, .slice a' n' c'], .slice ap k cp] V fun e w' => ∃ a1 c1 a2 c2, e = .returned (.tuple #[.agg #[.slice a1 gB.length c1, .slice a2 gN.length c2], .int .i64 gE]) ∧ IsB w' a1 c1 gB ∧ IsB w' a2 c2 gN ∧ Below V.heap.size V w' := by
    intro V hV
    rw [hgB, hgN, hgE]
    exact (give_any a a' ap c c' cp n n' k b m xs V hn hn' hk (A.below hV).2.1 (A.below hV).2.2 (hI.below (Below.tr hB0 hV))).mono fun e w' ⟨a1, c1, a2, c2, h1, h2, h3, h4⟩ => ⟨a1, c1, a2, c2, h1, h2.isB, h3.isB, h4⟩
  have cc : ∀ V, Below W.heap.size W V → Calls Try.prog 18 #[.agg #[.slice a n c, .slice a' n' c']] V fun e w' => ∃ a1 c1 a2 c2, e = .returned (.tuple #[.agg #[.slice a1 cL.length c1, .slice a2 cL.length c2], .int .i64 cE]) ∧ IsB w' a1 c1 cL ∧ IsB w' a2 c2 cL ∧ Below V.heap.size V w' := by
    intro V hV
    rw [hcL, hcE]
    exact (commit_any a a' c c' n n' b m V hn hn' (A.below hV).2.1 (A.below hV).2.2).mono fun e w' ⟨a1, c1, a2, c2, h1, h2, h3, h4⟩ => ⟨a1, c1, a2, c2, h1, h2.isB, h3.isB, h4⟩
  have cr : ∀ V, Below W.heap.size W V → Calls Try.prog 13 #[.agg #[.slice a n c, .slice a' n' c']] V fun e w' => e = .returned (.bool (rightA b m)) ∧ Below V.heap.size V w' :=
    fun V hV => refRight_any a a' c c' n n' b m V hn hn' (A.below hV).2.1 (A.below hV).2.2
  rw [hW] at ct
  have t1 : True := trivial
  have t2 : True := trivial
  cases hr : rightA b m with
  | false =>
    have hE := take_wrong hr
    obtain ⟨g1, g2, g3⟩ := take_err (b := b) (m := m) (by rw [hE]; decide)
    have hE2 := give_wrong (xs := xs) hr
    obtain ⟨g4, g5⟩ := give_err (b := b) (m := m) (xs := xs) (by rw [hE2]; decide)
    obtain rfl : tE = 1 := by rw [htE, hE]
    obtain rfl : tK = 0 := by rw [htK, g1]
    obtain rfl : tB = [] := by rw [htB, g2]
    obtain rfl : tN = [] := by rw [htN, g3]
    obtain rfl : gE = 1 := by rw [hgE, hE2]
    obtain rfl : gB = [] := by rw [hgB, g4]
    obtain rfl : gN = [] := by rw [hgN, g5]
    obtain rfl : cE = 1 := by rw [hcE]; unfold commitE; rw [hr]; rfl
    obtain rfl : cL = [] := by rw [hcL]; unfold commitL; rw [hr]; rfl
    rw [hr] at cr
    rw [List.length_nil] at ct cg cc
    clear htB htN htK htE hgB hgN hgE hcL hcE hE hE2 g1 g2 g3 g4 g5 hn hn' hB hB' hI hI0 hk hk0 hxs
    go_enter Try.func4, Try.ntmps4
    go_wp2_with (first
      | (go_at_call 16; refine ct.mono ?_; rintro e w1 ⟨a1, c1, a2, c2, rfl, k1, k2, hb⟩; rw [← hW] at hb; replace HB := Below.tr HB hb; obtain ⟨⟨⟨q0, q1⟩, -, -⟩, -⟩ := A.below HB; replace q0 := cell_alloc q0; replace q1 := cell_alloc q1; have T := AllocAt.new (n := 0) (n' := 0) k1 k2 24; replace HB := HB.alloc HB.size (.cells #[.slice a1 0 c1, .slice a2 0 c2] 24); clear hb ct k1 k2)
      | (go_at_call 17; refine (cg _ HB).mono ?_; rintro e w2 ⟨a3, c3, a4, c4, rfl, k1, k2, hb⟩; replace HB := Below.tr HB hb; replace T := T.below hb; obtain ⟨⟨⟨q0, q1⟩, -, -⟩, -⟩ := A.below HB; replace q0 := cell_alloc q0; replace q1 := cell_alloc q1; have G := AllocAt.new (n := 0) (n' := 0) k1 k2 24; replace T := T.alloc (.cells #[.slice a3 0 c3, .slice a4 0 c4] 24); replace HB := HB.alloc HB.size (.cells #[.slice a3 0 c3, .slice a4 0 c4] 24); clear hb cg k1 k2)
      | (go_at_call 18; refine (cc _ HB).mono ?_; rintro e w3 ⟨a5, c5, a6, c6, rfl, k1, k2, hb⟩; replace HB := Below.tr HB hb; replace T := T.below hb; replace G := G.below hb; obtain ⟨⟨⟨q0, q1⟩, -, -⟩, -⟩ := A.below HB; replace q0 := cell_alloc q0; replace q1 := cell_alloc q1; have C := AllocAt.new (n := 0) (n' := 0) k1 k2 24; replace T := T.alloc (.cells #[.slice a5 0 c5, .slice a6 0 c6] 24); replace G := G.alloc (.cells #[.slice a5 0 c5, .slice a6 0 c6] 24); replace HB := HB.alloc HB.size (.cells #[.slice a5 0 c5, .slice a6 0 c6] 24); clear hb cc k1 k2)
      | (go_at_call 13; refine (cr _ HB).mono ?_; rintro e w4 ⟨rfl, hb⟩; replace HB := Below.tr HB hb; replace T := T.below hb; replace G := G.below hb; replace C := C.below hb; have N := AllocAt.new (V := w4) (n := 0) (n' := 0) (IsB_nil _) (IsB_nil _) 24; replace T := T.alloc (.cells #[.slice none 0 0, .slice none 0 0] 24); replace G := G.alloc (.cells #[.slice none 0 0, .slice none 0 0] 24); replace C := C.alloc (.cells #[.slice none 0 0, .slice none 0 0] 24); replace HB := HB.alloc HB.size (.cells #[.slice none 0 0, .slice none 0 0] 24); clear hb cr)
      | (go_at_call 11; refine (alive_any _).mono ?_; rintro e w5 ⟨rfl, hb⟩; replace HB := Below.tr HB hb; replace T := T.below hb; replace G := G.below hb; replace C := C.below hb; replace N := N.below hb; obtain ⟨⟨⟨x0, x1⟩, -, -⟩, -⟩ := id T; obtain ⟨⟨⟨y0, y1⟩, -, -⟩, -⟩ := id N; clear hb)
      | (go_at_call 9; have _t := t1; refine (like_at T N rfl rfl).mono ?_; rintro e w6 ⟨rfl, hb⟩; clear t1; replace HB := Below.tr HB hb; replace G := G.below hb; replace C := C.below hb; replace N := N.below hb; obtain ⟨⟨⟨x0, x1⟩, -, -⟩, -⟩ := id G; obtain ⟨⟨⟨y0, y1⟩, -, -⟩, -⟩ := id N; clear hb)
      | (go_at_call 9; have _t := t2; refine (like_at G N rfl rfl).mono ?_; rintro e w7 ⟨rfl, hb⟩; clear t2; replace HB := Below.tr HB hb; replace C := C.below hb; replace N := N.below hb; obtain ⟨⟨⟨x0, x1⟩, -, -⟩, -⟩ := id C; obtain ⟨⟨⟨y0, y1⟩, -, -⟩, -⟩ := id N; clear hb)
      | (go_at_call 9; refine (like_at C N rfl rfl).mono ?_; rintro e w8 ⟨rfl, hb⟩; replace HB := Below.tr HB hb; clear hb))
    go_ret
    exact ⟨rfl, Below.tr hB0 HB⟩
  | true =>
    obtain ⟨hl, -⟩ := (rightA_iff b m).1 hr
    obtain rfl : n = n' := by omega
    have cx : ∀ V, Below W.heap.size W V → Calls Try.prog 19 #[.agg #[.slice a n c, .slice a' n c']] V fun e w' => ∃ a1 c1 a2 c2, e = .returned (.tuple #[.agg #[.slice a1 tB.length c1, .slice a2 tN.length c2], .int .i64 tK, .int .i64 tE]) ∧ IsB w' a1 c1 tB ∧ IsB w' a2 c2 tN ∧ Below V.heap.size V w' := by
      intro V hV
      rw [htB, htN, htK, htE]
      exact refTake_any a a' c c' n b m V hr hn hn' (A.below hV).2.1 (A.below hV).2.2
    have cy : ∀ V, Below W.heap.size W V → Calls Try.prog 20 #[.agg #[.slice a n c, .slice a' n c'], .slice ap k cp] V fun e w' => ∃ a1 c1 a2 c2, e = .returned (.tuple #[.agg #[.slice a1 gB.length c1, .slice a2 gN.length c2], .int .i64 gE]) ∧ IsB w' a1 c1 gB ∧ IsB w' a2 c2 gN ∧ Below V.heap.size V w' := by
      intro V hV
      rw [hgB, hgN, hgE]
      exact refGive_any a a' ap c c' cp n k b m xs V hr hn hn' hk (A.below hV).2.1 (A.below hV).2.2 (hI.below (Below.tr hB0 hV))
    obtain rfl : cE = 0 := by rw [hcE]; unfold commitE; rw [hr]; rfl
    obtain rfl : cL = m := by rw [hcL]; unfold commitL; rw [hr]; rfl
    have cz : ∀ V h d1 e1 d2 e2, AllocAt V h d1 n e1 d2 n e2 cL cL → Below W.heap.size W V → Calls Try.prog 9 #[.agg #[.slice d1 n e1, .slice d2 n e2], .agg #[.slice a' n c', .slice a' n c']] V fun r w' => r = .returned (.bool true) ∧ Below V.heap.size V w' := by
      intro V h d1 e1 d2 e2 x hV
      have := like_any d1 d2 a' a' e1 e2 c' c' n n n n cL cL cL cL V hn' hn' hn' hn' x.2.1 x.2.2 (A.below hV).2.2 (A.below hV).2.2
      rw [likeA_same] at this
      exact this
    have eE : (tE == tE) = true := by simp
    have eK : (tK == tK) = true := by simp
    have eG : (gE == gE) = true := by simp
    rw [hr] at cr
    rw [← hn'] at cc
    clear htB htN htK htE hgB hgN hgE hcL hcE hn hn' hB hB' hI hI0 hk hk0 hxs hl
    go_enter Try.func4, Try.ntmps4
    go_wp2_with (first
      | (go_at_call 16; refine ct.mono ?_; rintro e w1 ⟨a1, c1, a2, c2, rfl, k1, k2, hb⟩; rw [← hW] at hb; replace HB := Below.tr HB hb; obtain ⟨⟨⟨q0, q1⟩, -, -⟩, -⟩ := A.below HB; replace q0 := cell_alloc q0; replace q1 := cell_alloc q1; have T := AllocAt.new (n := tB.length) (n' := tN.length) k1 k2 24; replace HB := HB.alloc HB.size (.cells #[.slice a1 tB.length c1, .slice a2 tN.length c2] 24); clear hb ct k1 k2)
      | (go_at_call 17; refine (cg _ HB).mono ?_; rintro e w2 ⟨a3, c3, a4, c4, rfl, k1, k2, hb⟩; replace HB := Below.tr HB hb; replace T := T.below hb; obtain ⟨⟨⟨q0, q1⟩, -, -⟩, -⟩ := A.below HB; replace q0 := cell_alloc q0; replace q1 := cell_alloc q1; have G := AllocAt.new (n := gB.length) (n' := gN.length) k1 k2 24; replace T := T.alloc (.cells #[.slice a3 gB.length c3, .slice a4 gN.length c4] 24); replace HB := HB.alloc HB.size (.cells #[.slice a3 gB.length c3, .slice a4 gN.length c4] 24); clear hb cg k1 k2)
      | (go_at_call 18; refine (cc _ HB).mono ?_; rintro e w3 ⟨a5, c5, a6, c6, rfl, k1, k2, hb⟩; replace HB := Below.tr HB hb; replace T := T.below hb; replace G := G.below hb; obtain ⟨⟨⟨q0, q1⟩, -, -⟩, -⟩ := A.below HB; replace q0 := cell_alloc q0; replace q1 := cell_alloc q1; have C := AllocAt.new (n := n) (n' := n) k1 k2 24; replace T := T.alloc (.cells #[.slice a5 n c5, .slice a6 n c6] 24); replace G := G.alloc (.cells #[.slice a5 n c5, .slice a6 n c6] 24); replace HB := HB.alloc HB.size (.cells #[.slice a5 n c5, .slice a6 n c6] 24); clear hb cc k1 k2)
      | (go_at_call 13; refine (cr _ HB).mono ?_; rintro e w4 ⟨rfl, hb⟩; replace HB := Below.tr HB hb; replace T := T.below hb; replace G := G.below hb; replace C := C.below hb; obtain ⟨⟨⟨q0, q1⟩, -, -⟩, -⟩ := A.below HB; clear hb cr)
      | (go_at_call 19; refine (cx _ HB).mono ?_; rintro e w5 ⟨a7, c7, a8, c8, rfl, k1, k2, hb⟩; replace HB := Below.tr HB hb; replace T := T.below hb; replace G := G.below hb; replace C := C.below hb; obtain ⟨⟨⟨q0, q1⟩, -, -⟩, -⟩ := A.below HB; replace q0 := cell_alloc q0; replace q1 := cell_alloc q1; have X := AllocAt.new (n := tB.length) (n' := tN.length) k1 k2 24; replace T := T.alloc (.cells #[.slice a7 tB.length c7, .slice a8 tN.length c8] 24); replace G := G.alloc (.cells #[.slice a7 tB.length c7, .slice a8 tN.length c8] 24); replace C := C.alloc (.cells #[.slice a7 tB.length c7, .slice a8 tN.length c8] 24); replace HB := HB.alloc HB.size (.cells #[.slice a7 tB.length c7, .slice a8 tN.length c8] 24); clear hb cx k1 k2)
      | (go_at_call 20; refine (cy _ HB).mono ?_; rintro e w6 ⟨a9, c9, d9, e9, rfl, k1, k2, hb⟩; replace HB := Below.tr HB hb; replace T := T.below hb; replace G := G.below hb; replace C := C.below hb; replace X := X.below hb; have Y := AllocAt.new (n := gB.length) (n' := gN.length) k1 k2 24; replace T := T.alloc (.cells #[.slice a9 gB.length c9, .slice d9 gN.length e9] 24); replace G := G.alloc (.cells #[.slice a9 gB.length c9, .slice d9 gN.length e9] 24); replace C := C.alloc (.cells #[.slice a9 gB.length c9, .slice d9 gN.length e9] 24); replace X := X.alloc (.cells #[.slice a9 gB.length c9, .slice d9 gN.length e9] 24); replace HB := HB.alloc HB.size (.cells #[.slice a9 gB.length c9, .slice d9 gN.length e9] 24); clear hb cy k1 k2)
      | (go_at_call 11; refine (alive_any _).mono ?_; rintro e w7 ⟨rfl, hb⟩; replace HB := Below.tr HB hb; replace T := T.below hb; replace G := G.below hb; replace C := C.below hb; replace X := X.below hb; replace Y := Y.below hb; obtain ⟨⟨⟨x0, x1⟩, -, -⟩, -⟩ := id T; obtain ⟨⟨⟨y0, y1⟩, -, -⟩, -⟩ := id X; clear hb)
      | (go_at_call 9; have _t := t1; refine (like_at T X rfl rfl).mono ?_; rintro e w8 ⟨rfl, hb⟩; clear t1; replace HB := Below.tr HB hb; replace G := G.below hb; replace C := C.below hb; replace Y := Y.below hb; obtain ⟨⟨⟨x0, x1⟩, -, -⟩, -⟩ := id G; obtain ⟨⟨⟨y0, y1⟩, -, -⟩, -⟩ := id Y; clear hb)
      | (go_at_call 9; have _t := t2; refine (like_at G Y rfl rfl).mono ?_; rintro e w9 ⟨rfl, hb⟩; clear t2; replace HB := Below.tr HB hb; replace C := C.below hb; obtain ⟨⟨⟨x0, x1⟩, -, -⟩, -⟩ := id C; obtain ⟨⟨⟨y0, y1⟩, -, -⟩, -⟩ := A.below HB; clear hb)
      | (go_at_call 9; refine (cz _ _ _ _ _ _ C HB).mono ?_; rintro e w10 ⟨rfl, hb⟩; replace HB := Below.tr HB hb; clear hb))
    go_ret
    exact ⟨rfl, Below.tr hB0 HB⟩

end Go.Proofs.Ytomjajmjooaegaa

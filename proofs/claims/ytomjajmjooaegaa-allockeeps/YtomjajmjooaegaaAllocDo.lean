/-
  Package alloc: Take, Give, Commit.
-/
import Derived.Test.YtomjajmjooaegaaAllocNew
namespace Go.Proofs.Ytomjajmjooaegaa
open Go.RowKit Plain
set_option linter.unusedVariables false

/-- A box of an alloc that came in and one of what goes out. -/
theorem two_boxes {w W : World} {v0 v1 u0 u1 : Value} {t : TypeId} (hW : W = (w.alloc (.cells #[v0, v1] t)).alloc (.cells #[u0, u1] t)) :
    Below w.heap.size w W ∧ W.heap.size = w.heap.size + 2 ∧ Box2 W w.heap.size v0 v1 ∧ Box2 W (w.heap.size + 1) u0 u1 := by
  subst hW
  refine ⟨((Below.refl _ _).alloc (Nat.le_refl _) _).alloc (by simp) _, by simp, (box2_new _ _ _ _ rfl).alloc _, box2_new _ _ _ _ (by simp)⟩

theorem take_wrong {b m : List Bool} (h : rightA b m = false) : takeE b m = 1 := by unfold takeE; rw [h]; rfl
theorem take_none {b m : List Bool} (h : rightA b m = true) (hp : takeP b m = -1) : takeE b m = 60 := by unfold takeE; rw [if_pos h, if_pos hp]
theorem take_some {b m : List Bool} (h : rightA b m = true) {p : Nat} (hp : takeP b m = p) : takeE b m = 0 := by unfold takeE; rw [if_pos h, if_neg (by omega)]
theorem take_err {b m : List Bool} (h : takeE b m ≠ 0) : takeK b m = 0 ∧ takeB b m = [] ∧ takeN b m = [] := by unfold takeK takeB takeN; rw [if_neg h, if_neg h, if_neg h]; exact ⟨rfl, rfl, rfl⟩
theorem take_ok {b m : List Bool} (h : takeE b m = 0) {p : Nat} (hp : takeP b m = p) : takeK b m = p ∧ takeB b m = b ∧ takeN b m = m.set p true := by unfold takeK takeB takeN; rw [if_pos h, if_pos h, if_pos h, hp]; exact ⟨rfl, rfl, rfl⟩

set_option maxRecDepth 20000 in
set_option maxHeartbeats 2000000 in
/-- TAKE, of all allocs. -/
theorem take_any (a a' : Option Addr) (c c' n n' : Nat) (b m : List Bool) (w : World) (hn : n = b.length) (hn' : n' = m.length) (hB : IsB w a c b) (hB' : IsB w a' c' m) :
    Calls Try.prog 16 #[.agg #[.slice a n c, .slice a' n' c']] w fun e w' => ∃ a1 c1 a2 c2, e = .returned (.tuple #[.agg #[.slice a1 (takeB b m).length c1, .slice a2 (takeN b m).length c2], .int .i64 (takeK b m), .int .i64 (takeE b m)]) ∧ OwnT w.heap.size w' a1 c1 (takeB b m) ∧ OwnT w.heap.size w' a2 c2 (takeN b m) ∧ Below w.heap.size w w' := by
  obtain ⟨W, hW⟩ : ∃ W, W = (w.alloc (.cells #[.slice a n c, .slice a' n' c'] 24)).alloc (.cells #[.slice none 0 0, .slice none 0 0] 24) := ⟨_, rfl⟩
  obtain ⟨hB0, hWs, bi, bo⟩ := two_boxes hW
  have HB : Below W.heap.size W W := Below.refl _ _
  have cr := right_any a a' c c' n n' b m W hn hn' (hB.below hB0) (hB'.below hB0)
  have fin : ∀ k : Int, takeE b m = k → k ≠ 0 → ∀ w1, Below w.heap.size w w1 → ∃ a1 c1 a2 c2, Ending.returned (.tuple #[.agg #[.slice none 0 0, .slice none 0 0], .int .i64 0, .int .i64 k]) = .returned (.tuple #[.agg #[.slice a1 (takeB b m).length c1, .slice a2 (takeN b m).length c2], .int .i64 (takeK b m), .int .i64 (takeE b m)]) ∧ OwnT w.heap.size w1 a1 c1 (takeB b m) ∧ OwnT w.heap.size w1 a2 c2 (takeN b m) ∧ Below w.heap.size w w1 := by
    rintro k rfl hk w1 hb
    obtain ⟨e1, e2, e3⟩ := take_err hk
    rw [e1, e2, e3]
    exact ⟨none, 0, none, 0, rfl, OwnT_nil _ _, OwnT_nil _ _, hb⟩
  cases hr : rightA b m with
  | false =>
    have hE : Hid (takeE b m = 1) := take_wrong hr
    rw [hr, hW] at cr
    clear hn hn' hB hB'
    go_enter Try.func16, Try.ntmps16
    go_wp2_with (go_at_call 12; refine cr.mono ?_; rintro e w1 ⟨rfl, hb⟩; rw [← hW] at hb; replace HB := Below.tr HB hb; obtain ⟨⟨q0, q1⟩, f0, f1⟩ := bo.below hb; clear hb cr)
    refine bodyPost_ret (v := .tuple #[.agg #[.slice none 0 0, .slice none 0 0], .int .i64 0, .int .i64 1]) (by simp [results, Try.results16, go_sem, q0, q1]) rfl (fin 1 hE.out (by decide) _ ?_)
    exact below_set2 (Below.tr hB0 HB) (Nat.le_succ _)
  | true =>
    obtain ⟨hl, h24, h48, -⟩ := (rightA_iff b m).1 hr
    have hnb : n ≤ 4096 := by omega
    have hnb' : n' ≤ 4096 := by omega
    obtain ⟨P, hP⟩ : ∃ P, P = takeP b m := ⟨_, rfl⟩
    have cf : ∀ V, Below W.heap.size W V → Calls Try.prog 26 #[.int .i64 10, .slice (some ⟨V.heap.size, 0, none⟩) 2 2] (V.alloc (.cells #[.slice a n c, .slice a' n' c'] 22)) fun e w' => e = .returned (.int .i64 P) ∧ Below V.heap.size V w' := by
      intro V hV
      have := first_two V 10 a a' c c' n n' b m hn hn' (hB.below (Below.tr hB0 hV)) (hB'.below (Below.tr hB0 hV)) hnb hnb'
      rw [first_ten hr, ← hP] at this
      exact this
    rw [hr, hW] at cr
    rcases takeP_spec hl with ⟨e, -⟩ | ⟨p, e, hp, hf, -⟩
    · have hE : Hid (takeE b m = 60) := take_none hr e
      obtain rfl : P = -1 := by rw [hP, e]
      clear hn hn' hB hB' hP
      go_enter Try.func16, Try.ntmps16
      go_wp2_with (first
        | (go_at_call 12; refine cr.mono ?_; rintro e w1 ⟨rfl, hb⟩; rw [← hW] at hb; replace HB := Below.tr HB hb; obtain ⟨⟨q0, q1⟩, -, -⟩ := bi.below hb; clear hb cr)
        | (go_at_call 26; refine (cf _ HB).mono ?_; rintro e w2 ⟨rfl, hb⟩; replace HB := Below.tr HB hb; obtain ⟨⟨q0, q1⟩, f0, f1⟩ := bo.below HB; clear hb cf))
      refine bodyPost_ret (v := .tuple #[.agg #[.slice none 0 0, .slice none 0 0], .int .i64 0, .int .i64 60]) (by simp [results, Try.results16, go_sem, q0, q1]) rfl (fin 60 hE.out (by decide) _ ?_)
      exact below_set2 (Below.tr hB0 HB) (Nat.le_succ _)
    · have hE : takeE b m = 0 := take_some hr e
      obtain ⟨g1, g2, g3⟩ := take_ok hE e
      have G : Hid (takeE b m = 0 ∧ takeK b m = p ∧ takeB b m = b ∧ takeN b m = m.set p true ∧ (m.set p true).length = n' ∧ b.length = n) := ⟨hE, g1, g2, g3, by rw [List.length_set, hn'], hn.symm⟩
      obtain rfl : P = p := by rw [hP, e]
      have hpn : p < n' := by omega
      have ep : ((p : Int) == -1) = false := by rw [beq_eq_false_iff_ne]; omega
      have cw : ∀ V, Below W.heap.size W V → Calls Try.prog 27 #[.slice a' n' c', .bool true, .slice (some ⟨V.heap.size, 0, none⟩) 1 1] (V.alloc (.cells #[.int .i64 p] 3)) fun e w' => ∃ a2 c2, e = .returned (.tuple #[.slice a2 n' c2, .int .i64 0]) ∧ OwnT V.heap.size w' a2 c2 (m.set p true) ∧ Below V.heap.size V w' :=
        fun V hV => with_own_one V a' c' n' m true p hn' (hB'.below (Below.tr hB0 hV)) hnb' hpn
      have cm : ∀ V a2 c2, Below W.heap.size W V → Calls Try.prog 28 #[.slice a n c, .slice a2 n' c2] V fun e w' => ∃ a1 c1, e = .returned (.agg #[.slice a1 n c1, .slice a2 n' c2]) ∧ OwnT V.heap.size w' a1 c1 b ∧ Below V.heap.size V w' :=
        fun V a2 c2 hV => making_any a a2 c c2 n n' b V hn hnb (hB.below (Below.tr hB0 hV))
      clear hn hn' hB hB' hP g1 g2 g3 hE e
      go_enter Try.func16, Try.ntmps16
      go_wp2_with (first
        | (go_at_call 12; refine cr.mono ?_; rintro e w1 ⟨rfl, hb⟩; rw [← hW] at hb; replace HB := Below.tr HB hb; obtain ⟨⟨q0, q1⟩, -, -⟩ := bi.below hb; clear hb cr)
        | (go_at_call 26; refine (cf _ HB).mono ?_; rintro e w2 ⟨rfl, hb⟩; replace HB := Below.tr HB hb; obtain ⟨⟨r0, r1⟩, -, -⟩ := bi.below HB; clear hb cf)
        | (go_at_call 27; refine (cw _ HB).mono ?_; rintro e w3 ⟨a2, c2, rfl, ho, hb⟩; have O2 : Hid (OwnT W.heap.size w3 a2 c2 (m.set p true)) := ho.mono HB.size; replace HB := Below.tr HB hb; obtain ⟨⟨s0, s1⟩, -, -⟩ := bi.below HB; clear hb cw ho)
        | (go_at_call 28; refine (cm _ a2 c2 HB).mono ?_; rintro e w4 ⟨a1, c1, rfl, ho, hb⟩; have O1 : Hid (OwnT W.heap.size w4 a1 c1 b) := ho.mono HB.size; replace HB := Below.tr HB hb; have O3 : Hid (OwnT W.heap.size w4 a2 c2 (m.set p true)) := O2.out.below hb; obtain ⟨⟨t0, t1⟩, f0, f1⟩ := bo.below HB; clear hb cm ho O2))
      obtain ⟨g0, g1, g2, g3, g4, g5⟩ := G.out
      refine bodyPost_ret (v := .tuple #[.agg #[.slice a1 n c1, .slice a2 n' c2], .int .i64 p, .int .i64 0]) (by simp [results, Try.results16, go_sem, t0, t1]) rfl ⟨a1, c1, a2, c2, by rw [g0, g1, g2, g3, g4, g5], ?_, ?_, below_set2 (Below.tr hB0 HB) (Nat.le_succ _)⟩
      · rw [g2]
        exact ((O1.out.store (by omega) _ _).store (by omega) _ _).mono (by omega)
      · rw [g3]
        exact ((O3.out.store (by omega) _ _).store (by omega) _ _).mono (by omega)

theorem give_err {b m : List Bool} {xs : List Int} (h : giveE b m xs ≠ 0) : giveB b m xs = [] ∧ giveN b m xs = [] := by unfold giveB giveN; rw [if_neg h, if_neg h]; exact ⟨rfl, rfl⟩
theorem give_wrong {b m : List Bool} {xs : List Int} (h : rightA b m = false) : giveE b m xs = 1 := by unfold giveE; rw [h]; rfl
theorem give_none {b m : List Bool} {xs : List Int} (h : rightA b m = true) (hg : giveR m xs = none) : giveE b m xs = 30 := by unfold giveE; rw [if_pos h, hg]; rfl
theorem give_some {b m l : List Bool} {xs : List Int} (h : rightA b m = true) (hg : giveR m xs = some l) : giveE b m xs = 0 ∧ giveB b m xs = b ∧ giveN b m xs = l := by
  have hE : giveE b m xs = 0 := by unfold giveE; rw [if_pos h, hg]; rfl
  unfold giveB giveN
  rw [if_pos hE, if_pos hE, hg]
  exact ⟨hE, rfl, rfl⟩

theorem giveR_bad {m l : List Bool} {xs : List Int} {j : Nat} {x : Int} (h : giveR m (xs.take j) = some l) (hx : xs[j]? = some x) (hb : ¬ (10 ≤ x ∧ x < l.length ∧ atB l x.toNat = true)) : giveR m xs = none := by
  apply giveR_stop (j := j + 1)
  rw [giveR_take h hx, if_neg hb]

set_option maxRecDepth 20000 in
set_option maxHeartbeats 2000000 in
/-- GIVE, of all allocs and blocks. -/
theorem give_any (a a' ap : Option Addr) (c c' cp n n' k : Nat) (b m : List Bool) (xs : List Int) (w : World) (hn : n = b.length) (hn' : n' = m.length) (hk : k = xs.length) (hB : IsB w a c b) (hB' : IsB w a' c' m) (hI : IsI w ap cp xs) :
    Calls Try.prog 17 #[.agg #[.slice a n c, .slice a' n' c'], .slice ap k cp] w fun e w' => ∃ a1 c1 a2 c2, e = .returned (.tuple #[.agg #[.slice a1 (giveB b m xs).length c1, .slice a2 (giveN b m xs).length c2], .int .i64 (giveE b m xs)]) ∧ OwnT w.heap.size w' a1 c1 (giveB b m xs) ∧ OwnT w.heap.size w' a2 c2 (giveN b m xs) ∧ Below w.heap.size w w' := by
  obtain ⟨W, hW⟩ : ∃ W, W = (w.alloc (.cells #[.slice a n c, .slice a' n' c'] 24)).alloc (.cells #[.slice none 0 0, .slice none 0 0] 24) := ⟨_, rfl⟩
  obtain ⟨hB0, hWs, bi, bo⟩ := two_boxes hW
  have HB : Below W.heap.size W W := Below.refl _ _
  have hkb : k ≤ 9223372036854775807 := by rw [hk]; exact Nat.le_trans hI.1 hI.2.1
  have cr := right_any a a' c c' n n' b m W hn hn' (hB.below hB0) (hB'.below hB0)
  have fin : ∀ k : Int, giveE b m xs = k → k ≠ 0 → ∀ w1, Below w.heap.size w w1 → ∃ a1 c1 a2 c2, Ending.returned (.tuple #[.agg #[.slice none 0 0, .slice none 0 0], .int .i64 k]) = .returned (.tuple #[.agg #[.slice a1 (giveB b m xs).length c1, .slice a2 (giveN b m xs).length c2], .int .i64 (giveE b m xs)]) ∧ OwnT w.heap.size w1 a1 c1 (giveB b m xs) ∧ OwnT w.heap.size w1 a2 c2 (giveN b m xs) ∧ Below w.heap.size w w1 := by
    rintro k rfl hk w1 hb
    obtain ⟨e2, e3⟩ := give_err hk
    rw [e2, e3]
    exact ⟨none, 0, none, 0, rfl, OwnT_nil _ _, OwnT_nil _ _, hb⟩
  cases hr : rightA b m with
  | false =>
    have hE : Hid (giveE b m xs = 1) := give_wrong hr
    rw [hr, hW] at cr
    clear hn hn' hB hB' hk hI
    go_enter Try.func17, Try.ntmps17
    go_wp2_with (go_at_call 12; refine cr.mono ?_; rintro e w1 ⟨rfl, hb⟩; rw [← hW] at hb; replace HB := Below.tr HB hb; obtain ⟨⟨q0, q1⟩, f0, f1⟩ := bo.below hb; clear hb cr)
    refine bodyPost_ret (v := .tuple #[.agg #[.slice none 0 0, .slice none 0 0], .int .i64 1]) (by simp [results, Try.results17, go_sem, q0, q1]) rfl (fin 1 hE.out (by decide) _ ?_)
    exact below_set2 (Below.tr hB0 HB) (Nat.le_succ _)
  | true =>
    obtain ⟨hl, h24, h48, -⟩ := (rightA_iff b m).1 hr
    have hnb : n ≤ 4096 := by omega
    have hnb' : n' ≤ 4096 := by omega
    have cc : ∀ V, Below W.heap.size W V → Calls Try.prog 29 #[.slice a' n' c'] V fun e w' => ∃ a2 c2, e = .returned (.slice a2 n' c2) ∧ OwnT V.heap.size w' a2 c2 m ∧ Below V.heap.size V w' :=
      fun V hV => clone_any a' c' n' m V hn' (hB'.below (Below.tr hB0 hV)) hnb'
    have cm : ∀ V a2 c2, Below W.heap.size W V → Calls Try.prog 28 #[.slice a n c, .slice a2 n' c2] V fun e w' => ∃ a1 c1, e = .returned (.agg #[.slice a1 n c1, .slice a2 n' c2]) ∧ OwnT V.heap.size w' a1 c1 b ∧ Below V.heap.size V w' :=
      fun V a2 c2 hV => making_any a a2 c c2 n n' b V hn hnb (hB.below (Below.tr hB0 hV))
    have HI : Hid (IsI w ap cp xs) := hI
    have HK : Hid (k = xs.length) := hk
    have HN : Hid (n = b.length ∧ n' = m.length ∧ rightA b m = true) := ⟨hn, hn', hr⟩
    rw [hr, hW] at cr
    clear hn hn' hB hB' hk hI h24 h48 hl hr
    go_enter Try.func17, Try.ntmps17
    go_wp2_with (first
      | (go_at_call 12; refine cr.mono ?_; rintro e w1 ⟨rfl, hb⟩; rw [← hW] at hb; replace HB := Below.tr HB hb; obtain ⟨⟨q0, q1⟩, -, -⟩ := bi.below hb; clear hb cr)
      | (go_at_call 29; refine (cc _ HB).mono ?_; rintro e w2 ⟨a2, c2, rfl, ho, hb⟩; have O2 : Hid (OwnT W.heap.size w2 a2 c2 m) := ho.mono HB.size; replace HB := Below.tr HB hb; clear hb cc ho))
    go_loopw [18] (fun v wr => ∃ (j : Nat) (l : List Bool), j ≤ k ∧ v = .int .i64 j ∧ giveR m (xs.take j) = some l ∧ OwnT W.heap.size wr a2 c2 l ∧ Below W.heap.size W wr) (fun v _ => k - (intOf v).toNat)
    case atStart => exact ⟨0, m, by omega, rfl, rfl, O2.out, HB⟩
    case round =>
      obtain ⟨j, l, hj, rfl, hgl, hown, hbel⟩ := hrel
      have HO : Hid (OwnT W.heap.size wr a2 c2 l) := hown
      have HG : Hid (giveR m (xs.take j) = some l) := hgl
      have hll : l.length = n' := by rw [giveR_length hgl, HN.out.2.1]
      clear hown hgl
      by_cases hlt : j < k
      · have hlt' : (j : Int) < k := by omega
        obtain ⟨x, hx⟩ : ∃ p, Hid (xs[j]? = some p) := ⟨_, List.getElem?_eq_getElem (by rw [← HK.out]; exact hlt)⟩
        obtain ⟨bb, oo, rfl, hbl, hc0⟩ := HI.out.2.2 j x hx.out
        have hc := cell_below (Below.tr hB0 hbel) hc0
        obtain ⟨⟨r0, r1⟩, f0, f1⟩ := bo.below hbel
        by_cases hok : 10 ≤ x ∧ x < l.length ∧ atB l x.toNat = true
        · obtain ⟨q, rfl⟩ : ∃ q : Nat, x = q := ⟨x.toNat, by omega⟩
          have hq1 : ¬ (q : Int) < 10 := by omega
          have hq2 : ¬ (n' : Int) ≤ q := by omega
          have hqn : q < n' := by omega
          have hql : q < l.length := by omega
          have hat : l[q]? = some true := by
            have := hok.2.2
            rw [Int.toNat_natCast] at this
            rw [List.getElem?_eq_getElem hql]
            rw [atB_some (List.getElem?_eq_getElem hql)] at this
            rw [this]
          obtain ⟨g, rfl, hg, hrow⟩ := HO.out.some (by omega)
          obtain ⟨hcx, hfx⟩ := hrow.cell hat
          have hset : Hid (OwnT W.heap.size (wr.setCell ⟨g, q, none⟩ (.bool false)) (some ⟨g, 0, none⟩) c2 (l.set q false)) := .inr ⟨g, rfl, hg, hrow.set q false⟩
          have hnx : Hid (giveR m (xs.take (j + 1)) = some (l.set q false)) := by
            show _ = _
            rw [giveR_take HG.out hx.out, if_pos hok, Int.toNat_natCast]
          clear hrow hat hok hll
          go_wp2
          go_roundw
          case rel => exact ⟨j + 1, l.set q false, by omega, by go_num, hnx.out, hset.out, hbel.setCell (p := ⟨g, q, none⟩) hg _⟩
          case measure => simp [intOf]; omega
        · have hE : Hid (giveE b m xs = 30) := give_none HN.out.2.2 (giveR_bad HG.out hx.out hok)
          have hend : ∀ w1, w1 = (wr.setCell ⟨w.heap.size + 1, 0, none⟩ (.slice none 0 0)).setCell ⟨w.heap.size + 1, 1, none⟩ (.slice none 0 0) → Below w.heap.size w w1 := by
            rintro w1 rfl; exact below_set2 (Below.tr hB0 hbel) (Nat.le_succ _)
          by_cases h1 : x < 10
          · clear hok
            go_wp2
            refine bodyPost_ret (v := .tuple #[.agg #[.slice none 0 0, .slice none 0 0], .int .i64 30]) (by simp [results, Try.results17, go_sem, r0, r1]) rfl (fin 30 hE.out (by decide) _ (hend _ rfl))
          · by_cases h2 : (n' : Int) ≤ x
            · clear hok
              go_wp2
              refine bodyPost_ret (v := .tuple #[.agg #[.slice none 0 0, .slice none 0 0], .int .i64 30]) (by simp [results, Try.results17, go_sem, r0, r1]) rfl (fin 30 hE.out (by decide) _ (hend _ rfl))
            · obtain ⟨q, rfl⟩ : ∃ q : Nat, x = q := ⟨x.toNat, by omega⟩
              have hqn : (q : Int) < n' := by omega
              have hql : q < l.length := by omega
              have hat : l[q]? = some false := by
                rw [List.getElem?_eq_getElem hql]
                cases hv : l[q] with
                | false => rfl
                | true => exact absurd ⟨by omega, by omega, by rw [Int.toNat_natCast, atB_some (List.getElem?_eq_getElem hql)]; exact hv⟩ hok
              obtain ⟨g, rfl, hg, hrow⟩ := HO.out.some (by omega)
              obtain ⟨hcx, hfx⟩ := hrow.cell hat
              clear hrow hat hok hll
              go_wp2
              refine bodyPost_ret (v := .tuple #[.agg #[.slice none 0 0, .slice none 0 0], .int .i64 30]) (by simp [results, Try.results17, go_sem, r0, r1]) rfl (fin 30 hE.out (by decide) _ (hend _ rfl))
      · obtain rfl : j = k := by omega
        have hE : Hid (giveE b m xs = 0 ∧ giveB b m xs = b ∧ giveN b m xs = l) := give_some HN.out.2.2 (by have := HG.out; rw [HK.out, List.take_length] at this; exact this)
        obtain ⟨⟨q0, q1⟩, -, -⟩ := bi.below hbel
        go_wp2_with (go_at_call 28; refine (cm _ a2 c2 hbel).mono ?_; rintro e w4 ⟨a1, c1, rfl, ho, hb⟩; have O1 : Hid (OwnT W.heap.size w4 a1 c1 b) := ho.mono hbel.size; have HB4 := Below.tr hbel hb; have O3 : Hid (OwnT W.heap.size w4 a2 c2 l) := HO.out.below hb; obtain ⟨⟨t0, t1⟩, f0, f1⟩ := bo.below HB4; clear hb cm ho)
        obtain ⟨g0, g1, g2⟩ := hE.out
        refine bodyPost_ret (v := .tuple #[.agg #[.slice a1 n c1, .slice a2 n' c2], .int .i64 0]) (by simp [results, Try.results17, go_sem, t0, t1]) rfl ⟨a1, c1, a2, c2, by rw [g0, g1, g2, hll, ← HN.out.1], ?_, ?_, below_set2 (Below.tr hB0 HB4) (Nat.le_succ _)⟩
        · rw [g1]
          exact ((O1.out.store (by omega) _ _).store (by omega) _ _).mono (by omega)
        · rw [g2]
          exact ((O3.out.store (by omega) _ _).store (by omega) _ _).mono (by omega)

set_option maxHeartbeats 1000000 in
/-- COMMIT, of all allocs. -/
theorem commit_any (a a' : Option Addr) (c c' n n' : Nat) (b m : List Bool) (w : World) (hn : n = b.length) (hn' : n' = m.length) (hB : IsB w a c b) (hB' : IsB w a' c' m) :
    Calls Try.prog 18 #[.agg #[.slice a n c, .slice a' n' c']] w fun e w' => ∃ a1 c1 a2 c2, e = .returned (.tuple #[.agg #[.slice a1 (commitL b m).length c1, .slice a2 (commitL b m).length c2], .int .i64 (commitE b m)]) ∧ OwnT w.heap.size w' a1 c1 (commitL b m) ∧ OwnT w.heap.size w' a2 c2 (commitL b m) ∧ Below w.heap.size w w' := by
  obtain ⟨W, hW⟩ : ∃ W, W = (w.alloc (.cells #[.slice a n c, .slice a' n' c'] 24)).alloc (.cells #[.slice none 0 0, .slice none 0 0] 24) := ⟨_, rfl⟩
  obtain ⟨hB0, hWs, bi, bo⟩ := two_boxes hW
  have HB : Below W.heap.size W W := Below.refl _ _
  have cr := right_any a a' c c' n n' b m W hn hn' (hB.below hB0) (hB'.below hB0)
  cases hr : rightA b m with
  | false =>
    have hE : Hid (commitE b m = 1 ∧ commitL b m = []) := by show _ ∧ _; unfold commitE commitL; rw [hr]; exact ⟨rfl, rfl⟩
    rw [hr, hW] at cr
    clear hn hn' hB hB'
    go_enter Try.func18, Try.ntmps18
    go_wp2_with (go_at_call 12; refine cr.mono ?_; rintro e w1 ⟨rfl, hb⟩; rw [← hW] at hb; replace HB := Below.tr HB hb; obtain ⟨⟨q0, q1⟩, f0, f1⟩ := bo.below hb; clear hb cr)
    obtain ⟨g0, g1⟩ := hE.out
    refine bodyPost_ret (v := .tuple #[.agg #[.slice none 0 0, .slice none 0 0], .int .i64 1]) (by simp [results, Try.results18, go_sem, q0, q1]) rfl ⟨none, 0, none, 0, by rw [g0, g1]; rfl, by rw [g1]; exact OwnT_nil _ _, by rw [g1]; exact OwnT_nil _ _, below_set2 (Below.tr hB0 HB) (Nat.le_succ _)⟩
  | true =>
    obtain ⟨hl, h24, h48, -⟩ := (rightA_iff b m).1 hr
    have hnb' : n' ≤ 4096 := by omega
    have hE : Hid (commitE b m = 0 ∧ commitL b m = m ∧ m.length = n') := by show _ ∧ _ ∧ _; unfold commitE commitL; rw [hr]; exact ⟨rfl, rfl, hn'.symm⟩
    have cc : ∀ V, Below W.heap.size W V → Calls Try.prog 29 #[.slice a' n' c'] V fun e w' => ∃ a2 c2, e = .returned (.slice a2 n' c2) ∧ OwnT V.heap.size w' a2 c2 m ∧ Below V.heap.size V w' :=
      fun V hV => clone_any a' c' n' m V hn' (hB'.below (Below.tr hB0 hV)) hnb'
    have cm : ∀ V a2 c2, IsB V a2 c2 m → Calls Try.prog 23 #[.slice a2 n' c2] V fun e w' => ∃ a1 c1, e = .returned (.agg #[.slice a1 n' c1, .slice a2 n' c2]) ∧ OwnT V.heap.size w' a1 c1 m ∧ Below V.heap.size V w' :=
      fun V a2 c2 hV => counting_any a2 c2 n' m V hn' hnb' hV
    rw [hr, hW] at cr
    clear hn hn' hB hB' h24 h48 hl hr
    go_enter Try.func18, Try.ntmps18
    go_wp2_with (first
      | (go_at_call 12; refine cr.mono ?_; rintro e w1 ⟨rfl, hb⟩; rw [← hW] at hb; replace HB := Below.tr HB hb; obtain ⟨⟨q0, q1⟩, -, -⟩ := bi.below hb; clear hb cr)
      | (go_at_call 29; refine (cc _ HB).mono ?_; rintro e w2 ⟨a2, c2, rfl, ho, hb⟩; have O2 : Hid (OwnT W.heap.size w2 a2 c2 m) := ho.mono HB.size; replace HB := Below.tr HB hb; clear hb cc ho)
      | (go_at_call 23; refine (cm _ a2 c2 O2.out.isB).mono ?_; rintro e w4 ⟨a1, c1, rfl, ho, hb⟩; have O1 : Hid (OwnT W.heap.size w4 a1 c1 m) := ho.mono HB.size; replace HB := Below.tr HB hb; have O3 : Hid (OwnT W.heap.size w4 a2 c2 m) := O2.out.below hb; obtain ⟨⟨t0, t1⟩, f0, f1⟩ := bo.below HB; clear hb cm ho))
    obtain ⟨g0, g1, g2⟩ := hE.out
    refine bodyPost_ret (v := .tuple #[.agg #[.slice a1 n' c1, .slice a2 n' c2], .int .i64 0]) (by simp [results, Try.results18, go_sem, t0, t1]) rfl ⟨a1, c1, a2, c2, by rw [g0, g1, g2], ?_, ?_, below_set2 (Below.tr hB0 HB) (Nat.le_succ _)⟩
    · rw [g1]
      exact ((O1.out.store (by omega) _ _).store (by omega) _ _).mono (by omega)
    · rw [g1]
      exact ((O3.out.store (by omega) _ _).store (by omega) _ _).mono (by omega)

end Go.Proofs.Ytomjajmjooaegaa

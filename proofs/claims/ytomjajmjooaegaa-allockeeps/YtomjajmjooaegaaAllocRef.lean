/-
  The document's own Right, IsFree, Free, Like, New.
-/
import Derived.Test.YtomjajmjooaegaaAllocDo
namespace Go.Proofs.Ytomjajmjooaegaa
open Go.RowKit Plain
set_option linter.unusedVariables false

theorem right_size {b m : List Bool} (h : ¬ (24 ≤ m.length ∧ m.length ≤ 2048)) : rightA b m = false := by
  rw [Bool.eq_false_iff]
  intro hr
  obtain ⟨_, h1, h2, _⟩ := (rightA_iff b m).1 hr
  exact h ⟨h1, h2⟩

theorem right_place {b m : List Bool} {i : Nat} (hi : i < 10) (h : atB b i = false ∨ atB m i = false) : rightA b m = false := by
  rw [Bool.eq_false_iff]
  intro hr
  obtain ⟨_, _, _, h4⟩ := (rightA_iff b m).1 hr
  obtain ⟨h5, h6⟩ := h4 i hi
  rcases h with h | h
  · rw [h] at h5; cases h5
  · rw [h] at h6; cases h6

set_option maxHeartbeats 1000000 in
/-- The document's own RIGHT, of all allocs. -/
theorem refRight_any (a a' : Option Addr) (c c' n n' : Nat) (b m : List Bool) (w : World) (hn : n = b.length) (hn' : n' = m.length) (hB : IsB w a c b) (hB' : IsB w a' c' m) :
    Calls Try.prog 13 #[.agg #[.slice a n c, .slice a' n' c']] w fun e w' => e = .returned (.bool (rightA b m)) ∧ Below w.heap.size w w' := by
  have hnb : n ≤ 9223372036854775807 := by rw [hn]; exact Nat.le_trans hB.1 hB.2.1
  have hnb' : n' ≤ 9223372036854775807 := by rw [hn']; exact Nat.le_trans hB'.1 hB'.2.1
  have hB0 : Below w.heap.size w (w.alloc (.cells #[.slice a n c, .slice a' n' c'] 24)) := (Below.refl _ _).alloc (Nat.le_refl _) _
  obtain ⟨⟨q0, q1⟩, -⟩ := box2_new w (.slice a n c) (.slice a' n' c') 24 rfl
  by_cases hl : n = n'
  · subst hl
    by_cases h24 : 24 ≤ n
    · by_cases h48 : n ≤ 2048
      · have h1 : ¬ (n : Int) < 24 := by omega
        have h2 : ¬ (2048 : Int) < n := by omega
        have HB : Hid (IsB _ a c b) := hB.below hB0
        have HB' : Hid (IsB _ a' c' m) := hB'.below hB0
        have HN : Hid (n = b.length ∧ n = m.length) := ⟨hn, hn'⟩
        obtain ⟨b1, o1, rfl, -⟩ := hB.some (by omega)
        obtain ⟨b2, o2, rfl, -⟩ := hB'.some (by omega)
        clear hn hn' hB hB'
        go_enter Try.func13, Try.ntmps13
        go_wp2
        generalize w.alloc (.cells #[.slice (some ⟨b1, o1, none⟩) n c, .slice (some ⟨b2, o2, none⟩) n c'] 24) = W at q0 q1 hB0 HB HB' ⊢
        go_loopw [3] (fun v wr => ∃ j : Nat, j ≤ 10 ∧ v = .int .i64 j ∧ (∀ i, i < j → atB b i = true ∧ atB m i = true) ∧ W = wr) (fun v _ => 10 - (intOf v).toNat)
        case atStart => exact ⟨0, by omega, rfl, fun i hi => by omega, by trivial⟩
        case round =>
          obtain ⟨j, hj, rfl, hall, rfl⟩ := hrel
          have HA : Hid (∀ i, i < j → atB b i = true ∧ atB m i = true) := hall
          clear hall
          by_cases hlt : j < 10
          · have hlt' : (j : Int) < 10 := by omega
            have hjn : (j : Int) < n := by omega
            obtain ⟨x, hx⟩ : ∃ q, Hid (b[j]? = some q) := ⟨_, List.getElem?_eq_getElem (by rw [← HN.out.1]; omega)⟩
            obtain ⟨y, hy⟩ : ∃ q, Hid (m[j]? = some q) := ⟨_, List.getElem?_eq_getElem (by rw [← HN.out.2]; omega)⟩
            have hc1 := HB.out.at hx.out
            have hc2 := HB'.out.at hy.out
            cases x with
            | false =>
              have hE : Hid (rightA b m = false) := right_place hlt (.inl (atB_some hx.out))
              go_wp2
              go_ret
              exact ⟨ret_bool hE.out.symm, hB0⟩
            | true =>
              cases y with
              | false =>
                have hE : Hid (rightA b m = false) := right_place hlt (.inr (atB_some hy.out))
                go_wp2
                go_ret
                exact ⟨ret_bool hE.out.symm, hB0⟩
              | true =>
                have hnx : Hid (∀ i, i < j + 1 → atB b i = true ∧ atB m i = true) := by
                  intro i hi
                  by_cases e : i = j
                  · rw [e]; exact ⟨atB_some hx.out, atB_some hy.out⟩
                  · exact HA.out i (by omega)
                go_wp2
                go_roundw
                case rel => exact ⟨j + 1, by omega, by go_num, hnx.out, by trivial⟩
                case measure => simp [intOf]; omega
          · obtain rfl : j = 10 := by omega
            have hE : Hid (rightA b m = true) := (rightA_iff b m).2 ⟨HN.out.1.symm.trans HN.out.2, by have := HN.out.2; omega, by have := HN.out.2; omega, HA.out⟩
            go_wp2
            go_ret
            exact ⟨ret_bool hE.out.symm, hB0⟩
      · have hE : Hid (rightA b m = false) := right_size (by omega)
        have h1 : ¬ (n : Int) < 24 := by omega
        have h2 : (2048 : Int) < n := by omega
        clear hn hn' hB hB'
        go_enter Try.func13, Try.ntmps13
        go_wp2
        go_ret
        exact ⟨ret_bool hE.out.symm, hB0⟩
    · have hE : Hid (rightA b m = false) := right_size (by omega)
      have h1 : (n : Int) < 24 := by omega
      clear hn hn' hB hB'
      go_enter Try.func13, Try.ntmps13
      go_wp2
      go_ret
      exact ⟨ret_bool hE.out.symm, hB0⟩
  · have hE : Hid (rightA b m = false) := right_lens (by omega)
    have hl' : ((n : Int) == n') = false := by rw [beq_eq_false_iff_ne]; omega
    clear hn hn' hB hB'
    go_enter Try.func13, Try.ntmps13
    go_wp2
    go_ret
    exact ⟨ret_bool hE.out.symm, hB0⟩

set_option maxHeartbeats 1000000 in
/-- The document's own ISFREE, where both rows have as many places. -/
theorem isFree_any (a a' : Option Addr) (c c' n : Nat) (b m : List Bool) (i : Nat) (w : World) (hn : n = b.length) (hn' : n = m.length) (hB : IsB w a c b) (hB' : IsB w a' c' m) :
    Calls Try.prog 21 #[.agg #[.slice a n c, .slice a' n c'], .int .i64 i] w fun e w' => e = .returned (.bool (freeB b m i)) ∧ Below w.heap.size w w' := by
  have hnb : n ≤ 9223372036854775807 := by rw [hn]; exact Nat.le_trans hB.1 hB.2.1
  have hB0 : Below w.heap.size w (w.alloc (.cells #[.slice a n c, .slice a' n c'] 24)) := (Below.refl _ _).alloc (Nat.le_refl _) _
  obtain ⟨⟨q0, q1⟩, -⟩ := box2_new w (.slice a n c) (.slice a' n c') 24 rfl
  have h0 : (0 : Int) ≤ i := by omega
  by_cases hi : i < n
  · have hi' : (i : Int) < n := by omega
    obtain ⟨x, hx⟩ : ∃ q, b[i]? = some q := ⟨_, List.getElem?_eq_getElem (by omega)⟩
    obtain ⟨y, hy⟩ : ∃ q, m[i]? = some q := ⟨_, List.getElem?_eq_getElem (by omega)⟩
    have hE : Hid ((!y && !x) = freeB b m i) := by show _ = _; unfold freeB; rw [decide_eq_true (by omega), atB_some hx, atB_some hy]; rfl
    obtain ⟨b1, o1, rfl, -⟩ := hB.some (by omega)
    obtain ⟨b2, o2, rfl, -⟩ := hB'.some (by omega)
    have hc1 := (hB.below hB0).at hx
    have hc2 := (hB'.below hB0).at hy
    clear hn hn' hB hB' hx hy
    cases y with
    | true =>
      go_enter Try.func21, Try.ntmps21
      go_wp2
      go_ret
      exact ⟨ret_bool hE.out, hB0⟩
    | false =>
      go_enter Try.func21, Try.ntmps21
      go_wp2
      go_ret
      exact ⟨ret_bool hE.out, hB0⟩
  · have hi' : ¬ (i : Int) < n := by omega
    have hE : Hid (false = freeB b m i) := by show _ = _; unfold freeB; rw [decide_eq_false (by omega)]; rfl
    clear hn hn' hB hB'
    go_enter Try.func21, Try.ntmps21
    go_wp2
    go_ret
    exact ⟨ret_bool hE.out, hB0⟩

set_option maxHeartbeats 1000000 in
/-- The document's own FREE, of all allocs. -/
theorem refFree_any (a a' : Option Addr) (c c' n n' : Nat) (b m : List Bool) (w : World) (hn : n = b.length) (hn' : n' = m.length) (hB : IsB w a c b) (hB' : IsB w a' c' m) :
    Calls Try.prog 15 #[.agg #[.slice a n c, .slice a' n' c']] w fun e w' => e = .returned (.int .i64 (freeC b m)) ∧ Below w.heap.size w w' := by
  obtain ⟨W, hW⟩ : ∃ W, W = w.alloc (.cells #[.slice a n c, .slice a' n' c'] 24) := ⟨_, rfl⟩
  have hB0 : Below w.heap.size w W := by rw [hW]; exact (Below.refl _ _).alloc (Nat.le_refl _) _
  have bx : Box2 W w.heap.size (.slice a n c) (.slice a' n' c') := by rw [hW]; exact box2_new _ _ _ _ rfl
  have cr := refRight_any a a' c c' n n' b m W hn hn' (hB.below hB0) (hB'.below hB0)
  cases hr : rightA b m with
  | false =>
    have he : Hid ((0 : Int) = (freeC b m : Nat)) := by show _ = _; unfold freeC; rw [hr]; rfl
    rw [hr, hW] at cr
    rw [hW] at hB0
    clear hn hn' hB hB'
    go_enter Try.func15, Try.ntmps15
    go_wp2_with (go_at_call 13; refine cr.mono ?_; rintro e w1 ⟨rfl, hb⟩; replace hB0 := Below.tr hB0 hb)
    go_ret
    exact ⟨ret_int he.out, hB0⟩
  | true =>
    obtain ⟨hl, h24, h48, -⟩ := (rightA_iff b m).1 hr
    obtain rfl : n = n' := by omega
    have hnb : n ≤ 2048 := by omega
    have he : Hid (freeC b m = howN (freeB b m) n) := by show _ = _; unfold freeC; rw [if_pos hr, hn']
    have ci : ∀ (i : Nat) (q : Bool) V, Below W.heap.size W V → freeB b m i = q → Calls Try.prog 21 #[.agg #[.slice a n c, .slice a' n c'], .int .i64 i] V fun e w' => e = .returned (.bool q) ∧ Below V.heap.size V w' := by
      rintro i q V hV rfl
      exact isFree_any a a' c c' n b m i V hn hn' (hB.below (Below.tr hB0 hV)) (hB'.below (Below.tr hB0 hV))
    rw [hr, hW] at cr
    clear hn hn' hB hB' h24 h48 hl hr
    go_enter Try.func15, Try.ntmps15
    go_wp2_with (go_at_call 13; refine cr.mono ?_; rintro e w1 ⟨rfl, hb⟩; rw [← hW] at hb; obtain ⟨⟨q0, q1⟩, -, -⟩ := bx.below hb; clear cr)
    go_loopw [3, 11] (fun u v wr => ∃ j k : Nat, j ≤ n ∧ v = .int .i64 j ∧ k = howN (freeB b m) j ∧ k ≤ j ∧ u = .int .i64 k ∧ Below W.heap.size W wr) (fun _ v _ => n - (intOf v).toNat)
    case atStart => exact ⟨0, 0, by omega, rfl, rfl, Nat.le_refl _, rfl, hb⟩
    case round =>
      obtain ⟨j, k, hj, rfl, hk, hkj, rfl, hbel⟩ := hrel
      have HK : Hid (k = howN (freeB b m) j) := hk
      clear hk q0 q1
      obtain ⟨⟨q0, q1⟩, -, -⟩ := bx.below hbel
      by_cases hlt : j < n
      · have hlt' : (j : Int) < n := by omega
        obtain ⟨q, hq⟩ : ∃ q, Hid (freeB b m j = q) := ⟨_, rfl⟩
        have hnx : Hid (howN (freeB b m) (j + 1) = k + bn q) := by show howN _ _ = _; rw [howN, ← HK.out, hq.out]
        have cj := ci j q wr hbel hq.out
        cases q with
        | true =>
          go_wp2_with (go_at_call 21; refine cj.mono ?_; rintro e w2 ⟨rfl, hb2⟩)
          go_roundw
          case rel => exact ⟨j + 1, k + 1, by omega, by go_num, hnx.out.symm, by omega, by go_num, Below.tr hbel hb2⟩
          case measure => simp [intOf]; omega
        | false =>
          go_wp2_with (go_at_call 21; refine cj.mono ?_; rintro e w2 ⟨rfl, hb2⟩)
          go_roundw
          case rel => exact ⟨j + 1, k, by omega, by go_num, hnx.out.symm, by omega, rfl, Below.tr hbel hb2⟩
          case measure => simp [intOf]; omega
      · obtain rfl : j = n := by omega
        have hE : Hid ((k : Int) = (freeC b m : Nat)) := by show _ = _; rw [he.out, HK.out]
        go_wp2
        go_ret
        exact ⟨ret_int hE.out, Below.tr hB0 hbel⟩

def likeA (b m b' m' : List Bool) : Bool := decide (b = b') && decide (m = m')

theorem likeA_same (b m : List Bool) : likeA b m b m = true := by unfold likeA; simp

set_option maxHeartbeats 1000000 in
/-- LIKE, of all allocs. -/
theorem like_any (a a' d d' : Option Addr) (c c' e e' n n' k k' : Nat) (b m b' m' : List Bool) (w : World) (hn : n = b.length) (hn' : n' = m.length) (hk : k = b'.length) (hk' : k' = m'.length)
    (hB : IsB w a c b) (hB' : IsB w a' c' m) (hD : IsB w d e b') (hD' : IsB w d' e' m') :
    Calls Try.prog 9 #[.agg #[.slice a n c, .slice a' n' c'], .agg #[.slice d k e, .slice d' k' e']] w fun x w' => x = .returned (.bool (likeA b m b' m')) ∧ Below w.heap.size w w' := by
  obtain ⟨W, hW⟩ : ∃ W, W = (w.alloc (.cells #[.slice a n c, .slice a' n' c'] 24)).alloc (.cells #[.slice d k e, .slice d' k' e'] 24) := ⟨_, rfl⟩
  obtain ⟨hB0, hWs, bi, bo⟩ := two_boxes hW
  have HB : Below W.heap.size W W := Below.refl _ _
  obtain ⟨x, hx⟩ : ∃ x, x = decide (b = b') := ⟨_, rfl⟩
  obtain ⟨y, hy⟩ : ∃ y, y = decide (m = m') := ⟨_, rfl⟩
  have hE : Hid (likeA b m b' m' = (x && y)) := by show _ = _; unfold likeA; rw [hx, hy]
  have c1 : Calls Try.prog 24 #[.slice a n c, .slice d k e] W fun e w' => e = .returned (.bool x) ∧ Below W.heap.size W w' := by
    rw [hn, hk, hx]; exact same_any a d c e b b' W (hB.below hB0) (hD.below hB0)
  have c2 : ∀ V, Below W.heap.size W V → Calls Try.prog 24 #[.slice a' n' c', .slice d' k' e'] V fun e w' => e = .returned (.bool y) ∧ Below V.heap.size V w' := by
    intro V hV; rw [hn', hk', hy]; exact same_any a' d' c' e' m m' V (hB'.below (Below.tr hB0 hV)) (hD'.below (Below.tr hB0 hV))
  rw [hW] at c1
  have t1 : True := trivial
  clear hn hn' hk hk' hB hB' hD hD' hx hy
  cases x with
  | false =>
    go_enter Try.func9, Try.ntmps9
    go_wp2_with (go_at_call 24; refine c1.mono ?_; rintro e w1 ⟨rfl, hb⟩; rw [← hW] at hb)
    go_ret
    exact ⟨ret_bool hE.out.symm, Below.tr hB0 hb⟩
  | true =>
    go_enter Try.func9, Try.ntmps9
    go_wp2_with (first
      | (go_at_call 24; have _t := t1; refine c1.mono ?_; rintro e w1 ⟨rfl, hb⟩; rw [← hW] at hb; clear t1; replace HB := Below.tr HB hb; obtain ⟨⟨q0, q1⟩, -, -⟩ := bi.below hb; obtain ⟨⟨r0, r1⟩, -, -⟩ := bo.below hb; clear hb)
      | (go_at_call 24; refine (c2 _ HB).mono ?_; rintro e w2 ⟨rfl, hb⟩; replace HB := Below.tr HB hb; clear hb))
    go_ret
    exact ⟨ret_bool hE.out.symm, Below.tr hB0 HB⟩

end Go.Proofs.Ytomjajmjooaegaa

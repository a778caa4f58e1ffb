/-
  Package ring's Put and Get.
-/
import Derived.Test.YtcdcnonkoffbhaaRingMem
import Derived.Test.YtcdcnonkoffbhaaPageWant
namespace Go.Proofs.Ytcdcnonkoffbhaa
open Go.RowKit Plain
set_option linter.unusedVariables false

def isGenR (g : Int) : Bool := decide (1 ≤ g) && decide (g ≤ 1099511627776)
def isNumR (n : Int) : Bool := decide (0 ≤ n) && decide (n < 8)

theorem isGenR_any (g : Int) (w : World) :
    Calls Try.prog 24 #[.int .i64 g] w fun e w' => e = .returned (.bool (isGenR g)) ∧ w = w' := by
  by_cases h : 1 ≤ g
  · go_enter Try.func24, Try.ntmps24
    go_wp2
    go_ret
    exact ⟨ret_bool (by simp [isGenR, h]), rfl⟩
  · go_enter Try.func24, Try.ntmps24
    go_wp2
    go_ret
    exact ⟨ret_bool (by rw [isGenR, decide_eq_false (by omega)]; rfl), rfl⟩

theorem isNumR_any (g : Int) (w : World) :
    Calls Try.prog 25 #[.int .i64 g] w fun e w' => e = .returned (.bool (isNumR g)) ∧ w = w' := by
  by_cases h : 0 ≤ g
  · go_enter Try.func25, Try.ntmps25
    go_wp2
    go_ret
    exact ⟨ret_bool (by simp [isNumR, h]), rfl⟩
  · go_enter Try.func25, Try.ntmps25
    go_wp2
    go_ret
    exact ⟨ret_bool (by rw [isNumR, decide_eq_false (by omega)]; rfl), rfl⟩

theorem rightR_eq (g n : Int) : rightR g n = (isGenR g && isNumR n) := by
  rw [Bool.eq_iff_iff, rightR_iff]
  simp [isGenR, isNumR]
  omega

theorem number_any (n : Int) (w : World) :
    Calls Try.prog 28 #[.int .i64 n] w fun e w' => e = .returned (.string (putS n 1)) ∧ Below w.heap.size w w' := by
  have c := fun W => put_any n 1 W
  generalize putS n 1 = s at *
  generalize putE n 1 = x at *
  go_enter Try.func28, Try.ntmps28
  go_wp2_with (go_at_call 44; refine (c _).mono ?_; rintro e w1 ⟨rfl, hb⟩)
  go_ret
  exact ⟨rfl, hb⟩

theorem ringText_any (s : ByteArray) (w : World) (hs : s.size ≤ maxLen) :
    Calls Try.prog 58 #[.string s] w fun e w' => e = .returned (.string (textS s)) ∧ Below w.heap.size w w' := by
  have c := fun W => text_any s W hs
  generalize textS s = t at *
  generalize textE s = x at *
  go_enter Try.func58, Try.ntmps58
  go_wp2_with (go_at_call 45; refine (c _).mono ?_; rintro e w1 ⟨rfl, hb⟩)
  go_ret
  exact ⟨rfl, hb⟩

set_option maxHeartbeats 1000000 in
theorem ringPut_any (g n : Int) (b : ByteArray) (w : World) (hs : b.size ≤ maxLen) :
    Calls Try.prog 9 #[.int .i64 g, .int .i64 n, .string b] w fun e w' => e = .returned (.tuple #[.string (recS g n b), .int .i64 (recE g n b)]) ∧ Below w.heap.size w w' := by
  have e := rightR_eq g n
  have c1 := fun W => isGenR_any g W
  have c2 := fun W => isNumR_any n W
  by_cases h : rightR g n = true
  · have hr := (rightR_iff _ _).1 h
    rw [h] at e
    have e1 : isGenR g = true := by cases hh : isGenR g with | true => rfl | false => rw [hh] at e; simp at e
    have e2 : isNumR n = true := by cases hh : isNumR n with | true => rfl | false => rw [hh] at e; simp at e
    rw [e1] at c1
    rw [e2] at c2
    by_cases h4 : b.size ≤ 480
    · have h0 := recE_zero h h4
      have c3 := fun W => number_any n W
      have z1 := putS_size (oneR_ok (n := n) (by omega) (by omega))
      have c4 : ∀ W : World, Calls Try.prog 27 #[.slice (some ⟨W.heap.size, 0, none⟩) 2 2] (W.alloc (.cells #[.string (putS n 1), .string b] 9)) fun e w' => e = .returned (.string (bodyR n b)) ∧ Below W.heap.size W w' := fun W => all_two (putS n 1) b W (by omega)
      have c5 : ∀ W, Calls Try.prog 26 #[.agg #[.int .i64 5, .int .i64 g, .string (bodyR n b)]] W fun e w' => e = .returned (.tuple #[.string (recS g n b), .int .i64 0]) ∧ Below W.heap.size W w' := by
        intro W
        have := pagePut_any 5 g (bodyR n b) W (by rw [bodyR_size (by omega) (by omega)]; unfold maxLen; omega)
        rw [pageE, if_pos (bodyR_page h0)] at this
        rwa [show recS g n b = pageS 5 g (bodyR n b) by rw [recS, if_pos h0]]
      rw [h0]
      generalize recS g n b = q at *
      generalize bodyR n b = B at *
      generalize putS n 1 = P at *
      clear e1 e2 e h h0 hr z1
      have hB : Below w.heap.size w w := Below.refl _ _
      go_enter Try.func9, Try.ntmps9
      go_wp2_with (first
        | (go_at_call 24; refine (c1 _).mono ?_; rintro e w' ⟨rfl, rfl⟩)
        | (go_at_call 25; refine (c2 _).mono ?_; rintro e w' ⟨rfl, rfl⟩)
        | (go_at_call 28; refine (c3 _).mono ?_; rintro e w1 ⟨rfl, hb⟩; replace hB := Below.tr hB hb; clear hb)
        | (go_at_call 27; refine (c4 _).mono ?_; rintro e w2 ⟨rfl, hb⟩; replace hB := Below.tr hB hb; clear hb)
        | (go_at_call 26; refine (c5 _).mono ?_; rintro e w3 ⟨rfl, hb⟩; replace hB := Below.tr hB hb; clear hb))
      go_ret2
      exact ⟨rfl, hB⟩
    · have h0 : recE g n b = 2 := by rw [recE, if_pos h, if_neg h4]
      rw [recS, h0, if_neg (by decide)]
      clear e1 e2 e h h0 hr
      have hm : b.size ≤ 9223372036854775807 := hs
      go_enter Try.func9, Try.ntmps9
      go_wp2_with (first
        | (go_at_call 24; refine (c1 _).mono ?_; rintro e w' ⟨rfl, rfl⟩)
        | (go_at_call 25; refine (c2 _).mono ?_; rintro e w' ⟨rfl, rfl⟩))
      go_ret2
      exact ⟨rfl, Below.refl _ _⟩
  · have h0 : recE g n b = 1 := by rw [recE, if_neg h]
    rw [recS, h0, if_neg (by decide)]
    have h' : rightR g n = false := by simpa using h
    rw [h'] at e
    clear h h' h0
    cases e1 : isGenR g with
    | true =>
      have e2 : isNumR n = false := by cases hh : isNumR n with | false => rfl | true => rw [hh, e1] at e; simp at e
      rw [e1] at c1
      rw [e2] at c2
      clear e e1 e2
      go_enter Try.func9, Try.ntmps9
      go_wp2_with (first
        | (go_at_call 24; refine (c1 _).mono ?_; rintro e w' ⟨rfl, rfl⟩)
        | (go_at_call 25; refine (c2 _).mono ?_; rintro e w' ⟨rfl, rfl⟩))
      go_ret2
      exact ⟨rfl, Below.refl _ _⟩
    | false =>
      rw [e1] at c1
      clear e e1
      go_enter Try.func9, Try.ntmps9
      go_wp2_with (first
        | (go_at_call 24; refine (c1 _).mono ?_; rintro e w' ⟨rfl, rfl⟩))
      go_ret2
      exact ⟨rfl, Below.refl _ _⟩

set_option maxHeartbeats 1000000 in
theorem ringGet_any (s : ByteArray) (g : Int) (w : World) (hs : s.size ≤ maxLen) :
    Calls Try.prog 11 #[.string s, .int .i64 g] w fun e w' => e = .returned (.tuple #[.int .i64 (rgN s g), .string (rgB s g), .int .i64 (rgE s g)]) ∧ Below w.heap.size w w' := by
  have c1 : ∀ W : World, Calls Try.prog 30 #[.string s, .slice (some ⟨W.heap.size, 0, none⟩) 1 1] (W.alloc (.cells #[.int .i64 5] 3)) fun e w' => e = .returned (.tuple #[.agg #[.int .i64 (wantK s [5]), .int .i64 (wantG s [5]), .string (wantB s [5])], .int .i64 (wantE s [5])]) ∧ Below W.heap.size W w' := by
    intro W
    exact (want_any s _ 1 [5] _ hs (isI_one W 5)).mono fun e w' ⟨he, hb⟩ => ⟨he, below_box hb⟩
  have eE : wantE s [5] = if readE s = 0 then (if readK s = 5 then 0 else 40) else readE s := by unfold wantE; simp
  obtain ⟨K, hK⟩ : ∃ x, x = wantK s [5] := ⟨_, rfl⟩
  obtain ⟨G, hG⟩ : ∃ x, x = wantG s [5] := ⟨_, rfl⟩
  obtain ⟨B, hBB⟩ : ∃ x, x = wantB s [5] := ⟨_, rfl⟩
  obtain ⟨E, hE⟩ : ∃ x, x = wantE s [5] := ⟨_, rfl⟩
  rw [← hK, ← hG, ← hBB, ← hE] at c1
  by_cases h0 : E = 0
  · have hr : readE s = 0 ∧ readK s = 5 := by
      rw [hE, eE] at h0
      by_cases a : readE s = 0
      · rw [if_pos a] at h0
        by_cases b : readK s = 5
        · exact ⟨a, b⟩
        · rw [if_neg b] at h0; omega
      · rw [if_neg a] at h0; exact absurd h0 a
    have eB : B = readB s := by rw [hBB, wantB, if_pos (hE.symm.trans h0)]
    have eG : G = readG s := by rw [hG, wantG, if_pos (hE.symm.trans h0)]
    have hl : B.size ≤ 4000 := by
      rw [eB]
      have := (rightP_iff _ _ _).1 (page_once hr.1).1
      omega
    have hE' : rgE s g = if G = g then (if 1 ≤ B.size then (if B.size ≤ 481 then (if getV B 0 1 ≤ 7 then 0 else 4) else 4) else 4) else 4 := by rw [rgE, if_pos hr.1, if_pos hr.2, eG, eB]
    have zN : rgN s g = if rgE s g = 0 then getV B 0 1 else 0 := by rw [rgN, eB]
    have zB : rgB s g = if rgE s g = 0 then B.extract 1 B.size else ⟨#[]⟩ := by rw [rgB, eB]
    rw [zN, zB]
    obtain ⟨X, hX⟩ : ∃ x, x = rgE s g := ⟨_, rfl⟩
    rw [← hX] at hE' ⊢
    clear eB eG hK hG hBB hE eE hr zN zB hX
    subst h0
    have bad : ∀ v : Value, v = .tuple #[.int .i64 0, .string ⟨#[]⟩, .int .i64 4] → X = 4 → v = .tuple #[.int .i64 (if X = 0 then getV B 0 1 else 0), .string (if X = 0 then B.extract 1 B.size else ⟨#[]⟩), .int .i64 X] := by
      rintro v rfl rfl
      rfl
    by_cases h1 : G = g
    · rw [if_pos h1] at hE'
      by_cases h3 : B.size ≤ 481
      · by_cases h2 : 1 ≤ B.size
        · rw [if_pos h2, if_pos h3] at hE'
          have c2 : ∀ W, Calls Try.prog 31 #[.string B, .int .i64 0, .int .i64 1] W fun e w' => e = .returned (.tuple #[.int .i64 (getV B 0 1), .int .i64 1, .int .i64 0]) ∧ W = w' := by
            intro W
            have e : getE B 0 1 = 0 := getE_zero ⟨by omega, by omega, by omega, by omega⟩
            have := get_any B 0 1 W (by unfold maxLen; omega)
            rw [getR, getT, e] at this
            exact this
          have hv := getV_bd B 0 1
          have hp : pw 1 = 256 := by decide
          by_cases h6 : getV B 0 1 ≤ 7
          · rw [if_pos h6] at hE'
            have c3 := fun W => isNumR_any (getV B 0 1) W
            rw [show isNumR (getV B 0 1) = true by simp [isNumR]; omega] at c3
            subst hE'
            rw [if_pos rfl, if_pos rfl]
            clear hv hp h6 bad
            generalize getV B 0 1 = x at *
            subst h1
            go_enter Try.func11, Try.ntmps11
            go_wp2_with (first
      | (go_at_call 30; refine (c1 _).mono ?_; rintro e w1 ⟨rfl, hb⟩; have hB := hb.alloc hb.size (.cells #[.int .i64 K, .int .i64 G, .string B] 57); have P := box3_new w1 (.int .i64 K) (.int .i64 G) (.string B) 57; obtain ⟨⟨p0, p1, p2⟩, -⟩ := id P; clear hb)
      | (go_at_call 31; refine (c2 _).mono ?_; rintro e w' ⟨rfl, rfl⟩)
      | (go_at_call 25; refine (c3 _).mono ?_; rintro e w' ⟨rfl, rfl⟩)
              )
            go_region
            go_wp2
            go_ret3
            exact ⟨rfl, hB.drew⟩
          · rw [if_neg h6] at hE'
            have c3 := fun W => isNumR_any (getV B 0 1) W
            rw [show isNumR (getV B 0 1) = false by simp [isNumR]; omega] at c3
            rw [← bad _ rfl hE']
            clear hv hp h6 bad
            generalize getV B 0 1 = x at *
            subst h1
            go_enter Try.func11, Try.ntmps11
            go_wp2_with (first
      | (go_at_call 30; refine (c1 _).mono ?_; rintro e w1 ⟨rfl, hb⟩; have hB := hb.alloc hb.size (.cells #[.int .i64 K, .int .i64 G, .string B] 57); have P := box3_new w1 (.int .i64 K) (.int .i64 G) (.string B) 57; obtain ⟨⟨p0, p1, p2⟩, -⟩ := id P; clear hb)
      | (go_at_call 31; refine (c2 _).mono ?_; rintro e w' ⟨rfl, rfl⟩)
      | (go_at_call 25; refine (c3 _).mono ?_; rintro e w' ⟨rfl, rfl⟩)
              )
            go_ret3
            exact ⟨rfl, hB⟩
        · rw [if_neg h2] at hE'
          have c2 : ∀ W, Calls Try.prog 31 #[.string B, .int .i64 0, .int .i64 1] W fun e w' => e = .returned (.tuple #[.int .i64 0, .int .i64 0, .int .i64 (getE B 0 1)]) ∧ W = w' := by
            intro W
            have e : ¬ getE B 0 1 = 0 := fun h => by have := getE_ok h; omega
            have := get_any B 0 1 W (by unfold maxLen; omega)
            rw [getR, getT, if_neg e, if_neg e] at this
            exact this
          have hx : (getE B 0 1 == 0) = false := by rw [beq_eq_false_iff_ne]; intro h; have := getE_ok h; omega
          have hx2 : ¬ getE B 0 1 = 0 := fun h => by have := getE_ok h; omega
          rw [← bad _ rfl hE']
          clear bad hE'
          generalize getE B 0 1 = x at *
          subst h1
          go_enter Try.func11, Try.ntmps11
          go_wp2_with (first
      | (go_at_call 30; refine (c1 _).mono ?_; rintro e w1 ⟨rfl, hb⟩; have hB := hb.alloc hb.size (.cells #[.int .i64 K, .int .i64 G, .string B] 57); have P := box3_new w1 (.int .i64 K) (.int .i64 G) (.string B) 57; obtain ⟨⟨p0, p1, p2⟩, -⟩ := id P; clear hb)
            | (go_at_call 31; refine (c2 _).mono ?_; rintro e w' ⟨rfl, rfl⟩))
          go_ret3
          exact ⟨rfl, hB⟩
      · have hX : X = 4 := by
          rw [hE']
          by_cases h2 : 1 ≤ B.size
          · rw [if_pos h2, if_neg h3]
          · rw [if_neg h2]
        rw [← bad _ rfl hX]
        clear bad hE' hX
        subst h1
        go_enter Try.func11, Try.ntmps11
        go_wp2_with (first
      | (go_at_call 30; refine (c1 _).mono ?_; rintro e w1 ⟨rfl, hb⟩; have hB := hb.alloc hb.size (.cells #[.int .i64 K, .int .i64 G, .string B] 57); have P := box3_new w1 (.int .i64 K) (.int .i64 G) (.string B) 57; obtain ⟨⟨p0, p1, p2⟩, -⟩ := id P; clear hb)
          )
        go_ret3
        exact ⟨rfl, hB⟩
    · rw [if_neg h1] at hE'
      rw [← bad _ rfl hE']
      clear bad hE'
      have h1' : (G == g) = false := by simpa using h1
      go_enter Try.func11, Try.ntmps11
      go_wp2_with (first
      | (go_at_call 30; refine (c1 _).mono ?_; rintro e w1 ⟨rfl, hb⟩; have hB := hb.alloc hb.size (.cells #[.int .i64 K, .int .i64 G, .string B] 57); have P := box3_new w1 (.int .i64 K) (.int .i64 G) (.string B) 57; obtain ⟨⟨p0, p1, p2⟩, -⟩ := id P; clear hb)
        )
      go_ret3
      exact ⟨rfl, hB⟩
  · have hE' : rgE s g = E := by
      rw [hE, eE, rgE]
      rw [hE, eE] at h0
      by_cases a : readE s = 0
      · rw [if_pos a, if_pos a]
        rw [if_pos a] at h0
        by_cases b : readK s = 5
        · rw [if_pos b] at h0; exact absurd rfl h0
        · rw [if_neg b, if_neg b]
      · rw [if_neg a, if_neg a]
    rw [rgN, rgB, hE', if_neg h0, if_neg h0]
    have h0' : (E == 0) = false := by simpa using h0
    clear hE' hK hG hBB hE eE
    go_enter Try.func11, Try.ntmps11
    go_wp2_with (first
      | (go_at_call 30; refine (c1 _).mono ?_; rintro e w1 ⟨rfl, hb⟩; have hB := hb.alloc hb.size (.cells #[.int .i64 K, .int .i64 G, .string B] 57); have P := box3_new w1 (.int .i64 K) (.int .i64 G) (.string B) 57; obtain ⟨⟨p0, p1, p2⟩, -⟩ := id P; clear hb)
      )
    go_ret3
    exact ⟨rfl, hB⟩

end Go.Proofs.Ytcdcnonkoffbhaa

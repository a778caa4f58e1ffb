/-
  The document's own Put and Get of records.
-/
import Derived.Test.YtcdcnonkoffbhaaRingOwn
import Derived.Test.YtcdcnonkoffbhaaPageRefGet
namespace Go.Proofs.Ytcdcnonkoffbhaa
open Go.RowKit Plain
set_option linter.unusedVariables false

theorem putOne (n : Nat) (h : n ≤ 255) : ((putL n 1).map cellOf).toArray = #[.int .u8 (n : Int)] := by
  have e0 := byteOf_nat n 0
  have p0 : (2 : Int) ^ (8 * 0) = 1 := by decide
  rw [p0, Int.ediv_one] at e0
  have e1' : ((Plain.byteOf n 0).toNat : Int) = (n : Int) := by omega
  simp only [putL, List.map_cons, List.map_nil, cellOf, e1']

theorem putOneS (n : Nat) (h : n ≤ 255) : (⟨(putL (n : Int) 1).toArray⟩ : ByteArray) = putS (n : Int) 1 := (putS_ok (oneR_ok (by omega) (by omega))).symm

set_option maxHeartbeats 1000000 in
theorem refRingPut_any (g n : Int) (b : ByteArray) (w : World) (hs : b.size ≤ maxLen) :
    Calls Try.prog 10 #[.int .i64 g, .int .i64 n, .string b] w fun e w' => e = .returned (.tuple #[.string (recS g n b), .int .i64 (recE g n b)]) ∧ Below w.heap.size w w' := by
  by_cases h : rightR g n = true
  · have hr := (rightR_iff _ _).1 h
    by_cases h4 : b.size ≤ 480
    · have h0 := recE_zero h h4
      obtain ⟨n, rfl⟩ : ∃ m : Nat, n = m := ⟨n.toNat, by omega⟩
      have hcv := fun W => conv_row W (putL n 1) 1 (putL_length _ _) 1
      rw [putOne n (by omega), putOneS n (by omega)] at hcv
      have c5 : ∀ W, Calls Try.prog 29 #[.agg #[.int .i64 5, .int .i64 g, .string (putS n 1 ++ b)]] W fun e w' => e = .returned (.string (recS g n b)) ∧ Below W.heap.size W w' := by
        intro W
        have := refPagePut_any 5 g (bodyR n b) W (bodyR_page h0)
        rw [show recS g n b = pageS 5 g (bodyR n b) by rw [recS, if_pos h0]]
        rwa [show putS (n : Int) 1 ++ b = bodyR n b by rw [bodyR, cat_two]]
      have z1 := putS_size (oneR_ok (n := n) (by omega) (by omega))
      have z2 : (putS (n : Int) 1).size = 1 := by omega
      rw [h0]
      have g1 : 1 ≤ g := hr.1.1
      have g2 : g ≤ 1099511627776 := hr.1.2
      have g3 : n ≤ 7 := by omega
      generalize recS g n b = q at *
      generalize putS (n : Int) 1 = P at *
      clear h h0 hr z1
      go_enter Try.func10, Try.ntmps10
      go_wp2_with (first
        | (go_at_call 29; refine (c5 _).mono ?_; rintro e w3 ⟨rfl, hb⟩))
      go_ret2
      exact ⟨rfl, below_box hb⟩
    · have h0 : recE g n b = 2 := by rw [recE, if_pos h, if_neg h4]
      rw [recS, h0, if_neg (by decide)]
      have hm : b.size ≤ 9223372036854775807 := hs
      have g1 : 1 ≤ g := hr.1.1
      have g2 : g ≤ 1099511627776 := hr.1.2
      have g3 : 0 ≤ n := hr.2.1
      have g4 : n ≤ 7 := hr.2.2
      clear h h0 hr
      go_enter Try.func10, Try.ntmps10
      go_wp2
      go_ret2
      exact ⟨rfl, Below.refl _ _⟩
  · have h0 : recE g n b = 1 := by rw [recE, if_neg h]
    rw [recS, h0, if_neg (by decide)]
    have h' : ¬ ((1 ≤ g ∧ g ≤ 1099511627776) ∧ 0 ≤ n ∧ n ≤ 7) := fun hh => h ((rightR_iff _ _).2 hh)
    clear h h0
    by_cases h1 : 1 ≤ g
    · by_cases h2 : g ≤ 1099511627776
      · by_cases h3 : 0 ≤ n
        · have h4 : ¬ n ≤ 7 := fun hh => h' ⟨⟨h1, h2⟩, h3, hh⟩
          clear h'
          go_enter Try.func10, Try.ntmps10
          go_wp2
          go_ret2
          exact ⟨rfl, Below.refl _ _⟩
        · clear h'
          go_enter Try.func10, Try.ntmps10
          go_wp2
          go_ret2
          exact ⟨rfl, Below.refl _ _⟩
      · clear h'
        go_enter Try.func10, Try.ntmps10
        go_wp2
        go_ret2
        exact ⟨rfl, Below.refl _ _⟩
    · clear h'
      go_enter Try.func10, Try.ntmps10
      go_wp2
      go_ret2
      exact ⟨rfl, Below.refl _ _⟩

theorem byteAt (B : ByteArray) (k : Nat) (hk : k < B.size) : ∃ x : Int, 0 ≤ x ∧ x ≤ 255 ∧ ((B[k].toNat : Int) = x) ∧ ∀ W : World, (Instr.index 9 (.string B) (.int .i64 k)).run Try.prog W = .ok (.int .u8 x) W := by
  have hb := B[k].toNat_lt
  refine ⟨(B[k].toNat : Int), by omega, by omega, rfl, fun W => ?_⟩
  go_simp

set_option maxHeartbeats 1000000 in
theorem refRingGet_any (s : ByteArray) (g : Int) (w : World) (hs : s.size ≤ maxLen) :
    Calls Try.prog 12 #[.string s, .int .i64 g] w fun e w' => e = .returned (.tuple #[.int .i64 (rgN s g), .string (rgB s g), .int .i64 (rgE s g)]) ∧ Below w.heap.size w w' := by
  have c1 := fun W => refPageGet_any s W hs
  have hl : readE s = 0 → (readB s).size ≤ 4000 := fun h => by
    have := (rightP_iff _ _ _).1 (page_once h).1
    omega
  have hE' : rgE s g = if readE s = 0 then (if readK s = 5 then (if readG s = g then (if 1 ≤ (readB s).size then (if (readB s).size ≤ 481 then (if getV (readB s) 0 1 ≤ 7 then 0 else 4) else 4) else 4) else 4) else 40) else readE s := rfl
  have zN : rgN s g = if rgE s g = 0 then getV (readB s) 0 1 else 0 := rfl
  have zB : rgB s g = if rgE s g = 0 then (readB s).extract 1 (readB s).size else ⟨#[]⟩ := rfl
  rw [zN, zB]
  generalize rgE s g = X at *
  clear zN zB
  generalize readK s = K at *
  generalize readG s = G at *
  generalize readB s = B at *
  generalize readE s = E at *
  have bad : ∀ (v : Value) (y : Int), v = .tuple #[.int .i64 0, .string ⟨#[]⟩, .int .i64 y] → X = y ∧ ¬ y = 0 → v = .tuple #[.int .i64 (if X = 0 then getV B 0 1 else 0), .string (if X = 0 then B.extract 1 B.size else ⟨#[]⟩), .int .i64 X] := by
    rintro v y rfl ⟨rfl, hy⟩
    rw [if_neg hy, if_neg hy]
  by_cases h0 : E = 0
  · subst h0
    rw [if_pos rfl] at hE'
    replace hl := hl rfl
    by_cases h1 : K = 5
    · subst h1
      rw [if_pos rfl] at hE'
      by_cases h2 : G = g
      · rw [if_pos h2] at hE'
        subst h2
        by_cases h3 : 1 ≤ B.size
        · rw [if_pos h3] at hE'
          by_cases h4 : B.size ≤ 481
          · rw [if_pos h4] at hE'
            obtain ⟨x, x0, x1, xe, hi⟩ := byteAt B 0 (by omega)
            have eV : getV B 0 1 = x := by rw [getV_succ B 0 0 (by omega), ← xe]; simp [getV]
            rw [eV] at hE' bad ⊢
            by_cases h5 : x ≤ 7
            · rw [if_pos h5] at hE'
              subst hE'
              rw [if_pos rfl, if_pos rfl]
              have ww : IntKind.i64.wrap x = x := i64_in _ (by omega) (by omega)
              subst xe
              clear bad eV hi
              go_enter Try.func12, Try.ntmps12
              go_wp2_with (first
      | (go_at_call 32; refine (c1 _).mono ?_; rintro e w1 ⟨rfl, hb⟩; have hB := hb.alloc hb.size (.cells #[.int .i64 5, .int .i64 G, .string B] 57); have P := box3_new w1 (.int .i64 5) (.int .i64 G) (.string B) 57; obtain ⟨⟨p0, p1, p2⟩, -⟩ := id P; clear hb)
                )
              go_region
              go_wp2
              go_ret3
              exact ⟨rfl, hB.drew⟩
            · rw [if_neg h5] at hE'
              have hX : X = 4 ∧ ¬ (4 : Int) = 0 := ⟨hE', by decide⟩
              rw [← bad _ _ rfl hX]
              clear bad hX hE'
              go_enter Try.func12, Try.ntmps12
              go_wp2_with (first
                    | (go_at_call 32; refine (c1 _).mono ?_; rintro e w1 ⟨rfl, hb⟩; have hB := hb.alloc hb.size (.cells #[.int .i64 5, .int .i64 G, .string B] 57); have P := box3_new w1 (.int .i64 5) (.int .i64 G) (.string B) 57; obtain ⟨⟨p0, p1, p2⟩, -⟩ := id P; clear hb)
                )
              go_ret3
              exact ⟨rfl, hB⟩
          · rw [if_neg h4] at hE'
            have hX : X = 4 ∧ ¬ (4 : Int) = 0 := ⟨hE', by decide⟩
            rw [← bad _ _ rfl hX]
            clear bad hX hE'
            go_enter Try.func12, Try.ntmps12
            go_wp2_with (first
                  | (go_at_call 32; refine (c1 _).mono ?_; rintro e w1 ⟨rfl, hb⟩; have hB := hb.alloc hb.size (.cells #[.int .i64 5, .int .i64 G, .string B] 57); have P := box3_new w1 (.int .i64 5) (.int .i64 G) (.string B) 57; obtain ⟨⟨p0, p1, p2⟩, -⟩ := id P; clear hb)
              )
            go_ret3
            exact ⟨rfl, hB⟩
        · rw [if_neg h3] at hE'
          have hX : X = 4 ∧ ¬ (4 : Int) = 0 := ⟨hE', by decide⟩
          rw [← bad _ _ rfl hX]
          clear bad hX hE'
          go_enter Try.func12, Try.ntmps12
          go_wp2_with (first
                | (go_at_call 32; refine (c1 _).mono ?_; rintro e w1 ⟨rfl, hb⟩; have hB := hb.alloc hb.size (.cells #[.int .i64 5, .int .i64 G, .string B] 57); have P := box3_new w1 (.int .i64 5) (.int .i64 G) (.string B) 57; obtain ⟨⟨p0, p1, p2⟩, -⟩ := id P; clear hb)
            )
          go_ret3
          exact ⟨rfl, hB⟩
      · rw [if_neg h2] at hE'
        have h2' : (G == g) = false := by simpa using h2
        have hX : X = 4 ∧ ¬ (4 : Int) = 0 := ⟨hE', by decide⟩
        rw [← bad _ _ rfl hX]
        clear bad hX hE'
        go_enter Try.func12, Try.ntmps12
        go_wp2_with (first
              | (go_at_call 32; refine (c1 _).mono ?_; rintro e w1 ⟨rfl, hb⟩; have hB := hb.alloc hb.size (.cells #[.int .i64 5, .int .i64 G, .string B] 57); have P := box3_new w1 (.int .i64 5) (.int .i64 G) (.string B) 57; obtain ⟨⟨p0, p1, p2⟩, -⟩ := id P; clear hb)
          )
        go_ret3
        exact ⟨rfl, hB⟩
    · rw [if_neg h1] at hE'
      have h1' : (K == 5) = false := by simpa using h1
      have hX : X = 40 ∧ ¬ (40 : Int) = 0 := ⟨hE', by decide⟩
      rw [← bad _ _ rfl hX]
      clear bad hX hE'
      go_enter Try.func12, Try.ntmps12
      go_wp2_with (first
            | (go_at_call 32; refine (c1 _).mono ?_; rintro e w1 ⟨rfl, hb⟩; have hB := hb.alloc hb.size (.cells #[.int .i64 K, .int .i64 G, .string B] 57); have P := box3_new w1 (.int .i64 K) (.int .i64 G) (.string B) 57; obtain ⟨⟨p0, p1, p2⟩, -⟩ := id P; clear hb)
        )
      go_ret3
      exact ⟨rfl, hB⟩
  · rw [if_neg h0] at hE'
    have h0' : (E == 0) = false := by simpa using h0
    have hX : X = E ∧ ¬ E = 0 := ⟨hE', h0⟩
    rw [← bad _ _ rfl hX]
    clear bad hX hE'
    go_enter Try.func12, Try.ntmps12
    go_wp2_with (first
          | (go_at_call 32; refine (c1 _).mono ?_; rintro e w1 ⟨rfl, hb⟩; have hB := hb.alloc hb.size (.cells #[.int .i64 K, .int .i64 G, .string B] 57); have P := box3_new w1 (.int .i64 K) (.int .i64 G) (.string B) 57; obtain ⟨⟨p0, p1, p2⟩, -⟩ := id P; clear hb)
      )
    go_ret3
    exact ⟨rfl, hB⟩

end Go.Proofs.Ytcdcnonkoffbhaa

/-
  Package task: Get.
-/
import Derived.Test.YtnipikdlfmcheaaTaskRead
namespace Go.Proofs.Ytnipikdlfmcheaa
open Go.RowKit Plain
set_option linter.unusedVariables false

theorem cutS_leT (s : ByteArray) (p : Int) : (cutS s p).size ≤ s.size := by
  unfold cutS
  split
  · rw [ByteArray.size_extract]; omega
  · exact Nat.zero_le _

theorem rd_bad {s : ByteArray} (h : ¬ rdE s = 0) : gotE s = rdE s ∧ gotT s = zeroT := by
  have h1 : gotE s = rdE s := by
    unfold rdE gotE at *
    by_cases h4 : e4T s = 0
    · rw [if_pos h4] at h ⊢
      rw [if_pos h4, if_neg h]
    · rw [if_neg h4, if_neg h4]
  exact ⟨h1, by rw [gotT, if_neg (by rw [h1]; exact h)]⟩

theorem rd_good {s : ByteArray} (h : rdE s = 0) : gotE s = (if rdP s = s.size ∧ standT (rdT s) = true then 0 else 4) ∧ gotT s = (if rdP s = s.size ∧ standT (rdT s) = true then rdT s else zeroT) ∧ (rdT s).r.size ≤ s.size := by
  have h4 : e4T s = 0 := by
    by_cases h4 : e4T s = 0
    · exact h4
    · unfold rdE at h; rw [if_neg h4] at h; exact h
  have hc : cutE s (p4T s) = 0 := by unfold rdE at h; rw [if_pos h4] at h; exact h
  have e1 : rdP s = cutT s (p4T s) := if_pos h4
  have e2 : rdT s = rawT s := if_pos h4
  have e3 : gotE s = (if rdP s = s.size ∧ standT (rdT s) = true then 0 else 4) := by
    unfold gotE
    rw [if_pos h4, if_pos hc, e1, e2]
  refine ⟨e3, ?_, by rw [e2]; exact cutS_leT _ _⟩
  rw [gotT, e3, e2]
  by_cases hh : rdP s = s.size ∧ standT (rawT s) = true
  · rw [if_pos hh, if_pos rfl, if_pos hh]
  · rw [if_neg hh, if_neg (by decide), if_neg hh]


set_option maxRecDepth 20000 in
set_option maxHeartbeats 4000000 in
theorem getT_any (s : ByteArray) (w : World) (hz : s.size ≤ maxLen) :
    Calls Try.prog 27 #[.string s] w fun e w' => e = .returned (.tuple #[vT (gotT s), .int .i64 (gotE s)]) ∧ Below w.heap.size w w' := by
  have hzi : s.size ≤ 9223372036854775807 := hz
  have cR := fun W => readT_any s W hz
  by_cases h0 : rdE s = 0
  · obtain ⟨e1, e2, e3⟩ := rd_good h0
    rw [e1, e2]
    obtain ⟨I, T, D, K, X, hq⟩ : ∃ I T D K X, rdT s = ⟨I, T, D, K, X⟩ := ⟨_, _, _, _, _, rfl⟩
    rw [hq] at e3 cR ⊢
    rw [h0] at cR
    replace cR : ∀ W, Calls Try.prog 42 #[.string s] W fun e w' => e = .returned (.tuple #[.agg #[.int .i64 I, .int .i64 T, .int .i64 D, .int .i64 K, .string X], .int .i64 (rdP s), .int .i64 0]) ∧ Below W.heap.size W w' := cR
    have cM := fun W => mayStand_any I T D K X W (Nat.le_trans e3 hz)
    clear e1 e2 h0 hq
    by_cases hP : rdP s = s.size
    · have hP' : (rdP s != (s.size : Int)) = false := by simpa using hP
      generalize rdP s = P at *
      cases hS : standT ⟨I, T, D, K, X⟩ with
      | true =>
        rw [if_pos ⟨hP, rfl⟩, if_pos ⟨hP, rfl⟩]
        rw [hS] at cM
        clear hP hS
        go_enter Try.func27, Try.ntmps27
        go_wp2_with (first
          | (go_at_call 42; refine (cR _).mono ?_; rintro e w1 ⟨rfl, hb⟩; obtain ⟨bo', hB'⟩ := boxes1 w [.int .i64 0, .int .i64 0, .int .i64 0, .int .i64 0, .string ⟨#[]⟩] _ hb; have bo := bo'.alloc (.cells #[.int .i64 I, .int .i64 T, .int .i64 D, .int .i64 K, .string X] 26); have hB := hB'.alloc hB'.size (.cells #[.int .i64 I, .int .i64 T, .int .i64 D, .int .i64 K, .string X] 26); have g0 := bo.2 0 (by simp); have g1 := bo.2 1 (by simp); have g2 := bo.2 2 (by simp); have g3 := bo.2 3 (by simp); have g4 := bo.2 4 (by simp); have o0 := bo.1 0 _ rfl; have o1 := bo.1 1 _ rfl; have o2 := bo.1 2 _ rfl; have o3 := bo.1 3 _ rfl; have o4 := bo.1 4 _ rfl; clear hb bo' hB')
          | (go_at_call 31; refine (cM _).mono ?_; rintro e w2 ⟨rfl, hb⟩; clear g0 g1 g2 g3 g4 o0 o1 o2 o3 o4; replace bo := bo.below hb; have bs := (boxL_new w1 [.int .i64 I, .int .i64 T, .int .i64 D, .int .i64 K, .string X] 26 rfl).below hb; replace hB := Below.tr hB hb; have g0 := bo.2 0 (by simp); have g1 := bo.2 1 (by simp); have g2 := bo.2 2 (by simp); have g3 := bo.2 3 (by simp); have g4 := bo.2 4 (by simp); have o0 := bo.1 0 _ rfl; have o1 := bo.1 1 _ rfl; have o2 := bo.1 2 _ rfl; have o3 := bo.1 3 _ rfl; have o4 := bo.1 4 _ rfl; have s0 := bs.1 0 _ rfl; have s1 := bs.1 1 _ rfl; have s2 := bs.1 2 _ rfl; have s3 := bs.1 3 _ rfl; have s4 := bs.1 4 _ rfl; clear hb)
          )
        have zz := boxL_set5 bo (.int .i64 I) (.int .i64 T) (.int .i64 D) (.int .i64 K) (.string X)
        have z0 := zz.1 0 _ rfl
        have z1 := zz.1 1 _ rfl
        have z2 := zz.1 2 _ rfl
        have z3 := zz.1 3 _ rfl
        have z4 := zz.1 4 _ rfl
        exact bodyPost_ret (v := .tuple #[.agg #[.int .i64 I, .int .i64 T, .int .i64 D, .int .i64 K, .string X], .int .i64 0]) (by simp [results, Try.results27, go_sem, z0, z1, z2, z3, z4]) rfl ⟨rfl, below_setT hB (Nat.le_refl _) _ _ _ _ _⟩
      | false =>
        rw [if_neg (fun hh => by cases hh.2), if_neg (fun hh => by cases hh.2)]
        rw [hS] at cM
        clear hP hS
        go_enter Try.func27, Try.ntmps27
        go_wp2_with (first
          | (go_at_call 42; refine (cR _).mono ?_; rintro e w1 ⟨rfl, hb⟩; obtain ⟨bo', hB'⟩ := boxes1 w [.int .i64 0, .int .i64 0, .int .i64 0, .int .i64 0, .string ⟨#[]⟩] _ hb; have bo := bo'.alloc (.cells #[.int .i64 I, .int .i64 T, .int .i64 D, .int .i64 K, .string X] 26); have hB := hB'.alloc hB'.size (.cells #[.int .i64 I, .int .i64 T, .int .i64 D, .int .i64 K, .string X] 26); have g0 := bo.2 0 (by simp); have g1 := bo.2 1 (by simp); have g2 := bo.2 2 (by simp); have g3 := bo.2 3 (by simp); have g4 := bo.2 4 (by simp); have o0 := bo.1 0 _ rfl; have o1 := bo.1 1 _ rfl; have o2 := bo.1 2 _ rfl; have o3 := bo.1 3 _ rfl; have o4 := bo.1 4 _ rfl; clear hb bo' hB')
          | (go_at_call 31; refine (cM _).mono ?_; rintro e w2 ⟨rfl, hb⟩; clear g0 g1 g2 g3 g4 o0 o1 o2 o3 o4; replace bo := bo.below hb; have bs := (boxL_new w1 [.int .i64 I, .int .i64 T, .int .i64 D, .int .i64 K, .string X] 26 rfl).below hb; replace hB := Below.tr hB hb; have g0 := bo.2 0 (by simp); have g1 := bo.2 1 (by simp); have g2 := bo.2 2 (by simp); have g3 := bo.2 3 (by simp); have g4 := bo.2 4 (by simp); have o0 := bo.1 0 _ rfl; have o1 := bo.1 1 _ rfl; have o2 := bo.1 2 _ rfl; have o3 := bo.1 3 _ rfl; have o4 := bo.1 4 _ rfl; have s0 := bs.1 0 _ rfl; have s1 := bs.1 1 _ rfl; have s2 := bs.1 2 _ rfl; have s3 := bs.1 3 _ rfl; have s4 := bs.1 4 _ rfl; clear hb)
          )
        have zz := boxL_set5 bo (.int .i64 0) (.int .i64 0) (.int .i64 0) (.int .i64 0) (.string ⟨#[]⟩)
        have z0 := zz.1 0 _ rfl
        have z1 := zz.1 1 _ rfl
        have z2 := zz.1 2 _ rfl
        have z3 := zz.1 3 _ rfl
        have z4 := zz.1 4 _ rfl
        exact bodyPost_ret (v := .tuple #[.agg #[.int .i64 0, .int .i64 0, .int .i64 0, .int .i64 0, .string ⟨#[]⟩], .int .i64 4]) (by simp [results, Try.results27, go_sem, z0, z1, z2, z3, z4]) rfl ⟨rfl, below_setT hB (Nat.le_refl _) _ _ _ _ _⟩
    · have hP' : (rdP s != (s.size : Int)) = true := by simpa using hP
      rw [if_neg (fun hh => hP hh.1), if_neg (fun hh => hP hh.1)]
      generalize rdP s = P at *
      clear hP
      go_enter Try.func27, Try.ntmps27
      go_wp2_with (first
        | (go_at_call 42; refine (cR _).mono ?_; rintro e w1 ⟨rfl, hb⟩; obtain ⟨bo', hB'⟩ := boxes1 w [.int .i64 0, .int .i64 0, .int .i64 0, .int .i64 0, .string ⟨#[]⟩] _ hb; have bo := bo'.alloc (.cells #[.int .i64 I, .int .i64 T, .int .i64 D, .int .i64 K, .string X] 26); have hB := hB'.alloc hB'.size (.cells #[.int .i64 I, .int .i64 T, .int .i64 D, .int .i64 K, .string X] 26); have g0 := bo.2 0 (by simp); have g1 := bo.2 1 (by simp); have g2 := bo.2 2 (by simp); have g3 := bo.2 3 (by simp); have g4 := bo.2 4 (by simp); have o0 := bo.1 0 _ rfl; have o1 := bo.1 1 _ rfl; have o2 := bo.1 2 _ rfl; have o3 := bo.1 3 _ rfl; have o4 := bo.1 4 _ rfl; clear hb bo' hB')
        )
      have zz := boxL_set5 bo (.int .i64 0) (.int .i64 0) (.int .i64 0) (.int .i64 0) (.string ⟨#[]⟩)
      have z0 := zz.1 0 _ rfl
      have z1 := zz.1 1 _ rfl
      have z2 := zz.1 2 _ rfl
      have z3 := zz.1 3 _ rfl
      have z4 := zz.1 4 _ rfl
      exact bodyPost_ret (v := .tuple #[.agg #[.int .i64 0, .int .i64 0, .int .i64 0, .int .i64 0, .string ⟨#[]⟩], .int .i64 4]) (by simp [results, Try.results27, go_sem, z0, z1, z2, z3, z4]) rfl ⟨rfl, below_setT hB (Nat.le_refl _) _ _ _ _ _⟩
  · obtain ⟨e1, e2⟩ := rd_bad h0
    rw [e1, e2]
    have h0' : (rdE s != 0) = true := by simpa using h0
    obtain ⟨I, T, D, K, X, hq⟩ : ∃ I T D K X, rdT s = ⟨I, T, D, K, X⟩ := ⟨_, _, _, _, _, rfl⟩
    rw [hq] at cR
    replace cR : ∀ W, Calls Try.prog 42 #[.string s] W fun e w' => e = .returned (.tuple #[.agg #[.int .i64 I, .int .i64 T, .int .i64 D, .int .i64 K, .string X], .int .i64 (rdP s), .int .i64 (rdE s)]) ∧ Below W.heap.size W w' := cR
    generalize rdP s = P at *
    generalize rdE s = E at *
    clear e1 e2 h0 hq
    go_enter Try.func27, Try.ntmps27
    go_wp2_with (first
      | (go_at_call 42; refine (cR _).mono ?_; rintro e w1 ⟨rfl, hb⟩; obtain ⟨bo', hB'⟩ := boxes1 w [.int .i64 0, .int .i64 0, .int .i64 0, .int .i64 0, .string ⟨#[]⟩] _ hb; have bo := bo'.alloc (.cells #[.int .i64 I, .int .i64 T, .int .i64 D, .int .i64 K, .string X] 26); have hB := hB'.alloc hB'.size (.cells #[.int .i64 I, .int .i64 T, .int .i64 D, .int .i64 K, .string X] 26); have g0 := bo.2 0 (by simp); have g1 := bo.2 1 (by simp); have g2 := bo.2 2 (by simp); have g3 := bo.2 3 (by simp); have g4 := bo.2 4 (by simp); have o0 := bo.1 0 _ rfl; have o1 := bo.1 1 _ rfl; have o2 := bo.1 2 _ rfl; have o3 := bo.1 3 _ rfl; have o4 := bo.1 4 _ rfl; clear hb bo' hB')
      )
    have zz := boxL_set5 bo (.int .i64 0) (.int .i64 0) (.int .i64 0) (.int .i64 0) (.string ⟨#[]⟩)
    have z0 := zz.1 0 _ rfl
    have z1 := zz.1 1 _ rfl
    have z2 := zz.1 2 _ rfl
    have z3 := zz.1 3 _ rfl
    have z4 := zz.1 4 _ rfl
    exact bodyPost_ret (v := .tuple #[.agg #[.int .i64 0, .int .i64 0, .int .i64 0, .int .i64 0, .string ⟨#[]⟩], .int .i64 E]) (by simp [results, Try.results27, go_sem, z0, z1, z2, z3, z4]) rfl ⟨rfl, below_setT hB (Nat.le_refl _) _ _ _ _ _⟩

end Go.Proofs.Ytnipikdlfmcheaa

/-
  Package task: leasing; what happens when a time is over.
-/
import Derived.Test.YtnipikdlfmcheaaTaskDo
namespace Go.Proofs.Ytnipikdlfmcheaa
open Go.RowKit Plain
set_option linter.unusedVariables false


theorem untD_any (now x : Int) (W : World) (z : Nat) (hz : z = W.heap.size) :
    Calls Try.prog 35 #[.int .i64 now, .slice (some ⟨z, 0, none⟩) 1 1] (W.alloc (.cells #[.int .i64 x] 3)).drew fun e w' => e = .returned (.int .i64 (untF now [x])) ∧ (W.alloc (.cells #[.int .i64 x] 3)).drew = w' :=
  untZ_any now x W.drew z hz

set_option maxRecDepth 20000 in
set_option maxHeartbeats 2000000 in
theorem leaseT_any (ta : Option Addr) (tl tc : Nat) (tr wt le : Int) (i t d k : Int) (r : ByteArray) (now x : Int) (w : World) :
    Calls Try.prog 18 #[.agg #[.slice ta tl tc, .int .i64 tr, .int .i64 wt, .int .i64 le], .agg #[.int .i64 i, .int .i64 t, .int .i64 d, .int .i64 k, .string r], .int .i64 now, .int .i64 x] w fun e w' => e = .returned (.tuple #[vT (leaseT le ⟨i, t, d, k, r⟩ now x), .int .i64 (leaseE ⟨i, t, d, k, r⟩ now x)]) ∧ Below w.heap.size w w' := by
  have c1 := isTokenT_any x
  by_cases hx : 1 ≤ x ∧ x ≤ 1099511627776
  · rw [show tokB x = true from decide_eq_true hx] at c1
    by_cases h : i = 1
    · subst h
      have c2 := isOverT_any 1 t d k r now
      have cU := fun W z hz => untD_any now le W z hz
      by_cases ho : d ≤ untF now []
      · have e0 : leaseE ⟨1, t, d, k, r⟩ now x = 0 := by unfold leaseE; rw [if_pos hx, if_pos ⟨rfl, ho⟩]
        rw [show leaseT le ⟨1, t, d, k, r⟩ now x = ⟨2, wrap64 (t + 1), untF now [le], x, r⟩ from if_pos e0, e0]
        rw [decide_eq_true ho] at c2
        generalize untF now [le] = u at *
        clear ho e0
        go_enter Try.func18, Try.ntmps18
        go_wp2_with (first
          | (go_at_call 34; refine (c1 _).mono ?_; rintro e w' ⟨rfl, rfl⟩)
          | (go_at_call 32; refine (c2 _).mono ?_; rintro e w' ⟨rfl, rfl⟩)
          | (go_at_call 35; refine (cU _ _ (by simp)).mono ?_; rintro e w' ⟨rfl, rfl⟩))
        exact bodyPost_ret (v := .tuple #[.agg #[.int .i64 2, .int .i64 (wrap64 (t + 1)), .int .i64 u, .int .i64 x, .string r], .int .i64 0]) (by simp [results, Try.results18, go_sem]) rfl ⟨rfl, ((bel4 _ _ _ _ _).alloc (by simp; omega) _).drew⟩
      · have e0 : leaseE ⟨1, t, d, k, r⟩ now x = 192 := by unfold leaseE; rw [if_pos hx, if_neg (fun hh => ho hh.2)]
        rw [show leaseT le ⟨1, t, d, k, r⟩ now x = zeroT from if_neg (by rw [e0]; decide), e0]
        rw [decide_eq_false ho] at c2
        clear ho e0
        go_enter Try.func18, Try.ntmps18
        go_wp2_with (first
          | (go_at_call 34; refine (c1 _).mono ?_; rintro e w' ⟨rfl, rfl⟩)
          | (go_at_call 32; refine (c2 _).mono ?_; rintro e w' ⟨rfl, rfl⟩)
          | (go_at_call 35; refine (cU _ _ (by simp)).mono ?_; rintro e w' ⟨rfl, rfl⟩))
        exact bodyPost_ret (v := .tuple #[.agg #[.int .i64 0, .int .i64 0, .int .i64 0, .int .i64 0, .string ⟨#[]⟩], .int .i64 192]) (by simp [results, Try.results18, go_sem]) rfl ⟨rfl, (bel4 _ _ _ _ _).drew⟩
    · have e0 : leaseE ⟨i, t, d, k, r⟩ now x = 192 := by unfold leaseE; rw [if_pos hx, if_neg (fun hh => h hh.1)]
      rw [show leaseT le ⟨i, t, d, k, r⟩ now x = zeroT from if_neg (by rw [e0]; decide), e0]
      have h' : (i != 1) = true := by simpa using h
      clear e0
      go_enter Try.func18, Try.ntmps18
      go_wp2_with (first
        | (go_at_call 34; refine (c1 _).mono ?_; rintro e w' ⟨rfl, rfl⟩)
        | (go_at_call 32; refine (c2 _).mono ?_; rintro e w' ⟨rfl, rfl⟩)
        | (go_at_call 35; refine (cU _ _ (by simp)).mono ?_; rintro e w' ⟨rfl, rfl⟩))
      exact bodyPost_ret (v := .tuple #[.agg #[.int .i64 0, .int .i64 0, .int .i64 0, .int .i64 0, .string ⟨#[]⟩], .int .i64 192]) (by simp [results, Try.results18, go_sem]) rfl ⟨rfl, bel3 _ _ _ _⟩
  · have e0 : leaseE ⟨i, t, d, k, r⟩ now x = 1 := if_neg hx
    rw [show tokB x = false from decide_eq_false hx] at c1
    rw [show leaseT le ⟨i, t, d, k, r⟩ now x = zeroT from if_neg (by rw [e0]; decide), e0]
    clear e0
    go_enter Try.func18, Try.ntmps18
    go_wp2_with (first
      | (go_at_call 34; refine (c1 _).mono ?_; rintro e w' ⟨rfl, rfl⟩)
      | (go_at_call 32; refine (c2 _).mono ?_; rintro e w' ⟨rfl, rfl⟩)
      | (go_at_call 35; refine (cU _ _ (by simp)).mono ?_; rintro e w' ⟨rfl, rfl⟩))
    exact bodyPost_ret (v := .tuple #[.agg #[.int .i64 0, .int .i64 0, .int .i64 0, .int .i64 0, .string ⟨#[]⟩], .int .i64 1]) (by simp [results, Try.results18, go_sem]) rfl ⟨rfl, bel3 _ _ _ _⟩

end Go.Proofs.Ytnipikdlfmcheaa

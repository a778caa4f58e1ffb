/-
  Package task: what happens when a time is over.
-/
import Derived.Test.YtnipikdlfmcheaaTaskDo
namespace Go.Proofs.Ytnipikdlfmcheaa
open Go.RowKit Plain
set_option linter.unusedVariables false

theorem below_more {n : Nat} {w a : World} (hb : Below n w a) (o : Obj) (h : n ≤ a.heap.size) : Below n w (a.alloc o) := hb.alloc h o

set_option maxRecDepth 20000 in
set_option maxHeartbeats 2000000 in
theorem expireT_any (ta : Option Addr) (tl tc : Nat) (tr wt le : Int) (i t d k : Int) (r : ByteArray) (now : Int) (w : World) (ht : t ≤ 9223372036854775807) :
    Calls Try.prog 14 #[.agg #[.slice ta tl tc, .int .i64 tr, .int .i64 wt, .int .i64 le], .agg #[.int .i64 i, .int .i64 t, .int .i64 d, .int .i64 k, .string r], .int .i64 now] w fun e w' => e = .returned (vT (expireT tr wt ⟨i, t, d, k, r⟩ now)) ∧ Below w.heap.size w w' := by
  by_cases h : i = 2
  · subst h
    have c2 := isOverT_any 2 t d k r now
    by_cases ho : d ≤ untF now []
    · rw [show expireT tr wt ⟨2, t, d, k, r⟩ now = failT tr wt ⟨2, t, d, k, r⟩ d from if_pos ⟨rfl, ho⟩]
      rw [decide_eq_true ho] at c2
      clear ho
      by_cases hl : t < tr
      · rw [show failT tr wt ⟨2, t, d, k, r⟩ d = ⟨1, t, untF d [afterF wt t], 0, r⟩ by unfold failT; rw [if_pos rfl, if_pos hl]]
        have c3 := fun W => failLow_any ta tl tc tr wt le t d k r d W ht hl
        generalize untF d [afterF wt t] = u at *
        generalize afterF wt t = v at *
        go_enter Try.func14, Try.ntmps14
        go_wp2_with (first
          | (go_at_call 32; refine (c2 _).mono ?_; rintro e w' ⟨rfl, rfl⟩)
          | (go_at_call 24; refine (c3 _).mono ?_; rintro e w' ⟨rfl, rfl⟩))
        exact bodyPost_ret (v := .agg #[.int .i64 1, .int .i64 t, .int .i64 u, .int .i64 0, .string r]) (by simp [results, Try.results14, go_sem]) rfl ⟨rfl, (((((bel4 _ _ _ _ _).alloc (by simp; omega) _).alloc (by simp; omega) _).alloc (by simp; omega) _).alloc (by simp; omega) _).drew⟩
      · rw [show failT tr wt ⟨2, t, d, k, r⟩ d = ⟨4, t, 0, 0, r⟩ by unfold failT; rw [if_pos rfl, if_neg hl]]
        have c3 := fun W => failHigh_any ta tl tc tr wt le t d k r d W hl
        go_enter Try.func14, Try.ntmps14
        go_wp2_with (first
          | (go_at_call 32; refine (c2 _).mono ?_; rintro e w' ⟨rfl, rfl⟩)
          | (go_at_call 24; refine (c3 _).mono ?_; rintro e w' ⟨rfl, rfl⟩))
        exact bodyPost_ret (v := .agg #[.int .i64 4, .int .i64 t, .int .i64 0, .int .i64 0, .string r]) (by simp [results, Try.results14, go_sem]) rfl ⟨rfl, ((((bel4 _ _ _ _ _).alloc (by simp; omega) _).alloc (by simp; omega) _).alloc (by simp; omega) _).drew⟩
    · rw [show expireT tr wt ⟨2, t, d, k, r⟩ now = ⟨2, t, d, k, r⟩ from if_neg (fun hh => ho hh.2)]
      rw [decide_eq_false ho] at c2
      clear ho
      go_enter Try.func14, Try.ntmps14
      go_wp2_with (go_at_call 32; refine (c2 _).mono ?_; rintro e w' ⟨rfl, rfl⟩)
      exact bodyPost_ret (v := .agg #[.int .i64 2, .int .i64 t, .int .i64 d, .int .i64 k, .string r]) (by simp [results, Try.results14, go_sem]) rfl ⟨rfl, (bel4 _ _ _ _ _).drew⟩
  · rw [show expireT tr wt ⟨i, t, d, k, r⟩ now = ⟨i, t, d, k, r⟩ from if_neg (fun hh => h hh.1)]
    have h' : (i != 2) = true := by simpa using h
    go_enter Try.func14, Try.ntmps14
    go_wp2
    exact bodyPost_ret (v := .agg #[.int .i64 i, .int .i64 t, .int .i64 d, .int .i64 k, .string r]) (by simp [results, Try.results14, go_sem]) rfl ⟨rfl, bel3 _ _ _ _⟩

end Go.Proofs.Ytnipikdlfmcheaa

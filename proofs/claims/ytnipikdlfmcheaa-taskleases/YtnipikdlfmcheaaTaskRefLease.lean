/-
  The document's own Lease and Expire.
-/
import Derived.Test.YtnipikdlfmcheaaTaskRefDo
namespace Go.Proofs.Ytnipikdlfmcheaa
open Go.RowKit Plain
set_option linter.unusedVariables false

theorem box_second (w : World) (i t d k : Int) (r : ByteArray) (ta : Option Addr) (tl tc : Nat) (tr wt le : Int) : BoxL (((w.alloc (.cells #[.slice ta tl tc, .int .i64 tr, .int .i64 wt, .int .i64 le] 24)).alloc (.cells #[.int .i64 i, .int .i64 t, .int .i64 d, .int .i64 k, .string r] 26)).alloc (.cells #[.int .i64 0, .int .i64 0, .int .i64 0, .int .i64 0, .string ⟨#[]⟩] 26)) (w.heap.size + 1) [.int .i64 i, .int .i64 t, .int .i64 d, .int .i64 k, .string r] :=
  (boxL_new (w.alloc (.cells #[.slice ta tl tc, .int .i64 tr, .int .i64 wt, .int .i64 le] 24)) [.int .i64 i, .int .i64 t, .int .i64 d, .int .i64 k, .string r] 26 (by simp)).alloc _


set_option maxRecDepth 20000 in
set_option maxHeartbeats 2000000 in
theorem refLeaseT_any (ta : Option Addr) (tl tc : Nat) (tr wt le : Int) (i t d k : Int) (r : ByteArray) (now x : Int) (w : World) (hnow : now ≤ 9223372036854775807) :
    Calls Try.prog 19 #[.agg #[.slice ta tl tc, .int .i64 tr, .int .i64 wt, .int .i64 le], .agg #[.int .i64 i, .int .i64 t, .int .i64 d, .int .i64 k, .string r], .int .i64 now, .int .i64 x] w fun e w' => e = .returned (.tuple #[vT (leaseT le ⟨i, t, d, k, r⟩ now x), .int .i64 (leaseE ⟨i, t, d, k, r⟩ now x)]) ∧ Below w.heap.size w w' := by
  have c2 := fun W => refTime_any now W hnow
  have q0 := (box_second w i t d k r ta tl tc tr wt le).1 0 _ rfl
  have q2 := (box_second w i t d k r ta tl tc tr wt le).1 2 _ rfl
  by_cases hx : 1 ≤ x ∧ x ≤ 1099511627776
  · obtain ⟨hx0, hx1⟩ := id hx
    by_cases h : i = 1
    · subst h
      have cU := fun W z hz => refUntD_any now le W z hz hnow
      by_cases ho : d ≤ untF now []
      · have e0 : leaseE ⟨1, t, d, k, r⟩ now x = 0 := by unfold leaseE; rw [if_pos hx, if_pos ⟨rfl, ho⟩]
        rw [show leaseT le ⟨1, t, d, k, r⟩ now x = ⟨2, wrap64 (t + 1), untF now [le], x, r⟩ from if_pos e0, e0]
        generalize untF now [le] = u at *
        generalize untF now [] = n0 at *
        have ho' : (n0 < d) = False := eq_false (by omega)
        clear ho e0 hx
        go_enter Try.func19, Try.ntmps19
        go_wp2
        go_region_held3 (fun V => V.cell? ⟨w.heap.size + 1, 0, none⟩ = some (.int .i64 1) ∧ V.cell? ⟨w.heap.size + 1, 2, none⟩ = some (.int .i64 d)) (exact ⟨q0, q2⟩) (first
          | (go_at_call 33; refine (c2 _).mono ?_; rintro e w' ⟨rfl, rfl⟩))
        go_wp2_with (first
          | (go_at_call 36; refine (cU _ _ (by simp)).mono ?_; rintro e w' ⟨rfl, rfl⟩))
        exact bodyPost_ret (v := .tuple #[.agg #[.int .i64 2, .int .i64 (wrap64 (t + 1)), .int .i64 u, .int .i64 x, .string r], .int .i64 0]) (by simp [results, Try.results19, go_sem]) rfl ⟨rfl, (bel4 _ _ _ _ _).drew⟩
      · have e0 : leaseE ⟨1, t, d, k, r⟩ now x = 192 := by unfold leaseE; rw [if_pos hx, if_neg (fun hh => ho hh.2)]
        rw [show leaseT le ⟨1, t, d, k, r⟩ now x = zeroT from if_neg (by rw [e0]; decide), e0]
        generalize untF now [] = n0 at *
        have ho' : (n0 < d) = True := eq_true (by omega)
        clear ho e0 hx cU
        go_enter Try.func19, Try.ntmps19
        go_wp2
        go_region_held3 (fun V => V.cell? ⟨w.heap.size + 1, 0, none⟩ = some (.int .i64 1) ∧ V.cell? ⟨w.heap.size + 1, 2, none⟩ = some (.int .i64 d)) (exact ⟨q0, q2⟩) (first
          | (go_at_call 33; refine (c2 _).mono ?_; rintro e w' ⟨rfl, rfl⟩))
        go_wp2
        exact bodyPost_ret (v := .tuple #[.agg #[.int .i64 0, .int .i64 0, .int .i64 0, .int .i64 0, .string ⟨#[]⟩], .int .i64 192]) (by simp [results, Try.results19, go_sem]) rfl ⟨rfl, (bel3 _ _ _ _).drew⟩
    · have e0 : leaseE ⟨i, t, d, k, r⟩ now x = 192 := by unfold leaseE; rw [if_pos hx, if_neg (fun hh => h hh.1)]
      rw [show leaseT le ⟨i, t, d, k, r⟩ now x = zeroT from if_neg (by rw [e0]; decide), e0]
      have h' : (i != 1) = true := by simpa using h
      clear e0 hx
      go_enter Try.func19, Try.ntmps19
      go_wp2
      go_region
      go_wp2
      exact bodyPost_ret (v := .tuple #[.agg #[.int .i64 0, .int .i64 0, .int .i64 0, .int .i64 0, .string ⟨#[]⟩], .int .i64 192]) (by simp [results, Try.results19, go_sem]) rfl ⟨rfl, (bel3 _ _ _ _).drew⟩
  · have e0 : leaseE ⟨i, t, d, k, r⟩ now x = 1 := if_neg hx
    rw [show leaseT le ⟨i, t, d, k, r⟩ now x = zeroT from if_neg (by rw [e0]; decide), e0]
    clear e0
    by_cases hx0 : x < 1
    · clear hx
      go_enter Try.func19, Try.ntmps19
      go_wp2
      exact bodyPost_ret (v := .tuple #[.agg #[.int .i64 0, .int .i64 0, .int .i64 0, .int .i64 0, .string ⟨#[]⟩], .int .i64 1]) (by simp [results, Try.results19, go_sem]) rfl ⟨rfl, bel3 _ _ _ _⟩
    · have hx1 : 1099511627776 < x := by omega
      clear hx
      go_enter Try.func19, Try.ntmps19
      go_wp2
      exact bodyPost_ret (v := .tuple #[.agg #[.int .i64 0, .int .i64 0, .int .i64 0, .int .i64 0, .string ⟨#[]⟩], .int .i64 1]) (by simp [results, Try.results19, go_sem]) rfl ⟨rfl, bel3 _ _ _ _⟩

set_option maxRecDepth 20000 in
set_option maxHeartbeats 2000000 in
theorem refExpireT_any (ta : Option Addr) (tl tc : Nat) (tr wt le : Int) (i t d k : Int) (r : ByteArray) (now : Int) (w : World) (hnow : now ≤ 9223372036854775807) (ht : t ≤ 9223372036854775807) (hd : d ≤ 9223372036854775807) :
    Calls Try.prog 15 #[.agg #[.slice ta tl tc, .int .i64 tr, .int .i64 wt, .int .i64 le], .agg #[.int .i64 i, .int .i64 t, .int .i64 d, .int .i64 k, .string r], .int .i64 now] w fun e w' => e = .returned (vT (expireT tr wt ⟨i, t, d, k, r⟩ now)) ∧ Below w.heap.size w w' := by
  have c2 := fun W => refTime_any now W hnow
  have q0 := (box_second w i t d k r ta tl tc tr wt le).1 0 _ rfl
  have q2 := (box_second w i t d k r ta tl tc tr wt le).1 2 _ rfl
  by_cases h : i = 2
  · subst h
    by_cases ho : d ≤ untF now []
    · rw [show expireT tr wt ⟨2, t, d, k, r⟩ now = failT tr wt ⟨2, t, d, k, r⟩ d from if_pos ⟨rfl, ho⟩]
      generalize untF now [] = n0 at *
      have ho' : (d ≤ n0) = True := eq_true ho
      clear ho
      by_cases hl : t < tr
      · rw [show failT tr wt ⟨2, t, d, k, r⟩ d = ⟨1, t, untF d [afterF wt t], 0, r⟩ by unfold failT; rw [if_pos rfl, if_pos hl]]
        have c3 := fun W => refFailLow_any ta tl tc tr wt le t d k r d W ht hd hl
        generalize untF d [afterF wt t] = u at *
        generalize afterF wt t = v at *
        go_enter Try.func15, Try.ntmps15
        go_wp2
        go_region_held3 (fun V => V.cell? ⟨w.heap.size + 1, 0, none⟩ = some (.int .i64 2) ∧ V.cell? ⟨w.heap.size + 1, 2, none⟩ = some (.int .i64 d)) (exact ⟨q0, q2⟩) (first
          | (go_at_call 33; refine (c2 _).mono ?_; rintro e w' ⟨rfl, rfl⟩))
        go_wp2_with (first
          | (go_at_call 25; refine (c3 _).mono ?_; rintro e w' ⟨rfl, rfl⟩))
        exact bodyPost_ret (v := .agg #[.int .i64 1, .int .i64 t, .int .i64 u, .int .i64 0, .string r]) (by simp [results, Try.results15, go_sem]) rfl ⟨rfl, (((((bel4 _ _ _ _ _).alloc (by simp; omega) _).alloc (by simp; omega) _).alloc (by simp; omega) _).alloc (by simp; omega) _).drew⟩
      · rw [show failT tr wt ⟨2, t, d, k, r⟩ d = ⟨4, t, 0, 0, r⟩ by unfold failT; rw [if_pos rfl, if_neg hl]]
        have c3 := fun W => refFailHigh_any ta tl tc tr wt le t d k r d W hl
        go_enter Try.func15, Try.ntmps15
        go_wp2
        go_region_held3 (fun V => V.cell? ⟨w.heap.size + 1, 0, none⟩ = some (.int .i64 2) ∧ V.cell? ⟨w.heap.size + 1, 2, none⟩ = some (.int .i64 d)) (exact ⟨q0, q2⟩) (first
          | (go_at_call 33; refine (c2 _).mono ?_; rintro e w' ⟨rfl, rfl⟩))
        go_wp2_with (first
          | (go_at_call 25; refine (c3 _).mono ?_; rintro e w' ⟨rfl, rfl⟩))
        exact bodyPost_ret (v := .agg #[.int .i64 4, .int .i64 t, .int .i64 0, .int .i64 0, .string r]) (by simp [results, Try.results15, go_sem]) rfl ⟨rfl, ((((bel4 _ _ _ _ _).alloc (by simp; omega) _).alloc (by simp; omega) _).alloc (by simp; omega) _).drew⟩
    · rw [show expireT tr wt ⟨2, t, d, k, r⟩ now = ⟨2, t, d, k, r⟩ from if_neg (fun hh => ho hh.2)]
      generalize untF now [] = n0 at *
      have ho' : (d ≤ n0) = False := eq_false ho
      clear ho
      go_enter Try.func15, Try.ntmps15
      go_wp2
      go_region_held3 (fun V => V.cell? ⟨w.heap.size + 1, 0, none⟩ = some (.int .i64 2) ∧ V.cell? ⟨w.heap.size + 1, 2, none⟩ = some (.int .i64 d)) (exact ⟨q0, q2⟩) (first
        | (go_at_call 33; refine (c2 _).mono ?_; rintro e w' ⟨rfl, rfl⟩))
      go_wp2
      exact bodyPost_ret (v := .agg #[.int .i64 2, .int .i64 t, .int .i64 d, .int .i64 k, .string r]) (by simp [results, Try.results15, go_sem]) rfl ⟨rfl, (bel3 _ _ _ _).drew⟩
  · rw [show expireT tr wt ⟨i, t, d, k, r⟩ now = ⟨i, t, d, k, r⟩ from if_neg (fun hh => h hh.1)]
    have h' : (i == 2) = false := by simpa using h
    go_enter Try.func15, Try.ntmps15
    go_wp2
    go_region
    go_wp2
    exact bodyPost_ret (v := .agg #[.int .i64 i, .int .i64 t, .int .i64 d, .int .i64 k, .string r]) (by simp [results, Try.results15, go_sem]) rfl ⟨rfl, (bel3 _ _ _ _).drew⟩

end Go.Proofs.Ytnipikdlfmcheaa

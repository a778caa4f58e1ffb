/-
  Package task: what is made of a state.
-/
import Derived.Test.YtnipikdlfmcheaaTaskOwn
namespace Go.Proofs.Ytnipikdlfmcheaa
open Go.RowKit Plain
set_option linter.unusedVariables false

theorem untZ_any (now x : Int) (W : World) (z : Nat) (hz : z = W.heap.size) :
    Calls Try.prog 35 #[.int .i64 now, .slice (some ⟨z, 0, none⟩) 1 1] (W.alloc (.cells #[.int .i64 x] 3)) fun e w' => e = .returned (.int .i64 (untF now [x])) ∧ W.alloc (.cells #[.int .i64 x] 3) = w' := by
  subst hz
  exact waitUntil_any now _ 1 1 [x] _ (isI_one W x) rfl

set_option maxRecDepth 20000 in
set_option maxHeartbeats 1000000 in
theorem readyT_any (i t d k : Int) (r : ByteArray) (w : World) :
    Calls Try.prog 12 #[.agg #[.int .i64 i, .int .i64 t, .int .i64 d, .int .i64 k, .string r]] w fun e w' => e = .returned (vT (readyT ⟨i, t, d, k, r⟩)) ∧ Below w.heap.size w w' := by
  by_cases h : i = 0
  · subst h
    rw [show readyT ⟨0, t, d, k, r⟩ = ⟨1, t, d, k, r⟩ from if_pos rfl]
    go_enter Try.func12, Try.ntmps12
    go_wp2
    exact bodyPost_ret (v := .agg #[.int .i64 1, .int .i64 t, .int .i64 d, .int .i64 k, .string r]) (by simp [results, Try.results12, go_sem]) rfl ⟨rfl, bel2 _ _ _⟩
  · rw [show readyT ⟨i, t, d, k, r⟩ = ⟨i, t, d, k, r⟩ from if_neg h]
    have h' : (i == 0) = false := by simpa using h
    go_enter Try.func12, Try.ntmps12
    go_wp2
    exact bodyPost_ret (v := .agg #[.int .i64 i, .int .i64 t, .int .i64 d, .int .i64 k, .string r]) (by simp [results, Try.results12, go_sem]) rfl ⟨rfl, bel2 _ _ _⟩


set_option maxRecDepth 20000 in
set_option maxHeartbeats 1000000 in
theorem cancelT_any (i t d k : Int) (r : ByteArray) (w : World) :
    Calls Try.prog 16 #[.agg #[.int .i64 i, .int .i64 t, .int .i64 d, .int .i64 k, .string r]] w fun e w' => e = .returned (vT (cancelT ⟨i, t, d, k, r⟩)) ∧ Below w.heap.size w w' := by
  by_cases h0 : i = 0
  · subst h0
    rw [show cancelT ⟨0, t, d, k, r⟩ = ⟨5, t, 0, 0, r⟩ from if_pos (.inl rfl)]
    go_enter Try.func16, Try.ntmps16
    go_wp2
    exact bodyPost_ret (v := .agg #[.int .i64 5, .int .i64 t, .int .i64 0, .int .i64 0, .string r]) (by simp [results, Try.results16, go_sem]) rfl ⟨rfl, bel2 _ _ _⟩
  by_cases h1 : i = 1
  · subst h1
    rw [show cancelT ⟨1, t, d, k, r⟩ = ⟨5, t, 0, 0, r⟩ from if_pos (.inr (.inl rfl))]
    go_enter Try.func16, Try.ntmps16
    go_wp2
    exact bodyPost_ret (v := .agg #[.int .i64 5, .int .i64 t, .int .i64 0, .int .i64 0, .string r]) (by simp [results, Try.results16, go_sem]) rfl ⟨rfl, bel2 _ _ _⟩
  by_cases h2 : i = 2
  · subst h2
    rw [show cancelT ⟨2, t, d, k, r⟩ = ⟨5, t, 0, 0, r⟩ from if_pos (.inr (.inr rfl))]
    go_enter Try.func16, Try.ntmps16
    go_wp2
    exact bodyPost_ret (v := .agg #[.int .i64 5, .int .i64 t, .int .i64 0, .int .i64 0, .string r]) (by simp [results, Try.results16, go_sem]) rfl ⟨rfl, bel2 _ _ _⟩
  rw [show cancelT ⟨i, t, d, k, r⟩ = ⟨i, t, d, k, r⟩ from if_neg (fun h => h.elim h0 fun h => h.elim h1 h2)]
  have g0 : (i == 0) = false := by simpa using h0
  have g1 : (i == 1) = false := by simpa using h1
  have g2 : (i == 2) = false := by simpa using h2
  go_enter Try.func16, Try.ntmps16
  go_wp2
  exact bodyPost_ret (v := .agg #[.int .i64 i, .int .i64 t, .int .i64 d, .int .i64 k, .string r]) (by simp [results, Try.results16, go_sem]) rfl ⟨rfl, bel2 _ _ _⟩

set_option maxRecDepth 20000 in
set_option maxHeartbeats 1000000 in
theorem beatT_any (ta : Option Addr) (tl tc : Nat) (tr wt le : Int) (i t d k : Int) (r : ByteArray) (now : Int) (w : World) :
    Calls Try.prog 20 #[.agg #[.slice ta tl tc, .int .i64 tr, .int .i64 wt, .int .i64 le], .agg #[.int .i64 i, .int .i64 t, .int .i64 d, .int .i64 k, .string r], .int .i64 now] w fun e w' => e = .returned (.tuple #[vT (beatT le ⟨i, t, d, k, r⟩ now), .int .i64 (heldE ⟨i, t, d, k, r⟩)]) ∧ Below w.heap.size w w' := by
  by_cases h : i = 2
  · subst h
    have cU := fun W z hz => untZ_any now le W z hz
    rw [show beatT le ⟨2, t, d, k, r⟩ now = ⟨2, t, untF now [le], k, r⟩ from if_pos rfl, show heldE ⟨2, t, d, k, r⟩ = 0 from if_pos rfl]
    generalize untF now [le] = u at *
    go_enter Try.func20, Try.ntmps20
    go_wp2_with (go_at_call 35; refine (cU _ _ (by simp)).mono ?_; rintro e w' ⟨rfl, rfl⟩)
    exact bodyPost_ret (v := .tuple #[.agg #[.int .i64 2, .int .i64 t, .int .i64 u, .int .i64 k, .string r], .int .i64 0]) (by simp [results, Try.results20, go_sem]) rfl ⟨rfl, bel4 _ _ _ _ _⟩
  · rw [show beatT le ⟨i, t, d, k, r⟩ now = zeroT from if_neg h, show heldE ⟨i, t, d, k, r⟩ = 191 from if_neg h]
    have h' : (i != 2) = true := by simpa using h
    go_enter Try.func20, Try.ntmps20
    go_wp2
    exact bodyPost_ret (v := .tuple #[.agg #[.int .i64 0, .int .i64 0, .int .i64 0, .int .i64 0, .string ⟨#[]⟩], .int .i64 191]) (by simp [results, Try.results20, go_sem]) rfl ⟨rfl, bel3 _ _ _ _⟩

set_option maxRecDepth 20000 in
set_option maxHeartbeats 1000000 in
theorem doneT_any (ta : Option Addr) (tl tc : Nat) (tr wt le : Int) (i t d k : Int) (r x : ByteArray) (w : World) (hx : x.size ≤ maxLen) :
    Calls Try.prog 22 #[.agg #[.slice ta tl tc, .int .i64 tr, .int .i64 wt, .int .i64 le], .agg #[.int .i64 i, .int .i64 t, .int .i64 d, .int .i64 k, .string r], .string x] w fun e w' => e = .returned (.tuple #[vT (doneT ⟨i, t, d, k, r⟩ x), .int .i64 (doneE ⟨i, t, d, k, r⟩ x)]) ∧ Below w.heap.size w w' := by
  have hxi : x.size ≤ 9223372036854775807 := hx
  by_cases h : i = 2
  · subst h
    by_cases hs : x.size ≤ 16
    · have hs' : ¬ (16 : Int) < x.size := by omega
      rw [show doneT ⟨2, t, d, k, r⟩ x = ⟨3, t, 0, 0, x⟩ by unfold doneT; rw [if_pos rfl, if_pos hs], show doneE ⟨2, t, d, k, r⟩ x = 0 by unfold doneE; rw [if_pos rfl, if_pos hs]]
      go_enter Try.func22, Try.ntmps22
      go_wp2
      exact bodyPost_ret (v := .tuple #[.agg #[.int .i64 3, .int .i64 t, .int .i64 0, .int .i64 0, .string x], .int .i64 0]) (by simp [results, Try.results22, go_sem]) rfl ⟨rfl, bel3 _ _ _ _⟩
    · have hs' : (16 : Int) < x.size := by omega
      rw [show doneT ⟨2, t, d, k, r⟩ x = zeroT by unfold doneT; rw [if_pos rfl, if_neg hs], show doneE ⟨2, t, d, k, r⟩ x = 1 by unfold doneE; rw [if_pos rfl, if_neg hs]]
      go_enter Try.func22, Try.ntmps22
      go_wp2
      exact bodyPost_ret (v := .tuple #[.agg #[.int .i64 0, .int .i64 0, .int .i64 0, .int .i64 0, .string ⟨#[]⟩], .int .i64 1]) (by simp [results, Try.results22, go_sem]) rfl ⟨rfl, bel3 _ _ _ _⟩
  · rw [show doneT ⟨i, t, d, k, r⟩ x = zeroT from if_neg h, show doneE ⟨i, t, d, k, r⟩ x = 191 from if_neg h]
    have h' : (i != 2) = true := by simpa using h
    go_enter Try.func22, Try.ntmps22
    go_wp2
    exact bodyPost_ret (v := .tuple #[.agg #[.int .i64 0, .int .i64 0, .int .i64 0, .int .i64 0, .string ⟨#[]⟩], .int .i64 191]) (by simp [results, Try.results22, go_sem]) rfl ⟨rfl, bel3 _ _ _ _⟩

set_option maxRecDepth 20000 in
set_option maxHeartbeats 1000000 in
/-- What is tried again; the world behind it, written out. -/
theorem failLow_any (ta : Option Addr) (tl tc : Nat) (tr wt le : Int) (t d k : Int) (r : ByteArray) (now : Int) (w : World) (ht : t ≤ 9223372036854775807) (hl : t < tr) :
    Calls Try.prog 24 #[.agg #[.slice ta tl tc, .int .i64 tr, .int .i64 wt, .int .i64 le], .agg #[.int .i64 2, .int .i64 t, .int .i64 d, .int .i64 k, .string r], .int .i64 now] w fun e w' => e = .returned (.tuple #[.agg #[.int .i64 1, .int .i64 t, .int .i64 (untF now [afterF wt t]), .int .i64 0, .string r], .int .i64 0]) ∧ w' = (((w.alloc (.cells #[.slice ta tl tc, .int .i64 tr, .int .i64 wt, .int .i64 le] 24)).alloc (.cells #[.int .i64 1, .int .i64 t, .int .i64 (untF now [afterF wt t]), .int .i64 0, .string r] 26)).alloc (.cells #[.int .i64 1, .int .i64 t, .int .i64 (untF now [afterF wt t]), .int .i64 0, .string r] 26)).alloc (.cells #[.int .i64 (afterF wt t)] 3) := by
  have cA := fun W => waitAfter_any wt t W ht
  have cU := fun W z hz => untZ_any now (afterF wt t) W z hz
  generalize untF now [afterF wt t] = u at *
  generalize afterF wt t = v at *
  go_enter Try.func24, Try.ntmps24
  go_wp2_with (first
    | (go_at_call 37; refine (cA _).mono ?_; rintro e w' ⟨rfl, rfl⟩)
    | (go_at_call 35; refine (cU _ _ (by simp)).mono ?_; rintro e w' ⟨rfl, rfl⟩))
  exact bodyPost_ret (v := .tuple #[.agg #[.int .i64 1, .int .i64 t, .int .i64 u, .int .i64 0, .string r], .int .i64 0]) (by simp [results, Try.results24, go_sem]) rfl ⟨rfl, rfl⟩

set_option maxRecDepth 20000 in
set_option maxHeartbeats 1000000 in
/-- What is lost; the world behind it, written out. -/
theorem failHigh_any (ta : Option Addr) (tl tc : Nat) (tr wt le : Int) (t d k : Int) (r : ByteArray) (now : Int) (w : World) (hl : ¬ t < tr) :
    Calls Try.prog 24 #[.agg #[.slice ta tl tc, .int .i64 tr, .int .i64 wt, .int .i64 le], .agg #[.int .i64 2, .int .i64 t, .int .i64 d, .int .i64 k, .string r], .int .i64 now] w fun e w' => e = .returned (.tuple #[.agg #[.int .i64 4, .int .i64 t, .int .i64 0, .int .i64 0, .string r], .int .i64 0]) ∧ w' = ((w.alloc (.cells #[.slice ta tl tc, .int .i64 tr, .int .i64 wt, .int .i64 le] 24)).alloc (.cells #[.int .i64 4, .int .i64 t, .int .i64 0, .int .i64 0, .string r] 26)).alloc (.cells #[.int .i64 4, .int .i64 t, .int .i64 0, .int .i64 0, .string r] 26) := by
  go_enter Try.func24, Try.ntmps24
  go_wp2
  exact bodyPost_ret (v := .tuple #[.agg #[.int .i64 4, .int .i64 t, .int .i64 0, .int .i64 0, .string r], .int .i64 0]) (by simp [results, Try.results24, go_sem]) rfl ⟨rfl, rfl⟩

set_option maxRecDepth 20000 in
set_option maxHeartbeats 1000000 in
theorem failT_any (ta : Option Addr) (tl tc : Nat) (tr wt le : Int) (i t d k : Int) (r : ByteArray) (now : Int) (w : World) (ht : t ≤ 9223372036854775807) :
    Calls Try.prog 24 #[.agg #[.slice ta tl tc, .int .i64 tr, .int .i64 wt, .int .i64 le], .agg #[.int .i64 i, .int .i64 t, .int .i64 d, .int .i64 k, .string r], .int .i64 now] w fun e w' => e = .returned (.tuple #[vT (failT tr wt ⟨i, t, d, k, r⟩ now), .int .i64 (heldE ⟨i, t, d, k, r⟩)]) ∧ Below w.heap.size w w' := by
  by_cases h : i = 2
  · subst h
    rw [show heldE ⟨2, t, d, k, r⟩ = 0 from if_pos rfl]
    by_cases hl : t < tr
    · rw [show failT tr wt ⟨2, t, d, k, r⟩ now = ⟨1, t, untF now [afterF wt t], 0, r⟩ by unfold failT; rw [if_pos rfl, if_pos hl]]
      exact (failLow_any ta tl tc tr wt le t d k r now w ht hl).mono fun e w' hh => ⟨hh.1, by rw [hh.2]; exact bel4 _ _ _ _ _⟩
    · rw [show failT tr wt ⟨2, t, d, k, r⟩ now = ⟨4, t, 0, 0, r⟩ by unfold failT; rw [if_pos rfl, if_neg hl]]
      exact (failHigh_any ta tl tc tr wt le t d k r now w hl).mono fun e w' hh => ⟨hh.1, by rw [hh.2]; exact bel3 _ _ _ _⟩
  · rw [show failT tr wt ⟨i, t, d, k, r⟩ now = zeroT from if_neg h, show heldE ⟨i, t, d, k, r⟩ = 191 from if_neg h]
    have h' : (i != 2) = true := by simpa using h
    go_enter Try.func24, Try.ntmps24
    go_wp2
    exact bodyPost_ret (v := .tuple #[.agg #[.int .i64 0, .int .i64 0, .int .i64 0, .int .i64 0, .string ⟨#[]⟩], .int .i64 191]) (by simp [results, Try.results24, go_sem]) rfl ⟨rfl, bel3 _ _ _ _⟩

end Go.Proofs.Ytnipikdlfmcheaa

/-
  Package task: which states may stand, and may be with a task.
-/
import Derived.Test.YtnipikdlfmcheaaTaskOwn
namespace Go.Proofs.Ytnipikdlfmcheaa
open Go.RowKit Plain
set_option linter.unusedVariables false

theorem standL_iff (i t d k : Int) (r : ByteArray) : standT ⟨i, t, d, k, r⟩ = true ↔ ((0 ≤ i ∧ i ≤ 5) ∧ (0 ≤ t ∧ t ≤ 8) ∧ (0 ≤ d ∧ d ≤ 1099511627776) ∧ ((i = 2 → 1 ≤ k) ∧ (i ≠ 2 → k = 0)) ∧ k ≤ 1099511627776 ∧ r.size ≤ 16 ∧ (i ≠ 3 → r = ⟨#[]⟩)) := standT_iff ⟨i, t, d, k, r⟩
theorem restL_iff (tr i t d k : Int) (r : ByteArray) : restT tr ⟨i, t, d, k, r⟩ = true ↔ (t ≤ tr ∧ (i = 0 → t = 0) ∧ (i = 1 → t < tr) ∧ (i = 2 ∨ i = 3 → 1 ≤ t) ∧ (i = 4 → t = tr) ∧ (d = 0 ∨ i = 1 ∨ i = 2)) := restT_iff tr ⟨i, t, d, k, r⟩
theorem bool_false {b : Bool} (h : ¬ b = true) : b = false := by simpa using h
theorem sizeN {k : ByteArray} (h : k = ⟨#[]⟩) : k.size = 0 := by rw [h]; rfl


set_option maxRecDepth 20000 in
set_option maxHeartbeats 2000000 in
theorem mayStand_any (i t d k : Int) (r : ByteArray) (w : World) (hz : r.size ≤ maxLen) :
    Calls Try.prog 31 #[.agg #[.int .i64 i, .int .i64 t, .int .i64 d, .int .i64 k, .string r]] w fun e w' => e = .returned (.bool (standT ⟨i, t, d, k, r⟩)) ∧ Below w.heap.size w w' := by
  have hB : Below w.heap.size w (w.alloc (.cells #[.int .i64 i, .int .i64 t, .int .i64 d, .int .i64 k, .string r] 26)) := (Below.refl _ _).alloc (Nat.le_refl _) _
  have hzi : r.size ≤ 9223372036854775807 := hz
  by_cases h1 : t < 0
  · have c1 := isTimeT_any d
    have c2 := isTokenT_any k
    have hr : Hid (standT ⟨i, t, d, k, r⟩ = false) := bool_false fun hh => by have := ((standL_iff _ _ _ _ _).1 hh).2.1; omega
    go_enter Try.func31, Try.ntmps31
    go_wp2_with (first
      | (go_at_call 47; refine (c1 _).mono ?_; rintro e w' ⟨rfl, rfl⟩)
      | (go_at_call 34; refine (c2 _).mono ?_; rintro e w' ⟨rfl, rfl⟩))
    go_ret
    exact ⟨ret_bool hr.out.symm, hB⟩
  by_cases h2 : 8 < t
  · have c1 := isTimeT_any d
    have c2 := isTokenT_any k
    have hr : Hid (standT ⟨i, t, d, k, r⟩ = false) := bool_false fun hh => by have := ((standL_iff _ _ _ _ _).1 hh).2.1; omega
    go_enter Try.func31, Try.ntmps31
    go_wp2_with (first
      | (go_at_call 47; refine (c1 _).mono ?_; rintro e w' ⟨rfl, rfl⟩)
      | (go_at_call 34; refine (c2 _).mono ?_; rintro e w' ⟨rfl, rfl⟩))
    go_ret
    exact ⟨ret_bool hr.out.symm, hB⟩
  by_cases hd : 0 ≤ d ∧ d ≤ 1099511627776
  · have c1 := isTimeT_any d
    rw [show timeB d = true from decide_eq_true hd] at c1
    have c2 := isTokenT_any k
    by_cases i2 : i = 2
    · subst i2
      by_cases hk : 1 ≤ k ∧ k ≤ 1099511627776
      · rw [show tokB k = true from decide_eq_true hk] at c2
        by_cases h6 : r = ⟨#[]⟩
        · have h6' := empT_true h6
          have hr : Hid (standT ⟨2, t, d, k, r⟩ = true) := (standL_iff _ _ _ _ _).2 ⟨by omega, by omega, hd, by omega, by omega, by (have := sizeN h6; omega), fun _ => h6⟩
          clear h6
          go_enter Try.func31, Try.ntmps31
          go_wp2_with (first
            | (go_at_call 47; refine (c1 _).mono ?_; rintro e w' ⟨rfl, rfl⟩)
            | (go_at_call 34; refine (c2 _).mono ?_; rintro e w' ⟨rfl, rfl⟩))
          go_ret
          exact ⟨ret_bool hr.out.symm, hB⟩
        · have h6' := empT_false h6
          have hr : Hid (standT ⟨2, t, d, k, r⟩ = false) := bool_false fun hh => h6 (((standL_iff _ _ _ _ _).1 hh).2.2.2.2.2.2 (by omega))
          clear h6
          go_enter Try.func31, Try.ntmps31
          go_wp2_with (first
            | (go_at_call 47; refine (c1 _).mono ?_; rintro e w' ⟨rfl, rfl⟩)
            | (go_at_call 34; refine (c2 _).mono ?_; rintro e w' ⟨rfl, rfl⟩))
          go_ret
          exact ⟨ret_bool hr.out.symm, hB⟩
      · rw [show tokB k = false from decide_eq_false hk] at c2
        have hr : Hid (standT ⟨2, t, d, k, r⟩ = false) := bool_false fun hh => hk ⟨((standL_iff _ _ _ _ _).1 hh).2.2.2.1.1 rfl, ((standL_iff _ _ _ _ _).1 hh).2.2.2.2.1⟩
        clear hk
        go_enter Try.func31, Try.ntmps31
        go_wp2_with (first
          | (go_at_call 47; refine (c1 _).mono ?_; rintro e w' ⟨rfl, rfl⟩)
          | (go_at_call 34; refine (c2 _).mono ?_; rintro e w' ⟨rfl, rfl⟩))
        go_ret
        exact ⟨ret_bool hr.out.symm, hB⟩
    by_cases i3 : i = 3
    · subst i3
      by_cases h5 : k = 0
      · subst h5
        by_cases h6 : r.size ≤ 16
        · have h6' : (r.size : Int) ≤ 16 := by omega
          have hr : Hid (standT ⟨3, t, d, 0, r⟩ = true) := (standL_iff _ _ _ _ _).2 ⟨by omega, by omega, hd, by omega, by omega, h6, fun hn => absurd rfl hn⟩
          go_enter Try.func31, Try.ntmps31
          go_wp2_with (first
            | (go_at_call 47; refine (c1 _).mono ?_; rintro e w' ⟨rfl, rfl⟩)
            | (go_at_call 34; refine (c2 _).mono ?_; rintro e w' ⟨rfl, rfl⟩))
          go_ret
          exact ⟨ret_bool hr.out.symm, hB⟩
        · have h6' : ¬ (r.size : Int) ≤ 16 := by omega
          have hr : Hid (decide ((r.size : Int) ≤ 16) = standT ⟨3, t, d, 0, r⟩) := by
            show _ = _
            rw [decide_eq_false h6']
            exact (bool_false fun hh => h6 ((standL_iff _ _ _ _ _).1 hh).2.2.2.2.2.1).symm
          clear h6 h6'
          go_enter Try.func31, Try.ntmps31
          go_wp2_with (first
            | (go_at_call 47; refine (c1 _).mono ?_; rintro e w' ⟨rfl, rfl⟩)
            | (go_at_call 34; refine (c2 _).mono ?_; rintro e w' ⟨rfl, rfl⟩))
          go_ret
          exact ⟨ret_bool hr.out, hB⟩
      · have hr : Hid (standT ⟨3, t, d, k, r⟩ = false) := bool_false fun hh => h5 (((standL_iff _ _ _ _ _).1 hh).2.2.2.1.2 (by omega))
        go_enter Try.func31, Try.ntmps31
        go_wp2_with (first
          | (go_at_call 47; refine (c1 _).mono ?_; rintro e w' ⟨rfl, rfl⟩)
          | (go_at_call 34; refine (c2 _).mono ?_; rintro e w' ⟨rfl, rfl⟩))
        go_ret
        exact ⟨ret_bool hr.out.symm, hB⟩
    by_cases i0 : i = 0
    · subst i0
      clear i2 i3
      by_cases h5 : k = 0
      · subst h5
        by_cases h6 : r = ⟨#[]⟩
        · have h6' := empT_true h6
          have hr : Hid (standT ⟨0, t, d, 0, r⟩ = true) := (standL_iff _ _ _ _ _).2 ⟨by omega, by omega, hd, by omega, by omega, by (have := sizeN h6; omega), fun _ => h6⟩
          clear h6
          go_enter Try.func31, Try.ntmps31
          go_wp2_with (first
            | (go_at_call 47; refine (c1 _).mono ?_; rintro e w' ⟨rfl, rfl⟩)
            | (go_at_call 34; refine (c2 _).mono ?_; rintro e w' ⟨rfl, rfl⟩))
          go_ret
          exact ⟨ret_bool hr.out.symm, hB⟩
        · have h6' := empT_false h6
          have hr : Hid (standT ⟨0, t, d, 0, r⟩ = false) := bool_false fun hh => h6 (((standL_iff _ _ _ _ _).1 hh).2.2.2.2.2.2 (by omega))
          clear h6
          go_enter Try.func31, Try.ntmps31
          go_wp2_with (first
            | (go_at_call 47; refine (c1 _).mono ?_; rintro e w' ⟨rfl, rfl⟩)
            | (go_at_call 34; refine (c2 _).mono ?_; rintro e w' ⟨rfl, rfl⟩))
          go_ret
          exact ⟨ret_bool hr.out.symm, hB⟩
      · have hr : Hid (standT ⟨0, t, d, k, r⟩ = false) := bool_false fun hh => h5 (((standL_iff _ _ _ _ _).1 hh).2.2.2.1.2 (by omega))
        go_enter Try.func31, Try.ntmps31
        go_wp2_with (first
          | (go_at_call 47; refine (c1 _).mono ?_; rintro e w' ⟨rfl, rfl⟩)
          | (go_at_call 34; refine (c2 _).mono ?_; rintro e w' ⟨rfl, rfl⟩))
        go_ret
        exact ⟨ret_bool hr.out.symm, hB⟩
    by_cases i1 : i = 1
    · subst i1
      clear i2 i3 i0
      by_cases h5 : k = 0
      · subst h5
        by_cases h6 : r = ⟨#[]⟩
        · have h6' := empT_true h6
          have hr : Hid (standT ⟨1, t, d, 0, r⟩ = true) := (standL_iff _ _ _ _ _).2 ⟨by omega, by omega, hd, by omega, by omega, by (have := sizeN h6; omega), fun _ => h6⟩
          clear h6
          go_enter Try.func31, Try.ntmps31
          go_wp2_with (first
            | (go_at_call 47; refine (c1 _).mono ?_; rintro e w' ⟨rfl, rfl⟩)
            | (go_at_call 34; refine (c2 _).mono ?_; rintro e w' ⟨rfl, rfl⟩))
          go_ret
          exact ⟨ret_bool hr.out.symm, hB⟩
        · have h6' := empT_false h6
          have hr : Hid (standT ⟨1, t, d, 0, r⟩ = false) := bool_false fun hh => h6 (((standL_iff _ _ _ _ _).1 hh).2.2.2.2.2.2 (by omega))
          clear h6
          go_enter Try.func31, Try.ntmps31
          go_wp2_with (first
            | (go_at_call 47; refine (c1 _).mono ?_; rintro e w' ⟨rfl, rfl⟩)
            | (go_at_call 34; refine (c2 _).mono ?_; rintro e w' ⟨rfl, rfl⟩))
          go_ret
          exact ⟨ret_bool hr.out.symm, hB⟩
      · have hr : Hid (standT ⟨1, t, d, k, r⟩ = false) := bool_false fun hh => h5 (((standL_iff _ _ _ _ _).1 hh).2.2.2.1.2 (by omega))
        go_enter Try.func31, Try.ntmps31
        go_wp2_with (first
          | (go_at_call 47; refine (c1 _).mono ?_; rintro e w' ⟨rfl, rfl⟩)
          | (go_at_call 34; refine (c2 _).mono ?_; rintro e w' ⟨rfl, rfl⟩))
        go_ret
        exact ⟨ret_bool hr.out.symm, hB⟩
    by_cases i4 : i = 4
    · subst i4
      clear i2 i3 i0 i1
      by_cases h5 : k = 0
      · subst h5
        by_cases h6 : r = ⟨#[]⟩
        · have h6' := empT_true h6
          have hr : Hid (standT ⟨4, t, d, 0, r⟩ = true) := (standL_iff _ _ _ _ _).2 ⟨by omega, by omega, hd, by omega, by omega, by (have := sizeN h6; omega), fun _ => h6⟩
          clear h6
          go_enter Try.func31, Try.ntmps31
          go_wp2_with (first
            | (go_at_call 47; refine (c1 _).mono ?_; rintro e w' ⟨rfl, rfl⟩)
            | (go_at_call 34; refine (c2 _).mono ?_; rintro e w' ⟨rfl, rfl⟩))
          go_ret
          exact ⟨ret_bool hr.out.symm, hB⟩
        · have h6' := empT_false h6
          have hr : Hid (standT ⟨4, t, d, 0, r⟩ = false) := bool_false fun hh => h6 (((standL_iff _ _ _ _ _).1 hh).2.2.2.2.2.2 (by omega))
          clear h6
          go_enter Try.func31, Try.ntmps31
          go_wp2_with (first
            | (go_at_call 47; refine (c1 _).mono ?_; rintro e w' ⟨rfl, rfl⟩)
            | (go_at_call 34; refine (c2 _).mono ?_; rintro e w' ⟨rfl, rfl⟩))
          go_ret
          exact ⟨ret_bool hr.out.symm, hB⟩
      · have hr : Hid (standT ⟨4, t, d, k, r⟩ = false) := bool_false fun hh => h5 (((standL_iff _ _ _ _ _).1 hh).2.2.2.1.2 (by omega))
        go_enter Try.func31, Try.ntmps31
        go_wp2_with (first
          | (go_at_call 47; refine (c1 _).mono ?_; rintro e w' ⟨rfl, rfl⟩)
          | (go_at_call 34; refine (c2 _).mono ?_; rintro e w' ⟨rfl, rfl⟩))
        go_ret
        exact ⟨ret_bool hr.out.symm, hB⟩
    by_cases i5 : i = 5
    · subst i5
      clear i2 i3 i0 i1 i4
      by_cases h5 : k = 0
      · subst h5
        by_cases h6 : r = ⟨#[]⟩
        · have h6' := empT_true h6
          have hr : Hid (standT ⟨5, t, d, 0, r⟩ = true) := (standL_iff _ _ _ _ _).2 ⟨by omega, by omega, hd, by omega, by omega, by (have := sizeN h6; omega), fun _ => h6⟩
          clear h6
          go_enter Try.func31, Try.ntmps31
          go_wp2_with (first
            | (go_at_call 47; refine (c1 _).mono ?_; rintro e w' ⟨rfl, rfl⟩)
            | (go_at_call 34; refine (c2 _).mono ?_; rintro e w' ⟨rfl, rfl⟩))
          go_ret
          exact ⟨ret_bool hr.out.symm, hB⟩
        · have h6' := empT_false h6
          have hr : Hid (standT ⟨5, t, d, 0, r⟩ = false) := bool_false fun hh => h6 (((standL_iff _ _ _ _ _).1 hh).2.2.2.2.2.2 (by omega))
          clear h6
          go_enter Try.func31, Try.ntmps31
          go_wp2_with (first
            | (go_at_call 47; refine (c1 _).mono ?_; rintro e w' ⟨rfl, rfl⟩)
            | (go_at_call 34; refine (c2 _).mono ?_; rintro e w' ⟨rfl, rfl⟩))
          go_ret
          exact ⟨ret_bool hr.out.symm, hB⟩
      · have hr : Hid (standT ⟨5, t, d, k, r⟩ = false) := bool_false fun hh => h5 (((standL_iff _ _ _ _ _).1 hh).2.2.2.1.2 (by omega))
        go_enter Try.func31, Try.ntmps31
        go_wp2_with (first
          | (go_at_call 47; refine (c1 _).mono ?_; rintro e w' ⟨rfl, rfl⟩)
          | (go_at_call 34; refine (c2 _).mono ?_; rintro e w' ⟨rfl, rfl⟩))
        go_ret
        exact ⟨ret_bool hr.out.symm, hB⟩
    have hr : Hid (standT ⟨i, t, d, k, r⟩ = false) := bool_false fun hh => by have := ((standL_iff _ _ _ _ _).1 hh).1; omega
    go_enter Try.func31, Try.ntmps31
    go_wp2_with (first
      | (go_at_call 47; refine (c1 _).mono ?_; rintro e w' ⟨rfl, rfl⟩)
      | (go_at_call 34; refine (c2 _).mono ?_; rintro e w' ⟨rfl, rfl⟩))
    go_ret
    exact ⟨ret_bool hr.out.symm, hB⟩
  · have c1 := isTimeT_any d
    have c2 := isTokenT_any k
    rw [show timeB d = false from decide_eq_false hd] at c1
    have hr : Hid (standT ⟨i, t, d, k, r⟩ = false) := bool_false fun hh => hd ((standL_iff _ _ _ _ _).1 hh).2.2.1
    clear hd
    go_enter Try.func31, Try.ntmps31
    go_wp2_with (first
      | (go_at_call 47; refine (c1 _).mono ?_; rintro e w' ⟨rfl, rfl⟩)
      | (go_at_call 34; refine (c2 _).mono ?_; rintro e w' ⟨rfl, rfl⟩))
    go_ret
    exact ⟨ret_bool hr.out.symm, hB⟩

end Go.Proofs.Ytnipikdlfmcheaa

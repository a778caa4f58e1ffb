/-
  Package task: which states may be with a task.
-/
import Derived.Test.YtnipikdlfmcheaaTaskStand
namespace Go.Proofs.Ytnipikdlfmcheaa
open Go.RowKit Plain
set_option linter.unusedVariables false

theorem rightL_true {tr i t d k : Int} {r : ByteArray} (h : standT ⟨i, t, d, k, r⟩ = true) (g : t ≤ tr ∧ (i = 0 → t = 0) ∧ (i = 1 → t < tr) ∧ (i = 2 ∨ i = 3 → 1 ≤ t) ∧ (i = 4 → t = tr) ∧ (d = 0 ∨ i = 1 ∨ i = 2)) : rightT tr ⟨i, t, d, k, r⟩ = true := by
  rw [rightT, h, (restL_iff _ _ _ _ _ _).2 g]; rfl
theorem rightL_false {tr i t d k : Int} {r : ByteArray} (g : ¬ (t ≤ tr ∧ (i = 0 → t = 0) ∧ (i = 1 → t < tr) ∧ (i = 2 ∨ i = 3 → 1 ≤ t) ∧ (i = 4 → t = tr) ∧ (d = 0 ∨ i = 1 ∨ i = 2))) : rightT tr ⟨i, t, d, k, r⟩ = false :=
  bool_false fun hh => g ((restL_iff _ _ _ _ _ _).1 (right_parts hh).2)


set_option maxRecDepth 20000 in
set_option maxHeartbeats 2000000 in
theorem rightT_any (ta : Option Addr) (tl tc : Nat) (tr wt le : Int) (i t d k : Int) (r : ByteArray) (w : World) (hz : r.size ≤ maxLen) :
    Calls Try.prog 10 #[.agg #[.slice ta tl tc, .int .i64 tr, .int .i64 wt, .int .i64 le], .agg #[.int .i64 i, .int .i64 t, .int .i64 d, .int .i64 k, .string r]] w fun e w' => e = .returned (.bool (rightT tr ⟨i, t, d, k, r⟩)) ∧ Below w.heap.size w w' := by
  have c1 := fun W => mayStand_any i t d k r W hz
  cases hb : standT ⟨i, t, d, k, r⟩ with
  | false =>
    rw [hb] at c1
    have hr : Hid (rightT tr ⟨i, t, d, k, r⟩ = false) := by show _ = _; rw [rightT, hb]; rfl
    clear hb
    go_enter Try.func10, Try.ntmps10
    go_wp2_with (go_at_call 31; refine (c1 _).mono ?_; rintro e w1 ⟨rfl, hb⟩; obtain ⟨bt, bs, hB⟩ := boxes2 w [.slice ta tl tc, .int .i64 tr, .int .i64 wt, .int .i64 le] [.int .i64 i, .int .i64 t, .int .i64 d, .int .i64 k, .string r] _ _ (by simp) (by simp) hb; have x1 := bt.1 1 _ rfl; have s0 := bs.1 0 _ rfl; have s1 := bs.1 1 _ rfl; have s2 := bs.1 2 _ rfl; have s3 := bs.1 3 _ rfl; have s4 := bs.1 4 _ rfl; clear hb bt bs)
    go_ret
    exact ⟨ret_bool (by first | exact hr.out.symm | (rw [hr.out]; simp; done) | (rw [hr.out]; simp; omega)), hB⟩
  | true =>
    rw [hb] at c1
    have hS := (standL_iff _ _ _ _ _).1 hb
    by_cases h1 : tr < t
    · have hr : Hid (rightT tr ⟨i, t, d, k, r⟩ = false) := rightL_false (by omega)
      clear hb hS
      go_enter Try.func10, Try.ntmps10
      go_wp2_with (go_at_call 31; refine (c1 _).mono ?_; rintro e w1 ⟨rfl, hb⟩; obtain ⟨bt, bs, hB⟩ := boxes2 w [.slice ta tl tc, .int .i64 tr, .int .i64 wt, .int .i64 le] [.int .i64 i, .int .i64 t, .int .i64 d, .int .i64 k, .string r] _ _ (by simp) (by simp) hb; have x1 := bt.1 1 _ rfl; have s0 := bs.1 0 _ rfl; have s1 := bs.1 1 _ rfl; have s2 := bs.1 2 _ rfl; have s3 := bs.1 3 _ rfl; have s4 := bs.1 4 _ rfl; clear hb bt bs)
      go_ret
      exact ⟨ret_bool (by first | exact hr.out.symm | (rw [hr.out]; simp; done) | (rw [hr.out]; simp; omega)), hB⟩
    by_cases i1 : i = 1
    · subst i1
      by_cases h2 : t < tr
      · have hr : Hid (rightT tr ⟨1, t, d, k, r⟩ = true) := rightL_true hb (by omega)
        clear hb hS
        go_enter Try.func10, Try.ntmps10
        go_wp2_with (go_at_call 31; refine (c1 _).mono ?_; rintro e w1 ⟨rfl, hb⟩; obtain ⟨bt, bs, hB⟩ := boxes2 w [.slice ta tl tc, .int .i64 tr, .int .i64 wt, .int .i64 le] [.int .i64 1, .int .i64 t, .int .i64 d, .int .i64 k, .string r] _ _ (by simp) (by simp) hb; have x1 := bt.1 1 _ rfl; have s0 := bs.1 0 _ rfl; have s1 := bs.1 1 _ rfl; have s2 := bs.1 2 _ rfl; have s3 := bs.1 3 _ rfl; have s4 := bs.1 4 _ rfl; clear hb bt bs)
        go_ret
        exact ⟨ret_bool (by first | exact hr.out.symm | (rw [hr.out]; simp; done) | (rw [hr.out]; simp; omega)), hB⟩
      · have hr : Hid (rightT tr ⟨1, t, d, k, r⟩ = false) := rightL_false (by omega)
        clear hb hS
        go_enter Try.func10, Try.ntmps10
        go_wp2_with (go_at_call 31; refine (c1 _).mono ?_; rintro e w1 ⟨rfl, hb⟩; obtain ⟨bt, bs, hB⟩ := boxes2 w [.slice ta tl tc, .int .i64 tr, .int .i64 wt, .int .i64 le] [.int .i64 1, .int .i64 t, .int .i64 d, .int .i64 k, .string r] _ _ (by simp) (by simp) hb; have x1 := bt.1 1 _ rfl; have s0 := bs.1 0 _ rfl; have s1 := bs.1 1 _ rfl; have s2 := bs.1 2 _ rfl; have s3 := bs.1 3 _ rfl; have s4 := bs.1 4 _ rfl; clear hb bt bs)
        go_ret
        exact ⟨ret_bool (by first | exact hr.out.symm | (rw [hr.out]; simp; done) | (rw [hr.out]; simp; omega)), hB⟩
    by_cases i2 : i = 2
    · subst i2
      clear i1
      by_cases h2 : 1 ≤ t
      · have hr : Hid (rightT tr ⟨2, t, d, k, r⟩ = true) := rightL_true hb (by omega)
        clear hb hS
        go_enter Try.func10, Try.ntmps10
        go_wp2_with (go_at_call 31; refine (c1 _).mono ?_; rintro e w1 ⟨rfl, hb⟩; obtain ⟨bt, bs, hB⟩ := boxes2 w [.slice ta tl tc, .int .i64 tr, .int .i64 wt, .int .i64 le] [.int .i64 2, .int .i64 t, .int .i64 d, .int .i64 k, .string r] _ _ (by simp) (by simp) hb; have x1 := bt.1 1 _ rfl; have s0 := bs.1 0 _ rfl; have s1 := bs.1 1 _ rfl; have s2 := bs.1 2 _ rfl; have s3 := bs.1 3 _ rfl; have s4 := bs.1 4 _ rfl; clear hb bt bs)
        go_ret
        exact ⟨ret_bool (by first | exact hr.out.symm | (rw [hr.out]; simp; done) | (rw [hr.out]; simp; omega)), hB⟩
      · have hr : Hid (rightT tr ⟨2, t, d, k, r⟩ = false) := rightL_false (by omega)
        clear hb hS
        go_enter Try.func10, Try.ntmps10
        go_wp2_with (go_at_call 31; refine (c1 _).mono ?_; rintro e w1 ⟨rfl, hb⟩; obtain ⟨bt, bs, hB⟩ := boxes2 w [.slice ta tl tc, .int .i64 tr, .int .i64 wt, .int .i64 le] [.int .i64 2, .int .i64 t, .int .i64 d, .int .i64 k, .string r] _ _ (by simp) (by simp) hb; have x1 := bt.1 1 _ rfl; have s0 := bs.1 0 _ rfl; have s1 := bs.1 1 _ rfl; have s2 := bs.1 2 _ rfl; have s3 := bs.1 3 _ rfl; have s4 := bs.1 4 _ rfl; clear hb bt bs)
        go_ret
        exact ⟨ret_bool (by first | exact hr.out.symm | (rw [hr.out]; simp; done) | (rw [hr.out]; simp; omega)), hB⟩
    by_cases i3 : i = 3
    · subst i3
      clear i1 i2
      by_cases h2 : t < 1
      · have hr : Hid (rightT tr ⟨3, t, d, k, r⟩ = false) := rightL_false (by omega)
        clear hb hS
        go_enter Try.func10, Try.ntmps10
        go_wp2_with (go_at_call 31; refine (c1 _).mono ?_; rintro e w1 ⟨rfl, hb⟩; obtain ⟨bt, bs, hB⟩ := boxes2 w [.slice ta tl tc, .int .i64 tr, .int .i64 wt, .int .i64 le] [.int .i64 3, .int .i64 t, .int .i64 d, .int .i64 k, .string r] _ _ (by simp) (by simp) hb; have x1 := bt.1 1 _ rfl; have s0 := bs.1 0 _ rfl; have s1 := bs.1 1 _ rfl; have s2 := bs.1 2 _ rfl; have s3 := bs.1 3 _ rfl; have s4 := bs.1 4 _ rfl; clear hb bt bs)
        go_ret
        exact ⟨ret_bool (by first | exact hr.out.symm | (rw [hr.out]; simp; done) | (rw [hr.out]; simp; omega)), hB⟩
      by_cases h3 : d = 0
      · subst h3
        have hr : Hid (rightT tr ⟨3, t, 0, k, r⟩ = true) := rightL_true hb (by omega)
        clear hb hS
        go_enter Try.func10, Try.ntmps10
        go_wp2_with (go_at_call 31; refine (c1 _).mono ?_; rintro e w1 ⟨rfl, hb⟩; obtain ⟨bt, bs, hB⟩ := boxes2 w [.slice ta tl tc, .int .i64 tr, .int .i64 wt, .int .i64 le] [.int .i64 3, .int .i64 t, .int .i64 0, .int .i64 k, .string r] _ _ (by simp) (by simp) hb; have x1 := bt.1 1 _ rfl; have s0 := bs.1 0 _ rfl; have s1 := bs.1 1 _ rfl; have s2 := bs.1 2 _ rfl; have s3 := bs.1 3 _ rfl; have s4 := bs.1 4 _ rfl; clear hb bt bs)
        go_ret
        exact ⟨ret_bool (by first | exact hr.out.symm | (rw [hr.out]; simp; done) | (rw [hr.out]; simp; omega)), hB⟩
      · have hr : Hid (rightT tr ⟨3, t, d, k, r⟩ = false) := rightL_false (by omega)
        have h3' : (d == 0) = false := by simpa using h3
        clear hb hS
        go_enter Try.func10, Try.ntmps10
        go_wp2_with (go_at_call 31; refine (c1 _).mono ?_; rintro e w1 ⟨rfl, hb⟩; obtain ⟨bt, bs, hB⟩ := boxes2 w [.slice ta tl tc, .int .i64 tr, .int .i64 wt, .int .i64 le] [.int .i64 3, .int .i64 t, .int .i64 d, .int .i64 k, .string r] _ _ (by simp) (by simp) hb; have x1 := bt.1 1 _ rfl; have s0 := bs.1 0 _ rfl; have s1 := bs.1 1 _ rfl; have s2 := bs.1 2 _ rfl; have s3 := bs.1 3 _ rfl; have s4 := bs.1 4 _ rfl; clear hb bt bs)
        go_ret
        exact ⟨ret_bool (by first | exact hr.out.symm | (rw [hr.out]; simp; done) | (rw [hr.out]; simp; omega)), hB⟩
    by_cases i5 : i = 5
    · subst i5
      clear i1 i2 i3
      by_cases h3 : d = 0
      · subst h3
        have hr : Hid (rightT tr ⟨5, t, 0, k, r⟩ = true) := rightL_true hb (by omega)
        clear hb hS
        go_enter Try.func10, Try.ntmps10
        go_wp2_with (go_at_call 31; refine (c1 _).mono ?_; rintro e w1 ⟨rfl, hb⟩; obtain ⟨bt, bs, hB⟩ := boxes2 w [.slice ta tl tc, .int .i64 tr, .int .i64 wt, .int .i64 le] [.int .i64 5, .int .i64 t, .int .i64 0, .int .i64 k, .string r] _ _ (by simp) (by simp) hb; have x1 := bt.1 1 _ rfl; have s0 := bs.1 0 _ rfl; have s1 := bs.1 1 _ rfl; have s2 := bs.1 2 _ rfl; have s3 := bs.1 3 _ rfl; have s4 := bs.1 4 _ rfl; clear hb bt bs)
        go_ret
        exact ⟨ret_bool (by first | exact hr.out.symm | (rw [hr.out]; simp; done) | (rw [hr.out]; simp; omega)), hB⟩
      · have hr : Hid (rightT tr ⟨5, t, d, k, r⟩ = false) := rightL_false (by omega)
        have h3' : (d == 0) = false := by simpa using h3
        clear hb hS
        go_enter Try.func10, Try.ntmps10
        go_wp2_with (go_at_call 31; refine (c1 _).mono ?_; rintro e w1 ⟨rfl, hb⟩; obtain ⟨bt, bs, hB⟩ := boxes2 w [.slice ta tl tc, .int .i64 tr, .int .i64 wt, .int .i64 le] [.int .i64 5, .int .i64 t, .int .i64 d, .int .i64 k, .string r] _ _ (by simp) (by simp) hb; have x1 := bt.1 1 _ rfl; have s0 := bs.1 0 _ rfl; have s1 := bs.1 1 _ rfl; have s2 := bs.1 2 _ rfl; have s3 := bs.1 3 _ rfl; have s4 := bs.1 4 _ rfl; clear hb bt bs)
        go_ret
        exact ⟨ret_bool (by first | exact hr.out.symm | (rw [hr.out]; simp; done) | (rw [hr.out]; simp; omega)), hB⟩
    have hr0 := hS.2.2.2.2.2.2 i3
    have hk0 := hS.2.2.2.1.2 i2
    subst hr0 hk0
    by_cases i4 : i = 4
    · subst i4
      clear i1 i2 i3 i5
      by_cases h2 : t = tr
      · have h2' : (t == tr) = true := by simpa using h2
        by_cases h3 : d = 0
        · subst h3
          have hr : Hid (rightT tr ⟨4, t, 0, 0, ⟨#[]⟩⟩ = true) := rightL_true hb (by omega)
          clear hb hS h2
          go_enter Try.func10, Try.ntmps10
          go_wp2_with (go_at_call 31; refine (c1 _).mono ?_; rintro e w1 ⟨rfl, hb⟩; obtain ⟨bt, bs, hB⟩ := boxes2 w [.slice ta tl tc, .int .i64 tr, .int .i64 wt, .int .i64 le] [.int .i64 4, .int .i64 t, .int .i64 0, .int .i64 0, .string ⟨#[]⟩] _ _ (by simp) (by simp) hb; have x1 := bt.1 1 _ rfl; have s0 := bs.1 0 _ rfl; have s1 := bs.1 1 _ rfl; have s2 := bs.1 2 _ rfl; have s3 := bs.1 3 _ rfl; have s4 := bs.1 4 _ rfl; clear hb bt bs)
          go_ret
          exact ⟨ret_bool (by first | exact hr.out.symm | (rw [hr.out]; simp; done) | (rw [hr.out]; simp; omega)), hB⟩
        · have hr : Hid (rightT tr ⟨4, t, d, 0, ⟨#[]⟩⟩ = false) := rightL_false (by omega)
          have h3' : (d == 0) = false := by simpa using h3
          clear hb hS h2
          go_enter Try.func10, Try.ntmps10
          go_wp2_with (go_at_call 31; refine (c1 _).mono ?_; rintro e w1 ⟨rfl, hb⟩; obtain ⟨bt, bs, hB⟩ := boxes2 w [.slice ta tl tc, .int .i64 tr, .int .i64 wt, .int .i64 le] [.int .i64 4, .int .i64 t, .int .i64 d, .int .i64 0, .string ⟨#[]⟩] _ _ (by simp) (by simp) hb; have x1 := bt.1 1 _ rfl; have s0 := bs.1 0 _ rfl; have s1 := bs.1 1 _ rfl; have s2 := bs.1 2 _ rfl; have s3 := bs.1 3 _ rfl; have s4 := bs.1 4 _ rfl; clear hb bt bs)
          go_ret
          exact ⟨ret_bool (by first | exact hr.out.symm | (rw [hr.out]; simp; done) | (rw [hr.out]; simp; omega)), hB⟩
      · have hr : Hid (rightT tr ⟨4, t, d, 0, ⟨#[]⟩⟩ = false) := rightL_false (by omega)
        have h2' : (t == tr) = false := by simpa using h2
        clear hb hS
        go_enter Try.func10, Try.ntmps10
        go_wp2_with (go_at_call 31; refine (c1 _).mono ?_; rintro e w1 ⟨rfl, hb⟩; obtain ⟨bt, bs, hB⟩ := boxes2 w [.slice ta tl tc, .int .i64 tr, .int .i64 wt, .int .i64 le] [.int .i64 4, .int .i64 t, .int .i64 d, .int .i64 0, .string ⟨#[]⟩] _ _ (by simp) (by simp) hb; have x1 := bt.1 1 _ rfl; have s0 := bs.1 0 _ rfl; have s1 := bs.1 1 _ rfl; have s2 := bs.1 2 _ rfl; have s3 := bs.1 3 _ rfl; have s4 := bs.1 4 _ rfl; clear hb bt bs)
        go_ret
        exact ⟨ret_bool (by first | exact hr.out.symm | (rw [hr.out]; simp; done) | (rw [hr.out]; simp; omega)), hB⟩
    obtain rfl : i = 0 := by omega
    clear i1 i2 i3 i4 i5
    by_cases h2 : t = 0
    · subst h2
      by_cases h3 : d = 0
      · subst h3
        have hr : Hid (rightT tr ⟨0, 0, 0, 0, ⟨#[]⟩⟩ = true) := rightL_true hb (by omega)
        clear hb hS
        go_enter Try.func10, Try.ntmps10
        go_wp2_with (go_at_call 31; refine (c1 _).mono ?_; rintro e w1 ⟨rfl, hb⟩; obtain ⟨bt, bs, hB⟩ := boxes2 w [.slice ta tl tc, .int .i64 tr, .int .i64 wt, .int .i64 le] [.int .i64 0, .int .i64 0, .int .i64 0, .int .i64 0, .string ⟨#[]⟩] _ _ (by simp) (by simp) hb; have x1 := bt.1 1 _ rfl; have s0 := bs.1 0 _ rfl; have s1 := bs.1 1 _ rfl; have s2 := bs.1 2 _ rfl; have s3 := bs.1 3 _ rfl; have s4 := bs.1 4 _ rfl; clear hb bt bs)
        go_ret
        exact ⟨ret_bool (by first | exact hr.out.symm | (rw [hr.out]; simp; done) | (rw [hr.out]; simp; omega)), hB⟩
      · have hr : Hid (rightT tr ⟨0, 0, d, 0, ⟨#[]⟩⟩ = false) := rightL_false (by omega)
        have h3' : (d == 0) = false := by simpa using h3
        clear hb hS
        go_enter Try.func10, Try.ntmps10
        go_wp2_with (go_at_call 31; refine (c1 _).mono ?_; rintro e w1 ⟨rfl, hb⟩; obtain ⟨bt, bs, hB⟩ := boxes2 w [.slice ta tl tc, .int .i64 tr, .int .i64 wt, .int .i64 le] [.int .i64 0, .int .i64 0, .int .i64 d, .int .i64 0, .string ⟨#[]⟩] _ _ (by simp) (by simp) hb; have x1 := bt.1 1 _ rfl; have s0 := bs.1 0 _ rfl; have s1 := bs.1 1 _ rfl; have s2 := bs.1 2 _ rfl; have s3 := bs.1 3 _ rfl; have s4 := bs.1 4 _ rfl; clear hb bt bs)
        go_ret
        exact ⟨ret_bool (by first | exact hr.out.symm | (rw [hr.out]; simp; done) | (rw [hr.out]; simp; omega)), hB⟩
    · have hr : Hid (rightT tr ⟨0, t, d, 0, ⟨#[]⟩⟩ = false) := rightL_false (by omega)
      have h2' : (t == 0) = false := by simpa using h2
      clear hb hS
      go_enter Try.func10, Try.ntmps10
      go_wp2_with (go_at_call 31; refine (c1 _).mono ?_; rintro e w1 ⟨rfl, hb⟩; obtain ⟨bt, bs, hB⟩ := boxes2 w [.slice ta tl tc, .int .i64 tr, .int .i64 wt, .int .i64 le] [.int .i64 0, .int .i64 t, .int .i64 d, .int .i64 0, .string ⟨#[]⟩] _ _ (by simp) (by simp) hb; have x1 := bt.1 1 _ rfl; have s0 := bs.1 0 _ rfl; have s1 := bs.1 1 _ rfl; have s2 := bs.1 2 _ rfl; have s3 := bs.1 3 _ rfl; have s4 := bs.1 4 _ rfl; clear hb bt bs)
      go_ret
      exact ⟨ret_bool (by first | exact hr.out.symm | (rw [hr.out]; simp; done) | (rw [hr.out]; simp; omega)), hB⟩

end Go.Proofs.Ytnipikdlfmcheaa

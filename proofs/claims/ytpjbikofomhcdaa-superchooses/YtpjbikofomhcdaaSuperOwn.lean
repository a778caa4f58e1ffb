/-
  Package super's Right and Put, and the document's own.
-/
import Derived.Test.YtpjbikofomhcdaaSuperPlain
import Derived.Test.YtpjbikofomhcdaaSuperMem
import Derived.Test.YtpjbikofomhcdaaPagePut
namespace Go.Proofs.Ytpjbikofomhcdaa
open Go.RowKit Plain
set_option linter.unusedVariables false

def isGenS (g : Int) : Bool := decide (1 ≤ g) && decide (g ≤ 1099511627776)
def isSizeS (z : Int) : Bool := decide (24 ≤ z) && decide (z ≤ 2048)
def isBlockS (b z : Int) : Bool := decide (10 ≤ b) && decide (b < z)

theorem isGenS_any (g : Int) (w : World) :
    Calls Try.prog 19 #[.int .i64 g] w fun e w' => e = .returned (.bool (isGenS g)) ∧ w = w' := by
  by_cases h : 1 ≤ g
  · go_enter Try.func19, Try.ntmps19
    go_wp2
    go_ret
    exact ⟨ret_bool (by simp [isGenS, h]), rfl⟩
  · go_enter Try.func19, Try.ntmps19
    go_wp2
    go_ret
    exact ⟨ret_bool (by rw [isGenS, decide_eq_false (by omega)]; rfl), rfl⟩

theorem isSizeS_any (g : Int) (w : World) :
    Calls Try.prog 20 #[.int .i64 g] w fun e w' => e = .returned (.bool (isSizeS g)) ∧ w = w' := by
  by_cases h : 24 ≤ g
  · go_enter Try.func20, Try.ntmps20
    go_wp2
    go_ret
    exact ⟨ret_bool (by simp [isSizeS, h]), rfl⟩
  · go_enter Try.func20, Try.ntmps20
    go_wp2
    go_ret
    exact ⟨ret_bool (by rw [isSizeS, decide_eq_false (by omega)]; rfl), rfl⟩

theorem isBlockS_any (b z : Int) (w : World) :
    Calls Try.prog 21 #[.int .i64 b, .int .i64 z] w fun e w' => e = .returned (.bool (isBlockS b z)) ∧ w = w' := by
  by_cases h : 10 ≤ b
  · go_enter Try.func21, Try.ntmps21
    go_wp2
    go_ret
    exact ⟨ret_bool (by simp [isBlockS, h]), rfl⟩
  · go_enter Try.func21, Try.ntmps21
    go_wp2
    go_ret
    exact ⟨ret_bool (by rw [isBlockS, decide_eq_false (by omega)]; rfl), rfl⟩

theorem rightSu_eq (g r m z : Int) : rightSu g r m z = (isGenS g && isSizeS z && (decide (r = 0) || isBlockS r z) && isBlockS m z && !decide (m = r)) := by
  rw [Bool.eq_iff_iff, rightSu_iff]
  simp [isGenS, isSizeS, isBlockS]
  omega

set_option maxHeartbeats 2000000 in
theorem suRight_any (g r m z : Int) (w : World) :
    Calls Try.prog 10 #[.agg #[.int .i64 g, .int .i64 r, .int .i64 m, .int .i64 z]] w fun e w' => e = .returned (.bool (rightSu g r m z)) ∧ Below w.heap.size w w' := by
  have e := rightSu_eq g r m z
  obtain ⟨x, hx⟩ : ∃ x, x = isGenS g := ⟨_, rfl⟩
  obtain ⟨y, hy⟩ : ∃ x, x = isSizeS z := ⟨_, rfl⟩
  obtain ⟨u, hu⟩ : ∃ x, x = isBlockS r z := ⟨_, rfl⟩
  obtain ⟨v, hv⟩ : ∃ x, x = isBlockS m z := ⟨_, rfl⟩
  have c1 : ∀ W, Calls Try.prog 19 #[.int .i64 g] W fun e w' => e = .returned (.bool x) ∧ W = w' := by rw [hx]; exact isGenS_any g
  have c2 : ∀ W, Calls Try.prog 20 #[.int .i64 z] W fun e w' => e = .returned (.bool y) ∧ W = w' := by rw [hy]; exact isSizeS_any z
  have c3 : ∀ W, Calls Try.prog 21 #[.int .i64 r, .int .i64 z] W fun e w' => e = .returned (.bool u) ∧ W = w' := by rw [hu]; exact isBlockS_any r z
  have c4 : ∀ W, Calls Try.prog 21 #[.int .i64 m, .int .i64 z] W fun e w' => e = .returned (.bool v) ∧ W = w' := by rw [hv]; exact isBlockS_any m z
  rw [← hx, ← hy, ← hu, ← hv] at e
  clear hx hy hu hv
  obtain ⟨q, hq⟩ : ∃ q, q = rightSu g r m z := ⟨_, rfl⟩
  rw [← hq] at e ⊢
  clear hq
  cases x
  · obtain rfl : q = false := by simpa using e
    clear e
    go_enter Try.func10, Try.ntmps10
    go_wp2_with (go_at_call 19; refine (c1 _).mono ?_; rintro e w' ⟨rfl, rfl⟩)
    go_ret
    exact ⟨rfl, (Below.refl _ _).alloc (Nat.le_refl _) _⟩
  cases y
  · obtain rfl : q = false := by simpa using e
    clear e
    go_enter Try.func10, Try.ntmps10
    go_wp2_with (first
      | (go_at_call 19; refine (c1 _).mono ?_; rintro e w' ⟨rfl, rfl⟩)
      | (go_at_call 20; refine (c2 _).mono ?_; rintro e w' ⟨rfl, rfl⟩))
    go_ret
    exact ⟨rfl, (Below.refl _ _).alloc (Nat.le_refl _) _⟩
  have tok1 : True := trivial
  by_cases hr : r = 0
  · subst hr
    by_cases hm : m = 0
    · subst hm
      obtain rfl : q = false := by simpa using e
      clear e
      cases v
      all_goals
        go_enter Try.func10, Try.ntmps10
        go_wp2_with (first
          | (go_at_call 19; refine (c1 _).mono ?_; rintro e w' ⟨rfl, rfl⟩)
          | (go_at_call 20; refine (c2 _).mono ?_; rintro e w' ⟨rfl, rfl⟩)
          | (go_at_call 21; refine (c4 _).mono ?_; rintro e w' ⟨rfl, rfl⟩))
        go_ret
        exact ⟨ret_bool (by simp), (Below.refl _ _).alloc (Nat.le_refl _) _⟩
    · obtain rfl : q = v := by simpa [hm] using e
      clear e
      have hm' : (m == 0) = false := by simpa using hm
      cases q
      all_goals
        go_enter Try.func10, Try.ntmps10
        go_wp2_with (first
          | (go_at_call 19; refine (c1 _).mono ?_; rintro e w' ⟨rfl, rfl⟩)
          | (go_at_call 20; refine (c2 _).mono ?_; rintro e w' ⟨rfl, rfl⟩)
          | (go_at_call 21; refine (c4 _).mono ?_; rintro e w' ⟨rfl, rfl⟩))
        go_ret
        exact ⟨ret_bool (by simp <;> exact hm), (Below.refl _ _).alloc (Nat.le_refl _) _⟩
  · have hr' : (r == 0) = false := by simpa using hr
    cases u
    · obtain rfl : q = false := by simpa [hr] using e
      clear e
      go_enter Try.func10, Try.ntmps10
      go_wp2_with (first
        | (go_at_call 19; refine (c1 _).mono ?_; rintro e w' ⟨rfl, rfl⟩)
        | (go_at_call 20; refine (c2 _).mono ?_; rintro e w' ⟨rfl, rfl⟩)
        | (go_at_call 21; refine (c3 _).mono ?_; rintro e w' ⟨rfl, rfl⟩))
      go_ret
      exact ⟨rfl, (Below.refl _ _).alloc (Nat.le_refl _) _⟩
    · by_cases hm : m = r
      · subst hm
        obtain rfl : q = false := by simpa using e
        clear e
        cases v
        all_goals
          go_enter Try.func10, Try.ntmps10
          go_wp2_with (first
            | (go_at_call 19; refine (c1 _).mono ?_; rintro e w' ⟨rfl, rfl⟩)
            | (go_at_call 20; refine (c2 _).mono ?_; rintro e w' ⟨rfl, rfl⟩)
            | (go_at_call 21; have _t := tok1; refine (c3 _).mono ?_; rintro e w' ⟨rfl, rfl⟩; clear tok1)
            | (go_at_call 21; refine (c4 _).mono ?_; rintro e w' ⟨rfl, rfl⟩))
          go_ret
          exact ⟨ret_bool (by simp), (Below.refl _ _).alloc (Nat.le_refl _) _⟩
      · obtain rfl : q = v := by simpa [hm, hr] using e
        clear e
        have hm' : (m == r) = false := by simpa using hm
        cases q
        all_goals
          go_enter Try.func10, Try.ntmps10
          go_wp2_with (first
            | (go_at_call 19; refine (c1 _).mono ?_; rintro e w' ⟨rfl, rfl⟩)
            | (go_at_call 20; refine (c2 _).mono ?_; rintro e w' ⟨rfl, rfl⟩)
            | (go_at_call 21; have _t := tok1; refine (c3 _).mono ?_; rintro e w' ⟨rfl, rfl⟩; clear tok1)
            | (go_at_call 21; refine (c4 _).mono ?_; rintro e w' ⟨rfl, rfl⟩))
          go_ret
          exact ⟨ret_bool (by simp <;> exact hm), (Below.refl _ _).alloc (Nat.le_refl _) _⟩

theorem box4_cells {w w' : World} {v0 v1 v2 v3 : Value} {t : TypeId} (hb : Below (w.alloc (.cells #[v0, v1, v2, v3] t)).heap.size (w.alloc (.cells #[v0, v1, v2, v3] t)) w') : Box4 w' w.heap.size v0 v1 v2 v3 :=
  (box4_new w v0 v1 v2 v3 t rfl).below hb

set_option maxHeartbeats 1000000 in
theorem suPut_any (g r m z : Int) (w : World) :
    Calls Try.prog 7 #[.agg #[.int .i64 g, .int .i64 r, .int .i64 m, .int .i64 z]] w fun e w' => e = .returned (.tuple #[.string (suS g r m z), .int .i64 (suP g r m z)]) ∧ Below w.heap.size w w' := by
  have c0 := fun W => suRight_any g r m z W
  by_cases h : rightSu g r m z = true
  · obtain ⟨⟨r0, r1⟩, ⟨m0, m1⟩, z0, z1⟩ := rightSu_small h
    have eS : suS g r m z = pageS 4 g (bodySu r m z) := by rw [suS, if_pos h]
    have eE : suP g r m z = 0 := by rw [suP, if_pos h]
    have hz1 := putS_size (small_ok r0 r1)
    have hz2 := putS_size (small_ok m0 m1)
    have hz3 := putS_size (small_ok z0 z1)
    have hR := bodySu_page h
    have hbz := bodySu_size h
    obtain ⟨x, hx⟩ : ∃ x, x = putS r 2 := ⟨_, rfl⟩
    obtain ⟨y, hy⟩ : ∃ y, y = putS m 2 := ⟨_, rfl⟩
    obtain ⟨v, hv⟩ : ∃ z', z' = putS z 2 := ⟨_, rfl⟩
    obtain ⟨t, ht⟩ : ∃ t, t = bodySu r m z := ⟨_, rfl⟩
    have hcat : cat [x, y, v] = t := by rw [ht, hx, hy, hv]; rfl
    have c1 : ∀ W, Calls Try.prog 16 #[.int .i64 r, .int .i64 2] W fun e w' => ∃ v, e = .returned (.tuple #[.string x, .int .i64 v]) ∧ Below W.heap.size W w' := by
      intro W; rw [hx]; exact (put_any r 2 W).mono fun e w' ⟨he, hb⟩ => ⟨_, he, hb⟩
    have c2 : ∀ W, Calls Try.prog 16 #[.int .i64 m, .int .i64 2] W fun e w' => ∃ v, e = .returned (.tuple #[.string y, .int .i64 v]) ∧ Below W.heap.size W w' := by
      intro W; rw [hy]; exact (put_any m 2 W).mono fun e w' ⟨he, hb⟩ => ⟨_, he, hb⟩
    have c3 : ∀ W, Calls Try.prog 16 #[.int .i64 z, .int .i64 2] W fun e w' => ∃ u, e = .returned (.tuple #[.string v, .int .i64 u]) ∧ Below W.heap.size W w' := by
      intro W; rw [hv]; exact (put_any z 2 W).mono fun e w' ⟨he, hb⟩ => ⟨_, he, hb⟩
    have c4 : ∀ W : World, Calls Try.prog 18 #[.slice (some ⟨W.heap.size, 0, none⟩) 3 3] (W.alloc (.cells #[.string x, .string y, .string v] 9)) fun e w' => e = .returned (.string t) ∧ Below W.heap.size W w' := by
      intro W
      have := all_three x y v W (by rw [hx, hy, hv]; omega)
      rwa [hcat] at this
    have c5 : ∀ W, Calls Try.prog 17 #[.agg #[.int .i64 4, .int .i64 g, .string t]] W fun e w' => e = .returned (.tuple #[.string (suS g r m z), .int .i64 0]) ∧ Below W.heap.size W w' := by
      intro W
      have := pagePut_any 4 g t W (by rw [ht, hbz]; decide)
      rw [ht, ← eS, show pageE 4 g (bodySu r m z) = 0 by rw [pageE, if_pos hR]] at this
      rw [ht]; exact this
    rw [eE]
    rw [h] at c0
    obtain ⟨q, hq⟩ : ∃ q, q = suS g r m z := ⟨_, rfl⟩
    rw [← hq] at c5 ⊢
    have tok1 : True := trivial
    have tok2 : True := trivial
    clear r0 r1 m0 m1 z0 z1 eS eE hz1 hz2 hz3 hR hbz hcat hx hy hv ht hq h
    go_enter Try.func7, Try.ntmps7
    go_wp2_with (first
      | (go_at_call 10; refine (c0 _).mono ?_; rintro e w1 ⟨rfl, hb⟩; have Q := box4_cells hb; obtain ⟨⟨q0, q1, q2, q3⟩, -⟩ := id Q; have hB := below_box hb; clear hb c0)
      | (go_at_call 16; have _t := tok1; refine (c1 _).mono ?_; rintro e w2 ⟨v1, rfl, hb⟩; replace Q := Q.below hb; obtain ⟨⟨q0, q1, q2, q3⟩, -⟩ := id Q; replace hB := Below.tr hB hb; clear hb tok1)
      | (go_at_call 16; have _t := tok2; refine (c2 _).mono ?_; rintro e w3 ⟨v2, rfl, hb⟩; replace Q := Q.below hb; obtain ⟨⟨q0, q1, q2, q3⟩, -⟩ := id Q; replace hB := Below.tr hB hb; clear hb tok2)
      | (go_at_call 16; refine (c3 _).mono ?_; rintro e w4 ⟨v3, rfl, hb⟩; replace Q := Q.below hb; obtain ⟨⟨q0, q1, q2, q3⟩, -⟩ := id Q; replace hB := Below.tr hB hb; clear hb))
    replace Q := Q.drew
    replace hB := hB.drew
    clear q0 q1 q2 q3
    have c4' : ∀ W : World, Calls Try.prog 18 #[.slice (some ⟨W.heap.size, 0, none⟩) 3 3] (W.alloc (.cells #[.string x, .string y, .string v] 9)).drew fun e w' => e = .returned (.string t) ∧ Below W.drew.heap.size W.drew w' := fun W => c4 W.drew
    clear c4
    go_region_held3 (fun V => V.cell? ⟨w.heap.size, 0, none⟩ = some (.int .i64 g)) (first | exact Q.1.1 | exact (Q.alloc _).1.1) (first
      | (go_at_call 18; refine (c4' _).mono ?_; rintro e w5 ⟨rfl, hb⟩; replace hB := Below.tr hB hb; replace Q := Q.below hb; clear hb)
      | (go_at_call 17; refine (c5 _).mono ?_; rintro e w6 ⟨rfl, hb⟩; replace hB := Below.tr hB hb; replace Q := Q.below hb; clear hb))
    go_wp2
    go_ret2
    exact ⟨rfl, hB⟩
  · have h' : rightSu g r m z = false := by simpa using h
    rw [show suS g r m z = ⟨#[]⟩ by rw [suS, if_neg h], show suP g r m z = 1 by rw [suP, if_neg h]]
    rw [h'] at c0
    go_enter Try.func7, Try.ntmps7
    go_wp2_with (go_at_call 10; refine (c0 _).mono ?_; rintro e w1 ⟨rfl, hb⟩)
    go_ret2
    exact ⟨rfl, below_box hb⟩

end Go.Proofs.Ytpjbikofomhcdaa

/-
  The walk through the statement PageBack.
-/
import Derived.Test.YtoajdkjffnnamaaPageWant
import Derived.Test.YtoajdkjffnnamaaPageOpen
namespace Go.Proofs.Ytoajdkjffnnamaa
open Go.RowKit Plain
set_option linter.unusedVariables false

set_option maxHeartbeats 1000000 in
theorem pageBack_bad (k g : Int) (b : ByteArray) (z : Int) (w : World) (hs : b.size ≤ maxLen) (h : rightP k g b = false) :
    Calls Try.prog 5 #[.agg #[.int .i64 k, .int .i64 g, .string b], .int .i64 z] w fun e w' => e = .returned (.bool true) ∧ Below w.heap.size w w' := by
  have c0 := fun W => right_any k g b W hs
  have c1 := fun W => pagePut_any k g b W hs
  have c3 := alive_any
  rw [h] at c0
  rw [show pageE k g b = 1 by rw [pageE, h]; rfl, pageS_bad h] at c1
  clear h
  go_enter Try.func5, Try.ntmps5
  go_wp2_with (first
    | (go_at_call 7; refine (c1 _).mono ?_; rintro e w1 ⟨rfl, hb⟩; obtain ⟨q0, q1, q2⟩ := box3_cells hb; have hB := below_box hb; clear hb)
    | (go_at_call 9; refine (c3 _).mono ?_; rintro e w3 ⟨rfl, hb⟩; obtain ⟨q0, q1, q2⟩ := box3_from q0 q1 q2 hb; replace hB := Below.tr hB hb; clear hb)
    | (go_at_call 10; refine (c0 _).mono ?_; rintro e w4 ⟨rfl, hb⟩; obtain ⟨q0, q1, q2⟩ := box3_from q0 q1 q2 hb; replace hB := Below.tr hB hb; clear hb))
  go_ret
  exact ⟨ret_bool (by simp), hB⟩

set_option maxHeartbeats 1000000 in
theorem pageBack_ok (k g : Int) (b : ByteArray) (z : Int) (w : World) (hz : -9223372036854775808 ≤ z ∧ z ≤ 9223372036854775807) (hs : b.size ≤ maxLen) (h : rightP k g b = true) :
    Calls Try.prog 5 #[.agg #[.int .i64 k, .int .i64 g, .string b], .int .i64 z] w fun e w' => e = .returned (.bool true) ∧ Below w.heap.size w w' := by
  have c0 := fun W => right_any k g b W hs
  have c1 := fun W => pagePut_any k g b W hs
  have c3 := alive_any
  have hmax := pageS_max k g b
  rw [h] at c0
  rw [show pageE k g b = 0 by rw [pageE, h]; rfl] at c1
  obtain ⟨P, hP⟩ : ∃ P, P = pageS k g b := ⟨_, rfl⟩
  rw [← hP] at c1 hmax
  obtain ⟨h1, h5, h0, hg, hb4⟩ := (rightP_iff _ _ _).1 h
  obtain ⟨d, hd, hmn⟩ : ∃ d : Nat, P.size + d ≤ 4096 ∧ min (max z 0) (max (4096 - (P.size : Int)) 0) = (d : Int) := by
    refine ⟨(min (max z 0) (max (4096 - (P.size : Int)) 0)).toNat, ?_, ?_⟩ <;> omega
  obtain ⟨r1, r2, r3, r4⟩ := page_back h d (by rw [← hP]; exact hd)
  obtain ⟨t1, t2, t3, t4⟩ := page_back h 0 (by rw [← hP]; omega)
  rw [← hP] at r1 r2 r3 r4 t1 t2 t3 t4
  have hP0 : P ++ zeros 0 = P := by apply bytes_ext; rw [data_append]; simp [zeros]
  rw [hP0] at t1 t2 t3 t4
  have cG : ∀ W, Calls Try.prog 12 #[.string (P ++ zeros d)] W fun e w' => e = .returned (.tuple #[.agg #[.int .i64 k, .int .i64 g, .string b], .int .i64 0]) ∧ Below W.heap.size W w' := by
    intro W
    refine (pageGet_any _ W (by rw [ByteArray.size_append, zeros_size]; unfold maxLen; omega)).mono fun ee w' ⟨he, hb⟩ => ⟨?_, hb⟩
    rw [he, r1, r2, r3, r4]
  have cW : ∀ W : World, Calls Try.prog 14 #[.string P, .slice (some ⟨W.heap.size, 0, none⟩) 5 5] (W.alloc (.cells #[.int .i64 1, .int .i64 2, .int .i64 3, .int .i64 4, .int .i64 5] 3)) fun e w' => e = .returned (.tuple #[.agg #[.int .i64 k, .int .i64 g, .string b], .int .i64 0]) ∧ Below W.heap.size W w' := by
    intro W
    have hI : IsI (W.alloc (.cells #[.int .i64 1, .int .i64 2, .int .i64 3, .int .i64 4, .int .i64 5] 3)) (some ⟨W.heap.size, 0, none⟩) 5 [1, 2, 3, 4, 5] := by
      refine ⟨by simp, by unfold maxLen; omega, fun j x hx => ⟨W.heap.size, 0, rfl, by simp, ?_⟩⟩
      rw [Nat.zero_add, World.cell?_alloc_at _ _ _ _ rfl]
      match j, hx with
      | 0, hx => simp at hx; subst hx; rfl
      | 1, hx => simp at hx; subst hx; rfl
      | 2, hx => simp at hx; subst hx; rfl
      | 3, hx => simp at hx; subst hx; rfl
      | 4, hx => simp at hx; subst hx; rfl
      | j + 5, hx => simp at hx
    have eW : wantE P [1, 2, 3, 4, 5] = 0 := by
      unfold wantE
      rw [if_pos t1, if_pos]
      rw [t2]
      simp
      omega
    refine (want_any P _ 5 [1, 2, 3, 4, 5] _ (by unfold maxLen; omega) hI).mono fun ee w' ⟨he, hb⟩ => ⟨?_, below_box hb⟩
    rw [he, wantK, wantG, wantB, eW, if_pos rfl, if_pos rfl, if_pos rfl, t2, t3, t4]
  have cW' : ∀ (W : World) (X : Obj), Calls Try.prog 14 #[.string P, .slice (some ⟨W.heap.size + 1, 0, none⟩) 5 5] ((W.alloc X).alloc (.cells #[.int .i64 1, .int .i64 2, .int .i64 3, .int .i64 4, .int .i64 5] 3)) fun e w' => e = .returned (.tuple #[.agg #[.int .i64 k, .int .i64 g, .string b], .int .i64 0]) ∧ Below (W.alloc X).heap.size (W.alloc X) w' := by
    intro W X
    have e : (W.alloc X).heap.size = W.heap.size + 1 := by simp
    rw [← e]
    exact cW (W.alloc X)
  clear cW
  have hmk := fun W => run_make_row' (P := Try.prog) 35 5 (.int .u8 0) 1 Try.underlying35 Try.info5 rfl .i64 .i64 d (by omega) (by omega) W
  have hcv := fun W => conv_row W (List.replicate d 0) d (List.length_replicate) d
  rw [zeros_cells] at hcv
  have ez : (⟨(List.replicate d 0).toArray⟩ : ByteArray) = zeros d := rfl
  rw [ez] at hcv
  have hsum : ¬ 9223372036854775807 < P.size + (zeros d).size := by rw [zeros_size]; omega
  have hmax' : P.size ≤ 4096 := by omega
  clear r1 r2 r3 r4 t1 t2 t3 t4 hP0 ez hP h h1 h5 h0 hg hb4 hs
  go_enter Try.func5, Try.ntmps5
  go_wp2_with (first
    | (go_at_call 7; refine (c1 _).mono ?_; rintro e w1 ⟨rfl, hb⟩; have Q := (box3_new _ _ _ _ _).below hb; have hB := below_box hb; clear hb)
    | (go_at_call 12; refine (cG _).mono ?_; rintro e w2 ⟨rfl, hb⟩; replace Q := ((Q.alloc (.cells (madeCells #[.int .u8 0] d) 5)).below hb).alloc (.cells #[.int .i64 k, .int .i64 g, .string b] 23); replace hB := Below.tr (hB.alloc hB.size (.cells (madeCells #[.int .u8 0] d) 5)) hb; replace hB := hB.alloc hB.size (.cells #[.int .i64 k, .int .i64 g, .string b] 23); have R := box3_new w2 (.int .i64 k) (.int .i64 g) (.string b) 23; clear hb)
    | (go_at_call 14; refine (cW' _ _).mono ?_; rintro e w3 ⟨rfl, hb⟩; replace Q := (Q.below hb).alloc (.cells #[.int .i64 k, .int .i64 g, .string b] 23); replace R := (R.below hb).alloc (.cells #[.int .i64 k, .int .i64 g, .string b] 23); replace hB := Below.tr hB hb; replace hB := hB.alloc hB.size (.cells #[.int .i64 k, .int .i64 g, .string b] 23); have T := box3_new w3 (.int .i64 k) (.int .i64 g) (.string b) 23; clear hb)
    | (go_at_call 9; refine (c3 _).mono ?_; rintro e w4 ⟨rfl, hb⟩; replace Q := Q.below hb; replace R := R.below hb; replace T := T.below hb; obtain ⟨⟨q0, q1, q2⟩, _⟩ := id Q; obtain ⟨⟨s0, s1, s2⟩, _⟩ := id R; obtain ⟨⟨u0, u1, u2⟩, _⟩ := id T; replace hB := Below.tr hB hb; clear hb)
    | (go_at_call 10; refine (c0 _).mono ?_; rintro e w5 ⟨rfl, hb⟩; replace hB := Below.tr hB hb; clear hb))
  go_ret
  exact ⟨ret_bool (by simp; omega), hB⟩

theorem pageBack_walk (k g : Int) (b : ByteArray) (z : Int) (w : World) (hk : -9223372036854775808 ≤ k ∧ k ≤ 9223372036854775807) (hg : -9223372036854775808 ≤ g ∧ g ≤ 9223372036854775807) (hs : b.size ≤ maxLen) (wf : (Lit.int .i64 z).wf = true) :
    Calls Try.prog 5 #[.agg #[.int .i64 k, .int .i64 g, .string b], .int .i64 z] w fun e w' => e = .returned (.bool true) ∧ Below w.heap.size w w' := by
  have hz : -9223372036854775808 ≤ z ∧ z ≤ 9223372036854775807 := by simpa [Lit.wf, IntKind.min, IntKind.max, IntKind.signed, IntKind.bits] using wf
  cases h : rightP k g b with
  | true => exact pageBack_ok k g b z w hz hs h
  | false => exact pageBack_bad k g b z w hs h

end Go.Proofs.Ytoajdkjffnnamaa

/-
  Package task: a state's bytes, and the document's own.
-/
import Derived.Test.YtnipikdlfmcheaaTaskStand
import Derived.Test.YtnipikdlfmcheaaText
import Derived.Test.YtnipikdlfmcheaaRefPut
import Derived.Test.YtnipikdlfmcheaaRefText
namespace Go.Proofs.Ytnipikdlfmcheaa
open Go.RowKit Plain
set_option linter.unusedVariables false

theorem taskNumber_any (n k : Int) (w : World) : Calls Try.prog 40 #[.int .i64 n, .int .i64 k] w fun e w' => e = .returned (.string (putS n k)) ∧ Below w.heap.size w w' := by
  have c := fun W => put_any n k W
  generalize putS n k = x at *
  generalize putE n k = y at *
  go_enter Try.func40, Try.ntmps40
  go_wp2_with (go_at_call 50; refine (c _).mono ?_; rintro e w3 ⟨rfl, hb⟩)
  go_ret
  exact ⟨rfl, hb⟩

theorem taskText_any (s : ByteArray) (w : World) (hs : s.size ≤ maxLen) : Calls Try.prog 41 #[.string s] w fun e w' => e = .returned (.string (textS s)) ∧ Below w.heap.size w w' := by
  have c := fun W => text_any s W hs
  generalize textS s = x at *
  generalize textE s = y at *
  go_enter Try.func41, Try.ntmps41
  go_wp2_with (go_at_call 51; refine (c _).mono ?_; rintro e w3 ⟨rfl, hb⟩)
  go_ret
  exact ⟨rfl, hb⟩

theorem putS6T (n k : Int) : (putS n k).size ≤ 6 := by
  by_cases h : putOk n k = true
  · have := putS_size h
    have := ((putOk_iff n k).1 h).2.1
    omega
  · rw [putS_bad (by simpa using h)]; exact Nat.zero_le _

theorem textZT (s : ByteArray) : (textS s).size ≤ 65537 := by
  by_cases h : s.size ≤ 65535
  · rw [textS_size h]; omega
  · rw [textS, if_neg h]; exact Nat.zero_le _

theorem all_five (a b c d f : ByteArray) (w : World) (hlen : a.size + b.size + c.size + d.size + f.size ≤ 140737488355328) :
    Calls Try.prog 39 #[.slice (some ⟨w.heap.size, 0, none⟩) 5 5] (w.alloc (.cells #[.string a, .string b, .string c, .string d, .string f] 9)) fun e w' => e = .returned (.string (cat [a, b, c, d, f])) ∧ Below w.heap.size w w' := by
  refine (all_row w.heap.size 0 5 [a, b, c, d, f] _ ?_ (by simp) (by simp) (by simp) (by rw [cat_size]; simp; omega)).mono fun e w' ⟨he, hb⟩ => ⟨he, ((Below.refl _ _).alloc (Nat.le_refl _) _).trans (hb.mono (by simp))⟩
  intro j x hj
  rw [Nat.zero_add, World.cell?_alloc_at _ _ _ _ rfl]
  match j, hj with
  | 0, hj => simp at hj; subst hj; rfl
  | 1, hj => simp at hj; subst hj; rfl
  | 2, hj => simp at hj; subst hj; rfl
  | 3, hj => simp at hj; subst hj; rfl
  | 4, hj => simp at hj; subst hj; rfl


set_option maxRecDepth 20000 in
set_option maxHeartbeats 4000000 in
theorem putT_any (i t d k : Int) (r : ByteArray) (w : World) (hz : r.size ≤ maxLen) :
    Calls Try.prog 26 #[.agg #[.int .i64 i, .int .i64 t, .int .i64 d, .int .i64 k, .string r]] w fun e w' => e = .returned (.tuple #[.string (putT ⟨i, t, d, k, r⟩), .int .i64 (putET ⟨i, t, d, k, r⟩)]) ∧ Below w.heap.size w w' := by
  have c1 := fun W => mayStand_any i t d k r W hz
  cases hb0 : standT ⟨i, t, d, k, r⟩ with
  | false =>
    rw [hb0] at c1
    rw [show putT ⟨i, t, d, k, r⟩ = ⟨#[]⟩ by unfold putT; rw [hb0]; rfl, show putET ⟨i, t, d, k, r⟩ = 1 by unfold putET; rw [hb0]; rfl]
    clear hb0
    go_enter Try.func26, Try.ntmps26
    go_wp2_with (go_at_call 31; refine (c1 _).mono ?_; rintro e w1 ⟨rfl, hb⟩; obtain ⟨bs, hB⟩ := boxes1 w [.int .i64 i, .int .i64 t, .int .i64 d, .int .i64 k, .string r] _ hb)
    go_ret2
    exact ⟨rfl, hB⟩
  | true =>
    rw [hb0] at c1
    rw [show putT ⟨i, t, d, k, r⟩ = cat [putS i 1, putS t 1, putS d 6, putS k 6, textS r] by unfold putT; rw [hb0]; rfl, show putET ⟨i, t, d, k, r⟩ = 0 by unfold putET; rw [hb0]; rfl]
    have n1 := fun W => taskNumber_any i 1 W
    have n2 := fun W => taskNumber_any t 1 W
    have n3 := fun W => taskNumber_any d 6 W
    have n4 := fun W => taskNumber_any k 6 W
    have n5 := fun W => taskText_any r W hz
    have z1 := putS6T i 1
    have z2 := putS6T t 1
    have z3 := putS6T d 6
    have z4 := putS6T k 6
    have z5 := textZT r
    generalize putS i 1 = a1 at *
    generalize putS t 1 = a2 at *
    generalize putS d 6 = a3 at *
    generalize putS k 6 = a4 at *
    generalize textS r = a5 at *
    have c5 := fun W => all_five a1 a2 a3 a4 a5 W (by omega)
    have t1 := trivial
    have t2 := trivial
    have t3 := trivial
    clear hb0
    go_enter Try.func26, Try.ntmps26
    go_wp2_with (go_at_call 31; refine (c1 _).mono ?_; rintro e w1 ⟨rfl, hb⟩; obtain ⟨bs, hB⟩ := boxes1 w [.int .i64 i, .int .i64 t, .int .i64 d, .int .i64 k, .string r] _ hb; have s0 := bs.1 0 _ rfl; have s1 := bs.1 1 _ rfl; have s2 := bs.1 2 _ rfl; have s3 := bs.1 3 _ rfl; have s4 := bs.1 4 _ rfl; clear hb bs)
    replace s0 : w1.drew.cell? ⟨w.heap.size, 0, none⟩ = some (.int .i64 i) := s0
    replace s1 : w1.drew.cell? ⟨w.heap.size, 1, none⟩ = some (.int .i64 t) := s1
    replace s2 : w1.drew.cell? ⟨w.heap.size, 2, none⟩ = some (.int .i64 d) := s2
    replace s3 : w1.drew.cell? ⟨w.heap.size, 3, none⟩ = some (.int .i64 k) := s3
    replace s4 : w1.drew.cell? ⟨w.heap.size, 4, none⟩ = some (.string r) := s4
    replace hB : Below w.heap.size w w1.drew := hB.drew
    go_region_held3 (fun V => V.cell? ⟨w.heap.size, 0, none⟩ = some (.int .i64 i) ∧ V.cell? ⟨w.heap.size, 1, none⟩ = some (.int .i64 t) ∧ V.cell? ⟨w.heap.size, 2, none⟩ = some (.int .i64 d) ∧ V.cell? ⟨w.heap.size, 3, none⟩ = some (.int .i64 k) ∧ V.cell? ⟨w.heap.size, 4, none⟩ = some (.string r)) (first | exact ⟨s0, s1, s2, s3, s4⟩ | exact ⟨cell_alloc s0 _, cell_alloc s1 _, cell_alloc s2 _, cell_alloc s3 _, cell_alloc s4 _⟩) (first
      | (have _t := t1; go_at_call 40; refine (n1 _).mono ?_; clear t1 _t; rintro e w2 ⟨rfl, hb⟩
         replace s0 := cell_below hb s0; replace s1 := cell_below hb s1; replace s2 := cell_below hb s2; replace s3 := cell_below hb s3; replace s4 := cell_below hb s4; replace hB := Below.tr hB hb; clear hb)
      | (have _t := t2; go_at_call 40; refine (n2 _).mono ?_; clear t2 _t; rintro e w3 ⟨rfl, hb⟩
         replace s0 := cell_below hb s0; replace s1 := cell_below hb s1; replace s2 := cell_below hb s2; replace s3 := cell_below hb s3; replace s4 := cell_below hb s4; replace hB := Below.tr hB hb; clear hb)
      | (have _t := t3; go_at_call 40; refine (n3 _).mono ?_; clear t3 _t; rintro e w4 ⟨rfl, hb⟩
         replace s0 := cell_below hb s0; replace s1 := cell_below hb s1; replace s2 := cell_below hb s2; replace s3 := cell_below hb s3; replace s4 := cell_below hb s4; replace hB := Below.tr hB hb; clear hb)
      | (go_at_call 40; refine (n4 _).mono ?_; rintro e w5 ⟨rfl, hb⟩
         replace s0 := cell_below hb s0; replace s1 := cell_below hb s1; replace s2 := cell_below hb s2; replace s3 := cell_below hb s3; replace s4 := cell_below hb s4; replace hB := Below.tr hB hb; clear hb)
      | (go_at_call 41; refine (n5 _).mono ?_; rintro e w6 ⟨rfl, hb⟩
         replace s0 := cell_below hb s0; replace s1 := cell_below hb s1; replace s2 := cell_below hb s2; replace s3 := cell_below hb s3; replace s4 := cell_below hb s4; replace hB := Below.tr hB hb; clear hb)
      | (go_at_call 39; refine (c5 _).mono ?_; rintro e w7 ⟨rfl, hb⟩
         replace s0 := cell_below hb s0; replace s1 := cell_below hb s1; replace s2 := cell_below hb s2; replace s3 := cell_below hb s3; replace s4 := cell_below hb s4; replace hB := Below.tr hB hb; clear hb))
    go_wp2
    go_ret2
    exact ⟨rfl, hB⟩

theorem refNumberT_any (n k : Int) (w : World) : Calls Try.prog 46 #[.int .i64 n, .int .i64 k] w fun e w' => e = .returned (.string (putS n k)) ∧ Below w.heap.size w w' := by
  have c := fun W => refPut_any n k W
  generalize putS n k = x at *
  generalize putE n k = y at *
  go_enter Try.func46, Try.ntmps46
  go_wp2_with (go_at_call 57; refine (c _).mono ?_; rintro e w3 ⟨rfl, hb⟩)
  go_ret
  exact ⟨rfl, hb⟩

theorem cat_five (a b c d f : ByteArray) : cat [a, b, c, d, f] = a ++ b ++ c ++ d ++ f := by
  rw [show [a, b, c, d, f] = [a] ++ [b] ++ [c] ++ [d] ++ [f] by rfl, cat_append, cat_append, cat_append, cat_append, cat_one, cat_one, cat_one, cat_one, cat_one]

set_option maxRecDepth 20000 in
set_option maxHeartbeats 4000000 in
theorem refPutT_any (i t d k : Int) (r : ByteArray) (w : World) (hz : r.size ≤ maxLen) :
    Calls Try.prog 30 #[.agg #[.int .i64 i, .int .i64 t, .int .i64 d, .int .i64 k, .string r]] w fun e w' => e = .returned (.string (bytesT ⟨i, t, d, k, r⟩)) ∧ Below w.heap.size w w' := by
  have cX := fun W => refText_any r W hz
  rw [show bytesT ⟨i, t, d, k, r⟩ = putS i 1 ++ putS t 1 ++ putS d 6 ++ putS k 6 ++ textS r from cat_five _ _ _ _ _]
  have n1 := fun W => refNumberT_any i 1 W
  have n2 := fun W => refNumberT_any t 1 W
  have n3 := fun W => refNumberT_any d 6 W
  have n4 := fun W => refNumberT_any k 6 W
  have z1 := putS6T i 1
  have z2 := putS6T t 1
  have z3 := putS6T d 6
  have z4 := putS6T k 6
  have z5 := textZT r
  generalize putS i 1 = a1 at *
  generalize putS t 1 = a2 at *
  generalize putS d 6 = a3 at *
  generalize putS k 6 = a4 at *
  generalize textS r = a5 at *
  generalize textE r = y5 at *
  have t1 := trivial
  have t2 := trivial
  have t3 := trivial
  have h1 : ¬ 9223372036854775807 < a1.size + a2.size := by omega
  have h2 : ¬ 9223372036854775807 < a1.size + a2.size + a3.size := by omega
  have h3 : ¬ 9223372036854775807 < a1.size + a2.size + a3.size + a4.size := by omega
  have h4 : ¬ 9223372036854775807 < a1.size + a2.size + a3.size + a4.size + a5.size := by omega
  go_enter Try.func30, Try.ntmps30
  go_wp2_with (go_at_call 45; refine (cX _).mono ?_; rintro e w1 ⟨rfl, hb⟩; obtain ⟨bs, hB⟩ := boxes1 w [.int .i64 i, .int .i64 t, .int .i64 d, .int .i64 k, .string r] _ hb; have s0 := bs.1 0 _ rfl; have s1 := bs.1 1 _ rfl; have s2 := bs.1 2 _ rfl; have s3 := bs.1 3 _ rfl; have s4 := bs.1 4 _ rfl; clear hb bs)
  replace s0 : w1.drew.cell? ⟨w.heap.size, 0, none⟩ = some (.int .i64 i) := s0
  replace s1 : w1.drew.cell? ⟨w.heap.size, 1, none⟩ = some (.int .i64 t) := s1
  replace s2 : w1.drew.cell? ⟨w.heap.size, 2, none⟩ = some (.int .i64 d) := s2
  replace s3 : w1.drew.cell? ⟨w.heap.size, 3, none⟩ = some (.int .i64 k) := s3
  replace s4 : w1.drew.cell? ⟨w.heap.size, 4, none⟩ = some (.string r) := s4
  replace hB : Below w.heap.size w w1.drew := hB.drew
  go_region_held3 (fun V => V.cell? ⟨w.heap.size, 0, none⟩ = some (.int .i64 i) ∧ V.cell? ⟨w.heap.size, 1, none⟩ = some (.int .i64 t) ∧ V.cell? ⟨w.heap.size, 2, none⟩ = some (.int .i64 d) ∧ V.cell? ⟨w.heap.size, 3, none⟩ = some (.int .i64 k)) (exact ⟨s0, s1, s2, s3⟩) (first
      | (have _t := t1; go_at_call 46; refine (n1 _).mono ?_; clear t1 _t; rintro e w2 ⟨rfl, hb⟩
         replace s0 := cell_below hb s0; replace s1 := cell_below hb s1; replace s2 := cell_below hb s2; replace s3 := cell_below hb s3; replace s4 := cell_below hb s4; replace hB := Below.tr hB hb; clear hb)
      | (have _t := t2; go_at_call 46; refine (n2 _).mono ?_; clear t2 _t; rintro e w3 ⟨rfl, hb⟩
         replace s0 := cell_below hb s0; replace s1 := cell_below hb s1; replace s2 := cell_below hb s2; replace s3 := cell_below hb s3; replace s4 := cell_below hb s4; replace hB := Below.tr hB hb; clear hb)
      | (have _t := t3; go_at_call 46; refine (n3 _).mono ?_; clear t3 _t; rintro e w4 ⟨rfl, hb⟩
         replace s0 := cell_below hb s0; replace s1 := cell_below hb s1; replace s2 := cell_below hb s2; replace s3 := cell_below hb s3; replace s4 := cell_below hb s4; replace hB := Below.tr hB hb; clear hb)
      | (go_at_call 46; refine (n4 _).mono ?_; rintro e w5 ⟨rfl, hb⟩
         replace s0 := cell_below hb s0; replace s1 := cell_below hb s1; replace s2 := cell_below hb s2; replace s3 := cell_below hb s3; replace s4 := cell_below hb s4; replace hB := Below.tr hB hb; clear hb))
  go_wp2
  go_ret
  exact ⟨rfl, hB⟩

end Go.Proofs.Ytnipikdlfmcheaa

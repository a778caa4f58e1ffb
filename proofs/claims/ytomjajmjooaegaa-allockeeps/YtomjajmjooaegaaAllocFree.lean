/-
  Package alloc: Free, making, counting, New; the statements' own alive.
-/
import Derived.Test.YtomjajmjooaegaaAllocRight
import Derived.Test.YtomjajmjooaegaaAnyorder
namespace Go.Proofs.Ytomjajmjooaegaa
open Go.RowKit Plain Anyorder
set_option linter.unusedVariables false

theorem countN_how (ls : List (List Bool)) (k : Nat) : countN ls k = howN (allB ls) k := by
  induction k with
  | zero => rfl
  | succ k ih => rw [countN_succ, howN, ih]

theorem count_incl (f g h u : Nat → Bool) (k : Nat) (hh : ∀ i, h i = (f i && g i)) (hu : ∀ i, i < k → u i = (!f i && !g i)) : howN f k + howN g k + howN u k = howN h k + k := by
  induction k with
  | zero => rfl
  | succ k ih =>
    have := ih fun i hi => hu i (by omega)
    rw [howN, howN, howN, howN, hh k, hu k (by omega)]
    cases f k <;> cases g k <;> simp [bn] <;> omega

/-- How many are free, by how many are used. -/
theorem free_used {b m : List Bool} (h : b.length = m.length) : countB [b] + countB [m] + howN (freeB b m) m.length = countB [b, m] + m.length := by
  have e1 : countB [b] = howN (atB b) m.length := by
    unfold countB
    rw [countN_how, show longest [b] = m.length by simp [longest]; omega]
    apply howN_congr
    intro i _
    rw [Bool.eq_iff_iff]
    unfold allB
    rw [decide_eq_true_eq, howB_all]; simp
  have e2 : countB [m] = howN (atB m) m.length := by
    unfold countB
    rw [countN_how, show longest [m] = m.length by simp [longest]]
    apply howN_congr
    intro i _
    rw [Bool.eq_iff_iff]
    unfold allB
    rw [decide_eq_true_eq, howB_all]; simp
  have e3 : countB [b, m] = howN (fun i => atB b i && atB m i) m.length := by
    unfold countB
    rw [countN_how, show longest [b, m] = m.length by simp [longest]; omega]
    apply howN_congr
    intro i _
    rw [Bool.eq_iff_iff]
    unfold allB
    rw [decide_eq_true_eq, howB_all]; simp
  rw [e1, e2, e3]
  refine count_incl _ _ _ _ _ (fun _ => rfl) fun i hi => ?_
  unfold freeB
  rw [decide_eq_true hi, Bool.true_and, Bool.and_comm]

theorem first_ten {b m : List Bool} (h : rightA b m = true) : firstB 10 [b, m] = takeP b m := by
  obtain ⟨hl, _⟩ := (rightA_iff b m).1 h
  have hL : longest [b, m] = m.length := by simp [longest]; omega
  rcases takeP_spec hl with ⟨e, hn⟩ | ⟨p, e, hp, hf, hlo⟩
  · rw [e]
    refine firstB_none fun j _ hj hh => ?_
    rw [hL] at hj
    have := hn j hj
    rw [(freeB_how hj).2 hh] at this
    cases this
  · rw [e]
    refine firstB_is (by have := free_ten h hf; omega) (by omega) ((freeB_how hp).1 hf) fun j _ hj hh => ?_
    have := hlo j hj
    rw [(freeB_how (by omega)).2 hh] at this
    cases this

theorem freeC_le (b m : List Bool) : freeC b m ≤ 2048 := by
  unfold freeC
  split
  · rename_i h
    have := howN_le (freeB b m) m.length
    have := ((rightA_iff b m).1 h).2.2.1
    omega
  · omega

/-- What the slots of Free's drawn region hold. -/
def freeV (a a' : Option Addr) (c c' n n' h : Nat) (b m : List Bool) (X Y Z : Nat) (i : Nat) (v : Value) (w : World) : Prop :=
  match i with
  | 0 => v = .pointer (some ⟨h, 0, none⟩)
  | 1 => v = .slice a n c
  | 2 => ∃ k, v = .slice (some ⟨k, 0, none⟩) 1 1 ∧ IsL w (some ⟨k, 0, none⟩) 1 [(a, c, b)]
  | 3 => v = .int .i64 X
  | 4 => v = .pointer (some ⟨h, 1, none⟩)
  | 5 => v = .slice a' n' c'
  | 6 => ∃ k, v = .slice (some ⟨k, 0, none⟩) 1 1 ∧ IsL w (some ⟨k, 0, none⟩) 1 [(a', c', m)]
  | 7 => v = .int .i64 Y
  | 8 => v = .int .i64 ((X : Int) + Y)
  | 9 => v = .pointer (some ⟨h, 0, none⟩)
  | 10 => v = .slice a n c
  | 11 => v = .pointer (some ⟨h, 1, none⟩)
  | 12 => v = .slice a' n' c'
  | 13 => ∃ k, v = .slice (some ⟨k, 0, none⟩) 2 2 ∧ IsL w (some ⟨k, 0, none⟩) 2 [(a, c, b), (a', c', m)]
  | 14 => v = .int .i64 Z
  | 15 => v = .int .i64 ((X : Int) + Y - Z)
  | 16 => v = .int .i64 ((X : Int) + Y - Z)
  | _ => True

set_option maxRecDepth 20000 in
set_option maxHeartbeats 2000000 in
/-- FREE, of all allocs. -/
theorem free_any (a a' : Option Addr) (c c' n n' : Nat) (b m : List Bool) (w : World) (hn : n = b.length) (hn' : n' = m.length) (hB : IsB w a c b) (hB' : IsB w a' c' m) :
    Calls Try.prog 14 #[.agg #[.slice a n c, .slice a' n' c']] w fun e w' => e = .returned (.int .i64 (freeC b m)) ∧ Below w.heap.size w w' := by
  have hB0 : Below w.heap.size w (w.alloc (.cells #[.slice a n c, .slice a' n' c'] 24)) := (Below.refl _ _).alloc (Nat.le_refl _) _
  have bx := box2_new w (.slice a n c) (.slice a' n' c') 24 rfl
  have cr := right_any a a' c c' n n' b m _ hn hn' (hB.below hB0) (hB'.below hB0)
  cases hr : rightA b m with
  | false =>
    have he : Hid ((0 : Int) = (freeC b m : Nat)) := by show _ = _; unfold freeC; rw [hr]; rfl
    rw [hr] at cr
    clear hn hn' hB hB'
    go_enter Try.func14, Try.ntmps14
    go_wp2_with (go_at_call 12; refine cr.mono ?_; rintro e w1 ⟨rfl, hb⟩; replace hB0 := Below.tr hB0 hb)
    go_ret
    exact ⟨ret_int he.out, hB0⟩
  | true =>
    obtain ⟨hl, h24, h48, -⟩ := (rightA_iff b m).1 hr
    obtain ⟨X, hX⟩ : ∃ X, Hid (X = countB [b]) := ⟨_, rfl⟩
    obtain ⟨Y, hY⟩ : ∃ X, Hid (X = countB [m]) := ⟨_, rfl⟩
    obtain ⟨Z, hZ⟩ : ∃ X, Hid (X = countB [b, m]) := ⟨_, rfl⟩
    have hXb : X ≤ 2048 := by rw [hX.out]; unfold countB; exact Nat.le_trans (countN_le _ _) (by simp [longest]; omega)
    have hYb : Y ≤ 2048 := by rw [hY.out]; unfold countB; exact Nat.le_trans (countN_le _ _) (by simp [longest]; omega)
    have hZb : Z ≤ 2048 := by rw [hZ.out]; unfold countB; exact Nat.le_trans (countN_le _ _) (by simp [longest]; omega)
    have hnb : n' ≤ 2048 := by omega
    have hZX : Z ≤ X + Y := by
      have hu := free_used hl
      have hw := howN_le (freeB b m) m.length
      rw [← hX.out, ← hY.out, ← hZ.out] at hu
      omega
    have he : Hid ((n' : Int) - ((X : Int) + Y - Z) = (freeC b m : Nat)) := by
      show _ = _
      have hu := free_used hl
      have : freeC b m = howN (freeB b m) m.length := by unfold freeC; rw [if_pos hr]
      rw [this]
      rw [← hX.out, ← hY.out, ← hZ.out, ← hn'] at hu
      rw [← hn']
      omega
    have c1 : ∀ W k, IsL W (some ⟨k, 0, none⟩) 1 [(a, c, b)] → Calls Try.prog 25 #[.slice (some ⟨k, 0, none⟩) 1 1] W fun e w' => e = .returned (.int .i64 X) ∧ W = w' := by
      intro W k hW; rw [hX.out]; exact count_any _ _ _ _ hW
    have c2 : ∀ W k, IsL W (some ⟨k, 0, none⟩) 1 [(a', c', m)] → Calls Try.prog 25 #[.slice (some ⟨k, 0, none⟩) 1 1] W fun e w' => e = .returned (.int .i64 Y) ∧ W = w' := by
      intro W k hW; rw [hY.out]; exact count_any _ _ _ _ hW
    have c3 : ∀ W k, IsL W (some ⟨k, 0, none⟩) 2 [(a, c, b), (a', c', m)] → Calls Try.prog 25 #[.slice (some ⟨k, 0, none⟩) 2 2] W fun e w' => e = .returned (.int .i64 Z) ∧ W = w' := by
      intro W k hW; rw [hZ.out]; exact count_any _ _ _ _ hW
    have i1 : ∀ W, Below w.heap.size w W → IsL (W.alloc (.cells #[.slice a n c] 22)) (some ⟨W.heap.size, 0, none⟩) 1 [(a, c, b)] := fun W hW => isL_one hn (hB.below hW)
    have i2 : ∀ W, Below w.heap.size w W → IsL (W.alloc (.cells #[.slice a' n' c'] 22)) (some ⟨W.heap.size, 0, none⟩) 1 [(a', c', m)] := fun W hW => isL_one hn' (hB'.below hW)
    have i3 : ∀ W, Below w.heap.size w W → IsL (W.alloc (.cells #[.slice a n c, .slice a' n' c'] 22)) (some ⟨W.heap.size, 0, none⟩) 2 [(a, c, b), (a', c', m)] := fun W hW => isL_two hn hn' (hB.below hW) (hB'.below hW)
    rw [hr] at cr
    clear hn hn' hB hB' hX hY hZ h24 h48 hl
    go_enter Try.func14, Try.ntmps14
    go_wp2_with (go_at_call 12; refine cr.mono ?_; rintro e w1 ⟨rfl, hb⟩; replace hB0 := Below.tr hB0 hb; obtain ⟨⟨q0, q1⟩, -, -⟩ := bx.below hb; clear hb bx cr)
    refine region_inv (by kernel_rfl) (freeV a a' c c' n n' w.heap.size b m X Y Z) (fun W => (W.cell? ⟨w.heap.size, 0, none⟩ = some (.slice a n c) ∧ W.cell? ⟨w.heap.size, 1, none⟩ = some (.slice a' n' c')) ∧ Below w.heap.size w W) (fun W W' => Below W.heap.size W W') (by kernel_rfl) ?mono ⟨⟨q0, q1⟩, hB0.drew⟩ ?step ?done
    case mono =>
      intro i v W W' hR hV
      unfold freeV at hV ⊢
      split at hV <;> first | exact hV | (obtain ⟨k, h1, h2⟩ := hV; exact ⟨k, h1, h2.below hR⟩)
    case done =>
      intro ac W hS hdf hsz hsame hval
      obtain ⟨_, h3, rfl⟩ := hval 16 _ 3 rfl rfl
      obtain ⟨_, h7, -⟩ := hval 0 _ 7 rfl rfl
      obtain ⟨_, h8, -⟩ := hval 1 _ 8 rfl rfl
      obtain ⟨_, h9, -⟩ := hval 2 _ 9 rfl rfl
      obtain ⟨_, h10, -⟩ := hval 3 _ 10 rfl rfl
      obtain ⟨_, h11, -⟩ := hval 4 _ 11 rfl rfl
      obtain ⟨_, h12, -⟩ := hval 5 _ 12 rfl rfl
      obtain ⟨_, h13, -⟩ := hval 6 _ 13 rfl rfl
      obtain ⟨_, h14, -⟩ := hval 7 _ 14 rfl rfl
      obtain ⟨_, h15, -⟩ := hval 8 _ 15 rfl rfl
      obtain ⟨_, h16, -⟩ := hval 9 _ 16 rfl rfl
      obtain ⟨_, h17, -⟩ := hval 10 _ 17 rfl rfl
      obtain ⟨_, h18, -⟩ := hval 11 _ 18 rfl rfl
      obtain ⟨_, h19, -⟩ := hval 12 _ 19 rfl rfl
      obtain ⟨_, h20, -⟩ := hval 13 _ 20 rfl rfl
      obtain ⟨_, h21, -⟩ := hval 14 _ 21 rfl rfl
      obtain ⟨_, h22, -⟩ := hval 15 _ 22 rfl rfl
      obtain rfl := frame_is (l := [_, _, _, _, _, _, _, _, _, _, _, _, _, _, _, _, _, _, _, _, _, _, _, _, _, _, _, _]) ⟨(hsame 0 (unwritten (by kernel_rfl))).trans rfl, (hsame 1 (unwritten (by kernel_rfl))).trans rfl, (hsame 2 (unwritten (by kernel_rfl))).trans rfl, h3, (hsame 4 (unwritten (by kernel_rfl))).trans rfl, (hsame 5 (unwritten (by kernel_rfl))).trans rfl, (hsame 6 (unwritten (by kernel_rfl))).trans rfl, h7, h8, h9, h10, h11, h12, h13, h14, h15, h16, h17, h18, h19, h20, h21, h22, (hsame 23 (unwritten (by kernel_rfl))).trans rfl, (hsame 24 (unwritten (by kernel_rfl))).trans rfl, (hsame 25 (unwritten (by kernel_rfl))).trans rfl, (hsame 26 (unwritten (by kernel_rfl))).trans rfl, (hsame 27 (unwritten (by kernel_rfl))).trans rfl, trivial⟩ hdf hsz
      obtain ⟨⟨q0, q1⟩, hbW⟩ := hS
      clear hval hsame hsz hdf
      go_wp2
      go_ret
      exact ⟨ret_int he.out, hbW⟩
    case step =>
      have wr1 : IntKind.i64.wrap ((X : Int) + Y) = (X : Int) + Y := i64_in _ (by omega) (by omega)
      have wr2 : IntKind.i64.wrap ((X : Int) + Y - Z) = (X : Int) + Y - Z := i64_in _ (by omega) (by omega)
      intro i o ho ac W hS hdf hsz hdep hsame
      have q0 := hS.1.1
      have q1 := hS.1.2
      have hbW := hS.2
      match i, ho with
      | 0, ho =>
        cases ho
        have h1 := hsame 1 rfl
        exact op_value rfl (wanted_free rfl) (by clear hdep hsame hsz hdf; go_simp) rfl hS (Below.refl _ _)
      | 1, ho =>
        cases ho
        obtain ⟨_, h7, rfl⟩ := hdep 0 _ 7 rfl rfl rfl
        exact op_value rfl (wanted_free rfl) (by clear hdep hsame hsz hdf; go_simp) rfl hS (Below.refl _ _)
      | 2, ho =>
        cases ho
        obtain ⟨_, h8, rfl⟩ := hdep 1 _ 8 rfl rfl rfl
        exact op_value (v := .slice (some ⟨W.heap.size, 0, none⟩) 1 1) (w' := W.alloc (.cells #[.slice a n c] 22)) rfl (wanted_free rfl) (by clear hdep hsame hsz hdf; go_simp) ⟨_, rfl, i1 W hbW⟩ ⟨⟨cell_alloc q0 _, cell_alloc q1 _⟩, hbW.alloc hbW.size _⟩ ((Below.refl _ _).alloc (Nat.le_refl _) _)
      | 3, ho =>
        cases ho
        obtain ⟨_, h9, k, rfl, hL⟩ := hdep 2 _ 9 rfl rfl rfl
        exact op_call rfl (wanted_free rfl) (by clear hdep hsame hsz hdf; go_simp) ((c1 W k hL).mono fun e w' ⟨he, hw⟩ => ⟨_, he, rfl, hw ▸ hS, hw ▸ Below.refl _ _⟩)
      | 4, ho =>
        cases ho
        have h1 := hsame 1 rfl
        exact op_value rfl (wanted_free rfl) (by clear hdep hsame hsz hdf; go_simp) rfl hS (Below.refl _ _)
      | 5, ho =>
        cases ho
        obtain ⟨_, h11, rfl⟩ := hdep 4 _ 11 rfl rfl rfl
        exact op_value rfl (wanted_free rfl) (by clear hdep hsame hsz hdf; go_simp) rfl hS (Below.refl _ _)
      | 6, ho =>
        cases ho
        obtain ⟨_, h12, rfl⟩ := hdep 5 _ 12 rfl rfl rfl
        exact op_value (v := .slice (some ⟨W.heap.size, 0, none⟩) 1 1) (w' := W.alloc (.cells #[.slice a' n' c'] 22)) rfl (wanted_free rfl) (by clear hdep hsame hsz hdf; go_simp) ⟨_, rfl, i2 W hbW⟩ ⟨⟨cell_alloc q0 _, cell_alloc q1 _⟩, hbW.alloc hbW.size _⟩ ((Below.refl _ _).alloc (Nat.le_refl _) _)
      | 7, ho =>
        cases ho
        obtain ⟨_, h13, k, rfl, hL⟩ := hdep 6 _ 13 rfl rfl rfl
        exact op_call rfl (wanted_free rfl) (by clear hdep hsame hsz hdf; go_simp) ((c2 W k hL).mono fun e w' ⟨he, hw⟩ => ⟨_, he, rfl, hw ▸ hS, hw ▸ Below.refl _ _⟩)
      | 8, ho =>
        cases ho
        obtain ⟨_, h10, rfl⟩ := hdep 3 _ 10 rfl rfl rfl
        obtain ⟨_, h14, rfl⟩ := hdep 7 _ 14 rfl rfl rfl
        exact op_value rfl (wanted_free rfl) (by clear hdep hsame hsz hdf; go_simp) rfl hS (Below.refl _ _)
      | 9, ho =>
        cases ho
        have h1 := hsame 1 rfl
        exact op_value rfl (wanted_free rfl) (by clear hdep hsame hsz hdf; go_simp) rfl hS (Below.refl _ _)
      | 10, ho =>
        cases ho
        obtain ⟨_, h16, rfl⟩ := hdep 9 _ 16 rfl rfl rfl
        exact op_value rfl (wanted_free rfl) (by clear hdep hsame hsz hdf; go_simp) rfl hS (Below.refl _ _)
      | 11, ho =>
        cases ho
        have h1 := hsame 1 rfl
        exact op_value rfl (wanted_free rfl) (by clear hdep hsame hsz hdf; go_simp) rfl hS (Below.refl _ _)
      | 12, ho =>
        cases ho
        obtain ⟨_, h18, rfl⟩ := hdep 11 _ 18 rfl rfl rfl
        exact op_value rfl (wanted_free rfl) (by clear hdep hsame hsz hdf; go_simp) rfl hS (Below.refl _ _)
      | 13, ho =>
        cases ho
        obtain ⟨_, h17, rfl⟩ := hdep 10 _ 17 rfl rfl rfl
        obtain ⟨_, h19, rfl⟩ := hdep 12 _ 19 rfl rfl rfl
        exact op_value (v := .slice (some ⟨W.heap.size, 0, none⟩) 2 2) (w' := W.alloc (.cells #[.slice a n c, .slice a' n' c'] 22)) rfl (wanted_free rfl) (by clear hdep hsame hsz hdf; go_simp) ⟨_, rfl, i3 W hbW⟩ ⟨⟨cell_alloc q0 _, cell_alloc q1 _⟩, hbW.alloc hbW.size _⟩ ((Below.refl _ _).alloc (Nat.le_refl _) _)
      | 14, ho =>
        cases ho
        obtain ⟨_, h20, k, rfl, hL⟩ := hdep 13 _ 20 rfl rfl rfl
        exact op_call rfl (wanted_free rfl) (by clear hdep hsame hsz hdf; go_simp) ((c3 W k hL).mono fun e w' ⟨he, hw⟩ => ⟨_, he, rfl, hw ▸ hS, hw ▸ Below.refl _ _⟩)
      | 15, ho =>
        cases ho
        obtain ⟨_, h15, rfl⟩ := hdep 8 _ 15 rfl rfl rfl
        obtain ⟨_, h21, rfl⟩ := hdep 14 _ 21 rfl rfl rfl
        exact op_value rfl (wanted_free rfl) (by clear hdep hsame hsz hdf; go_simp) rfl hS (Below.refl _ _)
      | 16, ho =>
        cases ho
        obtain ⟨_, h22, rfl⟩ := hdep 15 _ 22 rfl rfl rfl
        exact op_value rfl (wanted_free rfl) (by clear hdep hsame hsz hdf; go_simp) rfl hS (Below.refl _ _)
      | k + 17, ho => simp at ho

end Go.Proofs.Ytomjajmjooaegaa

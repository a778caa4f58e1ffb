/-
  The statements' own few, with the world behind it known ahead.
-/
import Derived.Test.YtmhnnfmggdohkaaNodeFew
namespace Go.Proofs.Ytmhnnfmggdohkaa
open Go.RowKit Plain Anylast
set_option linter.unusedVariables false

set_option maxRecDepth 20000 in
set_option maxHeartbeats 4000000 in
/-- FEW, at all nodes; the world behind it is known ahead. -/
theorem few_known (l : Bool) (a a' a'' : Option Addr) (c c' c'' n n' n'' m m' m'' : Nat) (w : World) (hnc : n ≤ c) (hnc' : n' ≤ c') (hnc'' : n'' ≤ c'') (hc : c ≤ 9223372036854775807) (hc' : c' ≤ 9223372036854775807) (hc'' : c'' ≤ 9223372036854775807)
    (hm : min (n : Int) 30 = m) (hm' : min (n' : Int) 30 = m') (hm'' : min (n'' : Int) 30 = m'') :
    ∃ w1, Below w.heap.size w w1 ∧ Calls Try.prog 9 #[.agg #[.bool l, .slice a n c, .slice a' n' c', .slice a'' n'' c'']] w fun e w' => e = .returned (.agg #[.bool l, .slice a m c, .slice a' m' c', .slice a'' m'' c'']) ∧ w' = w1 := by
  obtain ⟨W, hW⟩ : ∃ W, W = (w.alloc (.cells #[.bool l, .slice a n c, .slice a' n' c', .slice a'' n'' c''] 25)).alloc (.cells #[.bool false, .slice none 0 0, .slice none 0 0, .slice none 0 0] 25) := ⟨_, rfl⟩
  have hB0 : Below w.heap.size w W := by rw [hW]; exact ((Below.refl _ _).alloc (Nat.le_refl _) _).alloc (by simp) _
  have hX : Box4 W w.heap.size (.bool l) (.slice a n c) (.slice a' n' c') (.slice a'' n'' c'') := by rw [hW]; exact (box4_new _ _ _ _ _ _ rfl).alloc _
  have hY : Box4 W (w.heap.size + 1) (.bool false) (.slice none 0 0) (.slice none 0 0) (.slice none 0 0) := by rw [hW]; exact box4_new _ _ _ _ _ _ (by simp)
  have r1 := min_run hm
  have r2 := min_run hm'
  have r3 := min_run hm''
  have g1 : m ≤ n := by omega
  have g2 : m' ≤ n' := by omega
  have g3 : m'' ≤ n'' := by omega
  have i1 : m ≤ c := by omega
  have i2 : m' ≤ c' := by omega
  have i3 : m'' ≤ c'' := by omega
  clear hm hm' hm''
  obtain ⟨h, hh⟩ : ∃ h, h = w.heap.size := ⟨_, rfl⟩
  rw [← hh] at hX hY
  obtain ⟨V, hV⟩ : ∃ V, V = W.drew := ⟨_, rfl⟩
  replace hX : Box4 V h (.bool l) (.slice a n c) (.slice a' n' c') (.slice a'' n'' c'') := by rw [hV]; exact hX.drew
  replace hY : Box4 V (h + 1) (.bool false) (.slice none 0 0) (.slice none 0 0) (.slice none 0 0) := by rw [hV]; exact hY.drew
  replace hB0 : Below w.heap.size w V := by rw [hV]; exact hB0.drew
  obtain ⟨W1, hW1⟩ : ∃ W1, W1 = V.setCell ⟨h, 1, none⟩ (.slice a m c) := ⟨_, rfl⟩
  obtain ⟨W2, hW2⟩ : ∃ W2, W2 = W1.setCell ⟨h, 2, none⟩ (.slice a' m' c') := ⟨_, rfl⟩
  obtain ⟨W3, hW3⟩ : ∃ W3, W3 = W2.setCell ⟨h, 3, none⟩ (.slice a'' m'' c'') := ⟨_, rfl⟩
  have hX1 : Box4 W1 h (.bool l) (.slice a m c) (.slice a' n' c') (.slice a'' n'' c'') := by rw [hW1]; exact hX.set1 _
  have hX2 : Box4 W2 h (.bool l) (.slice a m c) (.slice a' m' c') (.slice a'' n'' c'') := by rw [hW2]; exact hX1.set2 _
  have hX3 : Box4 W3 h (.bool l) (.slice a m c) (.slice a' m' c') (.slice a'' m'' c'') := by rw [hW3]; exact hX2.set3 _
  have hB3 : Below w.heap.size w W3 := by
    rw [hW3, hW2, hW1]
    exact ((hB0.setCell (p := ⟨h, 1, none⟩) (by show _ ≤ h; omega) _).setCell (p := ⟨h, 2, none⟩) (by show _ ≤ h; omega) _).setCell (p := ⟨h, 3, none⟩) (by show _ ≤ h; omega) _
  have hY3 : Box4 W3 (h + 1) (.bool false) (.slice none 0 0) (.slice none 0 0) (.slice none 0 0) := by
    rw [hW3, hW2, hW1]
    exact ((hY.other (p := ⟨h, 1, none⟩) (by show h ≠ _; omega) _).other (p := ⟨h, 2, none⟩) (by show h ≠ _; omega) _).other (p := ⟨h, 3, none⟩) (by show h ≠ _; omega) _
  obtain ⟨⟨q0, q1, q2, q3⟩, f0, f1, f2, f3⟩ := id hX
  have HH : Hid (h = w.heap.size) := hh
  have HV : Hid (V = W.drew) := hV
  have hst1 : Hid (V.setCell ⟨h, 1, none⟩ (.slice a m c) = W1) := hW1.symm
  have hst2 : Hid (W1.setCell ⟨h, 2, none⟩ (.slice a' m' c') = W2) := hW2.symm
  have hst3 : Hid (W2.setCell ⟨h, 3, none⟩ (.slice a'' m'' c'') = W3) := hW3.symm
  clear hh hV hW1 hW2 hW3
  obtain ⟨⟨q01, q11, q21, q31⟩, f01, f11, f21, f31⟩ := id hX1
  obtain ⟨⟨q02, q12, q22, q32⟩, f02, f12, f22, f32⟩ := id hX2
  have hle : w.heap.size ≤ h + 1 := by rw [HH.out]; omega
  refine ⟨(((W3.setCell ⟨h + 1, 0, none⟩ (.bool l)).setCell ⟨h + 1, 1, none⟩ (.slice a m c)).setCell ⟨h + 1, 2, none⟩ (.slice a' m' c')).setCell ⟨h + 1, 3, none⟩ (.slice a'' m'' c''), (((hB3.setCell (p := ⟨h + 1, 0, none⟩) hle _).setCell (p := ⟨h + 1, 1, none⟩) hle _).setCell (p := ⟨h + 1, 2, none⟩) hle _).setCell (p := ⟨h + 1, 3, none⟩) hle _, ?_⟩
  go_enter Try.func9, Try.ntmps9
  go_wp2
  rw [← hW, ← HH.out]
  clear hW
  refine region_worlds (by kernel_rfl) [22, 24, 26] (fewV h a a' a'' c c' c'' n n' n'' m m' m'') (worlds4 V W1 W2 W3) (by kernel_rfl) (by kernel_rfl) HV.out.symm ?step 27 rfl ?done
  case step =>
    intro i o ho kk a2 hkk hmay hdf hsz hdep hsame
    match i, ho with
    | 0, ho =>
      cases ho
      have h1 := (hsame 1 rfl)
      exact val_op rfl (wanted_free rfl) (by clear hdep hsame hsz hdf; (try simp only [fewV, worlds4]); go_simp) rfl rfl
    | 1, ho =>
      cases ho
      have h3 := (hdep 0 _ 3 rfl rfl rfl)
      simp only [fewV] at h3
      match kk, hkk, hmay with
      | 0, _, hq => first | (cases hq; done) | (exact val_op rfl (wanted_free rfl) (by clear hdep hsame hsz hdf; (try simp only [fewV, worlds4]); go_simp) rfl rfl)
      | 1, _, hq => first | (cases hq; done) | (exact val_op rfl (wanted_free rfl) (by clear hdep hsame hsz hdf; (try simp only [fewV, worlds4]); go_simp) rfl rfl)
      | 2, _, hq => first | (cases hq; done) | (exact val_op rfl (wanted_free rfl) (by clear hdep hsame hsz hdf; (try simp only [fewV, worlds4]); go_simp) rfl rfl)
      | 3, _, hq => first | (cases hq; done) | (exact val_op rfl (wanted_free rfl) (by clear hdep hsame hsz hdf; (try simp only [fewV, worlds4]); go_simp) rfl rfl)
      | kk + 4, hkk, _ => simp at hkk
    | 2, ho =>
      cases ho
      have h1 := (hsame 1 rfl)
      exact val_op rfl (wanted_free rfl) (by clear hdep hsame hsz hdf; (try simp only [fewV, worlds4]); go_simp) rfl rfl
    | 3, ho =>
      cases ho
      have h5 := (hdep 2 _ 5 rfl rfl rfl)
      simp only [fewV] at h5
      match kk, hkk, hmay with
      | 0, _, hq => first | (cases hq; done) | (exact val_op rfl (wanted_free rfl) (by clear hdep hsame hsz hdf; (try simp only [fewV, worlds4]); go_simp) rfl rfl)
      | 1, _, hq => first | (cases hq; done) | (exact val_op rfl (wanted_free rfl) (by clear hdep hsame hsz hdf; (try simp only [fewV, worlds4]); go_simp) rfl rfl)
      | 2, _, hq => first | (cases hq; done) | (exact val_op rfl (wanted_free rfl) (by clear hdep hsame hsz hdf; (try simp only [fewV, worlds4]); go_simp) rfl rfl)
      | 3, _, hq => first | (cases hq; done) | (exact val_op rfl (wanted_free rfl) (by clear hdep hsame hsz hdf; (try simp only [fewV, worlds4]); go_simp) rfl rfl)
      | kk + 4, hkk, _ => simp at hkk
    | 4, ho =>
      cases ho
      have h6 := (hdep 3 _ 6 rfl rfl rfl)
      simp only [fewV] at h6
      exact val_op rfl (wanted_free rfl) (by clear hdep hsame hsz hdf; (try simp only [fewV, worlds4]); go_simp) rfl rfl
    | 5, ho =>
      cases ho
      have h7 := (hdep 4 _ 7 rfl rfl rfl)
      simp only [fewV] at h7
      exact val_op rfl (wanted_free rfl) (by clear hdep hsame hsz hdf; (try simp only [fewV, worlds4]); go_simp) rfl rfl
    | 6, ho =>
      cases ho
      have h4 := (hdep 1 _ 4 rfl rfl rfl)
      have h8 := (hdep 5 _ 8 rfl rfl rfl)
      simp only [fewV] at h4 h8
      match kk, hkk, hmay with
      | 0, _, hq => first | (cases hq; done) | (exact val_op rfl (wanted_free rfl) (by clear hdep hsame hsz hdf; (try simp only [fewV, worlds4]); go_simp) rfl rfl)
      | 1, _, hq => first | (cases hq; done) | (exact val_op rfl (wanted_free rfl) (by clear hdep hsame hsz hdf; (try simp only [fewV, worlds4]); go_simp) rfl rfl)
      | 2, _, hq => first | (cases hq; done) | (exact val_op rfl (wanted_free rfl) (by clear hdep hsame hsz hdf; (try simp only [fewV, worlds4]); go_simp) rfl rfl)
      | 3, _, hq => first | (cases hq; done) | (exact val_op rfl (wanted_free rfl) (by clear hdep hsame hsz hdf; (try simp only [fewV, worlds4]); go_simp) rfl rfl)
      | kk + 4, hkk, _ => simp at hkk
    | 7, ho =>
      cases ho
      have h1 := (hsame 1 rfl)
      exact val_op rfl (wanted_free rfl) (by clear hdep hsame hsz hdf; (try simp only [fewV, worlds4]); go_simp) rfl rfl
    | 8, ho =>
      cases ho
      have h10 := (hdep 7 _ 10 rfl rfl rfl)
      simp only [fewV] at h10
      match kk, hkk, hmay with
      | 0, _, hq => first | (cases hq; done) | (exact val_op rfl (wanted_free rfl) (by clear hdep hsame hsz hdf; (try simp only [fewV, worlds4]); go_simp) rfl rfl)
      | 1, _, hq => first | (cases hq; done) | (exact val_op rfl (wanted_free rfl) (by clear hdep hsame hsz hdf; (try simp only [fewV, worlds4]); go_simp) rfl rfl)
      | 2, _, hq => first | (cases hq; done) | (exact val_op rfl (wanted_free rfl) (by clear hdep hsame hsz hdf; (try simp only [fewV, worlds4]); go_simp) rfl rfl)
      | 3, _, hq => first | (cases hq; done) | (exact val_op rfl (wanted_free rfl) (by clear hdep hsame hsz hdf; (try simp only [fewV, worlds4]); go_simp) rfl rfl)
      | kk + 4, hkk, _ => simp at hkk
    | 9, ho =>
      cases ho
      have h1 := (hsame 1 rfl)
      exact val_op rfl (wanted_free rfl) (by clear hdep hsame hsz hdf; (try simp only [fewV, worlds4]); go_simp) rfl rfl
    | 10, ho =>
      cases ho
      have h12 := (hdep 9 _ 12 rfl rfl rfl)
      simp only [fewV] at h12
      match kk, hkk, hmay with
      | 0, _, hq => first | (cases hq; done) | (exact val_op rfl (wanted_free rfl) (by clear hdep hsame hsz hdf; (try simp only [fewV, worlds4]); go_simp) rfl rfl)
      | 1, _, hq => first | (cases hq; done) | (exact val_op rfl (wanted_free rfl) (by clear hdep hsame hsz hdf; (try simp only [fewV, worlds4]); go_simp) rfl rfl)
      | 2, _, hq => first | (cases hq; done) | (exact val_op rfl (wanted_free rfl) (by clear hdep hsame hsz hdf; (try simp only [fewV, worlds4]); go_simp) rfl rfl)
      | 3, _, hq => first | (cases hq; done) | (exact val_op rfl (wanted_free rfl) (by clear hdep hsame hsz hdf; (try simp only [fewV, worlds4]); go_simp) rfl rfl)
      | kk + 4, hkk, _ => simp at hkk
    | 11, ho =>
      cases ho
      have h13 := (hdep 10 _ 13 rfl rfl rfl)
      simp only [fewV] at h13
      exact val_op rfl (wanted_free rfl) (by clear hdep hsame hsz hdf; (try simp only [fewV, worlds4]); go_simp) rfl rfl
    | 12, ho =>
      cases ho
      have h14 := (hdep 11 _ 14 rfl rfl rfl)
      simp only [fewV] at h14
      exact val_op rfl (wanted_free rfl) (by clear hdep hsame hsz hdf; (try simp only [fewV, worlds4]); go_simp) rfl rfl
    | 13, ho =>
      cases ho
      have h11 := (hdep 8 _ 11 rfl rfl rfl)
      have h15 := (hdep 12 _ 15 rfl rfl rfl)
      simp only [fewV] at h11 h15
      match kk, hkk, hmay with
      | 0, _, hq => first | (cases hq; done) | (exact val_op rfl (wanted_free rfl) (by clear hdep hsame hsz hdf; (try simp only [fewV, worlds4]); go_simp) rfl rfl)
      | 1, _, hq => first | (cases hq; done) | (exact val_op rfl (wanted_free rfl) (by clear hdep hsame hsz hdf; (try simp only [fewV, worlds4]); go_simp) rfl rfl)
      | 2, _, hq => first | (cases hq; done) | (exact val_op rfl (wanted_free rfl) (by clear hdep hsame hsz hdf; (try simp only [fewV, worlds4]); go_simp) rfl rfl)
      | 3, _, hq => first | (cases hq; done) | (exact val_op rfl (wanted_free rfl) (by clear hdep hsame hsz hdf; (try simp only [fewV, worlds4]); go_simp) rfl rfl)
      | kk + 4, hkk, _ => simp at hkk
    | 14, ho =>
      cases ho
      have h1 := (hsame 1 rfl)
      exact val_op rfl (wanted_free rfl) (by clear hdep hsame hsz hdf; (try simp only [fewV, worlds4]); go_simp) rfl rfl
    | 15, ho =>
      cases ho
      have h17 := (hdep 14 _ 17 rfl rfl rfl)
      simp only [fewV] at h17
      match kk, hkk, hmay with
      | 0, _, hq => first | (cases hq; done) | (exact val_op rfl (wanted_free rfl) (by clear hdep hsame hsz hdf; (try simp only [fewV, worlds4]); go_simp) rfl rfl)
      | 1, _, hq => first | (cases hq; done) | (exact val_op rfl (wanted_free rfl) (by clear hdep hsame hsz hdf; (try simp only [fewV, worlds4]); go_simp) rfl rfl)
      | 2, _, hq => first | (cases hq; done) | (exact val_op rfl (wanted_free rfl) (by clear hdep hsame hsz hdf; (try simp only [fewV, worlds4]); go_simp) rfl rfl)
      | 3, _, hq => first | (cases hq; done) | (exact val_op rfl (wanted_free rfl) (by clear hdep hsame hsz hdf; (try simp only [fewV, worlds4]); go_simp) rfl rfl)
      | kk + 4, hkk, _ => simp at hkk
    | 16, ho =>
      cases ho
      have h1 := (hsame 1 rfl)
      exact val_op rfl (wanted_free rfl) (by clear hdep hsame hsz hdf; (try simp only [fewV, worlds4]); go_simp) rfl rfl
    | 17, ho =>
      cases ho
      have h19 := (hdep 16 _ 19 rfl rfl rfl)
      simp only [fewV] at h19
      match kk, hkk, hmay with
      | 0, _, hq => first | (cases hq; done) | (exact val_op rfl (wanted_free rfl) (by clear hdep hsame hsz hdf; (try simp only [fewV, worlds4]); go_simp) rfl rfl)
      | 1, _, hq => first | (cases hq; done) | (exact val_op rfl (wanted_free rfl) (by clear hdep hsame hsz hdf; (try simp only [fewV, worlds4]); go_simp) rfl rfl)
      | 2, _, hq => first | (cases hq; done) | (exact val_op rfl (wanted_free rfl) (by clear hdep hsame hsz hdf; (try simp only [fewV, worlds4]); go_simp) rfl rfl)
      | 3, _, hq => first | (cases hq; done) | (exact val_op rfl (wanted_free rfl) (by clear hdep hsame hsz hdf; (try simp only [fewV, worlds4]); go_simp) rfl rfl)
      | kk + 4, hkk, _ => simp at hkk
    | 18, ho =>
      cases ho
      have h20 := (hdep 17 _ 20 rfl rfl rfl)
      simp only [fewV] at h20
      exact val_op rfl (wanted_free rfl) (by clear hdep hsame hsz hdf; (try simp only [fewV, worlds4]); go_simp) rfl rfl
    | 19, ho =>
      cases ho
      have h21 := (hdep 18 _ 21 rfl rfl rfl)
      simp only [fewV] at h21
      exact val_op rfl (wanted_free rfl) (by clear hdep hsame hsz hdf; (try simp only [fewV, worlds4]); go_simp) rfl rfl
    | 20, ho =>
      cases ho
      have h18 := (hdep 15 _ 18 rfl rfl rfl)
      have h22 := (hdep 19 _ 22 rfl rfl rfl)
      simp only [fewV] at h18 h22
      match kk, hkk, hmay with
      | 0, _, hq => first | (cases hq; done) | (exact val_op rfl (wanted_free rfl) (by clear hdep hsame hsz hdf; (try simp only [fewV, worlds4]); go_simp) rfl rfl)
      | 1, _, hq => first | (cases hq; done) | (exact val_op rfl (wanted_free rfl) (by clear hdep hsame hsz hdf; (try simp only [fewV, worlds4]); go_simp) rfl rfl)
      | 2, _, hq => first | (cases hq; done) | (exact val_op rfl (wanted_free rfl) (by clear hdep hsame hsz hdf; (try simp only [fewV, worlds4]); go_simp) rfl rfl)
      | 3, _, hq => first | (cases hq; done) | (exact val_op rfl (wanted_free rfl) (by clear hdep hsame hsz hdf; (try simp only [fewV, worlds4]); go_simp) rfl rfl)
      | kk + 4, hkk, _ => simp at hkk
    | 21, ho =>
      cases ho
      have h1 := (hsame 1 rfl)
      exact val_op rfl (wanted_free rfl) (by clear hdep hsame hsz hdf; (try simp only [fewV, worlds4]); go_simp) rfl rfl
    | 22, ho =>
      cases ho
      have h24 := (hdep 21 _ 24 rfl rfl rfl)
      have h9 := (hdep 6 _ 9 rfl rfl rfl)
      simp only [fewV] at h24 h9
      match kk, hkk, hmay with
      | 0, _, _ => exact val_skip rfl (wanted_free rfl) rfl (by clear hdep hsame hsz hdf; simp only [worlds4]; go_simp; try exact hst1.out) rfl
      | 1, _, hq => cases hq
      | 2, _, hq => cases hq
      | 3, _, hq => cases hq
      | kk + 4, hkk, _ => simp at hkk
    | 23, ho =>
      cases ho
      have h1 := (hsame 1 rfl)
      exact val_op rfl (wanted_free rfl) (by clear hdep hsame hsz hdf; (try simp only [fewV, worlds4]); go_simp) rfl rfl
    | 24, ho =>
      cases ho
      have h25 := (hdep 23 _ 25 rfl rfl rfl)
      have h16 := (hdep 13 _ 16 rfl rfl rfl)
      simp only [fewV] at h25 h16
      match kk, hkk, hmay with
      | 0, _, hq => cases hq
      | 1, _, _ => exact val_skip rfl (wanted_free rfl) rfl (by clear hdep hsame hsz hdf; simp only [worlds4]; go_simp; try exact hst2.out) rfl
      | 2, _, hq => cases hq
      | 3, _, hq => cases hq
      | kk + 4, hkk, _ => simp at hkk
    | 25, ho =>
      cases ho
      have h1 := (hsame 1 rfl)
      exact val_op rfl (wanted_free rfl) (by clear hdep hsame hsz hdf; (try simp only [fewV, worlds4]); go_simp) rfl rfl
    | 26, ho =>
      cases ho
      have h26 := (hdep 25 _ 26 rfl rfl rfl)
      have h23 := (hdep 20 _ 23 rfl rfl rfl)
      simp only [fewV] at h26 h23
      match kk, hkk, hmay with
      | 0, _, hq => cases hq
      | 1, _, hq => cases hq
      | 2, _, _ => exact val_skip rfl (wanted_free rfl) rfl (by clear hdep hsame hsz hdf; simp only [worlds4]; go_simp; try exact hst3.out) rfl
      | 3, _, hq => cases hq
      | kk + 4, hkk, _ => simp at hkk
    | kk + 27, ho => simp at ho
  case done =>
    simp [filledN, fewV, worlds4]
    clear q0 q1 q2 q3 f0 f1 f2 f3 q01 q11 q21 q31 f01 f11 f21 f31 q02 q12 q22 q32 f02 f12 f22 f32 hX hX1 hX2 hY hB0 hst1 hst2 hst3 HV
    obtain ⟨⟨q0, q1, q2, q3⟩, -⟩ := id hX3
    obtain ⟨⟨z0, z1, z2, z3⟩, y0, y1, y2, y3⟩ := id hY3
    go_wp2
    exact bodyPost_ret (v := .agg #[.bool l, .slice a m c, .slice a' m' c', .slice a'' m'' c'']) (by simp [results, Try.results9, go_sem, z0, z1, z2, z3]) rfl ⟨rfl, rfl⟩

end Go.Proofs.Ytmhnnfmggdohkaa

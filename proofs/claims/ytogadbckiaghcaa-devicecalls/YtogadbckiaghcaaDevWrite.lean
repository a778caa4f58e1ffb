/-
  Package device's Write.
-/
import Derived.Test.YtogadbckiaghcaaDevWrites
namespace Go.Proofs.Ytogadbckiaghcaa
open Go.RowKit Plain
set_option linter.unusedVariables false

/-- What Write answers. -/
def writeE (bs : List ByteArray) (ps : List (Int × ByteArray)) (k : Int) (s : ByteArray) : Int :=
  if checkE bs ps k = 0 then (if 4096 < s.size ∨ ps.length = 2048 then 2 else 0) else checkE bs ps k
def writeB (bs : List ByteArray) (ps : List (Int × ByteArray)) (k : Int) (s : ByteArray) : List ByteArray := if writeE bs ps k s = 0 then bs else []
def writeP (bs : List ByteArray) (ps : List (Int × ByteArray)) (k : Int) (s : ByteArray) : List (Int × ByteArray) := if writeE bs ps k s = 0 then ps ++ [(k, trimS s)] else []

theorem write_bad {bs : List ByteArray} {ps : List (Int × ByteArray)} {k : Int} {s : ByteArray} (h : writeE bs ps k s ≠ 0) : writeB bs ps k s = [] ∧ writeP bs ps k s = [] := ⟨if_neg h, if_neg h⟩
theorem write_ok {bs : List ByteArray} {ps : List (Int × ByteArray)} {k : Int} {s : ByteArray} (h : writeE bs ps k s = 0) : writeB bs ps k s = bs ∧ writeP bs ps k s = ps ++ [(k, trimS s)] := ⟨if_pos h, if_pos h⟩

theorem checkE_right {bs : List ByteArray} {ps : List (Int × ByteArray)} {k : Int} (h : checkE bs ps k = 0) : rightD bs ps = true ∧ 0 ≤ k ∧ k < bs.length := by
  unfold checkE at h
  split at h
  · rename_i hr
    split at h
    · rename_i hk
      rw [Bool.and_eq_true, decide_eq_true_eq, decide_eq_true_eq] at hk
      exact ⟨hr, hk⟩
    · cases h
  · cases h

set_option maxRecDepth 100000 in
set_option maxHeartbeats 4000000 in
theorem write_any (a a' : Option Addr) (c c' : Nat) (bs : List ByteArray) (ps : List (Int × ByteArray)) (k : Int) (s : ByteArray) (w : World) (hS : IsS w a c bs) (hP : IsP w a' c' ps) (hk6 : -9223372036854775808 ≤ k ∧ k ≤ 9223372036854775807) (hs : s.size ≤ maxLen) :
    Calls Try.prog 16 #[.agg #[.slice a bs.length c, .slice a' ps.length c'], .int .i64 k, .string s] w fun e w' => ∃ b d b' d', e = .returned (.tuple #[.agg #[.slice b (writeB bs ps k s).length d, .slice b' (writeP bs ps k s).length d'], .int .i64 (writeE bs ps k s)]) ∧ IsS w' b d (writeB bs ps k s) ∧ IsP w' b' d' (writeP bs ps k s) ∧ Below w.heap.size w w' := by
  obtain ⟨W, hW⟩ : ∃ W, W = (w.alloc (.cells #[.slice a bs.length c, .slice a' ps.length c'] 25)).alloc (.cells #[.slice none 0 0, .slice none 0 0] 25) := ⟨_, rfl⟩
  obtain ⟨hB0, hWs, ⟨d0, d1⟩, ⟨e0, e1⟩, f0, f1⟩ := two_boxes hW
  have c1 := checkBlock_any a a' c c' bs ps k W (hS.below hB0) (hP.below hB0)
  have HP : Hid (IsP w a' c' ps) := hP
  have HS : Hid (IsS w a c bs) := hS
  have hs' : s.size ≤ 9223372036854775807 := hs
  have hm' : ps.length ≤ 9223372036854775807 := Nat.le_trans hP.1 hP.2.1
  clear hS hP
  by_cases hk : checkE bs ps k = 0
  · obtain ⟨hr, hk0, hk1⟩ := checkE_right hk
    obtain ⟨⟨h1, h2, h3⟩, -, -⟩ := (rightD_iff bs ps).1 hr
    have x1 : Hid (writeE bs ps k s = if 4096 < s.size ∨ ps.length = 2048 then 2 else 0) := if_pos hk
    rw [hk, hW] at c1
    by_cases hb : 4096 < s.size ∨ ps.length = 2048
    · have x2 : writeE bs ps k s = 2 := by rw [x1.out, if_pos hb]
      obtain ⟨x3, x4⟩ := write_bad (bs := bs) (ps := ps) (k := k) (s := s) (by rw [x2]; decide)
      rw [x2, x3, x4]
      clear x2 x3 x4
      have hq1 : ¬ (s.size : Int) > 4096 → ((ps.length : Int) == 2048) = true := by intro h; simp; omega
      by_cases hb1 : 4096 < s.size
      · have hb1' : (s.size : Int) > 4096 := by omega
        go_enter Try.func16, Try.ntmps16
        go_wp2_with (go_at_call 29; refine c1.mono ?_; rintro e w1 ⟨rfl, hb⟩; rw [← hW] at hb; replace d1 := cell_below hb d1; replace e0 := cell_below hb e0; replace e1 := cell_below hb e1; replace f0 := frozen_below hb (by omega) f0; replace f1 := frozen_below hb (by omega) f1; have hB1 := Below.tr hB0 hb; clear hb)
        refine bodyPost_ret (v := .tuple #[.agg #[.slice none 0 0, .slice none 0 0], .int .i64 2]) (by simp [results, Try.results16, go_sem, e0, e1]) rfl ⟨none, 0, none, 0, rfl, IsS_nil _, IsP_nil _, ?_⟩
        exact (hB1.setCell (p := ⟨w.heap.size + 1, 0, none⟩) (Nat.le_succ _) _).setCell (p := ⟨w.heap.size + 1, 1, none⟩) (Nat.le_succ _) _
      · have hb1' : ¬ (s.size : Int) > 4096 := by omega
        have hb2 := hq1 hb1'
        go_enter Try.func16, Try.ntmps16
        go_wp2_with (go_at_call 29; refine c1.mono ?_; rintro e w1 ⟨rfl, hb⟩; rw [← hW] at hb; replace d1 := cell_below hb d1; replace e0 := cell_below hb e0; replace e1 := cell_below hb e1; replace f0 := frozen_below hb (by omega) f0; replace f1 := frozen_below hb (by omega) f1; have hB1 := Below.tr hB0 hb; clear hb)
        refine bodyPost_ret (v := .tuple #[.agg #[.slice none 0 0, .slice none 0 0], .int .i64 2]) (by simp [results, Try.results16, go_sem, e0, e1]) rfl ⟨none, 0, none, 0, rfl, IsS_nil _, IsP_nil _, ?_⟩
        exact (hB1.setCell (p := ⟨w.heap.size + 1, 0, none⟩) (Nat.le_succ _) _).setCell (p := ⟨w.heap.size + 1, 1, none⟩) (Nat.le_succ _) _
    · have x2 : writeE bs ps k s = 0 := by rw [x1.out, if_neg hb]
      obtain ⟨x3, x4⟩ := write_ok (bs := bs) (ps := ps) (k := k) (s := s) x2
      rw [x2, x3, x4, List.length_append]
      show Calls _ _ _ _ fun e w' => ∃ b d b' d', e = .returned (.tuple #[.agg #[.slice b bs.length d, .slice b' (ps.length + 1) d'], .int .i64 0]) ∧ _
      clear x2 x3 x4
      have hb1 : ¬ (s.size : Int) > 4096 := by omega
      have hb2 : ((ps.length : Int) == 2048) = false := by simp; omega
      have h3' : ps.length ≤ 2047 := by omega
      have hts : (trimS s).size ≤ maxLen := Nat.le_trans (trimS_le s) hs
      have ct := fun V => trim_any s V hs
      generalize trimS s = y at hts ct ⊢
      clear x1 hb
      go_enter Try.func16, Try.ntmps16
      go_wp2_with (first
        | (go_at_call 29; refine c1.mono ?_; rintro e w1 ⟨rfl, hb⟩; rw [← hW] at hb; replace d0 := cell_below hb d0; replace d1 := cell_below hb d1; replace e0 := cell_below hb e0; replace e1 := cell_below hb e1; replace f0 := frozen_below hb (by omega) f0; replace f1 := frozen_below hb (by omega) f1; have hB1 := Below.tr hB0 hb; have hs1 := hb.size; clear hb)
        | (go_at_call 31; refine (ct _).mono ?_; rintro e w2 ⟨rfl, rfl⟩; have d0a := cell_alloc d0; have d1a := cell_alloc d1))
      obtain ⟨V, hV⟩ : ∃ V, V = ((w1.alloc (.cells #[.int .i64 k, .string y] 50)).alloc (.cells #[.int .i64 k, .string y] 50)).alloc (.cells #[.slice a' ps.length c', .slice (some ⟨w1.heap.size + 1, 0, none⟩) 1 1] 23) := ⟨_, rfl⟩
      have hb3 : Below w1.heap.size w1 V := by rw [hV]; exact (((Below.refl _ _).alloc (Nat.le_refl _) _).alloc (by simp) _).alloc (by simp; omega) _
      have s0 : V.cell? ⟨w1.heap.size + 1 + 1, 0, none⟩ = some (.slice a' ps.length c') := by rw [hV]; exact World.cell?_alloc_at _ _ _ _ (by simp)
      have s1 : V.cell? ⟨w1.heap.size + 1 + 1, 1, none⟩ = some (.slice (some ⟨w1.heap.size + 1, 0, none⟩) 1 1) := by rw [hV]; exact World.cell?_alloc_at _ _ _ _ (by simp)
      have q0 : V.cell? ⟨w1.heap.size + 1, 0, none⟩ = some (.int .i64 k) := by rw [hV]; exact Lib.cell?_alloc_some _ (World.cell?_alloc_at _ _ _ _ (by simp))
      have q1 : V.cell? ⟨w1.heap.size + 1, 1, none⟩ = some (.string y) := by rw [hV]; exact Lib.cell?_alloc_some _ (World.cell?_alloc_at _ _ _ _ (by simp))
      have hB3 := Below.tr hB1 hb3
      have HQ : IsP V (some ⟨w1.heap.size + 1, 0, none⟩) 1 [(k, y)] := by
        refine ⟨Nat.le_refl _, by unfold maxLen; omega, fun j p hp => ?_⟩
        match j, hp with
        | 0, hp =>
          obtain rfl : (k, y) = p := by simpa using hp
          exact ⟨_, _, rfl, cell_lt q0, q0, q1, hts, hk6⟩
        | j + 1, hp => simp at hp
      have c2 := concat_any a' c' (w1.heap.size + 1) (w1.heap.size + 1 + 1) ps (k, y) V (HP.out.below hB3) HQ h3' s0 s1
      replace d0 := cell_below hb3 d0
      replace e0 := cell_below hb3 e0
      replace e1 := cell_below hb3 e1
      replace f0 := frozen_below hb3 (by omega) f0
      replace f1 := frozen_below hb3 (by omega) f1
      have hs3 := hb3.size
      rw [← hV]
      clear hV hb3 hB1 s0 s1 q0 q1 HQ c1 ct d0a d1a d1 hW
      go_wp2_with (first
        | (go_at_call 32; refine c2.mono ?_; rintro e w3 ⟨g, cap, rfl, hg, hI, hb⟩; have HI : Hid (IsP w3 (some ⟨g, 0, none⟩) cap (ps ++ [(k, y)])) := hI; replace d0 := cell_below hb d0; replace e0 := cell_below hb e0; replace e1 := cell_below hb e1; replace f0 := frozen_below hb (by omega) f0; replace f1 := frozen_below hb (by omega) f1; have hB4 := Below.tr hB3 hb; have hs4 := hb.size; clear hb hI c2)
        | (go_at_call 33; refine (clone_any a c bs _ (HS.out.below hB4) h1 h2).mono ?_; rintro e w4 ⟨g', cap', rfl, hg', hrow, hb⟩; replace HI : Hid (IsP w4 (some ⟨g, 0, none⟩) cap (ps ++ [(k, y)])) := HI.out.below hb; have HROW : Hid (RowS w4 g' cap' bs) := hrow; replace e0 := cell_below hb e0; replace e1 := cell_below hb e1; replace f0 := frozen_below hb (by omega) f0; replace f1 := frozen_below hb (by omega) f1; have hB5 := Below.tr hB4 hb; have hs5 := hb.size; clear hb hrow))
      have HZ : ∀ x ∈ bs, x.size ≤ maxLen := fun x hx => Nat.le_trans ((okS_iff _).1 (((rightD_iff bs ps).1 hr).2.1 x hx)).1 (by unfold maxLen; omega)
      refine bodyPost_ret (v := .tuple #[.agg #[.slice (some ⟨g', 0, none⟩) bs.length cap', .slice (some ⟨g, 0, none⟩) (ps.length + 1) cap], .int .i64 0]) (by simp [results, Try.results16, go_sem, e0, e1]) rfl ⟨_, _, _, _, rfl, ?_, ?_, ?_⟩
      · exact (RowS.setOther (RowS.setOther HROW.out (by omega)) (by omega)).isS HZ
      · exact isP_set _ (isP_set _ HI.out (by omega)) (by omega)
      · exact (hB5.setCell (p := ⟨w.heap.size + 1, 0, none⟩) (Nat.le_succ _) _).setCell (p := ⟨w.heap.size + 1, 1, none⟩) (Nat.le_succ _) _
  · have x1 : writeE bs ps k s = checkE bs ps k := if_neg hk
    obtain ⟨x3, x4⟩ := write_bad (bs := bs) (ps := ps) (k := k) (s := s) (by rw [x1]; exact hk)
    rw [x3, x4, x1]
    clear x1 x3 x4
    rw [hW] at c1
    generalize checkE bs ps k = q at hk c1 ⊢
    go_enter Try.func16, Try.ntmps16
    go_wp2_with (go_at_call 29; refine c1.mono ?_; rintro e w1 ⟨rfl, hb⟩; rw [← hW] at hb; replace e0 := cell_below hb e0; replace e1 := cell_below hb e1; replace f0 := frozen_below hb (by omega) f0; replace f1 := frozen_below hb (by omega) f1; have hB1 := Below.tr hB0 hb; clear hb)
    refine bodyPost_ret (v := .tuple #[.agg #[.slice none 0 0, .slice none 0 0], .int .i64 q]) (by simp [results, Try.results16, go_sem, e0, e1]) rfl ⟨none, 0, none, 0, rfl, IsS_nil _, IsP_nil _, ?_⟩
    exact (hB1.setCell (p := ⟨w.heap.size + 1, 0, none⟩) (Nat.le_succ _) _).setCell (p := ⟨w.heap.size + 1, 1, none⟩) (Nat.le_succ _) _

end Go.Proofs.Ytogadbckiaghcaa

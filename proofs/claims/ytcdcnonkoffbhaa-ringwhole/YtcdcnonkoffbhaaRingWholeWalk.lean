/-
  The walk through the statement RingWhole.
-/
import Derived.Test.YtcdcnonkoffbhaaRingBody
import Derived.Test.YtcdcnonkoffbhaaDevCrash
namespace Go.Proofs.Ytcdcnonkoffbhaa.Plain
open Go.RowKit

theorem mix_on {o n : ByteArray} {m : Int} (ho : o.size ≤ 512) (hn : n.size ≤ 512) (en : Even n) (hb : bitOn m 0 = true) : mixS o n m = n := by
  refine even_ext (even_mix _ _ _) en fun j => ?_
  rw [byteAt_mix]
  split
  · unfold mixB
    by_cases h5 : j < 512
    · rw [show j / 512 = 0 by omega, hb]; rfl
    · rw [byteAt_out (s := n) (by omega), byteAt_out (s := o) (by omega)]; split <;> rfl
  · exact (byteAt_out (by omega)).symm
theorem mix_off {o n : ByteArray} {m : Int} (ho : o.size ≤ 512) (hn : n.size ≤ 512) (eo : Even o) (hb : bitOn m 0 = false) : mixS o n m = o := by
  refine even_ext (even_mix _ _ _) eo fun j => ?_
  rw [byteAt_mix]
  split
  · unfold mixB
    by_cases h5 : j < 512
    · rw [show j / 512 = 0 by omega, hb]; rfl
    · rw [byteAt_out (s := n) (by omega), byteAt_out (s := o) (by omega)]; split <;> rfl
  · exact (byteAt_out (by omega)).symm

theorem rec_even {g n : Int} {b : ByteArray} (h : recE g n b = 0) : Even (recS g n b) := by
  rw [recS, if_pos h, pageS_ok (bodyR_page h)]
  exact even_trim _

theorem whole_right {s t : ByteArray} (zs : s.size ≤ 512) (zt : t.size ≤ 512) (es : Even s) (et : Even t) : rightD [t] [((0 : Int), s)] = true := by
  rw [rightD_iff]
  refine ⟨⟨by simp, by simp, by simp⟩, fun x hx => ?_, fun p hp => ?_⟩
  · simp at hx; subst hx; exact (okS_iff _).2 ⟨by omega, et⟩
  · simp at hp; subst hp; exact (okW_iff _ _).2 ⟨⟨by simp, by simp⟩, (okS_iff _).2 ⟨by simp; omega, es⟩⟩

end Go.Proofs.Ytcdcnonkoffbhaa.Plain
namespace Go.Proofs.Ytcdcnonkoffbhaa
open Go.RowKit Plain
set_option linter.unusedVariables false

theorem isS_oneR (W : World) (x : ByteArray) (hx : x.size ≤ maxLen) : IsS (W.alloc (.cells #[.string x] 9)) (some ⟨W.heap.size, 0, none⟩) 1 [x] := by
  refine ⟨Nat.le_refl _, by unfold maxLen; omega, fun j d hd => ?_⟩
  match j, hd with
  | 0, hd => simp at hd; subst hd; exact ⟨W.heap.size, 0, rfl, by simp, World.cell?_alloc_at _ _ _ _ rfl, hx⟩

theorem isP_one (W : World) (x : ByteArray) (hx : x.size ≤ maxLen) : IsP (W.alloc (.cells #[.int .i64 0, .string x] 45)) (some ⟨W.heap.size, 0, none⟩) 1 [((0 : Int), x)] := by
  refine ⟨Nat.le_refl _, by unfold maxLen; omega, fun j d hd => ?_⟩
  match j, hd with
  | 0, hd => simp at hd; subst hd; exact ⟨W.heap.size, 0, rfl, by simp, World.cell?_alloc_at _ _ _ _ rfl, World.cell?_alloc_at _ _ _ _ rfl, hx, by simp, by simp⟩

/-- A device with one block and one write on its way to it, and one mask. -/
theorem crash_one (s t : ByteArray) (m : Int) (W : World) (zs : s.size ≤ 512) (zt : t.size ≤ 512) (es : Even s) (et : Even t) (v0 v1 : Value) :
    Calls Try.prog 23 #[.agg #[.slice (some ⟨W.heap.size, 0, none⟩) 1 1, .slice (some ⟨W.heap.size + 1, 0, none⟩) 1 1], .slice (some ⟨W.heap.size + 1 + 1 + 1, 0, none⟩) 1 1] ((((W.alloc (.cells #[.string t] 9)).alloc (.cells #[.int .i64 0, .string s] 45)).alloc (.cells #[v0, v1] 48)).alloc (.cells #[.int .i64 m] 3)) fun e w' => ∃ b o d, e = .returned (.tuple #[.agg #[.slice (some ⟨b, o, none⟩) 1 d, .slice none 0 0], .int .i64 0]) ∧ w'.cell? ⟨b, o, none⟩ = some (.string (mixS t s m)) ∧ 1 ≤ d ∧ d ≤ maxLen ∧ Below W.heap.size W w' := by
  have e1 : (W.alloc (.cells #[.string t] 9)).heap.size = W.heap.size + 1 := by simp
  have e2 : ((W.alloc (.cells #[.string t] 9)).alloc (.cells #[.int .i64 0, .string s] 45)).heap.size = W.heap.size + 1 + 1 := by simp
  have e3 : (((W.alloc (.cells #[.string t] 9)).alloc (.cells #[.int .i64 0, .string s] 45)).alloc (.cells #[v0, v1] 48)).heap.size = W.heap.size + 1 + 1 + 1 := by simp
  have hS := isS_oneR W t (by unfold maxLen; omega)
  have hP := isP_one (W.alloc (.cells #[.string t] 9)) s (by unfold maxLen; omega)
  rw [e1] at hP
  have hI := isI_one (((W.alloc (.cells #[.string t] 9)).alloc (.cells #[.int .i64 0, .string s] 45)).alloc (.cells #[v0, v1] 48)) m
  rw [e3] at hI
  have up : ∀ (V : World) (o : Obj), Below V.heap.size V (V.alloc o) := fun V o => (Below.refl _ _).alloc (Nat.le_refl _) _
  have hB : Below W.heap.size W ((((W.alloc (.cells #[.string t] 9)).alloc (.cells #[.int .i64 0, .string s] 45)).alloc (.cells #[v0, v1] 48)).alloc (.cells #[.int .i64 m] 3)) := Below.tr (Below.tr (Below.tr (up _ _) (up _ _)) (up _ _)) (up _ _)
  have hr := whole_right zs zt es et
  have := crash_any (some ⟨W.heap.size, 0, none⟩) (some ⟨W.heap.size + 1, 0, none⟩) (some ⟨W.heap.size + 1 + 1 + 1, 0, none⟩) 1 1 1 [t] [((0 : Int), s)] [m] _ (((hS.below (up _ _)).below (up _ _)).below (up _ _)) ((hP.below (up _ _)).below (up _ _)) hI
  refine this.mono fun e w' ⟨b, d, he, hI2, hb⟩ => ?_
  have hA : crashA (maskAt [m]) [t] [((0 : Int), s)] = [mixS t s m] := by
    unfold crashA
    rw [if_pos hr]
    rfl
  have hE : rightE [t] [((0 : Int), s)] = 0 := by unfold rightE; rw [hr]; rfl
  rw [hA] at hI2 he
  rw [hE] at he
  obtain ⟨bb, o, rfl, _, hc, _⟩ := hI2.2.2 0 _ rfl
  exact ⟨bb, o, d, he, hc, hI2.1, hI2.2.1, Below.tr hB hb⟩

set_option maxRecDepth 20000 in
set_option maxHeartbeats 2000000 in
theorem ringWhole_walk (g n : Int) (b old : ByteArray) (m : Int) (w : World) (wg : (Lit.int .i64 g).wf = true) (wn : (Lit.int .i64 n).wf = true) (hb0 : b.size ≤ maxLen) (ho0 : old.size ≤ maxLen) (wm : (Lit.int .i64 m).wf = true) :
    Calls Try.prog 8 #[.int .i64 g, .int .i64 n, .string b, .string old, .int .i64 m] w fun e w' => e = .returned (.bool true) ∧ Below w.heap.size w w' := by
  have hom : old.size ≤ 9223372036854775807 := ho0
  obtain ⟨k, hk⟩ : ∃ k, k = min old.size 480 := ⟨_, rfl⟩
  have hkm : min (old.size : Int) 480 = (k : Int) := by omega
  have hko : k ≤ old.size := by omega
  have rk := min_run hkm
  obtain ⟨G1, hG1⟩ : ∃ G1, IntKind.i64.wrap (g - 1) = G1 := ⟨_, rfl⟩
  obtain ⟨G2, hG2⟩ : ∃ G2, max G1 1 = G2 := ⟨_, rfl⟩
  have rx := max_run hG2
  have c1 := fun W => ringPut_any g n b W hb0
  have c2 := fun W => ringPut_any G2 n (old.extract 0 k) W (by rw [ByteArray.size_extract]; unfold maxLen at *; omega)
  have c3 := alive13_any
  have zs := rec_size g n b
  have zt := rec_size G2 n (old.extract 0 k)
  have hes : Hid (recE g n b = 0 → Even (recS g n b)) := rec_even
  have het : Hid (recE G2 n (old.extract 0 k) = 0 → Even (recS G2 n (old.extract 0 k))) := rec_even
  generalize recE g n b = D at *
  generalize recS g n b = s at *
  generalize recE G2 n (old.extract 0 k) = F at *
  generalize recS G2 n (old.extract 0 k) = t at *
  have hB := Below.refl w.heap.size w
  have tok1 : True := trivial
  clear hk hkm hG2 hb0 ho0 wg wn wm
  by_cases hD : D = 0
  · subst hD
    by_cases hF : F = 0
    · subst hF
      have c4 := fun W v0 v1 => crash_one s t m W (by omega) (by omega) (hes.out rfl) (het.out rfl) v0 v1
      have hbit := bit_eq m 0
      rw [show m / 2 ^ 0 = m by simp] at hbit
      cases hb : bitOn m 0 with
      | true =>
        rw [mix_on (by omega) (by omega) (hes.out rfl) hb] at c4
        rw [hb] at hbit
        clear hes het hb
        go_enter Try.func8, Try.ntmps8
        go_wp2_with (first
  | (go_at_call 9; have _t := tok1; refine (c1 _).mono ?_; rintro y w1 ⟨rfl, hb⟩; replace hB := Below.tr hB hb; clear hb tok1 _t)
  | (go_at_call 9; refine (c2 _).mono ?_; rintro y w2 ⟨rfl, hb⟩; replace hB := Below.tr hB hb; clear hb)
  | (go_at_call 23; refine (c4 _ _ _).mono ?_; rintro y w4 ⟨b, o, d, rfl, hc, hd1, hd2, hb⟩; replace hB := Below.tr hB hb; have hm4 : d ≤ 9223372036854775807 := hd2; replace hc := cell_alloc hc (.cells #[.slice (some ⟨b, o, none⟩) 1 d, .slice none 0 0] 48); have hB2 := hB.alloc hB.size (.cells #[.slice (some ⟨b, o, none⟩) 1 d, .slice none 0 0] 48); have z0 : (w4.alloc (.cells #[.slice (some ⟨b, o, none⟩) 1 d, .slice none 0 0] 48)).cell? ⟨w4.heap.size, 0, none⟩ = some (.slice (some ⟨b, o, none⟩) 1 d) := World.cell?_alloc_at _ _ _ _ rfl; clear hb)
  | (go_at_call 13; refine (c3 _).mono ?_; rintro y w3 ⟨rfl, hb⟩; replace hB2 := Below.tr hB2 hb; replace hc := cell_below hb hc; replace z0 := cell_below hb z0; clear hb)
          )
        go_ret
        exact ⟨ret_bool (by simp), hB2⟩
      | false =>
        rw [mix_off (by omega) (by omega) (het.out rfl) hb] at c4
        rw [hb] at hbit
        clear hes het hb
        go_enter Try.func8, Try.ntmps8
        go_wp2_with (first
  | (go_at_call 9; have _t := tok1; refine (c1 _).mono ?_; rintro y w1 ⟨rfl, hb⟩; replace hB := Below.tr hB hb; clear hb tok1 _t)
  | (go_at_call 9; refine (c2 _).mono ?_; rintro y w2 ⟨rfl, hb⟩; replace hB := Below.tr hB hb; clear hb)
  | (go_at_call 23; refine (c4 _ _ _).mono ?_; rintro y w4 ⟨b, o, d, rfl, hc, hd1, hd2, hb⟩; replace hB := Below.tr hB hb; have hm4 : d ≤ 9223372036854775807 := hd2; replace hc := cell_alloc hc (.cells #[.slice (some ⟨b, o, none⟩) 1 d, .slice none 0 0] 48); have hB2 := hB.alloc hB.size (.cells #[.slice (some ⟨b, o, none⟩) 1 d, .slice none 0 0] 48); have z0 : (w4.alloc (.cells #[.slice (some ⟨b, o, none⟩) 1 d, .slice none 0 0] 48)).cell? ⟨w4.heap.size, 0, none⟩ = some (.slice (some ⟨b, o, none⟩) 1 d) := World.cell?_alloc_at _ _ _ _ rfl; clear hb)
  | (go_at_call 13; refine (c3 _).mono ?_; rintro y w3 ⟨rfl, hb⟩; replace hB2 := Below.tr hB2 hb; replace hc := cell_below hb hc; replace z0 := cell_below hb z0; clear hb)
          )
        go_ret
        exact ⟨ret_bool (by simp), hB2⟩
    · have hF' : (F == 0) = false := by simpa using hF
      clear hes het
      go_enter Try.func8, Try.ntmps8
      go_wp2_with (first
  | (go_at_call 9; have _t := tok1; refine (c1 _).mono ?_; rintro y w1 ⟨rfl, hb⟩; replace hB := Below.tr hB hb; clear hb tok1 _t)
  | (go_at_call 9; refine (c2 _).mono ?_; rintro y w2 ⟨rfl, hb⟩; replace hB := Below.tr hB hb; clear hb)
  | (go_at_call 13; refine (c3 _).mono ?_; rintro y w3 ⟨rfl, hb⟩; replace hB := Below.tr hB hb; clear hb)
        )
      go_ret
      exact ⟨rfl, hB⟩
  · have hD' : (D == 0) = false := by simpa using hD
    clear hes het
    go_enter Try.func8, Try.ntmps8
    go_wp2_with (first
  | (go_at_call 9; have _t := tok1; refine (c1 _).mono ?_; rintro y w1 ⟨rfl, hb⟩; replace hB := Below.tr hB hb; clear hb tok1 _t)
  | (go_at_call 9; refine (c2 _).mono ?_; rintro y w2 ⟨rfl, hb⟩; replace hB := Below.tr hB hb; clear hb)
  | (go_at_call 13; refine (c3 _).mono ?_; rintro y w3 ⟨rfl, hb⟩; replace hB := Below.tr hB hb; clear hb)
      )
    go_ret
    exact ⟨rfl, hB⟩

end Go.Proofs.Ytcdcnonkoffbhaa

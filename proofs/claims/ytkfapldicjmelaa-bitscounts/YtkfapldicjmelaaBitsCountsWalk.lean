/-
  The walk through the statement BitsCounts.
-/
import Derived.Test.YtkfapldicjmelaaBitsFind
import Derived.Test.YtkfapldicjmelaaBitsWith
namespace Go.Proofs.Ytkfapldicjmelaa
open Go.RowKit Plain
set_option linter.unusedVariables false

/-- One list, handed over as any number of them. -/
theorem isL_one {W : World} {a : Option Addr} {c n : Nat} {l : List Bool} (hn : n = l.length) (h : IsB W a c l) : IsL (W.alloc (.cells #[.slice a n c] 22)) (some ⟨W.heap.size, 0, none⟩) 1 [(a, c, l)] := by
  subst hn
  have hB := (Below.refl W.heap.size W).alloc (Nat.le_refl _) (.cells #[.slice a l.length c] 22)
  refine ⟨Nat.le_refl _, by unfold maxLen; omega, fun j d hd => ?_⟩
  match j, hd with
  | 0, hd =>
    simp at hd
    subst hd
    exact ⟨h.below hB, W.heap.size, 0, rfl, by simp, World.cell?_alloc_at _ _ _ _ rfl⟩

theorem isL_two {W : World} {a b : Option Addr} {c d n m : Nat} {l k : List Bool} (hn : n = l.length) (hm : m = k.length) (h : IsB W a c l) (h' : IsB W b d k) : IsL (W.alloc (.cells #[.slice a n c, .slice b m d] 22)) (some ⟨W.heap.size, 0, none⟩) 2 [(a, c, l), (b, d, k)] := by
  subst hn hm
  have hB := (Below.refl W.heap.size W).alloc (Nat.le_refl _) (.cells #[.slice a l.length c, .slice b k.length d] 22)
  refine ⟨Nat.le_refl _, by unfold maxLen; omega, fun j x hd => ?_⟩
  match j, hd with
  | 0, hd =>
    simp at hd
    subst hd
    exact ⟨h.below hB, W.heap.size, 0, rfl, by simp, World.cell?_alloc_at _ _ _ _ rfl⟩
  | 1, hd =>
    simp at hd
    subst hd
    exact ⟨h'.below hB, W.heap.size, 0, rfl, by simp, World.cell?_alloc_at _ _ _ _ rfl⟩

theorem isI_one (W : World) (m : Int) : IsI (W.alloc (.cells #[.int .i64 m] 3)) (some ⟨W.heap.size, 0, none⟩) 1 [m] := by
  refine ⟨Nat.le_refl _, by unfold maxLen; omega, fun j d hd => ?_⟩
  match j, hd with
  | 0, hd =>
    simp at hd
    subst hd
    exact ⟨W.heap.size, 0, rfl, by simp, World.cell?_alloc_at _ _ _ _ rfl⟩

theorem count_one (W : World) (b : Option Addr) (d n : Nat) (l : List Bool) (hn : n = l.length) (h : IsB W b d l) :
    Calls Try.prog 16 #[.slice (some ⟨W.heap.size, 0, none⟩) 1 1] (W.alloc (.cells #[.slice b n d] 22)) fun e w' => e = .returned (.int .i64 (countB [l])) ∧ Below W.heap.size W w' :=
  (count_any _ _ _ _ (isL_one hn h)).mono fun e w' ⟨he, hw⟩ => ⟨he, hw ▸ (Below.refl _ _).alloc (Nat.le_refl _) _⟩

theorem count_two (W : World) (b b' : Option Addr) (d d' n n' : Nat) (l l' : List Bool) (hn : n = l.length) (hn' : n' = l'.length) (h : IsB W b d l) (h' : IsB W b' d' l') :
    Calls Try.prog 16 #[.slice (some ⟨W.heap.size, 0, none⟩) 2 2] (W.alloc (.cells #[.slice b n d, .slice b' n' d'] 22)) fun e w' => e = .returned (.int .i64 (countB [l, l'])) ∧ Below W.heap.size W w' :=
  (count_any _ _ _ _ (isL_two hn hn' h h')).mono fun e w' ⟨he, hw⟩ => ⟨he, hw ▸ (Below.refl _ _).alloc (Nat.le_refl _) _⟩

theorem first_one (W : World) (fr : Int) (b : Option Addr) (d n : Nat) (l : List Bool) (hn : n = l.length) (h : IsB W b d l) (hl : n ≤ 4096) :
    Calls Try.prog 18 #[.int .i64 fr, .slice (some ⟨W.heap.size, 0, none⟩) 1 1] (W.alloc (.cells #[.slice b n d] 22)) fun e w' => e = .returned (.int .i64 (firstB fr [l])) ∧ Below W.heap.size W w' :=
  (first_any fr _ _ _ _ (isL_one hn h) (fun x hx => by simp [rowsOf] at hx; subst hx; omega)).mono fun e w' ⟨he, hw⟩ => ⟨he, Below.tr ((Below.refl _ _).alloc (Nat.le_refl _) _) hw⟩

theorem with_one (W : World) (a : Option Addr) (c n : Nat) (l : List Bool) (is : Bool) (t : Nat) (hn : n = l.length) (h : IsB W a c l) (hl : n ≤ 4096) (ht : t < n) :
    Calls Try.prog 20 #[.slice a n c, .bool is, .slice (some ⟨W.heap.size, 0, none⟩) 1 1] (W.alloc (.cells #[.int .i64 t] 3)) fun e w' => ∃ a' c', e = .returned (.tuple #[.slice a' n c', .int .i64 0]) ∧ IsB w' a' c' (l.set t is) ∧ Below W.heap.size W w' := by
  subst hn
  have hB := (Below.refl W.heap.size W).alloc (Nat.le_refl _) (.cells #[.int .i64 (t : Int)] 3)
  have hok : placesOk l [(t : Int)] = true := by simp [placesOk]; exact ht
  have := with_any a (some ⟨W.heap.size, 0, none⟩) c 1 l is [(t : Int)] _ (h.below hB) (isI_one W t) hl
  rw [withE_ok hok, withL_ok hok] at this
  refine this.mono fun e w' ⟨a', c', he, hI, hb⟩ => ⟨a', c', ?_, hI, Below.tr hB hb⟩
  rw [he, setB_length]

theorem first_one_is {l : List Bool} {j : Nat} (h : l[j]? = some false) (hall : ∀ i, i < j → atB l i = true) : firstB 0 [l] = j := by
  have hj := (List.getElem?_eq_some_iff.1 h).1
  rcases firstB_one l with ⟨_, ha⟩ | ⟨p, e, hp, hf, ha⟩
  · have := ha j hj
    rw [atB_some h] at this; cases this
  · rw [e]
    rcases Nat.lt_trichotomy j p with h1 | h1 | h1
    · have := ha j h1
      rw [atB_some h] at this; cases this
    · rw [h1]
    · have := hall p h1
      rw [hf] at this; cases this

theorem first_one_none {l : List Bool} (hall : ∀ i, i < l.length → atB l i = true) : firstB 0 [l] = -1 := by
  rcases firstB_one l with ⟨e, _⟩ | ⟨p, _, hp, hf, _⟩
  · exact e
  · rw [hall p hp] at hf; cases hf

theorem count_all {l : List Bool} (hall : ∀ i, i < l.length → atB l i = true) : countB [l] = l.length := by
  rw [countB_one, List.countP_eq_length]
  intro x hx
  obtain ⟨i, hi⟩ := List.getElem?_of_mem hx
  have := hall i (List.getElem?_eq_some_iff.1 hi).1
  rw [atB_some hi] at this
  simpa using this

theorem atB_set (l : List Bool) (t i : Nat) (h : atB (l.set t false) i = true) : atB l i = true := by
  unfold atB at h ⊢
  rw [List.getElem?_set] at h
  split at h
  · split at h
    · cases h
    · cases h
  · exact h

/-- Where a number falls among so many places. -/
theorem rem_place (z : Int) (n : Nat) (h : 0 < n) : ∃ (r : Int) (t : Nat), z.tmod n = r ∧ -(n : Int) < r ∧ r < n ∧ (r + n).tmod n = t ∧ t < n := by
  have hn : (0 : Int) < n := by omega
  have h1 : z.tmod n < n := Int.tmod_lt_of_pos z hn
  have h2 : -(n : Int) < z.tmod n := by
    have := Int.tmod_lt_of_pos (-z) hn
    rw [Int.neg_tmod] at this
    omega
  refine ⟨z.tmod n, ((z.tmod n + n).tmod n).toNat, rfl, h2, h1, ?_, ?_⟩
  · have : 0 ≤ (z.tmod n + n).tmod n := Int.tmod_nonneg _ (by omega)
    omega
  · have := Int.tmod_lt_of_pos (z.tmod n + n) hn
    have : 0 ≤ (z.tmod n + n).tmod n := Int.tmod_nonneg _ (by omega)
    omega

set_option maxRecDepth 20000 in
set_option maxHeartbeats 2000000 in
theorem bitsCounts_walk (a : Option Addr) (c : Nat) (l0 : List Bool) (z : Int) (w : World) (hB0 : IsB w a c l0) (wz : (Lit.int .i64 z).wf = true) :
    Calls Try.prog 7 #[.slice a l0.length c, .int .i64 z] w fun e w' => e = .returned (.bool true) ∧ Below w.heap.size w w' := by
  obtain ⟨l, hll⟩ : ∃ l, l = l0.take 300 := ⟨_, rfl⟩
  have hJ : IsB w a c l := by rw [hll]; exact hB0.take 300
  obtain ⟨n, hn⟩ : ∃ n, n = l.length := ⟨_, rfl⟩
  have hmin : min (l0.length : Int) 300 = (n : Int) := by rw [hn, hll, List.length_take]; omega
  have hl : n ≤ 300 := by rw [hn, hll, List.length_take]; omega
  have hnc : n ≤ c := by rw [hn]; exact hJ.1
  have hm : l0.length ≤ 9223372036854775807 := Nat.le_trans hB0.1 hB0.2.1
  have hc' : c ≤ 9223372036854775807 := hB0.2.1
  obtain ⟨m, hmm⟩ : ∃ m, m = l0.length := ⟨_, rfl⟩
  have hlc : m ≤ c := by rw [hmm]; exact hB0.1
  rw [← hmm] at hmin hm ⊢
  have hmr := min_run hmin
  have hz : -9223372036854775808 ≤ z ∧ z ≤ 9223372036854775807 := by simpa [Lit.wf, IntKind.min, IntKind.max, IntKind.signed, IntKind.bits] using wz
  obtain ⟨K, hK⟩ : ∃ K, Hid (K = countB [l]) := ⟨_, rfl⟩
  obtain ⟨P, hP⟩ : ∃ P, Hid (P = firstB 0 [l]) := ⟨_, rfl⟩
  have c1 : ∀ W, Below w.heap.size w W → Calls Try.prog 16 #[.slice (some ⟨W.heap.size, 0, none⟩) 1 1] (W.alloc (.cells #[.slice a n c] 22)) fun e w' => e = .returned (.int .i64 K) ∧ Below W.heap.size W w' := by
    intro W hW; rw [hK.out]; exact count_one W a c n l hn (hJ.below hW)
  have c2 : ∀ W, Below w.heap.size w W → Calls Try.prog 18 #[.int .i64 0, .slice (some ⟨W.heap.size, 0, none⟩) 1 1] (W.alloc (.cells #[.slice a n c] 22)) fun e w' => e = .returned (.int .i64 P) ∧ Below W.heap.size W w' := by
    intro W hW; rw [hP.out]; exact first_one W 0 a c n l hn (hJ.below hW) (by omega)
  have HB : Below w.heap.size w w := Below.refl _ _
  have HN : Hid (n = l.length) := hn
  have HJ : Hid (IsB w a c l) := hJ
  have t1 : True := trivial
  clear hB0 hJ hll hmm hn wz
  by_cases h0 : n = 0
  · have hl0 : l = [] := List.length_eq_zero_iff.1 (HN.out.symm.trans h0)
    have hK0 : K = 0 := by rw [hK.out, hl0]; rfl
    have hP0 : P = -1 := by rw [hP.out, hl0]; rfl
    subst h0 hK0 hP0
    go_enter Try.func7, Try.ntmps7
    go_wp2_with (first
      | (go_at_call 16; refine (c1 _ HB).mono ?_; rintro e w1 ⟨rfl, hb⟩; replace HB := Below.tr HB hb; clear hb)
      | (go_at_call 18; refine (c2 _ HB).mono ?_; rintro e w2 ⟨rfl, hb⟩; replace HB := Below.tr HB hb; clear hb)
      | (go_at_call 12; refine (alive_any _).mono ?_; rintro e w3 ⟨rfl, hb⟩; replace HB := Below.tr HB hb; clear hb))
    go_ret
    exact ⟨rfl, HB⟩
  · have h0' : ((n : Int) == 0) = false := by simp; omega
    obtain ⟨r, t, hr, hr1, hr2, hrt, htn⟩ := rem_place z n (by omega)
    have hn0 : (n : Int) ≠ 0 := by omega
    obtain ⟨X, hX⟩ : ∃ X : Nat, Hid (X = countB [l.set t false]) := ⟨_, rfl⟩
    have hXb : X ≤ 300 := by
      rw [hX.out, countB_one]
      have := List.countP_le_length (p := id) (l := l.set t false)
      rw [List.length_set, ← HN.out] at this
      omega
    have hX1 : Hid (countB [l.set t true] = X + 1) := by show _ = _; rw [hX.out, countB_one, countB_one]; exact count_set l t (by rw [← HN.out]; exact htn)
    have hX2 : Hid (countB [l, l.set t false] = X) := by show _ = _; rw [hX.out]; exact countB_less (by rw [List.length_set]) (atB_set l t)
    have c3 : ∀ W is, Below w.heap.size w W → Calls Try.prog 20 #[.slice a n c, .bool is, .slice (some ⟨W.heap.size, 0, none⟩) 1 1] (W.alloc (.cells #[.int .i64 t] 3)) fun e w' => ∃ a' c', e = .returned (.tuple #[.slice a' n c', .int .i64 0]) ∧ IsB w' a' c' (l.set t is) ∧ Below W.heap.size W w' :=
      fun W is hW => with_one W a c n l is t HN.out (HJ.out.below hW) (by omega) htn
    have c4 : ∀ W b d, IsB W b d (l.set t true) → Calls Try.prog 16 #[.slice (some ⟨W.heap.size, 0, none⟩) 1 1] (W.alloc (.cells #[.slice b n d] 22)) fun e w' => e = .returned (.int .i64 ((X : Int) + 1)) ∧ Below W.heap.size W w' := by
      intro W b d h
      have := count_one W b d n _ (by rw [List.length_set]; exact HN.out) h
      rw [hX1.out] at this
      exact this
    have c5 : ∀ W b d, IsB W b d (l.set t false) → Calls Try.prog 16 #[.slice (some ⟨W.heap.size, 0, none⟩) 1 1] (W.alloc (.cells #[.slice b n d] 22)) fun e w' => e = .returned (.int .i64 X) ∧ Below W.heap.size W w' := by
      intro W b d h
      have := count_one W b d n _ (by rw [List.length_set]; exact HN.out) h
      rw [← hX.out] at this
      exact this
    have c6 : ∀ W b d, Below w.heap.size w W → IsB W b d (l.set t false) → Calls Try.prog 16 #[.slice (some ⟨W.heap.size, 0, none⟩) 2 2] (W.alloc (.cells #[.slice a n c, .slice b n d] 22)) fun e w' => e = .returned (.int .i64 X) ∧ Below W.heap.size W w' := by
      intro W b d hW h
      have := count_two W a b c d n n l _ HN.out (by rw [List.length_set]; exact HN.out) (HJ.out.below hW) h
      rw [hX2.out] at this
      exact this
    have t2 : True := trivial
    have t3 : True := trivial
    have t4 : True := trivial
    have t5 : True := trivial
    clear hX hX1 hX2
    go_enter Try.func7, Try.ntmps7
    go_wp2_with (first
      | (go_at_call 16; have _t := t1; refine (c1 _ HB).mono ?_; rintro e w1 ⟨rfl, hb⟩; clear t1; replace HB := Below.tr HB hb; clear hb)
      | (go_at_call 18; refine (c2 _ HB).mono ?_; rintro e w2 ⟨rfl, hb⟩; replace HB := Below.tr HB hb; clear hb)
      | (go_at_call 20; have _t := t2; refine (c3 _ true HB).mono ?_; rintro e w3 ⟨a3, d3, rfl, hI, hb⟩; clear t2; replace HB := Below.tr HB hb; have K3 : Hid (IsB w3 a3 d3 (l.set t true)) := hI; clear hb hI)
      | (go_at_call 20; refine (c3 _ false HB).mono ?_; rintro e w4 ⟨a4, d4, rfl, hI, hb⟩; replace HB := Below.tr HB hb; have K4 : Hid (IsB w4 a4 d4 (l.set t false)) := hI; have K3 : Hid (IsB w4 a3 d3 (l.set t true)) := K3.out.below hb; clear hb hI)
      | (go_at_call 16; have _t := t3; refine (c4 _ a3 d3 K3.out).mono ?_; rintro e w5 ⟨rfl, hb⟩; clear t3; replace HB := Below.tr HB hb; have K4 : Hid (IsB w5 a4 d4 (l.set t false)) := K4.out.below hb; clear hb)
      | (go_at_call 16; have _t := t4; refine (c5 _ a4 d4 K4.out).mono ?_; rintro e w6 ⟨rfl, hb⟩; clear t4; replace HB := Below.tr HB hb; have K4 : Hid (IsB w6 a4 d4 (l.set t false)) := K4.out.below hb; clear hb)
      | (go_at_call 16; have _t := t5; refine (c6 _ a4 d4 HB K4.out).mono ?_; rintro e w7 ⟨rfl, hb⟩; clear t5; replace HB := Below.tr HB hb; have K4 : Hid (IsB w7 a4 d4 (l.set t false)) := K4.out.below hb; clear hb)
      | (go_at_call 16; refine (c5 _ a4 d4 K4.out).mono ?_; rintro e w8 ⟨rfl, hb⟩; replace HB := Below.tr HB hb; clear hb)
      | (go_at_call 12; refine (alive_any _).mono ?_; rintro e w9 ⟨rfl, hb⟩; replace HB := Below.tr HB hb; clear hb))
    have HI : Hid (IsB w9 a c l) := HJ.out.below HB
    clear HJ c1 c2 c3 c4 c5 c6 K3 K4
    go_loopw [92] (fun v wr => ∃ j : Nat, j ≤ n ∧ v = .int .i64 j ∧ (∀ i, i < j → atB l i = true) ∧ w9 = wr) (fun v _ => n - (intOf v).toNat)
    case atStart => exact ⟨0, by omega, rfl, fun i hi => by omega, by trivial⟩
    case round =>
      obtain ⟨j, hj, rfl, hall, rfl⟩ := hrel
      have HA : Hid (∀ i, i < j → atB l i = true) := hall
      clear hall
      by_cases hlt : j < n
      · have hlt' : (j : Int) < n := by omega
        obtain ⟨q, hq⟩ : ∃ q, Hid (l[j]? = some q) := ⟨_, List.getElem?_eq_getElem (by rw [← HN.out]; exact hlt)⟩
        obtain ⟨b, o, rfl, hbl, hc⟩ := HI.out.2.2 j q hq.out
        cases q with
        | false =>
          have hPj : P = (j : Int) := by rw [hP.out]; exact first_one_is hq.out HA.out
          subst hPj
          go_wp2
          go_ret
          exact ⟨rfl, HB⟩
        | true =>
          have hnx : Hid (∀ i, i < j + 1 → atB l i = true) := by
            intro i hi
            by_cases e : i = j
            · rw [e]; exact atB_some hq.out
            · exact HA.out i (by omega)
          go_wp2
          go_roundw
          case rel => exact ⟨j + 1, by omega, by go_num, hnx.out, by trivial⟩
          case measure => simp [intOf]; omega
      · obtain rfl : j = n := by omega
        have hall : Hid (∀ i, i < l.length → atB l i = true) := by intro i hi; exact HA.out i (by rw [HN.out]; exact hi)
        have hP1 : P = -1 := by rw [hP.out]; exact first_one_none hall.out
        have hK1 : K = j := by rw [hK.out, count_all hall.out]; exact HN.out.symm
        subst hP1 hK1
        go_wp2
        go_ret
        exact ⟨rfl, HB⟩

end Go.Proofs.Ytkfapldicjmelaa

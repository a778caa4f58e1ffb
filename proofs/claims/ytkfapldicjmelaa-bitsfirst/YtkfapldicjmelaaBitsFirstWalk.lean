/-
  The walk through the statement BitsFirst.
-/
import Derived.Test.YtkfapldicjmelaaBitsCountsWalk
import Derived.Test.YtkfapldicjmelaaAnyheld
namespace Go.Proofs.Ytkfapldicjmelaa
open Go.RowKit Plain
set_option linter.unusedVariables false

theorem first_two (W : World) (fr : Int) (b b' : Option Addr) (d d' n n' : Nat) (l l' : List Bool) (hn : n = l.length) (hn' : n' = l'.length) (h : IsB W b d l) (h' : IsB W b' d' l') (hl : n ≤ 4096) (hl' : n' ≤ 4096) :
    Calls Try.prog 18 #[.int .i64 fr, .slice (some ⟨W.heap.size, 0, none⟩) 2 2] (W.alloc (.cells #[.slice b n d, .slice b' n' d'] 22)) fun e w' => e = .returned (.int .i64 (firstB fr [l, l'])) ∧ Below W.heap.size W w' :=
  (first_any fr _ _ _ _ (isL_two hn hn' h h') (fun x hx => by simp [rowsOf] at hx; rcases hx with rfl | rfl <;> omega)).mono fun e w' ⟨he, hw⟩ => ⟨he, Below.tr ((Below.refl _ _).alloc (Nat.le_refl _) _) hw⟩

set_option maxHeartbeats 400000 in
/-- Whether a place is free in a list: the law's own closure. -/
theorem free_any (a : Option Addr) (c n : Nat) (l : List Bool) (g p : Nat) (w : World) (hn : n = l.length) (hB : IsB w a c l) (hg : w.cell? ⟨g, 0, none⟩ = some (.int .i64 p)) (hf : atB l p = false) :
    Calls Try.prog 22 #[.slice a n c, .pointer (some ⟨g, 0, none⟩)] w fun e w' => e = .returned (.bool true) ∧ w = w' := by
  by_cases h : p < n
  · obtain ⟨q, hq⟩ : ∃ q, l[p]? = some q := ⟨_, List.getElem?_eq_getElem (by rw [← hn]; exact h)⟩
    obtain ⟨b, o, rfl, hbl, hc⟩ := hB.2.2 p q hq
    rw [atB_some hq] at hf
    subst hf
    have h' : ¬ (n : Int) ≤ p := by omega
    have h1 : (p : Int) < n := by omega
    clear hn hq hB
    go_enter Try.func22, Try.ntmps22
    go_wp2
    go_ret
    exact ⟨rfl, rfl⟩
  · have h' : (n : Int) ≤ p := by omega
    clear hn hB hf
    go_enter Try.func22, Try.ntmps22
    go_wp2
    go_ret
    exact ⟨rfl, rfl⟩

/-- What the first free place of two rows is, and the one from later on. -/
theorem first_facts (a b : List Bool) (f m : Nat) :
    (firstB f [a, b] = -1 ∧ firstB ((f : Int) + m) [a, b] = -1) ∨
    ∃ p : Nat, firstB f [a, b] = p ∧ f ≤ p ∧ p < max a.length b.length ∧ atB a p = false ∧ atB b p = false ∧ (firstB ((f : Int) + m) [a, b] = -1 ∨ ∃ q : Nat, firstB ((f : Int) + m) [a, b] = q ∧ p ≤ q) ∧ firstB p [a, b] = p ∧ firstB f [b, a] = p := by
  rcases firstB_spec f [a, b] with ⟨e, hn⟩ | ⟨p, e, h1, h2, h3, h4⟩
  · exact .inl ⟨e, firstB_none fun j hj hl => hn j (by omega) hl⟩
  · have hz := howB_none.1 h3
    refine .inr ⟨p, e, by omega, by simpa [longest] using h2, by simpa using hz a (by simp), by simpa using hz b (by simp), ?_, firstB_is (Int.le_refl _) h2 h3 (fun j hj hl => by omega), by rw [firstB_swap]; exact e⟩
    rcases firstB_spec ((f : Int) + m) [a, b] with ⟨e', _⟩ | ⟨q, e', g1, g2, g3, _⟩
    · exact .inl e'
    · refine .inr ⟨q, e', ?_⟩
      refine Nat.le_of_not_lt fun hlt => h4 q (by omega) hlt g3

set_option maxRecDepth 20000 in
set_option maxHeartbeats 4000000 in
theorem bitsFirst_walk (a : Option Addr) (c : Nat) (l0 : List Bool) (b : Option Addr) (d : Nat) (k0 : List Bool) (x y : Int) (w : World) (hA0 : IsB w a c l0) (hB0 : IsB w b d k0) (wx : (Lit.int .i64 x).wf = true) (wy : (Lit.int .i64 y).wf = true) :
    Calls Try.prog 8 #[.slice a l0.length c, .slice b k0.length d, .int .i64 x, .int .i64 y] w fun e w' => e = .returned (.bool true) ∧ Below w.heap.size w w' := by
  obtain ⟨l, hl⟩ : ∃ l, l = l0.take 300 := ⟨_, rfl⟩
  obtain ⟨k, hk⟩ : ∃ l, l = k0.take 300 := ⟨_, rfl⟩
  have hA : IsB w a c l := by rw [hl]; exact hA0.take 300
  have hB : IsB w b d k := by rw [hk]; exact hB0.take 300
  obtain ⟨n, hn⟩ : ∃ n, n = l.length := ⟨_, rfl⟩
  obtain ⟨m, hm⟩ : ∃ n, n = k.length := ⟨_, rfl⟩
  have min1 : min (l0.length : Int) 300 = (n : Int) := by rw [hn, hl, List.length_take]; omega
  have min2 : min (k0.length : Int) 300 = (m : Int) := by rw [hm, hk, List.length_take]; omega
  have hn3 : n ≤ 300 := by rw [hn, hl, List.length_take]; omega
  have hm3 : m ≤ 300 := by rw [hm, hk, List.length_take]; omega
  have hnc : n ≤ c := by rw [hn]; exact hA.1
  have hmd : m ≤ d := by rw [hm]; exact hB.1
  have hc' : c ≤ 9223372036854775807 := hA0.2.1
  have hd' : d ≤ 9223372036854775807 := hB0.2.1
  obtain ⟨n0, hn0⟩ : ∃ n, n = l0.length := ⟨_, rfl⟩
  obtain ⟨m0, hm0⟩ : ∃ n, n = k0.length := ⟨_, rfl⟩
  have hn0c : n0 ≤ c := by rw [hn0]; exact hA0.1
  have hm0d : m0 ≤ d := by rw [hm0]; exact hB0.1
  rw [← hn0] at min1 ⊢
  rw [← hm0] at min2 ⊢
  have mr1 := min_run min1
  have mr2 := min_run min2
  have hx : -9223372036854775808 ≤ x ∧ x ≤ 9223372036854775807 := by simpa [Lit.wf, IntKind.min, IntKind.max, IntKind.signed, IntKind.bits] using wx
  have hy : -9223372036854775808 ≤ y ∧ y ≤ 9223372036854775807 := by simpa [Lit.wf, IntKind.min, IntKind.max, IntKind.signed, IntKind.bits] using wy
  obtain ⟨x1, hx1⟩ : ∃ z : Int, max x 0 = z := ⟨_, rfl⟩
  obtain ⟨y1, hy1⟩ : ∃ z : Int, max y 0 = z := ⟨_, rfl⟩
  obtain ⟨f, hf⟩ : ∃ z : Nat, min x1 400 = z := ⟨(min x1 400).toNat, by omega⟩
  obtain ⟨t, ht⟩ : ∃ z : Nat, min y1 400 = z := ⟨(min y1 400).toNat, by omega⟩
  have mr3 := max_run hx1
  have mr4 := max_run hy1
  have mr5 := min_run hf
  have mr6 := min_run ht
  have hf4 : f ≤ 400 := by omega
  have ht4 : t ≤ 400 := by omega
  have HF := first_facts l k f t
  obtain ⟨P, hP⟩ : ∃ P, P = firstB f [l, k] := ⟨_, rfl⟩
  obtain ⟨Q, hQ⟩ : ∃ Q, Q = firstB ((f : Int) + t) [l, k] := ⟨_, rfl⟩
  have c1 : ∀ W, Below w.heap.size w W → Calls Try.prog 18 #[.int .i64 f, .slice (some ⟨W.heap.size, 0, none⟩) 2 2] (W.alloc (.cells #[.slice a n c, .slice b m d] 22)) fun e w' => e = .returned (.int .i64 P) ∧ Below W.heap.size W w' := by
    intro W hW; rw [hP]; exact first_two W f a b c d n m l k hn hm (hA.below hW) (hB.below hW) (by omega) (by omega)
  have c2 : ∀ W, Below w.heap.size w W → Calls Try.prog 18 #[.int .i64 ((f : Int) + t), .slice (some ⟨W.heap.size, 0, none⟩) 2 2] (W.alloc (.cells #[.slice a n c, .slice b m d] 22)) fun e w' => e = .returned (.int .i64 Q) ∧ Below W.heap.size W w' := by
    intro W hW; rw [hQ]; exact first_two W _ a b c d n m l k hn hm (hA.below hW) (hB.below hW) (by omega) (by omega)
  have HB0 : ∀ j, Below w.heap.size w (w.drewN j) := fun j => below_drewN (Below.refl _ _) j
  have t1 : True := trivial
  rw [← hP, ← hQ] at HF
  rcases HF with ⟨rfl, rfl⟩ | ⟨p, rfl, hfp, hpm, hap, hbp, hQp, hpp, hsw⟩
  · clear hA0 hB0 hn0 hm0 hl hk hP hQ hA hB hn hm hx1 hy1 wx wy
    go_enter Try.func8, Try.ntmps8
    go_wp2
    go_quiet (fail)
    have HB := HB0 nq
    generalize w.drewN nq = w0 at HB ⊢
    clear HB0
    go_wp2_with (first
      | (go_at_call 18; have _t := t1; refine (c1 _ HB).mono ?_; rintro e w1 ⟨rfl, hb⟩; clear t1; replace HB := Below.tr HB hb; clear hb)
      | (go_at_call 18; refine (c2 _ HB).mono ?_; rintro e w2 ⟨rfl, hb⟩; replace HB := Below.tr HB hb; clear hb)
      | (go_at_call 12; refine (alive_any _).mono ?_; rintro e w3 ⟨rfl, hb⟩))
    go_ret
    exact ⟨rfl, Below.tr (HB.alloc HB.size _) hb⟩
  · obtain ⟨mx, hmx, hpx⟩ : ∃ z : Nat, max (n : Int) m = z ∧ (p : Int) < z := ⟨max n m, by omega, by rw [hn, hm]; exact Int.ofNat_lt.2 hpm⟩
    have mr7 := max_run hmx
    have c3 : ∀ W, Below w.heap.size w W → Calls Try.prog 18 #[.int .i64 p, .slice (some ⟨W.heap.size, 0, none⟩) 2 2] (W.alloc (.cells #[.slice a n c, .slice b m d] 22)) fun e w' => e = .returned (.int .i64 p) ∧ Below W.heap.size W w' := by
      intro W hW
      have := first_two W p a b c d n m l k hn hm (hA.below hW) (hB.below hW) (by omega) (by omega)
      rw [hpp] at this
      exact this
    have c4 : ∀ W, Below w.heap.size w W → Calls Try.prog 18 #[.int .i64 f, .slice (some ⟨W.heap.size, 0, none⟩) 2 2] (W.alloc (.cells #[.slice b m d, .slice a n c] 22)) fun e w' => e = .returned (.int .i64 p) ∧ Below W.heap.size W w' := by
      intro W hW
      have := first_two W f b a d c m n k l hm hn (hB.below hW) (hA.below hW) (by omega) (by omega)
      rw [hsw] at this
      exact this
    have c5 : ∀ W g, Below w.heap.size w W → W.cell? ⟨g, 0, none⟩ = some (.int .i64 p) → Calls Try.prog 22 #[.slice a n c, .pointer (some ⟨g, 0, none⟩)] W fun e w' => e = .returned (.bool true) ∧ W = w' :=
      fun W g hW hg => free_any a c n l g p W hn (hA.below hW) hg hap
    have c6 : ∀ W g, Below w.heap.size w W → W.cell? ⟨g, 0, none⟩ = some (.int .i64 p) → Calls Try.prog 22 #[.slice b m d, .pointer (some ⟨g, 0, none⟩)] W fun e w' => e = .returned (.bool true) ∧ W = w' :=
      fun W g hW hg => free_any b d m k g p W hm (hB.below hW) hg hbp
    have e1 : ((p : Int) == -1) = false := by rw [beq_eq_false_iff_ne]; omega
    have hfp' : (f : Int) ≤ p := by omega
    have hmf : ∀ (fn : Fn) (first cap : Array Value) (w : World), (Instr.makeFunc fn first cap).run Try.prog w = .ok (.func fn first cap) w := fun _ _ _ _ => rfl
    have t2 : True := trivial
    have t3 : True := trivial
    clear hA0 hB0 hn0 hm0 hl hk hP hQ hA hB hn hm hx1 hy1 wx wy hpp hsw hap hbp hpm hmx
    by_cases hQ1 : Q = -1
    · have eQ : (Q == -1) = true := by simp [hQ1]
      clear hQ1 hQp
      go_enter Try.func8, Try.ntmps8
      go_wp2
      go_quiet (fail)
      have HB := HB0 nq
      generalize w.drewN nq = w0 at HB ⊢
      clear HB0
      go_wp2_with (first
        | (go_at_call 18; have _t := t1; refine (c1 _ HB).mono ?_; rintro e w1 ⟨rfl, hb⟩; clear t1; replace HB := Below.tr HB hb; clear hb)
        | (go_at_call 18; refine (c2 _ HB).mono ?_; rintro e w2 ⟨rfl, hb⟩; replace HB := Below.tr HB hb; clear hb))
      clear c1 c2
      have r0 : (w2.alloc (.cells #[.int .i64 (p : Int)] 3)).cell? ⟨w2.heap.size, 0, none⟩ = some (.int .i64 p) := World.cell?_alloc_at _ _ _ _ rfl
      replace HB := HB.alloc HB.size (.cells #[.int .i64 (p : Int)] 3)
      generalize w2.alloc (.cells #[.int .i64 (p : Int)] 3) = W at r0 HB ⊢
      generalize w2.heap.size = g at r0 ⊢
      replace HB := HB.drew
      refine wp_region_noPanic ?_
      refine wp_region_held_drew (S := fun V => V.cell? ⟨g, 0, none⟩ = some (.int .i64 p)) (by kernel_rfl) r0 (fun hHeld => ?_)
      refine wpAnyH_ready (rs := [0]) (by kernel_rfl) (by simp) ?_
      refine cons_at (i := 0) rfl (fun K hK => ?_) AllReadyH.nil
      go_simp
      go_at_call 12; refine (alive_any _).mono ?_; rintro e w' ⟨rfl, hb⟩; replace HB := Below.tr HB hb; replace r0 := cell_below hb r0; clear hb
      refine hK.out _ _ ?_ (fun hHeld => ?_)
      · exact r0
      clear hK K
      try simp only [Act.put, List.setIfInBounds_toArray, List.set_cons_zero, List.set_cons_succ]
      refine take_at (i := 1) (v := ?_) rfl (by kernel_rfl) (by kernel_rfl) (by kernel_rfl) (fun _ _ _ h => h) (Or.inl ⟨by rfl, ?_⟩) (by assumption) ?_
      rotate_left 1
      · (intro w hSw; (try dsimp only at hSw); go_simp; (try with_reducible rfl))
      try simp only [Act.put, List.setIfInBounds_toArray, List.set_cons_zero, List.set_cons_succ]
      refine take_at (i := 2) (v := ?_) rfl (by kernel_rfl) (by kernel_rfl) (by kernel_rfl) (fun _ _ _ h => h) (Or.inl ⟨by rfl, ?_⟩) (by assumption) ?_
      rotate_left 1
      · (intro w hSw; (try dsimp only at hSw); go_simp; (try with_reducible rfl))
      try simp only [Act.put, List.setIfInBounds_toArray, List.set_cons_zero, List.set_cons_succ]
      refine take_at (i := 3) (v := ?_) rfl (by kernel_rfl) (by kernel_rfl) (by kernel_rfl) (fun _ _ _ h => h) (Or.inl ⟨by rfl, ?_⟩) (by assumption) ?_
      rotate_left 1
      · (intro w hSw; (try dsimp only at hSw); go_simp; (try with_reducible rfl))
      try simp only [Act.put, List.setIfInBounds_toArray, List.set_cons_zero, List.set_cons_succ]
      refine take_at (i := 4) (v := ?_) rfl (by kernel_rfl) (by kernel_rfl) (by kernel_rfl) (fun _ _ _ h => h) (Or.inl ⟨by rfl, ?_⟩) (by assumption) ?_
      rotate_left 1
      · (intro w hSw; (try dsimp only at hSw); go_simp; (try with_reducible rfl))
      try simp only [Act.put, List.setIfInBounds_toArray, List.set_cons_zero, List.set_cons_succ]
      refine take_at (i := 5) (v := ?_) rfl (by kernel_rfl) (by kernel_rfl) (by kernel_rfl) (fun _ _ _ h => h) (Or.inl ⟨by rfl, ?_⟩) (by assumption) ?_
      rotate_left 1
      · (intro w hSw; (try dsimp only at hSw); go_simp; (try with_reducible rfl))
      try simp only [Act.put, List.setIfInBounds_toArray, List.set_cons_zero, List.set_cons_succ]
      refine take_at (i := 6) (v := ?_) rfl (by kernel_rfl) (by kernel_rfl) (by kernel_rfl) (fun _ _ _ h => h) (Or.inl ⟨by rfl, ?_⟩) (by assumption) ?_
      rotate_left 1
      · (intro w hSw; (try dsimp only at hSw); go_simp; (try with_reducible rfl))
      try simp only [Act.put, List.setIfInBounds_toArray, List.set_cons_zero, List.set_cons_succ]
      refine take_at (i := 7) (v := ?_) rfl (by kernel_rfl) (by kernel_rfl) (by kernel_rfl) (fun _ _ _ h => h) (Or.inl ⟨by rfl, ?_⟩) (by assumption) ?_
      rotate_left 1
      · (intro w hSw; (try dsimp only at hSw); go_simp; (try with_reducible rfl))
      try simp only [Act.put, List.setIfInBounds_toArray, List.set_cons_zero, List.set_cons_succ]
      refine take_at (i := 8) (v := ?_) rfl (by kernel_rfl) (by kernel_rfl) (by kernel_rfl) (fun _ _ _ h => h) (Or.inl ⟨by rfl, ?_⟩) (by assumption) ?_
      rotate_left 1
      · (intro w hSw; (try dsimp only at hSw); go_simp; (try with_reducible rfl))
      try simp only [Act.put, List.setIfInBounds_toArray, List.set_cons_zero, List.set_cons_succ]
      refine take_at (i := 9) (v := ?_) rfl (by kernel_rfl) (by kernel_rfl) (by kernel_rfl) (fun _ _ _ h => h) (Or.inl ⟨by rfl, ?_⟩) (by assumption) ?_
      rotate_left 1
      · (intro w hSw; (try dsimp only at hSw); go_simp; (try with_reducible rfl))
      try simp only [Act.put, List.setIfInBounds_toArray, List.set_cons_zero, List.set_cons_succ]
      refine take_at (i := 10) (v := ?_) rfl (by kernel_rfl) (by kernel_rfl) (by kernel_rfl) (fun _ _ _ h => h) (Or.inl ⟨by rfl, ?_⟩) (by assumption) ?_
      rotate_left 1
      · (intro w hSw; (try dsimp only at hSw); go_simp; (try with_reducible rfl))
      try simp only [Act.put, List.setIfInBounds_toArray, List.set_cons_zero, List.set_cons_succ]
      refine take_at (i := 11) (v := ?_) rfl (by kernel_rfl) (by kernel_rfl) (by kernel_rfl) (fun _ _ _ h => h) (Or.inl ⟨by rfl, ?_⟩) (by assumption) ?_
      rotate_left 1
      · (intro w hSw; (try dsimp only at hSw); go_simp; (try with_reducible rfl))
      try simp only [Act.put, List.setIfInBounds_toArray, List.set_cons_zero, List.set_cons_succ]
      refine wpAnyH_ready (rs := [12]) (by kernel_rfl) (by simp) ?_
      refine cons_at (i := 12) rfl (fun K hK => ?_) AllReadyH.nil
      go_simp
      refine hK.out _ _ ?_ (fun hHeld => ?_)
      · exact r0
      clear hK K
      try simp only [Act.put, List.setIfInBounds_toArray, List.set_cons_zero, List.set_cons_succ]
      refine take_at (i := 13) (v := ?_) rfl (by kernel_rfl) (by kernel_rfl) (by kernel_rfl) (fun _ _ _ h => h) (Or.inl ⟨by rfl, ?_⟩) (by assumption) ?_
      rotate_left 1
      · (intro w hSw; (try dsimp only at hSw); go_simp; (try with_reducible rfl))
      try simp only [Act.put, List.setIfInBounds_toArray, List.set_cons_zero, List.set_cons_succ]
      refine take_at (i := 14) (v := ?_) rfl (by kernel_rfl) (by kernel_rfl) (by kernel_rfl) (fun _ _ _ h => h) (Or.inl ⟨by rfl, ?_⟩) (by assumption) ?_
      rotate_left 1
      · (intro w hSw; (try dsimp only at hSw); go_simp; (try with_reducible rfl))
      try simp only [Act.put, List.setIfInBounds_toArray, List.set_cons_zero, List.set_cons_succ]
      refine take_at (i := 15) (v := ?_) rfl (by kernel_rfl) (by kernel_rfl) (by kernel_rfl) (fun _ _ _ h => h) (Or.inl ⟨by rfl, ?_⟩) (by assumption) ?_
      rotate_left 1
      · (intro w hSw; (try dsimp only at hSw); go_simp; (try with_reducible rfl))
      try simp only [Act.put, List.setIfInBounds_toArray, List.set_cons_zero, List.set_cons_succ]
      refine take_at (i := 16) (v := ?_) rfl (by kernel_rfl) (by kernel_rfl) (by kernel_rfl) (fun _ _ _ h => h) (Or.inl ⟨by rfl, ?_⟩) (by assumption) ?_
      rotate_left 1
      · (intro w hSw; (try dsimp only at hSw); go_simp; (try with_reducible rfl))
      try simp only [Act.put, List.setIfInBounds_toArray, List.set_cons_zero, List.set_cons_succ]
      refine take_at (i := 17) (v := ?_) rfl (by kernel_rfl) (by kernel_rfl) (by kernel_rfl) (fun _ _ _ h => h) (Or.inl ⟨by rfl, ?_⟩) (by assumption) ?_
      rotate_left 1
      · (intro w hSw; (try dsimp only at hSw); go_simp; (try with_reducible rfl))
      try simp only [Act.put, List.setIfInBounds_toArray, List.set_cons_zero, List.set_cons_succ]
      refine wpAnyH_ready (rs := [18]) (by kernel_rfl) (by simp) ?_
      refine cons_at (i := 18) rfl (fun K hK => ?_) AllReadyH.nil
      go_simp
      go_at_call 22; refine (c5 _ g HB r0).mono ?_; rintro e w' ⟨rfl, rfl⟩
      refine hK.out _ _ ?_ (fun hHeld => ?_)
      · exact r0
      clear hK K
      try simp only [Act.put, List.setIfInBounds_toArray, List.set_cons_zero, List.set_cons_succ]
      refine take_at (i := 19) (v := ?_) rfl (by kernel_rfl) (by kernel_rfl) (by kernel_rfl) (fun _ _ _ h => h) (Or.inl ⟨by rfl, ?_⟩) (by assumption) ?_
      rotate_left 1
      · (intro w hSw; (try dsimp only at hSw); go_simp; (try with_reducible rfl))
      try simp only [Act.put, List.setIfInBounds_toArray, List.set_cons_zero, List.set_cons_succ]
      refine take_at (i := 20) (v := ?_) rfl (by kernel_rfl) (by kernel_rfl) (by kernel_rfl) (fun _ _ _ h => h) (Or.inl ⟨by rfl, ?_⟩) (by assumption) ?_
      rotate_left 1
      · (intro w hSw; (try dsimp only at hSw); go_simp; (try with_reducible rfl))
      try simp only [Act.put, List.setIfInBounds_toArray, List.set_cons_zero, List.set_cons_succ]
      refine take_at (i := 21) (v := ?_) rfl (by kernel_rfl) (by kernel_rfl) (by kernel_rfl) (fun _ _ _ h => h) (Or.inl ⟨by rfl, ?_⟩) (by assumption) ?_
      rotate_left 1
      · (intro w hSw; (try dsimp only at hSw); go_simp; (try with_reducible rfl))
      try simp only [Act.put, List.setIfInBounds_toArray, List.set_cons_zero, List.set_cons_succ]
      refine take_at (i := 22) (v := ?_) rfl (by kernel_rfl) (by kernel_rfl) (by kernel_rfl) (fun _ _ _ h => h) (Or.inl ⟨by rfl, ?_⟩) (by assumption) ?_
      rotate_left 1
      · (intro w hSw; (try dsimp only at hSw); go_simp; (try with_reducible rfl))
      try simp only [Act.put, List.setIfInBounds_toArray, List.set_cons_zero, List.set_cons_succ]
      refine wpAnyH_ready (rs := [23]) (by kernel_rfl) (by simp) ?_
      refine cons_at (i := 23) rfl (fun K hK => ?_) AllReadyH.nil
      go_simp
      go_at_call 22; refine (c6 _ g HB r0).mono ?_; rintro e w' ⟨rfl, rfl⟩
      refine hK.out _ _ ?_ (fun hHeld => ?_)
      · exact r0
      clear hK K
      try simp only [Act.put, List.setIfInBounds_toArray, List.set_cons_zero, List.set_cons_succ]
      refine take_at (i := 24) (v := ?_) rfl (by kernel_rfl) (by kernel_rfl) (by kernel_rfl) (fun _ _ _ h => h) (Or.inl ⟨by rfl, ?_⟩) (by assumption) ?_
      rotate_left 1
      · (intro w hSw; (try dsimp only at hSw); go_simp; (try with_reducible rfl))
      try simp only [Act.put, List.setIfInBounds_toArray, List.set_cons_zero, List.set_cons_succ]
      refine take_at (i := 25) (v := ?_) rfl (by kernel_rfl) (by kernel_rfl) (by kernel_rfl) (fun _ _ _ h => h) (Or.inl ⟨by rfl, ?_⟩) (by assumption) ?_
      rotate_left 1
      · (intro w hSw; (try dsimp only at hSw); go_simp; (try with_reducible rfl))
      try simp only [Act.put, List.setIfInBounds_toArray, List.set_cons_zero, List.set_cons_succ]
      refine take_at (i := 26) (v := ?_) rfl (by kernel_rfl) (by kernel_rfl) (by kernel_rfl) (fun _ _ _ h => h) (Or.inl ⟨by rfl, ?_⟩) (by assumption) ?_
      rotate_left 1
      · (intro w hSw; (try dsimp only at hSw); go_simp; (try with_reducible rfl))
      try simp only [Act.put, List.setIfInBounds_toArray, List.set_cons_zero, List.set_cons_succ]
      refine take_at (i := 27) (v := ?_) rfl (by kernel_rfl) (by kernel_rfl) (by kernel_rfl) (fun _ _ _ h => h) (Or.inl ⟨by rfl, ?_⟩) (by assumption) ?_
      rotate_left 1
      · (intro w hSw; (try dsimp only at hSw); go_simp; (try with_reducible rfl))
      try simp only [Act.put, List.setIfInBounds_toArray, List.set_cons_zero, List.set_cons_succ]
      refine take_at (i := 28) (v := ?_) rfl (by kernel_rfl) (by kernel_rfl) (by kernel_rfl) (fun _ _ _ h => h) (Or.inl ⟨by rfl, ?_⟩) (by assumption) ?_
      rotate_left 1
      · (intro w hSw; (try dsimp only at hSw); go_simp; (try with_reducible rfl))
      try simp only [Act.put, List.setIfInBounds_toArray, List.set_cons_zero, List.set_cons_succ]
      refine take_at (i := 29) (v := undef) rfl (by kernel_rfl) (by kernel_rfl) (by kernel_rfl) (fun _ _ _ h => h) (Or.inr ⟨by rfl, rfl⟩) (by assumption) ?_
      try simp only [Act.put, List.setIfInBounds_toArray, List.set_cons_zero, List.set_cons_succ]
      refine take_at (i := 30) (v := undef) rfl (by kernel_rfl) (by kernel_rfl) (by kernel_rfl) (fun _ _ _ h => h) (Or.inr ⟨by rfl, rfl⟩) (by assumption) ?_
      try simp only [Act.put, List.setIfInBounds_toArray, List.set_cons_zero, List.set_cons_succ]
      refine take_at (i := 31) (v := undef) rfl (by kernel_rfl) (by kernel_rfl) (by kernel_rfl) (fun _ _ _ h => h) (Or.inr ⟨by rfl, rfl⟩) (by assumption) ?_
      try simp only [Act.put, List.setIfInBounds_toArray, List.set_cons_zero, List.set_cons_succ]
      refine take_at (i := 32) (v := ?_) rfl (by kernel_rfl) (by kernel_rfl) (by kernel_rfl) (fun _ _ _ h => h) (Or.inl ⟨by rfl, ?_⟩) (by assumption) ?_
      rotate_left 1
      · (intro w hSw; (try dsimp only at hSw); go_simp; (try with_reducible rfl))
      try simp only [Act.put, List.setIfInBounds_toArray, List.set_cons_zero, List.set_cons_succ]
      refine take_at (i := 33) (v := ?_) rfl (by kernel_rfl) (by kernel_rfl) (by kernel_rfl) (fun _ _ _ h => h) (Or.inl ⟨by rfl, ?_⟩) (by assumption) ?_
      rotate_left 1
      · (intro w hSw; (try dsimp only at hSw); go_simp; (try with_reducible rfl))
      try simp only [Act.put, List.setIfInBounds_toArray, List.set_cons_zero, List.set_cons_succ]
      refine take_at (i := 34) (v := ?_) rfl (by kernel_rfl) (by kernel_rfl) (by kernel_rfl) (fun _ _ _ h => h) (Or.inl ⟨by rfl, ?_⟩) (by assumption) ?_
      rotate_left 1
      · (intro w hSw; (try dsimp only at hSw); go_simp; (try with_reducible rfl))
      try simp only [Act.put, List.setIfInBounds_toArray, List.set_cons_zero, List.set_cons_succ]
      refine take_at (i := 35) (v := ?_) rfl (by kernel_rfl) (by kernel_rfl) (by kernel_rfl) (fun _ _ _ h => h) (Or.inl ⟨by rfl, ?_⟩) (by assumption) ?_
      rotate_left 1
      · (intro w hSw; (try dsimp only at hSw); go_simp; (try with_reducible rfl))
      try simp only [Act.put, List.setIfInBounds_toArray, List.set_cons_zero, List.set_cons_succ]
      refine take_at (i := 36) (v := ?_) rfl (by kernel_rfl) (by kernel_rfl) (by kernel_rfl) (fun _ _ _ h => h) (Or.inl ⟨by rfl, ?_⟩) (by assumption) ?_
      rotate_left 1
      · (intro w hSw; (try dsimp only at hSw); go_simp; (try with_reducible rfl))
      try simp only [Act.put, List.setIfInBounds_toArray, List.set_cons_zero, List.set_cons_succ]
      refine take_at (i := 37) (v := ?_) rfl (by kernel_rfl) (by kernel_rfl) (by kernel_rfl) (fun _ _ _ h => h) (Or.inl ⟨by rfl, ?_⟩) (by assumption) ?_
      rotate_left 1
      · (intro w hSw; (try dsimp only at hSw); go_simp; (try with_reducible rfl))
      try simp only [Act.put, List.setIfInBounds_toArray, List.set_cons_zero, List.set_cons_succ]
      refine take_at (i := 40) (v := ?_) rfl (by kernel_rfl) (by kernel_rfl) (by kernel_rfl) (fun _ _ _ h => h) (Or.inl ⟨by rfl, ?_⟩) (by assumption) ?_
      rotate_left 1
      · (intro w hSw; (try dsimp only at hSw); go_simp; (try with_reducible rfl))
      try simp only [Act.put, List.setIfInBounds_toArray, List.set_cons_zero, List.set_cons_succ]
      refine wpAnyH_ready (rs := [38]) (by kernel_rfl) (by simp) ?_
      refine cons_at (i := 38) rfl (fun K hK => ?_) AllReadyH.nil
      go_simp
      refine hK.out _ _ ?_ (fun hHeld => ?_)
      · exact cell_alloc r0 _
      clear hK K
      try simp only [Act.put, List.setIfInBounds_toArray, List.set_cons_zero, List.set_cons_succ]
      refine wpAnyH_ready (rs := [39]) (by kernel_rfl) (by simp) ?_
      refine cons_at (i := 39) rfl (fun K hK => ?_) AllReadyH.nil
      go_simp
      go_at_call 18; refine (c3 _ HB).mono ?_; rintro e w' ⟨rfl, hb⟩; replace HB := Below.tr HB hb; replace r0 := cell_below hb r0; clear hb
      refine hK.out _ _ ?_ (fun hHeld => ?_)
      · exact r0
      clear hK K
      try simp only [Act.put, List.setIfInBounds_toArray, List.set_cons_zero, List.set_cons_succ]
      refine take_at (i := 41) (v := ?_) rfl (by kernel_rfl) (by kernel_rfl) (by kernel_rfl) (fun _ _ _ h => h) (Or.inl ⟨by rfl, ?_⟩) (by assumption) ?_
      rotate_left 1
      · (intro w hSw; (try dsimp only at hSw); go_simp; (try with_reducible rfl))
      try simp only [Act.put, List.setIfInBounds_toArray, List.set_cons_zero, List.set_cons_succ]
      refine take_at (i := 42) (v := ?_) rfl (by kernel_rfl) (by kernel_rfl) (by kernel_rfl) (fun _ _ _ h => h) (Or.inl ⟨by rfl, ?_⟩) (by assumption) ?_
      rotate_left 1
      · (intro w hSw; (try dsimp only at hSw); go_simp; (try with_reducible rfl))
      try simp only [Act.put, List.setIfInBounds_toArray, List.set_cons_zero, List.set_cons_succ]
      refine take_at (i := 43) (v := ?_) rfl (by kernel_rfl) (by kernel_rfl) (by kernel_rfl) (fun _ _ _ h => h) (Or.inl ⟨by rfl, ?_⟩) (by assumption) ?_
      rotate_left 1
      · (intro w hSw; (try dsimp only at hSw); go_simp; (try with_reducible rfl))
      try simp only [Act.put, List.setIfInBounds_toArray, List.set_cons_zero, List.set_cons_succ]
      refine take_at (i := 44) (v := ?_) rfl (by kernel_rfl) (by kernel_rfl) (by kernel_rfl) (fun _ _ _ h => h) (Or.inl ⟨by rfl, ?_⟩) (by assumption) ?_
      rotate_left 1
      · (intro w hSw; (try dsimp only at hSw); go_simp; (try with_reducible rfl))
      try simp only [Act.put, List.setIfInBounds_toArray, List.set_cons_zero, List.set_cons_succ]
      refine take_at (i := 45) (v := ?_) rfl (by kernel_rfl) (by kernel_rfl) (by kernel_rfl) (fun _ _ _ h => h) (Or.inl ⟨by rfl, ?_⟩) (by assumption) ?_
      rotate_left 1
      · (intro w hSw; (try dsimp only at hSw); go_simp; (try with_reducible rfl))
      try simp only [Act.put, List.setIfInBounds_toArray, List.set_cons_zero, List.set_cons_succ]
      refine take_at (i := 46) (v := ?_) rfl (by kernel_rfl) (by kernel_rfl) (by kernel_rfl) (fun _ _ _ h => h) (Or.inl ⟨by rfl, ?_⟩) (by assumption) ?_
      rotate_left 1
      · (intro w hSw; (try dsimp only at hSw); go_simp; (try with_reducible rfl))
      try simp only [Act.put, List.setIfInBounds_toArray, List.set_cons_zero, List.set_cons_succ]
      refine take_at (i := 49) (v := ?_) rfl (by kernel_rfl) (by kernel_rfl) (by kernel_rfl) (fun _ _ _ h => h) (Or.inl ⟨by rfl, ?_⟩) (by assumption) ?_
      rotate_left 1
      · (intro w hSw; (try dsimp only at hSw); go_simp; (try with_reducible rfl))
      try simp only [Act.put, List.setIfInBounds_toArray, List.set_cons_zero, List.set_cons_succ]
      refine wpAnyH_ready (rs := [47]) (by kernel_rfl) (by simp) ?_
      refine cons_at (i := 47) rfl (fun K hK => ?_) AllReadyH.nil
      go_simp
      refine hK.out _ _ ?_ (fun hHeld => ?_)
      · exact cell_alloc r0 _
      clear hK K
      try simp only [Act.put, List.setIfInBounds_toArray, List.set_cons_zero, List.set_cons_succ]
      refine wpAnyH_ready (rs := [48]) (by kernel_rfl) (by simp) ?_
      refine cons_at (i := 48) rfl (fun K hK => ?_) AllReadyH.nil
      go_simp
      go_at_call 18; refine (c4 _ HB).mono ?_; rintro e w' ⟨rfl, hb⟩; replace HB := Below.tr HB hb; replace r0 := cell_below hb r0; clear hb
      refine hK.out _ _ ?_ (fun hHeld => ?_)
      · exact r0
      clear hK K
      try simp only [Act.put, List.setIfInBounds_toArray, List.set_cons_zero, List.set_cons_succ]
      refine take_at (i := 50) (v := ?_) rfl (by kernel_rfl) (by kernel_rfl) (by kernel_rfl) (fun _ _ _ h => h) (Or.inl ⟨by rfl, ?_⟩) (by assumption) ?_
      rotate_left 1
      · (intro w hSw; (try dsimp only at hSw); go_simp; (try with_reducible rfl))
      try simp only [Act.put, List.setIfInBounds_toArray, List.set_cons_zero, List.set_cons_succ]
      refine take_at (i := 51) (v := ?_) rfl (by kernel_rfl) (by kernel_rfl) (by kernel_rfl) (fun _ _ _ h => h) (Or.inl ⟨by rfl, ?_⟩) (by assumption) ?_
      rotate_left 1
      · (intro w hSw; (try dsimp only at hSw); go_simp; (try with_reducible rfl))
      try simp only [Act.put, List.setIfInBounds_toArray, List.set_cons_zero, List.set_cons_succ]
      refine take_at (i := 52) (v := ?_) rfl (by kernel_rfl) (by kernel_rfl) (by kernel_rfl) (fun _ _ _ h => h) (Or.inl ⟨by rfl, ?_⟩) (by assumption) ?_
      rotate_left 1
      · (intro w hSw; (try dsimp only at hSw); go_simp; (try with_reducible rfl))
      try simp only [Act.put, List.setIfInBounds_toArray, List.set_cons_zero, List.set_cons_succ]
      refine wpAnyH_done (by kernel_rfl) ?_ _
      refine NoPanic.normal ?_
      go_wp2
      go_ret
      exact ⟨rfl, HB⟩
    · obtain ⟨q, hq, hpq⟩ : ∃ q : Nat, Q = q ∧ p ≤ q := by rcases hQp with h | h; exact absurd h hQ1; exact h
      have eQ : (Q == -1) = false := by simp [hQ1]
      have hpq' : (p : Int) ≤ Q := by omega
      clear hQ1 hQp hq hpq
      go_enter Try.func8, Try.ntmps8
      go_wp2
      go_quiet (fail)
      have HB := HB0 nq
      generalize w.drewN nq = w0 at HB ⊢
      clear HB0
      go_wp2_with (first
        | (go_at_call 18; have _t := t1; refine (c1 _ HB).mono ?_; rintro e w1 ⟨rfl, hb⟩; clear t1; replace HB := Below.tr HB hb; clear hb)
        | (go_at_call 18; refine (c2 _ HB).mono ?_; rintro e w2 ⟨rfl, hb⟩; replace HB := Below.tr HB hb; clear hb))
      clear c1 c2
      have r0 : (w2.alloc (.cells #[.int .i64 (p : Int)] 3)).cell? ⟨w2.heap.size, 0, none⟩ = some (.int .i64 p) := World.cell?_alloc_at _ _ _ _ rfl
      replace HB := HB.alloc HB.size (.cells #[.int .i64 (p : Int)] 3)
      generalize w2.alloc (.cells #[.int .i64 (p : Int)] 3) = W at r0 HB ⊢
      generalize w2.heap.size = g at r0 ⊢
      replace HB := HB.drew
      go_region_held3 (fun V => V.cell? ⟨g, 0, none⟩ = some (.int .i64 p)) (first | exact r0 | exact cell_alloc r0 _) (first
        | (go_at_call 12; refine (alive_any _).mono ?_; rintro e w' ⟨rfl, hb⟩; replace HB := Below.tr HB hb; replace r0 := cell_below hb r0; clear hb)
        | (go_at_call 22; have _t := t2; refine (c5 _ g HB r0).mono ?_; rintro e w' ⟨rfl, rfl⟩; clear t2)
        | (go_at_call 22; refine (c6 _ g HB r0).mono ?_; rintro e w' ⟨rfl, rfl⟩)
        | (go_at_call 18; have _t := t3; refine (c3 _ HB).mono ?_; rintro e w' ⟨rfl, hb⟩; clear t3; replace HB := Below.tr HB hb; replace r0 := cell_below hb r0; clear hb)
        | (go_at_call 18; refine (c4 _ HB).mono ?_; rintro e w' ⟨rfl, hb⟩; replace HB := Below.tr HB hb; replace r0 := cell_below hb r0; clear hb))
      go_wp2
      go_ret
      exact ⟨rfl, HB⟩

end Go.Proofs.Ytkfapldicjmelaa

/-
  The walk of the law TaskBeats: it returns true at all arguments.
-/
import Derived.Test.YtnipikdlfmcheabTaskOpen
import Derived.Test.YtnipikdlfmcheabTaskExpire
import Derived.Test.YtnipikdlfmcheabTaskRefRight
import Derived.Test.YtnipikdlfmcheabAnyheld
namespace Go.Proofs.Ytnipikdlfmcheab
open Go.RowKit Plain
set_option linter.unusedVariables false


theorem untF_mono {a b : Int} (h : a ≤ b) (ps : List Int) : untF a ps ≤ untF b ps := by unfold untF; omega
theorem untF_in {n : Int} (h0 : 0 ≤ n) (h : n ≤ 1099511627776) : untF n [] = n := by rw [untF_nil]; omega
theorem fail_i {tr wt now : Int} {s : StP} (h : s.i = 2) : ¬ (failT tr wt s now).i = 2 := by
  unfold failT
  rw [if_pos h]
  split <;> simp

set_option maxRecDepth 20000 in
set_option maxHeartbeats 4000000 in
theorem taskBeats_walk (ta : Option Addr) (tc : Nat) (ns : List Int) (tr wt le : Int) (i t d k : Int) (r : ByteArray) (now later : Int) (w : World) (hI : IsI w ta tc ns) (w1 : (Lit.int .i64 tr).wf = true) (w2 : (Lit.int .i64 wt).wf = true) (w3 : (Lit.int .i64 le).wf = true)
    (w4 : (Lit.int .i64 i).wf = true) (w5 : (Lit.int .i64 t).wf = true) (w6 : (Lit.int .i64 d).wf = true) (w7 : (Lit.int .i64 k).wf = true) (hr : r.size ≤ maxLen) (w8 : (Lit.int .i64 now).wf = true) (w9 : (Lit.int .i64 later).wf = true) :
    Calls Try.prog 3 #[.agg #[.slice ta ns.length tc, .int .i64 tr, .int .i64 wt, .int .i64 le], .agg #[.int .i64 i, .int .i64 t, .int .i64 d, .int .i64 k, .string r], .int .i64 now, .int .i64 later] w fun e w' => e = .returned (.bool true) ∧ Below w.heap.size w w' := by
  have ht := (wf_le w5).2
  clear w1 w2 w3 w4 w5 w6 w7 w8 w9 hI
  obtain ⟨tl, htl⟩ : ∃ x, x = ns.length := ⟨_, rfl⟩
  rw [← htl]
  clear htl
  obtain ⟨n1, hn1⟩ : ∃ x, x = max now 0 := ⟨_, rfl⟩
  obtain ⟨n, hn⟩ : ∃ x, x = min n1 1099511627776 := ⟨_, rfl⟩
  obtain ⟨m1, hm1⟩ : ∃ x, x = max later n := ⟨_, rfl⟩
  obtain ⟨m, hm⟩ : ∃ x, x = min m1 1099511627776 := ⟨_, rfl⟩
  have r1 := max_run hn1.symm
  have r2 := min_run hn.symm
  have r3 := max_run hm1.symm
  have r4 := min_run hm.symm
  have hb1 : 0 ≤ n := by omega
  have hb2 : n ≤ 1099511627776 := by omega
  have hb3 : n ≤ m := by omega
  clear hn1 hn hm1 hm
  have c1 := fun W => refRightT_any ta tl tc tr wt le i t d k r W hr
  cases hR : rightT tr ⟨i, t, d, k, r⟩ with
  | false =>
    rw [hR] at c1
    clear hR hb1 hb2 hb3
    go_enter Try.func3, Try.ntmps3
    go_wp2_with (first
      | (go_at_call 4; refine (c1 _).mono ?_; rintro e v0 ⟨rfl, hb⟩; obtain ⟨bt, bs, hB⟩ := boxes2 w [.slice ta tl tc, .int .i64 tr, .int .i64 wt, .int .i64 le] [.int .i64 i, .int .i64 t, .int .i64 d, .int .i64 k, .string r] _ _ (by simp) (by simp) hb; have x0 := bt.1 0 _ rfl; have x1 := bt.1 1 _ rfl; have x2 := bt.1 2 _ rfl; have x3 := bt.1 3 _ rfl; have s0 := bs.1 0 _ rfl; have s1 := bs.1 1 _ rfl; have s2 := bs.1 2 _ rfl; have s3 := bs.1 3 _ rfl; have s4 := bs.1 4 _ rfl; clear hb)
      | (go_at_call 5; refine (alive18_any _).mono ?_; rintro e v3 ⟨rfl, hb⟩; replace hB := Below.tr hB hb; clear hb)
      )
    go_ret
    exact ⟨rfl, hB⟩
  | true =>
    rw [hR] at c1
    clear hR
    have t1 := trivial
    by_cases h2 : i = 2
    · subst h2
      have c2 : ∀ W, Calls Try.prog 6 #[.agg #[.slice ta tl tc, .int .i64 tr, .int .i64 wt, .int .i64 le], .agg #[.int .i64 2, .int .i64 t, .int .i64 d, .int .i64 k, .string r], .int .i64 n] W fun e w' => e = .returned (.tuple #[.agg #[.int .i64 2, .int .i64 t, .int .i64 (untF n [le]), .int .i64 k, .string r], .int .i64 0]) ∧ Below W.heap.size W w' := fun W => beatT_any ta tl tc tr wt le 2 t d k r n W
      have c3 : ∀ W, Calls Try.prog 6 #[.agg #[.slice ta tl tc, .int .i64 tr, .int .i64 wt, .int .i64 le], .agg #[.int .i64 2, .int .i64 t, .int .i64 d, .int .i64 k, .string r], .int .i64 m] W fun e w' => e = .returned (.tuple #[.agg #[.int .i64 2, .int .i64 t, .int .i64 (untF m [le]), .int .i64 k, .string r], .int .i64 0]) ∧ Below W.heap.size W w' := fun W => beatT_any ta tl tc tr wt le 2 t d k r m W
      have hu : ¬ untF m [le] < untF n [le] := by have := untF_mono hb3 [le]; omega
      have hE := untF_in hb1 hb2
      generalize untF n [le] = un at *
      generalize untF m [le] = um at *
      have c4 := fun W => expireT_any ta tl tc tr wt le 2 t d k r n W ht
      clear ht hr hb1 hb2 hb3
      by_cases hd : d ≤ n
      · have hx : expireT tr wt ⟨2, t, d, k, r⟩ n = failT tr wt ⟨2, t, d, k, r⟩ d := if_pos ⟨rfl, by rw [hE]; exact hd⟩
        have hi := fail_i (tr := tr) (wt := wt) (now := d) (s := ⟨2, t, d, k, r⟩) rfl
        rw [hx] at c4
        generalize failT tr wt ⟨2, t, d, k, r⟩ d = q at *
        obtain ⟨qi, qt, qd, qk, qr⟩ := q
        replace c4 : ∀ W, Calls Try.prog 7 #[.agg #[.slice ta tl tc, .int .i64 tr, .int .i64 wt, .int .i64 le], .agg #[.int .i64 2, .int .i64 t, .int .i64 d, .int .i64 k, .string r], .int .i64 n] W fun e w' => e = .returned (.agg #[.int .i64 qi, .int .i64 qt, .int .i64 qd, .int .i64 qk, .string qr]) ∧ Below W.heap.size W w' := c4
        have hi' : (qi != 2) = true := by simpa using hi
        have hfd : ∀ W, (Instr.field 26 (.agg #[.int .i64 qi, .int .i64 qt, .int .i64 qd, .int .i64 qk, .string qr]) 0).run Try.prog W = .ok (.int .i64 qi) W := fun _ => by kernel_rfl
        have hd1 : (d ≤ n) = True := eq_true hd
        have hd2 : (n < d) = False := eq_false (by omega)
        clear hx hi hE hd
        go_enter Try.func3, Try.ntmps3
        go_wp2_with (first
          | (go_at_call 4; refine (c1 _).mono ?_; rintro e v0 ⟨rfl, hb⟩; obtain ⟨bt, bs, hB⟩ := boxes2 w [.slice ta tl tc, .int .i64 tr, .int .i64 wt, .int .i64 le] [.int .i64 2, .int .i64 t, .int .i64 d, .int .i64 k, .string r] _ _ (by simp) (by simp) hb; have x0 := bt.1 0 _ rfl; have x1 := bt.1 1 _ rfl; have x2 := bt.1 2 _ rfl; have x3 := bt.1 3 _ rfl; have s0 := bs.1 0 _ rfl; have s1 := bs.1 1 _ rfl; have s2 := bs.1 2 _ rfl; have s3 := bs.1 3 _ rfl; have s4 := bs.1 4 _ rfl; clear hb)
          | (go_at_call 6; have _t := t1; refine (c2 _).mono ?_; clear t1 _t; rintro e v1 ⟨rfl, hb⟩; clear x0 x1 x2 x3 s0 s1 s2 s3 s4; replace bt := (bt.below hb).alloc (.cells #[.int .i64 2, .int .i64 t, .int .i64 un, .int .i64 k, .string r] 26); replace bs := (bs.below hb).alloc (.cells #[.int .i64 2, .int .i64 t, .int .i64 un, .int .i64 k, .string r] 26); have b1 := boxL_new v1 [.int .i64 2, .int .i64 t, .int .i64 un, .int .i64 k, .string r] 26 rfl; replace hB := Below.tr hB hb; replace hB := hB.alloc hB.size (.cells #[.int .i64 2, .int .i64 t, .int .i64 un, .int .i64 k, .string r] 26); have x0 := bt.1 0 _ rfl; have x1 := bt.1 1 _ rfl; have x2 := bt.1 2 _ rfl; have x3 := bt.1 3 _ rfl; have s0 := bs.1 0 _ rfl; have s1 := bs.1 1 _ rfl; have s2 := bs.1 2 _ rfl; have s3 := bs.1 3 _ rfl; have s4 := bs.1 4 _ rfl; clear hb)
          | (go_at_call 6; refine (c3 _).mono ?_; rintro e v2 ⟨rfl, hb⟩; clear x0 x1 x2 x3 s0 s1 s2 s3 s4; replace bt := (bt.below hb).alloc (.cells #[.int .i64 2, .int .i64 t, .int .i64 um, .int .i64 k, .string r] 26); replace bs := (bs.below hb).alloc (.cells #[.int .i64 2, .int .i64 t, .int .i64 um, .int .i64 k, .string r] 26); replace b1 := (b1.below hb).alloc (.cells #[.int .i64 2, .int .i64 t, .int .i64 um, .int .i64 k, .string r] 26); have b2 := boxL_new v2 [.int .i64 2, .int .i64 t, .int .i64 um, .int .i64 k, .string r] 26 rfl; replace hB := Below.tr hB hb; replace hB := hB.alloc hB.size (.cells #[.int .i64 2, .int .i64 t, .int .i64 um, .int .i64 k, .string r] 26); have x0 := bt.1 0 _ rfl; have x1 := bt.1 1 _ rfl; have x2 := bt.1 2 _ rfl; have x3 := bt.1 3 _ rfl; have s0 := bs.1 0 _ rfl; have s1 := bs.1 1 _ rfl; have s2 := bs.1 2 _ rfl; have s3 := bs.1 3 _ rfl; have s4 := bs.1 4 _ rfl; have y0 := b1.1 0 _ rfl; have y1 := b1.1 1 _ rfl; have y2 := b1.1 2 _ rfl; have y3 := b1.1 3 _ rfl; have y4 := b1.1 4 _ rfl; have z0 := b2.1 0 _ rfl; have z1 := b2.1 1 _ rfl; have z2 := b2.1 2 _ rfl; have z3 := b2.1 3 _ rfl; have z4 := b2.1 4 _ rfl; clear hb)
          )
        clear y0 y1 y2 y3 y4 z0 z1 z2 z3 z4 b1 b2 bt bs
        generalize World.alloc _ _ = W at *
        replace hB := hB.drew
        refine wp_region_noPanic ?_
        refine wp_region_held_drew (S := fun V => V.cell? ⟨w.heap.size, 0, none⟩ = some (.slice ta tl tc) ∧ V.cell? ⟨w.heap.size, 1, none⟩ = some (.int .i64 tr) ∧ V.cell? ⟨w.heap.size, 2, none⟩ = some (.int .i64 wt) ∧ V.cell? ⟨w.heap.size, 3, none⟩ = some (.int .i64 le) ∧ V.cell? ⟨w.heap.size + 1, 0, none⟩ = some (.int .i64 2) ∧ V.cell? ⟨w.heap.size + 1, 1, none⟩ = some (.int .i64 t) ∧ V.cell? ⟨w.heap.size + 1, 2, none⟩ = some (.int .i64 d) ∧ V.cell? ⟨w.heap.size + 1, 3, none⟩ = some (.int .i64 k) ∧ V.cell? ⟨w.heap.size + 1, 4, none⟩ = some (.string r)) (by kernel_rfl) ⟨x0, x1, x2, x3, s0, s1, s2, s3, s4⟩ (fun hHeld => ?_)
        replace x0 : W.drew.cell? ⟨w.heap.size, 0, none⟩ = some (.slice ta tl tc) := x0
        replace x1 : W.drew.cell? ⟨w.heap.size, 1, none⟩ = some (.int .i64 tr) := x1
        replace x2 : W.drew.cell? ⟨w.heap.size, 2, none⟩ = some (.int .i64 wt) := x2
        replace x3 : W.drew.cell? ⟨w.heap.size, 3, none⟩ = some (.int .i64 le) := x3
        replace s0 : W.drew.cell? ⟨w.heap.size + 1, 0, none⟩ = some (.int .i64 2) := s0
        replace s1 : W.drew.cell? ⟨w.heap.size + 1, 1, none⟩ = some (.int .i64 t) := s1
        replace s2 : W.drew.cell? ⟨w.heap.size + 1, 2, none⟩ = some (.int .i64 d) := s2
        replace s3 : W.drew.cell? ⟨w.heap.size + 1, 3, none⟩ = some (.int .i64 k) := s3
        replace s4 : W.drew.cell? ⟨w.heap.size + 1, 4, none⟩ = some (.string r) := s4
        refine wpAnyH_ready (rs := [0]) (by kernel_rfl) (by simp) ?_
        refine cons_at (i := 0) rfl (fun K hK => ?_) AllReadyH.nil
        go_simp
        go_at_call 5
        refine (alive18_any _).mono ?_
        rintro e v3 ⟨rfl, hb⟩
        replace x0 := cell_below hb x0
        replace x1 := cell_below hb x1
        replace x2 := cell_below hb x2
        replace x3 := cell_below hb x3
        replace s0 := cell_below hb s0
        replace s1 := cell_below hb s1
        replace s2 := cell_below hb s2
        replace s3 := cell_below hb s3
        replace s4 := cell_below hb s4
        replace hB := Below.tr hB hb
        clear hb
        refine hK.out _ _ ?_ (fun hHeld => ?_)
        · exact ⟨x0, x1, x2, x3, s0, s1, s2, s3, s4⟩
        clear hK K
        refine take_at (i := 1) (v := ?_) rfl (by kernel_rfl) (by kernel_rfl) (by kernel_rfl) (fun _ _ _ h => h) (Or.inl ⟨by rfl, ?_⟩) (by assumption) ?_
        rotate_left 1
        · (intro w hSw; (try dsimp only at hSw); go_simp; (try with_reducible rfl))
        try simp only [Act.put, List.setIfInBounds_toArray, List.set_cons_zero, List.set_cons_succ]
        refine take_at (i := 2) (v := ?_) rfl (by kernel_rfl) (by kernel_rfl) (by kernel_rfl) (fun _ _ _ h => h) (Or.inl ⟨by rfl, ?_⟩) (by assumption) ?_
        rotate_left 1
        · (intro w hSw; (try dsimp only at hSw); go_simp; (try with_reducible rfl))
        try simp only [Act.put, List.setIfInBounds_toArray, List.set_cons_zero, List.set_cons_succ]
        refine take_at (i := 3) (v := ?_) rfl (by kernel_rfl) (by kernel_rfl) (by kernel_rfl) (fun _ _ _ h => h) (Or.inl ⟨by rfl, ?_⟩) (by assumption) ?_
        rotate_left 1
        · (intro w hSw; (try dsimp only at hSw); go_simp; (try with_reducible rfl))
        try simp only [Act.put, List.setIfInBounds_toArray, List.set_cons_zero, List.set_cons_succ]
        refine take_at (i := 4) (v := ?_) rfl (by kernel_rfl) (by kernel_rfl) (by kernel_rfl) (fun _ _ _ h => h) (Or.inl ⟨by rfl, ?_⟩) (by assumption) ?_
        rotate_left 1
        · (intro w hSw; (try dsimp only at hSw); go_simp; (try with_reducible rfl))
        try simp only [Act.put, List.setIfInBounds_toArray, List.set_cons_zero, List.set_cons_succ]
        refine take_at (i := 5) (v := ?_) rfl (by kernel_rfl) (by kernel_rfl) (by kernel_rfl) (fun _ _ _ h => h) (Or.inl ⟨by rfl, ?_⟩) (by assumption) ?_
        rotate_left 1
        · (intro w hSw; (try dsimp only at hSw); go_simp; (try with_reducible rfl))
        try simp only [Act.put, List.setIfInBounds_toArray, List.set_cons_zero, List.set_cons_succ]
        refine take_at (i := 6) (v := ?_) rfl (by kernel_rfl) (by kernel_rfl) (by kernel_rfl) (fun _ _ _ h => h) (Or.inl ⟨by rfl, ?_⟩) (by assumption) ?_
        rotate_left 1
        · (intro w hSw; (try dsimp only at hSw); go_simp; (try with_reducible rfl))
        try simp only [Act.put, List.setIfInBounds_toArray, List.set_cons_zero, List.set_cons_succ]
        refine take_at (i := 7) (v := undef) rfl (by kernel_rfl) (by kernel_rfl) (by kernel_rfl) (fun _ _ _ h => h) (Or.inr ⟨by rfl, rfl⟩) (by assumption) ?_
        try simp only [Act.put, List.setIfInBounds_toArray, List.set_cons_zero, List.set_cons_succ]
        refine take_at (i := 8) (v := undef) rfl (by kernel_rfl) (by kernel_rfl) (by kernel_rfl) (fun _ _ _ h => h) (Or.inr ⟨by rfl, rfl⟩) (by assumption) ?_
        try simp only [Act.put, List.setIfInBounds_toArray, List.set_cons_zero, List.set_cons_succ]
        refine take_at (i := 9) (v := undef) rfl (by kernel_rfl) (by kernel_rfl) (by kernel_rfl) (fun _ _ _ h => h) (Or.inr ⟨by rfl, rfl⟩) (by assumption) ?_
        try simp only [Act.put, List.setIfInBounds_toArray, List.set_cons_zero, List.set_cons_succ]
        refine take_at (i := 10) (v := undef) rfl (by kernel_rfl) (by kernel_rfl) (by kernel_rfl) (fun _ _ _ h => h) (Or.inr ⟨by rfl, rfl⟩) (by assumption) ?_
        try simp only [Act.put, List.setIfInBounds_toArray, List.set_cons_zero, List.set_cons_succ]
        refine take_at (i := 11) (v := undef) rfl (by kernel_rfl) (by kernel_rfl) (by kernel_rfl) (fun _ _ _ h => h) (Or.inr ⟨by rfl, rfl⟩) (by assumption) ?_
        try simp only [Act.put, List.setIfInBounds_toArray, List.set_cons_zero, List.set_cons_succ]
        refine take_at (i := 12) (v := undef) rfl (by kernel_rfl) (by kernel_rfl) (by kernel_rfl) (fun _ _ _ h => h) (Or.inr ⟨by rfl, rfl⟩) (by assumption) ?_
        try simp only [Act.put, List.setIfInBounds_toArray, List.set_cons_zero, List.set_cons_succ]
        refine take_at (i := 13) (v := ?_) rfl (by kernel_rfl) (by kernel_rfl) (by kernel_rfl) (fun _ _ _ h => h) (Or.inl ⟨by rfl, ?_⟩) (by assumption) ?_
        rotate_left 1
        · (intro w hSw; (try dsimp only at hSw); go_simp; (try with_reducible rfl))
        try simp only [Act.put, List.setIfInBounds_toArray, List.set_cons_zero, List.set_cons_succ]
        refine take_at (i := 14) (v := ?_) rfl (by kernel_rfl) (by kernel_rfl) (by kernel_rfl) (fun _ _ _ h => h) (Or.inl ⟨by rfl, ?_⟩) (by assumption) ?_
        rotate_left 1
        · (intro w hSw; (try dsimp only at hSw); go_simp; (try with_reducible rfl))
        try simp only [Act.put, List.setIfInBounds_toArray, List.set_cons_zero, List.set_cons_succ]
        refine take_at (i := 15) (v := ?_) rfl (by kernel_rfl) (by kernel_rfl) (by kernel_rfl) (fun _ _ _ h => h) (Or.inl ⟨by rfl, ?_⟩) (by assumption) ?_
        rotate_left 1
        · (intro w hSw; (try dsimp only at hSw); go_simp; (try with_reducible rfl))
        try simp only [Act.put, List.setIfInBounds_toArray, List.set_cons_zero, List.set_cons_succ]
        refine take_at (i := 16) (v := ?_) rfl (by kernel_rfl) (by kernel_rfl) (by kernel_rfl) (fun _ _ _ h => h) (Or.inl ⟨by rfl, ?_⟩) (by assumption) ?_
        rotate_left 1
        · (intro w hSw; (try dsimp only at hSw); go_simp; (try with_reducible rfl))
        try simp only [Act.put, List.setIfInBounds_toArray, List.set_cons_zero, List.set_cons_succ]
        refine take_at (i := 17) (v := ?_) rfl (by kernel_rfl) (by kernel_rfl) (by kernel_rfl) (fun _ _ _ h => h) (Or.inl ⟨by rfl, ?_⟩) (by assumption) ?_
        rotate_left 1
        · (intro w hSw; (try dsimp only at hSw); go_simp; (try with_reducible rfl))
        try simp only [Act.put, List.setIfInBounds_toArray, List.set_cons_zero, List.set_cons_succ]
        refine take_at (i := 18) (v := ?_) rfl (by kernel_rfl) (by kernel_rfl) (by kernel_rfl) (fun _ _ _ h => h) (Or.inl ⟨by rfl, ?_⟩) (by assumption) ?_
        rotate_left 1
        · (intro w hSw; (try dsimp only at hSw); go_simp; (try with_reducible rfl))
        try simp only [Act.put, List.setIfInBounds_toArray, List.set_cons_zero, List.set_cons_succ]
        refine take_at (i := 19) (v := ?_) rfl (by kernel_rfl) (by kernel_rfl) (by kernel_rfl) (fun _ _ _ h => h) (Or.inl ⟨by rfl, ?_⟩) (by assumption) ?_
        rotate_left 1
        · (intro w hSw; (try dsimp only at hSw); go_simp; (try with_reducible rfl))
        try simp only [Act.put, List.setIfInBounds_toArray, List.set_cons_zero, List.set_cons_succ]
        refine take_at (i := 20) (v := ?_) rfl (by kernel_rfl) (by kernel_rfl) (by kernel_rfl) (fun _ _ _ h => h) (Or.inl ⟨by rfl, ?_⟩) (by assumption) ?_
        rotate_left 1
        · (intro w hSw; (try dsimp only at hSw); go_simp; (try with_reducible rfl))
        try simp only [Act.put, List.setIfInBounds_toArray, List.set_cons_zero, List.set_cons_succ]
        refine take_at (i := 21) (v := ?_) rfl (by kernel_rfl) (by kernel_rfl) (by kernel_rfl) (fun _ _ _ h => h) (Or.inl ⟨by rfl, ?_⟩) (by assumption) ?_
        rotate_left 1
        · (intro w hSw; (try dsimp only at hSw); go_simp; (try with_reducible rfl))
        try simp only [Act.put, List.setIfInBounds_toArray, List.set_cons_zero, List.set_cons_succ]
        refine take_at (i := 22) (v := ?_) rfl (by kernel_rfl) (by kernel_rfl) (by kernel_rfl) (fun _ _ _ h => h) (Or.inl ⟨by rfl, ?_⟩) (by assumption) ?_
        rotate_left 1
        · (intro w hSw; (try dsimp only at hSw); go_simp; (try with_reducible rfl))
        try simp only [Act.put, List.setIfInBounds_toArray, List.set_cons_zero, List.set_cons_succ]
        refine take_at (i := 23) (v := ?_) rfl (by kernel_rfl) (by kernel_rfl) (by kernel_rfl) (fun _ _ _ h => h) (Or.inl ⟨by rfl, ?_⟩) (by assumption) ?_
        rotate_left 1
        · (intro w hSw; (try dsimp only at hSw); go_simp; (try with_reducible rfl))
        try simp only [Act.put, List.setIfInBounds_toArray, List.set_cons_zero, List.set_cons_succ]
        refine wpAnyH_ready (rs := [24]) (by kernel_rfl) (by simp) ?_
        refine cons_at (i := 24) rfl (fun K hK => ?_) AllReadyH.nil
        go_simp
        go_at_call 7
        refine (c4 _).mono ?_
        rintro e v4 ⟨rfl, hb⟩
        replace x0 := cell_below hb x0
        replace x1 := cell_below hb x1
        replace x2 := cell_below hb x2
        replace x3 := cell_below hb x3
        replace s0 := cell_below hb s0
        replace s1 := cell_below hb s1
        replace s2 := cell_below hb s2
        replace s3 := cell_below hb s3
        replace s4 := cell_below hb s4
        replace hB := Below.tr hB hb
        clear hb
        refine hK.out _ _ ?_ (fun hHeld => ?_)
        · exact ⟨x0, x1, x2, x3, s0, s1, s2, s3, s4⟩
        clear hK K
        refine take_at (i := 25) (v := ?_) rfl (by kernel_rfl) (by kernel_rfl) (by kernel_rfl) (fun _ _ _ h => h) (Or.inl ⟨by rfl, ?_⟩) (by assumption) ?_
        rotate_left 1
        · (intro w hSw; (try dsimp only at hSw); go_simp; (try with_reducible rfl))
        try simp only [Act.put, List.setIfInBounds_toArray, List.set_cons_zero, List.set_cons_succ]
        refine take_at (i := 26) (v := ?_) rfl (by kernel_rfl) (by kernel_rfl) (by kernel_rfl) (fun _ _ _ h => h) (Or.inl ⟨by rfl, ?_⟩) (by assumption) ?_
        rotate_left 1
        · (intro w hSw; (try dsimp only at hSw); go_simp; (try with_reducible rfl))
        try simp only [Act.put, List.setIfInBounds_toArray, List.set_cons_zero, List.set_cons_succ]
        refine take_at (i := 27) (v := ?_) rfl (by kernel_rfl) (by kernel_rfl) (by kernel_rfl) (fun _ _ _ h => h) (Or.inl ⟨by rfl, ?_⟩) (by assumption) ?_
        rotate_left 1
        · (intro w hSw; (try dsimp only at hSw); go_simp; (try with_reducible rfl))
        try simp only [Act.put, List.setIfInBounds_toArray, List.set_cons_zero, List.set_cons_succ]
        refine take_at (i := 28) (v := ?_) rfl (by kernel_rfl) (by kernel_rfl) (by kernel_rfl) (fun _ _ _ h => h) (Or.inl ⟨by rfl, ?_⟩) (by assumption) ?_
        rotate_left 1
        · (intro w hSw; (try dsimp only at hSw); go_simp; (try with_reducible rfl))
        try simp only [Act.put, List.setIfInBounds_toArray, List.set_cons_zero, List.set_cons_succ]
        refine take_at (i := 29) (v := ?_) rfl (by kernel_rfl) (by kernel_rfl) (by kernel_rfl) (fun _ _ _ h => h) (Or.inl ⟨by rfl, ?_⟩) (by assumption) ?_
        rotate_left 1
        · (intro w hSw; (try dsimp only at hSw); go_simp; (try with_reducible rfl))
        try simp only [Act.put, List.setIfInBounds_toArray, List.set_cons_zero, List.set_cons_succ]
        refine wpAnyH_done (by kernel_rfl) ?_ _
        refine NoPanic.normal ?_
        go_wp2
        go_ret
        exact ⟨ret_bool (by simp), hB⟩
      · have hx : expireT tr wt ⟨2, t, d, k, r⟩ n = ⟨2, t, d, k, r⟩ := if_neg (fun hh => hd (by have := hh.2; rw [hE] at this; exact this))
        rw [hx] at c4
        replace c4 : ∀ W, Calls Try.prog 7 #[.agg #[.slice ta tl tc, .int .i64 tr, .int .i64 wt, .int .i64 le], .agg #[.int .i64 2, .int .i64 t, .int .i64 d, .int .i64 k, .string r], .int .i64 n] W fun e w' => e = .returned (.agg #[.int .i64 2, .int .i64 t, .int .i64 d, .int .i64 k, .string r]) ∧ Below W.heap.size W w' := c4
        have hd1 : (d ≤ n) = False := eq_false hd
        have hd2 : (n < d) = True := eq_true (by omega)
        clear hx hE hd
        go_enter Try.func3, Try.ntmps3
        go_wp2_with (first
          | (go_at_call 4; refine (c1 _).mono ?_; rintro e v0 ⟨rfl, hb⟩; obtain ⟨bt, bs, hB⟩ := boxes2 w [.slice ta tl tc, .int .i64 tr, .int .i64 wt, .int .i64 le] [.int .i64 2, .int .i64 t, .int .i64 d, .int .i64 k, .string r] _ _ (by simp) (by simp) hb; have x0 := bt.1 0 _ rfl; have x1 := bt.1 1 _ rfl; have x2 := bt.1 2 _ rfl; have x3 := bt.1 3 _ rfl; have s0 := bs.1 0 _ rfl; have s1 := bs.1 1 _ rfl; have s2 := bs.1 2 _ rfl; have s3 := bs.1 3 _ rfl; have s4 := bs.1 4 _ rfl; clear hb)
          | (go_at_call 6; have _t := t1; refine (c2 _).mono ?_; clear t1 _t; rintro e v1 ⟨rfl, hb⟩; clear x0 x1 x2 x3 s0 s1 s2 s3 s4; replace bt := (bt.below hb).alloc (.cells #[.int .i64 2, .int .i64 t, .int .i64 un, .int .i64 k, .string r] 26); replace bs := (bs.below hb).alloc (.cells #[.int .i64 2, .int .i64 t, .int .i64 un, .int .i64 k, .string r] 26); have b1 := boxL_new v1 [.int .i64 2, .int .i64 t, .int .i64 un, .int .i64 k, .string r] 26 rfl; replace hB := Below.tr hB hb; replace hB := hB.alloc hB.size (.cells #[.int .i64 2, .int .i64 t, .int .i64 un, .int .i64 k, .string r] 26); have x0 := bt.1 0 _ rfl; have x1 := bt.1 1 _ rfl; have x2 := bt.1 2 _ rfl; have x3 := bt.1 3 _ rfl; have s0 := bs.1 0 _ rfl; have s1 := bs.1 1 _ rfl; have s2 := bs.1 2 _ rfl; have s3 := bs.1 3 _ rfl; have s4 := bs.1 4 _ rfl; clear hb)
          | (go_at_call 6; refine (c3 _).mono ?_; rintro e v2 ⟨rfl, hb⟩; clear x0 x1 x2 x3 s0 s1 s2 s3 s4; replace bt := (bt.below hb).alloc (.cells #[.int .i64 2, .int .i64 t, .int .i64 um, .int .i64 k, .string r] 26); replace bs := (bs.below hb).alloc (.cells #[.int .i64 2, .int .i64 t, .int .i64 um, .int .i64 k, .string r] 26); replace b1 := (b1.below hb).alloc (.cells #[.int .i64 2, .int .i64 t, .int .i64 um, .int .i64 k, .string r] 26); have b2 := boxL_new v2 [.int .i64 2, .int .i64 t, .int .i64 um, .int .i64 k, .string r] 26 rfl; replace hB := Below.tr hB hb; replace hB := hB.alloc hB.size (.cells #[.int .i64 2, .int .i64 t, .int .i64 um, .int .i64 k, .string r] 26); have x0 := bt.1 0 _ rfl; have x1 := bt.1 1 _ rfl; have x2 := bt.1 2 _ rfl; have x3 := bt.1 3 _ rfl; have s0 := bs.1 0 _ rfl; have s1 := bs.1 1 _ rfl; have s2 := bs.1 2 _ rfl; have s3 := bs.1 3 _ rfl; have s4 := bs.1 4 _ rfl; have y0 := b1.1 0 _ rfl; have y1 := b1.1 1 _ rfl; have y2 := b1.1 2 _ rfl; have y3 := b1.1 3 _ rfl; have y4 := b1.1 4 _ rfl; have z0 := b2.1 0 _ rfl; have z1 := b2.1 1 _ rfl; have z2 := b2.1 2 _ rfl; have z3 := b2.1 3 _ rfl; have z4 := b2.1 4 _ rfl; clear hb)
          )
        clear y0 y1 y2 y3 y4 z0 z1 z2 z3 z4 b1 b2 bt bs
        generalize World.alloc _ _ = W at *
        replace hB := hB.drew
        refine wp_region_noPanic ?_
        refine wp_region_held_drew (S := fun V => V.cell? ⟨w.heap.size, 0, none⟩ = some (.slice ta tl tc) ∧ V.cell? ⟨w.heap.size, 1, none⟩ = some (.int .i64 tr) ∧ V.cell? ⟨w.heap.size, 2, none⟩ = some (.int .i64 wt) ∧ V.cell? ⟨w.heap.size, 3, none⟩ = some (.int .i64 le) ∧ V.cell? ⟨w.heap.size + 1, 0, none⟩ = some (.int .i64 2) ∧ V.cell? ⟨w.heap.size + 1, 1, none⟩ = some (.int .i64 t) ∧ V.cell? ⟨w.heap.size + 1, 2, none⟩ = some (.int .i64 d) ∧ V.cell? ⟨w.heap.size + 1, 3, none⟩ = some (.int .i64 k) ∧ V.cell? ⟨w.heap.size + 1, 4, none⟩ = some (.string r)) (by kernel_rfl) ⟨x0, x1, x2, x3, s0, s1, s2, s3, s4⟩ (fun hHeld => ?_)
        replace x0 : W.drew.cell? ⟨w.heap.size, 0, none⟩ = some (.slice ta tl tc) := x0
        replace x1 : W.drew.cell? ⟨w.heap.size, 1, none⟩ = some (.int .i64 tr) := x1
        replace x2 : W.drew.cell? ⟨w.heap.size, 2, none⟩ = some (.int .i64 wt) := x2
        replace x3 : W.drew.cell? ⟨w.heap.size, 3, none⟩ = some (.int .i64 le) := x3
        replace s0 : W.drew.cell? ⟨w.heap.size + 1, 0, none⟩ = some (.int .i64 2) := s0
        replace s1 : W.drew.cell? ⟨w.heap.size + 1, 1, none⟩ = some (.int .i64 t) := s1
        replace s2 : W.drew.cell? ⟨w.heap.size + 1, 2, none⟩ = some (.int .i64 d) := s2
        replace s3 : W.drew.cell? ⟨w.heap.size + 1, 3, none⟩ = some (.int .i64 k) := s3
        replace s4 : W.drew.cell? ⟨w.heap.size + 1, 4, none⟩ = some (.string r) := s4
        refine wpAnyH_ready (rs := [0]) (by kernel_rfl) (by simp) ?_
        refine cons_at (i := 0) rfl (fun K hK => ?_) AllReadyH.nil
        go_simp
        go_at_call 5
        refine (alive18_any _).mono ?_
        rintro e v3 ⟨rfl, hb⟩
        replace x0 := cell_below hb x0
        replace x1 := cell_below hb x1
        replace x2 := cell_below hb x2
        replace x3 := cell_below hb x3
        replace s0 := cell_below hb s0
        replace s1 := cell_below hb s1
        replace s2 := cell_below hb s2
        replace s3 := cell_below hb s3
        replace s4 := cell_below hb s4
        replace hB := Below.tr hB hb
        clear hb
        refine hK.out _ _ ?_ (fun hHeld => ?_)
        · exact ⟨x0, x1, x2, x3, s0, s1, s2, s3, s4⟩
        clear hK K
        refine take_at (i := 1) (v := ?_) rfl (by kernel_rfl) (by kernel_rfl) (by kernel_rfl) (fun _ _ _ h => h) (Or.inl ⟨by rfl, ?_⟩) (by assumption) ?_
        rotate_left 1
        · (intro w hSw; (try dsimp only at hSw); go_simp; (try with_reducible rfl))
        try simp only [Act.put, List.setIfInBounds_toArray, List.set_cons_zero, List.set_cons_succ]
        refine take_at (i := 2) (v := ?_) rfl (by kernel_rfl) (by kernel_rfl) (by kernel_rfl) (fun _ _ _ h => h) (Or.inl ⟨by rfl, ?_⟩) (by assumption) ?_
        rotate_left 1
        · (intro w hSw; (try dsimp only at hSw); go_simp; (try with_reducible rfl))
        try simp only [Act.put, List.setIfInBounds_toArray, List.set_cons_zero, List.set_cons_succ]
        refine take_at (i := 3) (v := ?_) rfl (by kernel_rfl) (by kernel_rfl) (by kernel_rfl) (fun _ _ _ h => h) (Or.inl ⟨by rfl, ?_⟩) (by assumption) ?_
        rotate_left 1
        · (intro w hSw; (try dsimp only at hSw); go_simp; (try with_reducible rfl))
        try simp only [Act.put, List.setIfInBounds_toArray, List.set_cons_zero, List.set_cons_succ]
        refine take_at (i := 4) (v := ?_) rfl (by kernel_rfl) (by kernel_rfl) (by kernel_rfl) (fun _ _ _ h => h) (Or.inl ⟨by rfl, ?_⟩) (by assumption) ?_
        rotate_left 1
        · (intro w hSw; (try dsimp only at hSw); go_simp; (try with_reducible rfl))
        try simp only [Act.put, List.setIfInBounds_toArray, List.set_cons_zero, List.set_cons_succ]
        refine take_at (i := 5) (v := ?_) rfl (by kernel_rfl) (by kernel_rfl) (by kernel_rfl) (fun _ _ _ h => h) (Or.inl ⟨by rfl, ?_⟩) (by assumption) ?_
        rotate_left 1
        · (intro w hSw; (try dsimp only at hSw); go_simp; (try with_reducible rfl))
        try simp only [Act.put, List.setIfInBounds_toArray, List.set_cons_zero, List.set_cons_succ]
        refine take_at (i := 6) (v := ?_) rfl (by kernel_rfl) (by kernel_rfl) (by kernel_rfl) (fun _ _ _ h => h) (Or.inl ⟨by rfl, ?_⟩) (by assumption) ?_
        rotate_left 1
        · (intro w hSw; (try dsimp only at hSw); go_simp; (try with_reducible rfl))
        try simp only [Act.put, List.setIfInBounds_toArray, List.set_cons_zero, List.set_cons_succ]
        refine take_at (i := 7) (v := ?_) rfl (by kernel_rfl) (by kernel_rfl) (by kernel_rfl) (fun _ _ _ h => h) (Or.inl ⟨by rfl, ?_⟩) (by assumption) ?_
        rotate_left 1
        · (intro w hSw; (try dsimp only at hSw); go_simp; (try with_reducible rfl))
        try simp only [Act.put, List.setIfInBounds_toArray, List.set_cons_zero, List.set_cons_succ]
        refine take_at (i := 8) (v := ?_) rfl (by kernel_rfl) (by kernel_rfl) (by kernel_rfl) (fun _ _ _ h => h) (Or.inl ⟨by rfl, ?_⟩) (by assumption) ?_
        rotate_left 1
        · (intro w hSw; (try dsimp only at hSw); go_simp; (try with_reducible rfl))
        try simp only [Act.put, List.setIfInBounds_toArray, List.set_cons_zero, List.set_cons_succ]
        refine take_at (i := 9) (v := ?_) rfl (by kernel_rfl) (by kernel_rfl) (by kernel_rfl) (fun _ _ _ h => h) (Or.inl ⟨by rfl, ?_⟩) (by assumption) ?_
        rotate_left 1
        · (intro w hSw; (try dsimp only at hSw); go_simp; (try with_reducible rfl))
        try simp only [Act.put, List.setIfInBounds_toArray, List.set_cons_zero, List.set_cons_succ]
        refine take_at (i := 11) (v := ?_) rfl (by kernel_rfl) (by kernel_rfl) (by kernel_rfl) (fun _ _ _ h => h) (Or.inl ⟨by rfl, ?_⟩) (by assumption) ?_
        rotate_left 1
        · (intro w hSw; (try dsimp only at hSw); go_simp; (try with_reducible rfl))
        try simp only [Act.put, List.setIfInBounds_toArray, List.set_cons_zero, List.set_cons_succ]
        refine wpAnyH_ready (rs := [10]) (by kernel_rfl) (by simp) ?_
        refine cons_at (i := 10) rfl (fun K hK => ?_) AllReadyH.nil
        go_simp
        go_at_call 7
        refine (c4 _).mono ?_
        rintro e v4 ⟨rfl, hb⟩
        replace x0 := cell_below hb x0
        replace x1 := cell_below hb x1
        replace x2 := cell_below hb x2
        replace x3 := cell_below hb x3
        replace s0 := cell_below hb s0
        replace s1 := cell_below hb s1
        replace s2 := cell_below hb s2
        replace s3 := cell_below hb s3
        replace s4 := cell_below hb s4
        replace hB := Below.tr hB hb
        clear hb
        refine hK.out _ _ ?_ (fun hHeld => ?_)
        · exact ⟨x0, x1, x2, x3, s0, s1, s2, s3, s4⟩
        clear hK K
        refine take_at (i := 12) (v := ?_) rfl (by kernel_rfl) (by kernel_rfl) (by kernel_rfl) (fun _ _ _ h => h) (Or.inl ⟨by rfl, ?_⟩) (by assumption) ?_
        rotate_left 1
        · (intro w hSw; (try dsimp only at hSw); go_simp; (try with_reducible rfl))
        try simp only [Act.put, List.setIfInBounds_toArray, List.set_cons_zero, List.set_cons_succ]
        refine take_at (i := 13) (v := ?_) rfl (by kernel_rfl) (by kernel_rfl) (by kernel_rfl) (fun _ _ _ h => h) (Or.inl ⟨by rfl, ?_⟩) (by assumption) ?_
        rotate_left 1
        · (intro w hSw; (try dsimp only at hSw); go_simp; (try with_reducible rfl))
        try simp only [Act.put, List.setIfInBounds_toArray, List.set_cons_zero, List.set_cons_succ]
        refine take_at (i := 14) (v := ?_) rfl (by kernel_rfl) (by kernel_rfl) (by kernel_rfl) (fun _ _ _ h => h) (Or.inl ⟨by rfl, ?_⟩) (by assumption) ?_
        rotate_left 1
        · (intro w hSw; (try dsimp only at hSw); go_simp; (try with_reducible rfl))
        try simp only [Act.put, List.setIfInBounds_toArray, List.set_cons_zero, List.set_cons_succ]
        refine take_at (i := 15) (v := ?_) rfl (by kernel_rfl) (by kernel_rfl) (by kernel_rfl) (fun _ _ _ h => h) (Or.inl ⟨by rfl, ?_⟩) (by assumption) ?_
        rotate_left 1
        · (intro w hSw; (try dsimp only at hSw); go_simp; (try with_reducible rfl))
        try simp only [Act.put, List.setIfInBounds_toArray, List.set_cons_zero, List.set_cons_succ]
        refine take_at (i := 16) (v := ?_) rfl (by kernel_rfl) (by kernel_rfl) (by kernel_rfl) (fun _ _ _ h => h) (Or.inl ⟨by rfl, ?_⟩) (by assumption) ?_
        rotate_left 1
        · (intro w hSw; (try dsimp only at hSw); go_simp; (try with_reducible rfl))
        try simp only [Act.put, List.setIfInBounds_toArray, List.set_cons_zero, List.set_cons_succ]
        refine take_at (i := 17) (v := ?_) rfl (by kernel_rfl) (by kernel_rfl) (by kernel_rfl) (fun _ _ _ h => h) (Or.inl ⟨by rfl, ?_⟩) (by assumption) ?_
        rotate_left 1
        · (intro w hSw; (try dsimp only at hSw); go_simp; (try with_reducible rfl))
        try simp only [Act.put, List.setIfInBounds_toArray, List.set_cons_zero, List.set_cons_succ]
        refine take_at (i := 18) (v := ?_) rfl (by kernel_rfl) (by kernel_rfl) (by kernel_rfl) (fun _ _ _ h => h) (Or.inl ⟨by rfl, ?_⟩) (by assumption) ?_
        rotate_left 1
        · (intro w hSw; (try dsimp only at hSw); go_simp; (try with_reducible rfl))
        try simp only [Act.put, List.setIfInBounds_toArray, List.set_cons_zero, List.set_cons_succ]
        refine take_at (i := 19) (v := ?_) rfl (by kernel_rfl) (by kernel_rfl) (by kernel_rfl) (fun _ _ _ h => h) (Or.inl ⟨by rfl, ?_⟩) (by assumption) ?_
        rotate_left 1
        · (intro w hSw; (try dsimp only at hSw); go_simp; (try with_reducible rfl))
        try simp only [Act.put, List.setIfInBounds_toArray, List.set_cons_zero, List.set_cons_succ]
        refine take_at (i := 20) (v := ?_) rfl (by kernel_rfl) (by kernel_rfl) (by kernel_rfl) (fun _ _ _ h => h) (Or.inl ⟨by rfl, ?_⟩) (by assumption) ?_
        rotate_left 1
        · (intro w hSw; (try dsimp only at hSw); go_simp; (try with_reducible rfl))
        try simp only [Act.put, List.setIfInBounds_toArray, List.set_cons_zero, List.set_cons_succ]
        refine take_at (i := 21) (v := undef) rfl (by kernel_rfl) (by kernel_rfl) (by kernel_rfl) (fun _ _ _ h => h) (Or.inr ⟨by rfl, rfl⟩) (by assumption) ?_
        try simp only [Act.put, List.setIfInBounds_toArray, List.set_cons_zero, List.set_cons_succ]
        refine take_at (i := 22) (v := undef) rfl (by kernel_rfl) (by kernel_rfl) (by kernel_rfl) (fun _ _ _ h => h) (Or.inr ⟨by rfl, rfl⟩) (by assumption) ?_
        try simp only [Act.put, List.setIfInBounds_toArray, List.set_cons_zero, List.set_cons_succ]
        refine take_at (i := 23) (v := undef) rfl (by kernel_rfl) (by kernel_rfl) (by kernel_rfl) (fun _ _ _ h => h) (Or.inr ⟨by rfl, rfl⟩) (by assumption) ?_
        try simp only [Act.put, List.setIfInBounds_toArray, List.set_cons_zero, List.set_cons_succ]
        refine take_at (i := 24) (v := undef) rfl (by kernel_rfl) (by kernel_rfl) (by kernel_rfl) (fun _ _ _ h => h) (Or.inr ⟨by rfl, rfl⟩) (by assumption) ?_
        try simp only [Act.put, List.setIfInBounds_toArray, List.set_cons_zero, List.set_cons_succ]
        refine take_at (i := 25) (v := undef) rfl (by kernel_rfl) (by kernel_rfl) (by kernel_rfl) (fun _ _ _ h => h) (Or.inr ⟨by rfl, rfl⟩) (by assumption) ?_
        try simp only [Act.put, List.setIfInBounds_toArray, List.set_cons_zero, List.set_cons_succ]
        refine take_at (i := 26) (v := undef) rfl (by kernel_rfl) (by kernel_rfl) (by kernel_rfl) (fun _ _ _ h => h) (Or.inr ⟨by rfl, rfl⟩) (by assumption) ?_
        try simp only [Act.put, List.setIfInBounds_toArray, List.set_cons_zero, List.set_cons_succ]
        refine take_at (i := 27) (v := ?_) rfl (by kernel_rfl) (by kernel_rfl) (by kernel_rfl) (fun _ _ _ h => h) (Or.inl ⟨by rfl, ?_⟩) (by assumption) ?_
        rotate_left 1
        · (intro w hSw; (try dsimp only at hSw); go_simp; (try with_reducible rfl))
        try simp only [Act.put, List.setIfInBounds_toArray, List.set_cons_zero, List.set_cons_succ]
        refine take_at (i := 28) (v := ?_) rfl (by kernel_rfl) (by kernel_rfl) (by kernel_rfl) (fun _ _ _ h => h) (Or.inl ⟨by rfl, ?_⟩) (by assumption) ?_
        rotate_left 1
        · (intro w hSw; (try dsimp only at hSw); go_simp; (try with_reducible rfl))
        try simp only [Act.put, List.setIfInBounds_toArray, List.set_cons_zero, List.set_cons_succ]
        refine take_at (i := 29) (v := ?_) rfl (by kernel_rfl) (by kernel_rfl) (by kernel_rfl) (fun _ _ _ h => h) (Or.inl ⟨by rfl, ?_⟩) (by assumption) ?_
        rotate_left 1
        · (intro w hSw; (try dsimp only at hSw); go_simp; (try with_reducible rfl))
        try simp only [Act.put, List.setIfInBounds_toArray, List.set_cons_zero, List.set_cons_succ]
        refine wpAnyH_done (by kernel_rfl) ?_ _
        refine NoPanic.normal ?_
        go_wp2
        go_ret
        exact ⟨ret_bool (by simp), hB⟩
    · have h2' : (i != 2) = true := by simpa using h2
      have z1 : beatT le ⟨i, t, d, k, r⟩ n = zeroT := if_neg h2
      have z2 : beatT le ⟨i, t, d, k, r⟩ m = zeroT := if_neg h2
      have z3 : heldE ⟨i, t, d, k, r⟩ = 191 := if_neg h2
      have c2 := fun W => beatT_any ta tl tc tr wt le i t d k r n W
      have c3 := fun W => beatT_any ta tl tc tr wt le i t d k r m W
      rw [z1, z3] at c2
      rw [z2, z3] at c3
      replace c2 : ∀ W, Calls Try.prog 6 #[.agg #[.slice ta tl tc, .int .i64 tr, .int .i64 wt, .int .i64 le], .agg #[.int .i64 i, .int .i64 t, .int .i64 d, .int .i64 k, .string r], .int .i64 n] W fun e w' => e = .returned (.tuple #[.agg #[.int .i64 0, .int .i64 0, .int .i64 0, .int .i64 0, .string ⟨#[]⟩], .int .i64 191]) ∧ Below W.heap.size W w' := c2
      replace c3 : ∀ W, Calls Try.prog 6 #[.agg #[.slice ta tl tc, .int .i64 tr, .int .i64 wt, .int .i64 le], .agg #[.int .i64 i, .int .i64 t, .int .i64 d, .int .i64 k, .string r], .int .i64 m] W fun e w' => e = .returned (.tuple #[.agg #[.int .i64 0, .int .i64 0, .int .i64 0, .int .i64 0, .string ⟨#[]⟩], .int .i64 191]) ∧ Below W.heap.size W w' := c3
      clear z1 z2 z3 h2 ht hr hb1 hb2 hb3
      go_enter Try.func3, Try.ntmps3
      go_wp2_with (first
        | (go_at_call 4; refine (c1 _).mono ?_; rintro e v0 ⟨rfl, hb⟩; obtain ⟨bt, bs, hB⟩ := boxes2 w [.slice ta tl tc, .int .i64 tr, .int .i64 wt, .int .i64 le] [.int .i64 i, .int .i64 t, .int .i64 d, .int .i64 k, .string r] _ _ (by simp) (by simp) hb; have x0 := bt.1 0 _ rfl; have x1 := bt.1 1 _ rfl; have x2 := bt.1 2 _ rfl; have x3 := bt.1 3 _ rfl; have s0 := bs.1 0 _ rfl; have s1 := bs.1 1 _ rfl; have s2 := bs.1 2 _ rfl; have s3 := bs.1 3 _ rfl; have s4 := bs.1 4 _ rfl; clear hb)
        | (go_at_call 6; have _t := t1; refine (c2 _).mono ?_; clear t1 _t; rintro e v1 ⟨rfl, hb⟩; clear x0 x1 x2 x3 s0 s1 s2 s3 s4; replace bt := (bt.below hb).alloc (.cells #[.int .i64 0, .int .i64 0, .int .i64 0, .int .i64 0, .string ⟨#[]⟩] 26); replace bs := (bs.below hb).alloc (.cells #[.int .i64 0, .int .i64 0, .int .i64 0, .int .i64 0, .string ⟨#[]⟩] 26); have b1 := boxL_new v1 [.int .i64 0, .int .i64 0, .int .i64 0, .int .i64 0, .string ⟨#[]⟩] 26 rfl; replace hB := Below.tr hB hb; replace hB := hB.alloc hB.size (.cells #[.int .i64 0, .int .i64 0, .int .i64 0, .int .i64 0, .string ⟨#[]⟩] 26); have x0 := bt.1 0 _ rfl; have x1 := bt.1 1 _ rfl; have x2 := bt.1 2 _ rfl; have x3 := bt.1 3 _ rfl; have s0 := bs.1 0 _ rfl; have s1 := bs.1 1 _ rfl; have s2 := bs.1 2 _ rfl; have s3 := bs.1 3 _ rfl; have s4 := bs.1 4 _ rfl; clear hb)
        | (go_at_call 6; refine (c3 _).mono ?_; rintro e v2 ⟨rfl, hb⟩; clear x0 x1 x2 x3 s0 s1 s2 s3 s4; replace bt := (bt.below hb).alloc (.cells #[.int .i64 0, .int .i64 0, .int .i64 0, .int .i64 0, .string ⟨#[]⟩] 26); replace bs := (bs.below hb).alloc (.cells #[.int .i64 0, .int .i64 0, .int .i64 0, .int .i64 0, .string ⟨#[]⟩] 26); replace b1 := (b1.below hb).alloc (.cells #[.int .i64 0, .int .i64 0, .int .i64 0, .int .i64 0, .string ⟨#[]⟩] 26); have b2 := boxL_new v2 [.int .i64 0, .int .i64 0, .int .i64 0, .int .i64 0, .string ⟨#[]⟩] 26 rfl; replace hB := Below.tr hB hb; replace hB := hB.alloc hB.size (.cells #[.int .i64 0, .int .i64 0, .int .i64 0, .int .i64 0, .string ⟨#[]⟩] 26); have x0 := bt.1 0 _ rfl; have x1 := bt.1 1 _ rfl; have x2 := bt.1 2 _ rfl; have x3 := bt.1 3 _ rfl; have s0 := bs.1 0 _ rfl; have s1 := bs.1 1 _ rfl; have s2 := bs.1 2 _ rfl; have s3 := bs.1 3 _ rfl; have s4 := bs.1 4 _ rfl; have y0 := b1.1 0 _ rfl; have y1 := b1.1 1 _ rfl; have y2 := b1.1 2 _ rfl; have y3 := b1.1 3 _ rfl; have y4 := b1.1 4 _ rfl; have z0 := b2.1 0 _ rfl; have z1 := b2.1 1 _ rfl; have z2 := b2.1 2 _ rfl; have z3 := b2.1 3 _ rfl; have z4 := b2.1 4 _ rfl; clear hb)
        | (go_at_call 5; refine (alive18_any _).mono ?_; rintro e v3 ⟨rfl, hb⟩; replace hB := Below.tr hB hb; clear hb)
        )
      go_ret
      exact ⟨ret_bool (by simp), hB⟩

end Go.Proofs.Ytnipikdlfmcheab

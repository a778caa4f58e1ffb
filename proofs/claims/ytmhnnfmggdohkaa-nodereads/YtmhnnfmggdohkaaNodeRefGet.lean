/-
  The document's own Get of nodes.
-/
import Derived.Test.YtmhnnfmggdohkaaNodeGetB
import Derived.Test.YtmhnnfmggdohkaaRefGet
import Derived.Test.YtmhnnfmggdohkaaNodeRefB
import Derived.Lib.AppendZeros
namespace Go.Proofs.Ytmhnnfmggdohkaa
open Go.RowKit Plain Anylast
set_option linter.unusedVariables false

theorem leaf_err {s : ByteArray} {e : Int} {j c : Nat} (h0 : getE s 0 1 = 0) (hc : getR s 0 1 = c) (h : leafSt s j = .inl e) (hj : j ≤ c) : leafR s = .inl e := by
  obtain ⟨d, rfl⟩ : ∃ d, c = j + d := ⟨c - j, by omega⟩
  unfold leafR
  rw [if_pos h0, hc, Int.toNat_natCast, leafSt_stuck h d]

theorem leaf_end {s : ByteArray} {p : Int} {ks vs : List ByteArray} {c : Nat} (h0 : getE s 0 1 = 0) (hc : getR s 0 1 = c) (h : leafSt s c = .inr (p, ks, vs)) : leafR s = if p = s.size ∧ rightN true ks vs [] true = true then .inr (true, ks, vs, []) else .inl 4 := by
  unfold leafR
  rw [if_pos h0, hc, Int.toNat_natCast, h]

set_option maxRecDepth 20000 in
set_option maxHeartbeats 4000000 in
/-- A leaf. -/
theorem refGetLeaf_any (s : ByteArray) (w : World) (hs : s.size ≤ maxLen) :
    Calls Try.prog 16 #[.int .i64 1, .string s] w fun x w' => Answers w x w' (gN 1 s).1 (gN 1 s).2.1 (gN 1 s).2.2.1 (gN 1 s).2.2.2 (gE 1 s) := by
  obtain ⟨Q, hQ⟩ : ∃ Q : Ending → World → Prop, Q = fun x w' => Answers w x w' (gN 1 s).1 (gN 1 s).2.1 (gN 1 s).2.2.1 (gN 1 s).2.2.2 (gE 1 s) := ⟨_, rfl⟩
  have hN : nodeR 1 s = leafR s := by unfold nodeR; rw [if_pos rfl]
  have HQ : Hid (∀ e, leafR s = .inl e → ∀ x w', Answers w x w' false [] [] [] e → Q x w') := fun e h x w' ha => by
    obtain ⟨g1, g2⟩ := g_inl (hN.trans h)
    rw [hQ, g1, g2]; exact ha
  have HQ2 : Hid (∀ y, leafR s = .inr y → ∀ x w', Answers w x w' y.1 y.2.1 y.2.2.1 y.2.2.2 0 → Q x w') := fun y h x w' ha => by
    obtain ⟨g1, g2⟩ := g_inr (hN.trans h)
    rw [hQ, g1, g2]; exact ha
  rw [← hQ]
  clear hQ hN
  obtain ⟨W, hW, b0, bn, hB0, hsz⟩ := node_two w 25 true (.slice none 0 0)
  have N0 : NodeAt W (w.heap.size + 1) (w.heap.size + 2) true (.slice none 0 0) (.slice none 0 0) (.slice none 0 0) [] [] [] := nodeAt_new bn (by omega)
  have hle : w.heap.size ≤ w.heap.size := Nat.le_refl _
  have cG := fun V => refGet_any s 0 1 V hs
  by_cases h0 : getE s 0 1 = 0
  · obtain ⟨e1, e2, e3⟩ := rn_one h0
    obtain ⟨c, hc, hc2⟩ := rn_count s
    rw [e3] at hc
    have eT : getT s 0 1 = 1 := by
      have h' : getE s ((0 : Nat) : Int) ((1 : Nat) : Int) = 0 := h0
      exact (get_num h').2.1
    rw [hc, eT, h0] at cG
    have HE : Hid (∀ e j, leafSt s j = .inl e → j ≤ c → leafR s = .inl e) := fun e j h hj => leaf_err h0 hc h hj
    have HF : Hid (∀ p ks vs, leafSt s c = .inr (p, ks, vs) → leafR s = if p = s.size ∧ rightN true ks vs [] true = true then .inr (true, ks, vs, []) else .inl 4) := fun p ks vs h => leaf_end h0 hc h
    have HS : Hid (s.size ≤ maxLen) := hs
    have hm : s.size ≤ 9223372036854775807 := hs
    clear e1 e2 e3 hc eT h0 hs bn hsz
    go_enter Try.func16, Try.ntmps16
    go_wp2_with (go_at_call 35; rw [← hW]; refine (cG _).mono ?_; rintro y w1 ⟨rfl, rfl⟩)
    rw [← hW]
    clear hW cG
    go_loopw [8, 10] (fun v8 v10 wr => ∃ (j : Nat) (p : Int) (u1 u2 : Value) (xs ys : List ByteArray), j ≤ c ∧ v10 = .int .i64 j ∧ v8 = .int .i64 p ∧ leafSt s j = .inr (p, xs, ys) ∧ NodeAt wr (w.heap.size + 1) (w.heap.size + 2) true u1 u2 (.slice none 0 0) xs ys [] ∧ (∀ x ∈ xs, x.size ≤ s.size) ∧ (∀ x ∈ ys, x.size ≤ s.size) ∧ Box4 wr w.heap.size (.bool false) (.slice none 0 0) (.slice none 0 0) (.slice none 0 0) ∧ Below w.heap.size w wr) (fun _ v10 _ => c - (intOf v10).toNat)
    case atStart => exact ⟨0, 1, _, _, [], [], by omega, rfl, rfl, rfl, N0, fun x h => (by cases h), fun x h => (by cases h), b0, hB0⟩
    case round =>
      clear N0 b0 hB0
      obtain ⟨j, p, u1, u2, xs, ys, hj, rfl, rfl, hst, N, sx, sy, b0, HB⟩ := hrel
      obtain ⟨l1, l2⟩ := leafSt_length hst
      by_cases hlt : j < c
      · have hlt' : (j : Int) < c := by omega
        have cC1 := fun V => refCut_any s p V HS.out
        obtain ⟨k1, hk1⟩ : ∃ x, x = cutS s p := ⟨_, rfl⟩
        obtain ⟨p1, hp1⟩ : ∃ x, x = cutT s p := ⟨_, rfl⟩
        obtain ⟨E1, hE1⟩ : ∃ x, x = cutE s p := ⟨_, rfl⟩
        rw [← hk1, ← hp1, ← hE1] at cC1
        obtain ⟨⟨r0, r1, r2, r3⟩, g0, g1, g2, g3⟩ := id b0
        have hst' : leafSt s (j + 1) = if E1 = 0 then (if cutE s p1 = 0 then .inr (cutT s p1, xs ++ [k1], ys ++ [cutS s p1]) else .inl (cutE s p1)) else .inl E1 := by
          rw [leafSt, hst, hk1, hp1, hE1]
        by_cases z1 : E1 = 0
        · subst z1
          rw [if_pos rfl] at hst'
          have cC2 := fun V => refCut_any s p1 V HS.out
          obtain ⟨k2, hk2⟩ : ∃ x, x = cutS s p1 := ⟨_, rfl⟩
          obtain ⟨p2, hp2⟩ : ∃ x, x = cutT s p1 := ⟨_, rfl⟩
          obtain ⟨E2, hE2⟩ : ∃ x, x = cutE s p1 := ⟨_, rfl⟩
          rw [← hk2, ← hp2, ← hE2] at cC2 hst'
          have sk1 : k1.size ≤ s.size := by rw [hk1]; exact cutS_size s p
          have sk2 : k2.size ≤ s.size := by rw [hk2]; exact cutS_size s p1
          obtain ⟨ga, cap, V3, hrun1, b3, N4, T4⟩ := N.push1 k1 (by omega)
          obtain ⟨V4, hV4⟩ : ∃ V, V = V3.setCell ⟨w.heap.size + 1, 1, none⟩ (.slice (some ⟨ga, 0, none⟩) (xs.length + 1) cap) := ⟨_, rfl⟩
          rw [← hV4] at N4 T4
          have HB4 : Below w.heap.size w V4 := Below.turns HB T4 (fun k hk => by rcases hk with h | h <;> omega)
          have b04 := b0.turns T4 (by rintro (h | h) <;> omega)
          obtain ⟨⟨q0, q1, q2, q3⟩, -⟩ := N.box
          have Q1 := fun o => cell_alloc q1 o
          obtain ⟨⟨q03, q13, q23, q33⟩, f0, f1, f2, f3⟩ := id b3
          have HST : Hid (leafSt s (j + 1) = if E2 = 0 then .inr (p2, xs ++ [k1], ys ++ [k2]) else .inl E2) := hst'
          have SX : Hid (∀ x ∈ xs ++ [k1], x.size ≤ s.size) := fun x hx => by
            rcases List.mem_append.1 hx with h | h
            · exact sx x h
            · obtain rfl : x = k1 := by simpa using h
              exact sk1
          have SY : Hid (∀ x ∈ ys ++ [k2], x.size ≤ s.size) := fun x hx => by
            rcases List.mem_append.1 hx with h | h
            · exact sy x h
            · obtain rfl : x = k2 := by simpa using h
              exact sk2
          obtain ⟨⟨s0, s1, s2, s3⟩, -⟩ := N4.box
          have S2 := fun o => cell_alloc s2 o
          by_cases z2 : E2 = 0
          · subst z2
            obtain ⟨gb, cap2, U3, hrun2, b5, N8, T8⟩ := N4.push2 k2 (by omega)
            obtain ⟨U4, hU4⟩ : ∃ V, V = U3.setCell ⟨w.heap.size + 1, 2, none⟩ (.slice (some ⟨gb, 0, none⟩) (ys.length + 1) cap2) := ⟨_, rfl⟩
            rw [← hU4] at N8 T8
            have NH : Hid (NodeAt U4 (w.heap.size + 1) (w.heap.size + 2) true (.slice (some ⟨ga, 0, none⟩) (xs.length + 1) cap) (.slice (some ⟨gb, 0, none⟩) (ys.length + 1) cap2) (.slice none 0 0) (xs ++ [k1]) (ys ++ [k2]) []) := N8
            have BH : Hid (Box4 U4 w.heap.size (.bool false) (.slice none 0 0) (.slice none 0 0) (.slice none 0 0) ∧ Below w.heap.size w U4) := ⟨b04.turns T8 (by rintro (h | h) <;> omega), Below.turns HB4 T8 (fun k hk => by rcases hk with h | h <;> omega)⟩
            obtain ⟨⟨q05, q15, q25, q35⟩, h0, h1, h2, h3⟩ := id b5
            have HV4 : Hid (V4 = V3.setCell ⟨w.heap.size + 1, 1, none⟩ (.slice (some ⟨ga, 0, none⟩) (xs.length + 1) cap)) := hV4
            have HU4 : Hid (U4 = U3.setCell ⟨w.heap.size + 1, 2, none⟩ (.slice (some ⟨gb, 0, none⟩) (ys.length + 1) cap2)) := hU4
            have t1 : True := trivial
            clear hk1 hp1 hE1 hk2 hp2 hE2 hst hst' l1 l2 hV4 hU4 N N4 N8 T4 T8 b3 b5 sx sy sk1 sk2 b0 b04 HB4
            go_wp2_with (first
              | (go_at_call 36; have _t := t1; refine (cC1 _).mono ?_; rintro y w1 ⟨rfl, rfl⟩)
              | (at_builtin; have _t := t1; refine Lib.wpList_append_run _ rfl _ _ _ _ rfl _ _ rfl rfl _ _ hrun1 ?_; clear t1 _t)
              | (go_at_call 36; rw [← HV4.out]; refine (cC2 _).mono ?_; rintro y w1 ⟨rfl, rfl⟩)
              | (at_builtin; refine Lib.wpList_append_run _ rfl _ _ _ _ rfl _ _ rfl rfl _ _ hrun2 ?_))
            go_roundw
            case rel => exact ⟨j + 1, p2, .slice (some ⟨ga, 0, none⟩) (xs.length + 1) cap, .slice (some ⟨gb, 0, none⟩) (ys.length + 1) cap2, xs ++ [k1], ys ++ [k2], by omega, by go_num, rfl, by rw [HST.out]; simp, by rw [← HU4.out]; exact NH.out, SX.out, SY.out, by rw [← HU4.out]; exact BH.out.1, by rw [← HU4.out]; exact BH.out.2⟩
            case measure => simp [intOf]; omega
          · have z2' : (E2 != 0) = true := by simpa using z2
            have HEE : Hid (leafR s = .inl E2) := HE.out E2 (j + 1) (by rw [HST.out, if_neg z2]) (by omega)
            have HV4 : Hid (V4 = V3.setCell ⟨w.heap.size + 1, 1, none⟩ (.slice (some ⟨ga, 0, none⟩) (xs.length + 1) cap)) := hV4
            have t1 : True := trivial
            clear r0 r1 r2 r3 g0 g1 g2 g3
            obtain ⟨⟨r0, r1, r2, r3⟩, g0, g1, g2, g3⟩ := id b04
            clear hk1 hp1 hE1 hk2 hp2 hE2 hst hst' l1 l2 hV4 N N4 T4 b3 sx sy sk1 sk2 b0 b04 HB z2
            go_wp2_with (first
              | (go_at_call 36; have _t := t1; refine (cC1 _).mono ?_; rintro y w1 ⟨rfl, rfl⟩)
              | (at_builtin; have _t := t1; refine Lib.wpList_append_run _ rfl _ _ _ _ rfl _ _ rfl rfl _ _ hrun1 ?_; clear t1 _t)
              | (go_at_call 36; rw [← HV4.out]; refine (cC2 _).mono ?_; rintro y w1 ⟨rfl, rfl⟩))
            refine bodyPost_ret (v := .tuple #[.agg #[.bool false, .slice none 0 0, .slice none 0 0, .slice none 0 0], .int .i64 E2]) (by simp [results, Try.results16, go_sem, r0, r1, r2, r3]) rfl (HQ.out _ HEE.out _ _ (answers_none (below_put4 HB4 hle _ _ _ _)))
        · have z1' : (E1 != 0) = true := by simpa using z1
          have HEE : Hid (leafR s = .inl E1) := HE.out E1 (j + 1) (by rw [hst', if_neg z1]) (by omega)
          clear hk1 hp1 hE1 hst hst' l1 l2 N sx sy b0 z1
          go_wp2_with (go_at_call 36; refine (cC1 _).mono ?_; rintro y w1 ⟨rfl, rfl⟩)
          refine bodyPost_ret (v := .tuple #[.agg #[.bool false, .slice none 0 0, .slice none 0 0, .slice none 0 0], .int .i64 E1]) (by simp [results, Try.results16, go_sem, r0, r1, r2, r3]) rfl (HQ.out _ HEE.out _ _ (answers_none (below_put4 HB hle _ _ _ _)))
      · obtain rfl : j = c := by omega
        have hfin : Hid (leafR s = if p = s.size ∧ rightN true xs ys [] true = true then .inr (true, xs, ys, []) else .inl 4) := HF.out p xs ys hst
        have X1 : Hid (∀ x ∈ xs, x.size ≤ maxLen) := fun x hx => Nat.le_trans (sx x hx) HS.out
        have X2 : Hid (∀ x ∈ ys, x.size ≤ maxLen) := fun x hx => Nat.le_trans (sy x hx) HS.out
        obtain ⟨a, d, a', d', a'', d'', rfl, rfl, e3, i1, i2, i3, j1, j2, j3⟩ := N.rows X1.out X2.out
        have NH : Hid (NodeAt wr (w.heap.size + 1) (w.heap.size + 2) true (.slice a xs.length d) (.slice a' ys.length d') (.slice none 0 0) xs ys []) := N
        obtain ⟨⟨q0, q1, q2, q3⟩, -⟩ := N.box
        have cR : Calls Try.prog 11 #[.agg #[.bool true, .slice a xs.length d, .slice a' ys.length d', .slice none 0 0], .bool true] wr fun e w' => e = .returned (.bool (rightN true xs ys [] true)) ∧ Below wr.heap.size wr w' := refNodeRight_any true a a' none d d' 0 _ _ 0 xs ys [] true wr rfl rfl rfl i1 i2 (isI_nil _)
        clear l1 l2 hst sx sy e3 i1 i2 i3
        by_cases hP : p = s.size
        · subst hP
          cases hr : rightN true xs ys [] true with
          | true =>
            rw [hr] at cR hfin
            replace hfin : Hid (leafR s = .inr (true, xs, ys, [])) := by show _ = _; rw [hfin.out, if_pos ⟨rfl, rfl⟩]
            clear hr
            have J1 : Hid (From (w.heap.size + 2) a) := j1
            have J2 : Hid (From (w.heap.size + 2) a') := j2
            clear j1 j2 j3 N
            go_wp2_with (go_at_call 11; refine cR.mono ?_; rintro y w1 ⟨rfl, hb⟩; have NH1 : Hid (NodeAt w1 (w.heap.size + 1) (w.heap.size + 2) true (.slice a xs.length d) (.slice a' ys.length d') (.slice none 0 0) xs ys []) := NH.out.below hb; replace b0 := b0.below hb; replace HB := Below.tr HB hb; obtain ⟨⟨r0, r1, r2, r3⟩, g0, g1, g2, g3⟩ := id b0; clear q0 q1 q2 q3; obtain ⟨⟨q0, q1, q2, q3⟩, -⟩ := NH1.out.box; clear hb)
            have N4 := (((NH1.out.other (k := w.heap.size) (by omega) (by omega) 0 (.bool true)).other (k := w.heap.size) (by omega) (by omega) 1 (.slice a xs.length d)).other (k := w.heap.size) (by omega) (by omega) 2 (.slice a' ys.length d')).other (k := w.heap.size) (by omega) (by omega) 3 (.slice none 0 0)
            obtain ⟨a1, d1, a1', d1', a1'', d1'', e1, e2, e3, i1, i2, i3, -, -, -⟩ := N4.rows X1.out X2.out
            cases e1
            cases e2
            exact bodyPost_ret (v := .tuple #[.agg #[.bool true, .slice a xs.length d, .slice a' ys.length d', .slice none 0 0], .int .i64 0]) (by simp [results, Try.results16, go_sem, r0, r1, r2, r3]) rfl (HQ2.out _ hfin.out _ _ ⟨_, a, d, _, a', d', 0, none, 0, rfl, rfl, rfl, rfl, i1, i2, isI_nil _, J1.out.mono (by omega), J2.out.mono (by omega), from_nil _, below_put4 HB hle _ _ _ _⟩)
          | false =>
            rw [hr] at cR hfin
            replace hfin : Hid (leafR s = .inl 4) := by show _ = _; rw [hfin.out, if_neg (by simp)]
            clear hr j1 j2 j3 N
            go_wp2_with (go_at_call 11; refine cR.mono ?_; rintro y w1 ⟨rfl, hb⟩; replace b0 := b0.below hb; replace HB := Below.tr HB hb; obtain ⟨⟨r0, r1, r2, r3⟩, g0, g1, g2, g3⟩ := id b0; clear q0 q1 q2 q3 hb)
            refine bodyPost_ret (v := .tuple #[.agg #[.bool false, .slice none 0 0, .slice none 0 0, .slice none 0 0], .int .i64 4]) (by simp [results, Try.results16, go_sem, r0, r1, r2, r3]) rfl (HQ.out _ hfin.out _ _ (answers_none (below_put4 HB hle _ _ _ _)))
        · have hP' : (p != (s.size : Int)) = true := by simpa using hP
          replace hfin : Hid (leafR s = .inl 4) := by show _ = _; rw [hfin.out, if_neg (fun h => hP h.1)]
          obtain ⟨⟨r0, r1, r2, r3⟩, g0, g1, g2, g3⟩ := id b0
          clear j1 j2 j3 N cR hP
          go_wp2
          refine bodyPost_ret (v := .tuple #[.agg #[.bool false, .slice none 0 0, .slice none 0 0, .slice none 0 0], .int .i64 4]) (by simp [results, Try.results16, go_sem, r0, r1, r2, r3]) rfl (HQ.out _ hfin.out _ _ (answers_none (below_put4 HB hle _ _ _ _)))
  · have hb' : (getE s 0 1 != 0) = true := by simpa using h0
    have eR : getR s 0 1 = 0 := by unfold getR; rw [if_neg h0]
    have HEE : Hid (leafR s = .inl (getE s 0 1)) := by show _ = _; unfold leafR; rw [if_neg h0]
    rw [eR] at cG
    generalize getE s 0 1 = E1 at *
    generalize getT s 0 1 = T1 at *
    obtain ⟨⟨r0, r1, r2, r3⟩, g0, g1, g2, g3⟩ := id b0
    clear eR h0 N0 bn hsz
    go_enter Try.func16, Try.ntmps16
    go_wp2_with (go_at_call 35; rw [← hW]; refine (cG _).mono ?_; rintro y w1 ⟨rfl, rfl⟩)
    rw [← hW]
    clear hW cG
    go_loopw [10] (fun v wr => v = .int .i64 0 ∧ wr = W) (fun _ _ => 0)
    case atStart => exact ⟨rfl, rfl⟩
    case round =>
      obtain ⟨rfl, hwr⟩ := hrel
      subst hwr
      go_wp2
      refine bodyPost_ret (v := .tuple #[.agg #[.bool false, .slice none 0 0, .slice none 0 0, .slice none 0 0], .int .i64 E1]) (by simp [results, Try.results16, go_sem, r0, r1, r2, r3]) rfl (HQ.out _ HEE.out _ _ (answers_none (below_put4 hB0 hle _ _ _ _)))

end Go.Proofs.Ytmhnnfmggdohkaa

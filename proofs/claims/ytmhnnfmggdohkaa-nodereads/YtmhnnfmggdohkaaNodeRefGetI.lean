/-
  The document's own Get of inner nodes.
-/
import Derived.Test.YtmhnnfmggdohkaaNodeRefGet
namespace Go.Proofs.Ytmhnnfmggdohkaa
open Go.RowKit Plain Anylast
set_option linter.unusedVariables false

theorem inn_err {s : ByteArray} {e : Int} {j c : Nat} (h0 : getE s 0 1 = 0) (hc : getR s 0 1 = c) (h : innSt s j = .inl e) (hj : j ≤ c) : innR s = .inl e := by
  obtain ⟨d, rfl⟩ : ∃ d, c = j + d := ⟨c - j, by omega⟩
  unfold innR
  rw [if_pos h0, hc, Int.toNat_natCast, innSt_stuck h d]

theorem inn_end {s : ByteArray} {p : Int} {ks : List ByteArray} {cs : List Int} {c : Nat} (h0 : getE s 0 1 = 0) (hc : getR s 0 1 = c) (h : innSt s c = .inr (p, ks, cs)) : innR s = if getE s p 2 = 0 then (if getT s p 2 = s.size ∧ rightN false ks [] (cs ++ [getR s p 2]) true = true then .inr (false, ks, [], cs ++ [getR s p 2]) else .inl 4) else .inl (getE s p 2) := by
  unfold innR
  rw [if_pos h0, hc, Int.toNat_natCast, h]

set_option maxRecDepth 20000 in
set_option maxHeartbeats 4000000 in
/-- An inner node. -/
theorem refGetInner_any (s : ByteArray) (w : World) (hs : s.size ≤ maxLen) :
    Calls Try.prog 16 #[.int .i64 2, .string s] w fun x w' => Answers w x w' (gN 2 s).1 (gN 2 s).2.1 (gN 2 s).2.2.1 (gN 2 s).2.2.2 (gE 2 s) := by
  obtain ⟨Q, hQ⟩ : ∃ Q : Ending → World → Prop, Q = fun x w' => Answers w x w' (gN 2 s).1 (gN 2 s).2.1 (gN 2 s).2.2.1 (gN 2 s).2.2.2 (gE 2 s) := ⟨_, rfl⟩
  have hN : nodeR 2 s = innR s := by unfold nodeR; rw [if_neg (by decide), if_pos rfl]
  have HQ : Hid (∀ e, innR s = .inl e → ∀ x w', Answers w x w' false [] [] [] e → Q x w') := fun e h x w' ha => by
    obtain ⟨g1, g2⟩ := g_inl (hN.trans h)
    rw [hQ, g1, g2]; exact ha
  have HQ2 : Hid (∀ y, innR s = .inr y → ∀ x w', Answers w x w' y.1 y.2.1 y.2.2.1 y.2.2.2 0 → Q x w') := fun y h x w' ha => by
    obtain ⟨g1, g2⟩ := g_inr (hN.trans h)
    rw [hQ, g1, g2]; exact ha
  rw [← hQ]
  clear hQ hN
  obtain ⟨W, hW, b0, bn, hB0, hsz⟩ := node_two w 25 false (.slice none 0 0)
  have N0 : NodeAt W (w.heap.size + 1) (w.heap.size + 2) false (.slice none 0 0) (.slice none 0 0) (.slice none 0 0) [] [] [] := nodeAt_new bn (by omega)
  have hle : w.heap.size ≤ w.heap.size := Nat.le_refl _
  have cG := fun V => refGet_any s 0 1 V hs
  by_cases h0 : getE s 0 1 = 0
  · obtain ⟨e1, e2, e3⟩ := rn_one h0
    obtain ⟨c, hc, hc2⟩ := rn_count s
    rw [e3] at hc
    have eT : getT s 0 1 = 1 := by
      have h' : getE s ((0 : Nat) : Int) ((1 : Nat) : Int) = 0 := h0
      exact (get_num h').2.1
    rw [hc, eT, h0] at cG
    have HE : Hid (∀ e j, innSt s j = .inl e → j ≤ c → innR s = .inl e) := fun e j h hj => inn_err h0 hc h hj
    have HF : Hid (∀ p ks cs, innSt s c = .inr (p, ks, cs) → innR s = if getE s p 2 = 0 then (if getT s p 2 = s.size ∧ rightN false ks [] (cs ++ [getR s p 2]) true = true then .inr (false, ks, [], cs ++ [getR s p 2]) else .inl 4) else .inl (getE s p 2)) := fun p ks cs h => inn_end h0 hc h
    have HS : Hid (s.size ≤ maxLen) := hs
    have hm : s.size ≤ 9223372036854775807 := hs
    clear e1 e2 e3 hc eT h0 hs bn hsz
    go_enter Try.func16, Try.ntmps16
    go_wp2_with (go_at_call 35; rw [← hW]; refine (cG _).mono ?_; rintro y w1 ⟨rfl, rfl⟩)
    rw [← hW]
    clear hW cG
    go_loopw [8, 10] (fun v8 v10 wr => ∃ (j : Nat) (p : Int) (u1 u3 : Value) (xs : List ByteArray) (zs : List Int), j ≤ c ∧ v10 = .int .i64 j ∧ v8 = .int .i64 p ∧ innSt s j = .inr (p, xs, zs) ∧ NodeAt wr (w.heap.size + 1) (w.heap.size + 2) false u1 (.slice none 0 0) u3 xs [] zs ∧ (∀ x ∈ xs, x.size ≤ s.size) ∧ Box4 wr w.heap.size (.bool false) (.slice none 0 0) (.slice none 0 0) (.slice none 0 0) ∧ Below w.heap.size w wr) (fun _ v10 _ => c - (intOf v10).toNat)
    case atStart => exact ⟨0, 1, _, _, [], [], by omega, rfl, rfl, rfl, N0, fun x h => (by cases h), b0, hB0⟩
    case round =>
      clear N0 b0 hB0
      obtain ⟨j, p, u1, u3, xs, zs, hj, rfl, rfl, hst, N, sx, b0, HB⟩ := hrel
      obtain ⟨l1, l2⟩ := innSt_length hst
      have cC1 := fun V => refGet_any s p 2 V HS.out
      obtain ⟨k1, hk1⟩ : ∃ x, x = getR s p 2 := ⟨_, rfl⟩
      obtain ⟨p1, hp1⟩ : ∃ x, x = getT s p 2 := ⟨_, rfl⟩
      obtain ⟨E1, hE1⟩ : ∃ x, x = getE s p 2 := ⟨_, rfl⟩
      rw [← hk1, ← hp1, ← hE1] at cC1
      obtain ⟨⟨r0, r1, r2, r3⟩, g0, g1, g2, g3⟩ := id b0
      obtain ⟨ga, cap, V3, hrun1, b3, N4, T4⟩ := N.push3 k1 (by omega)
      obtain ⟨V4, hV4⟩ : ∃ V, V = V3.setCell ⟨w.heap.size + 1, 3, none⟩ (.slice (some ⟨ga, 0, none⟩) (zs.length + 1) cap) := ⟨_, rfl⟩
      rw [← hV4] at N4 T4
      have HB4 : Below w.heap.size w V4 := Below.turns HB T4 (fun k hk => by rcases hk with h | h <;> omega)
      have b04 := b0.turns T4 (by rintro (h | h) <;> omega)
      obtain ⟨⟨q0, q1, q2, q3⟩, -⟩ := N.box
      have Q3 := fun o => cell_alloc q3 o
      obtain ⟨⟨q03, q13, q23, q33⟩, f0, f1, f2, f3⟩ := id b3
      have HV4 : Hid (V4 = V3.setCell ⟨w.heap.size + 1, 3, none⟩ (.slice (some ⟨ga, 0, none⟩) (zs.length + 1) cap)) := hV4
      by_cases hlt : j < c
      · have hlt' : (j : Int) < c := by omega
        have hst' : innSt s (j + 1) = if E1 = 0 then (if cutE s p1 = 0 then .inr (cutT s p1, xs ++ [cutS s p1], zs ++ [k1]) else .inl (cutE s p1)) else .inl E1 := by
          rw [innSt, hst, hk1, hp1, hE1]
        by_cases z1 : E1 = 0
        · subst z1
          rw [if_pos rfl] at hst'
          have cC2 := fun V => refCut_any s p1 V HS.out
          obtain ⟨k2, hk2⟩ : ∃ x, x = cutS s p1 := ⟨_, rfl⟩
          obtain ⟨p2, hp2⟩ : ∃ x, x = cutT s p1 := ⟨_, rfl⟩
          obtain ⟨E2, hE2⟩ : ∃ x, x = cutE s p1 := ⟨_, rfl⟩
          rw [← hk2, ← hp2, ← hE2] at cC2 hst'
          have sk2 : k2.size ≤ s.size := by rw [hk2]; exact cutS_size s p1
          have HST : Hid (innSt s (j + 1) = if E2 = 0 then .inr (p2, xs ++ [k2], zs ++ [k1]) else .inl E2) := hst'
          have SX : Hid (∀ x ∈ xs ++ [k2], x.size ≤ s.size) := fun x hx => by
            rcases List.mem_append.1 hx with h | h
            · exact sx x h
            · obtain rfl : x = k2 := by simpa using h
              exact sk2
          obtain ⟨⟨s0, s1, s2, s3⟩, -⟩ := N4.box
          have S1 := fun o => cell_alloc s1 o
          by_cases z2 : E2 = 0
          · subst z2
            obtain ⟨gb, cap2, U3, hrun2, b5, N8, T8⟩ := N4.push1 k2 (by omega)
            obtain ⟨U4, hU4⟩ : ∃ V, V = U3.setCell ⟨w.heap.size + 1, 1, none⟩ (.slice (some ⟨gb, 0, none⟩) (xs.length + 1) cap2) := ⟨_, rfl⟩
            rw [← hU4] at N8 T8
            have NH : Hid (NodeAt U4 (w.heap.size + 1) (w.heap.size + 2) false (.slice (some ⟨gb, 0, none⟩) (xs.length + 1) cap2) (.slice none 0 0) (.slice (some ⟨ga, 0, none⟩) (zs.length + 1) cap) (xs ++ [k2]) [] (zs ++ [k1])) := N8
            have BH : Hid (Box4 U4 w.heap.size (.bool false) (.slice none 0 0) (.slice none 0 0) (.slice none 0 0) ∧ Below w.heap.size w U4) := ⟨b04.turns T8 (by rintro (h | h) <;> omega), Below.turns HB4 T8 (fun k hk => by rcases hk with h | h <;> omega)⟩
            obtain ⟨⟨q05, q15, q25, q35⟩, h0, h1, h2, h3⟩ := id b5
            have HU4 : Hid (U4 = U3.setCell ⟨w.heap.size + 1, 1, none⟩ (.slice (some ⟨gb, 0, none⟩) (xs.length + 1) cap2)) := hU4
            have t1 : True := trivial
            clear hk1 hp1 hE1 hk2 hp2 hE2 hst hst' l1 l2 hV4 hU4 N N4 N8 T4 T8 b3 b5 sx sk2 b0 b04 HB4
            go_wp2_with (first
              | (go_at_call 35; refine (cC1 _).mono ?_; rintro y w1 ⟨rfl, rfl⟩)
              | (at_builtin; have _t := t1; refine Lib.wpList_append_run _ rfl _ _ _ _ rfl _ _ rfl rfl _ _ hrun1 ?_; clear t1 _t)
              | (go_at_call 36; rw [← HV4.out]; refine (cC2 _).mono ?_; rintro y w1 ⟨rfl, rfl⟩)
              | (at_builtin; refine Lib.wpList_append_run _ rfl _ _ _ _ rfl _ _ rfl rfl _ _ hrun2 ?_))
            go_roundw
            case rel => exact ⟨j + 1, p2, .slice (some ⟨gb, 0, none⟩) (xs.length + 1) cap2, .slice (some ⟨ga, 0, none⟩) (zs.length + 1) cap, xs ++ [k2], zs ++ [k1], by omega, by go_num, rfl, by rw [HST.out]; simp, by rw [← HU4.out]; exact NH.out, SX.out, by rw [← HU4.out]; exact BH.out.1, by rw [← HU4.out]; exact BH.out.2⟩
            case measure => simp [intOf]; omega
          · have z2' : (E2 != 0) = true := by simpa using z2
            have HEE : Hid (innR s = .inl E2) := HE.out E2 (j + 1) (by rw [HST.out, if_neg z2]) (by omega)
            have t1 : True := trivial
            clear r0 r1 r2 r3 g0 g1 g2 g3
            obtain ⟨⟨r0, r1, r2, r3⟩, g0, g1, g2, g3⟩ := id b04
            clear hk1 hp1 hE1 hk2 hp2 hE2 hst hst' l1 l2 hV4 N N4 T4 b3 sx sk2 b0 b04 HB z2
            go_wp2_with (first
              | (go_at_call 35; refine (cC1 _).mono ?_; rintro y w1 ⟨rfl, rfl⟩)
              | (at_builtin; refine Lib.wpList_append_run _ rfl _ _ _ _ rfl _ _ rfl rfl _ _ hrun1 ?_)
              | (go_at_call 36; rw [← HV4.out]; refine (cC2 _).mono ?_; rintro y w1 ⟨rfl, rfl⟩))
            refine bodyPost_ret (v := .tuple #[.agg #[.bool false, .slice none 0 0, .slice none 0 0, .slice none 0 0], .int .i64 E2]) (by simp [results, Try.results16, go_sem, r0, r1, r2, r3]) rfl (HQ.out _ HEE.out _ _ (answers_none (below_put4 HB4 hle _ _ _ _)))
        · have z1' : (E1 != 0) = true := by simpa using z1
          have HEE : Hid (innR s = .inl E1) := HE.out E1 (j + 1) (by rw [hst', if_neg z1]) (by omega)
          clear hk1 hp1 hE1 hst hst' l1 l2 N sx b0 z1 N4 T4 b04 HB4 b3 hV4
          go_wp2_with (go_at_call 35; refine (cC1 _).mono ?_; rintro y w1 ⟨rfl, rfl⟩)
          refine bodyPost_ret (v := .tuple #[.agg #[.bool false, .slice none 0 0, .slice none 0 0, .slice none 0 0], .int .i64 E1]) (by simp [results, Try.results16, go_sem, r0, r1, r2, r3]) rfl (HQ.out _ HEE.out _ _ (answers_none (below_put4 HB hle _ _ _ _)))
      · obtain rfl : j = c := by omega
        have hfin : Hid (innR s = if E1 = 0 then (if p1 = s.size ∧ rightN false xs [] (zs ++ [k1]) true = true then .inr (false, xs, [], zs ++ [k1]) else .inl 4) else .inl E1) := by show _ = _; rw [hk1, hp1, hE1]; exact HF.out p xs zs hst
        have X1 : Hid (∀ x ∈ xs, x.size ≤ maxLen) := fun x hx => Nat.le_trans (sx x hx) HS.out
        obtain ⟨a, d, a', d', a'', d'', rfl, e2, e3, i1, i2, i3, j1, j2, j3⟩ := N4.rows X1.out (fun x hx => by cases hx)
        have e3' : a'' = some ⟨ga, 0, none⟩ ∧ d'' = cap := by simp at e3; exact ⟨e3.1.symm, e3.2.symm⟩
        obtain ⟨rfl, rfl⟩ := e3'
        have NH : Hid (NodeAt V4 (w.heap.size + 1) (w.heap.size + 2) false (.slice a xs.length d) (.slice none 0 0) (.slice (some ⟨ga, 0, none⟩) (zs.length + 1) d'') xs [] (zs ++ [k1])) := N4
        clear r0 r1 r2 r3 g0 g1 g2 g3
        obtain ⟨⟨r0, r1, r2, r3⟩, g0, g1, g2, g3⟩ := id b04
        obtain ⟨⟨s0, s1, s2, s3⟩, -⟩ := N4.box
        have cR : Calls Try.prog 11 #[.agg #[.bool false, .slice a xs.length d, .slice none 0 0, .slice (some ⟨ga, 0, none⟩) (zs.length + 1) d''], .bool true] V4 fun e w' => e = .returned (.bool (rightN false xs [] (zs ++ [k1]) true)) ∧ Below V4.heap.size V4 w' := refNodeRight_any false a none (some ⟨ga, 0, none⟩) d 0 d'' _ 0 _ xs [] (zs ++ [k1]) true V4 rfl rfl (by simp) i1 (isS_nil _) i3
        have raw : Box4 (V3.setCell ⟨w.heap.size + 1, 3, none⟩ (.slice (some ⟨ga, 0, none⟩) (zs.length + 1) d'')) (w.heap.size + 1) (.bool false) (.slice a xs.length d) (.slice none 0 0) (.slice (some ⟨ga, 0, none⟩) (zs.length + 1) d'') := by rw [← HV4.out]; exact N4.box
        have rawb : Box4 (V3.setCell ⟨w.heap.size + 1, 3, none⟩ (.slice (some ⟨ga, 0, none⟩) (zs.length + 1) d'')) w.heap.size (.bool false) (.slice none 0 0) (.slice none 0 0) (.slice none 0 0) := by rw [← HV4.out]; exact b04
        have rawB : Below w.heap.size w (V3.setCell ⟨w.heap.size + 1, 3, none⟩ (.slice (some ⟨ga, 0, none⟩) (zs.length + 1) d'')) := by rw [← HV4.out]; exact HB4
        obtain ⟨⟨x0, x1, x2, x3⟩, -⟩ := raw
        clear l1 l2 hst sx e2 e3 i1 i2 i3 hk1 hp1 hE1 hV4
        by_cases z1 : E1 = 0
        · subst z1
          by_cases hP : p1 = s.size
          · subst hP
            cases hr : rightN false xs [] (zs ++ [k1]) true with
            | true =>
              rw [hr] at cR hfin
              replace hfin : Hid (innR s = .inr (false, xs, [], zs ++ [k1])) := by show _ = _; rw [hfin.out, if_pos rfl, if_pos ⟨rfl, rfl⟩]
              clear hr
              have J1 : Hid (From (w.heap.size + 2) a) := j1
              have J3 : Hid (From (w.heap.size + 2) (some ⟨ga, 0, none⟩)) := j3
              clear j1 j2 j3 N N4 T4 b3 b0
              go_wp2_with (first
                | (go_at_call 35; refine (cC1 _).mono ?_; rintro y w1 ⟨rfl, rfl⟩)
                | (at_builtin; refine Lib.wpList_append_run _ rfl _ _ _ _ rfl _ _ rfl rfl _ _ hrun1 ?_)
                | (go_at_call 11; (try rw [← HV4.out]); refine cR.mono ?_; rintro y w1 ⟨rfl, hb⟩; have NH1 : Hid (NodeAt w1 (w.heap.size + 1) (w.heap.size + 2) false (.slice a xs.length d) (.slice none 0 0) (.slice (some ⟨ga, 0, none⟩) (zs.length + 1) d'') xs [] (zs ++ [k1])) := NH.out.below hb; replace b04 := b04.below hb; replace HB4 := Below.tr HB4 hb; clear r0 r1 r2 r3 g0 g1 g2 g3; obtain ⟨⟨r0, r1, r2, r3⟩, g0, g1, g2, g3⟩ := id b04; clear s0 s1 s2 s3; obtain ⟨⟨s0, s1, s2, s3⟩, -⟩ := NH1.out.box; clear hb))
              have N4 := (((NH1.out.other (k := w.heap.size) (by omega) (by omega) 0 (.bool false)).other (k := w.heap.size) (by omega) (by omega) 1 (.slice a xs.length d)).other (k := w.heap.size) (by omega) (by omega) 2 (.slice none 0 0)).other (k := w.heap.size) (by omega) (by omega) 3 (.slice (some ⟨ga, 0, none⟩) (zs.length + 1) d'')
              obtain ⟨a1, d1, a1', d1', a1'', d1'', e1, e2, e3, i1, i2, i3, -, -, -⟩ := N4.rows X1.out (fun x hx => by cases hx)
              cases e1
              have e3' : a1'' = some ⟨ga, 0, none⟩ ∧ d1'' = d'' := by simp at e3; exact ⟨e3.1.symm, e3.2.symm⟩
              obtain ⟨rfl, rfl⟩ := e3'
              exact bodyPost_ret (v := .tuple #[.agg #[.bool false, .slice a xs.length d, .slice none 0 0, .slice (some ⟨ga, 0, none⟩) (zs.length + 1) d1''], .int .i64 0]) (by simp [results, Try.results16, go_sem, r0, r1, r2, r3]) rfl (HQ2.out _ hfin.out _ _ ⟨_, a, d, 0, none, 0, zs.length + 1, some ⟨ga, 0, none⟩, d1'', rfl, rfl, rfl, by simp, i1, isS_nil _, i3, J1.out.mono (by omega), from_nil _, J3.out.mono (by omega), below_put4 HB4 hle _ _ _ _⟩)
            | false =>
              rw [hr] at cR hfin
              replace hfin : Hid (innR s = .inl 4) := by show _ = _; rw [hfin.out, if_pos rfl, if_neg (by simp)]
              clear hr j1 j2 j3 N N4 T4 b3 b0
              go_wp2_with (first
                | (go_at_call 35; refine (cC1 _).mono ?_; rintro y w1 ⟨rfl, rfl⟩)
                | (at_builtin; refine Lib.wpList_append_run _ rfl _ _ _ _ rfl _ _ rfl rfl _ _ hrun1 ?_)
                | (go_at_call 11; (try rw [← HV4.out]); refine cR.mono ?_; rintro y w1 ⟨rfl, hb⟩; replace b04 := b04.below hb; replace HB4 := Below.tr HB4 hb; clear r0 r1 r2 r3 g0 g1 g2 g3; obtain ⟨⟨r0, r1, r2, r3⟩, g0, g1, g2, g3⟩ := id b04; clear hb))
              refine bodyPost_ret (v := .tuple #[.agg #[.bool false, .slice none 0 0, .slice none 0 0, .slice none 0 0], .int .i64 4]) (by simp [results, Try.results16, go_sem, r0, r1, r2, r3]) rfl (HQ.out _ hfin.out _ _ (answers_none (below_put4 HB4 hle _ _ _ _)))
          · have hP' : (p1 != (s.size : Int)) = true := by simpa using hP
            replace hfin : Hid (innR s = .inl 4) := by show _ = _; rw [hfin.out, if_pos rfl, if_neg (fun h => hP h.1)]
            clear r0 r1 r2 r3 g0 g1 g2 g3
            obtain ⟨⟨r0, r1, r2, r3⟩, g0, g1, g2, g3⟩ := id rawb
            clear j1 j2 j3 N N4 T4 b3 b0 cR hP
            go_wp2_with (first
              | (go_at_call 35; refine (cC1 _).mono ?_; rintro y w1 ⟨rfl, rfl⟩)
              | (at_builtin; refine Lib.wpList_append_run _ rfl _ _ _ _ rfl _ _ rfl rfl _ _ hrun1 ?_))
            refine bodyPost_ret (v := .tuple #[.agg #[.bool false, .slice none 0 0, .slice none 0 0, .slice none 0 0], .int .i64 4]) (by simp [results, Try.results16, go_sem, r0, r1, r2, r3]) rfl (HQ.out _ hfin.out _ _ (answers_none (below_put4 rawB hle _ _ _ _)))
        · have z1' : (E1 != 0) = true := by simpa using z1
          replace hfin : Hid (innR s = .inl E1) := by show _ = _; rw [hfin.out, if_neg z1]
          clear r0 r1 r2 r3 g0 g1 g2 g3
          obtain ⟨⟨r0, r1, r2, r3⟩, g0, g1, g2, g3⟩ := id rawb
          clear j1 j2 j3 N N4 T4 b3 b0 cR z1
          go_wp2_with (first
            | (go_at_call 35; refine (cC1 _).mono ?_; rintro y w1 ⟨rfl, rfl⟩)
            | (at_builtin; refine Lib.wpList_append_run _ rfl _ _ _ _ rfl _ _ rfl rfl _ _ hrun1 ?_))
          refine bodyPost_ret (v := .tuple #[.agg #[.bool false, .slice none 0 0, .slice none 0 0, .slice none 0 0], .int .i64 E1]) (by simp [results, Try.results16, go_sem, r0, r1, r2, r3]) rfl (HQ.out _ hfin.out _ _ (answers_none (below_put4 rawB hle _ _ _ _)))
  · have hb' : (getE s 0 1 != 0) = true := by simpa using h0
    have eR : getR s 0 1 = 0 := by unfold getR; rw [if_neg h0]
    have HEE : Hid (innR s = .inl (getE s 0 1)) := by show _ = _; unfold innR; rw [if_neg h0]
    rw [eR] at cG
    generalize getE s 0 1 = E1 at *
    generalize getT s 0 1 = T1 at *
    obtain ⟨⟨r0, r1, r2, r3⟩, g0, g1, g2, g3⟩ := id b0
    clear eR h0 N0 bn hsz
    go_enter Try.func16, Try.ntmps16
    go_wp2_with (go_at_call 35; rw [← hW]; refine (cG _).mono ?_; rintro y w1 ⟨rfl, rfl⟩)
    rw [← hW]
    clear hW cG
    go_loopw [10] (fun v wr => v = .int .i64 0 ∧ wr = W) (fun _ _ => 0)
    case atStart => exact ⟨rfl, rfl⟩
    case round =>
      obtain ⟨rfl, hwr⟩ := hrel
      subst hwr
      go_wp2
      refine bodyPost_ret (v := .tuple #[.agg #[.bool false, .slice none 0 0, .slice none 0 0, .slice none 0 0], .int .i64 E1]) (by simp [results, Try.results16, go_sem, r0, r1, r2, r3]) rfl (HQ.out _ HEE.out _ _ (answers_none (below_put4 hB0 hle _ _ _ _)))

set_option maxHeartbeats 1000000 in
theorem refGetKind_any (kind : Int) (s : ByteArray) (w : World) (h1 : kind ≠ 1) (h2 : kind ≠ 2) :
    Calls Try.prog 16 #[.int .i64 kind, .string s] w fun x w' => Answers w x w' false [] [] [] 81 := by
  have k1 : (kind != 1) = true := by simpa using h1
  have k2 : (kind != 2) = true := by simpa using h2
  have b0 := box4_new w (.bool false) (.slice none 0 0) (.slice none 0 0) (.slice none 0 0) 25 rfl
  have hB0 : Below w.heap.size w (w.alloc (.cells #[.bool false, .slice none 0 0, .slice none 0 0, .slice none 0 0] 25)) := (Below.refl _ _).alloc (Nat.le_refl _) _
  obtain ⟨⟨z0, z1, z2, z3⟩, y0, y1, y2, y3⟩ := id b0
  go_enter Try.func16, Try.ntmps16
  go_wp2
  exact bodyPost_ret (v := .tuple #[.agg #[.bool false, .slice none 0 0, .slice none 0 0, .slice none 0 0], .int .i64 81]) (by simp [results, Try.results16, go_sem, z0, z1, z2, z3]) rfl (answers_none hB0)

/-- THE DOCUMENT'S GET, at all kinds and texts. -/
theorem refNodeGet_any (kind : Int) (s : ByteArray) (w : World) (hs : s.size ≤ maxLen) :
    Calls Try.prog 16 #[.int .i64 kind, .string s] w fun x w' => Answers w x w' (gN kind s).1 (gN kind s).2.1 (gN kind s).2.2.1 (gN kind s).2.2.2 (gE kind s) := by
  by_cases h1 : kind = 1
  · subst h1; exact refGetLeaf_any s w hs
  · by_cases h2 : kind = 2
    · subst h2; exact refGetInner_any s w hs
    · have hR : nodeR kind s = .inl 81 := by unfold nodeR; rw [if_neg h1, if_neg h2]
      obtain ⟨g1, g2⟩ := g_inl hR
      rw [g1, g2]
      exact refGetKind_any kind s w h1 h2

end Go.Proofs.Ytmhnnfmggdohkaa

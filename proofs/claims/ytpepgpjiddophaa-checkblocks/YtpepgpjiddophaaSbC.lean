/-
  Texts laid together: NodeRefGetI BitsMem BitsBytes BitsRef BitsFind BitsWith BitsOnes AllocMem Anyheld AllocRight Anyorder AllocFree AllocNew AllocDo AllocRef LookHolds LookRef LookOwn LookLaw NodeLike NodeIn LookRightsOf PageWant LookLoad CheckStep CheckMem CheckThrough CheckOwn CheckTree.
-/
import Derived.Test.YtpepgpjiddophaaSbB
import Derived.Test.YtpepgpjiddophaaSbA
import Derived.Deep.Grids
import Derived.Laws.BitsAllLaws
import Derived.BigQuiet
import Derived.Lib.AppendZeros
import Derived.Test.YtpepgpjiddophaaRows
import Derived.Deep.RegionHeld3
import Derived.Orders
import Derived.WalkKit
import Derived.Below
import Derived.Maps.RangeWalk
namespace Go.Proofs.Ytpepgpjiddophaa
open Go.RowKit Plain Anylast
set_option linter.unusedVariables false
theorem inn_err {s : ByteArray} {e : Int} {j c : Nat} (h0 : getE s 0 1 = 0) (hc : getR s 0 1 = c) (h : innSt s j = .inl e) (hj : j ≤ c) : innR s = .inl e := by
 obtain ⟨d, rfl⟩ : ∃ d, c = j + d := ⟨c - j, by omega⟩
 unfold innR
 rw [if_pos h0, hc, Int.toNat_natCast, innSt_stuck h d]
theorem inn_end {s : ByteArray} {p : Int} {ks : List ByteArray} {cs : List Int} {c : Nat} (h0 : getE s 0 1 = 0) (hc : getR s 0 1 = c) (h : innSt s c = .inr (p, ks, cs)) : innR s = if getE s p 2 = 0 then (if getT s p 2 = s.size ∧ rightN false ks [] (cs ++ [getR s p 2]) true = true then .inr (false, ks, [], cs ++ [getR s p 2]) else .inl 4) else .inl (getE s p 2) := by
 unfold innR
 rw [if_pos h0, hc, Int.toNat_natCast, h]
set_option maxRecDepth 20000 in
set_option maxHeartbeats 4000000 in
theorem refGetInner_any (s : ByteArray) (w : World) (hs : s.size ≤ maxLen) :
  Calls Try.prog 35 #[.int .i64 2, .string s] w fun x w' => Answers w x w' (gN 2 s).1 (gN 2 s).2.1 (gN 2 s).2.2.1 (gN 2 s).2.2.2 (gE 2 s) := by
 obtain ⟨Q, hQ⟩ : ∃ Q : Ending → World → Prop, Q = fun x w' => Answers w x w' (gN 2 s).1 (gN 2 s).2.1 (gN 2 s).2.2.1 (gN 2 s).2.2.2 (gE 2 s) := ⟨_, rfl⟩
 have hN : nodeR 2 s = innR s := by unfold nodeR; rw [if_neg (by decide), if_pos rfl]
 have HQ : Hid (∀ e, innR s = .inl e → ∀ x w', Answers w x w' false [] [] [] e → Q x w') := fun e h x w' ha => by
  obtain ⟨g1, g2⟩ := g_inl (hN.trans h)
  rw [hQ, g1, g2]; exact ha
 have HQ2 : Hid (∀ y, innR s = .inr y → ∀ x w', Answers w x w' y.1 y.2.1 y.2.2.1 y.2.2.2 0 → Q x w') := fun y h x w' ha => by
  obtain ⟨g1, g2⟩ := g_inr (hN.trans h)
  rw [hQ, g1, g2]; exact ha
 rw [← hQ]
 clear hQ hN
 obtain ⟨W, hW, b0, bn, hB0, hsz⟩ := node_two w 62 false (.slice none 0 0)
 have N0 : NodeAt W (w.heap.size + 1) (w.heap.size + 2) false (.slice none 0 0) (.slice none 0 0) (.slice none 0 0) [] [] [] := nodeAt_new bn (by omega)
 have hle : w.heap.size ≤ w.heap.size := Nat.le_refl _
 have cG := fun V => refGet_any s 0 1 V hs
 by_cases h0 : getE s 0 1 = 0
 ·
  obtain ⟨e1, e2, e3⟩ := rn_one h0
  obtain ⟨c, hc, hc2⟩ := rn_count s
  rw [e3] at hc
  have eT : getT s 0 1 = 1 := by
   have h' : getE s ((0 : Nat) : Int) ((1 : Nat) : Int) = 0 := h0
   exact (get_num h').2.1
  rw [hc, eT, h0] at cG
  have HE : Hid (∀ e j, innSt s j = .inl e → j ≤ c → innR s = .inl e) := fun e j h hj => inn_err h0 hc h hj
  have HF : Hid (∀ p ks cs, innSt s c = .inr (p, ks, cs) → innR s = if getE s p 2 = 0 then (if getT s p 2 = s.size ∧ rightN false ks [] (cs ++ [getR s p 2]) true = true then .inr (false, ks, [], cs ++ [getR s p 2]) else .inl 4) else .inl (getE s p 2)) := fun p ks cs h => inn_end h0 hc h
  have HS : Hid (s.size ≤ maxLen) := hs
  have hm : s.size ≤ 9223372036854775807 := hs
  clear e1 e2 e3 hc eT h0 hs bn hsz
  go_enter Try.func35, Try.ntmps35
  go_wp2_with (go_at_call 44; rw [← hW]; refine (cG _).mono ?_; rintro y w1 ⟨rfl, rfl⟩)
  rw [← hW]
  clear hW cG
  go_loopw [8, 10] (fun v8 v10 wr => ∃ (j : Nat) (p : Int) (u1 u3 : Value) (xs : List ByteArray) (zs : List Int), j ≤ c ∧ v10 = .int .i64 j ∧ v8 = .int .i64 p ∧ innSt s j = .inr (p, xs, zs) ∧ NodeAt wr (w.heap.size + 1) (w.heap.size + 2) false u1 (.slice none 0 0) u3 xs [] zs ∧ (∀ x ∈ xs, x.size ≤ s.size) ∧ Box4 wr w.heap.size (.bool false) (.slice none 0 0) (.slice none 0 0) (.slice none 0 0) ∧ Below w.heap.size w wr) (fun _ v10 _ => c - (intOf v10).toNat)
  case atStart => exact ⟨0, 1, _, _, [], [], by omega, rfl, rfl, rfl, N0, fun x h => (by cases h), b0, hB0⟩
  case round =>
   clear N0 b0 hB0
   obtain ⟨j, p, u1, u3, xs, zs, hj, rfl, rfl, hst, N, sx, b0, HB⟩ := hrel
   obtain ⟨l1, l2⟩ := innSt_length hst
   have cC1 := fun V => refGet_any s p 2 V HS.out
   obtain ⟨k1, hk1⟩ : ∃ x, x = getR s p 2 := ⟨_, rfl⟩
   obtain ⟨p1, hp1⟩ : ∃ x, x = getT s p 2 := ⟨_, rfl⟩
   obtain ⟨E1, hE1⟩ : ∃ x, x = getE s p 2 := ⟨_, rfl⟩
   rw [← hk1, ← hp1, ← hE1] at cC1
   obtain ⟨⟨r0, r1, r2, r3⟩, g0, g1, g2, g3⟩ := id b0
   obtain ⟨ga, cap, V3, hrun1, b3, N4, T4⟩ := N.push3 k1 (by omega)
   obtain ⟨V4, hV4⟩ : ∃ V, V = V3.setCell ⟨w.heap.size + 1, 3, none⟩ (.slice (some ⟨ga, 0, none⟩) (zs.length + 1) cap) := ⟨_, rfl⟩
   rw [← hV4] at N4 T4
   have HB4 : Below w.heap.size w V4 := Below.turns HB T4 (fun k hk => by rcases hk with h | h <;> omega)
   have b04 := b0.turns T4 (by rintro (h | h) <;> omega)
   obtain ⟨⟨q0, q1, q2, q3⟩, -⟩ := N.box
   have Q3 := fun o => cell_alloc q3 o
   obtain ⟨⟨q03, q13, q23, q33⟩, f0, f1, f2, f3⟩ := id b3
   have HV4 : Hid (V4 = V3.setCell ⟨w.heap.size + 1, 3, none⟩ (.slice (some ⟨ga, 0, none⟩) (zs.length + 1) cap)) := hV4
   by_cases hlt : j < c
   ·
    have hlt' : (j : Int) < c := by omega
    have hst' : innSt s (j + 1) = if E1 = 0 then (if cutE s p1 = 0 then .inr (cutT s p1, xs ++ [cutS s p1], zs ++ [k1]) else .inl (cutE s p1)) else .inl E1 := by
     rw [innSt, hst, hk1, hp1, hE1]
    by_cases z1 : E1 = 0
    ·
     subst z1
     rw [if_pos rfl] at hst'
     have cC2 := fun V => refCut_any s p1 V HS.out
     obtain ⟨k2, hk2⟩ : ∃ x, x = cutS s p1 := ⟨_, rfl⟩
     obtain ⟨p2, hp2⟩ : ∃ x, x = cutT s p1 := ⟨_, rfl⟩
     obtain ⟨E2, hE2⟩ : ∃ x, x = cutE s p1 := ⟨_, rfl⟩
     rw [← hk2, ← hp2, ← hE2] at cC2 hst'
     have sk2 : k2.size ≤ s.size := by rw [hk2]; exact cutS_size s p1
     have HST : Hid (innSt s (j + 1) = if E2 = 0 then .inr (p2, xs ++ [k2], zs ++ [k1]) else .inl E2) := hst'
     have SX : Hid (∀ x ∈ xs ++ [k2], x.size ≤ s.size) := fun x hx => by
      rcases List.mem_append.1 hx with h | h
      ·
       exact sx x h
      ·
       obtain rfl : x = k2 := by simpa using h
       exact sk2
     obtain ⟨⟨s0, s1, s2, s3⟩, -⟩ := N4.box
     have S1 := fun o => cell_alloc s1 o
     by_cases z2 : E2 = 0
     ·
      subst z2
      obtain ⟨gb, cap2, U3, hrun2, b5, N8, T8⟩ := N4.push1 k2 (by omega)
      obtain ⟨U4, hU4⟩ : ∃ V, V = U3.setCell ⟨w.heap.size + 1, 1, none⟩ (.slice (some ⟨gb, 0, none⟩) (xs.length + 1) cap2) := ⟨_, rfl⟩
      rw [← hU4] at N8 T8
      have NH : Hid (NodeAt U4 (w.heap.size + 1) (w.heap.size + 2) false (.slice (some ⟨gb, 0, none⟩) (xs.length + 1) cap2) (.slice none 0 0) (.slice (some ⟨ga, 0, none⟩) (zs.length + 1) cap) (xs ++ [k2]) [] (zs ++ [k1])) := N8
      have BH : Hid (Box4 U4 w.heap.size (.bool false) (.slice none 0 0) (.slice none 0 0) (.slice none 0 0) ∧ Below w.heap.size w U4) := ⟨b04.turns T8 (by rintro (h | h) <;> omega), Below.turns HB4 T8 (fun k hk => by rcases hk with h | h <;> omega)⟩
      obtain ⟨⟨q05, q15, q25, q35⟩, h0, h1, h2, h3⟩ := id b5
      have HU4 : Hid (U4 = U3.setCell ⟨w.heap.size + 1, 1, none⟩ (.slice (some ⟨gb, 0, none⟩) (xs.length + 1) cap2)) := hU4
      have t1 : True := trivial
      clear hk1 hp1 hE1 hk2 hp2 hE2 hst hst' l1 l2 hV4 hU4 N N4 N8 T4 T8 b3 b5 sx sk2 b0 b04 HB4
      go_wp2_with (first
       | (go_at_call 44; refine (cC1 _).mono ?_; rintro y w1 ⟨rfl, rfl⟩)
       | (at_builtin; have _t := t1; refine Lib.wpList_append_run _ rfl _ _ _ _ rfl _ _ rfl rfl _ _ hrun1 ?_; clear t1 _t)
       | (go_at_call 47; rw [← HV4.out]; refine (cC2 _).mono ?_; rintro y w1 ⟨rfl, rfl⟩)
       | (at_builtin; refine Lib.wpList_append_run _ rfl _ _ _ _ rfl _ _ rfl rfl _ _ hrun2 ?_))
      go_roundw
      case rel => exact ⟨j + 1, p2, .slice (some ⟨gb, 0, none⟩) (xs.length + 1) cap2, .slice (some ⟨ga, 0, none⟩) (zs.length + 1) cap, xs ++ [k2], zs ++ [k1], by omega, by go_num, rfl, by rw [HST.out]; simp, by rw [← HU4.out]; exact NH.out, SX.out, by rw [← HU4.out]; exact BH.out.1, by rw [← HU4.out]; exact BH.out.2⟩
      case measure => simp [intOf]; omega
     ·
      have z2' : (E2 != 0) = true := by simpa using z2
      have HEE : Hid (innR s = .inl E2) := HE.out E2 (j + 1) (by rw [HST.out, if_neg z2]) (by omega)
      have t1 : True := trivial
      clear r0 r1 r2 r3 g0 g1 g2 g3
      obtain ⟨⟨r0, r1, r2, r3⟩, g0, g1, g2, g3⟩ := id b04
      clear hk1 hp1 hE1 hk2 hp2 hE2 hst hst' l1 l2 hV4 N N4 T4 b3 sx sk2 b0 b04 HB z2
      go_wp2_with (first
       | (go_at_call 44; refine (cC1 _).mono ?_; rintro y w1 ⟨rfl, rfl⟩)
       | (at_builtin; refine Lib.wpList_append_run _ rfl _ _ _ _ rfl _ _ rfl rfl _ _ hrun1 ?_)
       | (go_at_call 47; rw [← HV4.out]; refine (cC2 _).mono ?_; rintro y w1 ⟨rfl, rfl⟩))
      refine bodyPost_ret (v := .tuple #[.agg #[.bool false, .slice none 0 0, .slice none 0 0, .slice none 0 0], .int .i64 E2]) (by simp [results, Try.results35, go_sem, r0, r1, r2, r3]) rfl (HQ.out _ HEE.out _ _ (answers_none (below_put4 HB4 hle _ _ _ _)))
    ·
     have z1' : (E1 != 0) = true := by simpa using z1
     have HEE : Hid (innR s = .inl E1) := HE.out E1 (j + 1) (by rw [hst', if_neg z1]) (by omega)
     clear hk1 hp1 hE1 hst hst' l1 l2 N sx b0 z1 N4 T4 b04 HB4 b3 hV4
     go_wp2_with (go_at_call 44; refine (cC1 _).mono ?_; rintro y w1 ⟨rfl, rfl⟩)
     refine bodyPost_ret (v := .tuple #[.agg #[.bool false, .slice none 0 0, .slice none 0 0, .slice none 0 0], .int .i64 E1]) (by simp [results, Try.results35, go_sem, r0, r1, r2, r3]) rfl (HQ.out _ HEE.out _ _ (answers_none (below_put4 HB hle _ _ _ _)))
   ·
    obtain rfl : j = c := by omega
    have hfin : Hid (innR s = if E1 = 0 then (if p1 = s.size ∧ rightN false xs [] (zs ++ [k1]) true = true then .inr (false, xs, [], zs ++ [k1]) else .inl 4) else .inl E1) := by show _ = _; rw [hk1, hp1, hE1]; exact HF.out p xs zs hst
    have X1 : Hid (∀ x ∈ xs, x.size ≤ maxLen) := fun x hx => Nat.le_trans (sx x hx) HS.out
    obtain ⟨a, d, a', d', a'', d'', rfl, e2, e3, i1, i2, i3, j1, j2, j3⟩ := N4.rows X1.out (fun x hx => by cases hx)
    have e3' : a'' = some ⟨ga, 0, none⟩ ∧ d'' = cap := by simp at e3; exact ⟨e3.1.symm, e3.2.symm⟩
    obtain ⟨rfl, rfl⟩ := e3'
    have NH : Hid (NodeAt V4 (w.heap.size + 1) (w.heap.size + 2) false (.slice a xs.length d) (.slice none 0 0) (.slice (some ⟨ga, 0, none⟩) (zs.length + 1) d'') xs [] (zs ++ [k1])) := N4
    clear r0 r1 r2 r3 g0 g1 g2 g3
    obtain ⟨⟨r0, r1, r2, r3⟩, g0, g1, g2, g3⟩ := id b04
    obtain ⟨⟨s0, s1, s2, s3⟩, -⟩ := N4.box
    have cR : Calls Try.prog 36 #[.agg #[.bool false, .slice a xs.length d, .slice none 0 0, .slice (some ⟨ga, 0, none⟩) (zs.length + 1) d''], .bool true] V4 fun e w' => e = .returned (.bool (rightN false xs [] (zs ++ [k1]) true)) ∧ Below V4.heap.size V4 w' := refNodeRight_any false a none (some ⟨ga, 0, none⟩) d 0 d'' _ 0 _ xs [] (zs ++ [k1]) true V4 rfl rfl (by simp) i1 (isS_nil _) i3
    have raw : Box4 (V3.setCell ⟨w.heap.size + 1, 3, none⟩ (.slice (some ⟨ga, 0, none⟩) (zs.length + 1) d'')) (w.heap.size + 1) (.bool false) (.slice a xs.length d) (.slice none 0 0) (.slice (some ⟨ga, 0, none⟩) (zs.length + 1) d'') := by rw [← HV4.out]; exact N4.box
    have rawb : Box4 (V3.setCell ⟨w.heap.size + 1, 3, none⟩ (.slice (some ⟨ga, 0, none⟩) (zs.length + 1) d'')) w.heap.size (.bool false) (.slice none 0 0) (.slice none 0 0) (.slice none 0 0) := by rw [← HV4.out]; exact b04
    have rawB : Below w.heap.size w (V3.setCell ⟨w.heap.size + 1, 3, none⟩ (.slice (some ⟨ga, 0, none⟩) (zs.length + 1) d'')) := by rw [← HV4.out]; exact HB4
    obtain ⟨⟨x0, x1, x2, x3⟩, -⟩ := raw
    clear l1 l2 hst sx e2 e3 i1 i2 i3 hk1 hp1 hE1 hV4
    by_cases z1 : E1 = 0
    ·
     subst z1
     by_cases hP : p1 = s.size
     ·
      subst hP
      cases hr : rightN false xs [] (zs ++ [k1]) true with
      | true =>
       rw [hr] at cR hfin
       replace hfin : Hid (innR s = .inr (false, xs, [], zs ++ [k1])) := by show _ = _; rw [hfin.out, if_pos rfl, if_pos ⟨rfl, rfl⟩]
       clear hr
       have J1 : Hid (From (w.heap.size + 2) a) := j1
       have J3 : Hid (From (w.heap.size + 2) (some ⟨ga, 0, none⟩)) := j3
       clear j1 j2 j3 N N4 T4 b3 b0
       go_wp2_with (first
        | (go_at_call 44; refine (cC1 _).mono ?_; rintro y w1 ⟨rfl, rfl⟩)
        | (at_builtin; refine Lib.wpList_append_run _ rfl _ _ _ _ rfl _ _ rfl rfl _ _ hrun1 ?_)
        | (go_at_call 36; (try rw [← HV4.out]); refine cR.mono ?_; rintro y w1 ⟨rfl, hb⟩; have NH1 : Hid (NodeAt w1 (w.heap.size + 1) (w.heap.size + 2) false (.slice a xs.length d) (.slice none 0 0) (.slice (some ⟨ga, 0, none⟩) (zs.length + 1) d'') xs [] (zs ++ [k1])) := NH.out.below hb; replace b04 := b04.below hb; replace HB4 := Below.tr HB4 hb; clear r0 r1 r2 r3 g0 g1 g2 g3; obtain ⟨⟨r0, r1, r2, r3⟩, g0, g1, g2, g3⟩ := id b04; clear s0 s1 s2 s3; obtain ⟨⟨s0, s1, s2, s3⟩, -⟩ := NH1.out.box; clear hb))
       have N4 := (((NH1.out.other (k := w.heap.size) (by omega) (by omega) 0 (.bool false)).other (k := w.heap.size) (by omega) (by omega) 1 (.slice a xs.length d)).other (k := w.heap.size) (by omega) (by omega) 2 (.slice none 0 0)).other (k := w.heap.size) (by omega) (by omega) 3 (.slice (some ⟨ga, 0, none⟩) (zs.length + 1) d'')
       obtain ⟨a1, d1, a1', d1', a1'', d1'', e1, e2, e3, i1, i2, i3, -, -, -⟩ := N4.rows X1.out (fun x hx => by cases hx)
       cases e1
       have e3' : a1'' = some ⟨ga, 0, none⟩ ∧ d1'' = d'' := by simp at e3; exact ⟨e3.1.symm, e3.2.symm⟩
       obtain ⟨rfl, rfl⟩ := e3'
       exact bodyPost_ret (v := .tuple #[.agg #[.bool false, .slice a xs.length d, .slice none 0 0, .slice (some ⟨ga, 0, none⟩) (zs.length + 1) d1''], .int .i64 0]) (by simp [results, Try.results35, go_sem, r0, r1, r2, r3]) rfl (HQ2.out _ hfin.out _ _ ⟨_, a, d, 0, none, 0, zs.length + 1, some ⟨ga, 0, none⟩, d1'', rfl, rfl, rfl, by simp, i1, isS_nil _, i3, J1.out.mono (by omega), from_nil _, J3.out.mono (by omega), below_put4 HB4 hle _ _ _ _⟩)
      | false =>
       rw [hr] at cR hfin
       replace hfin : Hid (innR s = .inl 4) := by show _ = _; rw [hfin.out, if_pos rfl, if_neg (by simp)]
       clear hr j1 j2 j3 N N4 T4 b3 b0
       go_wp2_with (first
        | (go_at_call 44; refine (cC1 _).mono ?_; rintro y w1 ⟨rfl, rfl⟩)
        | (at_builtin; refine Lib.wpList_append_run _ rfl _ _ _ _ rfl _ _ rfl rfl _ _ hrun1 ?_)
        | (go_at_call 36; (try rw [← HV4.out]); refine cR.mono ?_; rintro y w1 ⟨rfl, hb⟩; replace b04 := b04.below hb; replace HB4 := Below.tr HB4 hb; clear r0 r1 r2 r3 g0 g1 g2 g3; obtain ⟨⟨r0, r1, r2, r3⟩, g0, g1, g2, g3⟩ := id b04; clear hb))
       refine bodyPost_ret (v := .tuple #[.agg #[.bool false, .slice none 0 0, .slice none 0 0, .slice none 0 0], .int .i64 4]) (by simp [results, Try.results35, go_sem, r0, r1, r2, r3]) rfl (HQ.out _ hfin.out _ _ (answers_none (below_put4 HB4 hle _ _ _ _)))
     ·
      have hP' : (p1 != (s.size : Int)) = true := by simpa using hP
      replace hfin : Hid (innR s = .inl 4) := by show _ = _; rw [hfin.out, if_pos rfl, if_neg (fun h => hP h.1)]
      clear r0 r1 r2 r3 g0 g1 g2 g3
      obtain ⟨⟨r0, r1, r2, r3⟩, g0, g1, g2, g3⟩ := id rawb
      clear j1 j2 j3 N N4 T4 b3 b0 cR hP
      go_wp2_with (first
       | (go_at_call 44; refine (cC1 _).mono ?_; rintro y w1 ⟨rfl, rfl⟩)
       | (at_builtin; refine Lib.wpList_append_run _ rfl _ _ _ _ rfl _ _ rfl rfl _ _ hrun1 ?_))
      refine bodyPost_ret (v := .tuple #[.agg #[.bool false, .slice none 0 0, .slice none 0 0, .slice none 0 0], .int .i64 4]) (by simp [results, Try.results35, go_sem, r0, r1, r2, r3]) rfl (HQ.out _ hfin.out _ _ (answers_none (below_put4 rawB hle _ _ _ _)))
    ·
     have z1' : (E1 != 0) = true := by simpa using z1
     replace hfin : Hid (innR s = .inl E1) := by show _ = _; rw [hfin.out, if_neg z1]
     clear r0 r1 r2 r3 g0 g1 g2 g3
     obtain ⟨⟨r0, r1, r2, r3⟩, g0, g1, g2, g3⟩ := id rawb
     clear j1 j2 j3 N N4 T4 b3 b0 cR z1
     go_wp2_with (first
      | (go_at_call 44; refine (cC1 _).mono ?_; rintro y w1 ⟨rfl, rfl⟩)
      | (at_builtin; refine Lib.wpList_append_run _ rfl _ _ _ _ rfl _ _ rfl rfl _ _ hrun1 ?_))
     refine bodyPost_ret (v := .tuple #[.agg #[.bool false, .slice none 0 0, .slice none 0 0, .slice none 0 0], .int .i64 E1]) (by simp [results, Try.results35, go_sem, r0, r1, r2, r3]) rfl (HQ.out _ hfin.out _ _ (answers_none (below_put4 rawB hle _ _ _ _)))
 ·
  have hb' : (getE s 0 1 != 0) = true := by simpa using h0
  have eR : getR s 0 1 = 0 := by unfold getR; rw [if_neg h0]
  have HEE : Hid (innR s = .inl (getE s 0 1)) := by show _ = _; unfold innR; rw [if_neg h0]
  rw [eR] at cG
  generalize getE s 0 1 = E1 at *
  generalize getT s 0 1 = T1 at *
  obtain ⟨⟨r0, r1, r2, r3⟩, g0, g1, g2, g3⟩ := id b0
  clear eR h0 N0 bn hsz
  go_enter Try.func35, Try.ntmps35
  go_wp2_with (go_at_call 44; rw [← hW]; refine (cG _).mono ?_; rintro y w1 ⟨rfl, rfl⟩)
  rw [← hW]
  clear hW cG
  go_loopw [10] (fun v wr => v = .int .i64 0 ∧ wr = W) (fun _ _ => 0)
  case atStart => exact ⟨rfl, rfl⟩
  case round =>
   obtain ⟨rfl, hwr⟩ := hrel
   subst hwr
   go_wp2
   refine bodyPost_ret (v := .tuple #[.agg #[.bool false, .slice none 0 0, .slice none 0 0, .slice none 0 0], .int .i64 E1]) (by simp [results, Try.results35, go_sem, r0, r1, r2, r3]) rfl (HQ.out _ HEE.out _ _ (answers_none (below_put4 hB0 hle _ _ _ _)))
set_option maxHeartbeats 1000000 in
theorem refGetKind_any (kind : Int) (s : ByteArray) (w : World) (h1 : kind ≠ 1) (h2 : kind ≠ 2) :
  Calls Try.prog 35 #[.int .i64 kind, .string s] w fun x w' => Answers w x w' false [] [] [] 81 := by
 have k1 : (kind != 1) = true := by simpa using h1
 have k2 : (kind != 2) = true := by simpa using h2
 have b0 := box4_new w (.bool false) (.slice none 0 0) (.slice none 0 0) (.slice none 0 0) 62 rfl
 have hB0 : Below w.heap.size w (w.alloc (.cells #[.bool false, .slice none 0 0, .slice none 0 0, .slice none 0 0] 62)) := (Below.refl _ _).alloc (Nat.le_refl _) _
 obtain ⟨⟨z0, z1, z2, z3⟩, y0, y1, y2, y3⟩ := id b0
 go_enter Try.func35, Try.ntmps35
 go_wp2
 exact bodyPost_ret (v := .tuple #[.agg #[.bool false, .slice none 0 0, .slice none 0 0, .slice none 0 0], .int .i64 81]) (by simp [results, Try.results35, go_sem, z0, z1, z2, z3]) rfl (answers_none hB0)
theorem refNodeGet_any (kind : Int) (s : ByteArray) (w : World) (hs : s.size ≤ maxLen) :
  Calls Try.prog 35 #[.int .i64 kind, .string s] w fun x w' => Answers w x w' (gN kind s).1 (gN kind s).2.1 (gN kind s).2.2.1 (gN kind s).2.2.2 (gE kind s) := by
 by_cases h1 : kind = 1
 ·
  subst h1; exact refGetLeaf_any s w hs
 ·
  by_cases h2 : kind = 2
  ·
   subst h2; exact refGetInner_any s w hs
  ·
   have hR : nodeR kind s = .inl 81 := by unfold nodeR; rw [if_neg h1, if_neg h2]
   obtain ⟨g1, g2⟩ := g_inl hR
   rw [g1, g2]
   exact refGetKind_any kind s w h1 h2
end Go.Proofs.Ytpepgpjiddophaa
namespace Go.Proofs.Ytpepgpjiddophaa
open Go.RowKit Plain Go.ChangeShapes Go.WideShapes
set_option linter.unusedVariables false
def IsB (w : World) (a : Option Addr) (c : Nat) (l : List Bool) : Prop :=
 l.length ≤ c ∧ c ≤ maxLen ∧ ∀ j x, l[j]? = some x → ∃ b o, a = some ⟨b, o, none⟩ ∧ b < w.heap.size ∧ w.cell? ⟨b, o + j, none⟩ = some (.bool x)
theorem IsB_nil (w : World) : IsB w none 0 [] := ⟨Nat.le_refl _, Nat.zero_le _, fun j x hx => by simp at hx⟩
theorem IsB.below {w w' : World} {a : Option Addr} {c : Nat} {l : List Bool} (h : IsB w a c l) (hb : Below w.heap.size w w') : IsB w' a c l := by
 refine ⟨h.1, h.2.1, fun j x hx => ?_⟩
 obtain ⟨b, o, ha, hlt, hc⟩ := h.2.2 j x hx
 exact ⟨b, o, ha, Nat.lt_of_lt_of_le hlt hb.size, by rw [hb.cell (p := ⟨b, o + j, none⟩) hlt]; exact hc⟩
theorem IsB.take {w : World} {a : Option Addr} {c : Nat} {l : List Bool} (h : IsB w a c l) (n : Nat) : IsB w a c (l.take n) := by
 refine ⟨by rw [List.length_take]; have := h.1; omega, h.2.1, fun j x hx => h.2.2 j x ?_⟩
 rw [List.getElem?_take] at hx
 split at hx
 ·
  exact hx
 ·
  cases hx
theorem IsB.some {w : World} {a : Option Addr} {c : Nat} {l : List Bool} (h : IsB w a c l) (h0 : 0 < l.length) : ∃ b o, a = .some ⟨b, o, none⟩ ∧ b < w.heap.size := by
 obtain ⟨b, o, ha, hl, _⟩ := h.2.2 0 l[0] (List.getElem?_eq_getElem h0)
 exact ⟨b, o, ha, hl⟩
theorem IsB.at {w : World} {b o c : Nat} {l : List Bool} (h : IsB w (.some ⟨b, o, none⟩) c l) {j : Nat} {x : Bool} (hx : l[j]? = .some x) : w.cell? ⟨b, o + j, none⟩ = .some (.bool x) := by
 obtain ⟨b', o', he, _, hc⟩ := h.2.2 j x hx
 cases he
 exact hc
theorem open_B {H : Type} {enc : TypeId × Value → H} {w : World} {fuel : Nat} {v : Value} {x : DataW H × List MemPlace}
  (h : DataW.trod enc Try.prog w 0 (fun _ => true) true fuel 22 [v] = some x) : ∃ a c l, v = .slice a l.length c ∧ IsB w a c l := by
 rcases Deep.open_bools Try.underlying22 Try.underlying4 (by kernel_rfl) h with ⟨hcs, _⟩ | ⟨a, n, c, B, hcs, _, hl, hm, _, hcell⟩
 ·
  simp at hcs
  exact ⟨none, 0, [], hcs, Nat.le_refl _, Nat.zero_le _, fun j m hj => by simp at hj⟩
 ·
  simp at hcs
  refine ⟨some a, c, (List.range n).map B, by simpa using hcs, by simpa using hl, hm, fun j y hy => ?_⟩
  have hj : j < n := by simpa using (List.getElem?_eq_some_iff.1 hy).1
  rw [List.getElem?_map, List.getElem?_range hj] at hy
  simp at hy
  subst hy
  obtain ⟨b, o, rfl, hb⟩ := spot_none (hcell 0 (by omega))
  have hc := hcell j (by omega)
  rw [at_add] at hc
  exact ⟨b, o, rfl, hb, hc⟩
def RowT (w : World) (g cap : Nat) (l : List Bool) : Prop :=
 ∃ cur : Array Value, w.heap[g]? = some (.cells cur 4 (0, 0)) ∧ cur.toList.take l.length = l.map Value.bool ∧ l.length ≤ cap ∧ cap ≤ maxLen ∧ cur.size = cap
theorem RowT.lt {w : World} {g cap : Nat} {l : List Bool} (h : RowT w g cap l) : g < w.heap.size := by
 obtain ⟨cur, hg, _⟩ := h
 exact (Array.getElem?_eq_some_iff.1 hg).1
theorem RowT.below {w w' : World} {g cap : Nat} {l : List Bool} (h : RowT w g cap l) (hb : Below w.heap.size w w') : RowT w' g cap l := by
 have hl := h.lt
 obtain ⟨cur, hg, hr⟩ := h
 exact ⟨cur, by rw [hb.block g hl]; exact hg, hr⟩
theorem RowT.cell {w : World} {g cap : Nat} {l : List Bool} (h : RowT w g cap l) {j : Nat} {x : Bool} (hx : l[j]? = some x) : w.cell? ⟨g, j, none⟩ = some (.bool x) ∧ w.frozen? ⟨g, j, none⟩ = false := by
 obtain ⟨cur, hg, ht, hl, _, hs⟩ := h
 have hj := (List.getElem?_eq_some_iff.1 hx).1
 have hc : cur[j]? = some (.bool x) := by
  rw [← Array.getElem?_toList]
  have : (cur.toList.take l.length)[j]? = some (.bool x) := by rw [ht, List.getElem?_map, hx]; rfl
  rwa [List.getElem?_take_of_lt hj] at this
 exact ⟨by rw [Joins.cell_of_block hg]; exact hc, Joins.unfrozen_of_block hg j⟩
theorem RowT.set {w : World} {g cap : Nat} {l : List Bool} (h : RowT w g cap l) (j : Nat) (x : Bool) : RowT (w.setCell ⟨g, j, none⟩ (.bool x)) g cap (l.set j x) := by
 obtain ⟨cur, hg, ht, hl, hm, hs⟩ := h
 refine ⟨_, Joins.block_setCell hg _, ?_, by rw [List.length_set]; exact hl, hm, by rw [Array.size_setIfInBounds]; exact hs⟩
 rw [List.length_set, Array.toList_setIfInBounds, List.take_set, ht, List.map_set]
theorem RowT.isB {w : World} {g cap : Nat} {l : List Bool} (h : RowT w g cap l) : IsB w (some ⟨g, 0, none⟩) cap l := by
 have hl := h.lt
 have hc := h
 obtain ⟨cur, hg, ht, h1, h2, hs⟩ := h
 exact ⟨h1, h2, fun j x hx => ⟨g, 0, rfl, hl, by rw [Nat.zero_add]; exact (hc.cell hx).1⟩⟩
theorem RowT.new (W : World) (n : Nat) {Z : Array Value} (hZ : Z = (List.replicate n (Value.bool false)).toArray) {g : Nat} (hg : g = W.heap.size) (hn : n ≤ maxLen) : RowT (W.alloc (.cells Z 4)) g n (List.replicate n false) := by
 subst hg hZ
 refine ⟨_, heap_new W _, ?_, by simp, hn, by simp⟩
 simp
theorem ownsRow_T {w : World} {base : Nat} {v : Value} {l : List Bool} (h : w.ownsRow base 4 1 v l.length (l.map Value.bool)) : (v = .slice none 0 0 ∧ l = []) ∨ ∃ g cap, v = .slice (some ⟨g, 0, none⟩) l.length cap ∧ base ≤ g ∧ RowT w g cap l := by
 rcases h.2 with ⟨h1, h2⟩ | ⟨g, cap, cur, rfl, hg, hcur, hnc, hcm, hsz, htk⟩
 ·
  exact .inl ⟨h1, List.length_eq_zero_iff.1 h2⟩
 ·
  exact .inr ⟨g, cap, rfl, hg, cur, hcur, by simpa using htk, by omega, hcm, by omega⟩
def rowsOf (ds : List (Option Addr × Nat × List Bool)) : List (List Bool) := ds.map (·.2.2)
theorem rowsOf_get {ds : List (Option Addr × Nat × List Bool)} {j : Nat} {d : (Option Addr × Nat × List Bool)} (h : ds[j]? = some d) : (rowsOf ds)[j]? = some d.2.2 := by unfold rowsOf; rw [List.getElem?_map, h]; rfl
def IsL (w : World) (a : Option Addr) (c : Nat) (ds : List (Option Addr × Nat × List Bool)) : Prop :=
 ds.length ≤ c ∧ c ≤ maxLen ∧ ∀ j d, ds[j]? = some d → IsB w d.1 d.2.1 d.2.2 ∧ ∃ b o, a = some ⟨b, o, none⟩ ∧ b < w.heap.size ∧ w.cell? ⟨b, o + j, none⟩ = some (.slice d.1 d.2.2.length d.2.1)
theorem IsL.rows_le {w : World} {a : Option Addr} {c : Nat} {ds : List (Option Addr × Nat × List Bool)} (h : IsL w a c ds) : ∀ l ∈ rowsOf ds, l.length ≤ maxLen := by
 intro l hl
 obtain ⟨d, hd, rfl⟩ := List.mem_map.1 hl
 obtain ⟨j, hj⟩ := List.getElem?_of_mem hd
 have := (h.2.2 j d hj).1
 exact Nat.le_trans this.1 this.2.1
end Go.Proofs.Ytpepgpjiddophaa
namespace Go.Proofs.Ytpepgpjiddophaa
open Go.RowKit Plain
set_option linter.unusedVariables false
def least (n : Nat) : List (List Bool) → Nat
 | [] => n
 | l :: ls => least (min n l.length) ls
theorem least_append (n : Nat) (xs ys : List (List Bool)) : least n (xs ++ ys) = least (least n xs) ys := by
 induction xs generalizing n with
 | nil => rfl
 | cons x xs ih => rw [List.cons_append, least, least, ih]
theorem least_le (n : Nat) (ls : List (List Bool)) : least n ls ≤ n := by
 induction ls generalizing n with
 | nil => exact Nat.le_refl _
 | cons x xs ih => rw [least]; have := ih (min n x.length); omega
theorem least_mem (n : Nat) (ls : List (List Bool)) : ∀ l ∈ ls, least n ls ≤ l.length := by
 induction ls generalizing n with
 | nil => intro l hl; cases hl
 | cons x xs ih =>
  intro l hl
  rw [least]
  rcases List.mem_cons.1 hl with rfl | hl
  ·
   have := least_le (min n l.length) xs; omega
  ·
   exact ih _ l hl
theorem least_is (n : Nat) (ls : List (List Bool)) : least n ls = n ∨ ∃ l ∈ ls, l.length = least n ls := by
 induction ls generalizing n with
 | nil => exact .inl rfl
 | cons x xs ih =>
  rw [least]
  rcases ih (min n x.length) with h | ⟨l, hl, h⟩
  ·
   rw [h]
   by_cases e : n ≤ x.length
   ·
    exact .inl (by omega)
   ·
    exact .inr ⟨x, by simp, by omega⟩
  ·
   exact .inr ⟨l, by simp [hl], h⟩
def shortestB (ls : List (List Bool)) : Nat := match ls with
 | [] => 0
 | l :: _ => least l.length ls
theorem shortestB_is {ls : List (List Bool)} (h : ls ≠ []) : ∃ l ∈ ls, l.length = shortestB ls := by
 cases ls with
 | nil => exact absurd rfl h
 | cons x xs =>
  rcases least_is x.length (x :: xs) with h | h
  ·
   exact ⟨x, by simp, h.symm⟩
  ·
   exact h
theorem shortestB_le (ls : List (List Bool)) : ∀ l ∈ ls, shortestB ls ≤ l.length := by
 cases ls with
 | nil => intro l hl; cases hl
 | cons x xs => exact least_mem _ _
theorem countB_short (ls : List (List Bool)) : countN ls (shortestB ls) = countB ls := by
 by_cases h : ls = []
 ·
  subst h; rfl
 ·
  obtain ⟨l, hl, he⟩ := shortestB_is h
  unfold countB
  rw [← he, ← countN_past hl _ (longest_le hl)]
theorem take_rows {ds : List (Option Addr × Nat × List Bool)} {j : Nat} {d : (Option Addr × Nat × List Bool)} (h : ds[j]? = some d) : rowsOf (ds.take (j + 1)) = rowsOf (ds.take j) ++ [d.2.2] := by
 unfold rowsOf; rw [List.take_add_one, h, List.map_append]; rfl
theorem take_all {ds : List (Option Addr × Nat × List Bool)} {n : Nat} (h : n = ds.length) : rowsOf (ds.take n) = rowsOf ds := by rw [h, List.take_length]
set_option maxHeartbeats 1000000 in
theorem shortest_any (a : Option Addr) (c : Nat) (ds : List (Option Addr × Nat × List Bool)) (w : World) (hL : IsL w a c ds) :
  Calls Try.prog 37 #[.slice a ds.length c] w fun e w' => e = .returned (.int .i64 (shortestB (rowsOf ds))) ∧ w = w' := by
 obtain ⟨n, hn⟩ : ∃ n, n = ds.length := ⟨_, rfl⟩
 have hnb : n ≤ 9223372036854775807 := by rw [hn]; exact Nat.le_trans hL.1 hL.2.1
 have HL : Hid (IsL w a c ds) := hL
 have HN : Hid (n = ds.length) := hn
 rw [← hn]
 clear hL hn
 by_cases h0 : n = 0
 ·
  have he : Hid ((0 : Int) = ((shortestB (rowsOf ds) : Nat) : Int)) := by
   show _ = _
   have : ds = [] := List.length_eq_zero_iff.1 (HN.out.symm.trans h0)
   rw [this]; rfl
  subst h0
  go_enter Try.func37, Try.ntmps37
  go_wp2
  go_ret
  exact ⟨ret_int he.out, rfl⟩
 ·
  have h0' : ((n : Int) == 0) = false := by simp; omega
  have h0n : 0 < n := by omega
  have h0i : (0 : Int) < n := by omega
  obtain ⟨d0, hd0⟩ : ∃ d, Hid (ds[0]? = some d) := ⟨ds[0]'(by rw [← HN.out]; exact h0n), show _ = _ from List.getElem?_eq_getElem (by rw [← HN.out]; exact h0n)⟩
  obtain ⟨hdB0, b, o, rfl, hbl, hc0⟩ := HL.out.2.2 0 d0 hd0.out
  obtain ⟨k0, hk0⟩ : ∃ k, Hid (k = d0.2.2.length) := ⟨_, rfl⟩
  have hkb0 : k0 ≤ 9223372036854775807 := by rw [hk0.out]; exact Nat.le_trans hdB0.1 hdB0.2.1
  rw [← hk0.out] at hc0
  have hsh : Hid (shortestB (rowsOf ds) = least k0 (rowsOf ds)) := by
   show _ = _
   cases hds : ds with
   | nil => rw [hds] at hd0; cases hd0.out
   | cons x xs =>
    have hx := hd0.out
    rw [hds] at hx
    simp at hx
    subst hx
    rw [hk0.out]; rfl
  generalize d0.1 = da0 at hc0 hdB0
  generalize d0.2.1 = dc0 at hc0 hdB0
  clear hdB0 hd0
  rw [Nat.add_zero] at hc0
  go_enter Try.func37, Try.ntmps37
  go_wp2
  go_loopw [3, 14] (fun u v wr => ∃ j m : Nat, j ≤ n ∧ v = .int .i64 j ∧ m = least k0 (rowsOf (ds.take j)) ∧ m ≤ k0 ∧ u = .int .i64 m ∧ w = wr) (fun _ v _ => n - (intOf v).toNat)
  case atStart => exact ⟨0, k0, by omega, rfl, rfl, Nat.le_refl _, rfl, by trivial⟩
  case round =>
   obtain ⟨j, m, hj, rfl, hm, hmk, rfl, rfl⟩ := hrel
   have HM : Hid (m = least k0 (rowsOf (ds.take j))) := hm
   clear hm
   by_cases hlt : j < n
   ·
    have hlt' : (j : Int) < n := by omega
    obtain ⟨d, hd⟩ : ∃ d, Hid (ds[j]? = some d) := ⟨_, List.getElem?_eq_getElem (by rw [← HN.out]; exact hlt)⟩
    obtain ⟨hdB, b', o', he, hbl, hc⟩ := HL.out.2.2 j d hd.out
    cases he
    obtain ⟨k, hk⟩ : ∃ k, k = d.2.2.length := ⟨_, rfl⟩
    have hkb : k ≤ 9223372036854775807 := by rw [hk]; exact Nat.le_trans hdB.1 hdB.2.1
    rw [← hk] at hc
    have hnx : Hid (least k0 (rowsOf (ds.take (j + 1))) = min m k) := by
     show _ = _
     rw [take_rows hd.out, least_append, ← HM.out, hk]
     simp [least]
    generalize d.1 = da at hc hdB
    generalize d.2.1 = dc at hc hdB
    clear hdB hk hd
    obtain ⟨mx, hmx, hmx', hmk2⟩ : ∃ mx : Nat, Hid (mx = min m k) ∧ min (m : Int) k = mx ∧ mx ≤ k0 := ⟨_, rfl, by omega, by omega⟩
    have hmr := min_run hmx'
    clear hmx'
    go_wp2
    go_roundw
    case rel => exact ⟨j + 1, mx, by omega, by go_num, by rw [hnx.out]; exact hmx.out, hmk2, rfl, by trivial⟩
    case measure => simp [intOf]; omega
   ·
    obtain rfl : j = n := by omega
    have he : Hid ((m : Int) = ((shortestB (rowsOf ds) : Nat) : Int)) := by show _ = _; rw [HM.out, take_all HN.out, hsh.out]
    go_wp2
    go_ret
    exact ⟨ret_int he.out, rfl⟩
def allB (ls : List (List Bool)) (i : Nat) : Bool := decide (howB ls i = ls.length)
theorem allB_yes {ls : List (List Bool)} {i : Nat} (h : ∀ l ∈ ls, atB l i = true) : allB ls i = true := decide_eq_true (howB_all.2 h)
theorem allB_no {ls : List (List Bool)} {i : Nat} {l : List Bool} (hl : l ∈ ls) (h : atB l i = false) : allB ls i = false := by
 refine decide_eq_false fun hh => ?_
 have := howB_all.1 hh l hl
 rw [h] at this; cases this
set_option maxHeartbeats 1000000 in
theorem allHave_any (a : Option Addr) (c : Nat) (ds : List (Option Addr × Nat × List Bool)) (i : Nat) (w : World) (hL : IsL w a c ds) (hi : ∀ l ∈ rowsOf ds, i < l.length) :
  Calls Try.prog 38 #[.slice a ds.length c, .int .i64 i] w fun e w' => e = .returned (.bool (allB (rowsOf ds) i)) ∧ w = w' := by
 obtain ⟨n, hn⟩ : ∃ n, n = ds.length := ⟨_, rfl⟩
 have hnb : n ≤ 9223372036854775807 := by rw [hn]; exact Nat.le_trans hL.1 hL.2.1
 have HL : Hid (IsL w a c ds) := hL
 have HN : Hid (n = ds.length) := hn
 have HI : Hid (∀ l ∈ rowsOf ds, i < l.length) := hi
 rw [← hn]
 clear hL hn hi
 go_enter Try.func38, Try.ntmps38
 go_wp2
 go_loopw [8] (fun v wr => ∃ j : Nat, j ≤ n ∧ v = .int .i64 j ∧ (∀ l ∈ rowsOf (ds.take j), atB l i = true) ∧ w = wr) (fun v _ => n - (intOf v).toNat)
 case atStart => exact ⟨0, by omega, rfl, fun l hl => (by cases hl), by trivial⟩
 case round =>
  obtain ⟨j, hj, rfl, hall, rfl⟩ := hrel
  have HA : Hid (∀ l ∈ rowsOf (ds.take j), atB l i = true) := hall
  clear hall
  by_cases hlt : j < n
  ·
   have hlt' : (j : Int) < n := by omega
   obtain ⟨d, hd⟩ : ∃ d, Hid (ds[j]? = some d) := ⟨_, List.getElem?_eq_getElem (by rw [← HN.out]; exact hlt)⟩
   have hmem : Hid (d.2.2 ∈ rowsOf ds) := List.mem_of_getElem? (rowsOf_get hd.out)
   obtain ⟨hdB, b, o, rfl, hbl, hc⟩ := HL.out.2.2 j d hd.out
   obtain ⟨q, hq⟩ : ∃ q, Hid (d.2.2[i]? = some q) := ⟨_, List.getElem?_eq_getElem (HI.out _ hmem.out)⟩
   obtain ⟨b2, o2, ha2, hbl2, hc2⟩ := hdB.2.2 i q hq.out
   have hik : i < d.2.2.length := HI.out _ hmem.out
   rw [ha2] at hc
   obtain ⟨k, hk⟩ : ∃ k, k = d.2.2.length := ⟨_, rfl⟩
   rw [← hk] at hc hik
   have hik' : (i : Int) < k := by omega
   generalize d.2.1 = dc at hc hdB
   clear hdB hk
   cases q with
   | false =>
    have hE : Hid (allB (rowsOf ds) i = false) := allB_no hmem.out (atB_some hq.out)
    go_wp2
    go_ret
    exact ⟨ret_bool hE.out.symm, rfl⟩
   | true =>
    have hE : Hid (∀ l ∈ rowsOf (ds.take (j + 1)), atB l i = true) := by
     intro l hl
     rw [take_rows hd.out] at hl
     rcases List.mem_append.1 hl with h | h
     ·
      exact HA.out l h
     ·
      obtain rfl : l = d.2.2 := by simpa using h
      exact atB_some hq.out
    go_wp2
    go_roundw
    case rel => exact ⟨j + 1, by omega, by go_num, hE.out, by trivial⟩
    case measure => simp [intOf]; omega
  ·
   obtain rfl : j = n := by omega
   have hE : Hid (allB (rowsOf ds) i = true) := allB_yes (by have := HA.out; rw [take_all HN.out] at this; exact this)
   go_wp2
   go_ret
   exact ⟨ret_bool hE.out.symm, rfl⟩
theorem countN_succ (ls : List (List Bool)) (n : Nat) : countN ls (n + 1) = countN ls n + bn (allB ls n) := rfl
set_option maxHeartbeats 1000000 in
theorem count_any (a : Option Addr) (c : Nat) (ds : List (Option Addr × Nat × List Bool)) (w : World) (hL : IsL w a c ds) :
  Calls Try.prog 32 #[.slice a ds.length c] w fun e w' => e = .returned (.int .i64 (countB (rowsOf ds))) ∧ w = w' := by
 obtain ⟨n, hn⟩ : ∃ n, n = ds.length := ⟨_, rfl⟩
 obtain ⟨k, hk⟩ : ∃ k, k = shortestB (rowsOf ds) := ⟨_, rfl⟩
 have hnb : n ≤ 9223372036854775807 := by rw [hn]; exact Nat.le_trans hL.1 hL.2.1
 have hkb : k ≤ 9223372036854775807 := by
  rw [hk]
  by_cases h : rowsOf ds = []
  ·
   rw [h]; exact Nat.zero_le _
  ·
   obtain ⟨l, hl, he⟩ := shortestB_is h
   rw [← he]; exact hL.rows_le l hl
 have cs : ∀ W, w = W → Calls Try.prog 37 #[.slice a n c] W fun e w' => e = .returned (.int .i64 k) ∧ w = w' := by
  rintro W rfl; rw [hn, hk]; exact shortest_any a c ds w hL
 have ca : ∀ (i : Nat) W, i < k → w = W → Calls Try.prog 38 #[.slice a n c, .int .i64 i] W fun e w' => e = .returned (.bool (allB (rowsOf ds) i)) ∧ w = w' := by
  rintro i W hi rfl; rw [hn]; exact allHave_any a c ds i w hL fun l hl => by have := shortestB_le _ l hl; omega
 have HK : Hid (k = shortestB (rowsOf ds)) := hk
 rw [← hn]
 clear hL hn hk
 go_enter Try.func32, Try.ntmps32
 go_wp2_with (go_at_call 37; refine (cs _ rfl).mono ?_; rintro e w' ⟨rfl, rfl⟩)
 go_loopw [3, 7] (fun u v wr => ∃ j m : Nat, j ≤ k ∧ v = .int .i64 j ∧ m = countN (rowsOf ds) j ∧ m ≤ j ∧ u = .int .i64 m ∧ w = wr) (fun _ v _ => k - (intOf v).toNat)
 case atStart => exact ⟨0, 0, by omega, rfl, rfl, Nat.le_refl _, rfl, by trivial⟩
 case round =>
  obtain ⟨j, m, hj, rfl, hm, hmj, rfl, rfl⟩ := hrel
  have HM : Hid (m = countN (rowsOf ds) j) := hm
  clear hm
  by_cases hlt : j < k
  ·
   have hlt' : (j : Int) < k := by omega
   obtain ⟨q, hq⟩ : ∃ q, Hid (allB (rowsOf ds) j = q) := ⟨_, rfl⟩
   have ca' : ∀ W, w = W → Calls Try.prog 38 #[.slice a n c, .int .i64 j] W fun e w' => e = .returned (.bool q) ∧ w = w' := by
    intro W hW; rw [← hq.out]; exact ca j W hlt hW
   have hnx : Hid (countN (rowsOf ds) (j + 1) = m + bn q) := by show _ = _; rw [countN_succ, ← HM.out, hq.out]
   cases q with
   | true =>
    go_wp2_with (go_at_call 38; refine (ca' _ rfl).mono ?_; rintro e w' ⟨rfl, rfl⟩)
    go_roundw
    case rel => exact ⟨j + 1, m + 1, by omega, by go_num, hnx.out.symm, by omega, by go_num, by trivial⟩
    case measure => simp [intOf]; omega
   | false =>
    go_wp2_with (go_at_call 38; refine (ca' _ rfl).mono ?_; rintro e w' ⟨rfl, rfl⟩)
    go_roundw
    case rel => exact ⟨j + 1, m, by omega, by go_num, hnx.out.symm, by omega, rfl, by trivial⟩
    case measure => simp [intOf]; omega
  ·
   obtain rfl : j = k := by omega
   have he : Hid ((m : Int) = ((countB (rowsOf ds) : Nat) : Int)) := by show _ = _; rw [HM.out, HK.out, countB_short]
   go_wp2
   go_ret
   exact ⟨ret_int he.out, rfl⟩
def OwnT (base : Nat) (w : World) (a : Option Addr) (cap : Nat) (l : List Bool) : Prop :=
 (a = none ∧ cap = 0 ∧ l = []) ∨ ∃ g, a = some ⟨g, 0, none⟩ ∧ base ≤ g ∧ RowT w g cap l
theorem OwnT.isB {base : Nat} {w : World} {a : Option Addr} {cap : Nat} {l : List Bool} (h : OwnT base w a cap l) : IsB w a cap l := by
 rcases h with ⟨rfl, rfl, rfl⟩ | ⟨g, rfl, _, hr⟩
 ·
  exact IsB_nil _
 ·
  exact hr.isB
theorem isL_two {W : World} {a b : Option Addr} {c d n m : Nat} {l k : List Bool} (hn : n = l.length) (hm : m = k.length) (h : IsB W a c l) (h' : IsB W b d k) : IsL (W.alloc (.cells #[.slice a n c, .slice b m d] 22)) (some ⟨W.heap.size, 0, none⟩) 2 [(a, c, l), (b, d, k)] := by
 subst hn hm
 have hB := (Below.refl W.heap.size W).alloc (Nat.le_refl _) (.cells #[.slice a l.length c, .slice b k.length d] 22)
 refine ⟨Nat.le_refl _, by unfold maxLen; omega, fun j x hd => ?_⟩
 match j, hd with
 | 0, hd =>
  simp at hd
  subst hd
  exact ⟨h.below hB, W.heap.size, 0, rfl, by simp, World.cell?_alloc_at _ _ _ _ rfl⟩
 | 1, hd =>
  simp at hd
  subst hd
  exact ⟨h'.below hB, W.heap.size, 0, rfl, by simp, World.cell?_alloc_at _ _ _ _ rfl⟩
theorem count_two (W : World) (b b' : Option Addr) (d d' n n' : Nat) (l l' : List Bool) (hn : n = l.length) (hn' : n' = l'.length) (h : IsB W b d l) (h' : IsB W b' d' l') :
  Calls Try.prog 32 #[.slice (some ⟨W.heap.size, 0, none⟩) 2 2] (W.alloc (.cells #[.slice b n d, .slice b' n' d'] 22)) fun e w' => e = .returned (.int .i64 (countB [l, l'])) ∧ Below W.heap.size W w' :=
 (count_any _ _ _ _ (isL_two hn hn' h h')).mono fun e w' ⟨he, hw⟩ => ⟨he, hw ▸ (Below.refl _ _).alloc (Nat.le_refl _) _⟩
end Go.Proofs.Ytpepgpjiddophaa
namespace Go.Proofs.Ytpepgpjiddophaa
open Go.RowKit Plain Go.ChangeShapes Go.WideShapes
set_option linter.unusedVariables false
def Box2 (w : World) (h : Nat) (v0 v1 : Value) : Prop :=
 (w.cell? ⟨h, 0, none⟩ = some v0 ∧ w.cell? ⟨h, 1, none⟩ = some v1) ∧ w.frozen? ⟨h, 0, none⟩ = false ∧ w.frozen? ⟨h, 1, none⟩ = false
theorem box2_new (w : World) (v0 v1 : Value) (t : TypeId) {h : Nat} (hh : h = w.heap.size) : Box2 (w.alloc (.cells #[v0, v1] t)) h v0 v1 := by
 subst hh
 refine ⟨⟨World.cell?_alloc_at _ _ _ _ rfl, World.cell?_alloc_at _ _ _ _ rfl⟩, ?_, ?_⟩
 ·
  exact (World.frozen?_alloc_mark w _ _ _ _ 0).trans (by simp)
 ·
  exact (World.frozen?_alloc_mark w _ _ _ _ 1).trans (by simp)
theorem Box2.lt {w : World} {h : Nat} {v0 v1 : Value} (b : Box2 w h v0 v1) : h < w.heap.size := cell_lt b.1.1
theorem Box2.below {w w' : World} {h : Nat} {v0 v1 : Value} (b : Box2 w h v0 v1) (hb : Below w.heap.size w w') : Box2 w' h v0 v1 := by
 have hl := b.lt
 obtain ⟨⟨c0, c1⟩, f0, f1⟩ := b
 exact ⟨⟨cell_below hb c0, cell_below hb c1⟩, by rw [hb.frozen (p := ⟨h, 0, none⟩) hl]; exact f0, by rw [hb.frozen (p := ⟨h, 1, none⟩) hl]; exact f1⟩
theorem Box2.alloc {w : World} {h : Nat} {v0 v1 : Value} (b : Box2 w h v0 v1) (o : Obj) : Box2 (w.alloc o) h v0 v1 := b.below ((Below.refl _ _).alloc (Nat.le_refl _) o)
theorem below_set2 {w w1 : World} {h : Nat} {v0 v1 : Value} (hB : Below w.heap.size w w1) (hh : w.heap.size ≤ h) : Below w.heap.size w ((w1.setCell ⟨h, 0, none⟩ v0).setCell ⟨h, 1, none⟩ v1) :=
 (hB.setCell (p := ⟨h, 0, none⟩) hh _).setCell (p := ⟨h, 1, none⟩) hh _
theorem OwnT.store {base : Nat} {w : World} {a : Option Addr} {cap : Nat} {l : List Bool} (h : OwnT base w a cap l) {k : Nat} (hk : k < base) (i : Nat) (v : Value) : OwnT base (w.setCell ⟨k, i, none⟩ v) a cap l := by
 rcases h with h | ⟨g, h1, h2, cur, hg, hr⟩
 ·
  exact .inl h
 ·
  exact .inr ⟨g, h1, h2, cur, by rw [Below.heap_setCell _ _ _ _ (show g ≠ k by omega)]; exact hg, hr⟩
theorem OwnT.mono {base base' : Nat} {w : World} {a : Option Addr} {cap : Nat} {l : List Bool} (h : OwnT base w a cap l) (hb : base' ≤ base) : OwnT base' w a cap l := by
 rcases h with h | ⟨g, h1, h2, hr⟩
 ·
  exact .inl h
 ·
  exact .inr ⟨g, h1, Nat.le_trans hb h2, hr⟩
theorem OwnT_nil (base : Nat) (w : World) : OwnT base w none 0 [] := .inl ⟨rfl, rfl, rfl⟩
end Go.Proofs.Ytpepgpjiddophaa
namespace Go.Proofs.Ytpepgpjiddophaa
set_option linter.unusedVariables false
theorem op_at {ops : Array Oper} {i : Nat} {o : Oper} {post : List Oper} (hd : ops.toList.drop i = o :: post) : ops[i]? = some o := by
 have h := List.getElem?_drop (xs := ops.toList) (i := i) (j := 0)
 rw [hd] at h
 simpa using h.symm
theorem take_at {P : Program} {ops : Array Oper} {Q : Exit → Act → World → Prop} {md : Region.Mode} {S : World → Prop} {i : Nat} {o : Oper} {post : List Oper} {v : Value} {fuel : Nat} {listed : Array Bool} {a : Act} {w : World}
  (hd : ops.toList.drop i = o :: post) (hs : Region.noSelect ops = true) (hf : Region.free md ops listed i = true) (hr : (Region.ready md ops listed).contains i = true)
  (hQ : ∀ c a w, Q (.panic c) (a.put o.dst v) w → Q (.panic c) a w) (hy : YieldsIf P ops S o v a) (hS : S w)
  (h : wpAnyH P md ops Q S fuel (listed.setIfInBounds i true) (a.put o.dst v) w) : wpAnyH P md ops Q S (fuel + 1) listed a w :=
 wpAnyH_take (op_at hd) hs hf hr hQ hy hS h
theorem cons_at {P : Program} {ops : Array Oper} {Q : Exit → Act → World → Prop} {md : Region.Mode} {S : World → Prop} {fuel : Nat} {listed : Array Bool} {a : Act} {w : World} {i : Nat} {o : Oper} {post : List Oper} {rs : List Nat}
  (hd : ops.toList.drop i = o :: post)
  (h : ∀ K' : Act → World → Prop, Shut (∀ a w, S w → (S w → wpAnyH P md ops Q S fuel (listed.setIfInBounds i true) a w) → K' a w) → if Region.wanted o (yielded ops a.tmps) = true then Oper.wp P o a w K' Q else K' (a.put o.dst undef) w)
  (hs : AllReadyH P md ops Q S fuel listed a w rs) : AllReadyH P md ops Q S fuel listed a w (i :: rs) :=
 AllReadyH.cons (op_at hd) h hs
end Go.Proofs.Ytpepgpjiddophaa
namespace Go.Proofs.Ytpepgpjiddophaa
open Go.RowKit Plain
set_option linter.unusedVariables false
def mayB (k : Int) : Bool := decide (24 ≤ k) && decide (k ≤ 2048)
theorem mayHave_any (k : Int) (w : World) : Calls Try.prog 31 #[.int .i64 k] w fun e w' => e = .returned (.bool (mayB k)) ∧ w = w' := by
 by_cases h1 : 24 ≤ k
 ·
  by_cases h2 : k ≤ 2048
  ·
   have e : Hid (mayB k = true) := by show _ = _; unfold mayB; rw [decide_eq_true h1, decide_eq_true h2]; rfl
   go_enter Try.func31, Try.ntmps31
   go_wp2
   go_ret
   exact ⟨ret_bool e.out.symm, rfl⟩
  ·
   have e : Hid (mayB k = false) := by show _ = _; unfold mayB; rw [decide_eq_true h1, decide_eq_false h2]; rfl
   go_enter Try.func31, Try.ntmps31
   go_wp2
   go_ret
   exact ⟨ret_bool e.out.symm, rfl⟩
 ·
  have e : Hid (mayB k = false) := by show _ = _; unfold mayB; rw [decide_eq_false h1]; rfl
  go_enter Try.func31, Try.ntmps31
  go_wp2
  go_ret
  exact ⟨ret_bool e.out.symm, rfl⟩
theorem right_lens {b m : List Bool} (h : b.length ≠ m.length) : rightA b m = false := by
 rw [Bool.eq_false_iff]; exact fun hr => h ((rightA_iff b m).1 hr).1
theorem right_may {b m : List Bool} (h : mayB m.length = false) : rightA b m = false := by
 rw [Bool.eq_false_iff]
 intro hr
 obtain ⟨_, h1, h2, _⟩ := (rightA_iff b m).1 hr
 unfold mayB at h
 rw [decide_eq_true (by omega), decide_eq_true (by omega)] at h
 cases h
theorem atB_take10 (l : List Bool) {i : Nat} (h : i < 10) : atB (l.take 10) i = atB l i := by
 unfold atB; rw [List.getElem?_take_of_lt h]
theorem right_ten {b m : List Bool} (h : b.length = m.length) (hm : mayB m.length = true) : rightA b m = ((countB [b.take 10, m.take 10] : Int) == 10) := by
 unfold mayB at hm
 simp at hm
 have hl : longest [b.take 10, m.take 10] = 10 := by simp [longest]; omega
 have hc : countB [b.take 10, m.take 10] = howN (allB [b.take 10, m.take 10]) 10 := by
  unfold countB
  rw [hl]
  generalize [b.take 10, m.take 10] = ls
  generalize 10 = k
  induction k with
  | zero => rfl
  | succ k ih => rw [countN_succ, howN, ih]
 have hall : ∀ i, i < 10 → (allB [b.take 10, m.take 10] i = true ↔ atB b i = true ∧ atB m i = true) := by
  intro i hi
  unfold allB
  rw [decide_eq_true_eq, howB_all]
  rw [← atB_take10 b hi, ← atB_take10 m hi]
  simp
 rw [Bool.eq_iff_iff, rightA_iff, beq_iff_eq, hc]
 constructor
 ·
  rintro ⟨_, _, _, h4⟩
  rw [howN_all fun i hi => (hall i hi).2 (h4 i hi)]; rfl
 ·
  intro h10
  refine ⟨h, by omega, by omega, fun i hi => (hall i hi).1 ?_⟩
  cases hf : allB [b.take 10, m.take 10] i with
  | true => rfl
  | false =>
   have h2 : howN (fun j => !allB [b.take 10, m.take 10] j) 10 + howN (allB [b.take 10, m.take 10]) 10 = 10 := by
    have := howN_or (f := fun j => !allB [b.take 10, m.take 10] j) (g := allB [b.take 10, m.take 10]) (h := fun _ => true) (k := 10) (fun j _ => by cases allB [b.take 10, m.take 10] j <;> simp)
    rw [← this, howN_all fun _ _ => rfl]
   have h3 : howN (fun j => !allB [b.take 10, m.take 10] j) 10 = 0 := by omega
   have := howN_zero.1 h3 i hi
   rw [hf] at this
   cases this
set_option maxRecDepth 20000 in
set_option maxHeartbeats 2000000 in
theorem allocRight_any (a a' : Option Addr) (c c' n n' : Nat) (b m : List Bool) (w : World) (hn : n = b.length) (hn' : n' = m.length) (hB : IsB w a c b) (hB' : IsB w a' c' m) :
  Calls Try.prog 22 #[.agg #[.slice a n c, .slice a' n' c']] w fun e w' => e = .returned (.bool (rightA b m)) ∧ Below w.heap.size w w' := by
 have hnb : n ≤ 9223372036854775807 := by rw [hn]; exact Nat.le_trans hB.1 hB.2.1
 have hnb' : n' ≤ 9223372036854775807 := by rw [hn']; exact Nat.le_trans hB'.1 hB'.2.1
 have hB0 : Below w.heap.size w (w.alloc (.cells #[.slice a n c, .slice a' n' c'] 24)) := (Below.refl _ _).alloc (Nat.le_refl _) _
 obtain ⟨⟨q0, q1⟩, -⟩ := box2_new w (.slice a n c) (.slice a' n' c') 24 rfl
 by_cases hl : n = n'
 ·
  subst hl
  cases hm : mayB n with
  | false =>
   have he : Hid (rightA b m = false) := right_may (by rw [← hn']; exact hm)
   clear hn hn' hB hB'
   go_enter Try.func22, Try.ntmps22
   go_wp2
   generalize w.alloc (.cells #[.slice a n c, .slice a' n c'] 24) = W at q0 q1 hB0 ⊢
   refine wp_region_noPanic ?_
   refine wp_region_held_drew (S := fun V => V.cell? ⟨w.heap.size, 0, none⟩ = some (.slice a n c) ∧ V.cell? ⟨w.heap.size, 1, none⟩ = some (.slice a' n c')) (by kernel_rfl) ⟨q0, q1⟩ (fun hHeld => ?_)
   refine take_at (i := 0) (v := ?_) rfl (by kernel_rfl) (by kernel_rfl) (by kernel_rfl) (fun _ _ _ h => h) (Or.inl ⟨by rfl, ?_⟩) (by assumption) ?_
   rotate_left 1
   ·
    (intro w hSw; (try dsimp only at hSw); go_simp; (try with_reducible rfl))
   try go_frame
   refine take_at (i := 1) (v := ?_) rfl (by kernel_rfl) (by kernel_rfl) (by kernel_rfl) (fun _ _ _ h => h) (Or.inl ⟨by rfl, ?_⟩) (by assumption) ?_
   rotate_left 1
   ·
    (intro w hSw; (try dsimp only at hSw); go_simp; (try with_reducible rfl))
   try go_frame
   refine take_at (i := 2) (v := ?_) rfl (by kernel_rfl) (by kernel_rfl) (by kernel_rfl) (fun _ _ _ h => h) (Or.inl ⟨by rfl, ?_⟩) (by assumption) ?_
   rotate_left 1
   ·
    (intro w hSw; (try dsimp only at hSw); go_simp; (try with_reducible rfl))
   try go_frame
   refine take_at (i := 3) (v := ?_) rfl (by kernel_rfl) (by kernel_rfl) (by kernel_rfl) (fun _ _ _ h => h) (Or.inl ⟨by rfl, ?_⟩) (by assumption) ?_
   rotate_left 1
   ·
    (intro w hSw; (try dsimp only at hSw); go_simp; (try with_reducible rfl))
   try go_frame
   refine take_at (i := 4) (v := ?_) rfl (by kernel_rfl) (by kernel_rfl) (by kernel_rfl) (fun _ _ _ h => h) (Or.inl ⟨by rfl, ?_⟩) (by assumption) ?_
   rotate_left 1
   ·
    (intro w hSw; (try dsimp only at hSw); go_simp; (try with_reducible rfl))
   try go_frame
   refine take_at (i := 5) (v := ?_) rfl (by kernel_rfl) (by kernel_rfl) (by kernel_rfl) (fun _ _ _ h => h) (Or.inl ⟨by rfl, ?_⟩) (by assumption) ?_
   rotate_left 1
   ·
    (intro w hSw; (try dsimp only at hSw); go_simp; (try with_reducible rfl))
   try go_frame
   refine take_at (i := 6) (v := ?_) rfl (by kernel_rfl) (by kernel_rfl) (by kernel_rfl) (fun _ _ _ h => h) (Or.inl ⟨by rfl, ?_⟩) (by assumption) ?_
   rotate_left 1
   ·
    (intro w hSw; (try dsimp only at hSw); go_simp; (try with_reducible rfl))
   try go_frame
   refine take_at (i := 7) (v := ?_) rfl (by kernel_rfl) (by kernel_rfl) (by kernel_rfl) (fun _ _ _ h => h) (Or.inl ⟨by rfl, ?_⟩) (by assumption) ?_
   rotate_left 1
   ·
    (intro w hSw; (try dsimp only at hSw); go_simp; (try with_reducible rfl))
   try go_frame
   refine take_at (i := 8) (v := ?_) rfl (by kernel_rfl) (by kernel_rfl) (by kernel_rfl) (fun _ _ _ h => h) (Or.inl ⟨by rfl, ?_⟩) (by assumption) ?_
   rotate_left 1
   ·
    (intro w hSw; (try dsimp only at hSw); go_simp; (try with_reducible rfl))
   try go_frame
   refine take_at (i := 9) (v := ?_) rfl (by kernel_rfl) (by kernel_rfl) (by kernel_rfl) (fun _ _ _ h => h) (Or.inl ⟨by rfl, ?_⟩) (by assumption) ?_
   rotate_left 1
   ·
    (intro w hSw; (try dsimp only at hSw); go_simp; (try with_reducible rfl))
   try go_frame
   refine take_at (i := 10) (v := ?_) rfl (by kernel_rfl) (by kernel_rfl) (by kernel_rfl) (fun _ _ _ h => h) (Or.inl ⟨by rfl, ?_⟩) (by assumption) ?_
   rotate_left 1
   ·
    (intro w hSw; (try dsimp only at hSw); go_simp; (try with_reducible rfl))
   try go_frame
   refine wpAnyH_ready (rs := [11]) (by kernel_rfl) (by simp) ?_
   refine cons_at (i := 11) rfl (fun K hK => ?_) AllReadyH.nil
   go_simp
   go_at_call 31
   refine (mayHave_any _ _).mono ?_
   rw [hm]
   rintro e w' ⟨rfl, rfl⟩
   refine hK.out _ _ ?_ (fun hHeld => ?_)
   ·
    assumption
   clear hK K
   refine take_at (i := 12) (v := ?_) rfl (by kernel_rfl) (by kernel_rfl) (by kernel_rfl) (fun _ _ _ h => h) (Or.inl ⟨by rfl, ?_⟩) (by assumption) ?_
   rotate_left 1
   ·
    (intro w hSw; (try dsimp only at hSw); go_simp; (try with_reducible rfl))
   try go_frame
   refine take_at (i := 13) (v := ?_) rfl (by kernel_rfl) (by kernel_rfl) (by kernel_rfl) (fun _ _ _ h => h) (Or.inl ⟨by rfl, ?_⟩) (by assumption) ?_
   rotate_left 1
   ·
    (intro w hSw; (try dsimp only at hSw); go_simp; (try with_reducible rfl))
   try go_frame
   refine take_at (i := 14) (v := undef) rfl (by kernel_rfl) (by kernel_rfl) (by kernel_rfl) (fun _ _ _ h => h) (Or.inr ⟨by rfl, rfl⟩) (by assumption) ?_
   try go_frame
   refine take_at (i := 15) (v := undef) rfl (by kernel_rfl) (by kernel_rfl) (by kernel_rfl) (fun _ _ _ h => h) (Or.inr ⟨by rfl, rfl⟩) (by assumption) ?_
   try go_frame
   refine take_at (i := 16) (v := undef) rfl (by kernel_rfl) (by kernel_rfl) (by kernel_rfl) (fun _ _ _ h => h) (Or.inr ⟨by rfl, rfl⟩) (by assumption) ?_
   try go_frame
   refine take_at (i := 17) (v := undef) rfl (by kernel_rfl) (by kernel_rfl) (by kernel_rfl) (fun _ _ _ h => h) (Or.inr ⟨by rfl, rfl⟩) (by assumption) ?_
   try go_frame
   refine take_at (i := 18) (v := undef) rfl (by kernel_rfl) (by kernel_rfl) (by kernel_rfl) (fun _ _ _ h => h) (Or.inr ⟨by rfl, rfl⟩) (by assumption) ?_
   try go_frame
   refine take_at (i := 19) (v := undef) rfl (by kernel_rfl) (by kernel_rfl) (by kernel_rfl) (fun _ _ _ h => h) (Or.inr ⟨by rfl, rfl⟩) (by assumption) ?_
   try go_frame
   refine take_at (i := 20) (v := undef) rfl (by kernel_rfl) (by kernel_rfl) (by kernel_rfl) (fun _ _ _ h => h) (Or.inr ⟨by rfl, rfl⟩) (by assumption) ?_
   try go_frame
   refine take_at (i := 21) (v := undef) rfl (by kernel_rfl) (by kernel_rfl) (by kernel_rfl) (fun _ _ _ h => h) (Or.inr ⟨by rfl, rfl⟩) (by assumption) ?_
   try go_frame
   refine take_at (i := 22) (v := undef) rfl (by kernel_rfl) (by kernel_rfl) (by kernel_rfl) (fun _ _ _ h => h) (Or.inr ⟨by rfl, rfl⟩) (by assumption) ?_
   try go_frame
   refine take_at (i := 23) (v := ?_) rfl (by kernel_rfl) (by kernel_rfl) (by kernel_rfl) (fun _ _ _ h => h) (Or.inl ⟨by rfl, ?_⟩) (by assumption) ?_
   rotate_left 1
   ·
    (intro w hSw; (try dsimp only at hSw); go_simp; (try with_reducible rfl))
   try go_frame
   refine take_at (i := 24) (v := ?_) rfl (by kernel_rfl) (by kernel_rfl) (by kernel_rfl) (fun _ _ _ h => h) (Or.inl ⟨by rfl, ?_⟩) (by assumption) ?_
   rotate_left 1
   ·
    (intro w hSw; (try dsimp only at hSw); go_simp; (try with_reducible rfl))
   try go_frame
   refine wpAnyH_done (by kernel_rfl) ?_ _
   refine NoPanic.normal ?_
   go_wp2
   go_ret
   exact ⟨ret_bool he.out.symm, hB0.drew⟩
  | true =>
   have he : Hid (rightA b m = ((countB [b.take 10, m.take 10] : Int) == 10)) := right_ten (by omega) (by rw [← hn']; exact hm)
   have hr : 24 ≤ n ∧ n ≤ 2048 := by unfold mayB at hm; simp at hm; omega
   have hc1 : n ≤ c := by rw [hn]; exact hB.1
   have hc2 : n ≤ c' := by rw [hn']; exact hB'.1
   obtain ⟨b1, o1, rfl, -⟩ := hB.some (by omega)
   obtain ⟨b2, o2, rfl, -⟩ := hB'.some (by omega)
   have hd1 : (10 : Int) ≤ c := by omega
   have hd2 : (10 : Int) ≤ c' := by omega
   obtain ⟨X, hX⟩ : ∃ X, Hid (X = countB [b.take 10, m.take 10]) := ⟨_, rfl⟩
   have cc : ∀ W, Below w.heap.size w W → Calls Try.prog 32 #[.slice (some ⟨W.heap.size, 0, none⟩) 2 2] (W.alloc (.cells #[.slice (some ⟨b1, o1, none⟩) 10 c, .slice (some ⟨b2, o2, none⟩) 10 c'] 22)) fun e w' => e = .returned (.int .i64 X) ∧ Below W.heap.size W w' := by
    intro W hW
    rw [hX.out]
    exact count_two W _ _ c c' 10 10 (b.take 10) (m.take 10) (by rw [List.length_take]; omega) (by rw [List.length_take]; omega) ((hB.take 10).below hW) ((hB'.take 10).below hW)
   rw [← hX.out] at he
   clear hn hn' hB hB' hX
   go_enter Try.func22, Try.ntmps22
   go_wp2
   generalize w.alloc (.cells #[.slice (some ⟨b1, o1, none⟩) n c, .slice (some ⟨b2, o2, none⟩) n c'] 24) = W at q0 q1 hB0 ⊢
   replace hB0 := hB0.drew
   go_region_held3 (fun V => V.cell? ⟨w.heap.size, 0, none⟩ = some (.slice (some ⟨b1, o1, none⟩) n c) ∧ V.cell? ⟨w.heap.size, 1, none⟩ = some (.slice (some ⟨b2, o2, none⟩) n c')) (first | exact ⟨q0, q1⟩ | exact ⟨cell_alloc q0 _, cell_alloc q1 _⟩) (first
    | (go_at_call 31; refine (mayHave_any _ _).mono ?_; rw [hm]; rintro e w' ⟨rfl, rfl⟩)
    | (go_at_call 32; refine (cc _ hB0).mono ?_; rintro e w' ⟨rfl, hb⟩; replace q0 := cell_below hb q0; replace q1 := cell_below hb q1; replace hB0 := Below.tr hB0 hb; clear hb))
   go_wp2
   go_ret
   exact ⟨ret_bool he.out.symm, hB0⟩
 ·
  have he : Hid (rightA b m = false) := right_lens (by omega)
  have hl' : ((n : Int) == n') = false := by rw [beq_eq_false_iff_ne]; omega
  clear hn hn' hB hB'
  go_enter Try.func22, Try.ntmps22
  go_wp2
  generalize w.alloc (.cells #[.slice a n c, .slice a' n' c'] 24) = W at q0 q1 hB0 ⊢
  refine wp_region_noPanic ?_
  refine wp_region_held_drew (S := fun V => V.cell? ⟨w.heap.size, 0, none⟩ = some (.slice a n c) ∧ V.cell? ⟨w.heap.size, 1, none⟩ = some (.slice a' n' c')) (by kernel_rfl) ⟨q0, q1⟩ (fun hHeld => ?_)
  refine take_at (i := 0) (v := ?_) rfl (by kernel_rfl) (by kernel_rfl) (by kernel_rfl) (fun _ _ _ h => h) (Or.inl ⟨by rfl, ?_⟩) (by assumption) ?_
  rotate_left 1
  ·
   (intro w hSw; (try dsimp only at hSw); go_simp; (try with_reducible rfl))
  try go_frame
  refine take_at (i := 1) (v := ?_) rfl (by kernel_rfl) (by kernel_rfl) (by kernel_rfl) (fun _ _ _ h => h) (Or.inl ⟨by rfl, ?_⟩) (by assumption) ?_
  rotate_left 1
  ·
   (intro w hSw; (try dsimp only at hSw); go_simp; (try with_reducible rfl))
  try go_frame
  refine take_at (i := 2) (v := ?_) rfl (by kernel_rfl) (by kernel_rfl) (by kernel_rfl) (fun _ _ _ h => h) (Or.inl ⟨by rfl, ?_⟩) (by assumption) ?_
  rotate_left 1
  ·
   (intro w hSw; (try dsimp only at hSw); go_simp; (try with_reducible rfl))
  try go_frame
  refine take_at (i := 3) (v := ?_) rfl (by kernel_rfl) (by kernel_rfl) (by kernel_rfl) (fun _ _ _ h => h) (Or.inl ⟨by rfl, ?_⟩) (by assumption) ?_
  rotate_left 1
  ·
   (intro w hSw; (try dsimp only at hSw); go_simp; (try with_reducible rfl))
  try go_frame
  refine take_at (i := 4) (v := ?_) rfl (by kernel_rfl) (by kernel_rfl) (by kernel_rfl) (fun _ _ _ h => h) (Or.inl ⟨by rfl, ?_⟩) (by assumption) ?_
  rotate_left 1
  ·
   (intro w hSw; (try dsimp only at hSw); go_simp; (try with_reducible rfl))
  try go_frame
  refine take_at (i := 5) (v := ?_) rfl (by kernel_rfl) (by kernel_rfl) (by kernel_rfl) (fun _ _ _ h => h) (Or.inl ⟨by rfl, ?_⟩) (by assumption) ?_
  rotate_left 1
  ·
   (intro w hSw; (try dsimp only at hSw); go_simp; (try with_reducible rfl))
  try go_frame
  refine take_at (i := 6) (v := ?_) rfl (by kernel_rfl) (by kernel_rfl) (by kernel_rfl) (fun _ _ _ h => h) (Or.inl ⟨by rfl, ?_⟩) (by assumption) ?_
  rotate_left 1
  ·
   (intro w hSw; (try dsimp only at hSw); go_simp; (try with_reducible rfl))
  try go_frame
  refine take_at (i := 7) (v := ?_) rfl (by kernel_rfl) (by kernel_rfl) (by kernel_rfl) (fun _ _ _ h => h) (Or.inl ⟨by rfl, ?_⟩) (by assumption) ?_
  rotate_left 1
  ·
   (intro w hSw; (try dsimp only at hSw); go_simp; (try with_reducible rfl))
  try go_frame
  refine take_at (i := 8) (v := undef) rfl (by kernel_rfl) (by kernel_rfl) (by kernel_rfl) (fun _ _ _ h => h) (Or.inr ⟨by rfl, rfl⟩) (by assumption) ?_
  try go_frame
  refine take_at (i := 9) (v := undef) rfl (by kernel_rfl) (by kernel_rfl) (by kernel_rfl) (fun _ _ _ h => h) (Or.inr ⟨by rfl, rfl⟩) (by assumption) ?_
  try go_frame
  refine take_at (i := 10) (v := undef) rfl (by kernel_rfl) (by kernel_rfl) (by kernel_rfl) (fun _ _ _ h => h) (Or.inr ⟨by rfl, rfl⟩) (by assumption) ?_
  try go_frame
  refine take_at (i := 11) (v := undef) rfl (by kernel_rfl) (by kernel_rfl) (by kernel_rfl) (fun _ _ _ h => h) (Or.inr ⟨by rfl, rfl⟩) (by assumption) ?_
  try go_frame
  refine take_at (i := 12) (v := ?_) rfl (by kernel_rfl) (by kernel_rfl) (by kernel_rfl) (fun _ _ _ h => h) (Or.inl ⟨by rfl, ?_⟩) (by assumption) ?_
  rotate_left 1
  ·
   (intro w hSw; (try dsimp only at hSw); go_simp; (try with_reducible rfl))
  try go_frame
  refine take_at (i := 13) (v := ?_) rfl (by kernel_rfl) (by kernel_rfl) (by kernel_rfl) (fun _ _ _ h => h) (Or.inl ⟨by rfl, ?_⟩) (by assumption) ?_
  rotate_left 1
  ·
   (intro w hSw; (try dsimp only at hSw); go_simp; (try with_reducible rfl))
  try go_frame
  refine take_at (i := 14) (v := undef) rfl (by kernel_rfl) (by kernel_rfl) (by kernel_rfl) (fun _ _ _ h => h) (Or.inr ⟨by rfl, rfl⟩) (by assumption) ?_
  try go_frame
  refine take_at (i := 15) (v := undef) rfl (by kernel_rfl) (by kernel_rfl) (by kernel_rfl) (fun _ _ _ h => h) (Or.inr ⟨by rfl, rfl⟩) (by assumption) ?_
  try go_frame
  refine take_at (i := 16) (v := undef) rfl (by kernel_rfl) (by kernel_rfl) (by kernel_rfl) (fun _ _ _ h => h) (Or.inr ⟨by rfl, rfl⟩) (by assumption) ?_
  try go_frame
  refine take_at (i := 17) (v := undef) rfl (by kernel_rfl) (by kernel_rfl) (by kernel_rfl) (fun _ _ _ h => h) (Or.inr ⟨by rfl, rfl⟩) (by assumption) ?_
  try go_frame
  refine take_at (i := 18) (v := undef) rfl (by kernel_rfl) (by kernel_rfl) (by kernel_rfl) (fun _ _ _ h => h) (Or.inr ⟨by rfl, rfl⟩) (by assumption) ?_
  try go_frame
  refine take_at (i := 19) (v := undef) rfl (by kernel_rfl) (by kernel_rfl) (by kernel_rfl) (fun _ _ _ h => h) (Or.inr ⟨by rfl, rfl⟩) (by assumption) ?_
  try go_frame
  refine take_at (i := 20) (v := undef) rfl (by kernel_rfl) (by kernel_rfl) (by kernel_rfl) (fun _ _ _ h => h) (Or.inr ⟨by rfl, rfl⟩) (by assumption) ?_
  try go_frame
  refine take_at (i := 21) (v := undef) rfl (by kernel_rfl) (by kernel_rfl) (by kernel_rfl) (fun _ _ _ h => h) (Or.inr ⟨by rfl, rfl⟩) (by assumption) ?_
  try go_frame
  refine take_at (i := 22) (v := undef) rfl (by kernel_rfl) (by kernel_rfl) (by kernel_rfl) (fun _ _ _ h => h) (Or.inr ⟨by rfl, rfl⟩) (by assumption) ?_
  try go_frame
  refine take_at (i := 23) (v := ?_) rfl (by kernel_rfl) (by kernel_rfl) (by kernel_rfl) (fun _ _ _ h => h) (Or.inl ⟨by rfl, ?_⟩) (by assumption) ?_
  rotate_left 1
  ·
   (intro w hSw; (try dsimp only at hSw); go_simp; (try with_reducible rfl))
  try go_frame
  refine take_at (i := 24) (v := ?_) rfl (by kernel_rfl) (by kernel_rfl) (by kernel_rfl) (fun _ _ _ h => h) (Or.inl ⟨by rfl, ?_⟩) (by assumption) ?_
  rotate_left 1
  ·
   (intro w hSw; (try dsimp only at hSw); go_simp; (try with_reducible rfl))
  try go_frame
  refine wpAnyH_done (by kernel_rfl) ?_ _
  refine NoPanic.normal ?_
  go_wp2
  go_ret
  exact ⟨ret_bool he.out.symm, hB0.drew⟩
end Go.Proofs.Ytpepgpjiddophaa
namespace Go.Proofs.Ytpepgpjiddophaa.Anyorder
open Go
end Go.Proofs.Ytpepgpjiddophaa.Anyorder
namespace Go.Proofs.Ytpepgpjiddophaa
open Go.RowKit Plain Anyorder
set_option linter.unusedVariables false
end Go.Proofs.Ytpepgpjiddophaa
namespace Go.Proofs.Ytpepgpjiddophaa
open Go.RowKit Plain
set_option linter.unusedVariables false
def usedL (k j : Nat) : List Bool := (List.range k).map fun i => decide (i < j)
theorem usedL_length (k j : Nat) : (usedL k j).length = k := by simp [usedL]
theorem usedL_get {k i : Nat} (j : Nat) (h : i < k) : (usedL k j)[i]? = some (decide (i < j)) := by
 unfold usedL; rw [List.getElem?_map, List.getElem?_range h]; rfl
theorem usedL_zero (k : Nat) : usedL k 0 = List.replicate k false := by
 apply List.ext_getElem?
 intro i
 by_cases h : i < k
 ·
  rw [usedL_get 0 h, List.getElem?_replicate, if_pos h]; simp
 ·
  rw [List.getElem?_eq_none (by rw [usedL_length]; omega), List.getElem?_eq_none (by simp; omega)]
theorem usedL_set {k j : Nat} (h : j < k) : (usedL k j).set j true = usedL k (j + 1) := by
 apply List.ext_getElem?
 intro i
 by_cases hi : i < k
 ·
  rw [usedL_get _ hi]
  by_cases e : j = i
  ·
   subst e
   rw [List.getElem?_set_self (by rw [usedL_length]; exact h)]
   simp
  ·
   rw [List.getElem?_set_ne e, usedL_get _ hi, show decide (i < j + 1) = decide (i < j) from by rw [decide_eq_decide]; omega]
 ·
  rw [List.getElem?_eq_none (by rw [List.length_set, usedL_length]; omega), List.getElem?_eq_none (by rw [usedL_length]; omega)]
theorem two_box2 {w W : World} {v0 v1 u0 u1 : Value} {t : TypeId} (hW : W = (w.alloc (.cells #[v0, v1] t)).alloc (.cells #[u0, u1] t)) :
  Below w.heap.size w W ∧ W.heap.size = w.heap.size + 2 ∧ Box2 W w.heap.size v0 v1 ∧ Box2 W (w.heap.size + 1) u0 u1 := by
 subst hW
 refine ⟨((Below.refl _ _).alloc (Nat.le_refl _) _).alloc (by simp) _, by simp, (box2_new _ _ _ _ rfl).alloc _, box2_new _ _ _ _ (by simp)⟩
theorem right_size {b m : List Bool} (h : ¬ (24 ≤ m.length ∧ m.length ≤ 2048)) : rightA b m = false := by
 rw [Bool.eq_false_iff]
 intro hr
 obtain ⟨_, h1, h2, _⟩ := (rightA_iff b m).1 hr
 exact h ⟨h1, h2⟩
theorem right_place {b m : List Bool} {i : Nat} (hi : i < 10) (h : atB b i = false ∨ atB m i = false) : rightA b m = false := by
 rw [Bool.eq_false_iff]
 intro hr
 obtain ⟨_, _, _, h4⟩ := (rightA_iff b m).1 hr
 obtain ⟨h5, h6⟩ := h4 i hi
 rcases h with h | h
 ·
  rw [h] at h5; cases h5
 ·
  rw [h] at h6; cases h6
set_option maxHeartbeats 1000000 in
theorem allocRefRight_any (a a' : Option Addr) (c c' n n' : Nat) (b m : List Bool) (w : World) (hn : n = b.length) (hn' : n' = m.length) (hB : IsB w a c b) (hB' : IsB w a' c' m) :
  Calls Try.prog 18 #[.agg #[.slice a n c, .slice a' n' c']] w fun e w' => e = .returned (.bool (rightA b m)) ∧ Below w.heap.size w w' := by
 have hnb : n ≤ 9223372036854775807 := by rw [hn]; exact Nat.le_trans hB.1 hB.2.1
 have hnb' : n' ≤ 9223372036854775807 := by rw [hn']; exact Nat.le_trans hB'.1 hB'.2.1
 have hB0 : Below w.heap.size w (w.alloc (.cells #[.slice a n c, .slice a' n' c'] 24)) := (Below.refl _ _).alloc (Nat.le_refl _) _
 obtain ⟨⟨q0, q1⟩, -⟩ := box2_new w (.slice a n c) (.slice a' n' c') 24 rfl
 by_cases hl : n = n'
 ·
  subst hl
  by_cases h24 : 24 ≤ n
  ·
   by_cases h48 : n ≤ 2048
   ·
    have h1 : ¬ (n : Int) < 24 := by omega
    have h2 : ¬ (2048 : Int) < n := by omega
    have HB : Hid (IsB _ a c b) := hB.below hB0
    have HB' : Hid (IsB _ a' c' m) := hB'.below hB0
    have HN : Hid (n = b.length ∧ n = m.length) := ⟨hn, hn'⟩
    obtain ⟨b1, o1, rfl, -⟩ := hB.some (by omega)
    obtain ⟨b2, o2, rfl, -⟩ := hB'.some (by omega)
    clear hn hn' hB hB'
    go_enter Try.func18, Try.ntmps18
    go_wp2
    generalize w.alloc (.cells #[.slice (some ⟨b1, o1, none⟩) n c, .slice (some ⟨b2, o2, none⟩) n c'] 24) = W at q0 q1 hB0 HB HB' ⊢
    go_loopw [3] (fun v wr => ∃ j : Nat, j ≤ 10 ∧ v = .int .i64 j ∧ (∀ i, i < j → atB b i = true ∧ atB m i = true) ∧ W = wr) (fun v _ => 10 - (intOf v).toNat)
    case atStart => exact ⟨0, by omega, rfl, fun i hi => by omega, by trivial⟩
    case round =>
     obtain ⟨j, hj, rfl, hall, rfl⟩ := hrel
     have HA : Hid (∀ i, i < j → atB b i = true ∧ atB m i = true) := hall
     clear hall
     by_cases hlt : j < 10
     ·
      have hlt' : (j : Int) < 10 := by omega
      have hjn : (j : Int) < n := by omega
      obtain ⟨x, hx⟩ : ∃ q, Hid (b[j]? = some q) := ⟨_, List.getElem?_eq_getElem (by rw [← HN.out.1]; omega)⟩
      obtain ⟨y, hy⟩ : ∃ q, Hid (m[j]? = some q) := ⟨_, List.getElem?_eq_getElem (by rw [← HN.out.2]; omega)⟩
      have hc1 := HB.out.at hx.out
      have hc2 := HB'.out.at hy.out
      cases x with
      | false =>
       have hE : Hid (rightA b m = false) := right_place hlt (.inl (atB_some hx.out))
       go_wp2
       go_ret
       exact ⟨ret_bool hE.out.symm, hB0⟩
      | true =>
       cases y with
       | false =>
        have hE : Hid (rightA b m = false) := right_place hlt (.inr (atB_some hy.out))
        go_wp2
        go_ret
        exact ⟨ret_bool hE.out.symm, hB0⟩
       | true =>
        have hnx : Hid (∀ i, i < j + 1 → atB b i = true ∧ atB m i = true) := by
         intro i hi
         by_cases e : i = j
         ·
          rw [e]; exact ⟨atB_some hx.out, atB_some hy.out⟩
         ·
          exact HA.out i (by omega)
        go_wp2
        go_roundw
        case rel => exact ⟨j + 1, by omega, by go_num, hnx.out, by trivial⟩
        case measure => simp [intOf]; omega
     ·
      obtain rfl : j = 10 := by omega
      have hE : Hid (rightA b m = true) := (rightA_iff b m).2 ⟨HN.out.1.symm.trans HN.out.2, by have := HN.out.2; omega, by have := HN.out.2; omega, HA.out⟩
      go_wp2
      go_ret
      exact ⟨ret_bool hE.out.symm, hB0⟩
   ·
    have hE : Hid (rightA b m = false) := right_size (by omega)
    have h1 : ¬ (n : Int) < 24 := by omega
    have h2 : (2048 : Int) < n := by omega
    clear hn hn' hB hB'
    go_enter Try.func18, Try.ntmps18
    go_wp2
    go_ret
    exact ⟨ret_bool hE.out.symm, hB0⟩
  ·
   have hE : Hid (rightA b m = false) := right_size (by omega)
   have h1 : (n : Int) < 24 := by omega
   clear hn hn' hB hB'
   go_enter Try.func18, Try.ntmps18
   go_wp2
   go_ret
   exact ⟨ret_bool hE.out.symm, hB0⟩
 ·
  have hE : Hid (rightA b m = false) := right_lens (by omega)
  have hl' : ((n : Int) == n') = false := by rw [beq_eq_false_iff_ne]; omega
  clear hn hn' hB hB'
  go_enter Try.func18, Try.ntmps18
  go_wp2
  go_ret
  exact ⟨ret_bool hE.out.symm, hB0⟩
end Go.Proofs.Ytpepgpjiddophaa
namespace Go.Proofs.Ytpepgpjiddophaa
namespace Plain
def rightW (bs ns : List Bool) (ps : List ByteArray) (root gen : Int) : Bool :=
 rightA bs ns && decide (ps.length = ns.length) && decide (1 ≤ gen) && decide (gen ≤ 1099511627776) && ps.all (fun s => decide (s.size ≤ 4096)) && (decide (root = 0) || (decide (10 ≤ root) && decide (root < ns.length)))
end Plain
open Go.RowKit Plain
set_option linter.unusedVariables false
theorem readB_few (s : ByteArray) : (readB s).size ≤ 4096 := by
 unfold readB
 by_cases h : readE s = 0
 ·
  rw [if_pos h]
  have hs : s.size ≤ 4096 := by
   by_cases hs : s.size ≤ 4096
   ·
    exact hs
   ·
    rw [readE, if_neg hs] at h; omega
  unfold fB
  rw [ByteArray.size_extract, fullS_size hs]
  omega
 ·
  rw [if_neg h]
  exact Nat.zero_le _
def pageN (s : ByteArray) (gen : Int) (root : Bool) : Option NodeS :=
 if readE s = 0 ∧ readG s ≤ gen ∧ gE (readK s) (readB s) = 0 ∧ rightN (gN (readK s) (readB s)).1 (gN (readK s) (readB s)).2.1 (gN (readK s) (readB s)).2.2.1 (gN (readK s) (readB s)).2.2.2 root = true then some (gN (readK s) (readB s)) else none
def holdsS (ns : List Bool) (ps : List ByteArray) (gen : Int) (block : Int) (root : Bool) : Option NodeS :=
 if 10 ≤ block ∧ block < ns.length ∧ block < ps.length ∧ ns.getD block.toNat false = true then pageN (ps.getD block.toNat ⟨#[]⟩) gen root else none
def HoldsC (w : World) (x : Ending) (w' : World) : Option NodeS → Prop
 | none => x = .returned (.tuple #[.agg #[.bool false, .slice none 0 0, .slice none 0 0, .slice none 0 0], .bool false]) ∧ Below w.heap.size w w'
 | some nd => ∃ k1 a1 d1 k2 a2 d2 k3 a3 d3, x = .returned (.tuple #[.agg #[.bool nd.1, .slice a1 k1 d1, .slice a2 k2 d2, .slice a3 k3 d3], .bool true]) ∧ k1 = nd.2.1.length ∧ k2 = nd.2.2.1.length ∧ k3 = nd.2.2.2.length ∧ IsS w' a1 d1 nd.2.1 ∧ IsS w' a2 d2 nd.2.2.1 ∧ IsI w' a3 d3 nd.2.2.2 ∧ From w.heap.size a1 ∧ From w.heap.size a2 ∧ From w.heap.size a3 ∧ Below w.heap.size w w'
set_option maxRecDepth 20000 in
set_option maxHeartbeats 4000000 in
theorem holds_any (a a' b : Option Addr) (n c n' c' p f : Nat) (ns : List Bool) (ps : List ByteArray) (root gen block : Int) (rt : Bool) (w : World) (hn' : n' = ns.length) (hp : p = ps.length) (hB' : IsB w a' c' ns) (hP : IsS w b f ps) :
  Calls Try.prog 29 #[.agg #[.slice a n c, .slice a' n' c', .slice b p f, .int .i64 root, .int .i64 gen], .int .i64 block, .bool rt] w fun x w' => HoldsC w x w' (holdsS ns ps gen block rt) := by
 obtain ⟨W, hW⟩ : ∃ W, W = (w.alloc (.cells #[.slice a n c, .slice a' n' c', .slice b p f, .int .i64 root, .int .i64 gen] 27)).alloc (.cells #[.bool false, .slice none 0 0, .slice none 0 0, .slice none 0 0] 62) := ⟨_, rfl⟩
 have BW : WoodBox W w.heap.size (.slice a n c) (.slice a' n' c') (.slice b p f) (.int .i64 root) (.int .i64 gen) := by rw [hW]; exact (woodBox_new _ _ _ _ _ _ _ rfl).below ((Below.refl _ _).alloc (Nat.le_refl _) _)
 have BR : Box4 W (w.heap.size + 1) (.bool false) (.slice none 0 0) (.slice none 0 0) (.slice none 0 0) := by rw [hW]; exact box4_new _ _ _ _ _ _ (by simp)
 have HB : Below w.heap.size w W := by rw [hW]; exact ((Below.refl _ _).alloc (Nat.le_refl _) _).alloc (by simp) _
 have hle : w.heap.size ≤ w.heap.size + 1 := by omega
 have mn : n' ≤ 9223372036854775807 := by rw [hn']; exact Nat.le_trans hB'.1 hB'.2.1
 have mp : p ≤ 9223372036854775807 := by rw [hp]; exact Nat.le_trans hP.1 hP.2.1
 obtain ⟨O, hO'⟩ : ∃ O, O = holdsS ns ps gen block rt := ⟨_, rfl⟩
 rw [← hO']
 obtain ⟨⟨r0, r1, r2, r3⟩, f0, f1, f2, f3⟩ := id (hW ▸ BR)
 obtain ⟨x0, x1, x2, x3, x4⟩ := id (hW ▸ BW)
 by_cases hin : 10 ≤ block ∧ block < ns.length ∧ block < ps.length ∧ ns.getD block.toNat false = true
 ·
  have hO1 : O = pageN (ps.getD block.toNat ⟨#[]⟩) gen rt := by rw [hO']; unfold holdsS; rw [if_pos hin]
  obtain ⟨h10, hl1, hl2, hnow⟩ := hin
  obtain ⟨i, rfl⟩ : ∃ i : Nat, block = i := ⟨block.toNat, by omega⟩
  simp only [Int.toNat_natCast] at hnow hO1
  have hi1 : i < ns.length := by omega
  have hi2 : i < ps.length := by omega
  have hgn : ns[i]? = some true := by rw [List.getD_eq_getElem?_getD, List.getElem?_eq_getElem hi1] at hnow; rw [List.getElem?_eq_getElem hi1]; exact congrArg some hnow
  obtain ⟨s, hs⟩ : ∃ s, ps[i]? = some s := ⟨_, List.getElem?_eq_getElem hi2⟩
  rw [List.getD_eq_getElem?_getD, hs] at hO1
  obtain ⟨b1, o1, rfl, hlb1, hc1⟩ := hB'.2.2 i true hgn
  obtain ⟨b2, o2, rfl, hlb2, hc2, hss⟩ := hP.2.2 i s hs
  have z1 := cell_below HB hc1
  have z2 := cell_below HB hc2
  rw [hW] at z1 z2
  have k1 : ¬ (i : Int) < 10 := by omega
  have k2 : ¬ (n' : Int) ≤ i := by omega
  have k3 : ¬ (p : Int) ≤ i := by omega
  have k4 : (i : Int) < n' := by omega
  have k5 : (i : Int) < p := by omega
  have cP := fun V => refPageGet_any s V hss
  have hrBs : (readB s).size ≤ maxLen := Nat.le_trans (readB_few s) (by unfold maxLen; omega)
  have cG := fun V => refNodeGet_any (readK s) (readB s) V hrBs
  have hO : O = pageN s gen rt := hO1
  unfold pageN at hO
  clear hO1 hO' hn' hp hB' hP h10 hl1 hl2 hnow hi1 hi2 hgn hs hlb1 hlb2 hc1 hc2 hss hrBs
  obtain ⟨rE, hrE⟩ : ∃ x, x = readE s := ⟨_, rfl⟩
  obtain ⟨rK, hrK⟩ : ∃ x, x = readK s := ⟨_, rfl⟩
  obtain ⟨rG, hrG⟩ : ∃ x, x = readG s := ⟨_, rfl⟩
  obtain ⟨rB, hrB⟩ : ∃ x, x = readB s := ⟨_, rfl⟩
  rw [← hrE, ← hrK, ← hrG, ← hrB] at hO
  rw [← hrE, ← hrK, ← hrG, ← hrB] at cP
  rw [← hrK, ← hrB] at cG
  clear hrE hrK hrG hrB
  obtain ⟨nE, hnE⟩ : ∃ x, x = gE rK rB := ⟨_, rfl⟩
  obtain ⟨⟨nl, nk, nv, nc⟩, hnd⟩ : ∃ x, x = gN rK rB := ⟨_, rfl⟩
  rw [← hnE, ← hnd] at hO cG
  clear hnE hnd
  have cR : ∀ V a1 d1 k1 a2 d2 k2 a3 d3 k3, k1 = nk.length → k2 = nv.length → k3 = nc.length → IsS V a1 d1 nk → IsS V a2 d2 nv → IsI V a3 d3 nc → Calls Try.prog 36 #[.agg #[.bool nl, .slice a1 k1 d1, .slice a2 k2 d2, .slice a3 k3 d3], .bool rt] V fun e w' => e = .returned (.bool (rightN nl nk nv nc rt)) ∧ Below V.heap.size V w' := fun V a1 d1 k1 a2 d2 k2 a3 d3 k3 h1 h2 h3 i1 i2 i3 => refNodeRight_any nl a1 a2 a3 d1 d2 d3 k1 k2 k3 nk nv nc rt V h1 h2 h3 i1 i2 i3
  by_cases hE : rE = 0
  ·
   subst hE
   by_cases hG : rG ≤ gen
   ·
    have hG' : ¬ gen < rG := by omega
    by_cases hNE : nE = 0
    ·
     subst hNE
     cases hR : rightN nl nk nv nc rt with
     | true =>
      replace hO : O = some (nl, nk, nv, nc) := by rw [hO, if_pos ⟨rfl, hG, rfl, hR⟩]
      rw [hR] at cR
      clear hR hG
      go_enter Try.func29, Try.ntmps29
      go_wp2_with (first
       | (go_at_call 34; rw [← hW]; refine (cP _).mono ?_; rintro y w1 ⟨rfl, hb⟩; have hA : Below w1.heap.size w1 (w1.alloc (.cells #[.int .i64 rK, .int .i64 rG, .string rB] 78)) := (Below.refl _ _).alloc (Nat.le_refl _) _; have b3 := box3_new w1 (.int .i64 rK) (.int .i64 rG) (.string rB) 78; replace HB := Below.tr (Below.tr HB hb) hA; replace BR := (BR.below hb).below hA; replace BW := (BW.below hb).below hA; clear r0 r1 r2 r3 f0 f1 f2 f3 x0 x1 x2 x3 x4; obtain ⟨⟨r0, r1, r2, r3⟩, f0, f1, f2, f3⟩ := id BR; obtain ⟨x0, x1, x2, x3, x4⟩ := id BW; obtain ⟨⟨g0, g1, g2⟩, -⟩ := id b3; clear hb hA b3)
       | (go_at_call 35; refine (cG _).mono ?_; rintro y w2 ⟨k1, a1, d1, k2, a2, d2, k3, a3, d3, rfl, e1, e2, e3, i1, i2, i3, j1, j2, j3, hb⟩; have hA : Below w2.heap.size w2 (w2.alloc (.cells #[.bool nl, .slice a1 k1 d1, .slice a2 k2 d2, .slice a3 k3 d3] 62)) := (Below.refl _ _).alloc (Nat.le_refl _) _; have b4 := box4_new w2 (.bool nl) (.slice a1 k1 d1) (.slice a2 k2 d2) (.slice a3 k3 d3) 62 rfl; have hlo : w.heap.size + 2 ≤ w1.heap.size + 1 := (by have := BR.lt; simp at this; omega); replace HB := Below.tr (Below.tr HB hb) hA; replace BR := (BR.below hb).below hA; clear r0 r1 r2 r3 f0 f1 f2 f3 x0 x1 x2 x3 x4 g0 g1 g2 BW; obtain ⟨⟨r0, r1, r2, r3⟩, f0, f1, f2, f3⟩ := id BR; obtain ⟨⟨m0, m1, m2, m3⟩, -⟩ := id b4; have E : Hid (k1 = nk.length ∧ k2 = nv.length ∧ k3 = nc.length) := ⟨e1, e2, e3⟩; have I : Hid (IsS (w2.alloc (.cells #[.bool nl, .slice a1 k1 d1, .slice a2 k2 d2, .slice a3 k3 d3] 62)) a1 d1 nk ∧ IsS (w2.alloc (.cells #[.bool nl, .slice a1 k1 d1, .slice a2 k2 d2, .slice a3 k3 d3] 62)) a2 d2 nv ∧ IsI (w2.alloc (.cells #[.bool nl, .slice a1 k1 d1, .slice a2 k2 d2, .slice a3 k3 d3] 62)) a3 d3 nc) := ⟨i1.below hA, i2.below hA, i3.below hA⟩; have J : Hid (From (w.heap.size + 2) a1 ∧ From (w.heap.size + 2) a2 ∧ From (w.heap.size + 2) a3) := ⟨j1.mono (by simp; omega), j2.mono (by simp; omega), j3.mono (by simp; omega)⟩; clear hb hA hlo e1 e2 e3 i1 i2 i3 j1 j2 j3)
       | (go_at_call 36; refine (cR _ a1 d1 k1 a2 d2 k2 a3 d3 k3 E.out.1 E.out.2.1 E.out.2.2 I.out.1 I.out.2.1 I.out.2.2).mono ?_; rintro y w3 ⟨rfl, hb⟩; replace HB := Below.tr HB hb; replace BR := BR.below hb; replace b4 := b4.below hb; clear r0 r1 r2 r3 f0 f1 f2 f3 m0 m1 m2 m3; obtain ⟨⟨r0, r1, r2, r3⟩, f0, f1, f2, f3⟩ := id BR; obtain ⟨⟨m0, m1, m2, m3⟩, -⟩ := id b4; replace I : Hid (IsS w3 a1 d1 nk ∧ IsS w3 a2 d2 nv ∧ IsI w3 a3 d3 nc) := ⟨I.out.1.below hb, I.out.2.1.below hb, I.out.2.2.below hb⟩; clear hb))
      have T4 := turns_put4 w3 (w.heap.size + 1) (.bool nl) (.slice a1 k1 d1) (.slice a2 k2 d2) (.slice a3 k3 d3)
      obtain ⟨j1, j2, j3⟩ := J.out
      refine bodyPost_ret (v := .tuple #[.agg #[.bool nl, .slice a1 k1 d1, .slice a2 k2 d2, .slice a3 k3 d3], .bool true]) (by simp [results, Try.results29, go_sem, r0, r1, r2, r3]) rfl ?_
      rw [hO]
      exact ⟨k1, a1, d1, k2, a2, d2, k3, a3, d3, rfl, E.out.1, E.out.2.1, E.out.2.2, I.out.1.turns T4 (fun x hx e => by have := j1 x hx; omega), I.out.2.1.turns T4 (fun x hx e => by have := j2 x hx; omega), I.out.2.2.turns T4 (fun x hx e => by have := j3 x hx; omega), j1.mono (by omega), j2.mono (by omega), j3.mono (by omega), below_put4 HB hle _ _ _ _⟩
     | false =>
      replace hO : O = none := by rw [hO, if_neg (fun h => by rw [hR] at h; exact absurd h.2.2.2 (by decide))]
      rw [hR] at cR
      clear hR hG
      go_enter Try.func29, Try.ntmps29
      go_wp2_with (first
       | (go_at_call 34; rw [← hW]; refine (cP _).mono ?_; rintro y w1 ⟨rfl, hb⟩; have hA : Below w1.heap.size w1 (w1.alloc (.cells #[.int .i64 rK, .int .i64 rG, .string rB] 78)) := (Below.refl _ _).alloc (Nat.le_refl _) _; have b3 := box3_new w1 (.int .i64 rK) (.int .i64 rG) (.string rB) 78; replace HB := Below.tr (Below.tr HB hb) hA; replace BR := (BR.below hb).below hA; replace BW := (BW.below hb).below hA; clear r0 r1 r2 r3 f0 f1 f2 f3 x0 x1 x2 x3 x4; obtain ⟨⟨r0, r1, r2, r3⟩, f0, f1, f2, f3⟩ := id BR; obtain ⟨x0, x1, x2, x3, x4⟩ := id BW; obtain ⟨⟨g0, g1, g2⟩, -⟩ := id b3; clear hb hA b3)
       | (go_at_call 35; refine (cG _).mono ?_; rintro y w2 ⟨k1, a1, d1, k2, a2, d2, k3, a3, d3, rfl, e1, e2, e3, i1, i2, i3, j1, j2, j3, hb⟩; have hA : Below w2.heap.size w2 (w2.alloc (.cells #[.bool nl, .slice a1 k1 d1, .slice a2 k2 d2, .slice a3 k3 d3] 62)) := (Below.refl _ _).alloc (Nat.le_refl _) _; have b4 := box4_new w2 (.bool nl) (.slice a1 k1 d1) (.slice a2 k2 d2) (.slice a3 k3 d3) 62 rfl; have hlo : w.heap.size + 2 ≤ w1.heap.size + 1 := (by have := BR.lt; simp at this; omega); replace HB := Below.tr (Below.tr HB hb) hA; replace BR := (BR.below hb).below hA; clear r0 r1 r2 r3 f0 f1 f2 f3 x0 x1 x2 x3 x4 g0 g1 g2 BW; obtain ⟨⟨r0, r1, r2, r3⟩, f0, f1, f2, f3⟩ := id BR; obtain ⟨⟨m0, m1, m2, m3⟩, -⟩ := id b4; have E : Hid (k1 = nk.length ∧ k2 = nv.length ∧ k3 = nc.length) := ⟨e1, e2, e3⟩; have I : Hid (IsS (w2.alloc (.cells #[.bool nl, .slice a1 k1 d1, .slice a2 k2 d2, .slice a3 k3 d3] 62)) a1 d1 nk ∧ IsS (w2.alloc (.cells #[.bool nl, .slice a1 k1 d1, .slice a2 k2 d2, .slice a3 k3 d3] 62)) a2 d2 nv ∧ IsI (w2.alloc (.cells #[.bool nl, .slice a1 k1 d1, .slice a2 k2 d2, .slice a3 k3 d3] 62)) a3 d3 nc) := ⟨i1.below hA, i2.below hA, i3.below hA⟩; have J : Hid (From (w.heap.size + 2) a1 ∧ From (w.heap.size + 2) a2 ∧ From (w.heap.size + 2) a3) := ⟨j1.mono (by simp; omega), j2.mono (by simp; omega), j3.mono (by simp; omega)⟩; clear hb hA hlo e1 e2 e3 i1 i2 i3 j1 j2 j3)
       | (go_at_call 36; refine (cR _ a1 d1 k1 a2 d2 k2 a3 d3 k3 E.out.1 E.out.2.1 E.out.2.2 I.out.1 I.out.2.1 I.out.2.2).mono ?_; rintro y w3 ⟨rfl, hb⟩; replace HB := Below.tr HB hb; replace BR := BR.below hb; replace b4 := b4.below hb; clear r0 r1 r2 r3 f0 f1 f2 f3 m0 m1 m2 m3; obtain ⟨⟨r0, r1, r2, r3⟩, f0, f1, f2, f3⟩ := id BR; obtain ⟨⟨m0, m1, m2, m3⟩, -⟩ := id b4; replace I : Hid (IsS w3 a1 d1 nk ∧ IsS w3 a2 d2 nv ∧ IsI w3 a3 d3 nc) := ⟨I.out.1.below hb, I.out.2.1.below hb, I.out.2.2.below hb⟩; clear hb))
      refine bodyPost_ret (v := .tuple #[.agg #[.bool false, .slice none 0 0, .slice none 0 0, .slice none 0 0], .bool false]) (by simp [results, Try.results29, go_sem, r0, r1, r2, r3]) rfl ?_
      rw [hO]
      exact ⟨rfl, below_put4 HB hle _ _ _ _⟩
    ·
     replace hO : O = none := by rw [hO, if_neg (fun h => hNE h.2.2.1)]
     clear hG
     go_enter Try.func29, Try.ntmps29
     go_wp2_with (first
      | (go_at_call 34; rw [← hW]; refine (cP _).mono ?_; rintro y w1 ⟨rfl, hb⟩; have hA : Below w1.heap.size w1 (w1.alloc (.cells #[.int .i64 rK, .int .i64 rG, .string rB] 78)) := (Below.refl _ _).alloc (Nat.le_refl _) _; have b3 := box3_new w1 (.int .i64 rK) (.int .i64 rG) (.string rB) 78; replace HB := Below.tr (Below.tr HB hb) hA; replace BR := (BR.below hb).below hA; replace BW := (BW.below hb).below hA; clear r0 r1 r2 r3 f0 f1 f2 f3 x0 x1 x2 x3 x4; obtain ⟨⟨r0, r1, r2, r3⟩, f0, f1, f2, f3⟩ := id BR; obtain ⟨x0, x1, x2, x3, x4⟩ := id BW; obtain ⟨⟨g0, g1, g2⟩, -⟩ := id b3; clear hb hA b3)
      | (go_at_call 35; refine (cG _).mono ?_; rintro y w2 ⟨k1, a1, d1, k2, a2, d2, k3, a3, d3, rfl, e1, e2, e3, i1, i2, i3, j1, j2, j3, hb⟩; have hA : Below w2.heap.size w2 (w2.alloc (.cells #[.bool nl, .slice a1 k1 d1, .slice a2 k2 d2, .slice a3 k3 d3] 62)) := (Below.refl _ _).alloc (Nat.le_refl _) _; have b4 := box4_new w2 (.bool nl) (.slice a1 k1 d1) (.slice a2 k2 d2) (.slice a3 k3 d3) 62 rfl; have hlo : w.heap.size + 2 ≤ w1.heap.size + 1 := (by have := BR.lt; simp at this; omega); replace HB := Below.tr (Below.tr HB hb) hA; replace BR := (BR.below hb).below hA; clear r0 r1 r2 r3 f0 f1 f2 f3 x0 x1 x2 x3 x4 g0 g1 g2 BW; obtain ⟨⟨r0, r1, r2, r3⟩, f0, f1, f2, f3⟩ := id BR; obtain ⟨⟨m0, m1, m2, m3⟩, -⟩ := id b4; have E : Hid (k1 = nk.length ∧ k2 = nv.length ∧ k3 = nc.length) := ⟨e1, e2, e3⟩; have I : Hid (IsS (w2.alloc (.cells #[.bool nl, .slice a1 k1 d1, .slice a2 k2 d2, .slice a3 k3 d3] 62)) a1 d1 nk ∧ IsS (w2.alloc (.cells #[.bool nl, .slice a1 k1 d1, .slice a2 k2 d2, .slice a3 k3 d3] 62)) a2 d2 nv ∧ IsI (w2.alloc (.cells #[.bool nl, .slice a1 k1 d1, .slice a2 k2 d2, .slice a3 k3 d3] 62)) a3 d3 nc) := ⟨i1.below hA, i2.below hA, i3.below hA⟩; have J : Hid (From (w.heap.size + 2) a1 ∧ From (w.heap.size + 2) a2 ∧ From (w.heap.size + 2) a3) := ⟨j1.mono (by simp; omega), j2.mono (by simp; omega), j3.mono (by simp; omega)⟩; clear hb hA hlo e1 e2 e3 i1 i2 i3 j1 j2 j3))
     refine bodyPost_ret (v := .tuple #[.agg #[.bool false, .slice none 0 0, .slice none 0 0, .slice none 0 0], .bool false]) (by simp [results, Try.results29, go_sem, r0, r1, r2, r3]) rfl ?_
     rw [hO]
     exact ⟨rfl, below_put4 HB hle _ _ _ _⟩
   ·
    have hG' : gen < rG := by omega
    replace hO : O = none := by rw [hO, if_neg (fun h => hG h.2.1)]
    clear hG
    go_enter Try.func29, Try.ntmps29
    go_wp2_with (go_at_call 34; rw [← hW]; refine (cP _).mono ?_; rintro y w1 ⟨rfl, hb⟩; have hA : Below w1.heap.size w1 (w1.alloc (.cells #[.int .i64 rK, .int .i64 rG, .string rB] 78)) := (Below.refl _ _).alloc (Nat.le_refl _) _; have b3 := box3_new w1 (.int .i64 rK) (.int .i64 rG) (.string rB) 78; replace HB := Below.tr (Below.tr HB hb) hA; replace BR := (BR.below hb).below hA; replace BW := (BW.below hb).below hA; clear r0 r1 r2 r3 f0 f1 f2 f3 x0 x1 x2 x3 x4; obtain ⟨⟨r0, r1, r2, r3⟩, f0, f1, f2, f3⟩ := id BR; obtain ⟨x0, x1, x2, x3, x4⟩ := id BW; obtain ⟨⟨g0, g1, g2⟩, -⟩ := id b3; clear hb hA b3)
    refine bodyPost_ret (v := .tuple #[.agg #[.bool false, .slice none 0 0, .slice none 0 0, .slice none 0 0], .bool false]) (by simp [results, Try.results29, go_sem, r0, r1, r2, r3]) rfl ?_
    rw [hO]
    exact ⟨rfl, below_put4 HB hle _ _ _ _⟩
  ·
   replace hO : O = none := by rw [hO, if_neg (fun h => hE h.1)]
   go_enter Try.func29, Try.ntmps29
   go_wp2_with (go_at_call 34; rw [← hW]; refine (cP _).mono ?_; rintro y w1 ⟨rfl, hb⟩; have hA : Below w1.heap.size w1 (w1.alloc (.cells #[.int .i64 rK, .int .i64 rG, .string rB] 78)) := (Below.refl _ _).alloc (Nat.le_refl _) _; have b3 := box3_new w1 (.int .i64 rK) (.int .i64 rG) (.string rB) 78; replace HB := Below.tr (Below.tr HB hb) hA; replace BR := (BR.below hb).below hA; replace BW := (BW.below hb).below hA; clear r0 r1 r2 r3 f0 f1 f2 f3 x0 x1 x2 x3 x4; obtain ⟨⟨r0, r1, r2, r3⟩, f0, f1, f2, f3⟩ := id BR; obtain ⟨x0, x1, x2, x3, x4⟩ := id BW; obtain ⟨⟨g0, g1, g2⟩, -⟩ := id b3; clear hb hA b3)
   refine bodyPost_ret (v := .tuple #[.agg #[.bool false, .slice none 0 0, .slice none 0 0, .slice none 0 0], .bool false]) (by simp [results, Try.results29, go_sem, r0, r1, r2, r3]) rfl ?_
   rw [hO]
   exact ⟨rfl, below_put4 HB hle _ _ _ _⟩
 ·
  have hO : O = none := by rw [hO']; unfold holdsS; rw [if_neg hin]
  clear hO'
  by_cases h10 : block < 10
  ·
   clear hin hn' hp hB' hP
   go_enter Try.func29, Try.ntmps29
   go_wp2
   refine bodyPost_ret (v := .tuple #[.agg #[.bool false, .slice none 0 0, .slice none 0 0, .slice none 0 0], .bool false]) (by simp [results, Try.results29, go_sem, r0, r1, r2, r3]) rfl ?_
   rw [hW] at HB
   first
    | exact ⟨rfl, HB⟩
    | (rw [hO]; exact ⟨rfl, HB⟩)
  ·
   by_cases hl1 : block < n'
   ·
    have hl1' : ¬ (n' : Int) ≤ block := by omega
    by_cases hl2 : block < p
    ·
     have hl2' : ¬ (p : Int) ≤ block := by omega
     obtain ⟨i, rfl⟩ : ∃ i : Nat, block = i := ⟨block.toNat, by omega⟩
     have hi1 : i < ns.length := by omega
     have hgn : ns[i]? = some false := by
      rw [List.getElem?_eq_getElem hi1]
      refine congrArg some (Bool.eq_false_iff.2 fun h => hin ⟨by omega, by omega, by omega, ?_⟩)
      rw [Int.toNat_natCast, List.getD_eq_getElem?_getD, List.getElem?_eq_getElem hi1]
      exact h
     obtain ⟨b1, o1, rfl, hlb1, hc1⟩ := hB'.2.2 i false hgn
     have z1 := cell_below HB hc1
     rw [hW] at z1
     clear hin hn' hp hB' hP hgn hi1 hc1 hlb1
     go_enter Try.func29, Try.ntmps29
     go_wp2
     refine bodyPost_ret (v := .tuple #[.agg #[.bool false, .slice none 0 0, .slice none 0 0, .slice none 0 0], .bool false]) (by simp [results, Try.results29, go_sem, r0, r1, r2, r3]) rfl ?_
     rw [hW] at HB
     first
      | exact ⟨rfl, HB⟩
      | (rw [hO]; exact ⟨rfl, HB⟩)
    ·
     have hl2' : (p : Int) ≤ block := by omega
     clear hin hn' hp hB' hP
     go_enter Try.func29, Try.ntmps29
     go_wp2
     refine bodyPost_ret (v := .tuple #[.agg #[.bool false, .slice none 0 0, .slice none 0 0, .slice none 0 0], .bool false]) (by simp [results, Try.results29, go_sem, r0, r1, r2, r3]) rfl ?_
     rw [hW] at HB
     first
      | exact ⟨rfl, HB⟩
      | (rw [hO]; exact ⟨rfl, HB⟩)
   ·
    have hl1' : (n' : Int) ≤ block := by omega
    clear hin hn' hp hB' hP
    go_enter Try.func29, Try.ntmps29
    go_wp2
    refine bodyPost_ret (v := .tuple #[.agg #[.bool false, .slice none 0 0, .slice none 0 0, .slice none 0 0], .bool false]) (by simp [results, Try.results29, go_sem, r0, r1, r2, r3]) rfl ?_
    rw [hW] at HB
    first
     | exact ⟨rfl, HB⟩
     | (rw [hO]; exact ⟨rfl, HB⟩)
end Go.Proofs.Ytpepgpjiddophaa
namespace Go.Proofs.Ytpepgpjiddophaa
open Go.RowKit Plain
set_option linter.unusedVariables false
theorem all_more {α : Type} {f : α → Bool} {xs : List α} {j : Nat} {x : α} (hx : xs[j]? = some x) : (xs.take (j + 1)).all f = ((xs.take j).all f && f x) := by
 rw [List.take_add_one, hx]
 simp
theorem holds_right {ns : List Bool} {ps : List ByteArray} {gen block : Int} {rt : Bool} {nd : NodeS} (h : holdsS ns ps gen block rt = some nd) : rightN nd.1 nd.2.1 nd.2.2.1 nd.2.2.2 rt = true := by
 unfold holdsS at h
 split at h
 ·
  unfold pageN at h
  split at h
  ·
   rename_i hh
   cases h
   exact hh.2.2.2
  ·
   cases h
 ·
  cases h
theorem holds_len {ns : List Bool} {ps : List ByteArray} {gen : Int} : ∀ b r (nd : NodeS), holdsS ns ps gen b r = some nd → nd.2.1.length ≤ 9 ∧ nd.2.2.2.length ≤ 10 ∧ (nd.1 = true → nd.2.2.1.length = nd.2.1.length) ∧ (nd.1 = false → nd.2.2.2.length = nd.2.1.length + 1) := by
 intro b r nd h
 obtain ⟨l, ks, vs, cs⟩ := nd
 have hs : standsN l ks vs cs = true := (rightN_iff.1 (holds_right h)).1
 obtain ⟨h9, _, _, _, _, hsh⟩ := standsN_iff.1 hs
 cases l with
 | true =>
  have := shape_leaf.1 hsh
  refine ⟨h9, ?_, fun _ => ?_, fun e => Bool.noConfusion e⟩
  ·
   show cs.length ≤ 10; omega
  ·
   show vs.length = ks.length; omega
 | false =>
  have := shape_inner.1 hsh
  refine ⟨h9, ?_, fun e => Bool.noConfusion e, fun _ => ?_⟩
  ·
   show cs.length ≤ 10; omega
  ·
   show cs.length = ks.length + 1; omega
def treeS (ns : List Bool) (ps : List ByteArray) (root gen : Int) : TreeS := if root = 0 then TreeS.none else belowS (holdsS ns ps gen) 8 TreeS.none root ⟨#[]⟩ ⟨#[]⟩
set_option maxRecDepth 20000 in
set_option maxHeartbeats 2000000 in
theorem tree_any (a a' b : Option Addr) (n c n' c' p f : Nat) (ns : List Bool) (ps : List ByteArray) (root gen : Int) (w : World) (hn' : n' = ns.length) (hp : p = ps.length) (hB' : IsB w a' c' ns) (hP : IsS w b f ps) :
  Calls Try.prog 14 #[.agg #[.slice a n c, .slice a' n' c', .slice b p f, .int .i64 root, .int .i64 gen]] w fun x w' => ∃ u1 u2, x = .returned (.pointer (some ⟨w.heap.size + 1, 0, none⟩)) ∧ TreeAt w' (w.heap.size + 1) (w.heap.size + 2) u1 u2 (treeS ns ps root gen) ∧ Below w.heap.size w w' := by
 obtain ⟨W, hW⟩ : ∃ W, W = (w.alloc (.cells #[.slice a n c, .slice a' n' c', .slice b p f, .int .i64 root, .int .i64 gen] 27)).alloc (.cells #[.slice none 0 0, .slice none 0 0, .int .i64 0, .bool false] 51) := ⟨_, rfl⟩
 have HB : Below w.heap.size w W := by rw [hW]; exact ((Below.refl _ _).alloc (Nat.le_refl _) _).alloc (by simp) _
 have BW : WoodBox W w.heap.size (.slice a n c) (.slice a' n' c') (.slice b p f) (.int .i64 root) (.int .i64 gen) := by rw [hW]; exact (woodBox_new _ _ _ _ _ _ _ rfl).below ((Below.refl _ _).alloc (Nat.le_refl _) _)
 have T0 : TreeAt W (w.heap.size + 1) (w.heap.size + 2) (.slice none 0 0) (.slice none 0 0) TreeS.none := by
  rw [hW]
  exact ⟨box4_new _ _ _ _ _ _ (by simp), ⟨rfl, .inl ⟨rfl, rfl⟩⟩, ⟨rfl, .inl ⟨rfl, rfl⟩⟩, apart_nil _ _, by omega, by simp⟩
 have hle : w.heap.size ≤ w.heap.size + 1 := by omega
 have cB : ∀ V, Below w.heap.size w V → TreeAt V (w.heap.size + 1) (w.heap.size + 2) (.slice none 0 0) (.slice none 0 0) TreeS.none → Calls Try.prog 21 #[.pointer (some ⟨w.heap.size + 1, 0, none⟩), .agg #[.slice a n c, .slice a' n' c', .slice b p f, .int .i64 root, .int .i64 gen], .int .i64 root, .int .i64 1, .string ⟨#[]⟩, .string ⟨#[]⟩] V fun e V' => e = .returned (.tuple #[]) ∧ ∃ u1' u2', TreeAt V' (w.heap.size + 1) (w.heap.size + 2) u1' u2' (belowS (holdsS ns ps gen) 8 TreeS.none root ⟨#[]⟩ ⟨#[]⟩) ∧ Grows (w.heap.size + 1) (.slice none 0 0) (.slice none 0 0) V u1' u2' V' := fun V hV T =>
  below_any (w := w) (H := holdsS ns ps gen) (w.heap.size + 1) (w.heap.size + 2) a a' b n c n' c' p f root gen hle
   (fun V block r hb h => by
    have := holds_any a a' b n c n' c' p f ns ps root gen block r V hn' hp (hB'.below hb) (hP.below hb)
    rw [h] at this
    exact this)
   (fun V block r nd hb h => by
    have := holds_any a a' b n c n' c' p f ns ps root gen block r V hn' hp (hB'.below hb) (hP.below hb)
    rw [h] at this
    exact this)
   holds_len 8 (by decide) V _ _ TreeS.none root ⟨#[]⟩ ⟨#[]⟩ hV T (by decide) (by decide)
 obtain ⟨x0, x1, x2, x3, x4⟩ := id (hW ▸ BW)
 clear hn' hp hB' hP
 by_cases hr : root = 0
 ·
  have ht : treeS ns ps root gen = TreeS.none := by unfold treeS; rw [if_pos hr]
  rw [ht]
  subst hr
  clear ht cB
  go_enter Try.func14, Try.ntmps14
  go_wp2
  go_ret
  exact ⟨_, _, rfl, hW ▸ T0, hW ▸ HB⟩
 ·
  have ht : treeS ns ps root gen = belowS (holdsS ns ps gen) 8 TreeS.none root ⟨#[]⟩ ⟨#[]⟩ := by unfold treeS; rw [if_neg hr]
  rw [ht]
  clear ht
  go_enter Try.func14, Try.ntmps14
  go_wp2_with (go_at_call 21; rw [← hW]; refine (cB _ HB T0).mono ?_; rintro y w1 ⟨rfl, v1, v2, D, G⟩)
  have HB1 := Grows.low (S := 0) T0 G HB hle
  go_ret
  exact ⟨v1, v2, rfl, D, HB1⟩
set_option maxRecDepth 20000 in
set_option maxHeartbeats 2000000 in
theorem refRightW_any (a a' b : Option Addr) (n c n' c' p f : Nat) (bs ns : List Bool) (ps : List ByteArray) (root gen : Int) (w : World) (hn : n = bs.length) (hn' : n' = ns.length) (hp : p = ps.length) (hB : IsB w a c bs) (hB' : IsB w a' c' ns) (hP : IsS w b f ps) :
  Calls Try.prog 11 #[.agg #[.slice a n c, .slice a' n' c', .slice b p f, .int .i64 root, .int .i64 gen]] w fun e w' => e = .returned (.bool (rightW bs ns ps root gen)) ∧ Below w.heap.size w w' := by
 obtain ⟨W, hW⟩ : ∃ W, W = (w.alloc (.cells #[.slice a n c, .slice a' n' c', .slice b p f, .int .i64 root, .int .i64 gen] 27)).alloc (.cells #[.slice a n c, .slice a' n' c'] 24) := ⟨_, rfl⟩
 have HB : Below w.heap.size w W := by rw [hW]; exact ((Below.refl _ _).alloc (Nat.le_refl _) _).alloc (by simp) _
 have BW : WoodBox W w.heap.size (.slice a n c) (.slice a' n' c') (.slice b p f) (.int .i64 root) (.int .i64 gen) := by rw [hW]; exact (woodBox_new _ _ _ _ _ _ _ rfl).below ((Below.refl _ _).alloc (Nat.le_refl _) _)
 have cA := allocRefRight_any a a' c c' n n' bs ns W hn hn' (hB.below HB) (hB'.below HB)
 have mn : n' ≤ 9223372036854775807 := by rw [hn']; exact Nat.le_trans hB'.1 hB'.2.1
 have mp : p ≤ 9223372036854775807 := by rw [hp]; exact Nat.le_trans hP.1 hP.2.1
 obtain ⟨r, hr⟩ : ∃ r, r = rightW bs ns ps root gen := ⟨_, rfl⟩
 rw [← hr]
 unfold rightW at hr
 have EP : Hid (p = ps.length) := hp
 have EN : Hid (n' = ns.length) := hn'
 have RP : Hid (IsS w b f ps) := hP
 obtain ⟨x0, x1, x2, x3, x4⟩ := id (hW ▸ BW)
 clear hn hn' hp hB hB' hP
 cases hA : rightA bs ns with
 | false =>
  rw [hA] at hr cA
  replace hr : r = false := by rw [hr]; simp
  clear hA
  go_enter Try.func11, Try.ntmps11
  go_wp2_with (go_at_call 18; rw [← hW]; refine cA.mono ?_; rintro y w1 ⟨rfl, hb⟩; replace HB := Below.tr HB hb; replace BW := BW.below hb; clear x0 x1 x2 x3 x4; obtain ⟨x0, x1, x2, x3, x4⟩ := id BW; clear hb)
  go_ret
  exact ⟨by rw [hr]; rfl, HB⟩
 | true =>
  rw [hA] at hr cA
  clear hA
  by_cases h1 : p = n'
  ·
   by_cases h2 : 1 ≤ gen
   ·
    have h2' : ¬ gen < 1 := by omega
    by_cases h3 : gen ≤ 1099511627776
    ·
     have h3' : ¬ 1099511627776 < gen := by omega
     have hr1 : Hid (r = (ps.all (fun s => decide (s.size ≤ 4096)) && (decide (root = 0) || (decide (10 ≤ root) && decide (root < ns.length))))) := by
      show _ = _
      rw [hr, decide_eq_true (show ps.length = ns.length by rw [← EP.out, ← EN.out]; exact h1), decide_eq_true h2, decide_eq_true h3]
      rfl
     have h1' : ((p : Int) != n') = false := by simp [h1]
     clear hr h1
     go_enter Try.func11, Try.ntmps11
     go_wp2_with (go_at_call 18; rw [← hW]; refine cA.mono ?_; rintro y w1 ⟨rfl, hb⟩; replace HB := Below.tr HB hb; replace BW := BW.below hb; clear x0 x1 x2 x3 x4; obtain ⟨x0, x1, x2, x3, x4⟩ := id BW; clear hb)
     go_loop [39] (fun v => ∃ j : Nat, j ≤ p ∧ v = .int .i64 j ∧ (ps.take j).all (fun s => decide (s.size ≤ 4096)) = true) (fun v => p - (intOf v).toNat)
     case atStart => exact ⟨0, by omega, rfl, rfl⟩
     case round =>
      obtain ⟨j, hj, rfl, hA⟩ := hrel
      have HA : Hid ((ps.take j).all (fun s => decide (s.size ≤ 4096)) = true) := hA
      clear hA
      by_cases hlt : j < p
      ·
       have hlt' : (j : Int) < p := by omega
       obtain ⟨s, hs⟩ : ∃ x, Hid (ps[j]? = some x) := get_some (by rw [← EP.out]; exact hlt)
       obtain ⟨b1, o1, rfl, -, hc0, hss⟩ := RP.out.2.2 j s hs.out
       have hc := cell_below HB hc0
       clear hc0
       by_cases hsz : s.size ≤ 4096
       ·
        have hsz' : ¬ (4096 : Int) < s.size := by omega
        go_wp2
        go_round
        case rel => exact ⟨j + 1, by omega, by go_num, by rw [all_more hs.out, HA.out, decide_eq_true hsz]; rfl⟩
        case measure => simp [intOf]; omega
       ·
        have hsz' : (4096 : Int) < s.size := by omega
        have hrf : Hid (r = false) := by
         show _ = _
         rw [hr1.out, List.all_eq_false.2 ⟨s, List.mem_of_getElem? hs.out, by simpa using hsz⟩]
         rfl
        go_wp2
        go_ret
        exact ⟨by rw [hrf.out]; rfl, HB⟩
      ·
       obtain rfl : p = j := by omega
       have hj0 : ¬ (p : Int) < p := by omega
       have hall : ps.all (fun s => decide (s.size ≤ 4096)) = true := by
        have := HA.out
        rw [EP.out, List.take_length] at this
        exact this
       by_cases hr0 : root = 0
       ·
        have hrf : Hid (r = true) := by show _ = _; rw [hr1.out, hall, decide_eq_true hr0]; rfl
        clear hall
        subst hr0
        go_wp2
        go_ret
        exact ⟨by rw [hrf.out]; rfl, HB⟩
       ·
        have hr00 : (root == 0) = false := by simpa using hr0
        by_cases hr10 : 10 ≤ root
        ·
         have hr10' : ¬ root < 10 := by omega
         have hrf : Hid (r = decide (root < (n' : Int))) := by show _ = _; rw [hr1.out, hall, decide_eq_false hr0, decide_eq_true hr10, EN.out]; rfl
         clear hall
         go_wp2
         go_ret
         exact ⟨by rw [hrf.out]; rfl, HB⟩
        ·
         have hr10' : root < 10 := by omega
         have hrf : Hid (r = false) := by show _ = _; rw [hr1.out, hall, decide_eq_false hr0, decide_eq_false hr10]; rfl
         clear hall
         go_wp2
         go_ret
         exact ⟨by rw [hrf.out]; rfl, HB⟩
    ·
     have h3' : 1099511627776 < gen := by omega
     have h1' : ((p : Int) != n') = false := by simp [h1]
     replace hr : r = false := by rw [hr, decide_eq_false h3]; simp
     clear h1
     go_enter Try.func11, Try.ntmps11
     go_wp2_with (go_at_call 18; rw [← hW]; refine cA.mono ?_; rintro y w1 ⟨rfl, hb⟩; replace HB := Below.tr HB hb; replace BW := BW.below hb; clear x0 x1 x2 x3 x4; obtain ⟨x0, x1, x2, x3, x4⟩ := id BW; clear hb)
     go_ret
     exact ⟨by rw [hr]; rfl, HB⟩
   ·
    have h2' : gen < 1 := by omega
    have h1' : ((p : Int) != n') = false := by simp [h1]
    replace hr : r = false := by rw [hr, decide_eq_false h2]; simp
    clear h1
    go_enter Try.func11, Try.ntmps11
    go_wp2_with (go_at_call 18; rw [← hW]; refine cA.mono ?_; rintro y w1 ⟨rfl, hb⟩; replace HB := Below.tr HB hb; replace BW := BW.below hb; clear x0 x1 x2 x3 x4; obtain ⟨x0, x1, x2, x3, x4⟩ := id BW; clear hb)
    go_ret
    exact ⟨by rw [hr]; rfl, HB⟩
  ·
   have h1' : ((p : Int) != n') = true := by simp; omega
   replace hr : r = false := by rw [hr, decide_eq_false (show ¬ ps.length = ns.length by rw [← EP.out, ← EN.out]; exact h1)]; simp
   go_enter Try.func11, Try.ntmps11
   go_wp2_with (go_at_call 18; rw [← hW]; refine cA.mono ?_; rintro y w1 ⟨rfl, hb⟩; replace HB := Below.tr HB hb; replace BW := BW.below hb; clear x0 x1 x2 x3 x4; obtain ⟨x0, x1, x2, x3, x4⟩ := id BW; clear hb)
   go_ret
   exact ⟨by rw [hr]; rfl, HB⟩
set_option maxRecDepth 20000 in
theorem haveRoom_any (b : Option Addr) (p f : Nat) (ps : List ByteArray) (w : World) (hp : p = ps.length) (hP : IsS w b f ps) :
  Calls Try.prog 23 #[.slice b p f] w fun e w' => e = .returned (.bool (ps.all fun s => decide (s.size ≤ 4096))) ∧ Below w.heap.size w w' := by
 have mp : p ≤ 9223372036854775807 := by rw [hp]; exact Nat.le_trans hP.1 hP.2.1
 have EP : Hid (p = ps.length) := hp
 have RP : Hid (IsS w b f ps) := hP
 have HB : Below w.heap.size w w := Below.refl _ _
 obtain ⟨r, hr⟩ : ∃ r, Hid (r = ps.all fun s => decide (s.size ≤ 4096)) := ⟨_, rfl⟩
 rw [← hr.out]
 clear hp hP
 go_enter Try.func23, Try.ntmps23
 go_wp2
 go_loop [7] (fun v => ∃ j : Nat, j ≤ p ∧ v = .int .i64 j ∧ (ps.take j).all (fun s => decide (s.size ≤ 4096)) = true) (fun v => p - (intOf v).toNat)
 case atStart => exact ⟨0, by omega, rfl, rfl⟩
 case round =>
  obtain ⟨j, hj, rfl, hA⟩ := hrel
  have HA : Hid ((ps.take j).all (fun s => decide (s.size ≤ 4096)) = true) := hA
  clear hA
  by_cases hlt : j < p
  ·
   have hlt' : (j : Int) < p := by omega
   obtain ⟨s, hs⟩ : ∃ x, Hid (ps[j]? = some x) := get_some (by rw [← EP.out]; exact hlt)
   obtain ⟨b1, o1, rfl, -, hc, hss⟩ := RP.out.2.2 j s hs.out
   by_cases hsz : s.size ≤ 4096
   ·
    have hsz' : ¬ (4096 : Int) < s.size := by omega
    go_wp2
    go_round
    case rel => exact ⟨j + 1, by omega, by go_num, by rw [all_more hs.out, HA.out, decide_eq_true hsz]; rfl⟩
    case measure => simp [intOf]; omega
   ·
    have hsz' : (4096 : Int) < s.size := by omega
    have hrf : Hid (r = false) := by
     show _ = _
     rw [hr.out, List.all_eq_false.2 ⟨s, List.mem_of_getElem? hs.out, by simpa using hsz⟩]
    go_wp2
    go_ret
    exact ⟨by rw [hrf.out]; rfl, HB⟩
  ·
   obtain rfl : p = j := by omega
   have hj0 : ¬ (p : Int) < p := by omega
   have hall : Hid (r = true) := by
    show _ = _
    have := HA.out
    rw [EP.out, List.take_length] at this
    rw [hr.out]
    exact this
   go_wp2
   go_ret
   exact ⟨by rw [hall.out]; rfl, HB⟩
set_option maxRecDepth 20000 in
theorem behind_any (a a' b : Option Addr) (n c n' c' p f : Nat) (root gen block : Int) (w : World) (mn : n' ≤ 9223372036854775807) :
  Calls Try.prog 24 #[.agg #[.slice a n c, .slice a' n' c', .slice b p f, .int .i64 root, .int .i64 gen], .int .i64 block] w fun e w' => e = .returned (.bool (decide (10 ≤ block) && decide (block < (n' : Int)))) ∧ Below w.heap.size w w' := by
 have HB : Below w.heap.size w (w.alloc (.cells #[.slice a n c, .slice a' n' c', .slice b p f, .int .i64 root, .int .i64 gen] 27)) := (Below.refl _ _).alloc (Nat.le_refl _) _
 have BW := woodBox_new w (.slice a n c) (.slice a' n' c') (.slice b p f) (.int .i64 root) (.int .i64 gen) 27 rfl
 obtain ⟨x0, x1, x2, x3, x4⟩ := BW
 obtain ⟨r, hr⟩ : ∃ r, r = (decide (10 ≤ block) && decide (block < (n' : Int))) := ⟨_, rfl⟩
 rw [← hr]
 by_cases h1 : 10 ≤ block
 ·
  have hr' : Hid (r = decide (block < (n' : Int))) := by show _ = _; rw [hr, decide_eq_true h1]; rfl
  clear hr
  go_enter Try.func24, Try.ntmps24
  go_wp2
  go_ret
  exact ⟨by rw [hr'.out]; rfl, HB⟩
 ·
  have hr' : Hid (r = false) := by show _ = _; rw [hr, decide_eq_false h1]; rfl
  have h1' : ¬ 10 ≤ block := h1
  clear hr
  go_enter Try.func24, Try.ntmps24
  go_wp2
  go_ret
  exact ⟨by rw [hr'.out]; rfl, HB⟩
set_option maxRecDepth 20000 in
set_option maxHeartbeats 2000000 in
theorem lookRight_any (a a' b : Option Addr) (n c n' c' p f : Nat) (bs ns : List Bool) (ps : List ByteArray) (root gen : Int) (w : World) (hn : n = bs.length) (hn' : n' = ns.length) (hp : p = ps.length) (hB : IsB w a c bs) (hB' : IsB w a' c' ns) (hP : IsS w b f ps) :
  Calls Try.prog 19 #[.agg #[.slice a n c, .slice a' n' c', .slice b p f, .int .i64 root, .int .i64 gen]] w fun e w' => e = .returned (.bool (rightW bs ns ps root gen)) ∧ Below w.heap.size w w' := by
 obtain ⟨W, hW⟩ : ∃ W, W = w.alloc (.cells #[.slice a n c, .slice a' n' c', .slice b p f, .int .i64 root, .int .i64 gen] 27) := ⟨_, rfl⟩
 have HB : Below w.heap.size w W := by rw [hW]; exact (Below.refl _ _).alloc (Nat.le_refl _) _
 have BW : WoodBox W w.heap.size (.slice a n c) (.slice a' n' c') (.slice b p f) (.int .i64 root) (.int .i64 gen) := by rw [hW]; exact woodBox_new _ _ _ _ _ _ _ rfl
 have cA := allocRight_any a a' c c' n n' bs ns W hn hn' (hB.below HB) (hB'.below HB)
 have cH0 : ∀ V, Below w.heap.size w V → Calls Try.prog 23 #[.slice b p f] V fun e w' => e = .returned (.bool (ps.all fun s => decide (s.size ≤ 4096))) ∧ Below V.heap.size V w' := fun V hV => haveRoom_any b p f ps V hp (hP.below hV)
 have mn : n' ≤ 9223372036854775807 := by rw [hn']; exact Nat.le_trans hB'.1 hB'.2.1
 have mp : p ≤ 9223372036854775807 := by rw [hp]; exact Nat.le_trans hP.1 hP.2.1
 have cB0 : ∀ V, Calls Try.prog 24 #[.agg #[.slice a n c, .slice a' n' c', .slice b p f, .int .i64 root, .int .i64 gen], .int .i64 root] V fun e w' => e = .returned (.bool (decide (10 ≤ root) && decide (root < (n' : Int)))) ∧ Below V.heap.size V w' := fun V => behind_any a a' b n c n' c' p f root gen root V mn
 obtain ⟨r, hr⟩ : ∃ r, r = rightW bs ns ps root gen := ⟨_, rfl⟩
 rw [← hr]
 unfold rightW at hr
 rw [← hp, ← hn'] at hr
 obtain ⟨rA, hA⟩ : ∃ x, x = rightA bs ns := ⟨_, rfl⟩
 obtain ⟨rH, hH⟩ : ∃ x, x = ps.all fun s => decide (s.size ≤ 4096) := ⟨_, rfl⟩
 obtain ⟨rB, hBB⟩ : ∃ x, x = (decide (10 ≤ root) && decide (root < (n' : Int))) := ⟨_, rfl⟩
 rw [← hA] at hr cA
 rw [← hH, ← hBB] at hr
 obtain ⟨x0, x1, x2, x3, x4⟩ := id (hW ▸ BW)
 have cH : ∀ V, Below w.heap.size w V → Calls Try.prog 23 #[.slice b p f] V fun e w' => e = .returned (.bool rH) ∧ Below V.heap.size V w' := fun V hV => by rw [hH]; exact cH0 V hV
 have cB : ∀ V, Calls Try.prog 24 #[.agg #[.slice a n c, .slice a' n' c', .slice b p f, .int .i64 root, .int .i64 gen], .int .i64 root] V fun e w' => e = .returned (.bool rB) ∧ Below V.heap.size V w' := fun V => by rw [hBB]; exact cB0 V
 clear hn hn' hp hB hB' hP cH0 cB0 hA hH hBB
 cases rA with
 | false =>
  have hrf : Hid (r = false) := by show _ = _; rw [hr]; simp
  clear hr
  go_enter Try.func19, Try.ntmps19
  go_wp2_with (first
   | (go_at_call 22; rw [← hW]; refine cA.mono ?_; rintro y w1 ⟨rfl, hb⟩; replace HB := Below.tr HB hb; replace BW := BW.below hb; clear x0 x1 x2 x3 x4; obtain ⟨x0, x1, x2, x3, x4⟩ := id BW; clear hb)
   | (go_at_call 23; refine (cH _ HB).mono ?_; rintro y w2 ⟨rfl, hb⟩; replace HB := Below.tr HB hb; replace BW := BW.below hb; clear x0 x1 x2 x3 x4; obtain ⟨x0, x1, x2, x3, x4⟩ := id BW; clear hb)
   | (go_at_call 24; refine (cB _).mono ?_; rintro y w3 ⟨rfl, hb⟩; replace HB := Below.tr HB hb; replace BW := BW.below hb; clear x0 x1 x2 x3 x4; obtain ⟨x0, x1, x2, x3, x4⟩ := id BW; clear hb))
  go_ret
  exact ⟨by rw [hrf.out]; rfl, HB⟩
 | true =>
  by_cases h1 : p = n'
  ·
   have h1' : ((p : Int) == n') = true := by simp [h1]
   replace hr : r = (decide (1 ≤ gen) && decide (gen ≤ 1099511627776) && rH && (decide (root = 0) || rB)) := by rw [hr, decide_eq_true h1]; simp
   clear h1
   cases rH with
   | false =>
    have hrf : Hid (r = false) := by show _ = _; rw [hr]; simp
    clear hr
    go_enter Try.func19, Try.ntmps19
    go_wp2_with (first
     | (go_at_call 22; rw [← hW]; refine cA.mono ?_; rintro y w1 ⟨rfl, hb⟩; replace HB := Below.tr HB hb; replace BW := BW.below hb; clear x0 x1 x2 x3 x4; obtain ⟨x0, x1, x2, x3, x4⟩ := id BW; clear hb)
     | (go_at_call 23; refine (cH _ HB).mono ?_; rintro y w2 ⟨rfl, hb⟩; replace HB := Below.tr HB hb; replace BW := BW.below hb; clear x0 x1 x2 x3 x4; obtain ⟨x0, x1, x2, x3, x4⟩ := id BW; clear hb)
     | (go_at_call 24; refine (cB _).mono ?_; rintro y w3 ⟨rfl, hb⟩; replace HB := Below.tr HB hb; replace BW := BW.below hb; clear x0 x1 x2 x3 x4; obtain ⟨x0, x1, x2, x3, x4⟩ := id BW; clear hb))
    go_ret
    exact ⟨by rw [hrf.out]; rfl, HB⟩
   | true =>
    by_cases h2 : root = 0
    ·
     have h2' : (root == 0) = true := by simp [h2]
     replace hr : r = (decide (1 ≤ gen) && decide (gen ≤ 1099511627776)) := by rw [hr, decide_eq_true h2]; simp
     clear h2
     by_cases h3 : 1 ≤ gen
     ·
      have hrf : Hid (r = decide (gen ≤ 1099511627776)) := by show _ = _; rw [hr, decide_eq_true h3]; rfl
      clear hr
      go_enter Try.func19, Try.ntmps19
      go_wp2_with (first
       | (go_at_call 22; rw [← hW]; refine cA.mono ?_; rintro y w1 ⟨rfl, hb⟩; replace HB := Below.tr HB hb; replace BW := BW.below hb; clear x0 x1 x2 x3 x4; obtain ⟨x0, x1, x2, x3, x4⟩ := id BW; clear hb)
       | (go_at_call 23; refine (cH _ HB).mono ?_; rintro y w2 ⟨rfl, hb⟩; replace HB := Below.tr HB hb; replace BW := BW.below hb; clear x0 x1 x2 x3 x4; obtain ⟨x0, x1, x2, x3, x4⟩ := id BW; clear hb)
       | (go_at_call 24; refine (cB _).mono ?_; rintro y w3 ⟨rfl, hb⟩; replace HB := Below.tr HB hb; replace BW := BW.below hb; clear x0 x1 x2 x3 x4; obtain ⟨x0, x1, x2, x3, x4⟩ := id BW; clear hb))
      go_ret
      exact ⟨by rw [hrf.out]; rfl, HB⟩
     ·
      have hrf : Hid (r = false) := by show _ = _; rw [hr, decide_eq_false h3]; rfl
      clear hr
      go_enter Try.func19, Try.ntmps19
      go_wp2_with (first
       | (go_at_call 22; rw [← hW]; refine cA.mono ?_; rintro y w1 ⟨rfl, hb⟩; replace HB := Below.tr HB hb; replace BW := BW.below hb; clear x0 x1 x2 x3 x4; obtain ⟨x0, x1, x2, x3, x4⟩ := id BW; clear hb)
       | (go_at_call 23; refine (cH _ HB).mono ?_; rintro y w2 ⟨rfl, hb⟩; replace HB := Below.tr HB hb; replace BW := BW.below hb; clear x0 x1 x2 x3 x4; obtain ⟨x0, x1, x2, x3, x4⟩ := id BW; clear hb)
       | (go_at_call 24; refine (cB _).mono ?_; rintro y w3 ⟨rfl, hb⟩; replace HB := Below.tr HB hb; replace BW := BW.below hb; clear x0 x1 x2 x3 x4; obtain ⟨x0, x1, x2, x3, x4⟩ := id BW; clear hb))
      go_ret
      exact ⟨by rw [hrf.out]; rfl, HB⟩
    ·
     have h2' : (root == 0) = false := by simp [h2]
     replace hr : r = (decide (1 ≤ gen) && decide (gen ≤ 1099511627776) && rB) := by rw [hr, decide_eq_false h2]; simp
     cases rB with
     | false =>
      have hrf : Hid (r = false) := by show _ = _; rw [hr]; simp
      clear hr
      go_enter Try.func19, Try.ntmps19
      go_wp2_with (first
       | (go_at_call 22; rw [← hW]; refine cA.mono ?_; rintro y w1 ⟨rfl, hb⟩; replace HB := Below.tr HB hb; replace BW := BW.below hb; clear x0 x1 x2 x3 x4; obtain ⟨x0, x1, x2, x3, x4⟩ := id BW; clear hb)
       | (go_at_call 23; refine (cH _ HB).mono ?_; rintro y w2 ⟨rfl, hb⟩; replace HB := Below.tr HB hb; replace BW := BW.below hb; clear x0 x1 x2 x3 x4; obtain ⟨x0, x1, x2, x3, x4⟩ := id BW; clear hb)
       | (go_at_call 24; refine (cB _).mono ?_; rintro y w3 ⟨rfl, hb⟩; replace HB := Below.tr HB hb; replace BW := BW.below hb; clear x0 x1 x2 x3 x4; obtain ⟨x0, x1, x2, x3, x4⟩ := id BW; clear hb))
      go_ret
      exact ⟨by rw [hrf.out]; rfl, HB⟩
     | true =>
      by_cases h3 : 1 ≤ gen
      ·
       have hrf : Hid (r = decide (gen ≤ 1099511627776)) := by show _ = _; rw [hr, decide_eq_true h3]; simp
       clear hr
       go_enter Try.func19, Try.ntmps19
       go_wp2_with (first
        | (go_at_call 22; rw [← hW]; refine cA.mono ?_; rintro y w1 ⟨rfl, hb⟩; replace HB := Below.tr HB hb; replace BW := BW.below hb; clear x0 x1 x2 x3 x4; obtain ⟨x0, x1, x2, x3, x4⟩ := id BW; clear hb)
        | (go_at_call 23; refine (cH _ HB).mono ?_; rintro y w2 ⟨rfl, hb⟩; replace HB := Below.tr HB hb; replace BW := BW.below hb; clear x0 x1 x2 x3 x4; obtain ⟨x0, x1, x2, x3, x4⟩ := id BW; clear hb)
        | (go_at_call 24; refine (cB _).mono ?_; rintro y w3 ⟨rfl, hb⟩; replace HB := Below.tr HB hb; replace BW := BW.below hb; clear x0 x1 x2 x3 x4; obtain ⟨x0, x1, x2, x3, x4⟩ := id BW; clear hb))
       go_ret
       exact ⟨by rw [hrf.out]; rfl, HB⟩
      ·
       have hrf : Hid (r = false) := by show _ = _; rw [hr, decide_eq_false h3]; rfl
       clear hr
       go_enter Try.func19, Try.ntmps19
       go_wp2_with (first
        | (go_at_call 22; rw [← hW]; refine cA.mono ?_; rintro y w1 ⟨rfl, hb⟩; replace HB := Below.tr HB hb; replace BW := BW.below hb; clear x0 x1 x2 x3 x4; obtain ⟨x0, x1, x2, x3, x4⟩ := id BW; clear hb)
        | (go_at_call 23; refine (cH _ HB).mono ?_; rintro y w2 ⟨rfl, hb⟩; replace HB := Below.tr HB hb; replace BW := BW.below hb; clear x0 x1 x2 x3 x4; obtain ⟨x0, x1, x2, x3, x4⟩ := id BW; clear hb)
        | (go_at_call 24; refine (cB _).mono ?_; rintro y w3 ⟨rfl, hb⟩; replace HB := Below.tr HB hb; replace BW := BW.below hb; clear x0 x1 x2 x3 x4; obtain ⟨x0, x1, x2, x3, x4⟩ := id BW; clear hb))
       go_ret
       exact ⟨by rw [hrf.out]; rfl, HB⟩
  ·
   have h1' : ((p : Int) == n') = false := by simp; omega
   have hrf : Hid (r = false) := by show _ = _; rw [hr, decide_eq_false h1]; simp
   clear hr h1
   go_enter Try.func19, Try.ntmps19
   go_wp2_with (first
    | (go_at_call 22; rw [← hW]; refine cA.mono ?_; rintro y w1 ⟨rfl, hb⟩; replace HB := Below.tr HB hb; replace BW := BW.below hb; clear x0 x1 x2 x3 x4; obtain ⟨x0, x1, x2, x3, x4⟩ := id BW; clear hb)
    | (go_at_call 23; refine (cH _ HB).mono ?_; rintro y w2 ⟨rfl, hb⟩; replace HB := Below.tr HB hb; replace BW := BW.below hb; clear x0 x1 x2 x3 x4; obtain ⟨x0, x1, x2, x3, x4⟩ := id BW; clear hb)
    | (go_at_call 24; refine (cB _).mono ?_; rintro y w3 ⟨rfl, hb⟩; replace HB := Below.tr HB hb; replace BW := BW.below hb; clear x0 x1 x2 x3 x4; obtain ⟨x0, x1, x2, x3, x4⟩ := id BW; clear hb))
   go_ret
   exact ⟨by rw [hrf.out]; rfl, HB⟩
def WoodIn (V : World) (h : Nat) (a : Option Addr) (n c : Nat) (a' : Option Addr) (n' c' : Nat) (b : Option Addr) (p f : Nat) (bs ns : List Bool) (ps : List ByteArray) (root gen : Int) : Prop :=
 WoodBox V h (.slice a n c) (.slice a' n' c') (.slice b p f) (.int .i64 root) (.int .i64 gen) ∧ n = bs.length ∧ n' = ns.length ∧ p = ps.length ∧ IsB V a c bs ∧ IsB V a' c' ns ∧ IsS V b f ps
theorem WoodIn.below {V V' : World} {h : Nat} {a : Option Addr} {n c : Nat} {a' : Option Addr} {n' c' : Nat} {b : Option Addr} {p f : Nat} {bs ns : List Bool} {ps : List ByteArray} {root gen : Int} (x : WoodIn V h a n c a' n' c' b p f bs ns ps root gen) (hb : Below V.heap.size V V') : WoodIn V' h a n c a' n' c' b p f bs ns ps root gen :=
 ⟨x.1.below hb, x.2.1, x.2.2.1, x.2.2.2.1, x.2.2.2.2.1.below hb, x.2.2.2.2.2.1.below hb, x.2.2.2.2.2.2.below hb⟩
def LoadC (V : World) (x : Ending) (V' : World) (right : Bool) (o : Option NodeS) : Prop :=
 if right = true then (match o with
  | none => Answers V x V' false [] [] [] 81
  | some nd => Answers V x V' nd.1 nd.2.1 nd.2.2.1 nd.2.2.2 0) else Answers V x V' false [] [] [] 1
theorem not_take {ms : List Int} {v x : Int} {j : Nat} (h : ∀ y ∈ ms.take j, ¬ y = v) (hx : ms[j]? = some x) (hne : ¬ v = x) : ∀ y ∈ ms.take (j + 1), ¬ y = v := by
 intro y hy
 rw [List.take_add_one, hx] at hy
 simp at hy
 rcases hy with hy | hy
 ·
  exact h y hy
 ·
  subst hy; exact fun e => hne e.symm
set_option maxHeartbeats 400000 in
theorem index_any (a : Option Addr) (c : Nat) (ms : List Int) (v : Int) (w : World) (hI : IsI w a c ms) :
  Calls Try.prog 61 #[.slice a ms.length c, .int .i64 v] w fun e w' => (∃ r : Int, e = .returned (.int .i64 r) ∧ (decide (0 ≤ r) = decide (v ∈ ms))) ∧ w = w' := by
 have hm : ms.length ≤ 9223372036854775807 := Nat.le_trans hI.1 hI.2.1
 have HI : Hid (IsI w a c ms) := hI
 clear hI
 go_enter Try.func61, Try.ntmps61
 go_wp2
 go_loop [8] (fun u => ∃ j : Nat, j ≤ ms.length ∧ u = .int .i64 j ∧ ∀ y ∈ ms.take j, ¬ y = v) (fun u => ms.length - (intOf u).toNat)
 case atStart => exact ⟨0, by omega, rfl, fun y hy => by simp at hy⟩
 case round =>
  obtain ⟨j, hj, rfl, HA⟩ := hrel
  by_cases hlt : j < ms.length
  ·
   obtain ⟨x, hx⟩ : ∃ x, ms[j]? = some x := ⟨_, List.getElem?_eq_getElem hlt⟩
   obtain ⟨b, o, rfl, hlb, hc⟩ := HI.out.2.2 j x hx
   have hmem : Hid (x ∈ ms) := List.mem_of_getElem? hx
   have hA' : Hid (¬ v = x → ∀ y ∈ ms.take (j + 1), ¬ y = v) := not_take HA hx
   clear HA hx hlb
   have hlt' : (j : Int) < ms.length := by omega
   by_cases he : v = x
   ·
    subst he
    go_wp2
    go_ret
    exact ⟨⟨j, rfl, by simpa using hmem.out⟩, rfl⟩
   ·
    have he' : (v == x) = false := by simpa using he
    go_wp2
    go_round
    case rel => exact ⟨j + 1, by omega, by go_num, hA'.out he⟩
    case measure => simp [intOf]; omega
  ·
   obtain rfl : j = ms.length := by omega
   rw [List.take_length] at HA
   have HB : Hid (¬ v ∈ ms) := fun h => HA v h rfl
   clear HA hj hlt
   go_wp2
   go_ret
   exact ⟨⟨-1, rfl, by simpa using HB.out⟩, rfl⟩
theorem contains_any (a : Option Addr) (c : Nat) (ms : List Int) (v : Int) (w : World) (hI : IsI w a c ms) :
  Calls Try.prog 50 #[.slice a ms.length c, .int .i64 v] w fun e w' => e = .returned (.bool (decide (v ∈ ms))) ∧ w = w' := by
 have c1 := index_any a c ms v w hI
 obtain ⟨n, hn⟩ : ∃ n, n = ms.length := ⟨_, rfl⟩
 rw [← hn] at c1 ⊢
 clear hI hn
 go_enter Try.func50, Try.ntmps50
 go_wp2_with (go_at_call 61; refine c1.mono ?_; rintro e w1 ⟨⟨r, rfl, hr⟩, rfl⟩; have hr' : Hid _ := hr; clear hr)
 go_ret
 exact ⟨ret_bool hr'.out, rfl⟩
def wantE (s : ByteArray) (ms : List Int) : Int := if readE s = 0 then (if readK s ∈ ms then 0 else 40) else readE s
def wantK (s : ByteArray) (ms : List Int) : Int := if wantE s ms = 0 then readK s else 0
def wantG (s : ByteArray) (ms : List Int) : Int := if wantE s ms = 0 then readG s else 0
def wantB (s : ByteArray) (ms : List Int) : ByteArray := if wantE s ms = 0 then readB s else ⟨#[]⟩
set_option maxHeartbeats 1000000 in
theorem want_any (s : ByteArray) (a : Option Addr) (c : Nat) (ms : List Int) (w : World) (hs : s.size ≤ maxLen) (hI : IsI w a c ms) :
  Calls Try.prog 39 #[.string s, .slice a ms.length c] w fun e w' => e = .returned (.tuple #[.agg #[.int .i64 (wantK s ms), .int .i64 (wantG s ms), .string (wantB s ms)], .int .i64 (wantE s ms)]) ∧ Below w.heap.size w w' := by
 have c1 := fun W => pageGet_any s W hs
 obtain ⟨E, hE⟩ : ∃ E, E = readE s := ⟨_, rfl⟩
 obtain ⟨K, hK⟩ : ∃ K, K = readK s := ⟨_, rfl⟩
 obtain ⟨G, hG⟩ : ∃ G, G = readG s := ⟨_, rfl⟩
 obtain ⟨B, hB⟩ : ∃ B, B = readB s := ⟨_, rfl⟩
 have c2 : ∀ W, Below w.heap.size w W → Calls Try.prog 50 #[.slice a ms.length c, .int .i64 K] W fun e w' => e = .returned (.bool (decide (K ∈ ms))) ∧ W = w' :=
  fun W hW => contains_any a c ms K W (hI.below hW)
 have xE : wantE s ms = if E = 0 then (if K ∈ ms then 0 else 40) else E := by rw [hE, hK]; rfl
 have xK : wantK s ms = if wantE s ms = 0 then K else 0 := by rw [hK]; rfl
 have xG : wantG s ms = if wantE s ms = 0 then G else 0 := by rw [hG]; rfl
 have xB : wantB s ms = if wantE s ms = 0 then B else ⟨#[]⟩ := by rw [hB]; rfl
 rw [← hE, ← hK, ← hG, ← hB] at c1
 clear hE hK hG hB hI
 obtain ⟨n, hn⟩ : ∃ n, n = ms.length := ⟨_, rfl⟩
 rw [← hn] at c2 ⊢
 clear hn
 obtain ⟨rE, hrE⟩ : ∃ r, r = wantE s ms := ⟨_, rfl⟩
 obtain ⟨rK, hrK⟩ : ∃ r, r = wantK s ms := ⟨_, rfl⟩
 obtain ⟨rG, hrG⟩ : ∃ r, r = wantG s ms := ⟨_, rfl⟩
 obtain ⟨rB, hrB⟩ : ∃ r, r = wantB s ms := ⟨_, rfl⟩
 rw [← hrE, ← hrK, ← hrG, ← hrB]
 rw [← hrE] at xE xK xG xB
 rw [← hrK] at xK
 rw [← hrG] at xG
 rw [← hrB] at xB
 clear hrE hrK hrG hrB
 by_cases h0 : E = 0
 ·
  rw [if_pos h0] at xE
  by_cases hm : K ∈ ms
  ·
   rw [if_pos hm] at xE
   rw [xE] at xK xG xB ⊢
   rw [show rK = K from xK, show rG = G from xG, show rB = B from xB]
   have hd : ∀ W, Below w.heap.size w W → Calls Try.prog 50 #[.slice a n c, .int .i64 K] W fun e w' => e = .returned (.bool true) ∧ W = w' := by
    intro W hW; have := c2 W hW; rwa [decide_eq_true hm] at this
   clear xE xK xG xB c2 hm
   subst h0
   go_enter Try.func39, Try.ntmps39
   go_wp2_with (first
    | (go_at_call 49; refine (c1 _).mono ?_; rintro e w1 ⟨rfl, hb⟩; have hB := below_box hb; obtain ⟨⟨q0, q1, q2⟩, f0, f1, f2⟩ := ((box3_new _ _ _ _ _).below hb).alloc (.cells #[.int .i64 K, .int .i64 G, .string B] 78); replace hB := hB.alloc hB.size (.cells #[.int .i64 K, .int .i64 G, .string B] 78); clear hb)
    | (go_at_call 50; refine (hd _ hB).mono ?_; rintro e w2 ⟨rfl, rfl⟩))
   obtain ⟨z0, z1, z2⟩ := set3_cells (v0 := .int .i64 K) (v1 := .int .i64 G) (v2 := .string B) q0 q1 q2
   exact bodyPost_ret (v := .tuple #[.agg #[.int .i64 K, .int .i64 G, .string B], .int .i64 0]) (by simp [results, Try.results39, go_sem, z0, z1, z2]) rfl ⟨rfl, below_set3 hB (Nat.le_refl _)⟩
  ·
   rw [if_neg hm] at xE
   rw [xE] at xK xG xB ⊢
   rw [show rK = 0 from xK, show rG = 0 from xG, show rB = ⟨#[]⟩ from xB]
   have hd : ∀ W, Below w.heap.size w W → Calls Try.prog 50 #[.slice a n c, .int .i64 K] W fun e w' => e = .returned (.bool false) ∧ W = w' := by
    intro W hW; have := c2 W hW; rwa [decide_eq_false hm] at this
   clear xE xK xG xB c2 hm
   subst h0
   go_enter Try.func39, Try.ntmps39
   go_wp2_with (first
    | (go_at_call 49; refine (c1 _).mono ?_; rintro e w1 ⟨rfl, hb⟩; have hB := below_box hb; obtain ⟨⟨q0, q1, q2⟩, f0, f1, f2⟩ := ((box3_new _ _ _ _ _).below hb).alloc (.cells #[.int .i64 K, .int .i64 G, .string B] 78); replace hB := hB.alloc hB.size (.cells #[.int .i64 K, .int .i64 G, .string B] 78); clear hb)
    | (go_at_call 50; refine (hd _ hB).mono ?_; rintro e w2 ⟨rfl, rfl⟩))
   obtain ⟨z0, z1, z2⟩ := set3_cells (v0 := .int .i64 0) (v1 := .int .i64 0) (v2 := .string ⟨#[]⟩) q0 q1 q2
   exact bodyPost_ret (v := .tuple #[.agg #[.int .i64 0, .int .i64 0, .string ⟨#[]⟩], .int .i64 40]) (by simp [results, Try.results39, go_sem, z0, z1, z2]) rfl ⟨rfl, below_set3 hB (Nat.le_refl _)⟩
 ·
  rw [if_neg h0] at xE
  rw [if_neg (by rw [xE]; exact h0)] at xK xG xB
  rw [xK, xG, xB, xE]
  clear xE xK xG xB c2
  have h0' : (E == 0) = false := by simpa using h0
  go_enter Try.func39, Try.ntmps39
  go_wp2_with (first
   | (go_at_call 49; refine (c1 _).mono ?_; rintro e w1 ⟨rfl, hb⟩; have hB := below_box hb; obtain ⟨⟨q0, q1, q2⟩, f0, f1, f2⟩ := ((box3_new _ _ _ _ _).below hb).alloc (.cells #[.int .i64 K, .int .i64 G, .string B] 78); replace hB := hB.alloc hB.size (.cells #[.int .i64 K, .int .i64 G, .string B] 78); clear hb))
  obtain ⟨z0, z1, z2⟩ := set3_cells (v0 := .int .i64 0) (v1 := .int .i64 0) (v2 := .string ⟨#[]⟩) q0 q1 q2
  exact bodyPost_ret (v := .tuple #[.agg #[.int .i64 0, .int .i64 0, .string ⟨#[]⟩], .int .i64 E]) (by simp [results, Try.results39, go_sem, z0, z1, z2]) rfl ⟨rfl, below_set3 hB (Nat.le_refl _)⟩
theorem isI_pair (W : World) (m n : Int) : IsI (W.alloc (.cells #[.int .i64 m, .int .i64 n] 3)) (some ⟨W.heap.size, 0, none⟩) 2 [m, n] := by
 refine ⟨Nat.le_refl _, by decide, fun j x hx => ⟨W.heap.size, 0, rfl, by simp, ?_⟩⟩
 match j, hx with
 | 0, hx => simp at hx; subst hx; exact World.cell?_alloc_at _ _ _ _ rfl
 | 1, hx => simp at hx; subst hx; exact World.cell?_alloc_at _ _ _ _ rfl
theorem gE_kind {K : Int} {s : ByteArray} (h : ¬ K ∈ [(1 : Int), 2]) : gE K s = 81 := by
 unfold gE nodeR
 simp at h
 rw [if_neg h.1, if_neg h.2]
theorem pageN_want (s : ByteArray) (gen : Int) (rt : Bool) : pageN s gen rt = if wantE s [1, 2] = 0 ∧ wantG s [1, 2] ≤ gen ∧ gE (wantK s [1, 2]) (wantB s [1, 2]) = 0 ∧ rightN (gN (wantK s [1, 2]) (wantB s [1, 2])).1 (gN (wantK s [1, 2]) (wantB s [1, 2])).2.1 (gN (wantK s [1, 2]) (wantB s [1, 2])).2.2.1 (gN (wantK s [1, 2]) (wantB s [1, 2])).2.2.2 rt = true then some (gN (wantK s [1, 2]) (wantB s [1, 2])) else none := by
 by_cases h0 : readE s = 0
 ·
  by_cases h1 : readK s ∈ [(1 : Int), 2]
  ·
   have hE : wantE s [1, 2] = 0 := by unfold wantE; rw [if_pos h0, if_pos h1]
   have hK : wantK s [1, 2] = readK s := by unfold wantK; rw [if_pos hE]
   have hG : wantG s [1, 2] = readG s := by unfold wantG; rw [if_pos hE]
   have hB : wantB s [1, 2] = readB s := by unfold wantB; rw [if_pos hE]
   rw [hE, hK, hG, hB]
   unfold pageN
   rw [h0]
  ·
   have hE : wantE s [1, 2] = 40 := by unfold wantE; rw [if_pos h0, if_neg h1]
   unfold pageN
   rw [if_neg (fun h => by rw [gE_kind h1] at h; exact absurd h.2.2.1 (by decide)), if_neg (fun h => by rw [hE] at h; exact absurd h.1 (by decide))]
 ·
  have hE : wantE s [1, 2] = readE s := by unfold wantE; rw [if_neg h0]
  unfold pageN
  rw [if_neg (fun h => h0 h.1), if_neg (fun h => h0 (by rw [← hE]; exact h.1))]
theorem wantB_few (s : ByteArray) (ms : List Int) : (wantB s ms).size ≤ maxLen := by
 unfold wantB
 split
 ·
  exact Nat.le_trans (readB_few s) (by unfold maxLen; omega)
 ·
  exact Nat.zero_le _
set_option maxRecDepth 20000 in
set_option maxHeartbeats 4000000 in
theorem load_any (h : Nat) (a a' b : Option Addr) (n c n' c' p f : Nat) (ns : List Bool) (ps : List ByteArray) (root gen block : Int) (rt : Bool) (V : World) (hn' : n' = ns.length) (hp : p = ps.length) (hpn : p = n') (BV : WoodBox V h (.slice a n c) (.slice a' n' c') (.slice b p f) (.int .i64 root) (.int .i64 gen)) (hB' : IsB V a' c' ns) (hP : IsS V b f ps) :
  Calls Try.prog 33 #[.pointer (some ⟨h, 0, none⟩), .int .i64 block, .bool rt] V fun x V' => LoadC V x V' true (holdsS ns ps gen block rt) := by
 obtain ⟨W, hW⟩ : ∃ W, W = V.alloc (.cells #[.bool false, .slice none 0 0, .slice none 0 0, .slice none 0 0] 62) := ⟨_, rfl⟩
 have HB : Below V.heap.size V W := by rw [hW]; exact (Below.refl _ _).alloc (Nat.le_refl _) _
 have BR : Box4 W V.heap.size (.bool false) (.slice none 0 0) (.slice none 0 0) (.slice none 0 0) := by rw [hW]; exact box4_new _ _ _ _ _ _ rfl
 have BW := BV.below HB
 have mn : n' ≤ 9223372036854775807 := by rw [hn']; exact Nat.le_trans hB'.1 hB'.2.1
 have cB0 : ∀ U, Calls Try.prog 24 #[.agg #[.slice a n c, .slice a' n' c', .slice b p f, .int .i64 root, .int .i64 gen], .int .i64 block] U fun e w' => e = .returned (.bool (decide (10 ≤ block) && decide (block < (n' : Int)))) ∧ Below U.heap.size U w' := fun U => behind_any a a' b n c n' c' p f root gen block U mn
 obtain ⟨O, hO'⟩ : ∃ O, O = holdsS ns ps gen block rt := ⟨_, rfl⟩
 rw [← hO']
 obtain ⟨⟨r0, r1, r2, r3⟩, f0, f1, f2, f3⟩ := id (hW ▸ BR)
 obtain ⟨x0, x1, x2, x3, x4⟩ := id (hW ▸ BW)
 by_cases hin : 10 ≤ block ∧ block < n'
 ·
  have cB : ∀ U, Calls Try.prog 24 #[.agg #[.slice a n c, .slice a' n' c', .slice b p f, .int .i64 root, .int .i64 gen], .int .i64 block] U fun e w' => e = .returned (.bool true) ∧ Below U.heap.size U w' := fun U => by have := cB0 U; rw [decide_eq_true hin.1, decide_eq_true hin.2] at this; exact this
  obtain ⟨h10, hl1⟩ := hin
  obtain ⟨i, rfl⟩ : ∃ i : Nat, block = i := ⟨block.toNat, by omega⟩
  have hi1 : i < ns.length := by omega
  have hi2 : i < ps.length := by omega
  obtain ⟨nw, hgn⟩ : ∃ s, ns[i]? = some s := ⟨_, List.getElem?_eq_getElem hi1⟩
  obtain ⟨s, hs⟩ : ∃ s, ps[i]? = some s := ⟨_, List.getElem?_eq_getElem hi2⟩
  have hO1 : O = if nw = true then pageN s gen rt else none := by
   rw [hO']
   unfold holdsS
   simp only [Int.toNat_natCast, List.getD_eq_getElem?_getD, hgn, hs, Option.getD_some]
   by_cases hh : nw = true
   ·
    rw [if_pos ⟨h10, by omega, by omega, hh⟩, if_pos hh]
   ·
    rw [if_neg (fun x => hh x.2.2.2), if_neg hh]
  obtain ⟨b1, o1, rfl, hlb1, hc1⟩ := hB'.2.2 i nw hgn
  obtain ⟨b2, o2, rfl, hlb2, hc2, hss⟩ := hP.2.2 i s hs
  have z1 := cell_below HB hc1
  have z2 := cell_below HB hc2
  have k4 : (i : Int) < n' := by omega
  have k5 : (i : Int) < p := by omega
  have cW0 := fun U => want_any s (some ⟨U.heap.size, 0, none⟩) 2 [1, 2] (U.alloc (.cells #[.int .i64 1, .int .i64 2] 3)) hss (isI_pair U 1 2)
  have cG := fun U => nodeGet_any (wantK s [1, 2]) (wantB s [1, 2]) U (wantB_few s _)
  rw [pageN_want] at hO1
  clear hO' hn' hp hpn hB' hP h10 hl1 hi1 hi2 hgn hs hlb1 hlb2 hc1 hc2 hss BV cB0
  obtain ⟨rE, hrE⟩ : ∃ x, x = wantE s [1, 2] := ⟨_, rfl⟩
  obtain ⟨rK, hrK⟩ : ∃ x, x = wantK s [1, 2] := ⟨_, rfl⟩
  obtain ⟨rG, hrG⟩ : ∃ x, x = wantG s [1, 2] := ⟨_, rfl⟩
  obtain ⟨rB, hrB⟩ : ∃ x, x = wantB s [1, 2] := ⟨_, rfl⟩
  rw [← hrE, ← hrK, ← hrG, ← hrB] at hO1
  rw [← hrE, ← hrK, ← hrG, ← hrB] at cW0
  rw [← hrK, ← hrB] at cG
  clear hrE hrK hrG hrB
  have cW : ∀ U, Calls Try.prog 39 #[.string s, .slice (some ⟨U.heap.size, 0, none⟩) 2 2] (U.alloc (.cells #[.int .i64 1, .int .i64 2] 3)) fun e w' => e = .returned (.tuple #[.agg #[.int .i64 rK, .int .i64 rG, .string rB], .int .i64 rE]) ∧ Below U.heap.size U w' := fun U => (cW0 U).mono fun e w' h => ⟨h.1, Below.tr ((Below.refl _ _).alloc (Nat.le_refl _) _) h.2⟩
  clear cW0
  obtain ⟨nE, hnE⟩ : ∃ x, x = gE rK rB := ⟨_, rfl⟩
  obtain ⟨⟨nl, nk, nv, nc⟩, hnd⟩ : ∃ x, x = gN rK rB := ⟨_, rfl⟩
  rw [← hnE, ← hnd] at hO1 cG
  clear hnE hnd
  have cR : ∀ U a1 d1 k1 a2 d2 k2 a3 d3 k3, k1 = nk.length → k2 = nv.length → k3 = nc.length → IsS U a1 d1 nk → IsS U a2 d2 nv → IsI U a3 d3 nc → Calls Try.prog 41 #[.agg #[.bool nl, .slice a1 k1 d1, .slice a2 k2 d2, .slice a3 k3 d3], .bool rt] U fun e w' => e = .returned (.bool (rightN nl nk nv nc rt)) ∧ Below U.heap.size U w' := fun U a1 d1 k1 a2 d2 k2 a3 d3 k3 h1 h2 h3 i1 i2 i3 => nodeRight_any nl a1 a2 a3 d1 d2 d3 k1 k2 k3 nk nv nc rt U h1 h2 h3 i1 i2 i3
  cases nw with
  | false =>
   replace hO1 : O = none := hO1
   clear cW cG cR
   go_enter Try.func33, Try.ntmps33
   go_wp2_with (
    (go_at_call 24; rw [← hW]; refine (cB _).mono ?_; rintro y w1 ⟨rfl, hb⟩; replace HB := Below.tr HB hb; replace BR := BR.below hb; replace BW := BW.below hb; replace z1 := cell_below hb z1; replace z2 := cell_below hb z2; clear r0 r1 r2 r3 f0 f1 f2 f3 x0 x1 x2 x3 x4; obtain ⟨⟨r0, r1, r2, r3⟩, f0, f1, f2, f3⟩ := id BR; obtain ⟨x0, x1, x2, x3, x4⟩ := id BW; clear hb))
   refine bodyPost_ret (v := .tuple #[.agg #[.bool false, .slice none 0 0, .slice none 0 0, .slice none 0 0], .int .i64 81]) (by simp [results, Try.results33, go_sem, r0, r1, r2, r3]) rfl ?_
   rw [hO1]
   exact answers_none (below_put4 HB (Nat.le_refl _) _ _ _ _)
  | true =>
   replace hO1 : O = _ := hO1.trans (if_pos rfl)
   by_cases hE : rE = 0
   ·
    subst hE
    by_cases hG : rG ≤ gen
    ·
     have hG' : ¬ gen < rG := by omega
     by_cases hNE : nE = 0
     ·
      subst hNE
      cases hR : rightN nl nk nv nc rt with
      | true =>
       replace hO1 : O = some (nl, nk, nv, nc) := by rw [hO1, if_pos ⟨rfl, hG, rfl, hR⟩]
       rw [hR] at cR
       clear hR hG
       go_enter Try.func33, Try.ntmps33
       go_wp2_with (first
        | (go_at_call 24; rw [← hW]; refine (cB _).mono ?_; rintro y w1 ⟨rfl, hb⟩; replace HB := Below.tr HB hb; replace BR := BR.below hb; replace BW := BW.below hb; replace z1 := cell_below hb z1; replace z2 := cell_below hb z2; clear r0 r1 r2 r3 f0 f1 f2 f3 x0 x1 x2 x3 x4; obtain ⟨⟨r0, r1, r2, r3⟩, f0, f1, f2, f3⟩ := id BR; obtain ⟨x0, x1, x2, x3, x4⟩ := id BW; clear hb)
        | (go_at_call 39; refine (cW _).mono ?_; rintro y w2 ⟨rfl, hb⟩; have hA : Below w2.heap.size w2 (w2.alloc (.cells #[.int .i64 rK, .int .i64 rG, .string rB] 78)) := (Below.refl _ _).alloc (Nat.le_refl _) _; have b3 := box3_new w2 (.int .i64 rK) (.int .i64 rG) (.string rB) 78; replace HB := Below.tr (Below.tr HB hb) hA; replace BR := (BR.below hb).below hA; replace BW := (BW.below hb).below hA; clear z1 z2 r0 r1 r2 r3 f0 f1 f2 f3 x0 x1 x2 x3 x4; obtain ⟨⟨r0, r1, r2, r3⟩, f0, f1, f2, f3⟩ := id BR; obtain ⟨x0, x1, x2, x3, x4⟩ := id BW; obtain ⟨⟨g0, g1, g2⟩, -⟩ := id b3; clear hb hA))
       go_region
       have HU : Below (w2.alloc (.cells #[.int .i64 rK, .int .i64 rG, .string rB] 78)).heap.size (w2.alloc (.cells #[.int .i64 rK, .int .i64 rG, .string rB] 78)) (w2.alloc (.cells #[.int .i64 rK, .int .i64 rG, .string rB] 78)).drew := (Below.refl _ _).drew
       generalize (w2.alloc (.cells #[.int .i64 rK, .int .i64 rG, .string rB] 78)).drew = U at HU ⊢
       replace HB := Below.tr HB HU
       replace BR := BR.below HU
       replace b3 := b3.below HU
       clear r0 r1 r2 r3 f0 f1 f2 f3 x0 x1 x2 x3 x4 g0 g1 g2 BW HU
       obtain ⟨⟨r0, r1, r2, r3⟩, f0, f1, f2, f3⟩ := id BR
       obtain ⟨⟨g0, g1, g2⟩, -⟩ := id b3
       go_wp2_with (first
        | (go_at_call 40; refine (cG _).mono ?_; rintro y w3 ⟨k1, a1, d1, k2, a2, d2, k3, a3, d3, rfl, e1, e2, e3, i1, i2, i3, j1, j2, j3, hb⟩; have hA : Below w3.heap.size w3 (w3.alloc (.cells #[.bool nl, .slice a1 k1 d1, .slice a2 k2 d2, .slice a3 k3 d3] 62)) := (Below.refl _ _).alloc (Nat.le_refl _) _; have b4 := box4_new w3 (.bool nl) (.slice a1 k1 d1) (.slice a2 k2 d2) (.slice a3 k3 d3) 62 rfl; have hlo : V.heap.size + 1 ≤ U.heap.size := (by have := BR.lt; omega); replace HB := Below.tr (Below.tr HB hb) hA; replace BR := (BR.below hb).below hA; clear r0 r1 r2 r3 f0 f1 f2 f3 g0 g1 g2 b3; obtain ⟨⟨r0, r1, r2, r3⟩, f0, f1, f2, f3⟩ := id BR; obtain ⟨⟨m0, m1, m2, m3⟩, -⟩ := id b4; have E : Hid (k1 = nk.length ∧ k2 = nv.length ∧ k3 = nc.length) := ⟨e1, e2, e3⟩; have I : Hid (IsS (w3.alloc (.cells #[.bool nl, .slice a1 k1 d1, .slice a2 k2 d2, .slice a3 k3 d3] 62)) a1 d1 nk ∧ IsS (w3.alloc (.cells #[.bool nl, .slice a1 k1 d1, .slice a2 k2 d2, .slice a3 k3 d3] 62)) a2 d2 nv ∧ IsI (w3.alloc (.cells #[.bool nl, .slice a1 k1 d1, .slice a2 k2 d2, .slice a3 k3 d3] 62)) a3 d3 nc) := ⟨i1.below hA, i2.below hA, i3.below hA⟩; have J : Hid (From (V.heap.size + 1) a1 ∧ From (V.heap.size + 1) a2 ∧ From (V.heap.size + 1) a3) := ⟨j1.mono hlo, j2.mono hlo, j3.mono hlo⟩; clear hb hA hlo e1 e2 e3 i1 i2 i3 j1 j2 j3)
        | (go_at_call 41; refine (cR _ a1 d1 k1 a2 d2 k2 a3 d3 k3 E.out.1 E.out.2.1 E.out.2.2 I.out.1 I.out.2.1 I.out.2.2).mono ?_; rintro y w4 ⟨rfl, hb⟩; replace HB := Below.tr HB hb; replace BR := BR.below hb; replace b4 := b4.below hb; clear r0 r1 r2 r3 f0 f1 f2 f3 m0 m1 m2 m3; obtain ⟨⟨r0, r1, r2, r3⟩, f0, f1, f2, f3⟩ := id BR; obtain ⟨⟨m0, m1, m2, m3⟩, -⟩ := id b4; replace I : Hid (IsS w4 a1 d1 nk ∧ IsS w4 a2 d2 nv ∧ IsI w4 a3 d3 nc) := ⟨I.out.1.below hb, I.out.2.1.below hb, I.out.2.2.below hb⟩; clear hb))
       have T4 := turns_put4 w4 V.heap.size (.bool nl) (.slice a1 k1 d1) (.slice a2 k2 d2) (.slice a3 k3 d3)
       obtain ⟨j1, j2, j3⟩ := J.out
       refine bodyPost_ret (v := .tuple #[.agg #[.bool nl, .slice a1 k1 d1, .slice a2 k2 d2, .slice a3 k3 d3], .int .i64 0]) (by simp [results, Try.results33, go_sem, r0, r1, r2, r3]) rfl ?_
       rw [hO1]
       exact ⟨k1, a1, d1, k2, a2, d2, k3, a3, d3, rfl, E.out.1, E.out.2.1, E.out.2.2, I.out.1.turns T4 (fun x hx e => by have := j1 x hx; omega), I.out.2.1.turns T4 (fun x hx e => by have := j2 x hx; omega), I.out.2.2.turns T4 (fun x hx e => by have := j3 x hx; omega), j1.mono (by omega), j2.mono (by omega), j3.mono (by omega), below_put4 HB (Nat.le_refl _) _ _ _ _⟩
      | false =>
       replace hO1 : O = none := by rw [hO1, if_neg (fun h => by rw [hR] at h; exact absurd h.2.2.2 (by decide))]
       rw [hR] at cR
       clear hR hG
       go_enter Try.func33, Try.ntmps33
       go_wp2_with (first
        | (go_at_call 24; rw [← hW]; refine (cB _).mono ?_; rintro y w1 ⟨rfl, hb⟩; replace HB := Below.tr HB hb; replace BR := BR.below hb; replace BW := BW.below hb; replace z1 := cell_below hb z1; replace z2 := cell_below hb z2; clear r0 r1 r2 r3 f0 f1 f2 f3 x0 x1 x2 x3 x4; obtain ⟨⟨r0, r1, r2, r3⟩, f0, f1, f2, f3⟩ := id BR; obtain ⟨x0, x1, x2, x3, x4⟩ := id BW; clear hb)
        | (go_at_call 39; refine (cW _).mono ?_; rintro y w2 ⟨rfl, hb⟩; have hA : Below w2.heap.size w2 (w2.alloc (.cells #[.int .i64 rK, .int .i64 rG, .string rB] 78)) := (Below.refl _ _).alloc (Nat.le_refl _) _; have b3 := box3_new w2 (.int .i64 rK) (.int .i64 rG) (.string rB) 78; replace HB := Below.tr (Below.tr HB hb) hA; replace BR := (BR.below hb).below hA; replace BW := (BW.below hb).below hA; clear z1 z2 r0 r1 r2 r3 f0 f1 f2 f3 x0 x1 x2 x3 x4; obtain ⟨⟨r0, r1, r2, r3⟩, f0, f1, f2, f3⟩ := id BR; obtain ⟨x0, x1, x2, x3, x4⟩ := id BW; obtain ⟨⟨g0, g1, g2⟩, -⟩ := id b3; clear hb hA))
       go_region
       have HU : Below (w2.alloc (.cells #[.int .i64 rK, .int .i64 rG, .string rB] 78)).heap.size (w2.alloc (.cells #[.int .i64 rK, .int .i64 rG, .string rB] 78)) (w2.alloc (.cells #[.int .i64 rK, .int .i64 rG, .string rB] 78)).drew := (Below.refl _ _).drew
       generalize (w2.alloc (.cells #[.int .i64 rK, .int .i64 rG, .string rB] 78)).drew = U at HU ⊢
       replace HB := Below.tr HB HU
       replace BR := BR.below HU
       replace b3 := b3.below HU
       clear r0 r1 r2 r3 f0 f1 f2 f3 x0 x1 x2 x3 x4 g0 g1 g2 BW HU
       obtain ⟨⟨r0, r1, r2, r3⟩, f0, f1, f2, f3⟩ := id BR
       obtain ⟨⟨g0, g1, g2⟩, -⟩ := id b3
       go_wp2_with (first
        | (go_at_call 40; refine (cG _).mono ?_; rintro y w3 ⟨k1, a1, d1, k2, a2, d2, k3, a3, d3, rfl, e1, e2, e3, i1, i2, i3, j1, j2, j3, hb⟩; have hA : Below w3.heap.size w3 (w3.alloc (.cells #[.bool nl, .slice a1 k1 d1, .slice a2 k2 d2, .slice a3 k3 d3] 62)) := (Below.refl _ _).alloc (Nat.le_refl _) _; have b4 := box4_new w3 (.bool nl) (.slice a1 k1 d1) (.slice a2 k2 d2) (.slice a3 k3 d3) 62 rfl; have hlo : V.heap.size + 1 ≤ U.heap.size := (by have := BR.lt; omega); replace HB := Below.tr (Below.tr HB hb) hA; replace BR := (BR.below hb).below hA; clear r0 r1 r2 r3 f0 f1 f2 f3 g0 g1 g2 b3; obtain ⟨⟨r0, r1, r2, r3⟩, f0, f1, f2, f3⟩ := id BR; obtain ⟨⟨m0, m1, m2, m3⟩, -⟩ := id b4; have E : Hid (k1 = nk.length ∧ k2 = nv.length ∧ k3 = nc.length) := ⟨e1, e2, e3⟩; have I : Hid (IsS (w3.alloc (.cells #[.bool nl, .slice a1 k1 d1, .slice a2 k2 d2, .slice a3 k3 d3] 62)) a1 d1 nk ∧ IsS (w3.alloc (.cells #[.bool nl, .slice a1 k1 d1, .slice a2 k2 d2, .slice a3 k3 d3] 62)) a2 d2 nv ∧ IsI (w3.alloc (.cells #[.bool nl, .slice a1 k1 d1, .slice a2 k2 d2, .slice a3 k3 d3] 62)) a3 d3 nc) := ⟨i1.below hA, i2.below hA, i3.below hA⟩; have J : Hid (From (V.heap.size + 1) a1 ∧ From (V.heap.size + 1) a2 ∧ From (V.heap.size + 1) a3) := ⟨j1.mono hlo, j2.mono hlo, j3.mono hlo⟩; clear hb hA hlo e1 e2 e3 i1 i2 i3 j1 j2 j3)
        | (go_at_call 41; refine (cR _ a1 d1 k1 a2 d2 k2 a3 d3 k3 E.out.1 E.out.2.1 E.out.2.2 I.out.1 I.out.2.1 I.out.2.2).mono ?_; rintro y w4 ⟨rfl, hb⟩; replace HB := Below.tr HB hb; replace BR := BR.below hb; replace b4 := b4.below hb; clear r0 r1 r2 r3 f0 f1 f2 f3 m0 m1 m2 m3; obtain ⟨⟨r0, r1, r2, r3⟩, f0, f1, f2, f3⟩ := id BR; obtain ⟨⟨m0, m1, m2, m3⟩, -⟩ := id b4; replace I : Hid (IsS w4 a1 d1 nk ∧ IsS w4 a2 d2 nv ∧ IsI w4 a3 d3 nc) := ⟨I.out.1.below hb, I.out.2.1.below hb, I.out.2.2.below hb⟩; clear hb))
       refine bodyPost_ret (v := .tuple #[.agg #[.bool false, .slice none 0 0, .slice none 0 0, .slice none 0 0], .int .i64 81]) (by simp [results, Try.results33, go_sem, r0, r1, r2, r3]) rfl ?_
       rw [hO1]
       exact answers_none (below_put4 HB (Nat.le_refl _) _ _ _ _)
     ·
      have hNE' : (nE != 0) = true := by simpa using hNE
      replace hO1 : O = none := by rw [hO1, if_neg (fun h => hNE h.2.2.1)]
      clear hG
      go_enter Try.func33, Try.ntmps33
      go_wp2_with (first
       | (go_at_call 24; rw [← hW]; refine (cB _).mono ?_; rintro y w1 ⟨rfl, hb⟩; replace HB := Below.tr HB hb; replace BR := BR.below hb; replace BW := BW.below hb; replace z1 := cell_below hb z1; replace z2 := cell_below hb z2; clear r0 r1 r2 r3 f0 f1 f2 f3 x0 x1 x2 x3 x4; obtain ⟨⟨r0, r1, r2, r3⟩, f0, f1, f2, f3⟩ := id BR; obtain ⟨x0, x1, x2, x3, x4⟩ := id BW; clear hb)
       | (go_at_call 39; refine (cW _).mono ?_; rintro y w2 ⟨rfl, hb⟩; have hA : Below w2.heap.size w2 (w2.alloc (.cells #[.int .i64 rK, .int .i64 rG, .string rB] 78)) := (Below.refl _ _).alloc (Nat.le_refl _) _; have b3 := box3_new w2 (.int .i64 rK) (.int .i64 rG) (.string rB) 78; replace HB := Below.tr (Below.tr HB hb) hA; replace BR := (BR.below hb).below hA; replace BW := (BW.below hb).below hA; clear z1 z2 r0 r1 r2 r3 f0 f1 f2 f3 x0 x1 x2 x3 x4; obtain ⟨⟨r0, r1, r2, r3⟩, f0, f1, f2, f3⟩ := id BR; obtain ⟨x0, x1, x2, x3, x4⟩ := id BW; obtain ⟨⟨g0, g1, g2⟩, -⟩ := id b3; clear hb hA))
      go_region
      have HU : Below (w2.alloc (.cells #[.int .i64 rK, .int .i64 rG, .string rB] 78)).heap.size (w2.alloc (.cells #[.int .i64 rK, .int .i64 rG, .string rB] 78)) (w2.alloc (.cells #[.int .i64 rK, .int .i64 rG, .string rB] 78)).drew := (Below.refl _ _).drew
      generalize (w2.alloc (.cells #[.int .i64 rK, .int .i64 rG, .string rB] 78)).drew = U at HU ⊢
      replace HB := Below.tr HB HU
      replace BR := BR.below HU
      replace b3 := b3.below HU
      clear r0 r1 r2 r3 f0 f1 f2 f3 x0 x1 x2 x3 x4 g0 g1 g2 BW HU
      obtain ⟨⟨r0, r1, r2, r3⟩, f0, f1, f2, f3⟩ := id BR
      obtain ⟨⟨g0, g1, g2⟩, -⟩ := id b3
      go_wp2_with (
       (go_at_call 40; refine (cG _).mono ?_; rintro y w3 ⟨k1, a1, d1, k2, a2, d2, k3, a3, d3, rfl, e1, e2, e3, i1, i2, i3, j1, j2, j3, hb⟩; have hA : Below w3.heap.size w3 (w3.alloc (.cells #[.bool nl, .slice a1 k1 d1, .slice a2 k2 d2, .slice a3 k3 d3] 62)) := (Below.refl _ _).alloc (Nat.le_refl _) _; have b4 := box4_new w3 (.bool nl) (.slice a1 k1 d1) (.slice a2 k2 d2) (.slice a3 k3 d3) 62 rfl; have hlo : V.heap.size + 1 ≤ U.heap.size := (by have := BR.lt; omega); replace HB := Below.tr (Below.tr HB hb) hA; replace BR := (BR.below hb).below hA; clear r0 r1 r2 r3 f0 f1 f2 f3 g0 g1 g2 b3; obtain ⟨⟨r0, r1, r2, r3⟩, f0, f1, f2, f3⟩ := id BR; obtain ⟨⟨m0, m1, m2, m3⟩, -⟩ := id b4; have E : Hid (k1 = nk.length ∧ k2 = nv.length ∧ k3 = nc.length) := ⟨e1, e2, e3⟩; have I : Hid (IsS (w3.alloc (.cells #[.bool nl, .slice a1 k1 d1, .slice a2 k2 d2, .slice a3 k3 d3] 62)) a1 d1 nk ∧ IsS (w3.alloc (.cells #[.bool nl, .slice a1 k1 d1, .slice a2 k2 d2, .slice a3 k3 d3] 62)) a2 d2 nv ∧ IsI (w3.alloc (.cells #[.bool nl, .slice a1 k1 d1, .slice a2 k2 d2, .slice a3 k3 d3] 62)) a3 d3 nc) := ⟨i1.below hA, i2.below hA, i3.below hA⟩; have J : Hid (From (V.heap.size + 1) a1 ∧ From (V.heap.size + 1) a2 ∧ From (V.heap.size + 1) a3) := ⟨j1.mono hlo, j2.mono hlo, j3.mono hlo⟩; clear hb hA hlo e1 e2 e3 i1 i2 i3 j1 j2 j3))
      refine bodyPost_ret (v := .tuple #[.agg #[.bool false, .slice none 0 0, .slice none 0 0, .slice none 0 0], .int .i64 81]) (by simp [results, Try.results33, go_sem, r0, r1, r2, r3]) rfl ?_
      rw [hO1]
      exact answers_none (below_put4 HB (Nat.le_refl _) _ _ _ _)
    ·
     have hG' : gen < rG := by omega
     replace hO1 : O = none := by rw [hO1, if_neg (fun h => hG h.2.1)]
     clear hG cG cR
     go_enter Try.func33, Try.ntmps33
     go_wp2_with (first
      | (go_at_call 24; rw [← hW]; refine (cB _).mono ?_; rintro y w1 ⟨rfl, hb⟩; replace HB := Below.tr HB hb; replace BR := BR.below hb; replace BW := BW.below hb; replace z1 := cell_below hb z1; replace z2 := cell_below hb z2; clear r0 r1 r2 r3 f0 f1 f2 f3 x0 x1 x2 x3 x4; obtain ⟨⟨r0, r1, r2, r3⟩, f0, f1, f2, f3⟩ := id BR; obtain ⟨x0, x1, x2, x3, x4⟩ := id BW; clear hb)
      | (go_at_call 39; refine (cW _).mono ?_; rintro y w2 ⟨rfl, hb⟩; have hA : Below w2.heap.size w2 (w2.alloc (.cells #[.int .i64 rK, .int .i64 rG, .string rB] 78)) := (Below.refl _ _).alloc (Nat.le_refl _) _; have b3 := box3_new w2 (.int .i64 rK) (.int .i64 rG) (.string rB) 78; replace HB := Below.tr (Below.tr HB hb) hA; replace BR := (BR.below hb).below hA; replace BW := (BW.below hb).below hA; clear z1 z2 r0 r1 r2 r3 f0 f1 f2 f3 x0 x1 x2 x3 x4; obtain ⟨⟨r0, r1, r2, r3⟩, f0, f1, f2, f3⟩ := id BR; obtain ⟨x0, x1, x2, x3, x4⟩ := id BW; obtain ⟨⟨g0, g1, g2⟩, -⟩ := id b3; clear hb hA))
     go_region
     have HU : Below (w2.alloc (.cells #[.int .i64 rK, .int .i64 rG, .string rB] 78)).heap.size (w2.alloc (.cells #[.int .i64 rK, .int .i64 rG, .string rB] 78)) (w2.alloc (.cells #[.int .i64 rK, .int .i64 rG, .string rB] 78)).drew := (Below.refl _ _).drew
     generalize (w2.alloc (.cells #[.int .i64 rK, .int .i64 rG, .string rB] 78)).drew = U at HU ⊢
     replace HB := Below.tr HB HU
     replace BR := BR.below HU
     replace b3 := b3.below HU
     clear r0 r1 r2 r3 f0 f1 f2 f3 x0 x1 x2 x3 x4 g0 g1 g2 BW HU
     obtain ⟨⟨r0, r1, r2, r3⟩, f0, f1, f2, f3⟩ := id BR
     obtain ⟨⟨g0, g1, g2⟩, -⟩ := id b3
     go_wp2
     refine bodyPost_ret (v := .tuple #[.agg #[.bool false, .slice none 0 0, .slice none 0 0, .slice none 0 0], .int .i64 81]) (by simp [results, Try.results33, go_sem, r0, r1, r2, r3]) rfl ?_
     rw [hO1]
     exact answers_none (below_put4 HB (Nat.le_refl _) _ _ _ _)
   ·
    have hE' : (rE != 0) = true := by simpa using hE
    replace hO1 : O = none := by rw [hO1, if_neg (fun h => hE h.1)]
    clear cG cR
    go_enter Try.func33, Try.ntmps33
    go_wp2_with (first
     | (go_at_call 24; rw [← hW]; refine (cB _).mono ?_; rintro y w1 ⟨rfl, hb⟩; replace HB := Below.tr HB hb; replace BR := BR.below hb; replace BW := BW.below hb; replace z1 := cell_below hb z1; replace z2 := cell_below hb z2; clear r0 r1 r2 r3 f0 f1 f2 f3 x0 x1 x2 x3 x4; obtain ⟨⟨r0, r1, r2, r3⟩, f0, f1, f2, f3⟩ := id BR; obtain ⟨x0, x1, x2, x3, x4⟩ := id BW; clear hb)
     | (go_at_call 39; refine (cW _).mono ?_; rintro y w2 ⟨rfl, hb⟩; have hA : Below w2.heap.size w2 (w2.alloc (.cells #[.int .i64 rK, .int .i64 rG, .string rB] 78)) := (Below.refl _ _).alloc (Nat.le_refl _) _; have b3 := box3_new w2 (.int .i64 rK) (.int .i64 rG) (.string rB) 78; replace HB := Below.tr (Below.tr HB hb) hA; replace BR := (BR.below hb).below hA; replace BW := (BW.below hb).below hA; clear z1 z2 r0 r1 r2 r3 f0 f1 f2 f3 x0 x1 x2 x3 x4; obtain ⟨⟨r0, r1, r2, r3⟩, f0, f1, f2, f3⟩ := id BR; obtain ⟨x0, x1, x2, x3, x4⟩ := id BW; obtain ⟨⟨g0, g1, g2⟩, -⟩ := id b3; clear hb hA))
    go_region
    have HU : Below (w2.alloc (.cells #[.int .i64 rK, .int .i64 rG, .string rB] 78)).heap.size (w2.alloc (.cells #[.int .i64 rK, .int .i64 rG, .string rB] 78)) (w2.alloc (.cells #[.int .i64 rK, .int .i64 rG, .string rB] 78)).drew := (Below.refl _ _).drew
    generalize (w2.alloc (.cells #[.int .i64 rK, .int .i64 rG, .string rB] 78)).drew = U at HU ⊢
    replace HB := Below.tr HB HU
    replace BR := BR.below HU
    replace b3 := b3.below HU
    clear r0 r1 r2 r3 f0 f1 f2 f3 x0 x1 x2 x3 x4 g0 g1 g2 BW HU
    obtain ⟨⟨r0, r1, r2, r3⟩, f0, f1, f2, f3⟩ := id BR
    obtain ⟨⟨g0, g1, g2⟩, -⟩ := id b3
    go_wp2
    refine bodyPost_ret (v := .tuple #[.agg #[.bool false, .slice none 0 0, .slice none 0 0, .slice none 0 0], .int .i64 81]) (by simp [results, Try.results33, go_sem, r0, r1, r2, r3]) rfl ?_
    rw [hO1]
    exact answers_none (below_put4 HB (Nat.le_refl _) _ _ _ _)
 ·
  have cB : ∀ U, Calls Try.prog 24 #[.agg #[.slice a n c, .slice a' n' c', .slice b p f, .int .i64 root, .int .i64 gen], .int .i64 block] U fun e w' => e = .returned (.bool false) ∧ Below U.heap.size U w' := fun U => by
   have := cB0 U
   have hh : (decide (10 ≤ block) && decide (block < (n' : Int))) = false := by
    rw [Bool.and_eq_false_iff, decide_eq_false_iff_not, decide_eq_false_iff_not]
    by_cases h10 : 10 ≤ block
    ·
     exact .inr fun h => hin ⟨h10, h⟩
    ·
     exact .inl h10
   rw [hh] at this
   exact this
  have hO1 : O = none := by
   rw [hO']
   unfold holdsS
   rw [if_neg (fun h => hin ⟨h.1, by omega⟩)]
  have z1 : True := trivial
  have z2 : True := trivial
  clear hO' hn' hp hpn hB' hP BV cB0 hin
  go_enter Try.func33, Try.ntmps33
  go_wp2_with (go_at_call 24; rw [← hW]; refine (cB _).mono ?_; rintro y w1 ⟨rfl, hb⟩; replace HB := Below.tr HB hb; replace BR := BR.below hb; replace BW := BW.below hb; clear r0 r1 r2 r3 f0 f1 f2 f3 x0 x1 x2 x3 x4; obtain ⟨⟨r0, r1, r2, r3⟩, f0, f1, f2, f3⟩ := id BR; obtain ⟨x0, x1, x2, x3, x4⟩ := id BW; clear hb)
  refine bodyPost_ret (v := .tuple #[.agg #[.bool false, .slice none 0 0, .slice none 0 0, .slice none 0 0], .int .i64 81]) (by simp [results, Try.results33, go_sem, r0, r1, r2, r3]) rfl ?_
  rw [hO1]
  exact answers_none (below_put4 HB (Nat.le_refl _) _ _ _ _)
def nodeO : Option NodeS → NodeS
 | none => (false, [], [], [])
 | some nd => nd
def errO : Option NodeS → Int
 | none => 81
 | some _ => 0
theorem loadC_true (V : World) (x : Ending) (V' : World) (O : Option NodeS) : LoadC V x V' true O ↔ Answers V x V' (nodeO O).1 (nodeO O).2.1 (nodeO O).2.2.1 (nodeO O).2.2.2 (errO O) := by
 unfold LoadC
 rw [if_pos rfl]
 cases O <;> exact Iff.rfl
def WalkBox (V : World) (h : Nat) (v0 v1 v2 v3 v4 : Value) (lv : Int) : Prop := WoodBox V h v0 v1 v2 v3 v4 ∧ V.cell? ⟨h, 5, none⟩ = some (.int .i64 lv) ∧ V.frozen? ⟨h, 5, none⟩ = false
theorem walkBox_new (w : World) (v0 v1 v2 v3 v4 : Value) (lv : Int) (t : TypeId) {h : Nat} (hh : h = w.heap.size) : WalkBox (w.alloc (.cells #[v0, v1, v2, v3, v4, .int .i64 lv] t)) h v0 v1 v2 v3 v4 lv := by
 subst hh
 refine ⟨⟨World.cell?_alloc_at _ _ _ _ rfl, World.cell?_alloc_at _ _ _ _ rfl, World.cell?_alloc_at _ _ _ _ rfl, World.cell?_alloc_at _ _ _ _ rfl, World.cell?_alloc_at _ _ _ _ rfl⟩, World.cell?_alloc_at _ _ _ _ rfl, ?_⟩
 exact (World.frozen?_alloc_mark w _ _ _ _ 5).trans (by simp)
theorem rightW_len {bs ns : List Bool} {ps : List ByteArray} {root gen : Int} (h : rightW bs ns ps root gen = true) : ps.length = ns.length := by
 unfold rightW at h
 simp only [Bool.and_eq_true, decide_eq_true_eq] at h
 exact h.1.1.1.1.2
set_option maxRecDepth 20000 in
set_option maxHeartbeats 4000000 in
theorem lookLoad_any (a a' b : Option Addr) (n c n' c' p f : Nat) (bs ns : List Bool) (ps : List ByteArray) (root gen block : Int) (rt : Bool) (w : World) (hn : n = bs.length) (hn' : n' = ns.length) (hp : p = ps.length) (hB : IsB w a c bs) (hB' : IsB w a' c' ns) (hP : IsS w b f ps) :
  Calls Try.prog 25 #[.agg #[.slice a n c, .slice a' n' c', .slice b p f, .int .i64 root, .int .i64 gen], .int .i64 block, .bool rt] w fun x w' => LoadC w x w' (rightW bs ns ps root gen) (holdsS ns ps gen block rt) := by
 obtain ⟨W, hW⟩ : ∃ W, W = (w.alloc (.cells #[.slice a n c, .slice a' n' c', .slice b p f, .int .i64 root, .int .i64 gen] 27)).alloc (.cells #[.bool false, .slice none 0 0, .slice none 0 0, .slice none 0 0] 62) := ⟨_, rfl⟩
 have BW : WoodBox W w.heap.size (.slice a n c) (.slice a' n' c') (.slice b p f) (.int .i64 root) (.int .i64 gen) := by rw [hW]; exact (woodBox_new _ _ _ _ _ _ _ rfl).below ((Below.refl _ _).alloc (Nat.le_refl _) _)
 have BR : Box4 W (w.heap.size + 1) (.bool false) (.slice none 0 0) (.slice none 0 0) (.slice none 0 0) := by rw [hW]; exact box4_new _ _ _ _ _ _ (by simp)
 have HB : Below w.heap.size w W := by rw [hW]; exact ((Below.refl _ _).alloc (Nat.le_refl _) _).alloc (by simp) _
 have cR := lookRight_any a a' b n c n' c' p f bs ns ps root gen W hn hn' hp (hB.below HB) (hB'.below HB) (hP.below HB)
 obtain ⟨⟨r0, r1, r2, r3⟩, f0, f1, f2, f3⟩ := id (hW ▸ BR)
 obtain ⟨x0, x1, x2, x3, x4⟩ := id (hW ▸ BW)
 have hle : w.heap.size ≤ w.heap.size + 1 := by omega
 cases hR : rightW bs ns ps root gen with
 | false =>
  rw [hR] at cR
  clear hn hn' hp hB hB' hP hR
  go_enter Try.func25, Try.ntmps25
  go_wp2_with (
   (go_at_call 19; rw [← hW]; refine cR.mono ?_; rintro y w1 ⟨rfl, hb⟩; replace HB := Below.tr HB hb; replace BR := BR.below hb; replace BW := BW.below hb; clear r0 r1 r2 r3 f0 f1 f2 f3 x0 x1 x2 x3 x4; obtain ⟨⟨r0, r1, r2, r3⟩, f0, f1, f2, f3⟩ := id BR; obtain ⟨x0, x1, x2, x3, x4⟩ := id BW; clear hb))
  refine bodyPost_ret (v := .tuple #[.agg #[.bool false, .slice none 0 0, .slice none 0 0, .slice none 0 0], .int .i64 1]) (by simp [results, Try.results25, go_sem, r0, r1, r2, r3]) rfl ?_
  exact answers_none (below_put4 HB hle _ _ _ _)
 | true =>
  rw [hR] at cR
  have hpn : p = n' := by rw [hp, hn']; exact rightW_len hR
  obtain ⟨O, hO⟩ : ∃ O, O = holdsS ns ps gen block rt := ⟨_, rfl⟩
  rw [← hO]
  simp only [loadC_true]
  obtain ⟨⟨nl, nk, nv, nc⟩, hN⟩ : ∃ x, x = nodeO O := ⟨_, rfl⟩
  obtain ⟨nE, hE⟩ : ∃ x, x = errO O := ⟨_, rfl⟩
  rw [← hN, ← hE]
  have cL : ∀ (h : Nat) U, Below w.heap.size w U → WoodBox U h (.slice a n c) (.slice a' n' c') (.slice b p f) (.int .i64 root) (.int .i64 gen) → Calls Try.prog 33 #[.pointer (some ⟨h, 0, none⟩), .int .i64 block, .bool rt] U fun x V' => Answers U x V' nl nk nv nc nE := fun h U hU hb => by
   refine (load_any h a a' b n c n' c' p f ns ps root gen block rt U hn' hp hpn hb (hB'.below hU) (hP.below hU)).mono fun x V' hx => ?_
   rw [← hO, loadC_true, ← hN, ← hE] at hx
   exact hx
  clear hn hn' hp hB hB' hP hR hO hpn hN hE
  go_enter Try.func25, Try.ntmps25
  go_wp2_with (first
   | (go_at_call 19; rw [← hW]; refine cR.mono ?_; rintro y w1 ⟨rfl, hb⟩; replace HB := Below.tr HB hb; replace BR := BR.below hb; replace BW := BW.below hb; clear r0 r1 r2 r3 f0 f1 f2 f3 x0 x1 x2 x3 x4; obtain ⟨⟨r0, r1, r2, r3⟩, f0, f1, f2, f3⟩ := id BR; obtain ⟨x0, x1, x2, x3, x4⟩ := id BW; clear hb)
   | (go_at_call 33; have hA : Below w1.heap.size w1 (w1.alloc (.cells #[.slice a n c, .slice a' n' c', .slice b p f, .int .i64 root, .int .i64 gen, .int .i64 0] 75)) := (Below.refl _ _).alloc (Nat.le_refl _) _; have BK := walkBox_new w1 (.slice a n c) (.slice a' n' c') (.slice b p f) (.int .i64 root) (.int .i64 gen) 0 75 rfl; refine (cL _ _ (Below.tr HB hA) BK.1).mono ?_; rintro y w2 ⟨k1, a1, d1, k2, a2, d2, k3, a3, d3, rfl, e1, e2, e3, i1, i2, i3, j1, j2, j3, hb⟩; have hlo : w.heap.size + 2 ≤ (w1.alloc (.cells #[.slice a n c, .slice a' n' c', .slice b p f, .int .i64 root, .int .i64 gen, .int .i64 0] 75)).heap.size := (by have := BR.lt; simp; omega); replace HB := Below.tr (Below.tr HB hA) hb; replace BR := (BR.below hA).below hb; clear r0 r1 r2 r3 f0 f1 f2 f3 x0 x1 x2 x3 x4 BW BK; obtain ⟨⟨r0, r1, r2, r3⟩, f0, f1, f2, f3⟩ := id BR; have E : Hid (k1 = nk.length ∧ k2 = nv.length ∧ k3 = nc.length) := ⟨e1, e2, e3⟩; have I : Hid (IsS w2 a1 d1 nk ∧ IsS w2 a2 d2 nv ∧ IsI w2 a3 d3 nc) := ⟨i1, i2, i3⟩; have J : Hid (From (w.heap.size + 2) a1 ∧ From (w.heap.size + 2) a2 ∧ From (w.heap.size + 2) a3) := ⟨j1.mono hlo, j2.mono hlo, j3.mono hlo⟩; clear hb hA hlo e1 e2 e3 i1 i2 i3 j1 j2 j3))
  have T4 := turns_put4 w2 (w.heap.size + 1) (.bool nl) (.slice a1 k1 d1) (.slice a2 k2 d2) (.slice a3 k3 d3)
  obtain ⟨j1, j2, j3⟩ := J.out
  refine bodyPost_ret (v := .tuple #[.agg #[.bool nl, .slice a1 k1 d1, .slice a2 k2 d2, .slice a3 k3 d3], .int .i64 nE]) (by simp [results, Try.results25, go_sem, r0, r1, r2, r3]) rfl ?_
  exact ⟨k1, a1, d1, k2, a2, d2, k3, a3, d3, rfl, E.out.1, E.out.2.1, E.out.2.2, I.out.1.turns T4 (fun x hx e => by have := j1 x hx; omega), I.out.2.1.turns T4 (fun x hx e => by have := j2 x hx; omega), I.out.2.2.turns T4 (fun x hx e => by have := j3 x hx; omega), j1.mono (by omega), j2.mono (by omega), j3.mono (by omega), below_put4 HB hle _ _ _ _⟩
theorem str_empty {s : ByteArray} (h : s.size = 0) : s = ⟨#[]⟩ := by
 have h3 : s.data.size = 0 := h
 cases s with
 | mk d => simp at h3; subst h3; rfl
theorem str_full {s : ByteArray} (h : ¬ s.size = 0) : s.toList.isEmpty = false := by
 have h3 : ¬ s.toList = [] := fun e => h (by rw [ByteArray.toList_eq] at e; exact (size_list s).symm.trans (by rw [e]; rfl))
 cases hh : s.toList with
 | nil => exact absurd hh h3
 | cons _ _ => rfl
theorem getD_some {α : Type} {xs : List α} {i : Nat} {x d : α} (h : xs[i]? = some x) : xs.getD i d = x := by rw [List.getD_eq_getElem?_getD, h]; rfl
set_option maxRecDepth 20000 in
set_option maxHeartbeats 1000000 in
theorem placeWithin_any (block depth : Int) (low high : ByteArray) (a : Option Addr) (n c : Nat) (ks : List ByteArray) (w : World) (hn : n = ks.length) (hK : IsS w a c ks) :
  Calls Try.prog 26 #[.agg #[.int .i64 block, .int .i64 depth, .string low, .string high], .slice a n c] w fun e w' => e = .returned (.bool (withinK ks low high)) ∧ Below w.heap.size w w' := by
 have HB : Below w.heap.size w (w.alloc (.cells #[.int .i64 block, .int .i64 depth, .string low, .string high] 58)) := (Below.refl _ _).alloc (Nat.le_refl _) _
 obtain ⟨⟨x0, x1, x2, x3⟩, -⟩ := box4_new w (.int .i64 block) (.int .i64 depth) (.string low) (.string high) 58 rfl
 have mn : n ≤ 9223372036854775807 := by rw [hn]; exact Nat.le_trans hK.1 hK.2.1
 obtain ⟨r, hr⟩ : ∃ r, r = withinK ks low high := ⟨_, rfl⟩
 rw [← hr]
 cases ks with
 | nil =>
  have hrf : Hid (r = false) := by show _ = _; rw [hr]; rfl
  simp at hn
  subst hn
  clear hr hK
  go_enter Try.func26, Try.ntmps26
  go_wp2
  go_ret
  exact ⟨by rw [hrf.out]; rfl, HB⟩
 | cons k ks =>
  have hl : (k :: ks).length - 1 < (k :: ks).length := by simp
  obtain ⟨z, hz⟩ : ∃ z, (k :: ks)[(k :: ks).length - 1]? = some z := ⟨_, List.getElem?_eq_getElem hl⟩
  obtain ⟨b, o, rfl, -, hc0, -⟩ := hK.2.2 0 k rfl
  obtain ⟨b', o', heq, -, hc1, -⟩ := hK.2.2 _ z hz
  cases heq
  have hr1 : r = (!ltB k low && (decide (high.size = 0) || ltB z high)) := by rw [hr]; unfold withinK; rw [getD_some hz]; rfl
  rw [← hn] at hc1
  have z0 := cell_alloc hc0 (.cells #[.int .i64 block, .int .i64 depth, .string low, .string high] 58)
  have z1 := cell_alloc hc1 (.cells #[.int .i64 block, .int .i64 depth, .string low, .string high] 58)
  rw [Nat.add_zero] at z0
  obtain ⟨m, hm⟩ : ∃ m, n = m + 1 := ⟨n - 1, by rw [hn]; simp⟩
  subst hm
  rw [Nat.add_sub_cancel] at z1
  have k0 : (0 : Int) < ((m + 1 : Nat) : Int) := by omega
  have k1 : ¬ ((m + 1 : Nat) : Int) = 0 := by omega
  have k2 : ((m : Nat) : Int) < ((m + 1 : Nat) : Int) := by omega
  have k3 : ((m + 1 : Nat) : Int) - 1 = m := by omega
  clear hr hn hK hz hl hc0 hc1
  cases h1 : ltB k low with
  | true =>
   have h1' : Op.bytesLess k.toList low.toList = true := h1
   have hrf : Hid (r = false) := by show _ = _; rw [hr1, h1]; rfl
   clear hr1 h1
   go_enter Try.func26, Try.ntmps26
   go_wp2
   go_region
   go_wp2
   go_ret
   exact ⟨by rw [hrf.out]; rfl, HB.drew⟩
  | false =>
   have h1' : Op.bytesLess k.toList low.toList = false := h1
   by_cases h2 : high.size = 0
   ·
    obtain rfl := str_empty h2
    have hrf : Hid (r = true) := by show _ = _; rw [hr1, h1]; rfl
    clear hr1 h1
    go_enter Try.func26, Try.ntmps26
    go_wp2
    go_region
    go_wp2
    go_ret
    exact ⟨by rw [hrf.out]; rfl, HB.drew⟩
   ·
    have h5 := str_full h2
    cases h4 : ltB z high with
    | true =>
     have h4' : Op.bytesLess z.toList high.toList = true := h4
     have hrf : Hid (r = true) := by show _ = _; rw [hr1, h1, h4]; simp
     clear hr1 h1 h2 h4
     go_enter Try.func26, Try.ntmps26
     go_wp2
     go_region
     go_wp2
     go_ret
     exact ⟨by rw [hrf.out]; rfl, HB.drew⟩
    | false =>
     have h4' : Op.bytesLess z.toList high.toList = false := h4
     have hrf : Hid (r = false) := by show _ = _; rw [hr1, h1, h4]; simp [h2]
     clear hr1 h1 h2 h4
     go_enter Try.func26, Try.ntmps26
     go_wp2
     go_region
     go_wp2
     go_ret
     exact ⟨by rw [hrf.out]; rfl, HB.drew⟩
set_option maxRecDepth 20000 in
set_option maxHeartbeats 2000000 in
theorem placeBelow_any (block depth : Int) (low high : ByteArray) (l : Bool) (a a' a'' : Option Addr) (n c n' c' n'' c'' : Nat) (ks vs : List ByteArray) (cs : List Int) (i : Nat) (kb : Int) (w : World) (e1 : n = ks.length) (e3 : n'' = cs.length) (i1 : IsS w a c ks) (i3 : IsI w a'' c'' cs) (hi : cs[i]? = some kb) (hc : cs.length = ks.length + 1) (hd : 0 ≤ depth ∧ depth ≤ 100) :
  Calls Try.prog 28 #[.agg #[.int .i64 block, .int .i64 depth, .string low, .string high], .agg #[.bool l, .slice a n c, .slice a' n' c', .slice a'' n'' c''], .int .i64 i] w fun e w' => e = .returned (.agg #[.int .i64 kb, .int .i64 (depth + 1), .string (kidFrom low ks i), .string (kidTo high ks i)]) ∧ Below w.heap.size w w' := by
 obtain ⟨W, hW⟩ : ∃ W, W = ((w.alloc (.cells #[.int .i64 block, .int .i64 depth, .string low, .string high] 58)).alloc (.cells #[.bool l, .slice a n c, .slice a' n' c', .slice a'' n'' c''] 62)).alloc (.cells #[.int .i64 0, .int .i64 0, .string ⟨#[]⟩, .string ⟨#[]⟩] 58) := ⟨_, rfl⟩
 have HB : Below w.heap.size w W := by rw [hW]; exact (((Below.refl _ _).alloc (Nat.le_refl _) _).alloc (by simp) _).alloc (by simp only [World.size_alloc]; omega) _
 have BP : Box4 W w.heap.size (.int .i64 block) (.int .i64 depth) (.string low) (.string high) := by rw [hW]; exact ((box4_new _ _ _ _ _ _ rfl).alloc _).alloc _
 have BN : Box4 W (w.heap.size + 1) (.bool l) (.slice a n c) (.slice a' n' c') (.slice a'' n'' c'') := by rw [hW]; exact (box4_new _ _ _ _ _ _ (by simp)).alloc _
 have BR : Box4 W (w.heap.size + 1 + 1) (.int .i64 0) (.int .i64 0) (.string ⟨#[]⟩) (.string ⟨#[]⟩) := by rw [hW]; exact box4_new _ _ _ _ _ _ (by simp)
 have mn : n ≤ 9223372036854775807 := by rw [e1]; exact Nat.le_trans i1.1 i1.2.1
 have mn'' : n'' ≤ 9223372036854775807 := by rw [e3]; exact Nat.le_trans i3.1 i3.2.1
 have hil := (List.getElem?_eq_some_iff.1 hi).1
 have hi' : (i : Int) < n'' := by omega
 obtain ⟨b, o, rfl, -, hc0⟩ := i3.2.2 i kb hi
 have z := cell_below HB hc0
 have hdw : IntKind.i64.wrap (depth + 1) = depth + 1 := by rw [IntKind.wrap_i64]; omega
 obtain ⟨x, hx⟩ : ∃ x, x = kidFrom low ks i := ⟨_, rfl⟩
 obtain ⟨y, hy⟩ : ∃ y, y = kidTo high ks i := ⟨_, rfl⟩
 rw [← hx, ← hy]
 obtain ⟨⟨p0, p1, p2, p3⟩, -⟩ := id (hW ▸ BP)
 obtain ⟨⟨q0, q1, q2, q3⟩, -⟩ := id (hW ▸ BN)
 obtain ⟨⟨r0, r1, r2, r3⟩, f0, f1, f2, f3⟩ := id (hW ▸ BR)
 rw [hW] at z
 have z' := cell_alloc z (.cells #[.int .i64 0, .int .i64 0, .string ⟨#[]⟩, .string ⟨#[]⟩] 58)
 have E1 : Hid (n = ks.length ∧ n'' = cs.length ∧ cs.length = ks.length + 1) := ⟨e1, e3, hc⟩
 have I1 : Hid (IsS w a c ks) := i1
 have X : Hid (x = kidFrom low ks i ∧ y = kidTo high ks i) := ⟨hx, hy⟩
 clear e1 e3 hc hi hil i1 i3 hc0 hx hy
 go_enter Try.func28, Try.ntmps28
 go_wp2
 go_region
 rw [← hW]
 have HU : Below W.heap.size W (W.alloc (.cells #[.int .i64 kb, .int .i64 (depth + 1), .string low, .string high] 58)).drew := ((Below.refl _ _).alloc (Nat.le_refl _) _).drew
 have hWs : W.heap.size = w.heap.size + 1 + 1 + 1 := by rw [hW]; simp
 have BK : Box4 (W.alloc (.cells #[.int .i64 kb, .int .i64 (depth + 1), .string low, .string high] 58)).drew (w.heap.size + 1 + 1 + 1) (.int .i64 kb) (.int .i64 (depth + 1)) (.string low) (.string high) := (box4_new _ _ _ _ _ _ hWs.symm).drew
 generalize (W.alloc (.cells #[.int .i64 kb, .int .i64 (depth + 1), .string low, .string high] 58)).drew = U at HU BK ⊢
 replace HB := Below.tr HB HU
 replace BN := BN.below HU
 replace BR := BR.below HU
 clear p0 p1 p2 p3 q0 q1 q2 q3 r0 r1 r2 r3 f0 f1 f2 f3 z z' hW BP HU hWs
 have hil : i ≤ ks.length := by have := E1.out; omega
 by_cases h0 : i = 0
 ·
  by_cases h1 : i < ks.length
  ·
   obtain ⟨⟨q0, q1, q2, q3⟩, -⟩ := id BN
   obtain ⟨⟨k0, k1, k2, k3⟩, kf0, kf1, kf2, kf3⟩ := id BK
   obtain rfl : x = low := by rw [X.out.1]; unfold kidFrom; rw [if_pos h0]
   have hm0 : ¬ (0 : Int) < i := by omega
   obtain ⟨ky, hky⟩ : ∃ k, Hid (ks[i]? = some k) := get_some h1
   obtain ⟨b1, o1, rfl, hlt1, hc2, -⟩ := I1.out.2.2 i ky hky.out
   have zk := cell_below HB hc2
   obtain rfl : y = ky := by rw [X.out.2]; unfold kidTo; rw [if_pos h1]; exact getD_some hky.out
   have hn1 : (i : Int) < n := by have := E1.out; omega
   replace BK := BK.set3 (.string y)
   replace BR := BR.other (p := ⟨w.heap.size + 1 + 1 + 1, 3, none⟩) (by simp) (.string y)
   replace HB : Below w.heap.size w (U.setCell ⟨w.heap.size + 1 + 1 + 1, 3, none⟩ (.string y)) := HB.setCell (by simp; omega) _
   obtain ⟨⟨u0, u1, u2, u3⟩, -⟩ := id BK
   obtain ⟨⟨r0, r1, r2, r3⟩, rf0, rf1, rf2, rf3⟩ := id BR
   clear hil h0 h1 X E1 I1 BN BK BR hd mn'' hi' hky hc2 hlt1
   go_wp2
   refine bodyPost_ret (v := .agg #[.int .i64 kb, .int .i64 (depth + 1), .string x, .string y]) (by simp [results, Try.results28, go_sem, r0, r1, r2, r3]) rfl ?_
   exact ⟨rfl, below_put4 HB (by omega) _ _ _ _⟩
  ·
   obtain ⟨⟨q0, q1, q2, q3⟩, -⟩ := id BN
   obtain ⟨⟨k0, k1, k2, k3⟩, kf0, kf1, kf2, kf3⟩ := id BK
   obtain rfl : x = low := by rw [X.out.1]; unfold kidFrom; rw [if_pos h0]
   have hm0 : ¬ (0 : Int) < i := by omega
   obtain rfl : y = high := by rw [X.out.2]; unfold kidTo; rw [if_neg h1]
   have hn1 : ¬ (i : Int) < n := by have := E1.out; omega
   obtain ⟨⟨r0, r1, r2, r3⟩, rf0, rf1, rf2, rf3⟩ := id BR
   clear hil h0 h1 X E1 I1 BN BK BR hd mn'' hi'
   go_wp2
   refine bodyPost_ret (v := .agg #[.int .i64 kb, .int .i64 (depth + 1), .string x, .string y]) (by simp [results, Try.results28, go_sem, r0, r1, r2, r3]) rfl ?_
   exact ⟨rfl, below_put4 HB (by omega) _ _ _ _⟩
 ·
  by_cases h1 : i < ks.length
  ·
   obtain ⟨⟨q0, q1, q2, q3⟩, -⟩ := id BN
   obtain ⟨⟨k0, k1, k2, k3⟩, kf0, kf1, kf2, kf3⟩ := id BK
   obtain ⟨m, hm⟩ : ∃ m : Nat, (i : Int) - 1 = m := ⟨i - 1, by omega⟩
   obtain ⟨kx, hkx⟩ : ∃ k, Hid (ks[m]? = some k) := get_some (by omega)
   obtain ⟨b1, o1, rfl, hlt1, hc1, -⟩ := I1.out.2.2 m kx hkx.out
   have zm := cell_below HB hc1
   have hm1 : (m : Int) < n := by have := E1.out; omega
   obtain rfl : x = kx := by rw [X.out.1]; unfold kidFrom; rw [if_neg h0, show i - 1 = m by omega]; exact getD_some hkx.out
   replace BK := BK.set2 (.string x)
   replace BN := BN.other (p := ⟨w.heap.size + 1 + 1 + 1, 2, none⟩) (fun e => by have e' : w.heap.size + 1 + 1 + 1 = w.heap.size + 1 := e; omega) (.string x)
   replace BR := BR.other (p := ⟨w.heap.size + 1 + 1 + 1, 2, none⟩) (by simp) (.string x)
   replace HB : Below w.heap.size w (U.setCell ⟨w.heap.size + 1 + 1 + 1, 2, none⟩ (.string x)) := HB.setCell (by simp; omega) _
   obtain ⟨⟨s0, s1, s2, s3⟩, -⟩ := id BN
   obtain ⟨⟨t0, t1, t2, t3⟩, tf0, tf1, tf2, tf3⟩ := id BK
   have hm0 : (0 : Int) < i := by omega
   obtain ⟨ky, hky⟩ : ∃ k, Hid (ks[i]? = some k) := get_some h1
   obtain ⟨b2, o2, heq, -, hc2, -⟩ := I1.out.2.2 i ky hky.out
   cases heq
   have zk := cell_below HB hc2
   obtain rfl : y = ky := by rw [X.out.2]; unfold kidTo; rw [if_pos h1]; exact getD_some hky.out
   have hn1 : (i : Int) < n := by have := E1.out; omega
   replace BK := BK.set3 (.string y)
   replace BR := BR.other (p := ⟨w.heap.size + 1 + 1 + 1, 3, none⟩) (by simp) (.string y)
   replace HB : Below w.heap.size w ((U.setCell ⟨w.heap.size + 1 + 1 + 1, 2, none⟩ (.string x)).setCell ⟨w.heap.size + 1 + 1 + 1, 3, none⟩ (.string y)) := HB.setCell (by simp; omega) _
   obtain ⟨⟨u0, u1, u2, u3⟩, -⟩ := id BK
   obtain ⟨⟨r0, r1, r2, r3⟩, rf0, rf1, rf2, rf3⟩ := id BR
   clear hil h0 h1 X E1 I1 BN BK BR hd mn'' hi' hkx hlt1 hc1 hky hc2
   go_wp2
   refine bodyPost_ret (v := .agg #[.int .i64 kb, .int .i64 (depth + 1), .string x, .string y]) (by simp [results, Try.results28, go_sem, r0, r1, r2, r3]) rfl ?_
   exact ⟨rfl, below_put4 HB (by omega) _ _ _ _⟩
  ·
   obtain ⟨⟨q0, q1, q2, q3⟩, -⟩ := id BN
   obtain ⟨⟨k0, k1, k2, k3⟩, kf0, kf1, kf2, kf3⟩ := id BK
   obtain ⟨m, hm⟩ : ∃ m : Nat, (i : Int) - 1 = m := ⟨i - 1, by omega⟩
   obtain ⟨kx, hkx⟩ : ∃ k, Hid (ks[m]? = some k) := get_some (by omega)
   obtain ⟨b1, o1, rfl, hlt1, hc1, -⟩ := I1.out.2.2 m kx hkx.out
   have zm := cell_below HB hc1
   have hm1 : (m : Int) < n := by have := E1.out; omega
   obtain rfl : x = kx := by rw [X.out.1]; unfold kidFrom; rw [if_neg h0, show i - 1 = m by omega]; exact getD_some hkx.out
   replace BK := BK.set2 (.string x)
   replace BN := BN.other (p := ⟨w.heap.size + 1 + 1 + 1, 2, none⟩) (fun e => by have e' : w.heap.size + 1 + 1 + 1 = w.heap.size + 1 := e; omega) (.string x)
   replace BR := BR.other (p := ⟨w.heap.size + 1 + 1 + 1, 2, none⟩) (by simp) (.string x)
   replace HB : Below w.heap.size w (U.setCell ⟨w.heap.size + 1 + 1 + 1, 2, none⟩ (.string x)) := HB.setCell (by simp; omega) _
   obtain ⟨⟨s0, s1, s2, s3⟩, -⟩ := id BN
   obtain ⟨⟨t0, t1, t2, t3⟩, tf0, tf1, tf2, tf3⟩ := id BK
   have hm0 : (0 : Int) < i := by omega
   obtain rfl : y = high := by rw [X.out.2]; unfold kidTo; rw [if_neg h1]
   have hn1 : ¬ (i : Int) < n := by have := E1.out; omega
   obtain ⟨⟨r0, r1, r2, r3⟩, rf0, rf1, rf2, rf3⟩ := id BR
   clear hil h0 h1 X E1 I1 BN BK BR hd mn'' hi' hkx hlt1 hc1
   go_wp2
   refine bodyPost_ret (v := .agg #[.int .i64 kb, .int .i64 (depth + 1), .string x, .string y]) (by simp [results, Try.results28, go_sem, r0, r1, r2, r3]) rfl ?_
   exact ⟨rfl, below_put4 HB (by omega) _ _ _ _⟩
end Go.Proofs.Ytpepgpjiddophaa
namespace Go.Proofs.Ytpepgpjiddophaa
namespace Plain
def Room (c : ClimbS) : Prop := c.blocks + howN (freeB [] c.held) c.held.length ≤ 10000 ∧ c.pairs ≤ 9 * c.blocks
theorem room_take {c : ClimbS} (h : Room c) {b : Int} (h1 : 0 ≤ b) (h2 : b < c.held.length) (h3 : atB c.held b.toNat = false) : Room (c.take b) ∧ c.pairs + 9 ≤ 9 * (c.take b).blocks := by
 have hf : freeB [] c.held b.toNat = true := (freeB_iff _ _ _).2 ⟨by omega, h3, rfl⟩
 have := (free_taken hf).2.2
 unfold Room at h ⊢
 have e1 : (c.take b).held.length = c.held.length := by show (c.held.set _ _).length = _; rw [List.length_set]
 have e2 : (c.take b).blocks = c.blocks + 1 := rfl
 have e3 : (c.take b).pairs = c.pairs := rfl
 have e4 : (c.take b).held = c.held.set b.toNat true := rfl
 rw [e1, e2, e3, e4]
 omega
theorem room_leaf {c : ClimbS} (h : Room c) {m : Nat} {d : Int} (hm : c.pairs + m ≤ 9 * c.blocks) : Room (leafC m d c).2 := by
 unfold leafC
 split
 ·
  exact ⟨h.1, hm⟩
 ·
  exact h
theorem room_climb {H : Int → Bool → Option NodeS} (hH : ∀ b r (n : NodeS), H b r = some n → n.2.1.length ≤ 9) : ∀ (k : Nat) (c : ClimbS) (block : Int) (low high : ByteArray), Room c → Room (climbS H k c block low high).2
 | 0, c, block, low, high, h => h
 | k + 1, c, block, low, high, h => by
  have fold : ∀ (l : List (Int × ByteArray × ByteArray)) (r : Int × ClimbS), Room r.2 → Room (l.foldl (fun (r : Int × ClimbS) (x : Int × ByteArray × ByteArray) => if r.1 = 0 then climbS H k r.2 x.1 x.2.1 x.2.2 else r) r).2 := by
   intro l
   induction l with
   | nil => exact fun r hr => hr
   | cons x l ih =>
    intro r hr
    rw [List.foldl_cons]
    refine ih _ ?_
    split
    ·
     exact room_climb hH k r.2 _ _ _ hr
    ·
     exact hr
  rw [climbS]
  split
  ·
   exact h
  ·
   rename_i n hn
   split
   ·
    rename_i hc
    obtain ⟨h1, h2⟩ := room_take h hc.2.1 hc.2.2.1 hc.2.2.2
    split
    ·
     have := hH _ _ _ hn
     exact room_leaf h1 (by show c.pairs + _ ≤ _; omega)
    ·
     exact fold _ _ h1
   ·
    exact h
end Plain
open Go.RowKit Plain
set_option linter.unusedVariables false
theorem RowT.turns {P : Nat → Prop} {w w' : World} {g cap : Nat} {l : List Bool} (h : RowT w g cap l) (t : Turns P w w') (hp : ¬ P g) : RowT w' g cap l := by
 have hl := h.lt
 obtain ⟨cur, hg, hr⟩ := h
 exact ⟨cur, by rw [t.block g hl hp]; exact hg, hr⟩
structure ClimbAt (V : World) (h g N : Nat) (v0 v1 v2 v3 v4 : Value) (c : ClimbS) : Prop where
 wb : WoodBox V h v0 v1 v2 v3 v4
 c5 : V.cell? ⟨h, 5, none⟩ = some (.int .i64 c.pairs)
 c6 : V.cell? ⟨h, 6, none⟩ = some (.int .i64 c.height)
 c7 : V.cell? ⟨h, 7, none⟩ = some (.int .i64 c.blocks)
 c8 : V.cell? ⟨h, 8, none⟩ = some (.slice (some ⟨g, 0, none⟩) N N)
 f5 : V.frozen? ⟨h, 5, none⟩ = false
 f6 : V.frozen? ⟨h, 6, none⟩ = false
 f7 : V.frozen? ⟨h, 7, none⟩ = false
 row : RowT V g N c.held
 len : c.held.length = N
 ne : h ≠ g
section
variable {V V' : World} {h g N : Nat} {v0 v1 v2 v3 v4 : Value} {c : ClimbS}
theorem ClimbAt.lt (n : ClimbAt V h g N v0 v1 v2 v3 v4 c) : h < V.heap.size := cell_lt n.c5
theorem ClimbAt.turns {P : Nat → Prop} (n : ClimbAt V h g N v0 v1 v2 v3 v4 c) (t : Turns P V V') (h1 : ¬ P h) (h2 : ¬ P g) : ClimbAt V' h g N v0 v1 v2 v3 v4 c :=
 ⟨n.wb.turns t h1, t.cell (p := ⟨h, 5, none⟩) h1 n.c5, t.cell (p := ⟨h, 6, none⟩) h1 n.c6, t.cell (p := ⟨h, 7, none⟩) h1 n.c7, t.cell (p := ⟨h, 8, none⟩) h1 n.c8, t.frozen (p := ⟨h, 5, none⟩) n.lt h1 n.f5, t.frozen (p := ⟨h, 6, none⟩) n.lt h1 n.f6, t.frozen (p := ⟨h, 7, none⟩) n.lt h1 n.f7, n.row.turns t h2, n.len, n.ne⟩
theorem ClimbAt.below (n : ClimbAt V h g N v0 v1 v2 v3 v4 c) (hb : Below V.heap.size V V') : ClimbAt V' h g N v0 v1 v2 v3 v4 c := n.turns (P := fun _ => False) (Turns.of_below hb) id id
theorem ClimbAt.box (n : ClimbAt V h g N v0 v1 v2 v3 v4 c) (j : Nat) (u : Value) (hj : 5 ≤ j) : WoodBox (V.setCell ⟨h, j, none⟩ u) h v0 v1 v2 v3 v4 ∧ RowT (V.setCell ⟨h, j, none⟩ u) g N c.held ∧ (∀ i x, i ≠ j → V.cell? ⟨h, i, none⟩ = some x → (V.setCell ⟨h, j, none⟩ u).cell? ⟨h, i, none⟩ = some x) ∧ ∀ i, V.frozen? ⟨h, i, none⟩ = false → (V.setCell ⟨h, j, none⟩ u).frozen? ⟨h, i, none⟩ = false := by
 have o : ∀ i x, i ≠ j → V.cell? ⟨h, i, none⟩ = some x → (V.setCell ⟨h, j, none⟩ u).cell? ⟨h, i, none⟩ = some x := fun i x hi hx => by rw [World.cell?_setCell_other _ _ _ _ (fun hh => hi (by cases hh; rfl))]; exact hx
 obtain ⟨b0, b1, b2, b3, b4⟩ := n.wb
 exact ⟨⟨o 0 _ (by omega) b0, o 1 _ (by omega) b1, o 2 _ (by omega) b2, o 3 _ (by omega) b3, o 4 _ (by omega) b4⟩, n.row.turns (Turns.setCell (P := fun k => k = h) (Turns.refl _ _) (p := ⟨h, j, none⟩) rfl u) (fun e => n.ne e.symm), o, fun i hi => by rw [World.frozen?_setCell]; exact hi⟩
theorem ClimbAt.set5 (n : ClimbAt V h g N v0 v1 v2 v3 v4 c) (m : Nat) : ClimbAt (V.setCell ⟨h, 5, none⟩ (.int .i64 m)) h g N v0 v1 v2 v3 v4 ⟨c.held, m, c.height, c.blocks⟩ := by
 obtain ⟨hw, hr, o, f⟩ := n.box 5 (.int .i64 m) (by decide)
 exact ⟨hw, World.cell?_setCell_same _ _ _ n.c5, o 6 _ (by decide) n.c6, o 7 _ (by decide) n.c7, o 8 _ (by decide) n.c8, f 5 n.f5, f 6 n.f6, f 7 n.f7, hr, n.len, n.ne⟩
theorem ClimbAt.set6 (n : ClimbAt V h g N v0 v1 v2 v3 v4 c) (m : Int) : ClimbAt (V.setCell ⟨h, 6, none⟩ (.int .i64 m)) h g N v0 v1 v2 v3 v4 ⟨c.held, c.pairs, m, c.blocks⟩ := by
 obtain ⟨hw, hr, o, f⟩ := n.box 6 (.int .i64 m) (by decide)
 exact ⟨hw, o 5 _ (by decide) n.c5, World.cell?_setCell_same _ _ _ n.c6, o 7 _ (by decide) n.c7, o 8 _ (by decide) n.c8, f 5 n.f5, f 6 n.f6, f 7 n.f7, hr, n.len, n.ne⟩
theorem ClimbAt.set7 (n : ClimbAt V h g N v0 v1 v2 v3 v4 c) (m : Nat) : ClimbAt (V.setCell ⟨h, 7, none⟩ (.int .i64 m)) h g N v0 v1 v2 v3 v4 ⟨c.held, c.pairs, c.height, m⟩ := by
 obtain ⟨hw, hr, o, f⟩ := n.box 7 (.int .i64 m) (by decide)
 exact ⟨hw, o 5 _ (by decide) n.c5, o 6 _ (by decide) n.c6, World.cell?_setCell_same _ _ _ n.c7, o 8 _ (by decide) n.c8, f 5 n.f5, f 6 n.f6, f 7 n.f7, hr, n.len, n.ne⟩
theorem ClimbAt.hold (n : ClimbAt V h g N v0 v1 v2 v3 v4 c) (j : Nat) (x : Bool) : ClimbAt (V.setCell ⟨g, j, none⟩ (.bool x)) h g N v0 v1 v2 v3 v4 ⟨c.held.set j x, c.pairs, c.height, c.blocks⟩ := by
 have t : Turns (fun k => k = g) V (V.setCell ⟨g, j, none⟩ (.bool x)) := Turns.setCell (P := fun k => k = g) (Turns.refl _ _) (p := ⟨g, j, none⟩) rfl _
 exact ⟨n.wb.turns t n.ne, t.cell (p := ⟨h, 5, none⟩) n.ne n.c5, t.cell (p := ⟨h, 6, none⟩) n.ne n.c6, t.cell (p := ⟨h, 7, none⟩) n.ne n.c7, t.cell (p := ⟨h, 8, none⟩) n.ne n.c8, t.frozen (p := ⟨h, 5, none⟩) n.lt n.ne n.f5, t.frozen (p := ⟨h, 6, none⟩) n.lt n.ne n.f6, t.frozen (p := ⟨h, 7, none⟩) n.lt n.ne n.f7, n.row.set j x, by rw [List.length_set]; exact n.len, n.ne⟩
end
set_option maxRecDepth 20000 in
set_option maxHeartbeats 2000000 in
theorem hold_any (V : World) (h g N : Nat) (v0 v1 v2 v3 v4 : Value) (c : ClimbS) (a : Option Addr) (cap n : Nat) (bs : List Int) (hn : n = bs.length) (hI : IsI V a cap bs) (ha : bs ≠ [] → ∀ x, a = some x → x.block ≠ g) (D : ClimbAt V h g N v0 v1 v2 v3 v4 c) (hN : N ≤ 9223372036854775807) :
  Calls Try.prog 16 #[.pointer (some ⟨h, 0, none⟩), .slice a n cap] V fun e V' => e = .returned (.bool (holdL c.held bs).1) ∧ ClimbAt V' h g N v0 v1 v2 v3 v4 ⟨(holdL c.held bs).2, c.pairs, c.height, c.blocks⟩ ∧ Turns (fun k => k = g) V V' := by
 obtain ⟨R, hR⟩ : ∃ R, R = holdL c.held bs := ⟨_, rfl⟩
 rw [← hR]
 have HR : Hid (R = holdL c.held (bs.drop 0)) := hR
 have mn : n ≤ 9223372036854775807 := by rw [hn]; exact Nat.le_trans hI.1 hI.2.1
 have EN : Hid (n = bs.length) := hn
 have RI : Hid (IsI V a cap bs) := hI
 clear hR hn hI
 go_enter Try.func16, Try.ntmps16
 go_wp2
 go_loopw [9] (fun v wr => ∃ (j : Nat) (l : List Bool), j ≤ n ∧ v = .int .i64 j ∧ R = holdL l (bs.drop j) ∧ ClimbAt wr h g N v0 v1 v2 v3 v4 ⟨l, c.pairs, c.height, c.blocks⟩ ∧ Turns (fun k => k = g) V wr) (fun v _ => n - (intOf v).toNat)
 case atStart => exact ⟨0, c.held, by omega, rfl, HR.out, D, Turns.refl _ _⟩
 case round =>
  clear D HR
  obtain ⟨j, l, hj, rfl, hA, D, T⟩ := hrel
  have HA : Hid (R = holdL l (bs.drop j)) := hA
  clear hA
  have x8 := D.c8
  by_cases hlt : j < n
  ·
   have hlt' : (j : Int) < n := by omega
   obtain ⟨b, hb⟩ : ∃ x, Hid (bs[j]? = some x) := get_some (by rw [← EN.out]; exact hlt)
   obtain ⟨b1, o1, rfl, -, hc⟩ := RI.out.2.2 j b hb.out
   have hne := ha (fun e => by have := hb.out; rw [e] at this; simp at this) _ rfl
   have z := T.cell (p := ⟨b1, o1 + j, none⟩) hne hc
   have hd : Hid (bs.drop j = b :: bs.drop (j + 1)) := by
    obtain ⟨hl, hv⟩ := List.getElem?_eq_some_iff.1 hb.out
    show _ = _
    rw [List.drop_eq_getElem_cons hl, hv]
   have hlen : Hid (l.length = N) := D.len
   clear hc hb
   by_cases h0 : b < 0
   ·
    have HF : Hid (R = (false, l)) := by show _ = _; rw [HA.out, hd.out, holdL, if_neg (fun hh => by omega)]
    go_wp2
    go_ret
    rw [HF.out]
    exact ⟨rfl, D, T⟩
   ·
    by_cases h1 : b < N
    ·
     have h1' : ¬ (N : Int) ≤ b := by omega
     obtain ⟨i, rfl⟩ : ∃ i : Nat, b = i := ⟨b.toNat, by omega⟩
     have hil : i < l.length := by have := hlen.out; omega
     obtain ⟨x, hx⟩ : ∃ x, Hid (l[i]? = some x) := get_some hil
     obtain ⟨q, qf⟩ := D.row.cell hx.out
     cases x with
     | true =>
      have HF : Hid (R = (false, l)) := by show _ = _; rw [HA.out, hd.out, holdL, if_neg (fun hh => by have := hh.2.2; rw [Int.toNat_natCast, atB_some hx.out] at this; cases this)]
      clear hil
      go_wp2
      go_ret
      rw [HF.out]
      exact ⟨rfl, D, T⟩
     | false =>
      have HF : Hid (R = holdL (l.set i true) (bs.drop (j + 1))) := by show _ = _; rw [HA.out, hd.out, holdL, if_pos ⟨by omega, by omega, by rw [Int.toNat_natCast, atB_some hx.out]⟩, Int.toNat_natCast]
      have D' := D.hold i true
      have T' : Turns (fun k => k = g) V (wr.setCell ⟨g, i, none⟩ (.bool true)) := T.setCell (p := ⟨g, i, none⟩) rfl _
      clear hil HA hd hx
      go_wp2
      go_roundw
      case rel => exact ⟨j + 1, l.set i true, by omega, by go_num, HF.out, D', T'⟩
      case measure => simp [intOf]; omega
    ·
     have h1' : (N : Int) ≤ b := by omega
     have HF : Hid (R = (false, l)) := by show _ = _; rw [HA.out, hd.out, holdL, if_neg (fun hh => by have := hlen.out; omega)]
     go_wp2
     go_ret
     rw [HF.out]
     exact ⟨rfl, D, T⟩
  ·
   obtain rfl : n = j := by omega
   have hj0 : ¬ (n : Int) < n := by omega
   have HF : Hid (R = (true, l)) := by show _ = _; rw [HA.out, EN.out, List.drop_length]; rfl
   go_wp2
   go_ret
   rw [HF.out]
   exact ⟨rfl, D, T⟩
set_option maxRecDepth 20000 in
set_option maxHeartbeats 2000000 in
theorem leaf_any (V : World) (h g N : Nat) (v0 v1 v2 v3 v4 : Value) (c : ClimbS) (nl : Bool) (a1 a2 a3 : Option Addr) (k1 d1 k2 d2 k3 d3 : Nat) (d : Int) (D : ClimbAt V h g N v0 v1 v2 v3 v4 c) (hk : c.pairs ≤ 1000000) (hk1 : k1 ≤ 1000) :
  Calls Try.prog 27 #[.pointer (some ⟨h, 0, none⟩), .agg #[.bool nl, .slice a1 k1 d1, .slice a2 k2 d2, .slice a3 k3 d3], .int .i64 d] V fun e V' => e = .returned (.int .i64 (leafC k1 d c).1) ∧ ClimbAt V' h g N v0 v1 v2 v3 v4 (leafC k1 d c).2 ∧ Turns (fun k => k = h) V V' := by
 have hlt := D.lt
 obtain ⟨o, ho⟩ : ∃ o, o = Obj.cells #[.bool nl, .slice a1 k1 d1, .slice a2 k2 d2, .slice a3 k3 d3] 62 := ⟨_, rfl⟩
 have al : ∀ U : World, Below U.heap.size U (U.alloc o) := fun U => (Below.refl _ _).alloc (Nat.le_refl _) _
 have bn : ∀ U : World, Box4 (U.alloc o) U.heap.size (.bool nl) (.slice a1 k1 d1) (.slice a2 k2 d2) (.slice a3 k3 d3) := fun U => by rw [ho]; exact box4_new _ _ _ _ _ _ rfl
 have T : Turns (fun k => k = h) V V := Turns.refl _ _
 have hsum : IntKind.i64.wrap ((c.pairs : Int) + (k1 : Int)) = ((c.pairs + k1 : Nat) : Int) := by rw [IntKind.wrap_i64]; omega
 have x6 := (D.below (al V)).c6
 by_cases h0 : c.height = 0
 ·
  have h0' : (c.height == 0) = true := by simpa using h0
  have hL : leafC k1 d c = (0, ⟨c.held, c.pairs + k1, d, c.blocks⟩) := by unfold leafC; rw [if_pos (.inl h0)]
  rw [hL]
  have y6 := (D.below (al V)).f6
  have D1 := D.set6 d
  have T1 : Turns (fun k => k = h) V (V.setCell ⟨h, 6, none⟩ (.int .i64 d)) := T.setCell (p := ⟨h, 6, none⟩) rfl _
  have n1 := (bn (V.setCell ⟨h, 6, none⟩ (.int .i64 d))).1.2.1
  rw [World.size_setCell] at n1
  have z5 := (D1.below (al _)).c5
  have w5 := (D1.below (al _)).f5
  have z6 := (D1.below (al _)).c6
  have D2 := (D1.set5 (c.pairs + k1)).below (al _)
  have T2 : Turns (fun k => k = h) V (((V.setCell ⟨h, 6, none⟩ (.int .i64 d)).setCell ⟨h, 5, none⟩ (.int .i64 (c.pairs + k1 : Nat))).alloc o) := (T1.setCell (p := ⟨h, 5, none⟩) rfl _).tr (al _)
  have hd : (d != d) = false := by simp
  subst ho
  clear hL h0 D1 T1 al bn
  go_enter Try.func27, Try.ntmps27
  go_wp2
  go_region
  go_wp2
  go_ret
  exact ⟨rfl, D2.below (Below.refl _ _).drew, T2.drew⟩
 ·
  have h0' : (c.height == 0) = false := by simpa using h0
  by_cases h1 : c.height = d
  ·
   have hL : leafC k1 d c = (0, ⟨c.held, c.pairs + k1, d, c.blocks⟩) := by unfold leafC; rw [if_pos (.inr h1)]
   rw [hL]
   have h1' : (c.height != d) = false := by simpa using h1
   have z5 := (D.below (al V)).c5
   have w5 := (D.below (al V)).f5
   have n1 := (bn V).1.2.1
   have D2 := (D.set5 (c.pairs + k1)).below (al _)
   have T2 : Turns (fun k => k = h) V ((V.setCell ⟨h, 5, none⟩ (.int .i64 (c.pairs + k1 : Nat))).alloc o) := (T.setCell (p := ⟨h, 5, none⟩) rfl _).tr (al _)
   have D3 : ClimbAt ((V.setCell ⟨h, 5, none⟩ (.int .i64 (c.pairs + k1 : Nat))).alloc o) h g N v0 v1 v2 v3 v4 ⟨c.held, c.pairs + k1, d, c.blocks⟩ := by rw [← h1]; exact D2
   subst ho
   clear hL h0 h1 D2 al bn
   go_enter Try.func27, Try.ntmps27
   go_wp2
   go_region
   go_wp2
   go_ret
   exact ⟨rfl, D3.below (Below.refl _ _).drew, T2.drew⟩
  ·
   have hL : leafC k1 d c = (81, c) := by unfold leafC; rw [if_neg (fun hh => hh.elim h0 h1)]
   rw [hL]
   have h1' : (c.height != d) = true := by simpa using h1
   have D2 := D.below (al V)
   have T2 : Turns (fun k => k = h) V (V.alloc o) := T.tr (al _)
   subst ho
   clear hL h0 h1 al bn
   go_enter Try.func27, Try.ntmps27
   go_wp2
   go_ret
   exact ⟨rfl, D2, T2⟩
end Go.Proofs.Ytpepgpjiddophaa
namespace Go.Proofs.Ytpepgpjiddophaa
open Go.RowKit Plain
set_option linter.unusedVariables false
def ClimbsAt (w : World) (h g N : Nat) (v0 v1 v2 v3 v4 : Value) (H : Int → Bool → Option NodeS) (k : Nat) : Prop :=
 ∀ (V : World) (s : ClimbS) (block d : Int) (low high : ByteArray), Below w.heap.size w V → ClimbAt V h g N v0 v1 v2 v3 v4 s → Room s → d = 9 - (k : Int) →
  Calls Try.prog 20 #[.pointer (some ⟨h, 0, none⟩), .agg #[.int .i64 block, .int .i64 d, .string low, .string high]] V fun e V' => e = .returned (.int .i64 (climbS H k s block low high).1) ∧ ClimbAt V' h g N v0 v1 v2 v3 v4 (climbS H k s block low high).2 ∧ Turns (fun k => k = h ∨ k = g) V V'
def LoadedN (nl : Bool) (nk nv : List ByteArray) (nc : List Int) (V0 X : World) (q : Nat) (a1 : Option Addr) (k1 d1 : Nat) (a2 : Option Addr) (k2 d2 : Nat) (a3 : Option Addr) (k3 d3 : Nat) : Prop :=
 NodeLo X V0.heap.size q nl a1 k1 d1 a2 k2 d2 a3 k3 d3 nk nv nc ∧ Below V0.heap.size V0 X
theorem ClimbAt.taken {V : World} {h g N : Nat} {v0 v1 v2 v3 v4 : Value} {c : ClimbS} {b : Int} (n : ClimbAt V h g N v0 v1 v2 v3 v4 ⟨c.held.set b.toNat true, c.pairs, c.height, c.blocks⟩) {m : Nat} (hm : m = c.blocks + 1) : ClimbAt (V.setCell ⟨h, 7, none⟩ (.int .i64 m)) h g N v0 v1 v2 v3 v4 (c.take b) := by
 subst hm
 exact n.set7 (c.blocks + 1)
theorem fold_stays {α β : Type} (f : β → α → β) (r : β) (h : ∀ x, f r x = r) : ∀ l : List α, l.foldl f r = r
 | [] => rfl
 | x :: l => by rw [List.foldl_cons, h]; exact fold_stays f r h l
set_option maxRecDepth 20000 in
set_option maxHeartbeats 4000000 in
theorem climb_step (w : World) (h g : Nat) (a a' b : Option Addr) (n c n' c' p f : Nat) (bs ns : List Bool) (ps : List ByteArray) (root gen : Int) (hn : n = bs.length) (hn' : n' = ns.length) (hp : p = ps.length) (hr : rightW bs ns ps root gen = true) (hwh : w.heap.size ≤ h) (hwg : w.heap.size ≤ g) (hB : IsB w a c bs) (hB' : IsB w a' c' ns) (hP : IsS w b f ps) (N : Nat) (hN : N ≤ 9223372036854775807) (k : Nat) (hk : k ≤ 8)
  (IH : ∀ k', k = k' + 1 → ClimbsAt w h g N (.slice a n c) (.slice a' n' c') (.slice b p f) (.int .i64 root) (.int .i64 gen) (holdsS ns ps gen) k') :
  ClimbsAt w h g N (.slice a n c) (.slice a' n' c') (.slice b p f) (.int .i64 root) (.int .i64 gen) (holdsS ns ps gen) k := by
 intro V s block d low high hV D hsm hd
 obtain ⟨W, hW⟩ : ∃ W, W = V.alloc (.cells #[.int .i64 block, .int .i64 d, .string low, .string high] 58) := ⟨_, rfl⟩
 have HW : Below V.heap.size V W := by rw [hW]; exact (Below.refl _ _).alloc (Nat.le_refl _) _
 have BP : Box4 W V.heap.size (.int .i64 block) (.int .i64 d) (.string low) (.string high) := by rw [hW]; exact box4_new _ _ _ _ _ _ rfl
 have hlt : h < V.heap.size := D.lt
 have hltg : g < V.heap.size := D.row.lt
 have T : Turns (fun k => k = h ∨ k = g) V W := Turns.of_below HW
 replace D := D.below HW
 have HB : Below w.heap.size w W := Below.tr hV HW
 obtain ⟨O, hO⟩ : ∃ O, O = holdsS ns ps gen block (d == 1) := ⟨_, rfl⟩
 obtain ⟨⟨nl, nk, nv, nc⟩, hnd⟩ : ∃ nd, nd = nodeO O := ⟨_, rfl⟩
 obtain ⟨E, hE⟩ : ∃ E, E = errO O := ⟨_, rfl⟩
 have cV : ∀ U, Below w.heap.size w U → Calls Try.prog 25 #[.agg #[.slice a n c, .slice a' n' c', .slice b p f, .int .i64 root, .int .i64 gen], .int .i64 block, .bool (d == 1)] U fun x V' => Answers U x V' nl nk nv nc E := fun U hU => by
  have := lookLoad_any a a' b n c n' c' p f bs ns ps root gen block (d == 1) U hn hn' hp (hB.below hU) (hB'.below hU) (hP.below hU)
  rw [hr, ← hO] at this
  refine this.mono fun x w' hh => ?_
  have h2 := (loadC_true _ _ _ _).1 hh
  rw [← hnd, ← hE] at h2
  exact h2
 have HO : Hid (O = holdsS ns ps gen block (d == 1) ∧ (nl, nk, nv, nc) = nodeO O ∧ E = errO O ∧ d = 9 - (k : Int)) := ⟨hO, hnd, hE, hd⟩
 have H9 : Hid (∀ b r (nd : NodeS), holdsS ns ps gen b r = some nd → nd.2.1.length ≤ 9) := fun b r nd hh => (holds_len b r nd hh).1
 have stands : Hid (∀ nd, O = some nd → standsN nd.1 nd.2.1 nd.2.2.1 nd.2.2.2 = true ∧ nd.2.1.length ≤ 9) := fun nd hh => by
  rw [hO] at hh
  exact ⟨(rightN_iff.1 (holds_right hh)).1, (holds_len _ _ _ hh).1⟩
 have HIH : Hid (∀ k', k = k' + 1 → ClimbsAt w h g N (.slice a n c) (.slice a' n' c') (.slice b p f) (.int .i64 root) (.int .i64 gen) (holdsS ns ps gen) k') := IH
 have HM : Hid (Room s ∧ k ≤ 8) := ⟨hsm, hk⟩
 obtain ⟨H, hH⟩ : ∃ H, H = holdsS ns ps gen := ⟨_, rfl⟩
 rw [← hH] at HO HIH H9 ⊢
 obtain ⟨R, hRES⟩ : ∃ r, r = climbS H k s block low high := ⟨_, rfl⟩
 rw [← hRES]
 have HRES : Hid (R = climbS H k s block low high) := hRES
 clear hRES
 obtain ⟨⟨p0, p1, p2, p3⟩, -⟩ := id (hW ▸ BP)
 clear hO hnd hE hd IH hn hn' hp hB hB' hP hr hsm hk hH hV
 go_enter Try.func20, Try.ntmps20
 go_wp2
 rw [← hW]
 clear p0 p1 p2 p3 hW
 obtain ⟨V0, hV0⟩ : ∃ X, X = W.drew := ⟨_, rfl⟩
 have hB0 : Below W.heap.size W V0 := by rw [hV0]; exact (Below.refl _ _).drew
 replace HB := Below.tr HB hB0
 replace BP := BP.below hB0
 replace D := D.below hB0
 replace T := T.tr hB0
 have HV0 : Hid (V0 = W.drew) := hV0
 have hle0 : V.heap.size < V0.heap.size := BP.lt
 clear hV0 hB0 HW
 obtain ⟨⟨p0, p1, p2, p3⟩, -⟩ := id BP
 obtain ⟨x0, x1, x2, x3, x4⟩ := D.wb
 refine (fun (key : Hid (∀ X q a1 k1 d1 a2 k2 d2 a3 k3 d3, LoadedN nl nk nv nc V0 X q a1 k1 d1 a2 k2 d2 a3 k3 d3 → (?prop : World → Nat → Option Addr → Nat → Nat → Option Addr → Nat → Nat → Option Addr → Nat → Nat → Prop) X q a1 k1 d1 a2 k2 d2 a3 k3 d3)) => ?reg) ?kont
 case reg =>
  refine wp_region_noPanic ?_
  refine wp_region_held_drew (S := fun X => (X.cell? ⟨V.heap.size, 0, none⟩ = some (.int .i64 block) ∧ X.cell? ⟨V.heap.size, 1, none⟩ = some (.int .i64 d)) ∧ X.cell? ⟨h, 0, none⟩ = some (.slice a n c) ∧ X.cell? ⟨h, 1, none⟩ = some (.slice a' n' c') ∧ X.cell? ⟨h, 2, none⟩ = some (.slice b p f) ∧ X.cell? ⟨h, 3, none⟩ = some (.int .i64 root) ∧ X.cell? ⟨h, 4, none⟩ = some (.int .i64 gen)) (by kernel_rfl) (by rw [← HV0.out]; exact ⟨⟨p0, p1⟩, x0, x1, x2, x3, x4⟩) (fun hHeld => ?_)
  rw [← HV0.out] at hHeld ⊢
  refine take_at (i := 0) (v := ?_) rfl (by kernel_rfl) (by kernel_rfl) (by kernel_rfl) (fun _ _ _ h => h) (Or.inl ⟨by rfl, ?_⟩) (by assumption) ?_
  rotate_left 1
  ·
   (intro w hSw; (try dsimp only at hSw); go_simp; (try with_reducible rfl))
  try go_frame
  refine take_at (i := 1) (v := ?_) rfl (by kernel_rfl) (by kernel_rfl) (by kernel_rfl) (fun _ _ _ h => h) (Or.inl ⟨by rfl, ?_⟩) (by assumption) ?_
  rotate_left 1
  ·
   (intro w hSw; (try dsimp only at hSw); go_simp; (try with_reducible rfl))
  try go_frame
  refine take_at (i := 2) (v := ?_) rfl (by kernel_rfl) (by kernel_rfl) (by kernel_rfl) (fun _ _ _ h => h) (Or.inl ⟨by rfl, ?_⟩) (by assumption) ?_
  rotate_left 1
  ·
   (intro w hSw; (try dsimp only at hSw); go_simp; (try with_reducible rfl))
  try go_frame
  refine take_at (i := 3) (v := ?_) rfl (by kernel_rfl) (by kernel_rfl) (by kernel_rfl) (fun _ _ _ h => h) (Or.inl ⟨by rfl, ?_⟩) (by assumption) ?_
  rotate_left 1
  ·
   (intro w hSw; (try dsimp only at hSw); go_simp; (try with_reducible rfl))
  try go_frame
  refine take_at (i := 4) (v := ?_) rfl (by kernel_rfl) (by kernel_rfl) (by kernel_rfl) (fun _ _ _ h => h) (Or.inl ⟨by rfl, ?_⟩) (by assumption) ?_
  rotate_left 1
  ·
   (intro w hSw; (try dsimp only at hSw); go_simp; (try with_reducible rfl))
  try go_frame
  refine take_at (i := 5) (v := ?_) rfl (by kernel_rfl) (by kernel_rfl) (by kernel_rfl) (fun _ _ _ h => h) (Or.inl ⟨by rfl, ?_⟩) (by assumption) ?_
  rotate_left 1
  ·
   (intro w hSw; (try dsimp only at hSw); go_simp; (try with_reducible rfl))
  try go_frame
  refine take_at (i := 6) (v := ?_) rfl (by kernel_rfl) (by kernel_rfl) (by kernel_rfl) (fun _ _ _ h => h) (Or.inl ⟨by rfl, ?_⟩) (by assumption) ?_
  rotate_left 1
  ·
   (intro w hSw; (try dsimp only at hSw); go_simp; (try with_reducible rfl))
  try go_frame
  refine take_at (i := 7) (v := ?_) rfl (by kernel_rfl) (by kernel_rfl) (by kernel_rfl) (fun _ _ _ h => h) (Or.inl ⟨by rfl, ?_⟩) (by assumption) ?_
  rotate_left 1
  ·
   (intro w hSw; (try dsimp only at hSw); go_simp; (try with_reducible rfl))
  try go_frame
  refine take_at (i := 8) (v := ?_) rfl (by kernel_rfl) (by kernel_rfl) (by kernel_rfl) (fun _ _ _ h => h) (Or.inl ⟨by rfl, ?_⟩) (by assumption) ?_
  rotate_left 1
  ·
   (intro w hSw; (try dsimp only at hSw); go_simp; (try with_reducible rfl))
  try go_frame
  refine wpAnyH_ready (rs := [9, 13]) (by kernel_rfl) (by simp) ?_
  refine cons_at (i := 9) rfl (fun K hK => ?callFirst) (cons_at (i := 13) rfl (fun K hK => ?allocFirst) AllReadyH.nil)
  case callFirst =>
   go_simp
   go_at_call 25
   refine (cV _ HB).mono ?_
   rintro y t ⟨k1, a1, d1, k2, a2, d2, k3, a3, d3, rfl, e1, e2, e3, i1, i2, i3, j1, j2, j3, hb⟩
   have EE : Hid (k1 = nk.length ∧ k2 = nv.length ∧ k3 = nc.length) := ⟨e1, e2, e3⟩
   clear e1 e2 e3
   have hA := (Below.refl t.heap.size t).alloc (Nat.le_refl _) (.cells #[.bool nl, .slice a1 k1 d1, .slice a2 k2 d2, .slice a3 k3 d3] 62)
   have F : LoadedN nl nk nv nc V0 (t.alloc (.cells #[.bool nl, .slice a1 k1 d1, .slice a2 k2 d2, .slice a3 k3 d3] 62)) t.heap.size a1 k1 d1 a2 k2 d2 a3 k3 d3 := ⟨nodeLo_new t _ _ nl rfl hb.size EE.out.1 EE.out.2.1 EE.out.2.2 i1 i2 i3 j1 j2 j3, Below.tr hb hA⟩
   have hs : ∀ U, Below V0.heap.size V0 U → (U.cell? ⟨V.heap.size, 0, none⟩ = some (.int .i64 block) ∧ U.cell? ⟨V.heap.size, 1, none⟩ = some (.int .i64 d)) ∧ U.cell? ⟨h, 0, none⟩ = some (.slice a n c) ∧ U.cell? ⟨h, 1, none⟩ = some (.slice a' n' c') ∧ U.cell? ⟨h, 2, none⟩ = some (.slice b p f) ∧ U.cell? ⟨h, 3, none⟩ = some (.int .i64 root) ∧ U.cell? ⟨h, 4, none⟩ = some (.int .i64 gen) := fun U hU => ⟨⟨cell_below hU p0, cell_below hU p1⟩, cell_below hU x0, cell_below hU x1, cell_below hU x2, cell_below hU x3, cell_below hU x4⟩
   refine hK.out _ _ ?_ (fun hHeld2 => ?_)
   ·
    exact hs _ hb
   clear hK K
   refine take_at (i := 10) (v := ?_) rfl (by kernel_rfl) (by kernel_rfl) (by kernel_rfl) (fun _ _ _ h => h) (Or.inl ⟨by rfl, ?_⟩) (by assumption) ?_
   rotate_left 1
   ·
    (intro w hSw; (try dsimp only at hSw); go_simp; (try with_reducible rfl))
   try go_frame
   refine take_at (i := 11) (v := ?_) rfl (by kernel_rfl) (by kernel_rfl) (by kernel_rfl) (fun _ _ _ h => h) (Or.inl ⟨by rfl, ?_⟩) (by assumption) ?_
   rotate_left 1
   ·
    (intro w hSw; (try dsimp only at hSw); go_simp; (try with_reducible rfl))
   try go_frame
   refine take_at (i := 12) (v := ?_) rfl (by kernel_rfl) (by kernel_rfl) (by kernel_rfl) (fun _ _ _ h => h) (Or.inl ⟨by rfl, ?_⟩) (by assumption) ?_
   rotate_left 1
   ·
    (intro w hSw; (try dsimp only at hSw); go_simp; (try with_reducible rfl))
   try go_frame
   refine wpAnyH_ready (rs := [13]) (by kernel_rfl) (by simp) ?_
   refine cons_at (i := 13) rfl (fun K hK => ?_) AllReadyH.nil
   go_simp
   refine hK.out _ _ ?_ (fun hHeld3 => ?_)
   ·
    exact hs _ (Below.tr hb ((Below.refl _ _).alloc (Nat.le_refl _) _))
   clear hK K
   try go_frame
   refine wpAnyH_ready (rs := [14]) (by kernel_rfl) (by simp) ?_
   refine cons_at (i := 14) rfl (fun K hK => ?_) AllReadyH.nil
   go_simp
   refine hK.out _ _ ?_ (fun hHeld4 => ?_)
   ·
    exact hs _ (Below.tr hb hA)
   clear hK K
   try go_frame
   clear hHeld hHeld2 hHeld3
   refine take_at (i := 15) (v := ?_) rfl (by kernel_rfl) (by kernel_rfl) (by kernel_rfl) (fun _ _ _ h => h) (Or.inl ⟨by rfl, ?_⟩) (by assumption) ?_
   rotate_left 1
   ·
    (intro w hSw; (try dsimp only at hSw); go_simp; (try with_reducible rfl))
   try go_frame
   refine wpAnyH_done (by kernel_rfl) ?_ _
   refine NoPanic.normal ?_
   clear hHeld4 hA hs
   generalize t.alloc (.cells #[.bool nl, .slice a1 k1 d1, .slice a2 k2 d2, .slice a3 k3 d3] 62) = X at F ⊢
   generalize t.heap.size = q at F ⊢
   exact key.out X q a1 k1 d1 a2 k2 d2 a3 k3 d3 F
  case allocFirst =>
   go_simp
   have hA := (Below.refl V0.heap.size V0).alloc (Nat.le_refl _) (.cells #[.bool false, .slice none 0 0, .slice none 0 0, .slice none 0 0] 62)
   have bZ := box4_new V0 (.bool false) (.slice none 0 0) (.slice none 0 0) (.slice none 0 0) 62 rfl
   have hs : ∀ U, Below V0.heap.size V0 U → (U.cell? ⟨V.heap.size, 0, none⟩ = some (.int .i64 block) ∧ U.cell? ⟨V.heap.size, 1, none⟩ = some (.int .i64 d)) ∧ U.cell? ⟨h, 0, none⟩ = some (.slice a n c) ∧ U.cell? ⟨h, 1, none⟩ = some (.slice a' n' c') ∧ U.cell? ⟨h, 2, none⟩ = some (.slice b p f) ∧ U.cell? ⟨h, 3, none⟩ = some (.int .i64 root) ∧ U.cell? ⟨h, 4, none⟩ = some (.int .i64 gen) := fun U hU => ⟨⟨cell_below hU p0, cell_below hU p1⟩, cell_below hU x0, cell_below hU x1, cell_below hU x2, cell_below hU x3, cell_below hU x4⟩
   refine hK.out _ _ ?_ (fun hHeld2 => ?_)
   ·
    exact hs _ hA
   clear hK K
   try go_frame
   refine wpAnyH_ready (rs := [9]) (by kernel_rfl) (by simp) ?_
   refine cons_at (i := 9) rfl (fun K hK => ?_) AllReadyH.nil
   go_simp
   go_at_call 25
   refine (cV _ (Below.tr HB hA)).mono ?_
   rintro y t ⟨k1, a1, d1, k2, a2, d2, k3, a3, d3, rfl, e1, e2, e3, i1, i2, i3, j1, j2, j3, hb⟩
   have EE : Hid (k1 = nk.length ∧ k2 = nv.length ∧ k3 = nc.length) := ⟨e1, e2, e3⟩
   clear e1 e2 e3
   have hts : V0.heap.size + 1 ≤ t.heap.size := by have := hb.size; simp at this; omega
   replace bZ := bZ.below hb
   obtain ⟨⟨z0, z1, z2, z3⟩, y0, y1, y2, y3⟩ := id bZ
   refine hK.out _ _ ?_ (fun hHeld3 => ?_)
   ·
    exact hs _ (Below.tr hA hb)
   clear hK K
   refine take_at (i := 10) (v := ?_) rfl (by kernel_rfl) (by kernel_rfl) (by kernel_rfl) (fun _ _ _ h => h) (Or.inl ⟨by rfl, ?_⟩) (by assumption) ?_
   rotate_left 1
   ·
    (intro w hSw; (try dsimp only at hSw); go_simp; (try with_reducible rfl))
   try go_frame
   refine take_at (i := 11) (v := ?_) rfl (by kernel_rfl) (by kernel_rfl) (by kernel_rfl) (fun _ _ _ h => h) (Or.inl ⟨by rfl, ?_⟩) (by assumption) ?_
   rotate_left 1
   ·
    (intro w hSw; (try dsimp only at hSw); go_simp; (try with_reducible rfl))
   try go_frame
   refine take_at (i := 12) (v := ?_) rfl (by kernel_rfl) (by kernel_rfl) (by kernel_rfl) (fun _ _ _ h => h) (Or.inl ⟨by rfl, ?_⟩) (by assumption) ?_
   rotate_left 1
   ·
    (intro w hSw; (try dsimp only at hSw); go_simp; (try with_reducible rfl))
   try go_frame
   refine wpAnyH_ready (rs := [14]) (by kernel_rfl) (by simp) ?_
   refine cons_at (i := 14) rfl (fun K hK => ?_) AllReadyH.nil
   go_simp
   have T4 := turns_put4 t V0.heap.size (.bool nl) (.slice a1 k1 d1) (.slice a2 k2 d2) (.slice a3 k3 d3)
   have hB4 : Below V0.heap.size V0 ((((t.setCell ⟨V0.heap.size, 0, none⟩ (.bool nl)).setCell ⟨V0.heap.size, 1, none⟩ (.slice a1 k1 d1)).setCell ⟨V0.heap.size, 2, none⟩ (.slice a2 k2 d2)).setCell ⟨V0.heap.size, 3, none⟩ (.slice a3 k3 d3)) := below_put4 (Below.tr hA hb) (Nat.le_refl _) _ _ _ _
   have F : LoadedN nl nk nv nc V0 ((((t.setCell ⟨V0.heap.size, 0, none⟩ (.bool nl)).setCell ⟨V0.heap.size, 1, none⟩ (.slice a1 k1 d1)).setCell ⟨V0.heap.size, 2, none⟩ (.slice a2 k2 d2)).setCell ⟨V0.heap.size, 3, none⟩ (.slice a3 k3 d3)) V0.heap.size a1 k1 d1 a2 k2 d2 a3 k3 d3 :=
    ⟨⟨bZ.put _ _ _ _, EE.out.1, EE.out.2.1, EE.out.2.2, i1.turns T4 (fun x hx e => by have := j1 x hx; simp at this; omega), i2.turns T4 (fun x hx e => by have := j2 x hx; simp at this; omega), i3.turns T4 (fun x hx e => by have := j3 x hx; simp at this; omega), Nat.le_refl _, j1.mono (by simp), j2.mono (by simp), j3.mono (by simp)⟩, hB4⟩
   refine hK.out _ _ ?_ (fun hHeld4 => ?_)
   ·
    exact hs _ hB4
   clear hK K
   try go_frame
   clear hHeld hHeld2 hHeld3
   refine take_at (i := 15) (v := ?_) rfl (by kernel_rfl) (by kernel_rfl) (by kernel_rfl) (fun _ _ _ h => h) (Or.inl ⟨by rfl, ?_⟩) (by assumption) ?_
   rotate_left 1
   ·
    (intro w hSw; (try dsimp only at hSw); go_simp; (try with_reducible rfl))
   try go_frame
   refine wpAnyH_done (by kernel_rfl) ?_ _
   refine NoPanic.normal ?_
   exact key.out _ _ a1 k1 d1 a2 k2 d2 a3 k3 d3 F
 case kont =>
  intro X q a1 k1 d1 a2 k2 d2 a3 k3 d3 F
  obtain ⟨NL, hBX⟩ := F
  replace HB := Below.tr HB hBX
  replace BP := BP.below hBX
  replace D := D.below hBX
  replace T := T.tr hBX
  obtain ⟨⟨n0, n1, n2, n3⟩, -⟩ := id NL.box
  clear p0 p1 p2 p3 x0 x1 x2 x3 x4 cV HV0
  obtain ⟨⟨p0, p1, p2, p3⟩, -⟩ := id BP
  cases O with
  | none =>
   obtain ⟨hO, hnd, rfl, hd⟩ := HO.out
   cases hnd
   have hR : Hid (R = (81, s)) := by
    show _ = _
    rw [HRES.out]
    cases k with
    | zero => rfl
    | succ k =>
     have e1 : (d == 1) = decide (k = 7) := by rw [Bool.eq_iff_iff]; simp; omega
     rw [climbS, ← e1, ← hO]
   clear hO hd HO stands HM HIH
   go_wp2
   go_ret
   rw [hR.out]
   exact ⟨rfl, D, T⟩
  | some nd =>
   obtain ⟨hO, hnd, rfl, hd⟩ := HO.out
   cases hnd
   obtain ⟨hst, h9⟩ := stands.out _ rfl
   replace h9 : nk.length ≤ 9 := h9
   cases k with
   | zero =>
    have hd9 : (8 : Int) < d := by omega
    have hR : Hid (R = (81, s)) := HRES.out
    clear hO hd HO stands HM HIH
    go_wp2
    go_ret
    rw [hR.out]
    exact ⟨rfl, D, T⟩
   | succ k =>
    have hd9 : ¬ (8 : Int) < d := by omega
    have hd8 : 8 - (k : Int) = d := by omega
    have hd10 : d + 1 = 9 - (k : Int) := by omega
    have e1 : (d == 1) = decide (k = 7) := by rw [Bool.eq_iff_iff]; simp; omega
    have hR : R = if withinK nk low high = true ∧ 0 ≤ block ∧ block < s.held.length ∧ atB s.held block.toNat = false then (if nl = true then leafC nk.length d (s.take block) else (kidsT low high nk nc).foldl (fun (r : Int × ClimbS) (x : Int × ByteArray × ByteArray) => if r.1 = 0 then climbS H k r.2 x.1 x.2.1 x.2.2 else r) (0, s.take block)) else (81, s) := by
     rw [HRES.out, climbS, ← e1, ← hO, ← hd8]
    have cI := placeWithin_any block d low high a1 k1 d1 nk X NL.e1 NL.i1
    have hAll : ∀ U, Below X.heap.size X U → ClimbAt U h g N (.slice a n c) (.slice a' n' c') (.slice b p f) (.int .i64 root) (.int .i64 gen) s → Calls Try.prog 16 #[.pointer (some ⟨h, 0, none⟩), .slice (some ⟨U.heap.size, 0, none⟩) 1 1] (U.alloc (.cells #[.int .i64 block] 3)) fun e V' => e = .returned (.bool (holdL s.held [block]).1) ∧ ClimbAt V' h g N (.slice a n c) (.slice a' n' c') (.slice b p f) (.int .i64 root) (.int .i64 gen) ⟨(holdL s.held [block]).2, s.pairs, s.height, s.blocks⟩ ∧ Turns (fun k => k = g) U V' := fun U hU hD =>
     (hold_any (U.alloc (.cells #[.int .i64 block] 3)) h g N _ _ _ _ _ s (some ⟨U.heap.size, 0, none⟩) 1 1 [block] rfl (isI_one U block) (fun _ x hx e => by cases hx; have h1 : U.heap.size = g := e; have h2 : X.heap.size ≤ U.heap.size := hU.size; have h3 := hBX.size; omega) (hD.below ((Below.refl _ _).alloc (Nat.le_refl _) _)) hN).mono fun e V' hh => ⟨hh.1, hh.2.1, (Turns.alloc (Turns.refl _ _) _).trans hh.2.2⟩
    have hh1 : holdL s.held [block] = if 0 ≤ block ∧ block < s.held.length ∧ atB s.held block.toNat = false then (true, s.held.set block.toNat true) else (false, s.held) := by
     rw [holdL]
     split
     ·
      rfl
     ·
      rfl
    rw [hh1] at hAll
    clear hh1 HRES
    cases hw : withinK nk low high with
    | false =>
     rw [hw] at cI
     have HF : Hid (R = (81, s)) := by show _ = _; rw [hR, hw, if_neg (show ¬ (false = true ∧ 0 ≤ block ∧ block < s.held.length ∧ atB s.held block.toNat = false) from fun hh => by cases hh.1)]
     clear hR hO hd HO stands HM HIH hAll hw hd8 hd10 e1 H9
     go_wp2_with (go_at_call 26; refine cI.mono ?_; rintro y t ⟨rfl, hb⟩; replace D := D.below hb; replace T := T.tr hb)
     go_ret
     rw [HF.out]
     exact ⟨rfl, D, T⟩
    | true =>
     rw [hw] at cI
     by_cases hc : 0 ≤ block ∧ block < s.held.length ∧ atB s.held block.toNat = false
     ·
      rw [hw, if_pos ⟨rfl, hc⟩] at hR
      rw [if_pos hc] at hAll
      obtain ⟨hrt, hr9⟩ := room_take HM.out.1 hc.1 hc.2.1 hc.2.2
      have hpr : s.pairs ≤ 1000000 := by have := hrt.1; have := hrt.2; omega
      obtain ⟨m, hm⟩ : ∃ m, m = s.blocks + 1 := ⟨_, rfl⟩
      have Hm : Hid (m = s.blocks + 1) := hm
      have hbl : IntKind.i64.wrap ((s.blocks : Int) + 1) = (m : Int) := by have := hrt.1; have e2 : (s.take block).blocks = s.blocks + 1 := rfl; rw [IntKind.wrap_i64]; omega
      have HRT : Hid (Room (s.take block)) := hrt
      clear hw hc hd8 e1 hrt hr9 hm
      cases nl with
      | true =>
       have HF : Hid (R = leafC nk.length d (s.take block)) := by show _ = _; rw [hR, if_pos rfl]
       clear hR
       have cL : ∀ U, ClimbAt U h g N (.slice a n c) (.slice a' n' c') (.slice b p f) (.int .i64 root) (.int .i64 gen) (s.take block) → Calls Try.prog 27 #[.pointer (some ⟨h, 0, none⟩), .agg #[.bool true, .slice a1 k1 d1, .slice a2 k2 d2, .slice a3 k3 d3], .int .i64 d] U fun e V' => e = .returned (.int .i64 (leafC nk.length d (s.take block)).1) ∧ ClimbAt V' h g N (.slice a n c) (.slice a' n' c') (.slice b p f) (.int .i64 root) (.int .i64 gen) (leafC nk.length d (s.take block)).2 ∧ Turns (fun k => k = h) U V' := fun U hD => by
        have := leaf_any U h g N _ _ _ _ _ (s.take block) true a1 a2 a3 k1 d1 k2 d2 k3 d3 d hD hpr (by rw [NL.e1]; omega)
        rw [NL.e1] at this
        rw [NL.e1]
        exact this
       clear hO hd HO stands HM HIH hd10 H9 h9 hst
       go_wp2_with (first
        | (go_at_call 26; refine cI.mono ?_; rintro y t ⟨rfl, hb⟩; replace HB := Below.tr HB hb; replace D := D.below hb; replace T := T.tr hb; replace BP := BP.below hb; replace NL := NL.stay (Turns.of_below hb); clear n0 n1 n2 n3 p0 p1 p2 p3; obtain ⟨⟨n0, n1, n2, n3⟩, -⟩ := id NL.box; obtain ⟨⟨p0, p1, p2, p3⟩, -⟩ := id BP)
        | (go_at_call 16; refine (hAll _ hb D).mono ?_; rintro y t2 ⟨rfl, D2, T2⟩; have q7 := D2.c7; have qf7 := D2.f7; have D3 := D2.taken Hm.out; have T3 : Turns (fun k => k = h ∨ k = g) t (t2.setCell ⟨h, 7, none⟩ (.int .i64 m)) := (T2.mono fun k hk => .inr hk).setCell (p := ⟨h, 7, none⟩) (.inl rfl) _; replace T := T.trans T3; replace HB := Below.turns HB T3 (fun i hi => (by rcases hi with e | e <;> omega)); replace NL := NL.stay (T3.mono fun k hk => (by rcases hk with e | e <;> omega)); replace BP := BP.turns T3 (fun hk => (by rcases hk with e | e <;> omega)); clear n0 n1 n2 n3 p0 p1 p2 p3 D T3 T2 hb D2; obtain ⟨⟨n0, n1, n2, n3⟩, -⟩ := id NL.box; obtain ⟨⟨p0, p1, p2, p3⟩, -⟩ := id BP)
        | (go_at_call 27; refine (cL _ D3).mono ?_; rintro y t4 ⟨rfl, D4, T4⟩))
       go_ret
       rw [HF.out]
       exact ⟨rfl, D4, T.trans (T4.mono fun k hk => .inl hk)⟩
      | false =>
       rw [if_neg (show ¬ false = true by decide)] at hR
       have HRR : Hid (R = ((kidsT low high nk nc).drop 0).foldl (fun (r : Int × ClimbS) (x : Int × ByteArray × ByteArray) => if r.1 = 0 then climbS H k r.2 x.1 x.2.1 x.2.2 else r) (0, s.take block)) := hR
       have hsh := shape_inner.1 (standsN_iff.1 hst).2.2.2.2.2
       have cT := HIH.out k rfl
       have HE : Hid (k1 = nk.length ∧ k3 = nc.length ∧ nc.length = nk.length + 1 ∧ d + 1 = 9 - (k : Int) ∧ (0 ≤ d ∧ d ≤ 100)) := ⟨NL.e1, NL.e3, hsh.2.2, hd10, (by have := HM.out.2; omega)⟩
       have mk3 : k3 ≤ 9223372036854775807 := by rw [NL.e3]; exact Nat.le_trans NL.i3.1 NL.i3.2.1
       clear hR hO hd HO stands HM HIH hd10 h9 hst hsh
       go_wp2_with (first
        | (go_at_call 26; refine cI.mono ?_; rintro y t ⟨rfl, hb⟩; replace HB := Below.tr HB hb; replace D := D.below hb; replace T := T.tr hb; replace BP := BP.below hb; replace NL := NL.stay (Turns.of_below hb); clear n0 n1 n2 n3 p0 p1 p2 p3; obtain ⟨⟨n0, n1, n2, n3⟩, -⟩ := id NL.box; obtain ⟨⟨p0, p1, p2, p3⟩, -⟩ := id BP)
        | (go_at_call 16; refine (hAll _ hb D).mono ?_; rintro y t2 ⟨rfl, D2, T2⟩; have q7 := D2.c7; have qf7 := D2.f7; have D3 := D2.taken Hm.out; have T3 : Turns (fun k => k = h ∨ k = g) t (t2.setCell ⟨h, 7, none⟩ (.int .i64 m)) := (T2.mono fun k hk => .inr hk).setCell (p := ⟨h, 7, none⟩) (.inl rfl) _; replace T := T.trans T3; replace HB := Below.turns HB T3 (fun i hi => (by rcases hi with e | e <;> omega)); replace NL := NL.stay (T3.mono fun k hk => (by rcases hk with e | e <;> omega)); replace BP := BP.turns T3 (fun hk => (by rcases hk with e | e <;> omega)); clear n0 n1 n2 n3 p0 p1 p2 p3 D T3 T2 hb D2; obtain ⟨⟨n0, n1, n2, n3⟩, -⟩ := id NL.box; obtain ⟨⟨p0, p1, p2, p3⟩, -⟩ := id BP))
       have D := D3
       clear D3 q7 qf7
       generalize t2.setCell ⟨h, 7, none⟩ (.int .i64 m) = X3 at *
       have HN : Hid (NodeLo X3 V0.heap.size q false a1 k1 d1 a2 k2 d2 a3 k3 d3 nk nv nc) := NL
       have HBP : Hid (Box4 X3 V.heap.size (.int .i64 block) (.int .i64 d) (.string low) (.string high)) := BP
       go_loopw [62] (fun v wr => ∃ (j : Nat) (s2 : ClimbS), j ≤ k3 ∧ v = .int .i64 j ∧ (Room s2 ∧ R = ((kidsT low high nk nc).drop j).foldl (fun (r : Int × ClimbS) (x : Int × ByteArray × ByteArray) => if r.1 = 0 then climbS H k r.2 x.1 x.2.1 x.2.2 else r) (0, s2)) ∧ ClimbAt wr h g N (.slice a n c) (.slice a' n' c') (.slice b p f) (.int .i64 root) (.int .i64 gen) s2 ∧ Turns (fun k => k = h ∨ k = g) V wr ∧ Turns (fun k => k = h ∨ k = g) X3 wr ∧ Below w.heap.size w wr) (fun v _ => k3 - (intOf v).toNat)
       case atStart => exact ⟨0, s.take block, by omega, rfl, ⟨HRT.out, HRR.out⟩, D, T, Turns.refl _ _, HB⟩
       case round =>
        clear D T HB n0 n1 n2 n3 p0 p1 p2 p3 NL BP
        obtain ⟨j, s2, hj, rfl, hs2, D, T, LO, HB⟩ := hrel
        have HS2 : Hid (Room s2 ∧ R = ((kidsT low high nk nc).drop j).foldl (fun (r : Int × ClimbS) (x : Int × ByteArray × ByteArray) => if r.1 = 0 then climbS H k r.2 x.1 x.2.1 x.2.2 else r) (0, s2)) := hs2
        clear hs2
        have NL := HN.out.stay (LO.mono fun k hk => by rcases hk with e | e <;> omega)
        have BP := HBP.out.turns LO (fun hk => by rcases hk with e | e <;> omega)
        obtain ⟨⟨n0, n1, n2, n3⟩, -⟩ := id NL.box
        obtain ⟨⟨p0, p1, p2, p3⟩, -⟩ := id BP
        by_cases hlt3 : j < k3
        ·
         have hlt3' : (j : Int) < k3 := by omega
         obtain ⟨kb, hkb⟩ : ∃ x, nc[j]? = some x := ⟨_, List.getElem?_eq_getElem (by have := HE.out; omega)⟩
         obtain ⟨x, hx⟩ : ∃ x, x = kidFrom low nk j := ⟨_, rfl⟩
         obtain ⟨z, hz⟩ : ∃ z, z = kidTo high nk j := ⟨_, rfl⟩
         have cD : Calls Try.prog 28 #[.agg #[.int .i64 block, .int .i64 d, .string low, .string high], .agg #[.bool false, .slice a1 k1 d1, .slice a2 k2 d2, .slice a3 k3 d3], .int .i64 j] wr fun x' w' => x' = .returned (.agg #[.int .i64 kb, .int .i64 (d + 1), .string x, .string z]) ∧ Below wr.heap.size wr w' := by have := placeBelow_any block d low high false a1 a2 a3 k1 d1 k2 d2 k3 d3 nk nv nc j kb wr NL.e1 NL.e3 NL.i1 NL.i3 hkb HE.out.2.2.1 HE.out.2.2.2.2; rw [← hx, ← hz] at this; exact this
         obtain ⟨⟨e, s3⟩, hes⟩ : ∃ r, r = climbS H k s2 kb x z := ⟨_, rfl⟩
         have cT2 : ∀ U, Below w.heap.size w U → ClimbAt U h g N (.slice a n c) (.slice a' n' c') (.slice b p f) (.int .i64 root) (.int .i64 gen) s2 → Calls Try.prog 20 #[.pointer (some ⟨h, 0, none⟩), .agg #[.int .i64 kb, .int .i64 (d + 1), .string x, .string z]] U fun e' V' => e' = .returned (.int .i64 e) ∧ ClimbAt V' h g N (.slice a n c) (.slice a' n' c') (.slice b p f) (.int .i64 root) (.int .i64 gen) s3 ∧ Turns (fun k => k = h ∨ k = g) U V' := fun U hU hD => by have := cT U s2 kb (d + 1) x z hU hD HS2.out.1 HE.out.2.2.2.1; rw [← hes] at this; exact this
         have hs3 : Room s3 := by have := room_climb H9.out k s2 kb x z HS2.out.1; rw [← hes] at this; exact this
         have hdrop : R = ((kidsT low high nk nc).drop (j + 1)).foldl (fun (r : Int × ClimbS) (x : Int × ByteArray × ByteArray) => if r.1 = 0 then climbS H k r.2 x.1 x.2.1 x.2.2 else r) (e, s3) := by
          have hk1 : (kidsT low high nk nc)[j]? = some (kb, x, z) := by rw [hx, hz]; exact kidsT_get hkb
          obtain ⟨hl, hv⟩ := List.getElem?_eq_some_iff.1 hk1
          rw [HS2.out.2, List.drop_eq_getElem_cons hl, hv, List.foldl_cons, if_pos rfl, ← hes]
         have HD2 : Hid (Room s3 ∧ R = ((kidsT low high nk nc).drop (j + 1)).foldl (fun (r : Int × ClimbS) (x : Int × ByteArray × ByteArray) => if r.1 = 0 then climbS H k r.2 x.1 x.2.1 x.2.2 else r) (e, s3)) := ⟨hs3, hdrop⟩
         clear hs3 hdrop hes hx hz hkb cT HS2 NL BP
         by_cases he : e = 0
         ·
          subst he
          go_wp2_with (first
           | (go_at_call 28; refine cD.mono ?_; rintro y t1 ⟨rfl, hb⟩; replace D := D.below hb; replace HB := Below.tr HB hb; replace T := T.tr hb; replace LO := LO.tr hb; clear n0 n1 n2 n3 p0 p1 p2 p3 hb)
           | (go_at_call 20; refine (cT2 _ HB D).mono ?_; rintro y t2 ⟨rfl, D3, T3⟩; replace HB := Below.turns HB T3 (fun i hi => (by rcases hi with e | e <;> omega)); replace D := D3; replace T := T.trans T3; replace LO := LO.trans T3; clear D3 T3))
          go_roundw
          case rel => exact ⟨j + 1, s3, by omega, by go_num, HD2.out, D, T, LO, HB⟩
          case measure => simp [intOf]; omega
         ·
          have he' : (e != 0) = true := by simpa using he
          have hRe : Hid (R = (e, s3)) := by
           show _ = _
           rw [HD2.out.2]
           exact fold_stays _ _ (fun y => if_neg he) _
          go_wp2_with (first
           | (go_at_call 28; refine cD.mono ?_; rintro y t1 ⟨rfl, hb⟩; replace D := D.below hb; replace HB := Below.tr HB hb; replace T := T.tr hb; replace LO := LO.tr hb; clear n0 n1 n2 n3 p0 p1 p2 p3 hb)
           | (go_at_call 20; refine (cT2 _ HB D).mono ?_; rintro y t2 ⟨rfl, D3, T3⟩; replace T := T.trans T3; clear T3))
          go_ret
          rw [hRe.out]
          exact ⟨rfl, D3, T⟩
        ·
         obtain rfl : k3 = j := by omega
         have hj3 : ¬ (k3 : Int) < k3 := by omega
         have hRe : Hid (R = (0, s2)) := by
          show _ = _
          rw [HS2.out.2, List.drop_eq_nil_of_le (by rw [kidsT_length]; have := HE.out; omega)]
          rfl
         go_wp2
         go_ret
         rw [hRe.out]
         exact ⟨rfl, D, T⟩
     ·
      have HF : Hid (R = (81, s)) := by show _ = _; rw [hR, if_neg (fun hh => hc hh.2)]
      rw [if_neg hc] at hAll
      clear hR hO hd HO stands HM HIH hw hc hd8 hd10 e1 H9
      go_wp2_with (first
       | (go_at_call 26; refine cI.mono ?_; rintro y t ⟨rfl, hb⟩; replace HB := Below.tr HB hb; replace D := D.below hb; replace T := T.tr hb; replace BP := BP.below hb; replace NL := NL.stay (Turns.of_below hb); clear n0 n1 n2 n3 p0 p1 p2 p3; obtain ⟨⟨n0, n1, n2, n3⟩, -⟩ := id NL.box; obtain ⟨⟨p0, p1, p2, p3⟩, -⟩ := id BP)
       | (go_at_call 16; refine (hAll _ hb D).mono ?_; rintro y t2 ⟨rfl, D2, T2⟩))
      go_ret
      rw [HF.out]
      exact ⟨rfl, D2, T.trans (T2.mono fun k hk => .inr hk)⟩
end Go.Proofs.Ytpepgpjiddophaa
namespace Go.Proofs.Ytpepgpjiddophaa
namespace Plain
def climbedS (ns : List Bool) (ps : List ByteArray) (root gen : Int) : Int × ClimbS :=
 if root = 0 then (0, ⟨freshL ns.length, 0, 0, 0⟩) else climbS (holdsS ns ps gen) 8 ⟨freshL ns.length, 0, 0, 0⟩ root ⟨#[]⟩ ⟨#[]⟩
theorem howN_fresh (n : Nat) (l : List Bool) : howN (freeB [] l) n ≤ n := howN_le _ _
end Plain
open Go.RowKit Plain
set_option linter.unusedVariables false
theorem climbs_any (w : World) (h g : Nat) (a a' b : Option Addr) (n c n' c' p f : Nat) (bs ns : List Bool) (ps : List ByteArray) (root gen : Int) (hn : n = bs.length) (hn' : n' = ns.length) (hp : p = ps.length) (hr : rightW bs ns ps root gen = true) (hwh : w.heap.size ≤ h) (hwg : w.heap.size ≤ g) (hB : IsB w a c bs) (hB' : IsB w a' c' ns) (hP : IsS w b f ps) (N : Nat) (hN : N ≤ 9223372036854775807) : ∀ (k : Nat), k ≤ 8 →
  ClimbsAt w h g N (.slice a n c) (.slice a' n' c') (.slice b p f) (.int .i64 root) (.int .i64 gen) (holdsS ns ps gen) k
 | 0, hk => climb_step w h g a a' b n c n' c' p f bs ns ps root gen hn hn' hp hr hwh hwg hB hB' hP N hN 0 hk (fun k' e => by cases e)
 | k + 1, hk => climb_step w h g a a' b n c n' c' p f bs ns ps root gen hn hn' hp hr hwh hwg hB hB' hP N hN (k + 1) hk (fun k' e => by cases e; exact climbs_any w h g a a' b n c n' c' p f bs ns ps root gen hn hn' hp hr hwh hwg hB hB' hP N hN k (by omega))
theorem climbAt_new (W : World) (n : Nat) {Z : Array Value} (hZ : Z = (List.replicate n (Value.bool false)).toArray) (hn : n ≤ maxLen) (v0 v1 v2 v3 v4 : Value) (t : TypeId) {g h : Nat} (hg : g = W.heap.size) (hh : h = W.heap.size + 1) : ClimbAt ((W.alloc (.cells Z 4)).alloc (.cells #[v0, v1, v2, v3, v4, .int .i64 0, .int .i64 0, .int .i64 0, .slice (some ⟨g, 0, none⟩) n n] t)) h g n v0 v1 v2 v3 v4 ⟨usedL n 0, 0, 0, 0⟩ := by
 have hr := (RowT.new W n hZ hg hn).below ((Below.refl _ _).alloc (Nat.le_refl _) (.cells #[v0, v1, v2, v3, v4, .int .i64 0, .int .i64 0, .int .i64 0, .slice (some ⟨g, 0, none⟩) n n] t))
 have hs : (W.alloc (.cells Z 4)).heap.size = h := by rw [hh]; simp
 have hne : h ≠ g := by omega
 generalize W.alloc (.cells Z 4) = U at *
 clear hh
 subst hs
 refine ⟨⟨World.cell?_alloc_at _ _ _ _ rfl, World.cell?_alloc_at _ _ _ _ rfl, World.cell?_alloc_at _ _ _ _ rfl, World.cell?_alloc_at _ _ _ _ rfl, World.cell?_alloc_at _ _ _ _ rfl⟩, World.cell?_alloc_at _ _ _ _ rfl, World.cell?_alloc_at _ _ _ _ rfl, World.cell?_alloc_at _ _ _ _ rfl, World.cell?_alloc_at _ _ _ _ rfl, ?_, ?_, ?_, by rw [usedL_zero]; exact hr, usedL_length _ _, hne⟩
 ·
  exact (World.frozen?_alloc_mark U _ _ _ _ 5).trans (by simp)
 ·
  exact (World.frozen?_alloc_mark U _ _ _ _ 6).trans (by simp)
 ·
  exact (World.frozen?_alloc_mark U _ _ _ _ 7).trans (by simp)
set_option maxRecDepth 20000 in
set_option maxHeartbeats 2000000 in
theorem climbed_no (a a' b : Option Addr) (n c n' c' p f : Nat) (bs ns : List Bool) (ps : List ByteArray) (root gen : Int) (w : World) (hn : n = bs.length) (hn' : n' = ns.length) (hp : p = ps.length) (hB : IsB w a c bs) (hB' : IsB w a' c' ns) (hP : IsS w b f ps) (hr : rightW bs ns ps root gen = false) :
  Calls Try.prog 13 #[.agg #[.slice a n c, .slice a' n' c', .slice b p f, .int .i64 root, .int .i64 gen]] w fun x w' => x = .returned (.tuple #[.pointer none, .int .i64 1]) ∧ Below w.heap.size w w' := by
 obtain ⟨W, hW⟩ : ∃ W, W = w.alloc (.cells #[.slice a n c, .slice a' n' c', .slice b p f, .int .i64 root, .int .i64 gen] 27) := ⟨_, rfl⟩
 have HB : Below w.heap.size w W := by rw [hW]; exact (Below.refl _ _).alloc (Nat.le_refl _) _
 have BW : WoodBox W w.heap.size (.slice a n c) (.slice a' n' c') (.slice b p f) (.int .i64 root) (.int .i64 gen) := by rw [hW]; exact woodBox_new _ _ _ _ _ _ _ rfl
 have cR := lookRight_any a a' b n c n' c' p f bs ns ps root gen W hn hn' hp (hB.below HB) (hB'.below HB) (hP.below HB)
 rw [hr] at cR
 obtain ⟨x0, x1, x2, x3, x4⟩ := id (hW ▸ BW)
 clear hn hn' hp hB hB' hP hr
 go_enter Try.func13, Try.ntmps13
 go_wp2_with (
  (go_at_call 19; rw [← hW]; refine cR.mono ?_; rintro y w1 ⟨rfl, hb⟩; replace HB := Below.tr HB hb; replace BW := BW.below hb; clear x0 x1 x2 x3 x4; obtain ⟨x0, x1, x2, x3, x4⟩ := id BW; clear hb))
 refine bodyPost_ret (v := .tuple #[.pointer none, .int .i64 1]) (by simp [results, Try.results13, go_sem]) rfl ?_
 exact ⟨rfl, HB⟩
set_option maxRecDepth 20000 in
set_option maxHeartbeats 4000000 in
theorem climbed_yes (a a' b : Option Addr) (n c n' c' p f : Nat) (bs ns : List Bool) (ps : List ByteArray) (root gen : Int) (w : World) (hn : n = bs.length) (hn' : n' = ns.length) (hp : p = ps.length) (hB : IsB w a c bs) (hB' : IsB w a' c' ns) (hP : IsS w b f ps) (hr : rightW bs ns ps root gen = true) :
  Calls Try.prog 13 #[.agg #[.slice a n c, .slice a' n' c', .slice b p f, .int .i64 root, .int .i64 gen]] w fun x w' => ∃ h g, x = .returned (.tuple #[.pointer (some ⟨h, 0, none⟩), .int .i64 (climbedS ns ps root gen).1]) ∧ ClimbAt w' h g n' (.slice a n c) (.slice a' n' c') (.slice b p f) (.int .i64 root) (.int .i64 gen) (climbedS ns ps root gen).2 ∧ w.heap.size ≤ h ∧ w.heap.size ≤ g ∧ Below w.heap.size w w' := by
 obtain ⟨W, hW⟩ : ∃ W, W = w.alloc (.cells #[.slice a n c, .slice a' n' c', .slice b p f, .int .i64 root, .int .i64 gen] 27) := ⟨_, rfl⟩
 have HB : Below w.heap.size w W := by rw [hW]; exact (Below.refl _ _).alloc (Nat.le_refl _) _
 have BW : WoodBox W w.heap.size (.slice a n c) (.slice a' n' c') (.slice b p f) (.int .i64 root) (.int .i64 gen) := by rw [hW]; exact woodBox_new _ _ _ _ _ _ _ rfl
 have cR := lookRight_any a a' b n c n' c' p f bs ns ps root gen W hn hn' hp (hB.below HB) (hB'.below HB) (hP.below HB)
 rw [hr] at cR
 have hA : rightA bs ns = true := by unfold rightW at hr; simp only [Bool.and_eq_true] at hr; exact hr.1.1.1.1.1
 obtain ⟨-, h24, h2048, -⟩ := (rightA_iff bs ns).1 hA
 have mn : n' ≤ 2048 := by omega
 have mn24 : 24 ≤ n' := by omega
 have cT : ∀ h g, w.heap.size ≤ h → w.heap.size ≤ g → ClimbsAt w h g n' (.slice a n c) (.slice a' n' c') (.slice b p f) (.int .i64 root) (.int .i64 gen) (holdsS ns ps gen) 8 := fun h g h1 h2 => climbs_any w h g a a' b n c n' c' p f bs ns ps root gen hn hn' hp hr h1 h2 hB hB' hP n' (by omega) 8 (Nat.le_refl _)
 obtain ⟨R, hR⟩ : ∃ R, R = climbedS ns ps root gen := ⟨_, rfl⟩
 rw [← hR]
 unfold climbedS at hR
 rw [← hn'] at hR
 obtain ⟨H, hH⟩ : ∃ H, H = holdsS ns ps gen := ⟨_, rfl⟩
 rw [← hH] at hR cT
 have HR : Hid (R = if root = 0 then (0, ⟨freshL n', 0, 0, 0⟩) else climbS H 8 ⟨freshL n', 0, 0, 0⟩ root ⟨#[]⟩ ⟨#[]⟩) := hR
 obtain ⟨x0, x1, x2, x3, x4⟩ := id (hW ▸ BW)
 obtain ⟨Z, hmk, hZ⟩ : ∃ Z : Array Value, (∀ W : World, (Instr.makeSlice 22 (.int .i64 n') (.int .i64 n')).run Try.prog W = .ok (.slice (some ⟨W.heap.size, 0, none⟩) n' n') (W.alloc (.cells Z 4))) ∧ Hid (Z = (List.replicate n' (Value.bool false)).toArray) :=
  ⟨madeCells #[.bool false] n', fun W => run_make_row' (P := Try.prog) 22 4 (.bool false) 1 Try.underlying22 Try.info4 rfl .i64 .i64 n' (by omega) (by omega) W, made_one _ n'⟩
 clear hn hn' hp hB hB' hP hr hA h24 h2048 hR hH
 go_enter Try.func13, Try.ntmps13
 go_wp2_with (
  (go_at_call 19; rw [← hW]; refine cR.mono ?_; rintro y w1 ⟨rfl, hb⟩; replace HB := Below.tr HB hb; replace BW := BW.below hb; clear x0 x1 x2 x3 x4; obtain ⟨x0, x1, x2, x3, x4⟩ := id BW; clear hb))
 have y0 := cell_alloc x0 (.cells Z 4)
 have y1 := cell_alloc x1 (.cells Z 4)
 have y2 := cell_alloc x2 (.cells Z 4)
 have y3 := cell_alloc x3 (.cells Z 4)
 have y4 := cell_alloc x4 (.cells Z 4)
 go_region
 clear y0 y1 y2 y3 y4
 have hw1 := HB.size
 have D := climbAt_new w1 n' hZ.out (by unfold maxLen; omega) (.slice a n c) (.slice a' n' c') (.slice b p f) (.int .i64 root) (.int .i64 gen) 46 (g := w1.heap.size) (h := w1.heap.size + 1) rfl rfl
 replace D := D.below (Below.refl _ _).drew
 have HU : Below w1.heap.size w1 ((w1.alloc (.cells Z 4)).alloc (.cells #[.slice a n c, .slice a' n' c', .slice b p f, .int .i64 root, .int .i64 gen, .int .i64 0, .int .i64 0, .int .i64 0, .slice (some ⟨w1.heap.size, 0, none⟩) n' n'] 46)).drew := (((Below.refl _ _).alloc (Nat.le_refl _) _).alloc (by simp only [World.size_alloc]; omega) _).drew
 generalize ((w1.alloc (.cells Z 4)).alloc (.cells #[.slice a n c, .slice a' n' c', .slice b p f, .int .i64 root, .int .i64 gen, .int .i64 0, .int .i64 0, .int .i64 0, .slice (some ⟨w1.heap.size, 0, none⟩) n' n'] 46)).drew = U at D HU ⊢
 replace HB := Below.tr HB HU
 have hh : w.heap.size ≤ w1.heap.size + 1 := by omega
 generalize hgh : w1.heap.size + 1 = h at *
 generalize w1.heap.size = g at *
 clear hgh HU x0 x1 x2 x3 x4 BW hmk hZ
 go_wp2
 go_loopw [17] (fun v wr => ∃ j : Nat, j ≤ 10 ∧ v = .int .i64 j ∧ ClimbAt wr h g n' (.slice a n c) (.slice a' n' c') (.slice b p f) (.int .i64 root) (.int .i64 gen) ⟨usedL n' j, 0, 0, 0⟩ ∧ Below w.heap.size w wr) (fun v _ => 10 - (intOf v).toNat)
 case atStart => exact ⟨0, by omega, rfl, D, HB⟩
 case round =>
  clear D HB
  obtain ⟨j, hj, rfl, D, HB⟩ := hrel
  have x8 := D.c8
  by_cases hlt : j < 10
  ·
   have hlt' : (j : Int) < 10 := by omega
   have hjn : (j : Int) < n' := by omega
   obtain ⟨hcy, hfy⟩ := D.row.cell (usedL_get j (show j < n' by omega))
   have D2 := D.hold j true
   have D3 : ClimbAt (wr.setCell ⟨g, j, none⟩ (.bool true)) h g n' (.slice a n c) (.slice a' n' c') (.slice b p f) (.int .i64 root) (.int .i64 gen) ⟨usedL n' (j + 1), 0, 0, 0⟩ := by rw [← usedL_set (show j < n' by omega)]; exact D2
   clear D2
   go_wp2
   go_roundw
   case rel => exact ⟨j + 1, by omega, by go_num, D3, HB.setCell (p := ⟨g, j, none⟩) hw1 _⟩
   case measure => simp [intOf]; omega
  ·
   obtain rfl : j = 10 := by omega
   have D' : ClimbAt wr h g n' (.slice a n c) (.slice a' n' c') (.slice b p f) (.int .i64 root) (.int .i64 gen) ⟨freshL n', 0, 0, 0⟩ := D
   have x3 := D'.wb.2.2.2.1
   clear D x8
   by_cases hroot : root = 0
   ·
    have hroot' : (root == 0) = true := by simpa using hroot
    have HF : Hid (R = (0, ⟨freshL n', 0, 0, 0⟩)) := HR.out.trans (if_pos hroot)
    clear hroot
    go_wp2
    refine bodyPost_ret (v := .tuple #[.pointer (some ⟨h, 0, none⟩), .int .i64 0]) (by simp [results, Try.results13, go_sem]) rfl ?_
    rw [HF.out]
    exact ⟨h, g, rfl, D', hh, hw1, HB⟩
   ·
    have hroot' : (root == 0) = false := by simpa using hroot
    have HF : Hid (R = climbS H 8 ⟨freshL n', 0, 0, 0⟩ root ⟨#[]⟩ ⟨#[]⟩) := HR.out.trans (if_neg hroot)
    have cC := cT h g hh hw1 wr ⟨freshL n', 0, 0, 0⟩ root 1 ⟨#[]⟩ ⟨#[]⟩ HB D' ⟨by refine Nat.le_trans (Nat.add_le_add_left (howN_fresh _ _) _) ?_; show 0 + (freshL n').length ≤ 10000; rw [freshL_length]; omega, Nat.zero_le _⟩ (by decide)
    rw [← HF.out] at cC
    clear hroot HF HR
    go_wp2_with (go_at_call 20; refine cC.mono ?_; rintro y w2 ⟨rfl, D2, T2⟩)
    refine bodyPost_ret (v := .tuple #[.pointer (some ⟨h, 0, none⟩), .int .i64 R.1]) (by simp [results, Try.results13, go_sem]) rfl ?_
    exact ⟨h, g, rfl, D2, hh, hw1, Below.turns HB T2 (fun i hi => by rcases hi with e | e <;> omega)⟩
theorem drewM_below (w : World) (n : Nat) {k : Nat} : Below k w (w.drewN n) := by
 induction n generalizing w with
 | zero => exact Below.refl _ _
 | succ n ih => exact (ih w).drew
set_option maxRecDepth 20000 in
set_option maxHeartbeats 2000000 in
theorem equalB_any (a a' : Option Addr) (c c' n n' : Nat) (xs ys : List Bool) (w : World) (hn : n = xs.length) (hn' : n' = ys.length) (h : IsB w a c xs) (h' : IsB w a' c' ys) :
  Calls Try.prog 17 #[.slice a n c, .slice a' n' c'] w fun e w' => e = .returned (.bool (decide (xs = ys))) ∧ Below w.heap.size w w' := by
 have mn : n ≤ 9223372036854775807 := by rw [hn]; exact Nat.le_trans h.1 h.2.1
 have mn' : n' ≤ 9223372036854775807 := by rw [hn']; exact Nat.le_trans h'.1 h'.2.1
 have HB : Below w.heap.size w w := Below.refl _ _
 obtain ⟨r, hr⟩ : ∃ r, r = decide (xs = ys) := ⟨_, rfl⟩
 rw [← hr]
 have HR : Hid (r = decide (xs = ys)) := hr
 have E : Hid (n = xs.length ∧ n' = ys.length) := ⟨hn, hn'⟩
 have I : Hid (IsB w a c xs ∧ IsB w a' c' ys) := ⟨h, h'⟩
 clear hr hn hn' h h'
 by_cases h1 : n = n'
 ·
  have h1' : ((n : Int) != n') = false := by simp [h1]
  have E1 : Hid (n = n') := h1
  clear h1
  go_enter Try.func17, Try.ntmps17
  go_wp2
  go_loopw [13] (fun v wr => ∃ j : Nat, j ≤ n ∧ v = .int .i64 j ∧ (∀ i, i < j → xs[i]? = ys[i]?) ∧ Below w.heap.size w wr) (fun v _ => n - (intOf v).toNat)
  case atStart => exact ⟨0, by omega, rfl, fun i hi => by omega, HB⟩
  case round =>
   clear HB
   obtain ⟨j, hj, rfl, hA, HB⟩ := hrel
   have HA : Hid (∀ i, i < j → xs[i]? = ys[i]?) := hA
   clear hA
   by_cases hlt : j < n
   ·
    have hlt' : (j : Int) < n := by omega
    have hlt2 : (j : Int) < n' := by have := E1.out; omega
    obtain ⟨x, hx⟩ : ∃ x, Hid (xs[j]? = some x) := get_some (by have := E.out; omega)
    obtain ⟨y, hy⟩ : ∃ x, Hid (ys[j]? = some x) := get_some (by have := E.out; have := E1.out; omega)
    obtain ⟨b1, o1, rfl, -, hc1⟩ := I.out.1.2.2 j x hx.out
    obtain ⟨b2, o2, rfl, -, hc2⟩ := I.out.2.2.2 j y hy.out
    have z1 := cell_below HB hc1
    have z2 := cell_below HB hc2
    clear hc1 hc2
    by_cases he : x = y
    ·
     have he' : (x == y) = true := by simpa using he
     have HN : Hid (∀ i, i < j + 1 → xs[i]? = ys[i]?) := fun i hi => by
      by_cases e : i = j
      ·
       rw [e, hx.out, hy.out, he]
      ·
       exact HA.out i (by omega)
     clear he
     go_wp2
     go_quiet (fail)
     have HBq : Below wr.heap.size wr (wr.drewN nq) := drewM_below wr nq
     generalize wr.drewN nq = w2 at HBq ⊢
     go_wp2
     go_roundw
     case rel => exact ⟨j + 1, by omega, by go_num, HN.out, Below.tr HB HBq⟩
     case measure => simp [intOf]; omega
    ·
     have he' : (x == y) = false := by simpa using he
     have hf : r = false := by rw [HR.out]; refine decide_eq_false fun e => he ?_; have := hx.out; rw [e, hy.out] at this; cases this; rfl
     subst hf
     clear he
     go_wp2
     go_quiet (fail)
     have HBq : Below wr.heap.size wr (wr.drewN nq) := drewM_below wr nq
     generalize wr.drewN nq = w2 at HBq ⊢
     go_wp2
     go_ret
     exact ⟨rfl, Below.tr HB HBq⟩
   ·
    obtain rfl : n = j := by omega
    have hj0 : ¬ (n : Int) < n := by omega
    have hf : r = true := by
     rw [HR.out]
     refine decide_eq_true (List.ext_getElem? fun i => ?_)
     by_cases hi : i < n
     ·
      exact HA.out i hi
     ·
      rw [List.getElem?_eq_none (by have := E.out; omega), List.getElem?_eq_none (by have := E.out; have := E1.out; omega)]
    subst hf
    go_wp2
    go_ret
    exact ⟨rfl, HB⟩
 ·
  have h1' : ((n : Int) != n') = true := by simp; omega
  have hf : r = false := by rw [HR.out]; exact decide_eq_false (fun e => h1 (by rw [E.out.1, E.out.2, e]))
  subst hf
  clear h1
  go_enter Try.func17, Try.ntmps17
  go_wp2
  go_ret
  exact ⟨rfl, HB⟩
end Go.Proofs.Ytpepgpjiddophaa
namespace Go.Proofs.Ytpepgpjiddophaa
open Go.RowKit Plain
set_option linter.unusedVariables false
theorem climb_ing {ns : List Bool} {ps : List ByteArray} {gen : Int} : Holding (holdsS ns ps gen) := by
 intro b r nd h
 obtain ⟨l, ks, vs, cs⟩ := nd
 have hs : standsN l ks vs cs = true := (rightN_iff.1 (holds_right h)).1
 obtain ⟨_, hk, hr, _, _, _⟩ := standsN_iff.1 hs
 obtain ⟨_, _, h3, h4⟩ := holds_len b r (l, ks, vs, cs) h
 exact ⟨hr, hk, h3, h4⟩
theorem climb_keyed {ns : List Bool} {ps : List ByteArray} {gen : Int} : Keyed (holdsS ns ps gen) := by
 intro b r nd h hl e
 obtain ⟨l, ks, vs, cs⟩ := nd
 have hs : standsN l ks vs cs = true := (rightN_iff.1 (holds_right h)).1
 obtain ⟨_, _, _, _, _, hsh⟩ := standsN_iff.1 hs
 have e' : ks = [] := e
 have hl' : l = false := hl
 subst hl' e'
 have := (shape_inner.1 hsh).2.1
 simp at this
theorem holds_in {ns : List Bool} {ps : List ByteArray} {gen : Int} : ∀ b r (nd : NodeS), holdsS ns ps gen b r = some nd → 10 ≤ b ∧ b < ns.length := by
 intro b r nd h
 unfold holdsS at h
 split at h
 ·
  rename_i hh
  exact ⟨hh.1, hh.2.1⟩
 ·
  cases h
theorem fresh_held (n : Nat) : HeldBy n (freshL n) [] := ⟨freshL_length n, fun i hi => by rw [freshL_at hi]; simp⟩
theorem climbed_tree (ns : List Bool) (ps : List ByteArray) (root gen : Int) :
  ((treeS ns ps root gen).bad = false → (climbedS ns ps root gen).1 = 0 ∧ Agree ns.length (climbedS ns ps root gen).2 (treeS ns ps root gen)) ∧ ((treeS ns ps root gen).bad = true → (climbedS ns ps root gen).1 = 81) := by
 have h0 : Agree ns.length ⟨freshL ns.length, 0, 0, 0⟩ TreeS.none := ⟨fresh_held _, rfl, rfl, rfl⟩
 unfold treeS climbedS
 by_cases hr : root = 0
 ·
  rw [if_pos hr, if_pos hr]
  exact ⟨fun _ => ⟨rfl, h0⟩, fun h => by cases h⟩
 ·
  rw [if_neg hr, if_neg hr]
  exact climb_below climb_ing climb_keyed holds_in 8 _ _ _ _ _ h0 rfl
theorem tree_high {ns : List Bool} {ps : List ByteArray} {root gen : Int} : ∀ b ∈ (treeS ns ps root gen).blocks, 10 ≤ b := by
 unfold treeS
 split
 ·
  exact fun b hb => by simp [TreeS.none] at hb
 ·
  exact below_blocks (fun b r nd h => (holds_in b r nd h).1) 8 _ _ _ _ (fun b hb => by simp [TreeS.none] at hb)
theorem rightW_now {bs ns : List Bool} {ps : List ByteArray} {root gen : Int} (h : rightW bs ns ps root gen = true) : rightA bs ns = true := by
 unfold rightW at h
 simp only [Bool.and_eq_true] at h
 exact h.1.1.1.1.1
end Go.Proofs.Ytpepgpjiddophaa

/-
  Texts laid together: RunRefTold TaskOpen RunOpen DagFew RunFew RunStored RunAlive RunRefFits TaskRefRight DagRefShape DagRefRight.
-/
import Derived.Test.YtdpljpjbomhccaaRtC
import Derived.Test.YtdpljpjbomhccaaRtD
import Derived.Test.YtdpljpjbomhccaaRtB
import Derived.Lib.SmallJoins
import Derived.Test.YtdpljpjbomhccaaRtA
import Derived.Maps.RangeWalk
namespace Go.Proofs.Ytdpljpjbomhccaa
open Go.RowKit Plain
set_option linter.unusedVariables false
set_option maxRecDepth 20000 in
set_option maxHeartbeats 1000000 in
theorem refToldNo_any (wh : Int) (x : ByteArray) (ky nm : ByteArray) (ta : Option Addr) (tn tc : Nat) (is : Int) (sa : Option Addr) (n sc : Nat) (tv : List TaskV) (ss : List StP) (now k : Int) (w : World) (hnow : now ≤ 9223372036854775807) (hT : IsT w ta tc tv) (htn : tn = tv.length) (hZ : IsZ w sa sc ss) (hn : n = ss.length) (hOk : RunOk ky nm (plainT tv) ss is) (hE : heldAt (settleS (plainT tv) (untF now []) (ss, is)).1 k = none) (js : Int) (ys : List StP) :
  Calls Try.prog 26 #[.agg #[.string ky, .string nm, .slice ta tn tc, .int .i64 is, .slice sa n sc], .int .i64 wh, .int .i64 now, .int .i64 k, .string x] w fun e w' => ToldU w 191 ky nm js (plainT tv) ys e w' := by
 obtain ⟨W0, hW0⟩ : ∃ W0, W0 = (w.alloc (.cells #[.string ky, .string nm, .slice ta tn tc, .int .i64 is, .slice sa n sc] 27)).alloc (.cells #[.string ⟨#[]⟩, .string ⟨#[]⟩, .slice none 0 0, .int .i64 0, .slice none 0 0] 27) := ⟨_, rfl⟩
 have hB0 : Below w.heap.size w W0 := by rw [hW0]; exact bel2 w _ _
 have BX : BoxL W0 w.heap.size [.string ky, .string nm, .slice ta tn tc, .int .i64 is, .slice sa n sc] := by rw [hW0]; exact (boxL_new w [.string ky, .string nm, .slice ta tn tc, .int .i64 is, .slice sa n sc] _ rfl).alloc _
 have BY : BoxL W0 (w.heap.size + 1) [.string ⟨#[]⟩, .string ⟨#[]⟩, .slice none 0 0, .int .i64 0, .slice none 0 0] := by rw [hW0]; exact boxL_new _ [.string ⟨#[]⟩, .string ⟨#[]⟩, .slice none 0 0, .int .i64 0, .slice none 0 0] _ (by simp)
 have hs0 : W0.heap.size = w.heap.size + 2 := by rw [hW0]; simp
 have hnt : n = tn := by rw [hn, hOk.st.len, plainT_length, htn]
 obtain ⟨h10, h0, hin⟩ := inside_of htn hOk.dag
 have hSA : ∀ y, sa = some y → y.block < w.heap.size := fun y hy => hZ.lies (by omega) y hy
 have cS := refSettleF_any ky nm ta tn tc is sa n sc tv ss now W0 (hT.below hB0) htn (hZ.below hB0) hn hnow hOk
 have hR9 := settle_right (tries_one hOk.dag) (u := untF now []) (x := (ss, is)) hOk.st
 generalize settleS (plainT tv) (untF now []) (ss, is) = SS at *
 obtain ⟨zs, zi⟩ := SS
 dsimp only at cS hR9 hE ⊢
 have HR : Hid (RightS (plainT tv) zs zi) := hR9
 have HE : Hid _ := hE
 have HIN : Hid (∀ (i : Nat) t, tv[i]? = some t → ∀ x ∈ t.ns, 0 ≤ x ∧ x < tn) := hin
 have HTN : Hid (tn = tv.length ∧ n = tn ∧ tn ≤ 10 ∧ 0 < tn) := ⟨htn, hnt, h10, h0⟩
 have HT : Hid (IsT w ta tc tv) := hT
 have HSA : Hid (∀ y, sa = some y → y.block < w.heap.size) := hSA
 clear hT htn hZ hn hOk hR9 hE hnt h10 h0 hin hSA
 have f0 := BX.1 0 _ rfl; have f1 := BX.1 1 _ rfl; have f2 := BX.1 2 _ rfl; have f3 := BX.1 3 _ rfl; have f4 := BX.1 4 _ rfl
 go_enter Try.func26, Try.ntmps26
 refine wp_seq_k (fun K hK => ?_); have HK : Shut _ := hK; clear hK
 go_wp2
 refine HK.out _ _ ?_; clear HK K
 rw [← hW0]
 clear hW0
 obtain ⟨z0, hz0⟩ : ∃ z, z = w.heap.size := ⟨_, rfl⟩
 obtain ⟨z1, hz1⟩ : ∃ z, z = z0 + 1 := ⟨_, rfl⟩
 rw [← hz0] at BX BY
 rw [← hz0, ← hz1]
 rw [← hz1] at BY
 rw [← hz0] at f0 f1 f2 f3 f4
 have HZZ : Hid (z0 = w.heap.size ∧ z1 = z0 + 1 ∧ W0.heap.size = w.heap.size + 2) := ⟨hz0, hz1, hs0⟩
 clear hz0 hz1 hs0
 refine wp_seq_k (fun K hK => ?_); have HK : Shut _ := hK; clear hK
 go_wp2_with (go_at_call 18; refine cS.mono ?_; rintro e w1 ⟨a, c, rfl, hIZ, hnz, hfa, hb⟩; have BX1 := BX.below hb; have BY1 := BY.below hb; have hB1 := Below.tr hB0 hb; have HNZ : Hid (n = zs.length ∧ ∀ y, a = some y → y.block ≠ z0 ∧ y.block ≠ z1) := ⟨hnz, fun y hy => by have := HZZ.out; rcases hfa with e | e; (have := HSA.out y (by rw [← e]; exact hy); omega); (have := e y hy; omega)⟩; clear hnz hfa; have v0 := BX1.1 0 _ rfl; have v1 := BX1.1 1 _ rfl; have v2 := BX1.1 2 _ rfl; have v3 := BX1.1 3 _ rfl; have v4 := BX1.1 4 _ rfl; have d0 := BX1.2 0 (by simp); have d1 := BX1.2 1 (by simp); have d2 := BX1.2 2 (by simp); have d3 := BX1.2 3 (by simp); have d4 := BX1.2 4 (by simp))
 refine HK.out _ _ ?_; clear HK K
 obtain ⟨Z, hZ9⟩ : ∃ Z, Z = (((((w1.setCell ⟨z0, 0, none⟩ (.string ky)).setCell ⟨z0, 1, none⟩ (.string nm)).setCell ⟨z0, 2, none⟩ (.slice ta tn tc)).setCell ⟨z0, 3, none⟩ (.int .i64 zi)).setCell ⟨z0, 4, none⟩ (.slice a n c)) := ⟨_, rfl⟩
 have TZ : Turns (fun k => k = z0) w1 Z := by rw [hZ9]; exact turns_set5 _ _ _ _ _ _ _
 have BZ : BoxL Z z0 [.string ky, .string nm, .slice ta tn tc, .int .i64 zi, .slice a n c] := by rw [hZ9]; exact boxL_set5 BX1 _ _ _ _ _
 have BYZ := boxL_turns BY1 TZ (by have := HZZ.out; omega)
 have hBZ := Below.turns hB1 TZ (fun k hk => by have := HZZ.out; omega)
 have IZ := hIZ.turns TZ (fun y hy hk => (HNZ.out.2 y hy).1 hk)
 rw [← hZ9]
 clear f0 f1 f2 f3 f4 v0 v1 v2 v3 v4 d0 d1 d2 d3 d4 hZ9 hIZ
 have cH := refHeld_any ky nm ta tn tc zi a n c zs k Z IZ HNZ.out.1
 rw [HE.out] at cH
 have p0 := BZ.1 0 _ rfl; have p1 := BZ.1 1 _ rfl; have p2 := BZ.1 2 _ rfl; have p3 := BZ.1 3 _ rfl; have p4 := BZ.1 4 _ rfl
 refine wp_seq_k (fun K hK => ?_); have HK : Shut _ := hK; clear hK
 go_wp2_with (go_at_call 63; refine cH.mono ?_; rintro e w2 ⟨rfl, hbT⟩)
 refine HK.out _ _ ?_; clear HK K
 clear p0 p1 p2 p3 p4 cH cS
 replace BZ := BZ.below hbT
 replace BYZ := BYZ.below hbT
 replace IZ := IZ.below hbT
 replace hBZ := Below.tr hBZ hbT
 clear hbT
 have y0 := BYZ.1 0 _ rfl; have y1 := BYZ.1 1 _ rfl; have y2 := BYZ.1 2 _ rfl; have y3 := BYZ.1 3 _ rfl; have y4 := BYZ.1 4 _ rfl
 have s0 := BYZ.2 0 (by simp); have s1 := BYZ.2 1 (by simp); have s2 := BYZ.2 2 (by simp); have s3 := BYZ.2 3 (by simp); have s4 := BYZ.2 4 (by simp)
 unfold placeI
 dsimp only
 go_wp2
 obtain ⟨Z2, hZ2⟩ : ∃ Z2, Z2 = (((((w2.setCell ⟨z1, 0, none⟩ (.string ⟨#[]⟩)).setCell ⟨z1, 1, none⟩ (.string ⟨#[]⟩)).setCell ⟨z1, 2, none⟩ (.slice none 0 0)).setCell ⟨z1, 3, none⟩ (.int .i64 0)).setCell ⟨z1, 4, none⟩ (.slice none 0 0)) := ⟨_, rfl⟩
 have BZ2 : BoxL Z2 z1 [.string ⟨#[]⟩, .string ⟨#[]⟩, .slice none 0 0, .int .i64 0, .slice none 0 0] := by rw [hZ2]; exact boxL_set5 BYZ _ _ _ _ _
 have hBZ2 : Below w.heap.size w Z2 := by rw [hZ2]; exact below_setT hBZ (by have := HZZ.out; omega) _ _ _ _ _
 rw [← hZ2]
 clear hZ2
 have r0 := BZ2.1 0 _ rfl; have r1 := BZ2.1 1 _ rfl; have r2 := BZ2.1 2 _ rfl; have r3 := BZ2.1 3 _ rfl; have r4 := BZ2.1 4 _ rfl
 skip
 exact bodyPost_ret (v := .tuple #[.agg #[.string ⟨#[]⟩, .string ⟨#[]⟩, .slice none 0 0, .int .i64 0, .slice none 0 0], .int .i64 191]) (by simp [results, Try.results26, go_sem, r0, r1, r2, r3, r4]) rfl (toldU_zero (by decide) ⟨rfl, hBZ2⟩)
set_option maxRecDepth 20000 in
set_option maxHeartbeats 2000000 in
theorem refToldBeat_any (x : ByteArray) (ky nm : ByteArray) (ta : Option Addr) (tn tc : Nat) (is : Int) (sa : Option Addr) (n sc : Nat) (tv : List TaskV) (ss : List StP) (now k : Int) (w : World) (hnow : now ≤ 9223372036854775807) (hT : IsT w ta tc tv) (htn : tn = tv.length) (hZ : IsZ w sa sc ss) (hn : n = ss.length) (hOk : RunOk ky nm (plainT tv) ss is) (ix : Nat) (hE : heldAt (settleS (plainT tv) (untF now []) (ss, is)).1 k = some ix) :
  Calls Try.prog 26 #[.agg #[.string ky, .string nm, .slice ta tn tc, .int .i64 is, .slice sa n sc], .int .i64 0, .int .i64 now, .int .i64 k, .string x] w fun e w' => ToldU w (ansE (plainT tv) (fun _ s => heldE s) (settleS (plainT tv) (untF now []) (ss, is)).1 k) ky nm (ansZ (plainT tv) (fun t s => beatT t.lease s now) (settleS (plainT tv) (untF now []) (ss, is)).1 (settleS (plainT tv) (untF now []) (ss, is)).2 k).2 (plainT tv) (ansZ (plainT tv) (fun t s => beatT t.lease s now) (settleS (plainT tv) (untF now []) (ss, is)).1 (settleS (plainT tv) (untF now []) (ss, is)).2 k).1 e w' := by
 obtain ⟨W0, hW0⟩ : ∃ W0, W0 = (w.alloc (.cells #[.string ky, .string nm, .slice ta tn tc, .int .i64 is, .slice sa n sc] 27)).alloc (.cells #[.string ⟨#[]⟩, .string ⟨#[]⟩, .slice none 0 0, .int .i64 0, .slice none 0 0] 27) := ⟨_, rfl⟩
 have hB0 : Below w.heap.size w W0 := by rw [hW0]; exact bel2 w _ _
 have BX : BoxL W0 w.heap.size [.string ky, .string nm, .slice ta tn tc, .int .i64 is, .slice sa n sc] := by rw [hW0]; exact (boxL_new w [.string ky, .string nm, .slice ta tn tc, .int .i64 is, .slice sa n sc] _ rfl).alloc _
 have BY : BoxL W0 (w.heap.size + 1) [.string ⟨#[]⟩, .string ⟨#[]⟩, .slice none 0 0, .int .i64 0, .slice none 0 0] := by rw [hW0]; exact boxL_new _ [.string ⟨#[]⟩, .string ⟨#[]⟩, .slice none 0 0, .int .i64 0, .slice none 0 0] _ (by simp)
 have hs0 : W0.heap.size = w.heap.size + 2 := by rw [hW0]; simp
 have hnt : n = tn := by rw [hn, hOk.st.len, plainT_length, htn]
 obtain ⟨h10, h0, hin⟩ := inside_of htn hOk.dag
 have hSA : ∀ y, sa = some y → y.block < w.heap.size := fun y hy => hZ.lies (by omega) y hy
 have cS := refSettleF_any ky nm ta tn tc is sa n sc tv ss now W0 (hT.below hB0) htn (hZ.below hB0) hn hnow hOk
 have hR9 := settle_right (tries_one hOk.dag) (u := untF now []) (x := (ss, is)) hOk.st
 generalize settleS (plainT tv) (untF now []) (ss, is) = SS at *
 obtain ⟨zs, zi⟩ := SS
 dsimp only at cS hR9 hE ⊢
 have HR : Hid (RightS (plainT tv) zs zi) := hR9
 have HE : Hid _ := hE
 have HIN : Hid (∀ (i : Nat) t, tv[i]? = some t → ∀ x ∈ t.ns, 0 ≤ x ∧ x < tn) := hin
 have HTN : Hid (tn = tv.length ∧ n = tn ∧ tn ≤ 10 ∧ 0 < tn) := ⟨htn, hnt, h10, h0⟩
 have HT : Hid (IsT w ta tc tv) := hT
 have HSA : Hid (∀ y, sa = some y → y.block < w.heap.size) := hSA
 clear hT htn hZ hn hOk hR9 hE hnt h10 h0 hin hSA
 have f0 := BX.1 0 _ rfl; have f1 := BX.1 1 _ rfl; have f2 := BX.1 2 _ rfl; have f3 := BX.1 3 _ rfl; have f4 := BX.1 4 _ rfl
 go_enter Try.func26, Try.ntmps26
 refine wp_seq_k (fun K hK => ?_); have HK : Shut _ := hK; clear hK
 go_wp2
 refine HK.out _ _ ?_; clear HK K
 rw [← hW0]
 clear hW0
 obtain ⟨z0, hz0⟩ : ∃ z, z = w.heap.size := ⟨_, rfl⟩
 obtain ⟨z1, hz1⟩ : ∃ z, z = z0 + 1 := ⟨_, rfl⟩
 rw [← hz0] at BX BY
 rw [← hz0, ← hz1]
 rw [← hz1] at BY
 rw [← hz0] at f0 f1 f2 f3 f4
 have HZZ : Hid (z0 = w.heap.size ∧ z1 = z0 + 1 ∧ W0.heap.size = w.heap.size + 2) := ⟨hz0, hz1, hs0⟩
 clear hz0 hz1 hs0
 refine wp_seq_k (fun K hK => ?_); have HK : Shut _ := hK; clear hK
 go_wp2_with (go_at_call 18; refine cS.mono ?_; rintro e w1 ⟨a, c, rfl, hIZ, hnz, hfa, hb⟩; have BX1 := BX.below hb; have BY1 := BY.below hb; have hB1 := Below.tr hB0 hb; have HNZ : Hid (n = zs.length ∧ ∀ y, a = some y → y.block ≠ z0 ∧ y.block ≠ z1) := ⟨hnz, fun y hy => by have := HZZ.out; rcases hfa with e | e; (have := HSA.out y (by rw [← e]; exact hy); omega); (have := e y hy; omega)⟩; clear hnz hfa; have v0 := BX1.1 0 _ rfl; have v1 := BX1.1 1 _ rfl; have v2 := BX1.1 2 _ rfl; have v3 := BX1.1 3 _ rfl; have v4 := BX1.1 4 _ rfl; have d0 := BX1.2 0 (by simp); have d1 := BX1.2 1 (by simp); have d2 := BX1.2 2 (by simp); have d3 := BX1.2 3 (by simp); have d4 := BX1.2 4 (by simp))
 refine HK.out _ _ ?_; clear HK K
 obtain ⟨Z, hZ9⟩ : ∃ Z, Z = (((((w1.setCell ⟨z0, 0, none⟩ (.string ky)).setCell ⟨z0, 1, none⟩ (.string nm)).setCell ⟨z0, 2, none⟩ (.slice ta tn tc)).setCell ⟨z0, 3, none⟩ (.int .i64 zi)).setCell ⟨z0, 4, none⟩ (.slice a n c)) := ⟨_, rfl⟩
 have TZ : Turns (fun k => k = z0) w1 Z := by rw [hZ9]; exact turns_set5 _ _ _ _ _ _ _
 have BZ : BoxL Z z0 [.string ky, .string nm, .slice ta tn tc, .int .i64 zi, .slice a n c] := by rw [hZ9]; exact boxL_set5 BX1 _ _ _ _ _
 have BYZ := boxL_turns BY1 TZ (by have := HZZ.out; omega)
 have hBZ := Below.turns hB1 TZ (fun k hk => by have := HZZ.out; omega)
 have IZ := hIZ.turns TZ (fun y hy hk => (HNZ.out.2 y hy).1 hk)
 rw [← hZ9]
 clear f0 f1 f2 f3 f4 v0 v1 v2 v3 v4 d0 d1 d2 d3 d4 hZ9 hIZ
 have cH := refHeld_any ky nm ta tn tc zi a n c zs k Z IZ HNZ.out.1
 rw [HE.out] at cH
 have p0 := BZ.1 0 _ rfl; have p1 := BZ.1 1 _ rfl; have p2 := BZ.1 2 _ rfl; have p3 := BZ.1 3 _ rfl; have p4 := BZ.1 4 _ rfl
 refine wp_seq_k (fun K hK => ?_); have HK : Shut _ := hK; clear hK
 go_wp2_with (go_at_call 63; refine cH.mono ?_; rintro e w2 ⟨rfl, hbT⟩)
 refine HK.out _ _ ?_; clear HK K
 clear p0 p1 p2 p3 p4 cH cS
 replace BZ := BZ.below hbT
 replace BYZ := BYZ.below hbT
 replace IZ := IZ.below hbT
 replace hBZ := Below.tr hBZ hbT
 clear hbT
 have hge : ¬ ((ix : Int) < 0) := by omega
 have BXX := BZ
 have x0 := BZ.1 0 _ rfl; have x1 := BZ.1 1 _ rfl; have x2 := BZ.1 2 _ rfl; have x3 := BZ.1 3 _ rfl; have x4 := BZ.1 4 _ rfl
 have hpl : placeI (some ix) = ix := rfl
 rw [hpl]
 refine wp_seq_k (fun K hK => ?_); have HK : Shut _ := hK; clear hK
 go_wp2
 refine HK.out _ _ ?_; clear HK K
 obtain ⟨s, hs, h2, hsk⟩ := held_some HE.out
 have hil : ix < zs.length := (List.getElem?_eq_some_iff.1 hs).1
 have hinn : ix < n := by rw [HNZ.out.1]; exact hil
 have hint : ix < tn := by rw [← HTN.out.2.1]; exact hinn
 obtain ⟨t, htt⟩ : ∃ tt, tv[ix]? = some tt := ⟨_, List.getElem?_eq_getElem (by rw [← HTN.out.1]; exact hint)⟩
 have htp := plainT_get htt
 have hst := ((standT_iff s).1 (right_parts (HR.out.each ix s t.p hs htp).right).1).2.1
 have hi1 : (ix : Int) < n := by omega
 have hi2 : (ix : Int) < tn := by omega
 obtain ⟨b, o, rfl, -⟩ := IZ.some (by have := HNZ.out.1; omega)
 obtain ⟨p0, p1, p2, p3, p4⟩ := IZ.at hs
 have hbb : b < w2.heap.size := by have := IZ.lies (by omega) ⟨b, o, none⟩ rfl; exact this
 have hb0 : b ≠ z0 ∧ b ≠ z1 := HNZ.out.2 _ rfl
 have hns : n ≤ c ∧ c ≤ 9223372036854775807 := by have a1 := IZ.1; have a2 := IZ.2.1; rw [← HNZ.out.1] at a1; exact ⟨a1, a2⟩
 obtain ⟨hns1, hns2⟩ := hns
 have htc : tn ≤ tc ∧ tc ≤ 9223372036854775807 := by have a1 := HT.out.1; have a2 := HT.out.2.1; rw [← HTN.out.1] at a1; exact ⟨a1, a2⟩
 obtain ⟨htc1, htc2⟩ := htc
 obtain ⟨tb, to, rfl, htbl⟩ := HT.out.some (by have := HTN.out; omega)
 have HTB : Hid (tb < w.heap.size) := htbl
 clear htbl
 have hsr := IZ.text hs
 have HSO : Hid (zs[ix]? = some s ∧ s.i = 2) := ⟨hs, h2⟩
 have HTS : Hid (tv[ix]? = some t) := htt
 obtain ⟨si, st, sd, sk, sr⟩ := s
 dsimp only at *
 clear hs h2 hsk htp
 obtain ⟨Y, hY⟩ : ∃ Y, Y = w2.alloc (.cells #[.int .i64 si, .int .i64 st, .int .i64 sd, .int .i64 sk, .string sr] 52) := ⟨_, rfl⟩
 have hBY0 : Below w2.heap.size w2 Y := by rw [hY]; exact (Below.refl _ _).alloc (Nat.le_refl _) _
 obtain ⟨z2, hz2⟩ : ∃ z, z = w2.heap.size := ⟨_, rfl⟩
 have bS : BoxL Y z2 [.int .i64 si, .int .i64 st, .int .i64 sd, .int .i64 sk, .string sr] := by rw [hY]; exact boxL_new w2 _ _ hz2
 refine wp_seq_k (fun K hK => ?_); have HK : Shut _ := hK; clear hK
 go_wp2
 rw [← hY, ← hz2]
 refine HK.out _ _ ?_; clear HK K
 clear hY p0 p1 p2 p3 p4 x0 x1 x2 x3 x4
 have HZ2 : Hid (z2 = w2.heap.size) := hz2
 rw [← hz2] at hbb
 have BXY := BZ.below hBY0
 have BYY := BYZ.below hBY0
 have IY := IZ.below hBY0
 have hBw := Below.tr hBZ hBY0
 have hzz : z0 < z2 ∧ z1 < z2 := by have h1 := BZ.lt (by simp); have h3 := BYZ.lt (by simp); omega
 have hsy : z2 < Y.heap.size := bS.lt (by simp)
 clear BZ BYZ IZ hBZ hz2 BXX TZ BX1 BY1 BX BY hb hB1 hB0
 obtain ⟨XB, hXB⟩ : ∃ XB, XB = beatT t.le ⟨si, st, sd, sk, sr⟩ now := ⟨_, rfl⟩
 have cB := fun W => refBeatT_any t.a t.ns.length t.c t.tr t.wt t.le si st sd sk sr now W hnow
 rw [← hXB] at cB
 have hBe : heldE ⟨si, st, sd, sk, sr⟩ = 0 := if_pos HSO.out.2
 rw [hBe] at cB
 have HXB : Hid (XB = beatT t.le ⟨si, st, sd, sk, sr⟩ now ∧ XB.r.size ≤ maxLen) := ⟨hXB, by rw [hXB]; exact beat_text hsr⟩
 clear hXB hBe
 obtain ⟨bi, bt, bd, bk, br⟩ := XB
 dsimp only [vT] at cB
 obtain ⟨y0, y1, y2, y3, -⟩ := (HT.out.below hBw).at htt
 obtain ⟨tta, hta⟩ : ∃ a, a = t.a := ⟨_, rfl⟩
 obtain ⟨tl, htl⟩ : ∃ a, a = t.ns.length := ⟨_, rfl⟩
 obtain ⟨tcc, htcc⟩ : ∃ a, a = t.c := ⟨_, rfl⟩
 obtain ⟨ttr, httr⟩ : ∃ a, a = t.tr := ⟨_, rfl⟩
 obtain ⟨twt, htwt⟩ : ∃ a, a = t.wt := ⟨_, rfl⟩
 obtain ⟨tle, htle⟩ : ∃ a, a = t.le := ⟨_, rfl⟩
 rw [← hta, ← htl, ← htcc] at y0
 rw [← httr] at y1
 rw [← htwt] at y2
 rw [← htle] at y3
 rw [← hta, ← htl, ← htcc, ← httr, ← htwt, ← htle] at cB
 have HTC : Hid (tta = t.a ∧ tl = t.ns.length ∧ tcc = t.c ∧ ttr = t.tr ∧ twt = t.wt ∧ tle = t.le) := ⟨hta, htl, htcc, httr, htwt, htle⟩
 clear hta htl htcc httr htwt htle htt
 have HC : ∀ W, Below Y.heap.size Y W → W.cell? ⟨z0, 2, none⟩ = some (.slice (some ⟨tb, to, none⟩) tn tc) ∧ (W.cell? ⟨tb, to + ix * 4, none⟩ = some (.slice tta tl tcc) ∧ W.cell? ⟨tb, to + ix * 4 + 1, none⟩ = some (.int .i64 ttr) ∧ W.cell? ⟨tb, to + ix * 4 + 2, none⟩ = some (.int .i64 twt) ∧ W.cell? ⟨tb, to + ix * 4 + 3, none⟩ = some (.int .i64 tle)) ∧ (W.cell? ⟨z2, 0, none⟩ = some (.int .i64 si) ∧ W.cell? ⟨z2, 1, none⟩ = some (.int .i64 st) ∧ W.cell? ⟨z2, 2, none⟩ = some (.int .i64 sd) ∧ W.cell? ⟨z2, 3, none⟩ = some (.int .i64 sk) ∧ W.cell? ⟨z2, 4, none⟩ = some (.string sr)) := fun W hW =>
  ⟨(BXY.below hW).1 2 _ rfl, ⟨cell_below hW y0, cell_below hW y1, cell_below hW y2, cell_below hW y3⟩, ⟨(bS.below hW).1 0 _ rfl, (bS.below hW).1 1 _ rfl, (bS.below hW).1 2 _ rfl, (bS.below hW).1 3 _ rfl, (bS.below hW).1 4 _ rfl⟩⟩
 clear y0 y1 y2 y3
 obtain ⟨V0, hV0⟩ : ∃ V0, V0 = Y.drew := ⟨_, rfl⟩
 have hbV : Below Y.heap.size Y V0 := by rw [hV0]; exact (Below.refl _ _).drew
 have hsV : Y.heap.size ≤ V0.heap.size := hbV.size
 refine hideQ (fun Q9 hQ9 => ?_); have HQ9 : Shut _ := hQ9; clear hQ9
 refine wp_seq_k (fun K hK => ?_); have HK : Shut _ := hK; clear hK
 refine wp_region_noPanic ?_
 refine wp_region_held_drew (S := fun W => W.cell? ⟨z0, 2, none⟩ = some (.slice (some ⟨tb, to, none⟩) tn tc) ∧ (W.cell? ⟨tb, to + ix * 4, none⟩ = some (.slice tta tl tcc) ∧ W.cell? ⟨tb, to + ix * 4 + 1, none⟩ = some (.int .i64 ttr) ∧ W.cell? ⟨tb, to + ix * 4 + 2, none⟩ = some (.int .i64 twt) ∧ W.cell? ⟨tb, to + ix * 4 + 3, none⟩ = some (.int .i64 tle)) ∧ (W.cell? ⟨z2, 0, none⟩ = some (.int .i64 si) ∧ W.cell? ⟨z2, 1, none⟩ = some (.int .i64 st) ∧ W.cell? ⟨z2, 2, none⟩ = some (.int .i64 sd) ∧ W.cell? ⟨z2, 3, none⟩ = some (.int .i64 sk) ∧ W.cell? ⟨z2, 4, none⟩ = some (.string sr))) (by kernel_rfl) (by rw [← hV0]; exact HC _ hbV) (fun hHeld => ?_)
 rw [← hV0] at hHeld ⊢
 clear hV0
 refine take_at (i := 0) (v := ?_) rfl (by kernel_rfl) (by kernel_rfl) (by kernel_rfl) (fun _ _ _ h => h) (Or.inl ⟨by rfl, ?_⟩) (by assumption) ?_
 rotate_left 1
 ·
  (intro w hSw; (try dsimp only at hSw); go_simp; (try with_reducible rfl))
 try go_frame
 refine take_at (i := 1) (v := ?_) rfl (by kernel_rfl) (by kernel_rfl) (by kernel_rfl) (fun _ _ _ h => h) (Or.inl ⟨by rfl, ?_⟩) (by assumption) ?_
 rotate_left 1
 ·
  (intro w hSw; (try dsimp only at hSw); go_simp; (try with_reducible rfl))
 try go_frame
 refine take_at (i := 2) (v := ?_) rfl (by kernel_rfl) (by kernel_rfl) (by kernel_rfl) (fun _ _ _ h => h) (Or.inl ⟨by rfl, ?_⟩) (by assumption) ?_
 rotate_left 1
 ·
  (intro w hSw; (try dsimp only at hSw); go_simp; (try with_reducible rfl))
 try go_frame
 refine take_at (i := 3) (v := ?_) rfl (by kernel_rfl) (by kernel_rfl) (by kernel_rfl) (fun _ _ _ h => h) (Or.inl ⟨by rfl, ?_⟩) (by assumption) ?_
 rotate_left 1
 ·
  (intro w hSw; (try dsimp only at hSw); go_simp; (try with_reducible rfl))
 try go_frame
 refine take_at (i := 4) (v := ?_) rfl (by kernel_rfl) (by kernel_rfl) (by kernel_rfl) (fun _ _ _ h => h) (Or.inl ⟨by rfl, ?_⟩) (by assumption) ?_
 rotate_left 1
 ·
  (intro w hSw; (try dsimp only at hSw); go_simp; (try with_reducible rfl))
 try go_frame
 refine take_at (i := 5) (v := ?_) rfl (by kernel_rfl) (by kernel_rfl) (by kernel_rfl) (fun _ _ _ h => h) (Or.inl ⟨by rfl, ?_⟩) (by assumption) ?_
 rotate_left 1
 ·
  (intro w hSw; (try dsimp only at hSw); go_simp; (try with_reducible rfl))
 try go_frame
 refine take_at (i := 6) (v := ?_) rfl (by kernel_rfl) (by kernel_rfl) (by kernel_rfl) (fun _ _ _ h => h) (Or.inl ⟨by rfl, ?_⟩) (by assumption) ?_
 rotate_left 1
 ·
  (intro w hSw; (try dsimp only at hSw); go_simp; (try with_reducible rfl))
 try go_frame
 refine take_at (i := 7) (v := ?_) rfl (by kernel_rfl) (by kernel_rfl) (by kernel_rfl) (fun _ _ _ h => h) (Or.inl ⟨by rfl, ?_⟩) (by assumption) ?_
 rotate_left 1
 ·
  (intro w hSw; (try dsimp only at hSw); go_simp; (try with_reducible rfl))
 try go_frame
 refine wpAnyH_ready (rs := [8, 12]) (by kernel_rfl) (by simp) ?_
 refine cons_at (i := 8) rfl (fun K9 hK => ?_) (cons_at (i := 12) rfl (fun K9 hK => ?_) AllReadyH.nil)
 ·
  go_simp
  (go_at_call 64; refine (cB _).mono ?_; rintro e w4 ⟨rfl, hb4⟩)
  have hB4 := Below.tr hbV hb4
  refine hK.out _ _ (HC _ hB4) (fun hHeld => ?_)
  clear hK K9
  refine take_at (i := 9) (v := ?_) rfl (by kernel_rfl) (by kernel_rfl) (by kernel_rfl) (fun _ _ _ h => h) (Or.inl ⟨by rfl, ?_⟩) (by assumption) ?_
  rotate_left 1
  ·
   (intro w hSw; (try dsimp only at hSw); go_simp; (try with_reducible rfl))
  try go_frame
  refine take_at (i := 10) (v := ?_) rfl (by kernel_rfl) (by kernel_rfl) (by kernel_rfl) (fun _ _ _ h => h) (Or.inl ⟨by rfl, ?_⟩) (by assumption) ?_
  rotate_left 1
  ·
   (intro w hSw; (try dsimp only at hSw); go_simp; (try with_reducible rfl))
  try go_frame
  refine take_at (i := 11) (v := ?_) rfl (by kernel_rfl) (by kernel_rfl) (by kernel_rfl) (fun _ _ _ h => h) (Or.inl ⟨by rfl, ?_⟩) (by assumption) ?_
  rotate_left 1
  ·
   (intro w hSw; (try dsimp only at hSw); go_simp; (try with_reducible rfl))
  try go_frame
  refine wpAnyH_ready (rs := [12]) (by kernel_rfl) (by simp) ?_
  refine cons_at (i := 12) rfl (fun K hK => ?_) AllReadyH.nil
  go_simp
  obtain ⟨A, hA⟩ : ∃ A, A = w4.alloc (.cells #[.int .i64 0, .int .i64 0, .int .i64 0, .int .i64 0, .string ⟨#[]⟩] 52) := ⟨_, rfl⟩
  have hBA : Below Y.heap.size Y A := by rw [hA]; exact hB4.alloc hB4.size _
  have bA : BoxL A w4.heap.size [.int .i64 0, .int .i64 0, .int .i64 0, .int .i64 0, .string ⟨#[]⟩] := by rw [hA]; exact boxL_new w4 [.int .i64 0, .int .i64 0, .int .i64 0, .int .i64 0, .string ⟨#[]⟩] _ rfl
  rw [← hA]
  refine hK.out _ _ (HC _ hBA) (fun hHeld => ?_)
  clear hK K hA
  have hzV : Y.heap.size ≤ w4.heap.size := hB4.size
  obtain ⟨Y2, hY⟩ : ∃ Y2, Y2 = (((((A.setCell ⟨w4.heap.size, 0, none⟩ (.int .i64 bi)).setCell ⟨w4.heap.size, 1, none⟩ (.int .i64 bt)).setCell ⟨w4.heap.size, 2, none⟩ (.int .i64 bd)).setCell ⟨w4.heap.size, 3, none⟩ (.int .i64 bk)).setCell ⟨w4.heap.size, 4, none⟩ (.string br)) := ⟨_, rfl⟩
  have bY : BoxL Y2 w4.heap.size [.int .i64 bi, .int .i64 bt, .int .i64 bd, .int .i64 bk, .string br] := by rw [hY]; exact boxL_set5 bA _ _ _ _ _
  have hBY : Below Y.heap.size Y Y2 := by rw [hY]; exact below_setT hBA (by omega) _ _ _ _ _
  have u0 := bA.1 0 _ rfl; have u1 := bA.1 1 _ rfl; have u2 := bA.1 2 _ rfl; have u3 := bA.1 3 _ rfl; have u4 := bA.1 4 _ rfl
  have v0 := bA.2 0 (by simp); have v1 := bA.2 1 (by simp); have v2 := bA.2 2 (by simp); have v3 := bA.2 3 (by simp); have v4 := bA.2 4 (by simp)
  refine wpAnyH_ready (rs := [13]) (by kernel_rfl) (by simp) ?_
  refine cons_at (i := 13) rfl (fun K hK => ?_) AllReadyH.nil
  go_simp
  rw [← hY]
  refine hK.out _ _ (HC _ hBY) (fun hHeld => ?_)
  clear hK K hY
  refine take_at (i := 14) (v := ?_) rfl (by kernel_rfl) (by kernel_rfl) (by kernel_rfl) (fun _ _ _ h => h) (Or.inl ⟨by rfl, ?_⟩) (by assumption) ?_
  rotate_left 1
  ·
   (intro w hSw; (try dsimp only at hSw); go_simp; (try with_reducible rfl))
  try go_frame
  refine wpAnyH_done (by kernel_rfl) ?_ _
  refine NoPanic.normal ?_
  refine HK.out _ _ ?_
  clear HK K hHeld u0 u1 u2 u3 u4 v0 v1 v2 v3 v4 bA hBA
  generalize w4.heap.size = zz at *
  clear hB4 hb4
  have BX3 := BXY.below hBY
  have BY3 := BYY.below hBY
  have IY3 := IY.below hBY
  have hB3 := Below.tr hBw hBY
  have HC2 : Hid (∀ W, Below Y2.heap.size Y2 W → _) := fun W hW => HC W (Below.tr hBY hW)
  have bS2 := bS.below hBY
  have hzz2 : z2 < zz := by omega
  clear BXY BYY IY hBY hBw HC cB hbV hsV
  have HL : Hid (ansE (plainT tv) (fun _ s => heldE s) zs k = 0 ∧ ansZ (plainT tv) (fun t s => beatT t.lease s now) zs zi k = mendS (plainT tv) (zs.set ix ⟨bi, bt, bd, bk, br⟩) zi) := by
   have e1 := plainT_get HTS.out
   constructor
   ·
    unfold ansE; rw [HE.out]; simp only; rw [HSO.out.1, e1]; exact if_pos HSO.out.2
   ·
    unfold ansZ; rw [HE.out]; simp only; rw [HSO.out.1, e1, HXB.out.1]; rfl
  have hXt : br.size ≤ maxLen := HXB.out.2
  obtain ⟨qs, hqs⟩ : ∃ qs, qs = zs.set ix ⟨bi, bt, bd, bk, br⟩ := ⟨_, rfl⟩
  rw [← hqs] at HL
  generalize Y2 = Y3 at *
  have bX := bY
  refine wp_seq_k (fun K hK => ?_); have HK : Shut _ := hK; clear hK
  go_wp2
  refine HK.out _ _ ?_; clear HK K
  refine wp_seq_k (fun K hK => ?_); have HK : Shut _ := hK; clear hK
  go_wp2
  refine HK.out _ _ ?_; clear HK K
  refine wp_seq_k (fun K hK => ?_); have HK : Shut _ := hK; clear hK
  go_wp2
  refine HK.out _ _ ?_; clear HK K
  have cW := refWith_any ky nm (some ⟨tb, to, none⟩) tn tc zi (some ⟨b, o, none⟩) n c zs ix bi bt bd bk br Y3 IY3 HNZ.out.1 (by have := HTN.out; omega) hXt
  rw [setI_nat, ← hqs] at cW
  have cM : ∀ V a1 c1, Below Y3.heap.size Y3 V → IsZ V a1 c1 qs → Calls Try.prog 36 #[.agg #[.string ky, .string nm, .slice (some ⟨tb, to, none⟩) tn tc, .int .i64 zi, .slice a1 n c1]] V fun e w' => ∃ v, e = .returned v ∧ MadeC V ky nm (some ⟨tb, to, none⟩) tn tc (mendS (plainT tv) qs zi).2 a1 n (mendS (plainT tv) qs zi).1 v w' := fun V a1 c1 hV hz => refMend_any ky nm (some ⟨tb, to, none⟩) tn tc zi a1 n c1 tv qs V (HT.out.below (Below.tr hB3 hV)) HTN.out.1 hz (by rw [hqs, List.length_set]; exact HNZ.out.1) HTN.out.2.1 (by have := HTN.out; omega) (fun i t h x hx => by rw [HTN.out.2.1]; exact HIN.out i t h x hx)
  obtain ⟨ms, hms⟩ : ∃ ms, ms = (mendS (plainT tv) qs zi).1 := ⟨_, rfl⟩
  obtain ⟨mi, hmi⟩ : ∃ mi, mi = (mendS (plainT tv) qs zi).2 := ⟨_, rfl⟩
  rw [← hms, ← hmi] at cM
  have HM : Hid (mendS (plainT tv) qs zi = (ms, mi)) := by show _ = _; rw [hms, hmi]
  clear hms hmi hqs IY3
  have x0 := BX3.1 0 _ rfl; have x1 := BX3.1 1 _ rfl; have x2 := BX3.1 2 _ rfl; have x3 := BX3.1 3 _ rfl; have x4 := BX3.1 4 _ rfl
  have b0 := bX.1 0 _ rfl; have b1 := bX.1 1 _ rfl; have b2 := bX.1 2 _ rfl; have b3 := bX.1 3 _ rfl; have b4 := bX.1 4 _ rfl
  refine wp_seq_k (fun K hK => ?_); have HK : Shut _ := hK; clear hK
  go_wp2_with (first
   | (go_at_call 47; refine cW.mono ?_; rintro e w5 ⟨a1, c1, rfl, hz1, hf1, hb5⟩; clear x0 x1 x2 x3 x4 b0 b1 b2 b3 b4)
   | (go_at_call 36; go_loud (refine (cM _ _ _ hb5 hz1).mono ?_; rintro e w6 ⟨v, rfl, a2, c2, rfl, hz2, hn2, hf2, hb6⟩; have BY6 := (BY3.below hb5).below hb6; have hB6 := Below.tr (Below.tr hB3 hb5) hb6; have HZ6 : Hid (IsZ w6 a2 c2 ms ∧ n = ms.length ∧ ∀ y, a2 = some y → y.block ≠ z1) := ⟨hz2, hn2, fun y hy => by have h5 := hb5.size; have h7 := BY3.lt (by simp); rcases hf2 with e | e; (have := hf1 y (by rw [← e]; exact hy); omega); (have := e y hy; omega)⟩; clear hz1 hz2 hn2 hf1 hf2 hb5 hb6 cW cM; have y0 := BY6.1 0 _ rfl; have y1 := BY6.1 1 _ rfl; have y2 := BY6.1 2 _ rfl; have y3 := BY6.1 3 _ rfl; have y4 := BY6.1 4 _ rfl; have d0 := BY6.2 0 (by simp); have d1 := BY6.2 1 (by simp); have d2 := BY6.2 2 (by simp); have d3 := BY6.2 3 (by simp); have d4 := BY6.2 4 (by simp))))
  refine HK.out _ _ ?_; clear HK K
  obtain ⟨Z2, hZ2⟩ : ∃ Z2, Z2 = (((((w6.setCell ⟨z1, 0, none⟩ (.string ky)).setCell ⟨z1, 1, none⟩ (.string nm)).setCell ⟨z1, 2, none⟩ (.slice (some ⟨tb, to, none⟩) tn tc)).setCell ⟨z1, 3, none⟩ (.int .i64 mi)).setCell ⟨z1, 4, none⟩ (.slice a2 n c2)) := ⟨_, rfl⟩
  have T2 : Turns (fun k => k = z1) w6 Z2 := by rw [hZ2]; exact turns_set5 _ _ _ _ _ _ _
  have BZ2 : BoxL Z2 z1 [.string ky, .string nm, .slice (some ⟨tb, to, none⟩) tn tc, .int .i64 mi, .slice a2 n c2] := by rw [hZ2]; exact boxL_set5 BY6 _ _ _ _ _
  have hBZ2 := Below.turns hB6 T2 (fun k hk => by have := HZZ.out; omega)
  have IZ2 := HZ6.out.1.turns T2 (fun y hy hk => HZ6.out.2.2 y hy hk)
  rw [← hZ2]
  clear hZ2
  have r0 := BZ2.1 0 _ rfl; have r1 := BZ2.1 1 _ rfl; have r2 := BZ2.1 2 _ rfl; have r3 := BZ2.1 3 _ rfl; have r4 := BZ2.1 4 _ rfl
  refine wp_ret ?_
  refine HQ9.out _ _ _ ?_
  rw [HL.out.1, HL.out.2, HM.out]
  exact bodyPost_ret (v := .tuple #[.agg #[.string ky, .string nm, .slice (some ⟨tb, to, none⟩) tn tc, .int .i64 mi, .slice a2 n c2], .int .i64 0]) (by simp [results, Try.results26, go_sem, r0, r1, r2, r3, r4]) rfl ⟨ky, nm, _, _, _, _, _, _, _, tv, _, rfl, ⟨HT.out.below hBZ2, HTN.out.1, IZ2, HZ6.out.2.1⟩, fun _ => ⟨rfl, rfl, rfl, rfl, rfl⟩, fun h => absurd rfl h, hBZ2⟩
 ·
  go_simp
  obtain ⟨A, hA⟩ : ∃ A, A = V0.alloc (.cells #[.int .i64 0, .int .i64 0, .int .i64 0, .int .i64 0, .string ⟨#[]⟩] 52) := ⟨_, rfl⟩
  have hBA : Below Y.heap.size Y A := by rw [hA]; exact hbV.alloc hsV _
  have bA : BoxL A V0.heap.size [.int .i64 0, .int .i64 0, .int .i64 0, .int .i64 0, .string ⟨#[]⟩] := by rw [hA]; exact boxL_new V0 [.int .i64 0, .int .i64 0, .int .i64 0, .int .i64 0, .string ⟨#[]⟩] _ rfl
  rw [← hA]
  refine hK.out _ _ (HC _ hBA) (fun hHeld => ?_)
  clear hK K9 hA
  refine wpAnyH_ready (rs := [8]) (by kernel_rfl) (by simp) ?_
  refine cons_at (i := 8) rfl (fun K hK => ?_) AllReadyH.nil
  go_simp
  (go_at_call 64; refine (cB _).mono ?_; rintro e w4 ⟨rfl, hb4⟩)
  replace bA := bA.below hb4
  replace hBA := Below.tr hBA hb4
  clear hb4
  refine hK.out _ _ (HC _ hBA) (fun hHeld => ?_)
  clear hK K
  refine take_at (i := 9) (v := ?_) rfl (by kernel_rfl) (by kernel_rfl) (by kernel_rfl) (fun _ _ _ h => h) (Or.inl ⟨by rfl, ?_⟩) (by assumption) ?_
  rotate_left 1
  ·
   (intro w hSw; (try dsimp only at hSw); go_simp; (try with_reducible rfl))
  try go_frame
  refine take_at (i := 10) (v := ?_) rfl (by kernel_rfl) (by kernel_rfl) (by kernel_rfl) (fun _ _ _ h => h) (Or.inl ⟨by rfl, ?_⟩) (by assumption) ?_
  rotate_left 1
  ·
   (intro w hSw; (try dsimp only at hSw); go_simp; (try with_reducible rfl))
  try go_frame
  refine take_at (i := 11) (v := ?_) rfl (by kernel_rfl) (by kernel_rfl) (by kernel_rfl) (fun _ _ _ h => h) (Or.inl ⟨by rfl, ?_⟩) (by assumption) ?_
  rotate_left 1
  ·
   (intro w hSw; (try dsimp only at hSw); go_simp; (try with_reducible rfl))
  try go_frame
  generalize w4 = A at *
  have hzV : Y.heap.size ≤ V0.heap.size := hsV
  obtain ⟨Y2, hY⟩ : ∃ Y2, Y2 = (((((A.setCell ⟨V0.heap.size, 0, none⟩ (.int .i64 bi)).setCell ⟨V0.heap.size, 1, none⟩ (.int .i64 bt)).setCell ⟨V0.heap.size, 2, none⟩ (.int .i64 bd)).setCell ⟨V0.heap.size, 3, none⟩ (.int .i64 bk)).setCell ⟨V0.heap.size, 4, none⟩ (.string br)) := ⟨_, rfl⟩
  have bY : BoxL Y2 V0.heap.size [.int .i64 bi, .int .i64 bt, .int .i64 bd, .int .i64 bk, .string br] := by rw [hY]; exact boxL_set5 bA _ _ _ _ _
  have hBY : Below Y.heap.size Y Y2 := by rw [hY]; exact below_setT hBA (by omega) _ _ _ _ _
  have u0 := bA.1 0 _ rfl; have u1 := bA.1 1 _ rfl; have u2 := bA.1 2 _ rfl; have u3 := bA.1 3 _ rfl; have u4 := bA.1 4 _ rfl
  have v0 := bA.2 0 (by simp); have v1 := bA.2 1 (by simp); have v2 := bA.2 2 (by simp); have v3 := bA.2 3 (by simp); have v4 := bA.2 4 (by simp)
  refine wpAnyH_ready (rs := [13]) (by kernel_rfl) (by simp) ?_
  refine cons_at (i := 13) rfl (fun K hK => ?_) AllReadyH.nil
  go_simp
  rw [← hY]
  refine hK.out _ _ (HC _ hBY) (fun hHeld => ?_)
  clear hK K hY
  refine take_at (i := 14) (v := ?_) rfl (by kernel_rfl) (by kernel_rfl) (by kernel_rfl) (fun _ _ _ h => h) (Or.inl ⟨by rfl, ?_⟩) (by assumption) ?_
  rotate_left 1
  ·
   (intro w hSw; (try dsimp only at hSw); go_simp; (try with_reducible rfl))
  try go_frame
  refine wpAnyH_done (by kernel_rfl) ?_ _
  refine NoPanic.normal ?_
  refine HK.out _ _ ?_
  clear HK K hHeld u0 u1 u2 u3 u4 v0 v1 v2 v3 v4 bA hBA
  generalize V0.heap.size = zz at *
  have BX3 := BXY.below hBY
  have BY3 := BYY.below hBY
  have IY3 := IY.below hBY
  have hB3 := Below.tr hBw hBY
  have HC2 : Hid (∀ W, Below Y2.heap.size Y2 W → _) := fun W hW => HC W (Below.tr hBY hW)
  have bS2 := bS.below hBY
  have hzz2 : z2 < zz := by omega
  clear BXY BYY IY hBY hBw HC cB hbV hsV
  have HL : Hid (ansE (plainT tv) (fun _ s => heldE s) zs k = 0 ∧ ansZ (plainT tv) (fun t s => beatT t.lease s now) zs zi k = mendS (plainT tv) (zs.set ix ⟨bi, bt, bd, bk, br⟩) zi) := by
   have e1 := plainT_get HTS.out
   constructor
   ·
    unfold ansE; rw [HE.out]; simp only; rw [HSO.out.1, e1]; exact if_pos HSO.out.2
   ·
    unfold ansZ; rw [HE.out]; simp only; rw [HSO.out.1, e1, HXB.out.1]; rfl
  have hXt : br.size ≤ maxLen := HXB.out.2
  obtain ⟨qs, hqs⟩ : ∃ qs, qs = zs.set ix ⟨bi, bt, bd, bk, br⟩ := ⟨_, rfl⟩
  rw [← hqs] at HL
  generalize Y2 = Y3 at *
  have bX := bY
  refine wp_seq_k (fun K hK => ?_); have HK : Shut _ := hK; clear hK
  go_wp2
  refine HK.out _ _ ?_; clear HK K
  refine wp_seq_k (fun K hK => ?_); have HK : Shut _ := hK; clear hK
  go_wp2
  refine HK.out _ _ ?_; clear HK K
  refine wp_seq_k (fun K hK => ?_); have HK : Shut _ := hK; clear hK
  go_wp2
  refine HK.out _ _ ?_; clear HK K
  have cW := refWith_any ky nm (some ⟨tb, to, none⟩) tn tc zi (some ⟨b, o, none⟩) n c zs ix bi bt bd bk br Y3 IY3 HNZ.out.1 (by have := HTN.out; omega) hXt
  rw [setI_nat, ← hqs] at cW
  have cM : ∀ V a1 c1, Below Y3.heap.size Y3 V → IsZ V a1 c1 qs → Calls Try.prog 36 #[.agg #[.string ky, .string nm, .slice (some ⟨tb, to, none⟩) tn tc, .int .i64 zi, .slice a1 n c1]] V fun e w' => ∃ v, e = .returned v ∧ MadeC V ky nm (some ⟨tb, to, none⟩) tn tc (mendS (plainT tv) qs zi).2 a1 n (mendS (plainT tv) qs zi).1 v w' := fun V a1 c1 hV hz => refMend_any ky nm (some ⟨tb, to, none⟩) tn tc zi a1 n c1 tv qs V (HT.out.below (Below.tr hB3 hV)) HTN.out.1 hz (by rw [hqs, List.length_set]; exact HNZ.out.1) HTN.out.2.1 (by have := HTN.out; omega) (fun i t h x hx => by rw [HTN.out.2.1]; exact HIN.out i t h x hx)
  obtain ⟨ms, hms⟩ : ∃ ms, ms = (mendS (plainT tv) qs zi).1 := ⟨_, rfl⟩
  obtain ⟨mi, hmi⟩ : ∃ mi, mi = (mendS (plainT tv) qs zi).2 := ⟨_, rfl⟩
  rw [← hms, ← hmi] at cM
  have HM : Hid (mendS (plainT tv) qs zi = (ms, mi)) := by show _ = _; rw [hms, hmi]
  clear hms hmi hqs IY3
  have x0 := BX3.1 0 _ rfl; have x1 := BX3.1 1 _ rfl; have x2 := BX3.1 2 _ rfl; have x3 := BX3.1 3 _ rfl; have x4 := BX3.1 4 _ rfl
  have b0 := bX.1 0 _ rfl; have b1 := bX.1 1 _ rfl; have b2 := bX.1 2 _ rfl; have b3 := bX.1 3 _ rfl; have b4 := bX.1 4 _ rfl
  refine wp_seq_k (fun K hK => ?_); have HK : Shut _ := hK; clear hK
  go_wp2_with (first
   | (go_at_call 47; refine cW.mono ?_; rintro e w5 ⟨a1, c1, rfl, hz1, hf1, hb5⟩; clear x0 x1 x2 x3 x4 b0 b1 b2 b3 b4)
   | (go_at_call 36; go_loud (refine (cM _ _ _ hb5 hz1).mono ?_; rintro e w6 ⟨v, rfl, a2, c2, rfl, hz2, hn2, hf2, hb6⟩; have BY6 := (BY3.below hb5).below hb6; have hB6 := Below.tr (Below.tr hB3 hb5) hb6; have HZ6 : Hid (IsZ w6 a2 c2 ms ∧ n = ms.length ∧ ∀ y, a2 = some y → y.block ≠ z1) := ⟨hz2, hn2, fun y hy => by have h5 := hb5.size; have h7 := BY3.lt (by simp); rcases hf2 with e | e; (have := hf1 y (by rw [← e]; exact hy); omega); (have := e y hy; omega)⟩; clear hz1 hz2 hn2 hf1 hf2 hb5 hb6 cW cM; have y0 := BY6.1 0 _ rfl; have y1 := BY6.1 1 _ rfl; have y2 := BY6.1 2 _ rfl; have y3 := BY6.1 3 _ rfl; have y4 := BY6.1 4 _ rfl; have d0 := BY6.2 0 (by simp); have d1 := BY6.2 1 (by simp); have d2 := BY6.2 2 (by simp); have d3 := BY6.2 3 (by simp); have d4 := BY6.2 4 (by simp))))
  refine HK.out _ _ ?_; clear HK K
  obtain ⟨Z2, hZ2⟩ : ∃ Z2, Z2 = (((((w6.setCell ⟨z1, 0, none⟩ (.string ky)).setCell ⟨z1, 1, none⟩ (.string nm)).setCell ⟨z1, 2, none⟩ (.slice (some ⟨tb, to, none⟩) tn tc)).setCell ⟨z1, 3, none⟩ (.int .i64 mi)).setCell ⟨z1, 4, none⟩ (.slice a2 n c2)) := ⟨_, rfl⟩
  have T2 : Turns (fun k => k = z1) w6 Z2 := by rw [hZ2]; exact turns_set5 _ _ _ _ _ _ _
  have BZ2 : BoxL Z2 z1 [.string ky, .string nm, .slice (some ⟨tb, to, none⟩) tn tc, .int .i64 mi, .slice a2 n c2] := by rw [hZ2]; exact boxL_set5 BY6 _ _ _ _ _
  have hBZ2 := Below.turns hB6 T2 (fun k hk => by have := HZZ.out; omega)
  have IZ2 := HZ6.out.1.turns T2 (fun y hy hk => HZ6.out.2.2 y hy hk)
  rw [← hZ2]
  clear hZ2
  have r0 := BZ2.1 0 _ rfl; have r1 := BZ2.1 1 _ rfl; have r2 := BZ2.1 2 _ rfl; have r3 := BZ2.1 3 _ rfl; have r4 := BZ2.1 4 _ rfl
  refine wp_ret ?_
  refine HQ9.out _ _ _ ?_
  rw [HL.out.1, HL.out.2, HM.out]
  exact bodyPost_ret (v := .tuple #[.agg #[.string ky, .string nm, .slice (some ⟨tb, to, none⟩) tn tc, .int .i64 mi, .slice a2 n c2], .int .i64 0]) (by simp [results, Try.results26, go_sem, r0, r1, r2, r3, r4]) rfl ⟨ky, nm, _, _, _, _, _, _, _, tv, _, rfl, ⟨HT.out.below hBZ2, HTN.out.1, IZ2, HZ6.out.2.1⟩, fun _ => ⟨rfl, rfl, rfl, rfl, rfl⟩, fun h => absurd rfl h, hBZ2⟩
set_option maxRecDepth 20000 in
set_option maxHeartbeats 2000000 in
theorem refToldDone_any (x : ByteArray) (hx : x.size ≤ maxLen) (ky nm : ByteArray) (ta : Option Addr) (tn tc : Nat) (is : Int) (sa : Option Addr) (n sc : Nat) (tv : List TaskV) (ss : List StP) (now k : Int) (w : World) (hnow : now ≤ 9223372036854775807) (hT : IsT w ta tc tv) (htn : tn = tv.length) (hZ : IsZ w sa sc ss) (hn : n = ss.length) (hOk : RunOk ky nm (plainT tv) ss is) (ix : Nat) (hE : heldAt (settleS (plainT tv) (untF now []) (ss, is)).1 k = some ix) :
  Calls Try.prog 26 #[.agg #[.string ky, .string nm, .slice ta tn tc, .int .i64 is, .slice sa n sc], .int .i64 1, .int .i64 now, .int .i64 k, .string x] w fun e w' => ToldU w (ansE (plainT tv) (fun _ s => doneE s x) (settleS (plainT tv) (untF now []) (ss, is)).1 k) ky nm (ansZ (plainT tv) (fun _ s => doneT s x) (settleS (plainT tv) (untF now []) (ss, is)).1 (settleS (plainT tv) (untF now []) (ss, is)).2 k).2 (plainT tv) (ansZ (plainT tv) (fun _ s => doneT s x) (settleS (plainT tv) (untF now []) (ss, is)).1 (settleS (plainT tv) (untF now []) (ss, is)).2 k).1 e w' := by
 by_cases h16 : x.size ≤ 16
 ·
  obtain ⟨W0, hW0⟩ : ∃ W0, W0 = (w.alloc (.cells #[.string ky, .string nm, .slice ta tn tc, .int .i64 is, .slice sa n sc] 27)).alloc (.cells #[.string ⟨#[]⟩, .string ⟨#[]⟩, .slice none 0 0, .int .i64 0, .slice none 0 0] 27) := ⟨_, rfl⟩
  have hB0 : Below w.heap.size w W0 := by rw [hW0]; exact bel2 w _ _
  have BX : BoxL W0 w.heap.size [.string ky, .string nm, .slice ta tn tc, .int .i64 is, .slice sa n sc] := by rw [hW0]; exact (boxL_new w [.string ky, .string nm, .slice ta tn tc, .int .i64 is, .slice sa n sc] _ rfl).alloc _
  have BY : BoxL W0 (w.heap.size + 1) [.string ⟨#[]⟩, .string ⟨#[]⟩, .slice none 0 0, .int .i64 0, .slice none 0 0] := by rw [hW0]; exact boxL_new _ [.string ⟨#[]⟩, .string ⟨#[]⟩, .slice none 0 0, .int .i64 0, .slice none 0 0] _ (by simp)
  have hs0 : W0.heap.size = w.heap.size + 2 := by rw [hW0]; simp
  have hnt : n = tn := by rw [hn, hOk.st.len, plainT_length, htn]
  obtain ⟨h10, h0, hin⟩ := inside_of htn hOk.dag
  have hSA : ∀ y, sa = some y → y.block < w.heap.size := fun y hy => hZ.lies (by omega) y hy
  have cS := refSettleF_any ky nm ta tn tc is sa n sc tv ss now W0 (hT.below hB0) htn (hZ.below hB0) hn hnow hOk
  have hR9 := settle_right (tries_one hOk.dag) (u := untF now []) (x := (ss, is)) hOk.st
  generalize settleS (plainT tv) (untF now []) (ss, is) = SS at *
  obtain ⟨zs, zi⟩ := SS
  dsimp only at cS hR9 hE ⊢
  have HR : Hid (RightS (plainT tv) zs zi) := hR9
  have HE : Hid _ := hE
  have HIN : Hid (∀ (i : Nat) t, tv[i]? = some t → ∀ x ∈ t.ns, 0 ≤ x ∧ x < tn) := hin
  have HTN : Hid (tn = tv.length ∧ n = tn ∧ tn ≤ 10 ∧ 0 < tn) := ⟨htn, hnt, h10, h0⟩
  have HT : Hid (IsT w ta tc tv) := hT
  have HSA : Hid (∀ y, sa = some y → y.block < w.heap.size) := hSA
  clear hT htn hZ hn hOk hR9 hE hnt h10 h0 hin hSA
  have f0 := BX.1 0 _ rfl; have f1 := BX.1 1 _ rfl; have f2 := BX.1 2 _ rfl; have f3 := BX.1 3 _ rfl; have f4 := BX.1 4 _ rfl
  go_enter Try.func26, Try.ntmps26
  refine wp_seq_k (fun K hK => ?_); have HK : Shut _ := hK; clear hK
  go_wp2
  refine HK.out _ _ ?_; clear HK K
  rw [← hW0]
  clear hW0
  obtain ⟨z0, hz0⟩ : ∃ z, z = w.heap.size := ⟨_, rfl⟩
  obtain ⟨z1, hz1⟩ : ∃ z, z = z0 + 1 := ⟨_, rfl⟩
  rw [← hz0] at BX BY
  rw [← hz0, ← hz1]
  rw [← hz1] at BY
  rw [← hz0] at f0 f1 f2 f3 f4
  have HZZ : Hid (z0 = w.heap.size ∧ z1 = z0 + 1 ∧ W0.heap.size = w.heap.size + 2) := ⟨hz0, hz1, hs0⟩
  clear hz0 hz1 hs0
  refine wp_seq_k (fun K hK => ?_); have HK : Shut _ := hK; clear hK
  go_wp2_with (go_at_call 18; refine cS.mono ?_; rintro e w1 ⟨a, c, rfl, hIZ, hnz, hfa, hb⟩; have BX1 := BX.below hb; have BY1 := BY.below hb; have hB1 := Below.tr hB0 hb; have HNZ : Hid (n = zs.length ∧ ∀ y, a = some y → y.block ≠ z0 ∧ y.block ≠ z1) := ⟨hnz, fun y hy => by have := HZZ.out; rcases hfa with e | e; (have := HSA.out y (by rw [← e]; exact hy); omega); (have := e y hy; omega)⟩; clear hnz hfa; have v0 := BX1.1 0 _ rfl; have v1 := BX1.1 1 _ rfl; have v2 := BX1.1 2 _ rfl; have v3 := BX1.1 3 _ rfl; have v4 := BX1.1 4 _ rfl; have d0 := BX1.2 0 (by simp); have d1 := BX1.2 1 (by simp); have d2 := BX1.2 2 (by simp); have d3 := BX1.2 3 (by simp); have d4 := BX1.2 4 (by simp))
  refine HK.out _ _ ?_; clear HK K
  obtain ⟨Z, hZ9⟩ : ∃ Z, Z = (((((w1.setCell ⟨z0, 0, none⟩ (.string ky)).setCell ⟨z0, 1, none⟩ (.string nm)).setCell ⟨z0, 2, none⟩ (.slice ta tn tc)).setCell ⟨z0, 3, none⟩ (.int .i64 zi)).setCell ⟨z0, 4, none⟩ (.slice a n c)) := ⟨_, rfl⟩
  have TZ : Turns (fun k => k = z0) w1 Z := by rw [hZ9]; exact turns_set5 _ _ _ _ _ _ _
  have BZ : BoxL Z z0 [.string ky, .string nm, .slice ta tn tc, .int .i64 zi, .slice a n c] := by rw [hZ9]; exact boxL_set5 BX1 _ _ _ _ _
  have BYZ := boxL_turns BY1 TZ (by have := HZZ.out; omega)
  have hBZ := Below.turns hB1 TZ (fun k hk => by have := HZZ.out; omega)
  have IZ := hIZ.turns TZ (fun y hy hk => (HNZ.out.2 y hy).1 hk)
  rw [← hZ9]
  clear f0 f1 f2 f3 f4 v0 v1 v2 v3 v4 d0 d1 d2 d3 d4 hZ9 hIZ
  have cH := refHeld_any ky nm ta tn tc zi a n c zs k Z IZ HNZ.out.1
  rw [HE.out] at cH
  have p0 := BZ.1 0 _ rfl; have p1 := BZ.1 1 _ rfl; have p2 := BZ.1 2 _ rfl; have p3 := BZ.1 3 _ rfl; have p4 := BZ.1 4 _ rfl
  refine wp_seq_k (fun K hK => ?_); have HK : Shut _ := hK; clear hK
  go_wp2_with (go_at_call 63; refine cH.mono ?_; rintro e w2 ⟨rfl, hbT⟩)
  refine HK.out _ _ ?_; clear HK K
  clear p0 p1 p2 p3 p4 cH cS
  replace BZ := BZ.below hbT
  replace BYZ := BYZ.below hbT
  replace IZ := IZ.below hbT
  replace hBZ := Below.tr hBZ hbT
  clear hbT
  have hge : ¬ ((ix : Int) < 0) := by omega
  have BXX := BZ
  have x0 := BZ.1 0 _ rfl; have x1 := BZ.1 1 _ rfl; have x2 := BZ.1 2 _ rfl; have x3 := BZ.1 3 _ rfl; have x4 := BZ.1 4 _ rfl
  have hpl : placeI (some ix) = ix := rfl
  rw [hpl]
  refine wp_seq_k (fun K hK => ?_); have HK : Shut _ := hK; clear hK
  go_wp2
  refine HK.out _ _ ?_; clear HK K
  obtain ⟨s, hs, h2, hsk⟩ := held_some HE.out
  have hil : ix < zs.length := (List.getElem?_eq_some_iff.1 hs).1
  have hinn : ix < n := by rw [HNZ.out.1]; exact hil
  have hint : ix < tn := by rw [← HTN.out.2.1]; exact hinn
  obtain ⟨t, htt⟩ : ∃ tt, tv[ix]? = some tt := ⟨_, List.getElem?_eq_getElem (by rw [← HTN.out.1]; exact hint)⟩
  have htp := plainT_get htt
  have hst := ((standT_iff s).1 (right_parts (HR.out.each ix s t.p hs htp).right).1).2.1
  have hi1 : (ix : Int) < n := by omega
  have hi2 : (ix : Int) < tn := by omega
  obtain ⟨b, o, rfl, -⟩ := IZ.some (by have := HNZ.out.1; omega)
  obtain ⟨p0, p1, p2, p3, p4⟩ := IZ.at hs
  have hbb : b < w2.heap.size := by have := IZ.lies (by omega) ⟨b, o, none⟩ rfl; exact this
  have hb0 : b ≠ z0 ∧ b ≠ z1 := HNZ.out.2 _ rfl
  have hns : n ≤ c ∧ c ≤ 9223372036854775807 := by have a1 := IZ.1; have a2 := IZ.2.1; rw [← HNZ.out.1] at a1; exact ⟨a1, a2⟩
  obtain ⟨hns1, hns2⟩ := hns
  have htc : tn ≤ tc ∧ tc ≤ 9223372036854775807 := by have a1 := HT.out.1; have a2 := HT.out.2.1; rw [← HTN.out.1] at a1; exact ⟨a1, a2⟩
  obtain ⟨htc1, htc2⟩ := htc
  obtain ⟨tb, to, rfl, htbl⟩ := HT.out.some (by have := HTN.out; omega)
  have HTB : Hid (tb < w.heap.size) := htbl
  clear htbl
  have hsr := IZ.text hs
  have HSO : Hid (zs[ix]? = some s ∧ s.i = 2) := ⟨hs, h2⟩
  have HTS : Hid (tv[ix]? = some t) := htt
  obtain ⟨si, st, sd, sk, sr⟩ := s
  dsimp only at *
  clear hs h2 hsk htp
  obtain ⟨Y, hY⟩ : ∃ Y, Y = w2.alloc (.cells #[.int .i64 si, .int .i64 st, .int .i64 sd, .int .i64 sk, .string sr] 52) := ⟨_, rfl⟩
  have hBY0 : Below w2.heap.size w2 Y := by rw [hY]; exact (Below.refl _ _).alloc (Nat.le_refl _) _
  obtain ⟨z2, hz2⟩ : ∃ z, z = w2.heap.size := ⟨_, rfl⟩
  have bS : BoxL Y z2 [.int .i64 si, .int .i64 st, .int .i64 sd, .int .i64 sk, .string sr] := by rw [hY]; exact boxL_new w2 _ _ hz2
  refine wp_seq_k (fun K hK => ?_); have HK : Shut _ := hK; clear hK
  go_wp2
  rw [← hY, ← hz2]
  refine HK.out _ _ ?_; clear HK K
  clear hY p0 p1 p2 p3 p4 x0 x1 x2 x3 x4
  have HZ2 : Hid (z2 = w2.heap.size) := hz2
  rw [← hz2] at hbb
  have BXY := BZ.below hBY0
  have BYY := BYZ.below hBY0
  have IY := IZ.below hBY0
  have hBw := Below.tr hBZ hBY0
  have hzz : z0 < z2 ∧ z1 < z2 := by have h1 := BZ.lt (by simp); have h3 := BYZ.lt (by simp); omega
  have hsy : z2 < Y.heap.size := bS.lt (by simp)
  clear BZ BYZ IZ hBZ hz2 BXX TZ BX1 BY1 BX BY hb hB1 hB0
  have hEd : doneE ⟨si, st, sd, sk, sr⟩ x = 0 := by unfold doneE; rw [if_pos HSO.out.2, if_pos h16]
  obtain ⟨XB, hXB⟩ : ∃ XB, XB = beatT t.le ⟨si, st, sd, sk, sr⟩ now := ⟨_, rfl⟩
  have cB := fun W => refBeatT_any t.a t.ns.length t.c t.tr t.wt t.le si st sd sk sr now W hnow
  rw [← hXB] at cB
  have hBe : heldE ⟨si, st, sd, sk, sr⟩ = 0 := if_pos HSO.out.2
  rw [hBe] at cB
  have HXB : Hid (XB = beatT t.le ⟨si, st, sd, sk, sr⟩ now ∧ XB.r.size ≤ maxLen) := ⟨hXB, by rw [hXB]; exact beat_text hsr⟩
  clear hXB hBe
  obtain ⟨bi, bt, bd, bk, br⟩ := XB
  dsimp only [vT] at cB
  obtain ⟨y0, y1, y2, y3, -⟩ := (HT.out.below hBw).at htt
  obtain ⟨tta, hta⟩ : ∃ a, a = t.a := ⟨_, rfl⟩
  obtain ⟨tl, htl⟩ : ∃ a, a = t.ns.length := ⟨_, rfl⟩
  obtain ⟨tcc, htcc⟩ : ∃ a, a = t.c := ⟨_, rfl⟩
  obtain ⟨ttr, httr⟩ : ∃ a, a = t.tr := ⟨_, rfl⟩
  obtain ⟨twt, htwt⟩ : ∃ a, a = t.wt := ⟨_, rfl⟩
  obtain ⟨tle, htle⟩ : ∃ a, a = t.le := ⟨_, rfl⟩
  rw [← hta, ← htl, ← htcc] at y0
  rw [← httr] at y1
  rw [← htwt] at y2
  rw [← htle] at y3
  rw [← hta, ← htl, ← htcc, ← httr, ← htwt, ← htle] at cB
  have HTC : Hid (tta = t.a ∧ tl = t.ns.length ∧ tcc = t.c ∧ ttr = t.tr ∧ twt = t.wt ∧ tle = t.le) := ⟨hta, htl, htcc, httr, htwt, htle⟩
  clear hta htl htcc httr htwt htle htt
  have HC : ∀ W, Below Y.heap.size Y W → W.cell? ⟨z0, 2, none⟩ = some (.slice (some ⟨tb, to, none⟩) tn tc) ∧ (W.cell? ⟨tb, to + ix * 4, none⟩ = some (.slice tta tl tcc) ∧ W.cell? ⟨tb, to + ix * 4 + 1, none⟩ = some (.int .i64 ttr) ∧ W.cell? ⟨tb, to + ix * 4 + 2, none⟩ = some (.int .i64 twt) ∧ W.cell? ⟨tb, to + ix * 4 + 3, none⟩ = some (.int .i64 tle)) ∧ (W.cell? ⟨z2, 0, none⟩ = some (.int .i64 si) ∧ W.cell? ⟨z2, 1, none⟩ = some (.int .i64 st) ∧ W.cell? ⟨z2, 2, none⟩ = some (.int .i64 sd) ∧ W.cell? ⟨z2, 3, none⟩ = some (.int .i64 sk) ∧ W.cell? ⟨z2, 4, none⟩ = some (.string sr)) := fun W hW =>
   ⟨(BXY.below hW).1 2 _ rfl, ⟨cell_below hW y0, cell_below hW y1, cell_below hW y2, cell_below hW y3⟩, ⟨(bS.below hW).1 0 _ rfl, (bS.below hW).1 1 _ rfl, (bS.below hW).1 2 _ rfl, (bS.below hW).1 3 _ rfl, (bS.below hW).1 4 _ rfl⟩⟩
  clear y0 y1 y2 y3
  obtain ⟨V0, hV0⟩ : ∃ V0, V0 = Y.drew := ⟨_, rfl⟩
  have hbV : Below Y.heap.size Y V0 := by rw [hV0]; exact (Below.refl _ _).drew
  have hsV : Y.heap.size ≤ V0.heap.size := hbV.size
  refine hideQ (fun Q9 hQ9 => ?_); have HQ9 : Shut _ := hQ9; clear hQ9
  refine wp_seq_k (fun K hK => ?_); have HK : Shut _ := hK; clear hK
  refine wp_region_noPanic ?_
  refine wp_region_held_drew (S := fun W => W.cell? ⟨z0, 2, none⟩ = some (.slice (some ⟨tb, to, none⟩) tn tc) ∧ (W.cell? ⟨tb, to + ix * 4, none⟩ = some (.slice tta tl tcc) ∧ W.cell? ⟨tb, to + ix * 4 + 1, none⟩ = some (.int .i64 ttr) ∧ W.cell? ⟨tb, to + ix * 4 + 2, none⟩ = some (.int .i64 twt) ∧ W.cell? ⟨tb, to + ix * 4 + 3, none⟩ = some (.int .i64 tle)) ∧ (W.cell? ⟨z2, 0, none⟩ = some (.int .i64 si) ∧ W.cell? ⟨z2, 1, none⟩ = some (.int .i64 st) ∧ W.cell? ⟨z2, 2, none⟩ = some (.int .i64 sd) ∧ W.cell? ⟨z2, 3, none⟩ = some (.int .i64 sk) ∧ W.cell? ⟨z2, 4, none⟩ = some (.string sr))) (by kernel_rfl) (by rw [← hV0]; exact HC _ hbV) (fun hHeld => ?_)
  rw [← hV0] at hHeld ⊢
  clear hV0
  refine take_at (i := 0) (v := ?_) rfl (by kernel_rfl) (by kernel_rfl) (by kernel_rfl) (fun _ _ _ h => h) (Or.inl ⟨by rfl, ?_⟩) (by assumption) ?_
  rotate_left 1
  ·
   (intro w hSw; (try dsimp only at hSw); go_simp; (try with_reducible rfl))
  try go_frame
  refine take_at (i := 1) (v := ?_) rfl (by kernel_rfl) (by kernel_rfl) (by kernel_rfl) (fun _ _ _ h => h) (Or.inl ⟨by rfl, ?_⟩) (by assumption) ?_
  rotate_left 1
  ·
   (intro w hSw; (try dsimp only at hSw); go_simp; (try with_reducible rfl))
  try go_frame
  refine take_at (i := 2) (v := ?_) rfl (by kernel_rfl) (by kernel_rfl) (by kernel_rfl) (fun _ _ _ h => h) (Or.inl ⟨by rfl, ?_⟩) (by assumption) ?_
  rotate_left 1
  ·
   (intro w hSw; (try dsimp only at hSw); go_simp; (try with_reducible rfl))
  try go_frame
  refine take_at (i := 3) (v := ?_) rfl (by kernel_rfl) (by kernel_rfl) (by kernel_rfl) (fun _ _ _ h => h) (Or.inl ⟨by rfl, ?_⟩) (by assumption) ?_
  rotate_left 1
  ·
   (intro w hSw; (try dsimp only at hSw); go_simp; (try with_reducible rfl))
  try go_frame
  refine take_at (i := 4) (v := ?_) rfl (by kernel_rfl) (by kernel_rfl) (by kernel_rfl) (fun _ _ _ h => h) (Or.inl ⟨by rfl, ?_⟩) (by assumption) ?_
  rotate_left 1
  ·
   (intro w hSw; (try dsimp only at hSw); go_simp; (try with_reducible rfl))
  try go_frame
  refine take_at (i := 5) (v := ?_) rfl (by kernel_rfl) (by kernel_rfl) (by kernel_rfl) (fun _ _ _ h => h) (Or.inl ⟨by rfl, ?_⟩) (by assumption) ?_
  rotate_left 1
  ·
   (intro w hSw; (try dsimp only at hSw); go_simp; (try with_reducible rfl))
  try go_frame
  refine take_at (i := 6) (v := ?_) rfl (by kernel_rfl) (by kernel_rfl) (by kernel_rfl) (fun _ _ _ h => h) (Or.inl ⟨by rfl, ?_⟩) (by assumption) ?_
  rotate_left 1
  ·
   (intro w hSw; (try dsimp only at hSw); go_simp; (try with_reducible rfl))
  try go_frame
  refine take_at (i := 7) (v := ?_) rfl (by kernel_rfl) (by kernel_rfl) (by kernel_rfl) (fun _ _ _ h => h) (Or.inl ⟨by rfl, ?_⟩) (by assumption) ?_
  rotate_left 1
  ·
   (intro w hSw; (try dsimp only at hSw); go_simp; (try with_reducible rfl))
  try go_frame
  refine wpAnyH_ready (rs := [8, 12]) (by kernel_rfl) (by simp) ?_
  refine cons_at (i := 8) rfl (fun K9 hK => ?_) (cons_at (i := 12) rfl (fun K9 hK => ?_) AllReadyH.nil)
  ·
   go_simp
   (go_at_call 64; refine (cB _).mono ?_; rintro e w4 ⟨rfl, hb4⟩)
   have hB4 := Below.tr hbV hb4
   refine hK.out _ _ (HC _ hB4) (fun hHeld => ?_)
   clear hK K9
   refine take_at (i := 9) (v := ?_) rfl (by kernel_rfl) (by kernel_rfl) (by kernel_rfl) (fun _ _ _ h => h) (Or.inl ⟨by rfl, ?_⟩) (by assumption) ?_
   rotate_left 1
   ·
    (intro w hSw; (try dsimp only at hSw); go_simp; (try with_reducible rfl))
   try go_frame
   refine take_at (i := 10) (v := ?_) rfl (by kernel_rfl) (by kernel_rfl) (by kernel_rfl) (fun _ _ _ h => h) (Or.inl ⟨by rfl, ?_⟩) (by assumption) ?_
   rotate_left 1
   ·
    (intro w hSw; (try dsimp only at hSw); go_simp; (try with_reducible rfl))
   try go_frame
   refine take_at (i := 11) (v := ?_) rfl (by kernel_rfl) (by kernel_rfl) (by kernel_rfl) (fun _ _ _ h => h) (Or.inl ⟨by rfl, ?_⟩) (by assumption) ?_
   rotate_left 1
   ·
    (intro w hSw; (try dsimp only at hSw); go_simp; (try with_reducible rfl))
   try go_frame
   refine wpAnyH_ready (rs := [12]) (by kernel_rfl) (by simp) ?_
   refine cons_at (i := 12) rfl (fun K hK => ?_) AllReadyH.nil
   go_simp
   obtain ⟨A, hA⟩ : ∃ A, A = w4.alloc (.cells #[.int .i64 0, .int .i64 0, .int .i64 0, .int .i64 0, .string ⟨#[]⟩] 52) := ⟨_, rfl⟩
   have hBA : Below Y.heap.size Y A := by rw [hA]; exact hB4.alloc hB4.size _
   have bA : BoxL A w4.heap.size [.int .i64 0, .int .i64 0, .int .i64 0, .int .i64 0, .string ⟨#[]⟩] := by rw [hA]; exact boxL_new w4 [.int .i64 0, .int .i64 0, .int .i64 0, .int .i64 0, .string ⟨#[]⟩] _ rfl
   rw [← hA]
   refine hK.out _ _ (HC _ hBA) (fun hHeld => ?_)
   clear hK K hA
   have hzV : Y.heap.size ≤ w4.heap.size := hB4.size
   obtain ⟨Y2, hY⟩ : ∃ Y2, Y2 = (((((A.setCell ⟨w4.heap.size, 0, none⟩ (.int .i64 bi)).setCell ⟨w4.heap.size, 1, none⟩ (.int .i64 bt)).setCell ⟨w4.heap.size, 2, none⟩ (.int .i64 bd)).setCell ⟨w4.heap.size, 3, none⟩ (.int .i64 bk)).setCell ⟨w4.heap.size, 4, none⟩ (.string br)) := ⟨_, rfl⟩
   have bY : BoxL Y2 w4.heap.size [.int .i64 bi, .int .i64 bt, .int .i64 bd, .int .i64 bk, .string br] := by rw [hY]; exact boxL_set5 bA _ _ _ _ _
   have hBY : Below Y.heap.size Y Y2 := by rw [hY]; exact below_setT hBA (by omega) _ _ _ _ _
   have u0 := bA.1 0 _ rfl; have u1 := bA.1 1 _ rfl; have u2 := bA.1 2 _ rfl; have u3 := bA.1 3 _ rfl; have u4 := bA.1 4 _ rfl
   have v0 := bA.2 0 (by simp); have v1 := bA.2 1 (by simp); have v2 := bA.2 2 (by simp); have v3 := bA.2 3 (by simp); have v4 := bA.2 4 (by simp)
   refine wpAnyH_ready (rs := [13]) (by kernel_rfl) (by simp) ?_
   refine cons_at (i := 13) rfl (fun K hK => ?_) AllReadyH.nil
   go_simp
   rw [← hY]
   refine hK.out _ _ (HC _ hBY) (fun hHeld => ?_)
   clear hK K hY
   refine take_at (i := 14) (v := ?_) rfl (by kernel_rfl) (by kernel_rfl) (by kernel_rfl) (fun _ _ _ h => h) (Or.inl ⟨by rfl, ?_⟩) (by assumption) ?_
   rotate_left 1
   ·
    (intro w hSw; (try dsimp only at hSw); go_simp; (try with_reducible rfl))
   try go_frame
   refine wpAnyH_done (by kernel_rfl) ?_ _
   refine NoPanic.normal ?_
   refine HK.out _ _ ?_
   clear HK K hHeld u0 u1 u2 u3 u4 v0 v1 v2 v3 v4 bA hBA
   generalize w4.heap.size = zz at *
   clear hB4 hb4
   have BX3 := BXY.below hBY
   have BY3 := BYY.below hBY
   have IY3 := IY.below hBY
   have hB3 := Below.tr hBw hBY
   have HC2 : Hid (∀ W, Below Y2.heap.size Y2 W → _) := fun W hW => HC W (Below.tr hBY hW)
   have bS2 := bS.below hBY
   have hzz2 : z2 < zz := by omega
   clear BXY BYY IY hBY hBw HC cB hbV hsV
   obtain ⟨X, hX⟩ : ∃ X, X = doneT ⟨si, st, sd, sk, sr⟩ x := ⟨_, rfl⟩
   have hXt : X.r.size ≤ maxLen := by rw [hX]; exact done_text hx
   have cD := fun W => refDoneT_any si st sd sk sr x W hx
   rw [← hX, hEd] at cD
   have HL : Hid (ansE (plainT tv) (fun _ s => doneE s x) zs k = 0 ∧ ansZ (plainT tv) (fun _ s => doneT s x) zs zi k = mendS (plainT tv) (zs.set ix X) zi) := by
    have e1 := plainT_get HTS.out
    constructor
    ·
     unfold ansE; rw [HE.out]; simp only; rw [HSO.out.1, e1]; exact hEd
    ·
     unfold ansZ; rw [HE.out]; simp only; rw [HSO.out.1, e1, hX]
   obtain ⟨qs, hqs⟩ : ∃ qs, qs = zs.set ix X := ⟨_, rfl⟩
   rw [← hqs] at HL
   clear hX
   obtain ⟨ci, ct, cd, ck, cr⟩ := X
   dsimp only [vT] at cD hXt
   have b0 := bS2.1 0 _ rfl; have b1 := bS2.1 1 _ rfl; have b2 := bS2.1 2 _ rfl; have b3 := bS2.1 3 _ rfl; have b4 := bS2.1 4 _ rfl
   refine wp_seq_k (fun K hK => ?_); have HK : Shut _ := hK; clear hK
   go_wp2_with (go_at_call 65; refine (cD _).mono ?_; rintro e w5 ⟨rfl, hb5⟩; have bY5 := bY.below hb5; clear b0 b1 b2 b3 b4; have y0 := bY5.1 0 _ rfl; have y1 := bY5.1 1 _ rfl; have y2 := bY5.1 2 _ rfl; have y3 := bY5.1 3 _ rfl; have y4 := bY5.1 4 _ rfl; have d0 := bY5.2 0 (by simp); have d1 := bY5.2 1 (by simp); have d2 := bY5.2 2 (by simp); have d3 := bY5.2 3 (by simp); have d4 := bY5.2 4 (by simp))
   refine HK.out _ _ ?_; clear HK K
   obtain ⟨Y3, hY3⟩ : ∃ Y3, Y3 = (((((w5.setCell ⟨zz, 0, none⟩ (.int .i64 ci)).setCell ⟨zz, 1, none⟩ (.int .i64 ct)).setCell ⟨zz, 2, none⟩ (.int .i64 cd)).setCell ⟨zz, 3, none⟩ (.int .i64 ck)).setCell ⟨zz, 4, none⟩ (.string cr)) := ⟨_, rfl⟩
   have T3 : Turns (fun k => k = zz) w5 Y3 := by rw [hY3]; exact turns_set5 _ _ _ _ _ _ _
   have bX : BoxL Y3 zz [.int .i64 ci, .int .i64 ct, .int .i64 cd, .int .i64 ck, .string cr] := by rw [hY3]; exact boxL_set5 bY5 _ _ _ _ _
   replace BX3 := boxL_turns (BX3.below hb5) T3 (by omega)
   replace BY3 := boxL_turns (BY3.below hb5) T3 (by omega)
   replace IY3 := (IY3.below hb5).turns T3 (fun y hy hk => by cases hy; have hk' : b = zz := hk; omega)
   replace hB3 := Below.turns (Below.tr hB3 hb5) T3 (fun k hk => by have := HZZ.out; omega)
   rw [← hY3]
   clear hY3 y0 y1 y2 y3 y4 d0 d1 d2 d3 d4 bY bY5 T3 hb5 bS2 cD
   refine wp_seq_k (fun K hK => ?_); have HK : Shut _ := hK; clear hK
   go_wp2
   refine HK.out _ _ ?_; clear HK K
   refine wp_seq_k (fun K hK => ?_); have HK : Shut _ := hK; clear hK
   go_wp2
   refine HK.out _ _ ?_; clear HK K
   have cW := refWith_any ky nm (some ⟨tb, to, none⟩) tn tc zi (some ⟨b, o, none⟩) n c zs ix ci ct cd ck cr Y3 IY3 HNZ.out.1 (by have := HTN.out; omega) hXt
   rw [setI_nat, ← hqs] at cW
   have cM : ∀ V a1 c1, Below Y3.heap.size Y3 V → IsZ V a1 c1 qs → Calls Try.prog 36 #[.agg #[.string ky, .string nm, .slice (some ⟨tb, to, none⟩) tn tc, .int .i64 zi, .slice a1 n c1]] V fun e w' => ∃ v, e = .returned v ∧ MadeC V ky nm (some ⟨tb, to, none⟩) tn tc (mendS (plainT tv) qs zi).2 a1 n (mendS (plainT tv) qs zi).1 v w' := fun V a1 c1 hV hz => refMend_any ky nm (some ⟨tb, to, none⟩) tn tc zi a1 n c1 tv qs V (HT.out.below (Below.tr hB3 hV)) HTN.out.1 hz (by rw [hqs, List.length_set]; exact HNZ.out.1) HTN.out.2.1 (by have := HTN.out; omega) (fun i t h x hx => by rw [HTN.out.2.1]; exact HIN.out i t h x hx)
   obtain ⟨ms, hms⟩ : ∃ ms, ms = (mendS (plainT tv) qs zi).1 := ⟨_, rfl⟩
   obtain ⟨mi, hmi⟩ : ∃ mi, mi = (mendS (plainT tv) qs zi).2 := ⟨_, rfl⟩
   rw [← hms, ← hmi] at cM
   have HM : Hid (mendS (plainT tv) qs zi = (ms, mi)) := by show _ = _; rw [hms, hmi]
   clear hms hmi hqs IY3
   have x0 := BX3.1 0 _ rfl; have x1 := BX3.1 1 _ rfl; have x2 := BX3.1 2 _ rfl; have x3 := BX3.1 3 _ rfl; have x4 := BX3.1 4 _ rfl
   have b0 := bX.1 0 _ rfl; have b1 := bX.1 1 _ rfl; have b2 := bX.1 2 _ rfl; have b3 := bX.1 3 _ rfl; have b4 := bX.1 4 _ rfl
   refine wp_seq_k (fun K hK => ?_); have HK : Shut _ := hK; clear hK
   go_wp2_with (first
    | (go_at_call 47; refine cW.mono ?_; rintro e w5 ⟨a1, c1, rfl, hz1, hf1, hb5⟩; clear x0 x1 x2 x3 x4 b0 b1 b2 b3 b4)
    | (go_at_call 36; go_loud (refine (cM _ _ _ hb5 hz1).mono ?_; rintro e w6 ⟨v, rfl, a2, c2, rfl, hz2, hn2, hf2, hb6⟩; have BY6 := (BY3.below hb5).below hb6; have hB6 := Below.tr (Below.tr hB3 hb5) hb6; have HZ6 : Hid (IsZ w6 a2 c2 ms ∧ n = ms.length ∧ ∀ y, a2 = some y → y.block ≠ z1) := ⟨hz2, hn2, fun y hy => by have h5 := hb5.size; have h7 := BY3.lt (by simp); rcases hf2 with e | e; (have := hf1 y (by rw [← e]; exact hy); omega); (have := e y hy; omega)⟩; clear hz1 hz2 hn2 hf1 hf2 hb5 hb6 cW cM; have y0 := BY6.1 0 _ rfl; have y1 := BY6.1 1 _ rfl; have y2 := BY6.1 2 _ rfl; have y3 := BY6.1 3 _ rfl; have y4 := BY6.1 4 _ rfl; have d0 := BY6.2 0 (by simp); have d1 := BY6.2 1 (by simp); have d2 := BY6.2 2 (by simp); have d3 := BY6.2 3 (by simp); have d4 := BY6.2 4 (by simp))))
   refine HK.out _ _ ?_; clear HK K
   obtain ⟨Z2, hZ2⟩ : ∃ Z2, Z2 = (((((w6.setCell ⟨z1, 0, none⟩ (.string ky)).setCell ⟨z1, 1, none⟩ (.string nm)).setCell ⟨z1, 2, none⟩ (.slice (some ⟨tb, to, none⟩) tn tc)).setCell ⟨z1, 3, none⟩ (.int .i64 mi)).setCell ⟨z1, 4, none⟩ (.slice a2 n c2)) := ⟨_, rfl⟩
   have T2 : Turns (fun k => k = z1) w6 Z2 := by rw [hZ2]; exact turns_set5 _ _ _ _ _ _ _
   have BZ2 : BoxL Z2 z1 [.string ky, .string nm, .slice (some ⟨tb, to, none⟩) tn tc, .int .i64 mi, .slice a2 n c2] := by rw [hZ2]; exact boxL_set5 BY6 _ _ _ _ _
   have hBZ2 := Below.turns hB6 T2 (fun k hk => by have := HZZ.out; omega)
   have IZ2 := HZ6.out.1.turns T2 (fun y hy hk => HZ6.out.2.2 y hy hk)
   rw [← hZ2]
   clear hZ2
   have r0 := BZ2.1 0 _ rfl; have r1 := BZ2.1 1 _ rfl; have r2 := BZ2.1 2 _ rfl; have r3 := BZ2.1 3 _ rfl; have r4 := BZ2.1 4 _ rfl
   refine wp_ret ?_
   refine HQ9.out _ _ _ ?_
   rw [HL.out.1, HL.out.2, HM.out]
   exact bodyPost_ret (v := .tuple #[.agg #[.string ky, .string nm, .slice (some ⟨tb, to, none⟩) tn tc, .int .i64 mi, .slice a2 n c2], .int .i64 0]) (by simp [results, Try.results26, go_sem, r0, r1, r2, r3, r4]) rfl ⟨ky, nm, _, _, _, _, _, _, _, tv, _, rfl, ⟨HT.out.below hBZ2, HTN.out.1, IZ2, HZ6.out.2.1⟩, fun _ => ⟨rfl, rfl, rfl, rfl, rfl⟩, fun h => absurd rfl h, hBZ2⟩
  ·
   go_simp
   obtain ⟨A, hA⟩ : ∃ A, A = V0.alloc (.cells #[.int .i64 0, .int .i64 0, .int .i64 0, .int .i64 0, .string ⟨#[]⟩] 52) := ⟨_, rfl⟩
   have hBA : Below Y.heap.size Y A := by rw [hA]; exact hbV.alloc hsV _
   have bA : BoxL A V0.heap.size [.int .i64 0, .int .i64 0, .int .i64 0, .int .i64 0, .string ⟨#[]⟩] := by rw [hA]; exact boxL_new V0 [.int .i64 0, .int .i64 0, .int .i64 0, .int .i64 0, .string ⟨#[]⟩] _ rfl
   rw [← hA]
   refine hK.out _ _ (HC _ hBA) (fun hHeld => ?_)
   clear hK K9 hA
   refine wpAnyH_ready (rs := [8]) (by kernel_rfl) (by simp) ?_
   refine cons_at (i := 8) rfl (fun K hK => ?_) AllReadyH.nil
   go_simp
   (go_at_call 64; refine (cB _).mono ?_; rintro e w4 ⟨rfl, hb4⟩)
   replace bA := bA.below hb4
   replace hBA := Below.tr hBA hb4
   clear hb4
   refine hK.out _ _ (HC _ hBA) (fun hHeld => ?_)
   clear hK K
   refine take_at (i := 9) (v := ?_) rfl (by kernel_rfl) (by kernel_rfl) (by kernel_rfl) (fun _ _ _ h => h) (Or.inl ⟨by rfl, ?_⟩) (by assumption) ?_
   rotate_left 1
   ·
    (intro w hSw; (try dsimp only at hSw); go_simp; (try with_reducible rfl))
   try go_frame
   refine take_at (i := 10) (v := ?_) rfl (by kernel_rfl) (by kernel_rfl) (by kernel_rfl) (fun _ _ _ h => h) (Or.inl ⟨by rfl, ?_⟩) (by assumption) ?_
   rotate_left 1
   ·
    (intro w hSw; (try dsimp only at hSw); go_simp; (try with_reducible rfl))
   try go_frame
   refine take_at (i := 11) (v := ?_) rfl (by kernel_rfl) (by kernel_rfl) (by kernel_rfl) (fun _ _ _ h => h) (Or.inl ⟨by rfl, ?_⟩) (by assumption) ?_
   rotate_left 1
   ·
    (intro w hSw; (try dsimp only at hSw); go_simp; (try with_reducible rfl))
   try go_frame
   generalize w4 = A at *
   have hzV : Y.heap.size ≤ V0.heap.size := hsV
   obtain ⟨Y2, hY⟩ : ∃ Y2, Y2 = (((((A.setCell ⟨V0.heap.size, 0, none⟩ (.int .i64 bi)).setCell ⟨V0.heap.size, 1, none⟩ (.int .i64 bt)).setCell ⟨V0.heap.size, 2, none⟩ (.int .i64 bd)).setCell ⟨V0.heap.size, 3, none⟩ (.int .i64 bk)).setCell ⟨V0.heap.size, 4, none⟩ (.string br)) := ⟨_, rfl⟩
   have bY : BoxL Y2 V0.heap.size [.int .i64 bi, .int .i64 bt, .int .i64 bd, .int .i64 bk, .string br] := by rw [hY]; exact boxL_set5 bA _ _ _ _ _
   have hBY : Below Y.heap.size Y Y2 := by rw [hY]; exact below_setT hBA (by omega) _ _ _ _ _
   have u0 := bA.1 0 _ rfl; have u1 := bA.1 1 _ rfl; have u2 := bA.1 2 _ rfl; have u3 := bA.1 3 _ rfl; have u4 := bA.1 4 _ rfl
   have v0 := bA.2 0 (by simp); have v1 := bA.2 1 (by simp); have v2 := bA.2 2 (by simp); have v3 := bA.2 3 (by simp); have v4 := bA.2 4 (by simp)
   refine wpAnyH_ready (rs := [13]) (by kernel_rfl) (by simp) ?_
   refine cons_at (i := 13) rfl (fun K hK => ?_) AllReadyH.nil
   go_simp
   rw [← hY]
   refine hK.out _ _ (HC _ hBY) (fun hHeld => ?_)
   clear hK K hY
   refine take_at (i := 14) (v := ?_) rfl (by kernel_rfl) (by kernel_rfl) (by kernel_rfl) (fun _ _ _ h => h) (Or.inl ⟨by rfl, ?_⟩) (by assumption) ?_
   rotate_left 1
   ·
    (intro w hSw; (try dsimp only at hSw); go_simp; (try with_reducible rfl))
   try go_frame
   refine wpAnyH_done (by kernel_rfl) ?_ _
   refine NoPanic.normal ?_
   refine HK.out _ _ ?_
   clear HK K hHeld u0 u1 u2 u3 u4 v0 v1 v2 v3 v4 bA hBA
   generalize V0.heap.size = zz at *
   have BX3 := BXY.below hBY
   have BY3 := BYY.below hBY
   have IY3 := IY.below hBY
   have hB3 := Below.tr hBw hBY
   have HC2 : Hid (∀ W, Below Y2.heap.size Y2 W → _) := fun W hW => HC W (Below.tr hBY hW)
   have bS2 := bS.below hBY
   have hzz2 : z2 < zz := by omega
   clear BXY BYY IY hBY hBw HC cB hbV hsV
   obtain ⟨X, hX⟩ : ∃ X, X = doneT ⟨si, st, sd, sk, sr⟩ x := ⟨_, rfl⟩
   have hXt : X.r.size ≤ maxLen := by rw [hX]; exact done_text hx
   have cD := fun W => refDoneT_any si st sd sk sr x W hx
   rw [← hX, hEd] at cD
   have HL : Hid (ansE (plainT tv) (fun _ s => doneE s x) zs k = 0 ∧ ansZ (plainT tv) (fun _ s => doneT s x) zs zi k = mendS (plainT tv) (zs.set ix X) zi) := by
    have e1 := plainT_get HTS.out
    constructor
    ·
     unfold ansE; rw [HE.out]; simp only; rw [HSO.out.1, e1]; exact hEd
    ·
     unfold ansZ; rw [HE.out]; simp only; rw [HSO.out.1, e1, hX]
   obtain ⟨qs, hqs⟩ : ∃ qs, qs = zs.set ix X := ⟨_, rfl⟩
   rw [← hqs] at HL
   clear hX
   obtain ⟨ci, ct, cd, ck, cr⟩ := X
   dsimp only [vT] at cD hXt
   have b0 := bS2.1 0 _ rfl; have b1 := bS2.1 1 _ rfl; have b2 := bS2.1 2 _ rfl; have b3 := bS2.1 3 _ rfl; have b4 := bS2.1 4 _ rfl
   refine wp_seq_k (fun K hK => ?_); have HK : Shut _ := hK; clear hK
   go_wp2_with (go_at_call 65; refine (cD _).mono ?_; rintro e w5 ⟨rfl, hb5⟩; have bY5 := bY.below hb5; clear b0 b1 b2 b3 b4; have y0 := bY5.1 0 _ rfl; have y1 := bY5.1 1 _ rfl; have y2 := bY5.1 2 _ rfl; have y3 := bY5.1 3 _ rfl; have y4 := bY5.1 4 _ rfl; have d0 := bY5.2 0 (by simp); have d1 := bY5.2 1 (by simp); have d2 := bY5.2 2 (by simp); have d3 := bY5.2 3 (by simp); have d4 := bY5.2 4 (by simp))
   refine HK.out _ _ ?_; clear HK K
   obtain ⟨Y3, hY3⟩ : ∃ Y3, Y3 = (((((w5.setCell ⟨zz, 0, none⟩ (.int .i64 ci)).setCell ⟨zz, 1, none⟩ (.int .i64 ct)).setCell ⟨zz, 2, none⟩ (.int .i64 cd)).setCell ⟨zz, 3, none⟩ (.int .i64 ck)).setCell ⟨zz, 4, none⟩ (.string cr)) := ⟨_, rfl⟩
   have T3 : Turns (fun k => k = zz) w5 Y3 := by rw [hY3]; exact turns_set5 _ _ _ _ _ _ _
   have bX : BoxL Y3 zz [.int .i64 ci, .int .i64 ct, .int .i64 cd, .int .i64 ck, .string cr] := by rw [hY3]; exact boxL_set5 bY5 _ _ _ _ _
   replace BX3 := boxL_turns (BX3.below hb5) T3 (by omega)
   replace BY3 := boxL_turns (BY3.below hb5) T3 (by omega)
   replace IY3 := (IY3.below hb5).turns T3 (fun y hy hk => by cases hy; have hk' : b = zz := hk; omega)
   replace hB3 := Below.turns (Below.tr hB3 hb5) T3 (fun k hk => by have := HZZ.out; omega)
   rw [← hY3]
   clear hY3 y0 y1 y2 y3 y4 d0 d1 d2 d3 d4 bY bY5 T3 hb5 bS2 cD
   refine wp_seq_k (fun K hK => ?_); have HK : Shut _ := hK; clear hK
   go_wp2
   refine HK.out _ _ ?_; clear HK K
   refine wp_seq_k (fun K hK => ?_); have HK : Shut _ := hK; clear hK
   go_wp2
   refine HK.out _ _ ?_; clear HK K
   have cW := refWith_any ky nm (some ⟨tb, to, none⟩) tn tc zi (some ⟨b, o, none⟩) n c zs ix ci ct cd ck cr Y3 IY3 HNZ.out.1 (by have := HTN.out; omega) hXt
   rw [setI_nat, ← hqs] at cW
   have cM : ∀ V a1 c1, Below Y3.heap.size Y3 V → IsZ V a1 c1 qs → Calls Try.prog 36 #[.agg #[.string ky, .string nm, .slice (some ⟨tb, to, none⟩) tn tc, .int .i64 zi, .slice a1 n c1]] V fun e w' => ∃ v, e = .returned v ∧ MadeC V ky nm (some ⟨tb, to, none⟩) tn tc (mendS (plainT tv) qs zi).2 a1 n (mendS (plainT tv) qs zi).1 v w' := fun V a1 c1 hV hz => refMend_any ky nm (some ⟨tb, to, none⟩) tn tc zi a1 n c1 tv qs V (HT.out.below (Below.tr hB3 hV)) HTN.out.1 hz (by rw [hqs, List.length_set]; exact HNZ.out.1) HTN.out.2.1 (by have := HTN.out; omega) (fun i t h x hx => by rw [HTN.out.2.1]; exact HIN.out i t h x hx)
   obtain ⟨ms, hms⟩ : ∃ ms, ms = (mendS (plainT tv) qs zi).1 := ⟨_, rfl⟩
   obtain ⟨mi, hmi⟩ : ∃ mi, mi = (mendS (plainT tv) qs zi).2 := ⟨_, rfl⟩
   rw [← hms, ← hmi] at cM
   have HM : Hid (mendS (plainT tv) qs zi = (ms, mi)) := by show _ = _; rw [hms, hmi]
   clear hms hmi hqs IY3
   have x0 := BX3.1 0 _ rfl; have x1 := BX3.1 1 _ rfl; have x2 := BX3.1 2 _ rfl; have x3 := BX3.1 3 _ rfl; have x4 := BX3.1 4 _ rfl
   have b0 := bX.1 0 _ rfl; have b1 := bX.1 1 _ rfl; have b2 := bX.1 2 _ rfl; have b3 := bX.1 3 _ rfl; have b4 := bX.1 4 _ rfl
   refine wp_seq_k (fun K hK => ?_); have HK : Shut _ := hK; clear hK
   go_wp2_with (first
    | (go_at_call 47; refine cW.mono ?_; rintro e w5 ⟨a1, c1, rfl, hz1, hf1, hb5⟩; clear x0 x1 x2 x3 x4 b0 b1 b2 b3 b4)
    | (go_at_call 36; go_loud (refine (cM _ _ _ hb5 hz1).mono ?_; rintro e w6 ⟨v, rfl, a2, c2, rfl, hz2, hn2, hf2, hb6⟩; have BY6 := (BY3.below hb5).below hb6; have hB6 := Below.tr (Below.tr hB3 hb5) hb6; have HZ6 : Hid (IsZ w6 a2 c2 ms ∧ n = ms.length ∧ ∀ y, a2 = some y → y.block ≠ z1) := ⟨hz2, hn2, fun y hy => by have h5 := hb5.size; have h7 := BY3.lt (by simp); rcases hf2 with e | e; (have := hf1 y (by rw [← e]; exact hy); omega); (have := e y hy; omega)⟩; clear hz1 hz2 hn2 hf1 hf2 hb5 hb6 cW cM; have y0 := BY6.1 0 _ rfl; have y1 := BY6.1 1 _ rfl; have y2 := BY6.1 2 _ rfl; have y3 := BY6.1 3 _ rfl; have y4 := BY6.1 4 _ rfl; have d0 := BY6.2 0 (by simp); have d1 := BY6.2 1 (by simp); have d2 := BY6.2 2 (by simp); have d3 := BY6.2 3 (by simp); have d4 := BY6.2 4 (by simp))))
   refine HK.out _ _ ?_; clear HK K
   obtain ⟨Z2, hZ2⟩ : ∃ Z2, Z2 = (((((w6.setCell ⟨z1, 0, none⟩ (.string ky)).setCell ⟨z1, 1, none⟩ (.string nm)).setCell ⟨z1, 2, none⟩ (.slice (some ⟨tb, to, none⟩) tn tc)).setCell ⟨z1, 3, none⟩ (.int .i64 mi)).setCell ⟨z1, 4, none⟩ (.slice a2 n c2)) := ⟨_, rfl⟩
   have T2 : Turns (fun k => k = z1) w6 Z2 := by rw [hZ2]; exact turns_set5 _ _ _ _ _ _ _
   have BZ2 : BoxL Z2 z1 [.string ky, .string nm, .slice (some ⟨tb, to, none⟩) tn tc, .int .i64 mi, .slice a2 n c2] := by rw [hZ2]; exact boxL_set5 BY6 _ _ _ _ _
   have hBZ2 := Below.turns hB6 T2 (fun k hk => by have := HZZ.out; omega)
   have IZ2 := HZ6.out.1.turns T2 (fun y hy hk => HZ6.out.2.2 y hy hk)
   rw [← hZ2]
   clear hZ2
   have r0 := BZ2.1 0 _ rfl; have r1 := BZ2.1 1 _ rfl; have r2 := BZ2.1 2 _ rfl; have r3 := BZ2.1 3 _ rfl; have r4 := BZ2.1 4 _ rfl
   refine wp_ret ?_
   refine HQ9.out _ _ _ ?_
   rw [HL.out.1, HL.out.2, HM.out]
   exact bodyPost_ret (v := .tuple #[.agg #[.string ky, .string nm, .slice (some ⟨tb, to, none⟩) tn tc, .int .i64 mi, .slice a2 n c2], .int .i64 0]) (by simp [results, Try.results26, go_sem, r0, r1, r2, r3, r4]) rfl ⟨ky, nm, _, _, _, _, _, _, _, tv, _, rfl, ⟨HT.out.below hBZ2, HTN.out.1, IZ2, HZ6.out.2.1⟩, fun _ => ⟨rfl, rfl, rfl, rfl, rfl⟩, fun h => absurd rfl h, hBZ2⟩
 ·
  obtain ⟨W0, hW0⟩ : ∃ W0, W0 = (w.alloc (.cells #[.string ky, .string nm, .slice ta tn tc, .int .i64 is, .slice sa n sc] 27)).alloc (.cells #[.string ⟨#[]⟩, .string ⟨#[]⟩, .slice none 0 0, .int .i64 0, .slice none 0 0] 27) := ⟨_, rfl⟩
  have hB0 : Below w.heap.size w W0 := by rw [hW0]; exact bel2 w _ _
  have BX : BoxL W0 w.heap.size [.string ky, .string nm, .slice ta tn tc, .int .i64 is, .slice sa n sc] := by rw [hW0]; exact (boxL_new w [.string ky, .string nm, .slice ta tn tc, .int .i64 is, .slice sa n sc] _ rfl).alloc _
  have BY : BoxL W0 (w.heap.size + 1) [.string ⟨#[]⟩, .string ⟨#[]⟩, .slice none 0 0, .int .i64 0, .slice none 0 0] := by rw [hW0]; exact boxL_new _ [.string ⟨#[]⟩, .string ⟨#[]⟩, .slice none 0 0, .int .i64 0, .slice none 0 0] _ (by simp)
  have hs0 : W0.heap.size = w.heap.size + 2 := by rw [hW0]; simp
  have hnt : n = tn := by rw [hn, hOk.st.len, plainT_length, htn]
  obtain ⟨h10, h0, hin⟩ := inside_of htn hOk.dag
  have hSA : ∀ y, sa = some y → y.block < w.heap.size := fun y hy => hZ.lies (by omega) y hy
  have cS := refSettleF_any ky nm ta tn tc is sa n sc tv ss now W0 (hT.below hB0) htn (hZ.below hB0) hn hnow hOk
  have hR9 := settle_right (tries_one hOk.dag) (u := untF now []) (x := (ss, is)) hOk.st
  generalize settleS (plainT tv) (untF now []) (ss, is) = SS at *
  obtain ⟨zs, zi⟩ := SS
  dsimp only at cS hR9 hE ⊢
  have HR : Hid (RightS (plainT tv) zs zi) := hR9
  have HE : Hid _ := hE
  have HIN : Hid (∀ (i : Nat) t, tv[i]? = some t → ∀ x ∈ t.ns, 0 ≤ x ∧ x < tn) := hin
  have HTN : Hid (tn = tv.length ∧ n = tn ∧ tn ≤ 10 ∧ 0 < tn) := ⟨htn, hnt, h10, h0⟩
  have HT : Hid (IsT w ta tc tv) := hT
  have HSA : Hid (∀ y, sa = some y → y.block < w.heap.size) := hSA
  clear hT htn hZ hn hOk hR9 hE hnt h10 h0 hin hSA
  have f0 := BX.1 0 _ rfl; have f1 := BX.1 1 _ rfl; have f2 := BX.1 2 _ rfl; have f3 := BX.1 3 _ rfl; have f4 := BX.1 4 _ rfl
  go_enter Try.func26, Try.ntmps26
  refine wp_seq_k (fun K hK => ?_); have HK : Shut _ := hK; clear hK
  go_wp2
  refine HK.out _ _ ?_; clear HK K
  rw [← hW0]
  clear hW0
  obtain ⟨z0, hz0⟩ : ∃ z, z = w.heap.size := ⟨_, rfl⟩
  obtain ⟨z1, hz1⟩ : ∃ z, z = z0 + 1 := ⟨_, rfl⟩
  rw [← hz0] at BX BY
  rw [← hz0, ← hz1]
  rw [← hz1] at BY
  rw [← hz0] at f0 f1 f2 f3 f4
  have HZZ : Hid (z0 = w.heap.size ∧ z1 = z0 + 1 ∧ W0.heap.size = w.heap.size + 2) := ⟨hz0, hz1, hs0⟩
  clear hz0 hz1 hs0
  refine wp_seq_k (fun K hK => ?_); have HK : Shut _ := hK; clear hK
  go_wp2_with (go_at_call 18; refine cS.mono ?_; rintro e w1 ⟨a, c, rfl, hIZ, hnz, hfa, hb⟩; have BX1 := BX.below hb; have BY1 := BY.below hb; have hB1 := Below.tr hB0 hb; have HNZ : Hid (n = zs.length ∧ ∀ y, a = some y → y.block ≠ z0 ∧ y.block ≠ z1) := ⟨hnz, fun y hy => by have := HZZ.out; rcases hfa with e | e; (have := HSA.out y (by rw [← e]; exact hy); omega); (have := e y hy; omega)⟩; clear hnz hfa; have v0 := BX1.1 0 _ rfl; have v1 := BX1.1 1 _ rfl; have v2 := BX1.1 2 _ rfl; have v3 := BX1.1 3 _ rfl; have v4 := BX1.1 4 _ rfl; have d0 := BX1.2 0 (by simp); have d1 := BX1.2 1 (by simp); have d2 := BX1.2 2 (by simp); have d3 := BX1.2 3 (by simp); have d4 := BX1.2 4 (by simp))
  refine HK.out _ _ ?_; clear HK K
  obtain ⟨Z, hZ9⟩ : ∃ Z, Z = (((((w1.setCell ⟨z0, 0, none⟩ (.string ky)).setCell ⟨z0, 1, none⟩ (.string nm)).setCell ⟨z0, 2, none⟩ (.slice ta tn tc)).setCell ⟨z0, 3, none⟩ (.int .i64 zi)).setCell ⟨z0, 4, none⟩ (.slice a n c)) := ⟨_, rfl⟩
  have TZ : Turns (fun k => k = z0) w1 Z := by rw [hZ9]; exact turns_set5 _ _ _ _ _ _ _
  have BZ : BoxL Z z0 [.string ky, .string nm, .slice ta tn tc, .int .i64 zi, .slice a n c] := by rw [hZ9]; exact boxL_set5 BX1 _ _ _ _ _
  have BYZ := boxL_turns BY1 TZ (by have := HZZ.out; omega)
  have hBZ := Below.turns hB1 TZ (fun k hk => by have := HZZ.out; omega)
  have IZ := hIZ.turns TZ (fun y hy hk => (HNZ.out.2 y hy).1 hk)
  rw [← hZ9]
  clear f0 f1 f2 f3 f4 v0 v1 v2 v3 v4 d0 d1 d2 d3 d4 hZ9 hIZ
  have cH := refHeld_any ky nm ta tn tc zi a n c zs k Z IZ HNZ.out.1
  rw [HE.out] at cH
  have p0 := BZ.1 0 _ rfl; have p1 := BZ.1 1 _ rfl; have p2 := BZ.1 2 _ rfl; have p3 := BZ.1 3 _ rfl; have p4 := BZ.1 4 _ rfl
  refine wp_seq_k (fun K hK => ?_); have HK : Shut _ := hK; clear hK
  go_wp2_with (go_at_call 63; refine cH.mono ?_; rintro e w2 ⟨rfl, hbT⟩)
  refine HK.out _ _ ?_; clear HK K
  clear p0 p1 p2 p3 p4 cH cS
  replace BZ := BZ.below hbT
  replace BYZ := BYZ.below hbT
  replace IZ := IZ.below hbT
  replace hBZ := Below.tr hBZ hbT
  clear hbT
  have hge : ¬ ((ix : Int) < 0) := by omega
  have BXX := BZ
  have x0 := BZ.1 0 _ rfl; have x1 := BZ.1 1 _ rfl; have x2 := BZ.1 2 _ rfl; have x3 := BZ.1 3 _ rfl; have x4 := BZ.1 4 _ rfl
  have hpl : placeI (some ix) = ix := rfl
  rw [hpl]
  refine wp_seq_k (fun K hK => ?_); have HK : Shut _ := hK; clear hK
  go_wp2
  refine HK.out _ _ ?_; clear HK K
  obtain ⟨s, hs, h2, hsk⟩ := held_some HE.out
  have hil : ix < zs.length := (List.getElem?_eq_some_iff.1 hs).1
  have hinn : ix < n := by rw [HNZ.out.1]; exact hil
  have hint : ix < tn := by rw [← HTN.out.2.1]; exact hinn
  obtain ⟨t, htt⟩ : ∃ tt, tv[ix]? = some tt := ⟨_, List.getElem?_eq_getElem (by rw [← HTN.out.1]; exact hint)⟩
  have htp := plainT_get htt
  have hst := ((standT_iff s).1 (right_parts (HR.out.each ix s t.p hs htp).right).1).2.1
  have hi1 : (ix : Int) < n := by omega
  have hi2 : (ix : Int) < tn := by omega
  obtain ⟨b, o, rfl, -⟩ := IZ.some (by have := HNZ.out.1; omega)
  obtain ⟨p0, p1, p2, p3, p4⟩ := IZ.at hs
  have hbb : b < w2.heap.size := by have := IZ.lies (by omega) ⟨b, o, none⟩ rfl; exact this
  have hb0 : b ≠ z0 ∧ b ≠ z1 := HNZ.out.2 _ rfl
  have hns : n ≤ c ∧ c ≤ 9223372036854775807 := by have a1 := IZ.1; have a2 := IZ.2.1; rw [← HNZ.out.1] at a1; exact ⟨a1, a2⟩
  obtain ⟨hns1, hns2⟩ := hns
  have htc : tn ≤ tc ∧ tc ≤ 9223372036854775807 := by have a1 := HT.out.1; have a2 := HT.out.2.1; rw [← HTN.out.1] at a1; exact ⟨a1, a2⟩
  obtain ⟨htc1, htc2⟩ := htc
  obtain ⟨tb, to, rfl, htbl⟩ := HT.out.some (by have := HTN.out; omega)
  have HTB : Hid (tb < w.heap.size) := htbl
  clear htbl
  have hsr := IZ.text hs
  have HSO : Hid (zs[ix]? = some s ∧ s.i = 2) := ⟨hs, h2⟩
  have HTS : Hid (tv[ix]? = some t) := htt
  obtain ⟨si, st, sd, sk, sr⟩ := s
  dsimp only at *
  clear hs h2 hsk htp
  obtain ⟨Y, hY⟩ : ∃ Y, Y = w2.alloc (.cells #[.int .i64 si, .int .i64 st, .int .i64 sd, .int .i64 sk, .string sr] 52) := ⟨_, rfl⟩
  have hBY0 : Below w2.heap.size w2 Y := by rw [hY]; exact (Below.refl _ _).alloc (Nat.le_refl _) _
  obtain ⟨z2, hz2⟩ : ∃ z, z = w2.heap.size := ⟨_, rfl⟩
  have bS : BoxL Y z2 [.int .i64 si, .int .i64 st, .int .i64 sd, .int .i64 sk, .string sr] := by rw [hY]; exact boxL_new w2 _ _ hz2
  refine wp_seq_k (fun K hK => ?_); have HK : Shut _ := hK; clear hK
  go_wp2
  rw [← hY, ← hz2]
  refine HK.out _ _ ?_; clear HK K
  clear hY p0 p1 p2 p3 p4 x0 x1 x2 x3 x4
  have HZ2 : Hid (z2 = w2.heap.size) := hz2
  rw [← hz2] at hbb
  have BXY := BZ.below hBY0
  have BYY := BYZ.below hBY0
  have IY := IZ.below hBY0
  have hBw := Below.tr hBZ hBY0
  have hzz : z0 < z2 ∧ z1 < z2 := by have h1 := BZ.lt (by simp); have h3 := BYZ.lt (by simp); omega
  have hsy : z2 < Y.heap.size := bS.lt (by simp)
  clear BZ BYZ IZ hBZ hz2 BXX TZ BX1 BY1 BX BY hb hB1 hB0
  have hEd : doneE ⟨si, st, sd, sk, sr⟩ x = 1 := by unfold doneE; rw [if_pos HSO.out.2, if_neg h16]
  obtain ⟨XB, hXB⟩ : ∃ XB, XB = beatT t.le ⟨si, st, sd, sk, sr⟩ now := ⟨_, rfl⟩
  have cB := fun W => refBeatT_any t.a t.ns.length t.c t.tr t.wt t.le si st sd sk sr now W hnow
  rw [← hXB] at cB
  have hBe : heldE ⟨si, st, sd, sk, sr⟩ = 0 := if_pos HSO.out.2
  rw [hBe] at cB
  have HXB : Hid (XB = beatT t.le ⟨si, st, sd, sk, sr⟩ now ∧ XB.r.size ≤ maxLen) := ⟨hXB, by rw [hXB]; exact beat_text hsr⟩
  clear hXB hBe
  obtain ⟨bi, bt, bd, bk, br⟩ := XB
  dsimp only [vT] at cB
  obtain ⟨y0, y1, y2, y3, -⟩ := (HT.out.below hBw).at htt
  obtain ⟨tta, hta⟩ : ∃ a, a = t.a := ⟨_, rfl⟩
  obtain ⟨tl, htl⟩ : ∃ a, a = t.ns.length := ⟨_, rfl⟩
  obtain ⟨tcc, htcc⟩ : ∃ a, a = t.c := ⟨_, rfl⟩
  obtain ⟨ttr, httr⟩ : ∃ a, a = t.tr := ⟨_, rfl⟩
  obtain ⟨twt, htwt⟩ : ∃ a, a = t.wt := ⟨_, rfl⟩
  obtain ⟨tle, htle⟩ : ∃ a, a = t.le := ⟨_, rfl⟩
  rw [← hta, ← htl, ← htcc] at y0
  rw [← httr] at y1
  rw [← htwt] at y2
  rw [← htle] at y3
  rw [← hta, ← htl, ← htcc, ← httr, ← htwt, ← htle] at cB
  have HTC : Hid (tta = t.a ∧ tl = t.ns.length ∧ tcc = t.c ∧ ttr = t.tr ∧ twt = t.wt ∧ tle = t.le) := ⟨hta, htl, htcc, httr, htwt, htle⟩
  clear hta htl htcc httr htwt htle htt
  have HC : ∀ W, Below Y.heap.size Y W → W.cell? ⟨z0, 2, none⟩ = some (.slice (some ⟨tb, to, none⟩) tn tc) ∧ (W.cell? ⟨tb, to + ix * 4, none⟩ = some (.slice tta tl tcc) ∧ W.cell? ⟨tb, to + ix * 4 + 1, none⟩ = some (.int .i64 ttr) ∧ W.cell? ⟨tb, to + ix * 4 + 2, none⟩ = some (.int .i64 twt) ∧ W.cell? ⟨tb, to + ix * 4 + 3, none⟩ = some (.int .i64 tle)) ∧ (W.cell? ⟨z2, 0, none⟩ = some (.int .i64 si) ∧ W.cell? ⟨z2, 1, none⟩ = some (.int .i64 st) ∧ W.cell? ⟨z2, 2, none⟩ = some (.int .i64 sd) ∧ W.cell? ⟨z2, 3, none⟩ = some (.int .i64 sk) ∧ W.cell? ⟨z2, 4, none⟩ = some (.string sr)) := fun W hW =>
   ⟨(BXY.below hW).1 2 _ rfl, ⟨cell_below hW y0, cell_below hW y1, cell_below hW y2, cell_below hW y3⟩, ⟨(bS.below hW).1 0 _ rfl, (bS.below hW).1 1 _ rfl, (bS.below hW).1 2 _ rfl, (bS.below hW).1 3 _ rfl, (bS.below hW).1 4 _ rfl⟩⟩
  clear y0 y1 y2 y3
  obtain ⟨V0, hV0⟩ : ∃ V0, V0 = Y.drew := ⟨_, rfl⟩
  have hbV : Below Y.heap.size Y V0 := by rw [hV0]; exact (Below.refl _ _).drew
  have hsV : Y.heap.size ≤ V0.heap.size := hbV.size
  refine hideQ (fun Q9 hQ9 => ?_); have HQ9 : Shut _ := hQ9; clear hQ9
  refine wp_seq_k (fun K hK => ?_); have HK : Shut _ := hK; clear hK
  refine wp_region_noPanic ?_
  refine wp_region_held_drew (S := fun W => W.cell? ⟨z0, 2, none⟩ = some (.slice (some ⟨tb, to, none⟩) tn tc) ∧ (W.cell? ⟨tb, to + ix * 4, none⟩ = some (.slice tta tl tcc) ∧ W.cell? ⟨tb, to + ix * 4 + 1, none⟩ = some (.int .i64 ttr) ∧ W.cell? ⟨tb, to + ix * 4 + 2, none⟩ = some (.int .i64 twt) ∧ W.cell? ⟨tb, to + ix * 4 + 3, none⟩ = some (.int .i64 tle)) ∧ (W.cell? ⟨z2, 0, none⟩ = some (.int .i64 si) ∧ W.cell? ⟨z2, 1, none⟩ = some (.int .i64 st) ∧ W.cell? ⟨z2, 2, none⟩ = some (.int .i64 sd) ∧ W.cell? ⟨z2, 3, none⟩ = some (.int .i64 sk) ∧ W.cell? ⟨z2, 4, none⟩ = some (.string sr))) (by kernel_rfl) (by rw [← hV0]; exact HC _ hbV) (fun hHeld => ?_)
  rw [← hV0] at hHeld ⊢
  clear hV0
  refine take_at (i := 0) (v := ?_) rfl (by kernel_rfl) (by kernel_rfl) (by kernel_rfl) (fun _ _ _ h => h) (Or.inl ⟨by rfl, ?_⟩) (by assumption) ?_
  rotate_left 1
  ·
   (intro w hSw; (try dsimp only at hSw); go_simp; (try with_reducible rfl))
  try go_frame
  refine take_at (i := 1) (v := ?_) rfl (by kernel_rfl) (by kernel_rfl) (by kernel_rfl) (fun _ _ _ h => h) (Or.inl ⟨by rfl, ?_⟩) (by assumption) ?_
  rotate_left 1
  ·
   (intro w hSw; (try dsimp only at hSw); go_simp; (try with_reducible rfl))
  try go_frame
  refine take_at (i := 2) (v := ?_) rfl (by kernel_rfl) (by kernel_rfl) (by kernel_rfl) (fun _ _ _ h => h) (Or.inl ⟨by rfl, ?_⟩) (by assumption) ?_
  rotate_left 1
  ·
   (intro w hSw; (try dsimp only at hSw); go_simp; (try with_reducible rfl))
  try go_frame
  refine take_at (i := 3) (v := ?_) rfl (by kernel_rfl) (by kernel_rfl) (by kernel_rfl) (fun _ _ _ h => h) (Or.inl ⟨by rfl, ?_⟩) (by assumption) ?_
  rotate_left 1
  ·
   (intro w hSw; (try dsimp only at hSw); go_simp; (try with_reducible rfl))
  try go_frame
  refine take_at (i := 4) (v := ?_) rfl (by kernel_rfl) (by kernel_rfl) (by kernel_rfl) (fun _ _ _ h => h) (Or.inl ⟨by rfl, ?_⟩) (by assumption) ?_
  rotate_left 1
  ·
   (intro w hSw; (try dsimp only at hSw); go_simp; (try with_reducible rfl))
  try go_frame
  refine take_at (i := 5) (v := ?_) rfl (by kernel_rfl) (by kernel_rfl) (by kernel_rfl) (fun _ _ _ h => h) (Or.inl ⟨by rfl, ?_⟩) (by assumption) ?_
  rotate_left 1
  ·
   (intro w hSw; (try dsimp only at hSw); go_simp; (try with_reducible rfl))
  try go_frame
  refine take_at (i := 6) (v := ?_) rfl (by kernel_rfl) (by kernel_rfl) (by kernel_rfl) (fun _ _ _ h => h) (Or.inl ⟨by rfl, ?_⟩) (by assumption) ?_
  rotate_left 1
  ·
   (intro w hSw; (try dsimp only at hSw); go_simp; (try with_reducible rfl))
  try go_frame
  refine take_at (i := 7) (v := ?_) rfl (by kernel_rfl) (by kernel_rfl) (by kernel_rfl) (fun _ _ _ h => h) (Or.inl ⟨by rfl, ?_⟩) (by assumption) ?_
  rotate_left 1
  ·
   (intro w hSw; (try dsimp only at hSw); go_simp; (try with_reducible rfl))
  try go_frame
  refine wpAnyH_ready (rs := [8, 12]) (by kernel_rfl) (by simp) ?_
  refine cons_at (i := 8) rfl (fun K9 hK => ?_) (cons_at (i := 12) rfl (fun K9 hK => ?_) AllReadyH.nil)
  ·
   go_simp
   (go_at_call 64; refine (cB _).mono ?_; rintro e w4 ⟨rfl, hb4⟩)
   have hB4 := Below.tr hbV hb4
   refine hK.out _ _ (HC _ hB4) (fun hHeld => ?_)
   clear hK K9
   refine take_at (i := 9) (v := ?_) rfl (by kernel_rfl) (by kernel_rfl) (by kernel_rfl) (fun _ _ _ h => h) (Or.inl ⟨by rfl, ?_⟩) (by assumption) ?_
   rotate_left 1
   ·
    (intro w hSw; (try dsimp only at hSw); go_simp; (try with_reducible rfl))
   try go_frame
   refine take_at (i := 10) (v := ?_) rfl (by kernel_rfl) (by kernel_rfl) (by kernel_rfl) (fun _ _ _ h => h) (Or.inl ⟨by rfl, ?_⟩) (by assumption) ?_
   rotate_left 1
   ·
    (intro w hSw; (try dsimp only at hSw); go_simp; (try with_reducible rfl))
   try go_frame
   refine take_at (i := 11) (v := ?_) rfl (by kernel_rfl) (by kernel_rfl) (by kernel_rfl) (fun _ _ _ h => h) (Or.inl ⟨by rfl, ?_⟩) (by assumption) ?_
   rotate_left 1
   ·
    (intro w hSw; (try dsimp only at hSw); go_simp; (try with_reducible rfl))
   try go_frame
   refine wpAnyH_ready (rs := [12]) (by kernel_rfl) (by simp) ?_
   refine cons_at (i := 12) rfl (fun K hK => ?_) AllReadyH.nil
   go_simp
   obtain ⟨A, hA⟩ : ∃ A, A = w4.alloc (.cells #[.int .i64 0, .int .i64 0, .int .i64 0, .int .i64 0, .string ⟨#[]⟩] 52) := ⟨_, rfl⟩
   have hBA : Below Y.heap.size Y A := by rw [hA]; exact hB4.alloc hB4.size _
   have bA : BoxL A w4.heap.size [.int .i64 0, .int .i64 0, .int .i64 0, .int .i64 0, .string ⟨#[]⟩] := by rw [hA]; exact boxL_new w4 [.int .i64 0, .int .i64 0, .int .i64 0, .int .i64 0, .string ⟨#[]⟩] _ rfl
   rw [← hA]
   refine hK.out _ _ (HC _ hBA) (fun hHeld => ?_)
   clear hK K hA
   have hzV : Y.heap.size ≤ w4.heap.size := hB4.size
   obtain ⟨Y2, hY⟩ : ∃ Y2, Y2 = (((((A.setCell ⟨w4.heap.size, 0, none⟩ (.int .i64 bi)).setCell ⟨w4.heap.size, 1, none⟩ (.int .i64 bt)).setCell ⟨w4.heap.size, 2, none⟩ (.int .i64 bd)).setCell ⟨w4.heap.size, 3, none⟩ (.int .i64 bk)).setCell ⟨w4.heap.size, 4, none⟩ (.string br)) := ⟨_, rfl⟩
   have bY : BoxL Y2 w4.heap.size [.int .i64 bi, .int .i64 bt, .int .i64 bd, .int .i64 bk, .string br] := by rw [hY]; exact boxL_set5 bA _ _ _ _ _
   have hBY : Below Y.heap.size Y Y2 := by rw [hY]; exact below_setT hBA (by omega) _ _ _ _ _
   have u0 := bA.1 0 _ rfl; have u1 := bA.1 1 _ rfl; have u2 := bA.1 2 _ rfl; have u3 := bA.1 3 _ rfl; have u4 := bA.1 4 _ rfl
   have v0 := bA.2 0 (by simp); have v1 := bA.2 1 (by simp); have v2 := bA.2 2 (by simp); have v3 := bA.2 3 (by simp); have v4 := bA.2 4 (by simp)
   refine wpAnyH_ready (rs := [13]) (by kernel_rfl) (by simp) ?_
   refine cons_at (i := 13) rfl (fun K hK => ?_) AllReadyH.nil
   go_simp
   rw [← hY]
   refine hK.out _ _ (HC _ hBY) (fun hHeld => ?_)
   clear hK K hY
   refine take_at (i := 14) (v := ?_) rfl (by kernel_rfl) (by kernel_rfl) (by kernel_rfl) (fun _ _ _ h => h) (Or.inl ⟨by rfl, ?_⟩) (by assumption) ?_
   rotate_left 1
   ·
    (intro w hSw; (try dsimp only at hSw); go_simp; (try with_reducible rfl))
   try go_frame
   refine wpAnyH_done (by kernel_rfl) ?_ _
   refine NoPanic.normal ?_
   refine HK.out _ _ ?_
   clear HK K hHeld u0 u1 u2 u3 u4 v0 v1 v2 v3 v4 bA hBA
   generalize w4.heap.size = zz at *
   clear hB4 hb4
   have BX3 := BXY.below hBY
   have BY3 := BYY.below hBY
   have IY3 := IY.below hBY
   have hB3 := Below.tr hBw hBY
   have HC2 : Hid (∀ W, Below Y2.heap.size Y2 W → _) := fun W hW => HC W (Below.tr hBY hW)
   have bS2 := bS.below hBY
   have hzz2 : z2 < zz := by omega
   clear BXY BYY IY hBY hBw HC cB hbV hsV
   obtain ⟨X, hX⟩ : ∃ X, X = doneT ⟨si, st, sd, sk, sr⟩ x := ⟨_, rfl⟩
   have hXt : X.r.size ≤ maxLen := by rw [hX]; exact done_text hx
   have cD := fun W => refDoneT_any si st sd sk sr x W hx
   rw [← hX, hEd] at cD
   have HL : Hid (ansE (plainT tv) (fun _ s => doneE s x) zs k = 1 ∧ ansZ (plainT tv) (fun _ s => doneT s x) zs zi k = mendS (plainT tv) (zs.set ix X) zi) := by
    have e1 := plainT_get HTS.out
    constructor
    ·
     unfold ansE; rw [HE.out]; simp only; rw [HSO.out.1, e1]; exact hEd
    ·
     unfold ansZ; rw [HE.out]; simp only; rw [HSO.out.1, e1, hX]
   obtain ⟨qs, hqs⟩ : ∃ qs, qs = zs.set ix X := ⟨_, rfl⟩
   rw [← hqs] at HL
   clear hX
   obtain ⟨ci, ct, cd, ck, cr⟩ := X
   dsimp only [vT] at cD hXt
   have b0 := bS2.1 0 _ rfl; have b1 := bS2.1 1 _ rfl; have b2 := bS2.1 2 _ rfl; have b3 := bS2.1 3 _ rfl; have b4 := bS2.1 4 _ rfl
   refine wp_seq_k (fun K hK => ?_); have HK : Shut _ := hK; clear hK
   go_wp2_with (go_at_call 65; refine (cD _).mono ?_; rintro e w5 ⟨rfl, hb5⟩; have bY5 := bY.below hb5; clear b0 b1 b2 b3 b4; have y0 := bY5.1 0 _ rfl; have y1 := bY5.1 1 _ rfl; have y2 := bY5.1 2 _ rfl; have y3 := bY5.1 3 _ rfl; have y4 := bY5.1 4 _ rfl; have d0 := bY5.2 0 (by simp); have d1 := bY5.2 1 (by simp); have d2 := bY5.2 2 (by simp); have d3 := bY5.2 3 (by simp); have d4 := bY5.2 4 (by simp))
   refine HK.out _ _ ?_; clear HK K
   obtain ⟨Y3, hY3⟩ : ∃ Y3, Y3 = (((((w5.setCell ⟨zz, 0, none⟩ (.int .i64 ci)).setCell ⟨zz, 1, none⟩ (.int .i64 ct)).setCell ⟨zz, 2, none⟩ (.int .i64 cd)).setCell ⟨zz, 3, none⟩ (.int .i64 ck)).setCell ⟨zz, 4, none⟩ (.string cr)) := ⟨_, rfl⟩
   have T3 : Turns (fun k => k = zz) w5 Y3 := by rw [hY3]; exact turns_set5 _ _ _ _ _ _ _
   have bX : BoxL Y3 zz [.int .i64 ci, .int .i64 ct, .int .i64 cd, .int .i64 ck, .string cr] := by rw [hY3]; exact boxL_set5 bY5 _ _ _ _ _
   replace BX3 := boxL_turns (BX3.below hb5) T3 (by omega)
   replace BY3 := boxL_turns (BY3.below hb5) T3 (by omega)
   replace IY3 := (IY3.below hb5).turns T3 (fun y hy hk => by cases hy; have hk' : b = zz := hk; omega)
   replace hB3 := Below.turns (Below.tr hB3 hb5) T3 (fun k hk => by have := HZZ.out; omega)
   rw [← hY3]
   clear hY3 y0 y1 y2 y3 y4 d0 d1 d2 d3 d4 bY bY5 T3 hb5 bS2 cD
   refine wp_seq_k (fun K hK => ?_); have HK : Shut _ := hK; clear hK
   go_wp2
   refine HK.out _ _ ?_; clear HK K
   have BYZ := BY3
   have hBZ := hB3
   have y0 := BYZ.1 0 _ rfl; have y1 := BYZ.1 1 _ rfl; have y2 := BYZ.1 2 _ rfl; have y3 := BYZ.1 3 _ rfl; have y4 := BYZ.1 4 _ rfl
   have s0 := BYZ.2 0 (by simp); have s1 := BYZ.2 1 (by simp); have s2 := BYZ.2 2 (by simp); have s3 := BYZ.2 3 (by simp); have s4 := BYZ.2 4 (by simp)
   go_wp2
   obtain ⟨Z2, hZ2⟩ : ∃ Z2, Z2 = (((((Y3.setCell ⟨z1, 0, none⟩ (.string ⟨#[]⟩)).setCell ⟨z1, 1, none⟩ (.string ⟨#[]⟩)).setCell ⟨z1, 2, none⟩ (.slice none 0 0)).setCell ⟨z1, 3, none⟩ (.int .i64 0)).setCell ⟨z1, 4, none⟩ (.slice none 0 0)) := ⟨_, rfl⟩
   have BZ2 : BoxL Z2 z1 [.string ⟨#[]⟩, .string ⟨#[]⟩, .slice none 0 0, .int .i64 0, .slice none 0 0] := by rw [hZ2]; exact boxL_set5 BYZ _ _ _ _ _
   have hBZ2 : Below w.heap.size w Z2 := by rw [hZ2]; exact below_setT hBZ (by have := HZZ.out; omega) _ _ _ _ _
   rw [← hZ2]
   clear hZ2
   have r0 := BZ2.1 0 _ rfl; have r1 := BZ2.1 1 _ rfl; have r2 := BZ2.1 2 _ rfl; have r3 := BZ2.1 3 _ rfl; have r4 := BZ2.1 4 _ rfl
   refine HQ9.out _ _ _ ?_
   rw [HL.out.1]
   exact bodyPost_ret (v := .tuple #[.agg #[.string ⟨#[]⟩, .string ⟨#[]⟩, .slice none 0 0, .int .i64 0, .slice none 0 0], .int .i64 1]) (by simp [results, Try.results26, go_sem, r0, r1, r2, r3, r4]) rfl (toldU_zero (by decide) ⟨rfl, hBZ2⟩)
  ·
   go_simp
   obtain ⟨A, hA⟩ : ∃ A, A = V0.alloc (.cells #[.int .i64 0, .int .i64 0, .int .i64 0, .int .i64 0, .string ⟨#[]⟩] 52) := ⟨_, rfl⟩
   have hBA : Below Y.heap.size Y A := by rw [hA]; exact hbV.alloc hsV _
   have bA : BoxL A V0.heap.size [.int .i64 0, .int .i64 0, .int .i64 0, .int .i64 0, .string ⟨#[]⟩] := by rw [hA]; exact boxL_new V0 [.int .i64 0, .int .i64 0, .int .i64 0, .int .i64 0, .string ⟨#[]⟩] _ rfl
   rw [← hA]
   refine hK.out _ _ (HC _ hBA) (fun hHeld => ?_)
   clear hK K9 hA
   refine wpAnyH_ready (rs := [8]) (by kernel_rfl) (by simp) ?_
   refine cons_at (i := 8) rfl (fun K hK => ?_) AllReadyH.nil
   go_simp
   (go_at_call 64; refine (cB _).mono ?_; rintro e w4 ⟨rfl, hb4⟩)
   replace bA := bA.below hb4
   replace hBA := Below.tr hBA hb4
   clear hb4
   refine hK.out _ _ (HC _ hBA) (fun hHeld => ?_)
   clear hK K
   refine take_at (i := 9) (v := ?_) rfl (by kernel_rfl) (by kernel_rfl) (by kernel_rfl) (fun _ _ _ h => h) (Or.inl ⟨by rfl, ?_⟩) (by assumption) ?_
   rotate_left 1
   ·
    (intro w hSw; (try dsimp only at hSw); go_simp; (try with_reducible rfl))
   try go_frame
   refine take_at (i := 10) (v := ?_) rfl (by kernel_rfl) (by kernel_rfl) (by kernel_rfl) (fun _ _ _ h => h) (Or.inl ⟨by rfl, ?_⟩) (by assumption) ?_
   rotate_left 1
   ·
    (intro w hSw; (try dsimp only at hSw); go_simp; (try with_reducible rfl))
   try go_frame
   refine take_at (i := 11) (v := ?_) rfl (by kernel_rfl) (by kernel_rfl) (by kernel_rfl) (fun _ _ _ h => h) (Or.inl ⟨by rfl, ?_⟩) (by assumption) ?_
   rotate_left 1
   ·
    (intro w hSw; (try dsimp only at hSw); go_simp; (try with_reducible rfl))
   try go_frame
   generalize w4 = A at *
   have hzV : Y.heap.size ≤ V0.heap.size := hsV
   obtain ⟨Y2, hY⟩ : ∃ Y2, Y2 = (((((A.setCell ⟨V0.heap.size, 0, none⟩ (.int .i64 bi)).setCell ⟨V0.heap.size, 1, none⟩ (.int .i64 bt)).setCell ⟨V0.heap.size, 2, none⟩ (.int .i64 bd)).setCell ⟨V0.heap.size, 3, none⟩ (.int .i64 bk)).setCell ⟨V0.heap.size, 4, none⟩ (.string br)) := ⟨_, rfl⟩
   have bY : BoxL Y2 V0.heap.size [.int .i64 bi, .int .i64 bt, .int .i64 bd, .int .i64 bk, .string br] := by rw [hY]; exact boxL_set5 bA _ _ _ _ _
   have hBY : Below Y.heap.size Y Y2 := by rw [hY]; exact below_setT hBA (by omega) _ _ _ _ _
   have u0 := bA.1 0 _ rfl; have u1 := bA.1 1 _ rfl; have u2 := bA.1 2 _ rfl; have u3 := bA.1 3 _ rfl; have u4 := bA.1 4 _ rfl
   have v0 := bA.2 0 (by simp); have v1 := bA.2 1 (by simp); have v2 := bA.2 2 (by simp); have v3 := bA.2 3 (by simp); have v4 := bA.2 4 (by simp)
   refine wpAnyH_ready (rs := [13]) (by kernel_rfl) (by simp) ?_
   refine cons_at (i := 13) rfl (fun K hK => ?_) AllReadyH.nil
   go_simp
   rw [← hY]
   refine hK.out _ _ (HC _ hBY) (fun hHeld => ?_)
   clear hK K hY
   refine take_at (i := 14) (v := ?_) rfl (by kernel_rfl) (by kernel_rfl) (by kernel_rfl) (fun _ _ _ h => h) (Or.inl ⟨by rfl, ?_⟩) (by assumption) ?_
   rotate_left 1
   ·
    (intro w hSw; (try dsimp only at hSw); go_simp; (try with_reducible rfl))
   try go_frame
   refine wpAnyH_done (by kernel_rfl) ?_ _
   refine NoPanic.normal ?_
   refine HK.out _ _ ?_
   clear HK K hHeld u0 u1 u2 u3 u4 v0 v1 v2 v3 v4 bA hBA
   generalize V0.heap.size = zz at *
   have BX3 := BXY.below hBY
   have BY3 := BYY.below hBY
   have IY3 := IY.below hBY
   have hB3 := Below.tr hBw hBY
   have HC2 : Hid (∀ W, Below Y2.heap.size Y2 W → _) := fun W hW => HC W (Below.tr hBY hW)
   have bS2 := bS.below hBY
   have hzz2 : z2 < zz := by omega
   clear BXY BYY IY hBY hBw HC cB hbV hsV
   obtain ⟨X, hX⟩ : ∃ X, X = doneT ⟨si, st, sd, sk, sr⟩ x := ⟨_, rfl⟩
   have hXt : X.r.size ≤ maxLen := by rw [hX]; exact done_text hx
   have cD := fun W => refDoneT_any si st sd sk sr x W hx
   rw [← hX, hEd] at cD
   have HL : Hid (ansE (plainT tv) (fun _ s => doneE s x) zs k = 1 ∧ ansZ (plainT tv) (fun _ s => doneT s x) zs zi k = mendS (plainT tv) (zs.set ix X) zi) := by
    have e1 := plainT_get HTS.out
    constructor
    ·
     unfold ansE; rw [HE.out]; simp only; rw [HSO.out.1, e1]; exact hEd
    ·
     unfold ansZ; rw [HE.out]; simp only; rw [HSO.out.1, e1, hX]
   obtain ⟨qs, hqs⟩ : ∃ qs, qs = zs.set ix X := ⟨_, rfl⟩
   rw [← hqs] at HL
   clear hX
   obtain ⟨ci, ct, cd, ck, cr⟩ := X
   dsimp only [vT] at cD hXt
   have b0 := bS2.1 0 _ rfl; have b1 := bS2.1 1 _ rfl; have b2 := bS2.1 2 _ rfl; have b3 := bS2.1 3 _ rfl; have b4 := bS2.1 4 _ rfl
   refine wp_seq_k (fun K hK => ?_); have HK : Shut _ := hK; clear hK
   go_wp2_with (go_at_call 65; refine (cD _).mono ?_; rintro e w5 ⟨rfl, hb5⟩; have bY5 := bY.below hb5; clear b0 b1 b2 b3 b4; have y0 := bY5.1 0 _ rfl; have y1 := bY5.1 1 _ rfl; have y2 := bY5.1 2 _ rfl; have y3 := bY5.1 3 _ rfl; have y4 := bY5.1 4 _ rfl; have d0 := bY5.2 0 (by simp); have d1 := bY5.2 1 (by simp); have d2 := bY5.2 2 (by simp); have d3 := bY5.2 3 (by simp); have d4 := bY5.2 4 (by simp))
   refine HK.out _ _ ?_; clear HK K
   obtain ⟨Y3, hY3⟩ : ∃ Y3, Y3 = (((((w5.setCell ⟨zz, 0, none⟩ (.int .i64 ci)).setCell ⟨zz, 1, none⟩ (.int .i64 ct)).setCell ⟨zz, 2, none⟩ (.int .i64 cd)).setCell ⟨zz, 3, none⟩ (.int .i64 ck)).setCell ⟨zz, 4, none⟩ (.string cr)) := ⟨_, rfl⟩
   have T3 : Turns (fun k => k = zz) w5 Y3 := by rw [hY3]; exact turns_set5 _ _ _ _ _ _ _
   have bX : BoxL Y3 zz [.int .i64 ci, .int .i64 ct, .int .i64 cd, .int .i64 ck, .string cr] := by rw [hY3]; exact boxL_set5 bY5 _ _ _ _ _
   replace BX3 := boxL_turns (BX3.below hb5) T3 (by omega)
   replace BY3 := boxL_turns (BY3.below hb5) T3 (by omega)
   replace IY3 := (IY3.below hb5).turns T3 (fun y hy hk => by cases hy; have hk' : b = zz := hk; omega)
   replace hB3 := Below.turns (Below.tr hB3 hb5) T3 (fun k hk => by have := HZZ.out; omega)
   rw [← hY3]
   clear hY3 y0 y1 y2 y3 y4 d0 d1 d2 d3 d4 bY bY5 T3 hb5 bS2 cD
   refine wp_seq_k (fun K hK => ?_); have HK : Shut _ := hK; clear hK
   go_wp2
   refine HK.out _ _ ?_; clear HK K
   have BYZ := BY3
   have hBZ := hB3
   have y0 := BYZ.1 0 _ rfl; have y1 := BYZ.1 1 _ rfl; have y2 := BYZ.1 2 _ rfl; have y3 := BYZ.1 3 _ rfl; have y4 := BYZ.1 4 _ rfl
   have s0 := BYZ.2 0 (by simp); have s1 := BYZ.2 1 (by simp); have s2 := BYZ.2 2 (by simp); have s3 := BYZ.2 3 (by simp); have s4 := BYZ.2 4 (by simp)
   go_wp2
   obtain ⟨Z2, hZ2⟩ : ∃ Z2, Z2 = (((((Y3.setCell ⟨z1, 0, none⟩ (.string ⟨#[]⟩)).setCell ⟨z1, 1, none⟩ (.string ⟨#[]⟩)).setCell ⟨z1, 2, none⟩ (.slice none 0 0)).setCell ⟨z1, 3, none⟩ (.int .i64 0)).setCell ⟨z1, 4, none⟩ (.slice none 0 0)) := ⟨_, rfl⟩
   have BZ2 : BoxL Z2 z1 [.string ⟨#[]⟩, .string ⟨#[]⟩, .slice none 0 0, .int .i64 0, .slice none 0 0] := by rw [hZ2]; exact boxL_set5 BYZ _ _ _ _ _
   have hBZ2 : Below w.heap.size w Z2 := by rw [hZ2]; exact below_setT hBZ (by have := HZZ.out; omega) _ _ _ _ _
   rw [← hZ2]
   clear hZ2
   have r0 := BZ2.1 0 _ rfl; have r1 := BZ2.1 1 _ rfl; have r2 := BZ2.1 2 _ rfl; have r3 := BZ2.1 3 _ rfl; have r4 := BZ2.1 4 _ rfl
   refine HQ9.out _ _ _ ?_
   rw [HL.out.1]
   exact bodyPost_ret (v := .tuple #[.agg #[.string ⟨#[]⟩, .string ⟨#[]⟩, .slice none 0 0, .int .i64 0, .slice none 0 0], .int .i64 1]) (by simp [results, Try.results26, go_sem, r0, r1, r2, r3, r4]) rfl (toldU_zero (by decide) ⟨rfl, hBZ2⟩)
set_option maxRecDepth 20000 in
set_option maxHeartbeats 2000000 in
theorem refToldFail_any (x : ByteArray) (ky nm : ByteArray) (ta : Option Addr) (tn tc : Nat) (is : Int) (sa : Option Addr) (n sc : Nat) (tv : List TaskV) (ss : List StP) (now k : Int) (w : World) (hnow : now ≤ 9223372036854775807) (hT : IsT w ta tc tv) (htn : tn = tv.length) (hZ : IsZ w sa sc ss) (hn : n = ss.length) (hOk : RunOk ky nm (plainT tv) ss is) (ix : Nat) (hE : heldAt (settleS (plainT tv) (untF now []) (ss, is)).1 k = some ix) :
  Calls Try.prog 26 #[.agg #[.string ky, .string nm, .slice ta tn tc, .int .i64 is, .slice sa n sc], .int .i64 2, .int .i64 now, .int .i64 k, .string x] w fun e w' => ToldU w (ansE (plainT tv) (fun _ s => heldE s) (settleS (plainT tv) (untF now []) (ss, is)).1 k) ky nm (ansZ (plainT tv) (fun t s => failT t.tries t.wait s now) (settleS (plainT tv) (untF now []) (ss, is)).1 (settleS (plainT tv) (untF now []) (ss, is)).2 k).2 (plainT tv) (ansZ (plainT tv) (fun t s => failT t.tries t.wait s now) (settleS (plainT tv) (untF now []) (ss, is)).1 (settleS (plainT tv) (untF now []) (ss, is)).2 k).1 e w' := by
 obtain ⟨W0, hW0⟩ : ∃ W0, W0 = (w.alloc (.cells #[.string ky, .string nm, .slice ta tn tc, .int .i64 is, .slice sa n sc] 27)).alloc (.cells #[.string ⟨#[]⟩, .string ⟨#[]⟩, .slice none 0 0, .int .i64 0, .slice none 0 0] 27) := ⟨_, rfl⟩
 have hB0 : Below w.heap.size w W0 := by rw [hW0]; exact bel2 w _ _
 have BX : BoxL W0 w.heap.size [.string ky, .string nm, .slice ta tn tc, .int .i64 is, .slice sa n sc] := by rw [hW0]; exact (boxL_new w [.string ky, .string nm, .slice ta tn tc, .int .i64 is, .slice sa n sc] _ rfl).alloc _
 have BY : BoxL W0 (w.heap.size + 1) [.string ⟨#[]⟩, .string ⟨#[]⟩, .slice none 0 0, .int .i64 0, .slice none 0 0] := by rw [hW0]; exact boxL_new _ [.string ⟨#[]⟩, .string ⟨#[]⟩, .slice none 0 0, .int .i64 0, .slice none 0 0] _ (by simp)
 have hs0 : W0.heap.size = w.heap.size + 2 := by rw [hW0]; simp
 have hnt : n = tn := by rw [hn, hOk.st.len, plainT_length, htn]
 obtain ⟨h10, h0, hin⟩ := inside_of htn hOk.dag
 have hSA : ∀ y, sa = some y → y.block < w.heap.size := fun y hy => hZ.lies (by omega) y hy
 have cS := refSettleF_any ky nm ta tn tc is sa n sc tv ss now W0 (hT.below hB0) htn (hZ.below hB0) hn hnow hOk
 have hR9 := settle_right (tries_one hOk.dag) (u := untF now []) (x := (ss, is)) hOk.st
 generalize settleS (plainT tv) (untF now []) (ss, is) = SS at *
 obtain ⟨zs, zi⟩ := SS
 dsimp only at cS hR9 hE ⊢
 have HR : Hid (RightS (plainT tv) zs zi) := hR9
 have HE : Hid _ := hE
 have HIN : Hid (∀ (i : Nat) t, tv[i]? = some t → ∀ x ∈ t.ns, 0 ≤ x ∧ x < tn) := hin
 have HTN : Hid (tn = tv.length ∧ n = tn ∧ tn ≤ 10 ∧ 0 < tn) := ⟨htn, hnt, h10, h0⟩
 have HT : Hid (IsT w ta tc tv) := hT
 have HSA : Hid (∀ y, sa = some y → y.block < w.heap.size) := hSA
 clear hT htn hZ hn hOk hR9 hE hnt h10 h0 hin hSA
 have f0 := BX.1 0 _ rfl; have f1 := BX.1 1 _ rfl; have f2 := BX.1 2 _ rfl; have f3 := BX.1 3 _ rfl; have f4 := BX.1 4 _ rfl
 go_enter Try.func26, Try.ntmps26
 refine wp_seq_k (fun K hK => ?_); have HK : Shut _ := hK; clear hK
 go_wp2
 refine HK.out _ _ ?_; clear HK K
 rw [← hW0]
 clear hW0
 obtain ⟨z0, hz0⟩ : ∃ z, z = w.heap.size := ⟨_, rfl⟩
 obtain ⟨z1, hz1⟩ : ∃ z, z = z0 + 1 := ⟨_, rfl⟩
 rw [← hz0] at BX BY
 rw [← hz0, ← hz1]
 rw [← hz1] at BY
 rw [← hz0] at f0 f1 f2 f3 f4
 have HZZ : Hid (z0 = w.heap.size ∧ z1 = z0 + 1 ∧ W0.heap.size = w.heap.size + 2) := ⟨hz0, hz1, hs0⟩
 clear hz0 hz1 hs0
 refine wp_seq_k (fun K hK => ?_); have HK : Shut _ := hK; clear hK
 go_wp2_with (go_at_call 18; refine cS.mono ?_; rintro e w1 ⟨a, c, rfl, hIZ, hnz, hfa, hb⟩; have BX1 := BX.below hb; have BY1 := BY.below hb; have hB1 := Below.tr hB0 hb; have HNZ : Hid (n = zs.length ∧ ∀ y, a = some y → y.block ≠ z0 ∧ y.block ≠ z1) := ⟨hnz, fun y hy => by have := HZZ.out; rcases hfa with e | e; (have := HSA.out y (by rw [← e]; exact hy); omega); (have := e y hy; omega)⟩; clear hnz hfa; have v0 := BX1.1 0 _ rfl; have v1 := BX1.1 1 _ rfl; have v2 := BX1.1 2 _ rfl; have v3 := BX1.1 3 _ rfl; have v4 := BX1.1 4 _ rfl; have d0 := BX1.2 0 (by simp); have d1 := BX1.2 1 (by simp); have d2 := BX1.2 2 (by simp); have d3 := BX1.2 3 (by simp); have d4 := BX1.2 4 (by simp))
 refine HK.out _ _ ?_; clear HK K
 obtain ⟨Z, hZ9⟩ : ∃ Z, Z = (((((w1.setCell ⟨z0, 0, none⟩ (.string ky)).setCell ⟨z0, 1, none⟩ (.string nm)).setCell ⟨z0, 2, none⟩ (.slice ta tn tc)).setCell ⟨z0, 3, none⟩ (.int .i64 zi)).setCell ⟨z0, 4, none⟩ (.slice a n c)) := ⟨_, rfl⟩
 have TZ : Turns (fun k => k = z0) w1 Z := by rw [hZ9]; exact turns_set5 _ _ _ _ _ _ _
 have BZ : BoxL Z z0 [.string ky, .string nm, .slice ta tn tc, .int .i64 zi, .slice a n c] := by rw [hZ9]; exact boxL_set5 BX1 _ _ _ _ _
 have BYZ := boxL_turns BY1 TZ (by have := HZZ.out; omega)
 have hBZ := Below.turns hB1 TZ (fun k hk => by have := HZZ.out; omega)
 have IZ := hIZ.turns TZ (fun y hy hk => (HNZ.out.2 y hy).1 hk)
 rw [← hZ9]
 clear f0 f1 f2 f3 f4 v0 v1 v2 v3 v4 d0 d1 d2 d3 d4 hZ9 hIZ
 have cH := refHeld_any ky nm ta tn tc zi a n c zs k Z IZ HNZ.out.1
 rw [HE.out] at cH
 have p0 := BZ.1 0 _ rfl; have p1 := BZ.1 1 _ rfl; have p2 := BZ.1 2 _ rfl; have p3 := BZ.1 3 _ rfl; have p4 := BZ.1 4 _ rfl
 refine wp_seq_k (fun K hK => ?_); have HK : Shut _ := hK; clear hK
 go_wp2_with (go_at_call 63; refine cH.mono ?_; rintro e w2 ⟨rfl, hbT⟩)
 refine HK.out _ _ ?_; clear HK K
 clear p0 p1 p2 p3 p4 cH cS
 replace BZ := BZ.below hbT
 replace BYZ := BYZ.below hbT
 replace IZ := IZ.below hbT
 replace hBZ := Below.tr hBZ hbT
 clear hbT
 have hge : ¬ ((ix : Int) < 0) := by omega
 have BXX := BZ
 have x0 := BZ.1 0 _ rfl; have x1 := BZ.1 1 _ rfl; have x2 := BZ.1 2 _ rfl; have x3 := BZ.1 3 _ rfl; have x4 := BZ.1 4 _ rfl
 have hpl : placeI (some ix) = ix := rfl
 rw [hpl]
 refine wp_seq_k (fun K hK => ?_); have HK : Shut _ := hK; clear hK
 go_wp2
 refine HK.out _ _ ?_; clear HK K
 obtain ⟨s, hs, h2, hsk⟩ := held_some HE.out
 have hil : ix < zs.length := (List.getElem?_eq_some_iff.1 hs).1
 have hinn : ix < n := by rw [HNZ.out.1]; exact hil
 have hint : ix < tn := by rw [← HTN.out.2.1]; exact hinn
 obtain ⟨t, htt⟩ : ∃ tt, tv[ix]? = some tt := ⟨_, List.getElem?_eq_getElem (by rw [← HTN.out.1]; exact hint)⟩
 have htp := plainT_get htt
 have hst := ((standT_iff s).1 (right_parts (HR.out.each ix s t.p hs htp).right).1).2.1
 have hi1 : (ix : Int) < n := by omega
 have hi2 : (ix : Int) < tn := by omega
 obtain ⟨b, o, rfl, -⟩ := IZ.some (by have := HNZ.out.1; omega)
 obtain ⟨p0, p1, p2, p3, p4⟩ := IZ.at hs
 have hbb : b < w2.heap.size := by have := IZ.lies (by omega) ⟨b, o, none⟩ rfl; exact this
 have hb0 : b ≠ z0 ∧ b ≠ z1 := HNZ.out.2 _ rfl
 have hns : n ≤ c ∧ c ≤ 9223372036854775807 := by have a1 := IZ.1; have a2 := IZ.2.1; rw [← HNZ.out.1] at a1; exact ⟨a1, a2⟩
 obtain ⟨hns1, hns2⟩ := hns
 have htc : tn ≤ tc ∧ tc ≤ 9223372036854775807 := by have a1 := HT.out.1; have a2 := HT.out.2.1; rw [← HTN.out.1] at a1; exact ⟨a1, a2⟩
 obtain ⟨htc1, htc2⟩ := htc
 obtain ⟨tb, to, rfl, htbl⟩ := HT.out.some (by have := HTN.out; omega)
 have HTB : Hid (tb < w.heap.size) := htbl
 clear htbl
 have hsr := IZ.text hs
 have HSO : Hid (zs[ix]? = some s ∧ s.i = 2) := ⟨hs, h2⟩
 have HTS : Hid (tv[ix]? = some t) := htt
 obtain ⟨si, st, sd, sk, sr⟩ := s
 dsimp only at *
 clear hs h2 hsk htp
 obtain ⟨Y, hY⟩ : ∃ Y, Y = w2.alloc (.cells #[.int .i64 si, .int .i64 st, .int .i64 sd, .int .i64 sk, .string sr] 52) := ⟨_, rfl⟩
 have hBY0 : Below w2.heap.size w2 Y := by rw [hY]; exact (Below.refl _ _).alloc (Nat.le_refl _) _
 obtain ⟨z2, hz2⟩ : ∃ z, z = w2.heap.size := ⟨_, rfl⟩
 have bS : BoxL Y z2 [.int .i64 si, .int .i64 st, .int .i64 sd, .int .i64 sk, .string sr] := by rw [hY]; exact boxL_new w2 _ _ hz2
 refine wp_seq_k (fun K hK => ?_); have HK : Shut _ := hK; clear hK
 go_wp2
 rw [← hY, ← hz2]
 refine HK.out _ _ ?_; clear HK K
 clear hY p0 p1 p2 p3 p4 x0 x1 x2 x3 x4
 have HZ2 : Hid (z2 = w2.heap.size) := hz2
 rw [← hz2] at hbb
 have BXY := BZ.below hBY0
 have BYY := BYZ.below hBY0
 have IY := IZ.below hBY0
 have hBw := Below.tr hBZ hBY0
 have hzz : z0 < z2 ∧ z1 < z2 := by have h1 := BZ.lt (by simp); have h3 := BYZ.lt (by simp); omega
 have hsy : z2 < Y.heap.size := bS.lt (by simp)
 clear BZ BYZ IZ hBZ hz2 BXX TZ BX1 BY1 BX BY hb hB1 hB0
 obtain ⟨XB, hXB⟩ : ∃ XB, XB = beatT t.le ⟨si, st, sd, sk, sr⟩ now := ⟨_, rfl⟩
 have cB := fun W => refBeatT_any t.a t.ns.length t.c t.tr t.wt t.le si st sd sk sr now W hnow
 rw [← hXB] at cB
 have hBe : heldE ⟨si, st, sd, sk, sr⟩ = 0 := if_pos HSO.out.2
 rw [hBe] at cB
 have HXB : Hid (XB = beatT t.le ⟨si, st, sd, sk, sr⟩ now ∧ XB.r.size ≤ maxLen) := ⟨hXB, by rw [hXB]; exact beat_text hsr⟩
 clear hXB hBe
 obtain ⟨bi, bt, bd, bk, br⟩ := XB
 dsimp only [vT] at cB
 obtain ⟨y0, y1, y2, y3, -⟩ := (HT.out.below hBw).at htt
 obtain ⟨tta, hta⟩ : ∃ a, a = t.a := ⟨_, rfl⟩
 obtain ⟨tl, htl⟩ : ∃ a, a = t.ns.length := ⟨_, rfl⟩
 obtain ⟨tcc, htcc⟩ : ∃ a, a = t.c := ⟨_, rfl⟩
 obtain ⟨ttr, httr⟩ : ∃ a, a = t.tr := ⟨_, rfl⟩
 obtain ⟨twt, htwt⟩ : ∃ a, a = t.wt := ⟨_, rfl⟩
 obtain ⟨tle, htle⟩ : ∃ a, a = t.le := ⟨_, rfl⟩
 rw [← hta, ← htl, ← htcc] at y0
 rw [← httr] at y1
 rw [← htwt] at y2
 rw [← htle] at y3
 rw [← hta, ← htl, ← htcc, ← httr, ← htwt, ← htle] at cB
 have HTC : Hid (tta = t.a ∧ tl = t.ns.length ∧ tcc = t.c ∧ ttr = t.tr ∧ twt = t.wt ∧ tle = t.le) := ⟨hta, htl, htcc, httr, htwt, htle⟩
 clear hta htl htcc httr htwt htle htt
 have HC : ∀ W, Below Y.heap.size Y W → W.cell? ⟨z0, 2, none⟩ = some (.slice (some ⟨tb, to, none⟩) tn tc) ∧ (W.cell? ⟨tb, to + ix * 4, none⟩ = some (.slice tta tl tcc) ∧ W.cell? ⟨tb, to + ix * 4 + 1, none⟩ = some (.int .i64 ttr) ∧ W.cell? ⟨tb, to + ix * 4 + 2, none⟩ = some (.int .i64 twt) ∧ W.cell? ⟨tb, to + ix * 4 + 3, none⟩ = some (.int .i64 tle)) ∧ (W.cell? ⟨z2, 0, none⟩ = some (.int .i64 si) ∧ W.cell? ⟨z2, 1, none⟩ = some (.int .i64 st) ∧ W.cell? ⟨z2, 2, none⟩ = some (.int .i64 sd) ∧ W.cell? ⟨z2, 3, none⟩ = some (.int .i64 sk) ∧ W.cell? ⟨z2, 4, none⟩ = some (.string sr)) := fun W hW =>
  ⟨(BXY.below hW).1 2 _ rfl, ⟨cell_below hW y0, cell_below hW y1, cell_below hW y2, cell_below hW y3⟩, ⟨(bS.below hW).1 0 _ rfl, (bS.below hW).1 1 _ rfl, (bS.below hW).1 2 _ rfl, (bS.below hW).1 3 _ rfl, (bS.below hW).1 4 _ rfl⟩⟩
 clear y0 y1 y2 y3
 obtain ⟨V0, hV0⟩ : ∃ V0, V0 = Y.drew := ⟨_, rfl⟩
 have hbV : Below Y.heap.size Y V0 := by rw [hV0]; exact (Below.refl _ _).drew
 have hsV : Y.heap.size ≤ V0.heap.size := hbV.size
 refine hideQ (fun Q9 hQ9 => ?_); have HQ9 : Shut _ := hQ9; clear hQ9
 refine wp_seq_k (fun K hK => ?_); have HK : Shut _ := hK; clear hK
 refine wp_region_noPanic ?_
 refine wp_region_held_drew (S := fun W => W.cell? ⟨z0, 2, none⟩ = some (.slice (some ⟨tb, to, none⟩) tn tc) ∧ (W.cell? ⟨tb, to + ix * 4, none⟩ = some (.slice tta tl tcc) ∧ W.cell? ⟨tb, to + ix * 4 + 1, none⟩ = some (.int .i64 ttr) ∧ W.cell? ⟨tb, to + ix * 4 + 2, none⟩ = some (.int .i64 twt) ∧ W.cell? ⟨tb, to + ix * 4 + 3, none⟩ = some (.int .i64 tle)) ∧ (W.cell? ⟨z2, 0, none⟩ = some (.int .i64 si) ∧ W.cell? ⟨z2, 1, none⟩ = some (.int .i64 st) ∧ W.cell? ⟨z2, 2, none⟩ = some (.int .i64 sd) ∧ W.cell? ⟨z2, 3, none⟩ = some (.int .i64 sk) ∧ W.cell? ⟨z2, 4, none⟩ = some (.string sr))) (by kernel_rfl) (by rw [← hV0]; exact HC _ hbV) (fun hHeld => ?_)
 rw [← hV0] at hHeld ⊢
 clear hV0
 refine take_at (i := 0) (v := ?_) rfl (by kernel_rfl) (by kernel_rfl) (by kernel_rfl) (fun _ _ _ h => h) (Or.inl ⟨by rfl, ?_⟩) (by assumption) ?_
 rotate_left 1
 ·
  (intro w hSw; (try dsimp only at hSw); go_simp; (try with_reducible rfl))
 try go_frame
 refine take_at (i := 1) (v := ?_) rfl (by kernel_rfl) (by kernel_rfl) (by kernel_rfl) (fun _ _ _ h => h) (Or.inl ⟨by rfl, ?_⟩) (by assumption) ?_
 rotate_left 1
 ·
  (intro w hSw; (try dsimp only at hSw); go_simp; (try with_reducible rfl))
 try go_frame
 refine take_at (i := 2) (v := ?_) rfl (by kernel_rfl) (by kernel_rfl) (by kernel_rfl) (fun _ _ _ h => h) (Or.inl ⟨by rfl, ?_⟩) (by assumption) ?_
 rotate_left 1
 ·
  (intro w hSw; (try dsimp only at hSw); go_simp; (try with_reducible rfl))
 try go_frame
 refine take_at (i := 3) (v := ?_) rfl (by kernel_rfl) (by kernel_rfl) (by kernel_rfl) (fun _ _ _ h => h) (Or.inl ⟨by rfl, ?_⟩) (by assumption) ?_
 rotate_left 1
 ·
  (intro w hSw; (try dsimp only at hSw); go_simp; (try with_reducible rfl))
 try go_frame
 refine take_at (i := 4) (v := ?_) rfl (by kernel_rfl) (by kernel_rfl) (by kernel_rfl) (fun _ _ _ h => h) (Or.inl ⟨by rfl, ?_⟩) (by assumption) ?_
 rotate_left 1
 ·
  (intro w hSw; (try dsimp only at hSw); go_simp; (try with_reducible rfl))
 try go_frame
 refine take_at (i := 5) (v := ?_) rfl (by kernel_rfl) (by kernel_rfl) (by kernel_rfl) (fun _ _ _ h => h) (Or.inl ⟨by rfl, ?_⟩) (by assumption) ?_
 rotate_left 1
 ·
  (intro w hSw; (try dsimp only at hSw); go_simp; (try with_reducible rfl))
 try go_frame
 refine take_at (i := 6) (v := ?_) rfl (by kernel_rfl) (by kernel_rfl) (by kernel_rfl) (fun _ _ _ h => h) (Or.inl ⟨by rfl, ?_⟩) (by assumption) ?_
 rotate_left 1
 ·
  (intro w hSw; (try dsimp only at hSw); go_simp; (try with_reducible rfl))
 try go_frame
 refine take_at (i := 7) (v := ?_) rfl (by kernel_rfl) (by kernel_rfl) (by kernel_rfl) (fun _ _ _ h => h) (Or.inl ⟨by rfl, ?_⟩) (by assumption) ?_
 rotate_left 1
 ·
  (intro w hSw; (try dsimp only at hSw); go_simp; (try with_reducible rfl))
 try go_frame
 refine wpAnyH_ready (rs := [8, 12]) (by kernel_rfl) (by simp) ?_
 refine cons_at (i := 8) rfl (fun K9 hK => ?_) (cons_at (i := 12) rfl (fun K9 hK => ?_) AllReadyH.nil)
 ·
  go_simp
  (go_at_call 64; refine (cB _).mono ?_; rintro e w4 ⟨rfl, hb4⟩)
  have hB4 := Below.tr hbV hb4
  refine hK.out _ _ (HC _ hB4) (fun hHeld => ?_)
  clear hK K9
  refine take_at (i := 9) (v := ?_) rfl (by kernel_rfl) (by kernel_rfl) (by kernel_rfl) (fun _ _ _ h => h) (Or.inl ⟨by rfl, ?_⟩) (by assumption) ?_
  rotate_left 1
  ·
   (intro w hSw; (try dsimp only at hSw); go_simp; (try with_reducible rfl))
  try go_frame
  refine take_at (i := 10) (v := ?_) rfl (by kernel_rfl) (by kernel_rfl) (by kernel_rfl) (fun _ _ _ h => h) (Or.inl ⟨by rfl, ?_⟩) (by assumption) ?_
  rotate_left 1
  ·
   (intro w hSw; (try dsimp only at hSw); go_simp; (try with_reducible rfl))
  try go_frame
  refine take_at (i := 11) (v := ?_) rfl (by kernel_rfl) (by kernel_rfl) (by kernel_rfl) (fun _ _ _ h => h) (Or.inl ⟨by rfl, ?_⟩) (by assumption) ?_
  rotate_left 1
  ·
   (intro w hSw; (try dsimp only at hSw); go_simp; (try with_reducible rfl))
  try go_frame
  refine wpAnyH_ready (rs := [12]) (by kernel_rfl) (by simp) ?_
  refine cons_at (i := 12) rfl (fun K hK => ?_) AllReadyH.nil
  go_simp
  obtain ⟨A, hA⟩ : ∃ A, A = w4.alloc (.cells #[.int .i64 0, .int .i64 0, .int .i64 0, .int .i64 0, .string ⟨#[]⟩] 52) := ⟨_, rfl⟩
  have hBA : Below Y.heap.size Y A := by rw [hA]; exact hB4.alloc hB4.size _
  have bA : BoxL A w4.heap.size [.int .i64 0, .int .i64 0, .int .i64 0, .int .i64 0, .string ⟨#[]⟩] := by rw [hA]; exact boxL_new w4 [.int .i64 0, .int .i64 0, .int .i64 0, .int .i64 0, .string ⟨#[]⟩] _ rfl
  rw [← hA]
  refine hK.out _ _ (HC _ hBA) (fun hHeld => ?_)
  clear hK K hA
  have hzV : Y.heap.size ≤ w4.heap.size := hB4.size
  obtain ⟨Y2, hY⟩ : ∃ Y2, Y2 = (((((A.setCell ⟨w4.heap.size, 0, none⟩ (.int .i64 bi)).setCell ⟨w4.heap.size, 1, none⟩ (.int .i64 bt)).setCell ⟨w4.heap.size, 2, none⟩ (.int .i64 bd)).setCell ⟨w4.heap.size, 3, none⟩ (.int .i64 bk)).setCell ⟨w4.heap.size, 4, none⟩ (.string br)) := ⟨_, rfl⟩
  have bY : BoxL Y2 w4.heap.size [.int .i64 bi, .int .i64 bt, .int .i64 bd, .int .i64 bk, .string br] := by rw [hY]; exact boxL_set5 bA _ _ _ _ _
  have hBY : Below Y.heap.size Y Y2 := by rw [hY]; exact below_setT hBA (by omega) _ _ _ _ _
  have u0 := bA.1 0 _ rfl; have u1 := bA.1 1 _ rfl; have u2 := bA.1 2 _ rfl; have u3 := bA.1 3 _ rfl; have u4 := bA.1 4 _ rfl
  have v0 := bA.2 0 (by simp); have v1 := bA.2 1 (by simp); have v2 := bA.2 2 (by simp); have v3 := bA.2 3 (by simp); have v4 := bA.2 4 (by simp)
  refine wpAnyH_ready (rs := [13]) (by kernel_rfl) (by simp) ?_
  refine cons_at (i := 13) rfl (fun K hK => ?_) AllReadyH.nil
  go_simp
  rw [← hY]
  refine hK.out _ _ (HC _ hBY) (fun hHeld => ?_)
  clear hK K hY
  refine take_at (i := 14) (v := ?_) rfl (by kernel_rfl) (by kernel_rfl) (by kernel_rfl) (fun _ _ _ h => h) (Or.inl ⟨by rfl, ?_⟩) (by assumption) ?_
  rotate_left 1
  ·
   (intro w hSw; (try dsimp only at hSw); go_simp; (try with_reducible rfl))
  try go_frame
  refine wpAnyH_done (by kernel_rfl) ?_ _
  refine NoPanic.normal ?_
  refine HK.out _ _ ?_
  clear HK K hHeld u0 u1 u2 u3 u4 v0 v1 v2 v3 v4 bA hBA
  generalize w4.heap.size = zz at *
  clear hB4 hb4
  have BX3 := BXY.below hBY
  have BY3 := BYY.below hBY
  have IY3 := IY.below hBY
  have hB3 := Below.tr hBw hBY
  have HC2 : Hid (∀ W, Below Y2.heap.size Y2 W → _) := fun W hW => HC W (Below.tr hBY hW)
  have bS2 := bS.below hBY
  have hzz2 : z2 < zz := by omega
  clear BXY BYY IY hBY hBw HC cB hbV hsV
  obtain ⟨X, hX⟩ : ∃ X, X = failT t.tr t.wt ⟨si, st, sd, sk, sr⟩ now := ⟨_, rfl⟩
  have hXt : X.r.size ≤ maxLen := by rw [hX]; exact fail_text hsr
  have cD := fun W => refFailT_any t.a t.ns.length t.c t.tr t.wt t.le si st sd sk sr now W (by omega) hnow
  have hBe : heldE ⟨si, st, sd, sk, sr⟩ = 0 := if_pos HSO.out.2
  rw [← hX, hBe, ← HTC.out.1, ← HTC.out.2.1, ← HTC.out.2.2.1, ← HTC.out.2.2.2.1, ← HTC.out.2.2.2.2.1, ← HTC.out.2.2.2.2.2] at cD
  have HL : Hid (ansE (plainT tv) (fun _ s => heldE s) zs k = 0 ∧ ansZ (plainT tv) (fun t s => failT t.tries t.wait s now) zs zi k = mendS (plainT tv) (zs.set ix X) zi) := by
   have e1 := plainT_get HTS.out
   constructor
   ·
    unfold ansE; rw [HE.out]; simp only; rw [HSO.out.1, e1]; exact hBe
   ·
    unfold ansZ; rw [HE.out]; simp only; rw [HSO.out.1, e1, hX]; rfl
  obtain ⟨qs, hqs⟩ : ∃ qs, qs = zs.set ix X := ⟨_, rfl⟩
  rw [← hqs] at HL
  clear hX hBe
  obtain ⟨ci, ct, cd, ck, cr⟩ := X
  dsimp only [vT] at cD hXt
  refine wp_seq_k (fun K hK => ?_); have HK : Shut _ := hK; clear hK
  go_wp2
  refine HK.out _ _ ?_; clear HK K
  refine wp_seq_k (fun K hK => ?_); have HK : Shut _ := hK; clear hK
  go_wp2
  refine wp_region_noPanic ?_
  refine wp_region_held_drew (S := fun W => W.cell? ⟨z0, 2, none⟩ = some (.slice (some ⟨tb, to, none⟩) tn tc) ∧ (W.cell? ⟨tb, to + ix * 4, none⟩ = some (.slice tta tl tcc) ∧ W.cell? ⟨tb, to + ix * 4 + 1, none⟩ = some (.int .i64 ttr) ∧ W.cell? ⟨tb, to + ix * 4 + 2, none⟩ = some (.int .i64 twt) ∧ W.cell? ⟨tb, to + ix * 4 + 3, none⟩ = some (.int .i64 tle)) ∧ (W.cell? ⟨z2, 0, none⟩ = some (.int .i64 si) ∧ W.cell? ⟨z2, 1, none⟩ = some (.int .i64 st) ∧ W.cell? ⟨z2, 2, none⟩ = some (.int .i64 sd) ∧ W.cell? ⟨z2, 3, none⟩ = some (.int .i64 sk) ∧ W.cell? ⟨z2, 4, none⟩ = some (.string sr))) (by kernel_rfl) (HC2.out _ (Below.refl _ _).drew) (fun hHeld => ?_)
  refine take_at (i := 0) (v := ?_) rfl (by kernel_rfl) (by kernel_rfl) (by kernel_rfl) (fun _ _ _ h => h) (Or.inl ⟨by rfl, ?_⟩) (by assumption) ?_
  rotate_left 1
  ·
   (intro w hSw; (try dsimp only at hSw); go_simp; (try with_reducible rfl))
  try go_frame
  refine take_at (i := 1) (v := ?_) rfl (by kernel_rfl) (by kernel_rfl) (by kernel_rfl) (fun _ _ _ h => h) (Or.inl ⟨by rfl, ?_⟩) (by assumption) ?_
  rotate_left 1
  ·
   (intro w hSw; (try dsimp only at hSw); go_simp; (try with_reducible rfl))
  try go_frame
  refine take_at (i := 2) (v := ?_) rfl (by kernel_rfl) (by kernel_rfl) (by kernel_rfl) (fun _ _ _ h => h) (Or.inl ⟨by rfl, ?_⟩) (by assumption) ?_
  rotate_left 1
  ·
   (intro w hSw; (try dsimp only at hSw); go_simp; (try with_reducible rfl))
  try go_frame
  refine take_at (i := 3) (v := ?_) rfl (by kernel_rfl) (by kernel_rfl) (by kernel_rfl) (fun _ _ _ h => h) (Or.inl ⟨by rfl, ?_⟩) (by assumption) ?_
  rotate_left 1
  ·
   (intro w hSw; (try dsimp only at hSw); go_simp; (try with_reducible rfl))
  try go_frame
  refine take_at (i := 4) (v := ?_) rfl (by kernel_rfl) (by kernel_rfl) (by kernel_rfl) (fun _ _ _ h => h) (Or.inl ⟨by rfl, ?_⟩) (by assumption) ?_
  rotate_left 1
  ·
   (intro w hSw; (try dsimp only at hSw); go_simp; (try with_reducible rfl))
  try go_frame
  refine take_at (i := 5) (v := ?_) rfl (by kernel_rfl) (by kernel_rfl) (by kernel_rfl) (fun _ _ _ h => h) (Or.inl ⟨by rfl, ?_⟩) (by assumption) ?_
  rotate_left 1
  ·
   (intro w hSw; (try dsimp only at hSw); go_simp; (try with_reducible rfl))
  try go_frame
  refine take_at (i := 6) (v := ?_) rfl (by kernel_rfl) (by kernel_rfl) (by kernel_rfl) (fun _ _ _ h => h) (Or.inl ⟨by rfl, ?_⟩) (by assumption) ?_
  rotate_left 1
  ·
   (intro w hSw; (try dsimp only at hSw); go_simp; (try with_reducible rfl))
  try go_frame
  refine take_at (i := 7) (v := ?_) rfl (by kernel_rfl) (by kernel_rfl) (by kernel_rfl) (fun _ _ _ h => h) (Or.inl ⟨by rfl, ?_⟩) (by assumption) ?_
  rotate_left 1
  ·
   (intro w hSw; (try dsimp only at hSw); go_simp; (try with_reducible rfl))
  try go_frame
  refine wpAnyH_ready (rs := [8]) (by kernel_rfl) (by simp) ?_
  refine cons_at (i := 8) rfl (fun K hK => ?_) AllReadyH.nil
  go_simp
  (go_at_call 66; refine (cD _).mono ?_; rintro e w5 ⟨rfl, hb5'⟩)
  have hb5 := Below.tr (Below.refl Y2.heap.size Y2).drew hb5'
  clear hb5'
  have bY5 := bY.below hb5
  have y0 := bY5.1 0 _ rfl; have y1 := bY5.1 1 _ rfl; have y2 := bY5.1 2 _ rfl; have y3 := bY5.1 3 _ rfl; have y4 := bY5.1 4 _ rfl
  have d0 := bY5.2 0 (by simp); have d1 := bY5.2 1 (by simp); have d2 := bY5.2 2 (by simp); have d3 := bY5.2 3 (by simp); have d4 := bY5.2 4 (by simp)
  refine hK.out _ _ (HC2.out _ hb5) (fun hHeld => ?_)
  clear hK K
  obtain ⟨Y3, hY3⟩ : ∃ Y3, Y3 = (((((w5.setCell ⟨zz, 0, none⟩ (.int .i64 ci)).setCell ⟨zz, 1, none⟩ (.int .i64 ct)).setCell ⟨zz, 2, none⟩ (.int .i64 cd)).setCell ⟨zz, 3, none⟩ (.int .i64 ck)).setCell ⟨zz, 4, none⟩ (.string cr)) := ⟨_, rfl⟩
  have T3 : Turns (fun k => k = zz) w5 Y3 := by rw [hY3]; exact turns_set5 _ _ _ _ _ _ _
  have bX : BoxL Y3 zz [.int .i64 ci, .int .i64 ct, .int .i64 cd, .int .i64 ck, .string cr] := by rw [hY3]; exact boxL_set5 bY5 _ _ _ _ _
  have hBY3 : Below Y2.heap.size Y2 w5 := hb5
  refine take_at (i := 9) (v := ?_) rfl (by kernel_rfl) (by kernel_rfl) (by kernel_rfl) (fun _ _ _ h => h) (Or.inl ⟨by rfl, ?_⟩) (by assumption) ?_
  rotate_left 1
  ·
   (intro w hSw; (try dsimp only at hSw); go_simp; (try with_reducible rfl))
  try go_frame
  refine take_at (i := 10) (v := ?_) rfl (by kernel_rfl) (by kernel_rfl) (by kernel_rfl) (fun _ _ _ h => h) (Or.inl ⟨by rfl, ?_⟩) (by assumption) ?_
  rotate_left 1
  ·
   (intro w hSw; (try dsimp only at hSw); go_simp; (try with_reducible rfl))
  try go_frame
  refine take_at (i := 11) (v := ?_) rfl (by kernel_rfl) (by kernel_rfl) (by kernel_rfl) (fun _ _ _ h => h) (Or.inl ⟨by rfl, ?_⟩) (by assumption) ?_
  rotate_left 1
  ·
   (intro w hSw; (try dsimp only at hSw); go_simp; (try with_reducible rfl))
  try go_frame
  refine wpAnyH_ready (rs := [12]) (by kernel_rfl) (by simp) ?_
  refine cons_at (i := 12) rfl (fun K hK => ?_) AllReadyH.nil
  go_simp
  rw [← hY3]
  have hC3 : Y3.cell? ⟨z0, 2, none⟩ = some (.slice (some ⟨tb, to, none⟩) tn tc) ∧ (Y3.cell? ⟨tb, to + ix * 4, none⟩ = some (.slice tta tl tcc) ∧ Y3.cell? ⟨tb, to + ix * 4 + 1, none⟩ = some (.int .i64 ttr) ∧ Y3.cell? ⟨tb, to + ix * 4 + 2, none⟩ = some (.int .i64 twt) ∧ Y3.cell? ⟨tb, to + ix * 4 + 3, none⟩ = some (.int .i64 tle)) ∧ (Y3.cell? ⟨z2, 0, none⟩ = some (.int .i64 si) ∧ Y3.cell? ⟨z2, 1, none⟩ = some (.int .i64 st) ∧ Y3.cell? ⟨z2, 2, none⟩ = some (.int .i64 sd) ∧ Y3.cell? ⟨z2, 3, none⟩ = some (.int .i64 sk) ∧ Y3.cell? ⟨z2, 4, none⟩ = some (.string sr)) := by
   obtain ⟨q0, ⟨q1, q2, q3, q4⟩, q5, q6, q7, q8, q9⟩ := HC2.out _ hb5
   have htz : ¬ tb = zz := by have h1 := HTB.out; have h2 := HZ2.out; have h3 := HZZ.out; omega
   exact ⟨T3.cell (p := ⟨z0, 2, none⟩) (show ¬ z0 = zz by omega) q0, ⟨T3.cell (p := ⟨tb, to + ix * 4, none⟩) htz q1, T3.cell (p := ⟨tb, to + ix * 4 + 1, none⟩) htz q2, T3.cell (p := ⟨tb, to + ix * 4 + 2, none⟩) htz q3, T3.cell (p := ⟨tb, to + ix * 4 + 3, none⟩) htz q4⟩, T3.cell (p := ⟨z2, 0, none⟩) (show ¬ z2 = zz by omega) q5, T3.cell (p := ⟨z2, 1, none⟩) (show ¬ z2 = zz by omega) q6, T3.cell (p := ⟨z2, 2, none⟩) (show ¬ z2 = zz by omega) q7, T3.cell (p := ⟨z2, 3, none⟩) (show ¬ z2 = zz by omega) q8, T3.cell (p := ⟨z2, 4, none⟩) (show ¬ z2 = zz by omega) q9⟩
  refine hK.out _ _ hC3 (fun hHeld => ?_)
  clear hK K hC3
  refine take_at (i := 13) (v := ?_) rfl (by kernel_rfl) (by kernel_rfl) (by kernel_rfl) (fun _ _ _ h => h) (Or.inl ⟨by rfl, ?_⟩) (by assumption) ?_
  rotate_left 1
  ·
   (intro w hSw; (try dsimp only at hSw); go_simp; (try with_reducible rfl))
  try go_frame
  refine wpAnyH_done (by kernel_rfl) ?_ _
  refine NoPanic.normal ?_
  refine HK.out _ _ ?_
  clear HK K hHeld
  replace BX3 := boxL_turns (BX3.below hb5) T3 (by omega)
  replace BY3 := boxL_turns (BY3.below hb5) T3 (by omega)
  replace IY3 := (IY3.below hb5).turns T3 (fun y hy hk => by cases hy; have hk' : b = zz := hk; omega)
  replace hB3 := Below.turns (Below.tr hB3 hb5) T3 (fun k hk => by have := HZZ.out; omega)
  clear hY3 y0 y1 y2 y3 y4 d0 d1 d2 d3 d4 bY bY5 T3 hb5 bS2 cD
  refine wp_seq_k (fun K hK => ?_); have HK : Shut _ := hK; clear hK
  go_wp2
  refine HK.out _ _ ?_; clear HK K
  have cW := refWith_any ky nm (some ⟨tb, to, none⟩) tn tc zi (some ⟨b, o, none⟩) n c zs ix ci ct cd ck cr Y3 IY3 HNZ.out.1 (by have := HTN.out; omega) hXt
  rw [setI_nat, ← hqs] at cW
  have cM : ∀ V a1 c1, Below Y3.heap.size Y3 V → IsZ V a1 c1 qs → Calls Try.prog 36 #[.agg #[.string ky, .string nm, .slice (some ⟨tb, to, none⟩) tn tc, .int .i64 zi, .slice a1 n c1]] V fun e w' => ∃ v, e = .returned v ∧ MadeC V ky nm (some ⟨tb, to, none⟩) tn tc (mendS (plainT tv) qs zi).2 a1 n (mendS (plainT tv) qs zi).1 v w' := fun V a1 c1 hV hz => refMend_any ky nm (some ⟨tb, to, none⟩) tn tc zi a1 n c1 tv qs V (HT.out.below (Below.tr hB3 hV)) HTN.out.1 hz (by rw [hqs, List.length_set]; exact HNZ.out.1) HTN.out.2.1 (by have := HTN.out; omega) (fun i t h x hx => by rw [HTN.out.2.1]; exact HIN.out i t h x hx)
  obtain ⟨ms, hms⟩ : ∃ ms, ms = (mendS (plainT tv) qs zi).1 := ⟨_, rfl⟩
  obtain ⟨mi, hmi⟩ : ∃ mi, mi = (mendS (plainT tv) qs zi).2 := ⟨_, rfl⟩
  rw [← hms, ← hmi] at cM
  have HM : Hid (mendS (plainT tv) qs zi = (ms, mi)) := by show _ = _; rw [hms, hmi]
  clear hms hmi hqs IY3
  have x0 := BX3.1 0 _ rfl; have x1 := BX3.1 1 _ rfl; have x2 := BX3.1 2 _ rfl; have x3 := BX3.1 3 _ rfl; have x4 := BX3.1 4 _ rfl
  have b0 := bX.1 0 _ rfl; have b1 := bX.1 1 _ rfl; have b2 := bX.1 2 _ rfl; have b3 := bX.1 3 _ rfl; have b4 := bX.1 4 _ rfl
  refine wp_seq_k (fun K hK => ?_); have HK : Shut _ := hK; clear hK
  go_wp2_with (first
   | (go_at_call 47; refine cW.mono ?_; rintro e w5 ⟨a1, c1, rfl, hz1, hf1, hb5⟩; clear x0 x1 x2 x3 x4 b0 b1 b2 b3 b4)
   | (go_at_call 36; go_loud (refine (cM _ _ _ hb5 hz1).mono ?_; rintro e w6 ⟨v, rfl, a2, c2, rfl, hz2, hn2, hf2, hb6⟩; have BY6 := (BY3.below hb5).below hb6; have hB6 := Below.tr (Below.tr hB3 hb5) hb6; have HZ6 : Hid (IsZ w6 a2 c2 ms ∧ n = ms.length ∧ ∀ y, a2 = some y → y.block ≠ z1) := ⟨hz2, hn2, fun y hy => by have h5 := hb5.size; have h7 := BY3.lt (by simp); rcases hf2 with e | e; (have := hf1 y (by rw [← e]; exact hy); omega); (have := e y hy; omega)⟩; clear hz1 hz2 hn2 hf1 hf2 hb5 hb6 cW cM; have y0 := BY6.1 0 _ rfl; have y1 := BY6.1 1 _ rfl; have y2 := BY6.1 2 _ rfl; have y3 := BY6.1 3 _ rfl; have y4 := BY6.1 4 _ rfl; have d0 := BY6.2 0 (by simp); have d1 := BY6.2 1 (by simp); have d2 := BY6.2 2 (by simp); have d3 := BY6.2 3 (by simp); have d4 := BY6.2 4 (by simp))))
  refine HK.out _ _ ?_; clear HK K
  obtain ⟨Z2, hZ2⟩ : ∃ Z2, Z2 = (((((w6.setCell ⟨z1, 0, none⟩ (.string ky)).setCell ⟨z1, 1, none⟩ (.string nm)).setCell ⟨z1, 2, none⟩ (.slice (some ⟨tb, to, none⟩) tn tc)).setCell ⟨z1, 3, none⟩ (.int .i64 mi)).setCell ⟨z1, 4, none⟩ (.slice a2 n c2)) := ⟨_, rfl⟩
  have T2 : Turns (fun k => k = z1) w6 Z2 := by rw [hZ2]; exact turns_set5 _ _ _ _ _ _ _
  have BZ2 : BoxL Z2 z1 [.string ky, .string nm, .slice (some ⟨tb, to, none⟩) tn tc, .int .i64 mi, .slice a2 n c2] := by rw [hZ2]; exact boxL_set5 BY6 _ _ _ _ _
  have hBZ2 := Below.turns hB6 T2 (fun k hk => by have := HZZ.out; omega)
  have IZ2 := HZ6.out.1.turns T2 (fun y hy hk => HZ6.out.2.2 y hy hk)
  rw [← hZ2]
  clear hZ2
  have r0 := BZ2.1 0 _ rfl; have r1 := BZ2.1 1 _ rfl; have r2 := BZ2.1 2 _ rfl; have r3 := BZ2.1 3 _ rfl; have r4 := BZ2.1 4 _ rfl
  refine wp_ret ?_
  refine HQ9.out _ _ _ ?_
  rw [HL.out.1, HL.out.2, HM.out]
  exact bodyPost_ret (v := .tuple #[.agg #[.string ky, .string nm, .slice (some ⟨tb, to, none⟩) tn tc, .int .i64 mi, .slice a2 n c2], .int .i64 0]) (by simp [results, Try.results26, go_sem, r0, r1, r2, r3, r4]) rfl ⟨ky, nm, _, _, _, _, _, _, _, tv, _, rfl, ⟨HT.out.below hBZ2, HTN.out.1, IZ2, HZ6.out.2.1⟩, fun _ => ⟨rfl, rfl, rfl, rfl, rfl⟩, fun h => absurd rfl h, hBZ2⟩
 ·
  go_simp
  obtain ⟨A, hA⟩ : ∃ A, A = V0.alloc (.cells #[.int .i64 0, .int .i64 0, .int .i64 0, .int .i64 0, .string ⟨#[]⟩] 52) := ⟨_, rfl⟩
  have hBA : Below Y.heap.size Y A := by rw [hA]; exact hbV.alloc hsV _
  have bA : BoxL A V0.heap.size [.int .i64 0, .int .i64 0, .int .i64 0, .int .i64 0, .string ⟨#[]⟩] := by rw [hA]; exact boxL_new V0 [.int .i64 0, .int .i64 0, .int .i64 0, .int .i64 0, .string ⟨#[]⟩] _ rfl
  rw [← hA]
  refine hK.out _ _ (HC _ hBA) (fun hHeld => ?_)
  clear hK K9 hA
  refine wpAnyH_ready (rs := [8]) (by kernel_rfl) (by simp) ?_
  refine cons_at (i := 8) rfl (fun K hK => ?_) AllReadyH.nil
  go_simp
  (go_at_call 64; refine (cB _).mono ?_; rintro e w4 ⟨rfl, hb4⟩)
  replace bA := bA.below hb4
  replace hBA := Below.tr hBA hb4
  clear hb4
  refine hK.out _ _ (HC _ hBA) (fun hHeld => ?_)
  clear hK K
  refine take_at (i := 9) (v := ?_) rfl (by kernel_rfl) (by kernel_rfl) (by kernel_rfl) (fun _ _ _ h => h) (Or.inl ⟨by rfl, ?_⟩) (by assumption) ?_
  rotate_left 1
  ·
   (intro w hSw; (try dsimp only at hSw); go_simp; (try with_reducible rfl))
  try go_frame
  refine take_at (i := 10) (v := ?_) rfl (by kernel_rfl) (by kernel_rfl) (by kernel_rfl) (fun _ _ _ h => h) (Or.inl ⟨by rfl, ?_⟩) (by assumption) ?_
  rotate_left 1
  ·
   (intro w hSw; (try dsimp only at hSw); go_simp; (try with_reducible rfl))
  try go_frame
  refine take_at (i := 11) (v := ?_) rfl (by kernel_rfl) (by kernel_rfl) (by kernel_rfl) (fun _ _ _ h => h) (Or.inl ⟨by rfl, ?_⟩) (by assumption) ?_
  rotate_left 1
  ·
   (intro w hSw; (try dsimp only at hSw); go_simp; (try with_reducible rfl))
  try go_frame
  generalize w4 = A at *
  have hzV : Y.heap.size ≤ V0.heap.size := hsV
  obtain ⟨Y2, hY⟩ : ∃ Y2, Y2 = (((((A.setCell ⟨V0.heap.size, 0, none⟩ (.int .i64 bi)).setCell ⟨V0.heap.size, 1, none⟩ (.int .i64 bt)).setCell ⟨V0.heap.size, 2, none⟩ (.int .i64 bd)).setCell ⟨V0.heap.size, 3, none⟩ (.int .i64 bk)).setCell ⟨V0.heap.size, 4, none⟩ (.string br)) := ⟨_, rfl⟩
  have bY : BoxL Y2 V0.heap.size [.int .i64 bi, .int .i64 bt, .int .i64 bd, .int .i64 bk, .string br] := by rw [hY]; exact boxL_set5 bA _ _ _ _ _
  have hBY : Below Y.heap.size Y Y2 := by rw [hY]; exact below_setT hBA (by omega) _ _ _ _ _
  have u0 := bA.1 0 _ rfl; have u1 := bA.1 1 _ rfl; have u2 := bA.1 2 _ rfl; have u3 := bA.1 3 _ rfl; have u4 := bA.1 4 _ rfl
  have v0 := bA.2 0 (by simp); have v1 := bA.2 1 (by simp); have v2 := bA.2 2 (by simp); have v3 := bA.2 3 (by simp); have v4 := bA.2 4 (by simp)
  refine wpAnyH_ready (rs := [13]) (by kernel_rfl) (by simp) ?_
  refine cons_at (i := 13) rfl (fun K hK => ?_) AllReadyH.nil
  go_simp
  rw [← hY]
  refine hK.out _ _ (HC _ hBY) (fun hHeld => ?_)
  clear hK K hY
  refine take_at (i := 14) (v := ?_) rfl (by kernel_rfl) (by kernel_rfl) (by kernel_rfl) (fun _ _ _ h => h) (Or.inl ⟨by rfl, ?_⟩) (by assumption) ?_
  rotate_left 1
  ·
   (intro w hSw; (try dsimp only at hSw); go_simp; (try with_reducible rfl))
  try go_frame
  refine wpAnyH_done (by kernel_rfl) ?_ _
  refine NoPanic.normal ?_
  refine HK.out _ _ ?_
  clear HK K hHeld u0 u1 u2 u3 u4 v0 v1 v2 v3 v4 bA hBA
  generalize V0.heap.size = zz at *
  have BX3 := BXY.below hBY
  have BY3 := BYY.below hBY
  have IY3 := IY.below hBY
  have hB3 := Below.tr hBw hBY
  have HC2 : Hid (∀ W, Below Y2.heap.size Y2 W → _) := fun W hW => HC W (Below.tr hBY hW)
  have bS2 := bS.below hBY
  have hzz2 : z2 < zz := by omega
  clear BXY BYY IY hBY hBw HC cB hbV hsV
  obtain ⟨X, hX⟩ : ∃ X, X = failT t.tr t.wt ⟨si, st, sd, sk, sr⟩ now := ⟨_, rfl⟩
  have hXt : X.r.size ≤ maxLen := by rw [hX]; exact fail_text hsr
  have cD := fun W => refFailT_any t.a t.ns.length t.c t.tr t.wt t.le si st sd sk sr now W (by omega) hnow
  have hBe : heldE ⟨si, st, sd, sk, sr⟩ = 0 := if_pos HSO.out.2
  rw [← hX, hBe, ← HTC.out.1, ← HTC.out.2.1, ← HTC.out.2.2.1, ← HTC.out.2.2.2.1, ← HTC.out.2.2.2.2.1, ← HTC.out.2.2.2.2.2] at cD
  have HL : Hid (ansE (plainT tv) (fun _ s => heldE s) zs k = 0 ∧ ansZ (plainT tv) (fun t s => failT t.tries t.wait s now) zs zi k = mendS (plainT tv) (zs.set ix X) zi) := by
   have e1 := plainT_get HTS.out
   constructor
   ·
    unfold ansE; rw [HE.out]; simp only; rw [HSO.out.1, e1]; exact hBe
   ·
    unfold ansZ; rw [HE.out]; simp only; rw [HSO.out.1, e1, hX]; rfl
  obtain ⟨qs, hqs⟩ : ∃ qs, qs = zs.set ix X := ⟨_, rfl⟩
  rw [← hqs] at HL
  clear hX hBe
  obtain ⟨ci, ct, cd, ck, cr⟩ := X
  dsimp only [vT] at cD hXt
  refine wp_seq_k (fun K hK => ?_); have HK : Shut _ := hK; clear hK
  go_wp2
  refine HK.out _ _ ?_; clear HK K
  refine wp_seq_k (fun K hK => ?_); have HK : Shut _ := hK; clear hK
  go_wp2
  refine wp_region_noPanic ?_
  refine wp_region_held_drew (S := fun W => W.cell? ⟨z0, 2, none⟩ = some (.slice (some ⟨tb, to, none⟩) tn tc) ∧ (W.cell? ⟨tb, to + ix * 4, none⟩ = some (.slice tta tl tcc) ∧ W.cell? ⟨tb, to + ix * 4 + 1, none⟩ = some (.int .i64 ttr) ∧ W.cell? ⟨tb, to + ix * 4 + 2, none⟩ = some (.int .i64 twt) ∧ W.cell? ⟨tb, to + ix * 4 + 3, none⟩ = some (.int .i64 tle)) ∧ (W.cell? ⟨z2, 0, none⟩ = some (.int .i64 si) ∧ W.cell? ⟨z2, 1, none⟩ = some (.int .i64 st) ∧ W.cell? ⟨z2, 2, none⟩ = some (.int .i64 sd) ∧ W.cell? ⟨z2, 3, none⟩ = some (.int .i64 sk) ∧ W.cell? ⟨z2, 4, none⟩ = some (.string sr))) (by kernel_rfl) (HC2.out _ (Below.refl _ _).drew) (fun hHeld => ?_)
  refine take_at (i := 0) (v := ?_) rfl (by kernel_rfl) (by kernel_rfl) (by kernel_rfl) (fun _ _ _ h => h) (Or.inl ⟨by rfl, ?_⟩) (by assumption) ?_
  rotate_left 1
  ·
   (intro w hSw; (try dsimp only at hSw); go_simp; (try with_reducible rfl))
  try go_frame
  refine take_at (i := 1) (v := ?_) rfl (by kernel_rfl) (by kernel_rfl) (by kernel_rfl) (fun _ _ _ h => h) (Or.inl ⟨by rfl, ?_⟩) (by assumption) ?_
  rotate_left 1
  ·
   (intro w hSw; (try dsimp only at hSw); go_simp; (try with_reducible rfl))
  try go_frame
  refine take_at (i := 2) (v := ?_) rfl (by kernel_rfl) (by kernel_rfl) (by kernel_rfl) (fun _ _ _ h => h) (Or.inl ⟨by rfl, ?_⟩) (by assumption) ?_
  rotate_left 1
  ·
   (intro w hSw; (try dsimp only at hSw); go_simp; (try with_reducible rfl))
  try go_frame
  refine take_at (i := 3) (v := ?_) rfl (by kernel_rfl) (by kernel_rfl) (by kernel_rfl) (fun _ _ _ h => h) (Or.inl ⟨by rfl, ?_⟩) (by assumption) ?_
  rotate_left 1
  ·
   (intro w hSw; (try dsimp only at hSw); go_simp; (try with_reducible rfl))
  try go_frame
  refine take_at (i := 4) (v := ?_) rfl (by kernel_rfl) (by kernel_rfl) (by kernel_rfl) (fun _ _ _ h => h) (Or.inl ⟨by rfl, ?_⟩) (by assumption) ?_
  rotate_left 1
  ·
   (intro w hSw; (try dsimp only at hSw); go_simp; (try with_reducible rfl))
  try go_frame
  refine take_at (i := 5) (v := ?_) rfl (by kernel_rfl) (by kernel_rfl) (by kernel_rfl) (fun _ _ _ h => h) (Or.inl ⟨by rfl, ?_⟩) (by assumption) ?_
  rotate_left 1
  ·
   (intro w hSw; (try dsimp only at hSw); go_simp; (try with_reducible rfl))
  try go_frame
  refine take_at (i := 6) (v := ?_) rfl (by kernel_rfl) (by kernel_rfl) (by kernel_rfl) (fun _ _ _ h => h) (Or.inl ⟨by rfl, ?_⟩) (by assumption) ?_
  rotate_left 1
  ·
   (intro w hSw; (try dsimp only at hSw); go_simp; (try with_reducible rfl))
  try go_frame
  refine take_at (i := 7) (v := ?_) rfl (by kernel_rfl) (by kernel_rfl) (by kernel_rfl) (fun _ _ _ h => h) (Or.inl ⟨by rfl, ?_⟩) (by assumption) ?_
  rotate_left 1
  ·
   (intro w hSw; (try dsimp only at hSw); go_simp; (try with_reducible rfl))
  try go_frame
  refine wpAnyH_ready (rs := [8]) (by kernel_rfl) (by simp) ?_
  refine cons_at (i := 8) rfl (fun K hK => ?_) AllReadyH.nil
  go_simp
  (go_at_call 66; refine (cD _).mono ?_; rintro e w5 ⟨rfl, hb5'⟩)
  have hb5 := Below.tr (Below.refl Y2.heap.size Y2).drew hb5'
  clear hb5'
  have bY5 := bY.below hb5
  have y0 := bY5.1 0 _ rfl; have y1 := bY5.1 1 _ rfl; have y2 := bY5.1 2 _ rfl; have y3 := bY5.1 3 _ rfl; have y4 := bY5.1 4 _ rfl
  have d0 := bY5.2 0 (by simp); have d1 := bY5.2 1 (by simp); have d2 := bY5.2 2 (by simp); have d3 := bY5.2 3 (by simp); have d4 := bY5.2 4 (by simp)
  refine hK.out _ _ (HC2.out _ hb5) (fun hHeld => ?_)
  clear hK K
  obtain ⟨Y3, hY3⟩ : ∃ Y3, Y3 = (((((w5.setCell ⟨zz, 0, none⟩ (.int .i64 ci)).setCell ⟨zz, 1, none⟩ (.int .i64 ct)).setCell ⟨zz, 2, none⟩ (.int .i64 cd)).setCell ⟨zz, 3, none⟩ (.int .i64 ck)).setCell ⟨zz, 4, none⟩ (.string cr)) := ⟨_, rfl⟩
  have T3 : Turns (fun k => k = zz) w5 Y3 := by rw [hY3]; exact turns_set5 _ _ _ _ _ _ _
  have bX : BoxL Y3 zz [.int .i64 ci, .int .i64 ct, .int .i64 cd, .int .i64 ck, .string cr] := by rw [hY3]; exact boxL_set5 bY5 _ _ _ _ _
  have hBY3 : Below Y2.heap.size Y2 w5 := hb5
  refine take_at (i := 9) (v := ?_) rfl (by kernel_rfl) (by kernel_rfl) (by kernel_rfl) (fun _ _ _ h => h) (Or.inl ⟨by rfl, ?_⟩) (by assumption) ?_
  rotate_left 1
  ·
   (intro w hSw; (try dsimp only at hSw); go_simp; (try with_reducible rfl))
  try go_frame
  refine take_at (i := 10) (v := ?_) rfl (by kernel_rfl) (by kernel_rfl) (by kernel_rfl) (fun _ _ _ h => h) (Or.inl ⟨by rfl, ?_⟩) (by assumption) ?_
  rotate_left 1
  ·
   (intro w hSw; (try dsimp only at hSw); go_simp; (try with_reducible rfl))
  try go_frame
  refine take_at (i := 11) (v := ?_) rfl (by kernel_rfl) (by kernel_rfl) (by kernel_rfl) (fun _ _ _ h => h) (Or.inl ⟨by rfl, ?_⟩) (by assumption) ?_
  rotate_left 1
  ·
   (intro w hSw; (try dsimp only at hSw); go_simp; (try with_reducible rfl))
  try go_frame
  refine wpAnyH_ready (rs := [12]) (by kernel_rfl) (by simp) ?_
  refine cons_at (i := 12) rfl (fun K hK => ?_) AllReadyH.nil
  go_simp
  rw [← hY3]
  have hC3 : Y3.cell? ⟨z0, 2, none⟩ = some (.slice (some ⟨tb, to, none⟩) tn tc) ∧ (Y3.cell? ⟨tb, to + ix * 4, none⟩ = some (.slice tta tl tcc) ∧ Y3.cell? ⟨tb, to + ix * 4 + 1, none⟩ = some (.int .i64 ttr) ∧ Y3.cell? ⟨tb, to + ix * 4 + 2, none⟩ = some (.int .i64 twt) ∧ Y3.cell? ⟨tb, to + ix * 4 + 3, none⟩ = some (.int .i64 tle)) ∧ (Y3.cell? ⟨z2, 0, none⟩ = some (.int .i64 si) ∧ Y3.cell? ⟨z2, 1, none⟩ = some (.int .i64 st) ∧ Y3.cell? ⟨z2, 2, none⟩ = some (.int .i64 sd) ∧ Y3.cell? ⟨z2, 3, none⟩ = some (.int .i64 sk) ∧ Y3.cell? ⟨z2, 4, none⟩ = some (.string sr)) := by
   obtain ⟨q0, ⟨q1, q2, q3, q4⟩, q5, q6, q7, q8, q9⟩ := HC2.out _ hb5
   have htz : ¬ tb = zz := by have h1 := HTB.out; have h2 := HZ2.out; have h3 := HZZ.out; omega
   exact ⟨T3.cell (p := ⟨z0, 2, none⟩) (show ¬ z0 = zz by omega) q0, ⟨T3.cell (p := ⟨tb, to + ix * 4, none⟩) htz q1, T3.cell (p := ⟨tb, to + ix * 4 + 1, none⟩) htz q2, T3.cell (p := ⟨tb, to + ix * 4 + 2, none⟩) htz q3, T3.cell (p := ⟨tb, to + ix * 4 + 3, none⟩) htz q4⟩, T3.cell (p := ⟨z2, 0, none⟩) (show ¬ z2 = zz by omega) q5, T3.cell (p := ⟨z2, 1, none⟩) (show ¬ z2 = zz by omega) q6, T3.cell (p := ⟨z2, 2, none⟩) (show ¬ z2 = zz by omega) q7, T3.cell (p := ⟨z2, 3, none⟩) (show ¬ z2 = zz by omega) q8, T3.cell (p := ⟨z2, 4, none⟩) (show ¬ z2 = zz by omega) q9⟩
  refine hK.out _ _ hC3 (fun hHeld => ?_)
  clear hK K hC3
  refine take_at (i := 13) (v := ?_) rfl (by kernel_rfl) (by kernel_rfl) (by kernel_rfl) (fun _ _ _ h => h) (Or.inl ⟨by rfl, ?_⟩) (by assumption) ?_
  rotate_left 1
  ·
   (intro w hSw; (try dsimp only at hSw); go_simp; (try with_reducible rfl))
  try go_frame
  refine wpAnyH_done (by kernel_rfl) ?_ _
  refine NoPanic.normal ?_
  refine HK.out _ _ ?_
  clear HK K hHeld
  replace BX3 := boxL_turns (BX3.below hb5) T3 (by omega)
  replace BY3 := boxL_turns (BY3.below hb5) T3 (by omega)
  replace IY3 := (IY3.below hb5).turns T3 (fun y hy hk => by cases hy; have hk' : b = zz := hk; omega)
  replace hB3 := Below.turns (Below.tr hB3 hb5) T3 (fun k hk => by have := HZZ.out; omega)
  clear hY3 y0 y1 y2 y3 y4 d0 d1 d2 d3 d4 bY bY5 T3 hb5 bS2 cD
  refine wp_seq_k (fun K hK => ?_); have HK : Shut _ := hK; clear hK
  go_wp2
  refine HK.out _ _ ?_; clear HK K
  have cW := refWith_any ky nm (some ⟨tb, to, none⟩) tn tc zi (some ⟨b, o, none⟩) n c zs ix ci ct cd ck cr Y3 IY3 HNZ.out.1 (by have := HTN.out; omega) hXt
  rw [setI_nat, ← hqs] at cW
  have cM : ∀ V a1 c1, Below Y3.heap.size Y3 V → IsZ V a1 c1 qs → Calls Try.prog 36 #[.agg #[.string ky, .string nm, .slice (some ⟨tb, to, none⟩) tn tc, .int .i64 zi, .slice a1 n c1]] V fun e w' => ∃ v, e = .returned v ∧ MadeC V ky nm (some ⟨tb, to, none⟩) tn tc (mendS (plainT tv) qs zi).2 a1 n (mendS (plainT tv) qs zi).1 v w' := fun V a1 c1 hV hz => refMend_any ky nm (some ⟨tb, to, none⟩) tn tc zi a1 n c1 tv qs V (HT.out.below (Below.tr hB3 hV)) HTN.out.1 hz (by rw [hqs, List.length_set]; exact HNZ.out.1) HTN.out.2.1 (by have := HTN.out; omega) (fun i t h x hx => by rw [HTN.out.2.1]; exact HIN.out i t h x hx)
  obtain ⟨ms, hms⟩ : ∃ ms, ms = (mendS (plainT tv) qs zi).1 := ⟨_, rfl⟩
  obtain ⟨mi, hmi⟩ : ∃ mi, mi = (mendS (plainT tv) qs zi).2 := ⟨_, rfl⟩
  rw [← hms, ← hmi] at cM
  have HM : Hid (mendS (plainT tv) qs zi = (ms, mi)) := by show _ = _; rw [hms, hmi]
  clear hms hmi hqs IY3
  have x0 := BX3.1 0 _ rfl; have x1 := BX3.1 1 _ rfl; have x2 := BX3.1 2 _ rfl; have x3 := BX3.1 3 _ rfl; have x4 := BX3.1 4 _ rfl
  have b0 := bX.1 0 _ rfl; have b1 := bX.1 1 _ rfl; have b2 := bX.1 2 _ rfl; have b3 := bX.1 3 _ rfl; have b4 := bX.1 4 _ rfl
  refine wp_seq_k (fun K hK => ?_); have HK : Shut _ := hK; clear hK
  go_wp2_with (first
   | (go_at_call 47; refine cW.mono ?_; rintro e w5 ⟨a1, c1, rfl, hz1, hf1, hb5⟩; clear x0 x1 x2 x3 x4 b0 b1 b2 b3 b4)
   | (go_at_call 36; go_loud (refine (cM _ _ _ hb5 hz1).mono ?_; rintro e w6 ⟨v, rfl, a2, c2, rfl, hz2, hn2, hf2, hb6⟩; have BY6 := (BY3.below hb5).below hb6; have hB6 := Below.tr (Below.tr hB3 hb5) hb6; have HZ6 : Hid (IsZ w6 a2 c2 ms ∧ n = ms.length ∧ ∀ y, a2 = some y → y.block ≠ z1) := ⟨hz2, hn2, fun y hy => by have h5 := hb5.size; have h7 := BY3.lt (by simp); rcases hf2 with e | e; (have := hf1 y (by rw [← e]; exact hy); omega); (have := e y hy; omega)⟩; clear hz1 hz2 hn2 hf1 hf2 hb5 hb6 cW cM; have y0 := BY6.1 0 _ rfl; have y1 := BY6.1 1 _ rfl; have y2 := BY6.1 2 _ rfl; have y3 := BY6.1 3 _ rfl; have y4 := BY6.1 4 _ rfl; have d0 := BY6.2 0 (by simp); have d1 := BY6.2 1 (by simp); have d2 := BY6.2 2 (by simp); have d3 := BY6.2 3 (by simp); have d4 := BY6.2 4 (by simp))))
  refine HK.out _ _ ?_; clear HK K
  obtain ⟨Z2, hZ2⟩ : ∃ Z2, Z2 = (((((w6.setCell ⟨z1, 0, none⟩ (.string ky)).setCell ⟨z1, 1, none⟩ (.string nm)).setCell ⟨z1, 2, none⟩ (.slice (some ⟨tb, to, none⟩) tn tc)).setCell ⟨z1, 3, none⟩ (.int .i64 mi)).setCell ⟨z1, 4, none⟩ (.slice a2 n c2)) := ⟨_, rfl⟩
  have T2 : Turns (fun k => k = z1) w6 Z2 := by rw [hZ2]; exact turns_set5 _ _ _ _ _ _ _
  have BZ2 : BoxL Z2 z1 [.string ky, .string nm, .slice (some ⟨tb, to, none⟩) tn tc, .int .i64 mi, .slice a2 n c2] := by rw [hZ2]; exact boxL_set5 BY6 _ _ _ _ _
  have hBZ2 := Below.turns hB6 T2 (fun k hk => by have := HZZ.out; omega)
  have IZ2 := HZ6.out.1.turns T2 (fun y hy hk => HZ6.out.2.2 y hy hk)
  rw [← hZ2]
  clear hZ2
  have r0 := BZ2.1 0 _ rfl; have r1 := BZ2.1 1 _ rfl; have r2 := BZ2.1 2 _ rfl; have r3 := BZ2.1 3 _ rfl; have r4 := BZ2.1 4 _ rfl
  refine wp_ret ?_
  refine HQ9.out _ _ _ ?_
  rw [HL.out.1, HL.out.2, HM.out]
  exact bodyPost_ret (v := .tuple #[.agg #[.string ky, .string nm, .slice (some ⟨tb, to, none⟩) tn tc, .int .i64 mi, .slice a2 n c2], .int .i64 0]) (by simp [results, Try.results26, go_sem, r0, r1, r2, r3, r4]) rfl ⟨ky, nm, _, _, _, _, _, _, _, tv, _, rfl, ⟨HT.out.below hBZ2, HTN.out.1, IZ2, HZ6.out.2.1⟩, fun _ => ⟨rfl, rfl, rfl, rfl, rfl⟩, fun h => absurd rfl h, hBZ2⟩
end Go.Proofs.Ytdpljpjbomhccaa
namespace Go.Proofs.Ytdpljpjbomhccaa
open Go.RowKit Plain Go.ChangeShapes Go.WideShapes
set_option linter.unusedVariables false
theorem arrayT5 {α : Type} {cs : Array α} (h : cs.size = 5) : ∃ c0 c1 c2 c3 c4, cs = #[c0, c1, c2, c3, c4] := by
 rcases cs with ⟨l⟩
 match l, h with
 | [c0, c1, c2, c3, c4], _ => exact ⟨c0, c1, c2, c3, c4, rfl⟩
theorem wf_le {n : Int} (h : (Lit.int .i64 n).wf = true) : -9223372036854775808 ≤ n ∧ n ≤ 9223372036854775807 := by simpa [Lit.wf, IntKind.min, IntKind.max, IntKind.signed, IntKind.bits] using h
set_option maxRecDepth 20000 in
theorem open_run {H : Type} {enc : TypeId × Value → H} {w : World} {r : Reach} {b0 : Nat} {v : Value} {d : DataW H} {p : List MemPlace}
  (hv : Value.okWide Try.prog w r b0 27 v) (h : DataW.Trod enc Try.prog w 0 (fun _ => true) true 27 v d p) :
  ∃ ky nm a c ts is sa sc ss, v = .agg #[.string ky, .string nm, .slice a (List.length ts) c, .int .i64 is, .slice sa (List.length ss) sc] ∧ ky.size ≤ maxLen ∧ nm.size ≤ maxLen ∧ IsT w a c ts ∧ (Lit.int .i64 is).wf = true ∧ IsZ w sa sc ss := by
 obtain ⟨cs, rfl, hsz⟩ := okWide_struct Try.underlying27 hv
 obtain ⟨c0, c1, c2, c3, c4, rfl⟩ := arrayT5 (hsz.trans (by kernel_rfl))
 obtain ⟨fuel, hf⟩ := h
 obtain ⟨xs, n, _, _, hl, hlen, hg⟩ := DataW.trod_struct Try.underlying27 hf
 match xs, hlen with
 | [y0, y1, y2, y3], _ =>
  have s1 : Try.prog.cellsOf 9 = 1 := by kernel_rfl
  have s2 : Try.prog.cellsOf 3 = 1 := by kernel_rfl
  have s3 : Try.prog.cellsOf 24 = 2 := by kernel_rfl
  have s4 : Try.prog.cellsOf 25 = 1 := by kernel_rfl
  have s5 : Try.prog.cellsOf 22 = 1 := by kernel_rfl
  have h0 := hg 0 _ rfl
  have h1 := hg 1 _ rfl
  have h2 := hg 2 _ rfl
  have h3 := hg 3 _ rfl
  simp [Value.cells, s1, s2, s3, s4] at h0 h1 h2 h3
  obtain ⟨ky, e0, _, w0⟩ := DataW.trod_string Try.underlying9 h0
  obtain ⟨z0, z1, m, _, _, g0, g1⟩ := trod_struct2 Try.underlying24 h1
  simp [s1, s5] at g0 g1
  obtain ⟨nm, e1, _, w1⟩ := DataW.trod_string Try.underlying9 g0
  obtain ⟨a, c, ts, e2, hT⟩ := open_T g1
  obtain ⟨is, e3, _, w3⟩ := DataW.trod_int (k := .i64) Try.underlying3 h2
  obtain ⟨sa, sc, ss, e4, hZ⟩ := open_Z h3
  simp at e0 e1 e3
  subst e0 e1 e2 e3 e4
  exact ⟨ky, nm, a, c, ts, is, sa, sc, ss, rfl, w0, w1, hT, w3, hZ⟩
end Go.Proofs.Ytdpljpjbomhccaa
namespace Go.Proofs.Ytdpljpjbomhccaa
open Go.RowKit Plain
set_option linter.unusedVariables false
def cutV (t : TaskV) : TaskV := { t with ns := t.ns.take 20 }
def fewT (ts : List TaskV) : List TaskV := (ts.take 20).map cutV
def cutVs (ts : List TaskV) (j : Nat) : List TaskV := (ts.take j).map cutV ++ ts.drop j
theorem cutVs_zero (ts : List TaskV) : cutVs ts 0 = ts := by simp [cutVs]
theorem cutVs_all (ts : List TaskV) : cutVs ts ts.length = ts.map cutV := by simp [cutVs]
theorem cutVs_at {ts : List TaskV} {j : Nat} {t : TaskV} (h : ts[j]? = some t) : (cutVs ts j)[j]? = some t := by
 have hj := (List.getElem?_eq_some_iff.1 h).1
 unfold cutVs
 rw [List.getElem?_append_right (by simp; omega), List.length_map, List.length_take, Nat.min_eq_left (by omega), Nat.sub_self, List.getElem?_drop, Nat.add_zero]
 exact h
theorem cutVs_succ {ts : List TaskV} {j : Nat} {t : TaskV} (h : ts[j]? = some t) : cutVs ts (j + 1) = (cutVs ts j).set j (cutV t) := by
 have hj := (List.getElem?_eq_some_iff.1 h).1
 unfold cutVs
 rw [List.take_add_one, h, List.map_append, List.set_append_right _ _ (by simp; omega), List.length_map, List.length_take, Nat.min_eq_left (by omega), Nat.sub_self, List.drop_eq_getElem_cons hj, List.set_cons_zero, List.append_assoc]
 rfl
def fewS (ss : List StP) : List StP := ss.take 20
set_option maxRecDepth 20000 in
set_option maxHeartbeats 4000000 in
theorem few19_any (ky s : ByteArray) (a : Option Addr) (n c : Nat) (is : Int) (sa : Option Addr) (q sc : Nat) (ts0 : List TaskV) (ss : List StP) (w : World) (hn : n = ts0.length) (hT0 : IsT w a c ts0) (hq : q = ss.length) (hZ0 : IsZ w sa sc ss) :
  Calls Try.prog 9 #[.agg #[.string ky, .string s, .slice a n c, .int .i64 is, .slice sa q sc]] w fun e w' => ∃ a' c' n' q', n' = (fewT ts0).length ∧ q' = (fewS ss).length ∧ e = .returned (.agg #[.string ky, .string s, .slice a' n' c', .int .i64 is, .slice sa q' sc]) ∧ IsT w' a' c' (fewT ts0) ∧ IsZ w' sa sc (fewS ss) ∧ From w.heap.size a' ∧ Below w.heap.size w w' := by
 obtain ⟨ts, hts⟩ : ∃ ts, ts = ts0.take 20 := ⟨_, rfl⟩
 obtain ⟨m, hm⟩ : ∃ m, m = ts.length := ⟨_, rfl⟩
 have hmin : min (n : Int) 20 = (m : Int) := by rw [hm, hts, List.length_take, hn]; omega
 have hmc : m ≤ c := by rw [hm, hts, List.length_take]; have := hT0.1; omega
 have hmn : m ≤ n := by rw [hm, hts, List.length_take, hn]; omega
 have hnm : n ≤ 9223372036854775807 := by rw [hn]; exact Nat.le_trans hT0.1 hT0.2.1
 have hnc : n ≤ c := by rw [hn]; exact hT0.1
 have hcm : c ≤ 9223372036854775807 := hT0.2.1
 obtain ⟨q2, hq2⟩ : ∃ q2, q2 = (fewS ss).length := ⟨_, rfl⟩
 have hminq : min (q : Int) 20 = (q2 : Int) := by rw [hq2, fewS, List.length_take, hq]; omega
 have hqq : q2 ≤ q := by rw [hq2, fewS, List.length_take, hq]; omega
 have hqm : q ≤ 9223372036854775807 := by rw [hq]; exact hZ0.size
 have hqc : q ≤ sc := by rw [hq]; exact hZ0.1
 have hscm : sc ≤ 9223372036854775807 := hZ0.2.1
 have hmr := min_run hmin
 have hmrq := min_run hminq
 have hm20 : m ≤ 20 := by rw [hm, hts, List.length_take]; omega
 obtain ⟨W, hW⟩ : ∃ W, W = (w.alloc (.cells #[.string ky, .string s, .slice a n c, .int .i64 is, .slice sa q sc] 27)).alloc (.cells #[.string ⟨#[]⟩, .string ⟨#[]⟩, .slice none 0 0, .int .i64 0, .slice none 0 0] 27) := ⟨_, rfl⟩
 have hB0 : Below w.heap.size w W := by rw [hW]; exact bel2 w _ _
 have bX : BoxL W w.heap.size [.string ky, .string s, .slice a n c, .int .i64 is, .slice sa q sc] := by rw [hW]; exact (boxL_new w [.string ky, .string s, .slice a n c, .int .i64 is, .slice sa q sc] _ rfl).alloc _
 have bY : BoxL W (w.heap.size + 1) [.string ⟨#[]⟩, .string ⟨#[]⟩, .slice none 0 0, .int .i64 0, .slice none 0 0] := by rw [hW]; exact boxL_new _ [.string ⟨#[]⟩, .string ⟨#[]⟩, .slice none 0 0, .int .i64 0, .slice none 0 0] _ (by simp)
 have hT : IsT W a c ts := by rw [hts]; exact (hT0.below hB0).take 20
 have hsz : W.heap.size = w.heap.size + 1 + 1 := by rw [hW]; simp
 obtain ⟨g, cap, w1, hrun, hg, hrow, hb1⟩ := copyK W a c m ts hm hT (by omega) 22
 rw [hsz] at hrun hg
 have hB1 : Below w.heap.size w w1 := Below.tr hB0 hb1
 have HN : Hid (NeedsIn w ts) := by rw [hts]; exact (hT0.take 20).2.2.1
 have HF : Hid (fewT ts0 = ts.map cutV) := by show _ = _; rw [hts]; rfl
 have HM : Hid (m = ts.length) := hm
 have HQ : Hid (q2 = (fewS ss).length) := hq2
 have HZ : Hid (IsZ w sa sc (fewS ss)) := hZ0.take 20
 have bX1 := bX.below hb1
 have bY1 := bY.below hb1
 have hgl : m ≤ cap ∧ cap ≤ maxLen := by obtain ⟨_, _, _, h1, h2, _⟩ := hrow; exact ⟨by omega, h2⟩
 obtain ⟨hgl1, hgl2⟩ := hgl
 have q2' := bX.1 2 _ rfl
 have q2b := cell_alloc q2'
 have f2 : w1.frozen? ⟨w.heap.size, 2, none⟩ = false := bX1.2 2 (by simp)
 have y2 := bX1.1 2 _ rfl
 have HR : Hid (RowK w1 g cap ts) := hrow
 clear hT0 hT hts hn hrow bX bY hm hB0 hb1 hmin hminq hq2 hq hZ0
 go_enter Try.func9, Try.ntmps9
 go_wp2_with (at_builtin; rw [← hW]; refine Lib.wpList_append_run _ rfl _ _ _ _ rfl _ _ rfl rfl _ _ hrun ?_)
 obtain ⟨V, hV⟩ : ∃ V, V = w1.setCell ⟨w.heap.size, 2, none⟩ (.slice (some ⟨g, 0, none⟩) m cap) := ⟨_, rfl⟩
 have bX2 : BoxL V w.heap.size [.string ky, .string s, .slice (some ⟨g, 0, none⟩) m cap, .int .i64 is, .slice sa q sc] := by rw [hV]; exact bX1.set 2 _
 have bY2 : BoxL V (w.heap.size + 1) [.string ⟨#[]⟩, .string ⟨#[]⟩, .slice none 0 0, .int .i64 0, .slice none 0 0] := by rw [hV]; exact bY1.off (by omega)
 have hB2 : Below w.heap.size w V := by rw [hV]; exact hB1.setCell (p := ⟨w.heap.size, 2, none⟩) (Nat.le_refl _) _
 have R2 : RowK V g cap (cutVs ts 0) := by rw [hV, cutVs_zero]; exact HR.out.other (by omega)
 rw [← hV]
 clear hV HR bX1 bY1 hB1 hrun q2' q2b f2 y2 hmr
 go_loopw [22] (fun v wr => ∃ j : Nat, j ≤ m ∧ v = .int .i64 j ∧ BoxL wr w.heap.size [.string ky, .string s, .slice (some ⟨g, 0, none⟩) m cap, .int .i64 is, .slice sa q sc] ∧ BoxL wr (w.heap.size + 1) [.string ⟨#[]⟩, .string ⟨#[]⟩, .slice none 0 0, .int .i64 0, .slice none 0 0] ∧ RowK wr g cap (cutVs ts j) ∧ Below w.heap.size w wr) (fun v _ => m - (intOf v).toNat)
 case atStart => exact ⟨0, by omega, rfl, bX2, bY2, R2, hB2⟩
 case round =>
  clear bX2 bY2 R2 hB2
  obtain ⟨j, hj, rfl, bX, bY, hR, hB⟩ := hrel
  by_cases hlt : j < m
  ·
   have hlt' : (j : Int) < m := by omega
   obtain ⟨t, ht⟩ : ∃ t, ts[j]? = some t := ⟨_, List.getElem?_eq_getElem (by rw [← HM.out]; exact hlt)⟩
   obtain ⟨d0, d1, d2, d3⟩ := cellsT_at (cutVs_at ht)
   obtain ⟨z0, g0⟩ := hR.at d0
   obtain ⟨z1, -⟩ := hR.at d1
   obtain ⟨z2, -⟩ := hR.at d2
   obtain ⟨z3, -⟩ := hR.at d3
   have hI := HN.out t (List.mem_of_getElem? ht)
   obtain ⟨k, hk⟩ : ∃ k, k = t.ns.length := ⟨_, rfl⟩
   obtain ⟨p, hp⟩ : ∃ p, p = (t.ns.take 20).length := ⟨_, rfl⟩
   have hmin2 : min (k : Int) 20 = (p : Int) := by rw [hk, hp, List.length_take]; omega
   have hmr2 := min_run hmin2
   have hpk : p ≤ k := by rw [hk, hp, List.length_take]; omega
   have hkc : k ≤ t.c := by rw [hk]; exact hI.1
   have htc : t.c ≤ 9223372036854775807 := hI.2.1
   have hpc : p ≤ t.c := by omega
   rw [← hk] at z0
   have hgb : g < wr.heap.size := hR.lt
   obtain ⟨Y, hY⟩ : ∃ Y, Y = ((wr.setCell ⟨g, j * 4, none⟩ (.slice t.a p t.c)).alloc (.cells #[.slice t.a k t.c, .int .i64 t.tr, .int .i64 t.wt, .int .i64 t.le] 50)).drew := ⟨_, rfl⟩
   have hbA : Below (wr.setCell ⟨g, j * 4, none⟩ (.slice t.a p t.c)).heap.size (wr.setCell ⟨g, j * 4, none⟩ (.slice t.a p t.c)) Y := by rw [hY]; exact ((Below.refl _ _).alloc (Nat.le_refl _) _).drew
   have RY : Hid (RowK Y g cap (cutVs ts (j + 1))) := by
    show RowK _ _ _ _
    rw [cutVs_succ ht]
    have := hR.cut (cutVs_at ht) (t.ns.take 20) (by rw [List.length_take]; omega)
    rw [← hp] at this
    exact this.below hbA
   have BY : Below w.heap.size w Y := Below.tr (hB.setCell (p := ⟨g, j * 4, none⟩) (by show _ ≤ g; omega) _) hbA
   have XY : BoxL Y w.heap.size [.string ky, .string s, .slice (some ⟨g, 0, none⟩) m cap, .int .i64 is, .slice sa q sc] := (bX.off (by omega)).below hbA
   have YY : BoxL Y (w.heap.size + 1) [.string ⟨#[]⟩, .string ⟨#[]⟩, .slice none 0 0, .int .i64 0, .slice none 0 0] := (bY.off (by omega)).below hbA
   have x2 := bX.1 2 _ rfl
   have x2' := cell_alloc x2
   have g0' : ∀ o, (wr.alloc o).frozen? ⟨g, j * 4, none⟩ = false := fun o => by rw [((Below.refl wr.heap.size wr).alloc (Nat.le_refl _) o).frozen (p := ⟨g, j * 4, none⟩) hgb]; exact g0
   have z0' := cell_alloc z0
   clear hR bX bY hI hk hp d0 d1 d2 d3 ht hB hbA
   go_wp2
   go_region
   go_wp2
   rw [← hY]
   go_roundw
   case rel => exact ⟨j + 1, by omega, by go_num, XY, YY, RY.out, BY⟩
   case measure => simp [intOf]; omega
  ·
   obtain rfl : m = j := by omega
   have hR2 : Hid (RowK wr g cap ((ts.map cutV))) := by
    have := hR
    rw [HM.out, cutVs_all] at this
    exact this
   obtain ⟨Z1, hZ1⟩ : ∃ Z1, Z1 = wr.setCell ⟨w.heap.size, 4, none⟩ (.slice sa q2 sc) := ⟨_, rfl⟩
   have bX1 : BoxL Z1 w.heap.size [.string ky, .string s, .slice (some ⟨g, 0, none⟩) m cap, .int .i64 is, .slice sa q2 sc] := by rw [hZ1]; exact bX.set 4 _
   have bY1 : BoxL Z1 (w.heap.size + 1) [.string ⟨#[]⟩, .string ⟨#[]⟩, .slice none 0 0, .int .i64 0, .slice none 0 0] := by rw [hZ1]; exact bY.off (by omega)
   obtain ⟨Z, hZ9⟩ : ∃ Z, Z = (((((Z1.setCell ⟨w.heap.size + 1, 0, none⟩ (.string ky)).setCell ⟨w.heap.size + 1, 1, none⟩ (.string s)).setCell ⟨w.heap.size + 1, 2, none⟩ (.slice (some ⟨g, 0, none⟩) m cap)).setCell ⟨w.heap.size + 1, 3, none⟩ (.int .i64 is)).setCell ⟨w.heap.size + 1, 4, none⟩ (.slice sa q2 sc)) := ⟨_, rfl⟩
   have BZ : BoxL Z (w.heap.size + 1) [.string ky, .string s, .slice (some ⟨g, 0, none⟩) m cap, .int .i64 is, .slice sa q2 sc] := by rw [hZ9]; exact boxL_set5 bY1 _ _ _ _ _
   have hBZ : Below w.heap.size w Z := by rw [hZ9, hZ1]; exact below_setT (hB.setCell (p := ⟨w.heap.size, 4, none⟩) (Nat.le_refl _) _) (Nat.le_succ _) _ _ _ _ _
   have RZ : Hid (RowK Z g cap (ts.map cutV)) := by
    show RowK _ _ _ _
    rw [hZ9, hZ1]
    exact (((((hR2.out.other (by omega)).other (by omega)).other (by omega)).other (by omega)).other (by omega)).other (by omega)
   have HNZ : Hid (NeedsIn Z (ts.map cutV)) := by
    intro t ht
    obtain ⟨u, hu, rfl⟩ := List.mem_map.1 ht
    exact ((HN.out u hu).below hBZ).take 20
   have HZZ : Hid (IsZ Z sa sc (fewS ss)) := HZ.out.below hBZ
   have x4 := bX.1 4 _ rfl
   have e4 := bX.2 4 (by simp)
   have hq0 : (0 : Int) ≤ q2 := by omega
   have hx : ¬ (m : Int) < m := by omega
   have y0 := bX1.1 0 _ rfl; have y1 := bX1.1 1 _ rfl; have y2 := bX1.1 2 _ rfl; have y3 := bX1.1 3 _ rfl; have y4 := bX1.1 4 _ rfl
   have v0 := bY1.1 0 _ rfl; have v1 := bY1.1 1 _ rfl; have v2 := bY1.1 2 _ rfl; have v3 := bY1.1 3 _ rfl; have v4 := bY1.1 4 _ rfl
   have d0 := bY1.2 0 (by simp); have d1 := bY1.2 1 (by simp); have d2 := bY1.2 2 (by simp); have d3 := bY1.2 3 (by simp); have d4 := bY1.2 4 (by simp)
   have r0 := BZ.1 0 _ rfl; have r1 := BZ.1 1 _ rfl; have r2 := BZ.1 2 _ rfl; have r3 := BZ.1 3 _ rfl; have r4 := BZ.1 4 _ rfl
   rw [hZ1] at y0 y1 y2 y3 y4 v0 v1 v2 v3 v4 d0 d1 d2 d3 d4
   clear hR bX bY bX1 bY1 BZ hB
   go_wp2
   rw [← hZ1, ← hZ9]
   refine bodyPost_ret (v := .agg #[.string ky, .string s, .slice (some ⟨g, 0, none⟩) m cap, .int .i64 is, .slice sa q2 sc]) (by simp [results, Try.results9, go_sem, r0, r1, r2, r3, r4]) rfl ⟨some ⟨g, 0, none⟩, cap, ?_, ?_, HZZ.out, fun x hx => (by cases hx; show _ ≤ g; omega), hBZ⟩
   ·
    rw [HF.out, List.length_map, ← HM.out, ← HQ.out]
   ·
    rw [HF.out]; exact RZ.out.isT HNZ.out
theorem isT_moved {P : Nat → Prop} {w w' : World} {a : Option Addr} {c : Nat} {ts : List TaskV} (h : IsT w a c ts) (hN : NeedsIn w' ts) (t : Turns P w w') (hp : ∀ x, a = Option.some x → ¬ P x.block) : IsT w' a c ts := by
 refine ⟨h.1, h.2.1, hN, fun j u hu => ?_⟩
 obtain ⟨b, o, ha, hl, c0, c1, c2, c3⟩ := h.2.2.2 j u hu
 have hb := hp _ ha
 exact ⟨b, o, ha, Nat.lt_of_lt_of_le hl t.size, t.cell (p := ⟨b, o + j * 4, none⟩) hb c0, t.cell (p := ⟨b, o + j * 4 + 1, none⟩) hb c1, t.cell (p := ⟨b, o + j * 4 + 2, none⟩) hb c2, t.cell (p := ⟨b, o + j * 4 + 3, none⟩) hb c3⟩
def FewRun (w : World) (ky nm : ByteArray) (is : Int) (sa : Option Addr) (sc : Nat) (ts : List TaskV) (ss : List StP) (e : Ending) (w1 : World) : Prop :=
 ∃ a c n q u0 u1 u2 u3 u4, e = .returned (.agg #[.string ky, .string nm, .slice a n c, .int .i64 is, .slice sa q sc]) ∧ BoxL w1 w.heap.size [u0, u1, u2, u3, u4] ∧
  RunIn (((((w1.setCell ⟨w.heap.size, 0, none⟩ (.string ky)).setCell ⟨w.heap.size, 1, none⟩ (.string nm)).setCell ⟨w.heap.size, 2, none⟩ (.slice a n c)).setCell ⟨w.heap.size, 3, none⟩ (.int .i64 is)).setCell ⟨w.heap.size, 4, none⟩ (.slice sa q sc)) w.heap.size ky nm a n c is sa q sc (fewT ts) (fewS ss) ∧
  Below w.heap.size w (((((w1.setCell ⟨w.heap.size, 0, none⟩ (.string ky)).setCell ⟨w.heap.size, 1, none⟩ (.string nm)).setCell ⟨w.heap.size, 2, none⟩ (.slice a n c)).setCell ⟨w.heap.size, 3, none⟩ (.int .i64 is)).setCell ⟨w.heap.size, 4, none⟩ (.slice sa q sc))
theorem fewRun_any (ky nm : ByteArray) (ta : Option Addr) (tn tc : Nat) (is : Int) (sa : Option Addr) (n sc : Nat) (tv : List TaskV) (ss : List StP) (w : World) (htn : tn = tv.length) (hT : IsT w ta tc tv) (hn : n = ss.length) (hZ : IsZ w sa sc ss) :
  Calls Try.prog 9 #[.agg #[.string ky, .string nm, .slice ta tn tc, .int .i64 is, .slice sa n sc]] (w.alloc (.cells #[.string ky, .string nm, .slice ta tn tc, .int .i64 is, .slice sa n sc] 27)) fun e w1 => FewRun w ky nm is sa sc tv ss e w1 := by
 obtain ⟨W, hW⟩ : ∃ W, W = w.alloc (.cells #[.string ky, .string nm, .slice ta tn tc, .int .i64 is, .slice sa n sc] 27) := ⟨_, rfl⟩
 have hB0 : Below w.heap.size w W := by rw [hW]; exact (Below.refl _ _).alloc (Nat.le_refl _) _
 have bX : BoxL W w.heap.size [.string ky, .string nm, .slice ta tn tc, .int .i64 is, .slice sa n sc] := by rw [hW]; exact boxL_new _ _ _ rfl
 have zW : W.heap.size = w.heap.size + 1 := by rw [hW]; simp
 rw [← hW]
 refine (few19_any ky nm ta tn tc is sa n sc tv ss W htn (hT.below hB0) hn (hZ.below hB0)).mono ?_
 rintro e w1 ⟨a, c, m, q, hm, hq, rfl, hT1, hZ1, hF1, hb⟩
 have b1 := bX.below hb
 have hB1 := Below.tr hB0 hb
 have hB2 : Below w.heap.size w (((((w1.setCell ⟨w.heap.size, 0, none⟩ (.string ky)).setCell ⟨w.heap.size, 1, none⟩ (.string nm)).setCell ⟨w.heap.size, 2, none⟩ (.slice a m c)).setCell ⟨w.heap.size, 3, none⟩ (.int .i64 is)).setCell ⟨w.heap.size, 4, none⟩ (.slice sa q sc)) := below_setT hB1 (Nat.le_refl _) _ _ _ _ _
 have hNd : NeedsIn w (fewT tv) := by
  intro t ht
  obtain ⟨u, hu, rfl⟩ := List.mem_map.1 ht
  exact (hT.2.2.1 u (List.mem_of_mem_take hu)).take 20
 exact ⟨a, c, m, q, _, _, _, _, _, rfl, b1, ⟨boxL_set5 b1 _ _ _ _ _, isT_moved hT1 (hNd.below hB2) (turns_set5 _ _ _ _ _ _ _) (fun x hx e => by have := hF1 x hx; have e' : x.block = w.heap.size := e; omega), (hZ.take 20).below hB2, hm, hq⟩, hB2⟩
theorem zeros_at {n : Nat} {i : Nat} {s : StP} (h : (zerosS n)[i]? = some s) : s = zeroT := by
 unfold zerosS at h
 rw [List.getElem?_replicate] at h
 split at h
 ·
  exact (Option.some.inj h).symm
 ·
  cases h
theorem new_right {ky nm : ByteArray} {tv : List TaskV} (hk : 1 ≤ ky.size ∧ ky.size ≤ 16) (hd : rightG nm (plainT tv) = 0) : RunOk ky nm (plainT tv) (mendS (plainT tv) (zerosS tv.length) 0).1 (mendS (plainT tv) (zerosS tv.length) 0).2 := by
 have htr : ∀ (i : Nat) t, (plainT tv)[i]? = some t → 1 ≤ t.tries ∧ t.tries ≤ 8 := fun i t hi => by
  obtain ⟨h1, -, -, h4, -⟩ := rightG_ok hd
  have := (taskB_iff _ _).1 (tasksB_at h4 hi)
  exact ⟨this.2.1, this.2.2.1⟩
 refine ⟨hk, hd, mend_right (fun i t hi => (htr i t hi).1) ⟨?_, fun i s t hs ht => ?_, fun i k s u hik hs hu h0 => ?_, fun i s hs h0 => ?_, ?_⟩⟩
 ·
  unfold zerosS; rw [List.length_replicate, plainT_length]
 ·
  rw [zeros_at hs]
  have := htr i t ht
  have h1 := this.1
  refine right_of (s := zeroT) (tr := t.tries) (by decide) (by decide) (by decide) (by decide) (by decide) (by decide) (by decide) ?_ ?_ ?_ ?_ ?_ ?_
  all_goals first | decide | (show (0 : Int) ≤ t.tries; omega) | (show (0 : Int) = 1 → _; omega) | (show (0 : Int) = 4 → _; omega) | (intro h; exact absurd h (by decide)) | exact .inl rfl
 ·
  rw [zeros_at hs] at h0; exact absurd h0 (by decide)
 ·
  rw [zeros_at hs] at h0; exact absurd rfl h0
 ·
  rw [Bool.eq_false_iff]
  intro hh
  obtain ⟨i, s, hs, e⟩ := (hasK_iff _ 5).1 hh
  rw [zeros_at hs] at e
  exact absurd e (by decide)
theorem one_mend : mendS (plainT [⟨none, 0, [], 1, 0, 1⟩]) (zerosS 1) 0 = ([⟨1, 0, 0, 0, ⟨#[]⟩⟩], 0) := by rfl
set_option maxRecDepth 20000 in
set_option maxHeartbeats 2000000 in
theorem alive19_any (w : World) : Calls Try.prog 16 #[] w fun e w' => e = .returned (.bool true) ∧ Below w.heap.size w w' := by
 obtain ⟨tv, htv⟩ : ∃ tv : List TaskV, tv = [⟨none, 0, [], 1, 0, 1⟩] := ⟨_, rfl⟩
 obtain ⟨W1, hW1⟩ : ∃ W1, W1 = w.alloc (.cells #[.slice none 0 0, .int .i64 1, .int .i64 0, .int .i64 1] 50) := ⟨_, rfl⟩
 have hB1 : Below w.heap.size w W1 := by rw [hW1]; exact (Below.refl _ _).alloc (Nat.le_refl _) _
 have hT : IsT W1 (some ⟨w.heap.size, 0, none⟩) 1 tv := by
  rw [htv, hW1]
  refine ⟨Nat.le_refl _, by unfold maxLen; omega, fun t ht => ?_, fun j t ht => ?_⟩
  ·
   simp at ht
   subst ht
   exact isI_nil _
  ·
   match j, ht with
   | 0, ht =>
    cases ht
    exact ⟨_, 0, rfl, by simp, World.cell?_alloc_at _ _ _ _ rfl, World.cell?_alloc_at _ _ _ _ rfl, World.cell?_alloc_at _ _ _ _ rfl, World.cell?_alloc_at _ _ _ _ rfl⟩
 have hlen : 1 = tv.length := by rw [htv]; rfl
 have hd : rightG ⟨#[97]⟩ (plainT tv) = 0 := by rw [htv]; exact one_right
 have cN := new_any ⟨#[107]⟩ ⟨#[97]⟩ (some ⟨w.heap.size, 0, none⟩) 1 1 tv W1 (by decide) hT hlen (by decide) hd
 have hOK := new_right (ky := ⟨#[107]⟩) (by decide) hd
 have hm : mendS (plainT tv) (zerosS tv.length) 0 = ([⟨1, 0, 0, 0, ⟨#[]⟩⟩], 0) := by rw [htv]; exact one_mend
 unfold NewC at cN
 rw [hm] at cN hOK
 have HOK : Hid _ := hOK
 clear hT hlen hd hm htv hOK
 go_enter Try.func16, Try.ntmps16
 go_wp2_with (first
  | (go_at_call 10; rw [← hW1]; refine cN.mono ?_; rintro e w2 ⟨g, h, n, cap, capS, tw, rfl, htw, hO, hb⟩; have hlw : n = 1 := (by rw [hO.hn]; rfl); subst hlw; have hZ := hO.row.isZ; have hT2 := hO.hT; have hB2 := Below.tr hB1 hb; obtain ⟨X, hX⟩ : ∃ X, X = w2.alloc (.cells #[.string ⟨#[107]⟩, .string ⟨#[97]⟩, .slice (some ⟨g, 0, none⟩) 1 cap, .int .i64 0, .slice (some ⟨h, 0, none⟩) 1 capS] 27) := ⟨_, rfl⟩; have hBX : Below w2.heap.size w2 X := (by rw [hX]; exact (Below.refl _ _).alloc (Nat.le_refl _) _); have BX : BoxL X w2.heap.size [.string ⟨#[107]⟩, .string ⟨#[97]⟩, .slice (some ⟨g, 0, none⟩) 1 cap, .int .i64 0, .slice (some ⟨h, 0, none⟩) 1 capS] := (by rw [hX]; exact boxL_new w2 [.string ⟨#[107]⟩, .string ⟨#[97]⟩, .slice (some ⟨g, 0, none⟩) 1 cap, .int .i64 0, .slice (some ⟨h, 0, none⟩) 1 capS] _ rfl); obtain ⟨z0, -, -, -, -⟩ := (hO.row.below hBX).at (j := 0) rfl; rw [Nat.zero_mul, Nat.add_zero] at z0; have hcs : 1 ≤ capS ∧ capS ≤ 9223372036854775807 := ⟨hZ.1, hZ.2.1⟩; have cR := runRight_any ⟨#[107]⟩ ⟨#[97]⟩ (some ⟨g, 0, none⟩) 1 cap 0 (some ⟨h, 0, none⟩) 1 capS tw [⟨1, 0, 0, 0, ⟨#[]⟩⟩] X (by decide) (hT2.below hBX) hO.htn (hZ.below hBX) rfl; rw [htw, runB_iff.2 HOK.out] at cR; have x0 := BX.1 0 _ rfl; have x1 := BX.1 1 _ rfl; have x2 := BX.1 2 _ rfl; have x3 := BX.1 3 _ rfl; have x4 := BX.1 4 _ rfl; have hcs1 := hcs.1; have hcs2 := hcs.2; rw [hX] at x0 x1 x2 x3 x4 z0; dsimp only at z0; clear hZ hT2 BX htw hO)
  | (go_at_call 17; rw [← hX]; refine cR.mono ?_; rintro e w3 ⟨rfl, hb3⟩))
 go_ret
 exact ⟨rfl, Below.tr (Below.tr hB2 hBX) hb3⟩
set_option maxRecDepth 20000 in
set_option maxHeartbeats 2000000 in
theorem refFits_any (ky nm : ByteArray) (ta : Option Addr) (tn tc : Nat) (is : Int) (sa : Option Addr) (n sc : Nat) (ss : List StP) (w : World) (hZ : IsZ w sa sc ss) (hn : n = ss.length) :
  Calls Try.prog 39 #[.agg #[.string ky, .string nm, .slice ta tn tc, .int .i64 is, .slice sa n sc]] w fun e w' => e = .returned (.bool (fitsS ss is)) ∧ Below w.heap.size w w' := by
 have c4 := fun W (h : Below w.heap.size w W) => refHas_any ky nm ta tn tc is sa n sc ss 4 W (hZ.below h) hn
 have c5 := fun W (h : Below w.heap.size w W) => refHas_any ky nm ta tn tc is sa n sc ss 5 W (hZ.below h) hn
 have cO := fun W (h : Below w.heap.size w W) => refOpen_any ky nm ta tn tc is sa n sc ss W (hZ.below h) hn
 have E : Hid (fitsS ss is = if openS ss = false ∧ hasK ss 4 = false ∧ hasK ss 5 = false then decide (is = 1) else if hasK ss 4 = true then decide (is = 2) && !openS ss else if openS ss = false then decide (is = 3) else decide (is = 0) && !hasK ss 5) := rfl
 have hB0 : Below w.heap.size w (w.alloc (.cells #[.string ky, .string nm, .slice ta tn tc, .int .i64 is, .slice sa n sc] 27)) := (Below.refl _ _).alloc (Nat.le_refl _) _
 generalize fitsS ss is = F at *
 generalize openS ss = O at *
 generalize hasK ss 4 = H4 at *
 generalize hasK ss 5 = H5 at *
 clear hZ hn
 have t1 := trivial
 have t4 := trivial
 cases H4
 ·
  cases O
  ·
   have t5 := trivial
   cases H5
   ·
    go_enter Try.func39, Try.ntmps39
    go_wp2_with (first
     | (have _t := t1; go_at_call 81; refine (cO _ hB0).mono ?_; clear t1 _t; rintro e w1 ⟨rfl, hb⟩; obtain ⟨br, hB⟩ := boxesR w [.string ky, .string nm, .slice ta tn tc, .int .i64 is, .slice sa n sc] 27 hb; clear hb; have q0 := br.1 0 _ rfl; have q1 := br.1 1 _ rfl; have q2 := br.1 2 _ rfl; have q3 := br.1 3 _ rfl; have q4 := br.1 4 _ rfl)
     | (go_at_call 81; refine (cO _ hB).mono ?_; rintro e w2 ⟨rfl, hb⟩; clear q0 q1 q2 q3 q4; replace br := br.below hb; replace hB := Below.tr hB hb; clear hb; have q0 := br.1 0 _ rfl; have q1 := br.1 1 _ rfl; have q2 := br.1 2 _ rfl; have q3 := br.1 3 _ rfl; have q4 := br.1 4 _ rfl)
     | (have _t := t4; go_at_call 27; refine (c4 _ hB).mono ?_; clear t4 _t; rintro e w3 ⟨rfl, hb⟩; clear q0 q1 q2 q3 q4; replace br := br.below hb; replace hB := Below.tr hB hb; clear hb; have q0 := br.1 0 _ rfl; have q1 := br.1 1 _ rfl; have q2 := br.1 2 _ rfl; have q3 := br.1 3 _ rfl; have q4 := br.1 4 _ rfl)
     | (have _t := t5; go_at_call 27; refine (c5 _ hB).mono ?_; clear t5 _t; rintro e w3 ⟨rfl, hb⟩; clear q0 q1 q2 q3 q4; replace br := br.below hb; replace hB := Below.tr hB hb; clear hb; have q0 := br.1 0 _ rfl; have q1 := br.1 1 _ rfl; have q2 := br.1 2 _ rfl; have q3 := br.1 3 _ rfl; have q4 := br.1 4 _ rfl)
     | (go_at_call 27; refine (c4 _ hB).mono ?_; rintro e w3 ⟨rfl, hb⟩; clear q0 q1 q2 q3 q4; replace br := br.below hb; replace hB := Below.tr hB hb; clear hb; have q0 := br.1 0 _ rfl; have q1 := br.1 1 _ rfl; have q2 := br.1 2 _ rfl; have q3 := br.1 3 _ rfl; have q4 := br.1 4 _ rfl))
    go_ret
    exact ⟨ret_bool (by rw [E.out]; first | rfl | (simp; done) | simp [true_and]), hB⟩
   ·
    go_enter Try.func39, Try.ntmps39
    go_wp2_with (first
     | (have _t := t1; go_at_call 81; refine (cO _ hB0).mono ?_; clear t1 _t; rintro e w1 ⟨rfl, hb⟩; obtain ⟨br, hB⟩ := boxesR w [.string ky, .string nm, .slice ta tn tc, .int .i64 is, .slice sa n sc] 27 hb; clear hb; have q0 := br.1 0 _ rfl; have q1 := br.1 1 _ rfl; have q2 := br.1 2 _ rfl; have q3 := br.1 3 _ rfl; have q4 := br.1 4 _ rfl)
     | (go_at_call 81; refine (cO _ hB).mono ?_; rintro e w2 ⟨rfl, hb⟩; clear q0 q1 q2 q3 q4; replace br := br.below hb; replace hB := Below.tr hB hb; clear hb; have q0 := br.1 0 _ rfl; have q1 := br.1 1 _ rfl; have q2 := br.1 2 _ rfl; have q3 := br.1 3 _ rfl; have q4 := br.1 4 _ rfl)
     | (have _t := t4; go_at_call 27; refine (c4 _ hB).mono ?_; clear t4 _t; rintro e w3 ⟨rfl, hb⟩; clear q0 q1 q2 q3 q4; replace br := br.below hb; replace hB := Below.tr hB hb; clear hb; have q0 := br.1 0 _ rfl; have q1 := br.1 1 _ rfl; have q2 := br.1 2 _ rfl; have q3 := br.1 3 _ rfl; have q4 := br.1 4 _ rfl)
     | (have _t := t5; go_at_call 27; refine (c5 _ hB).mono ?_; clear t5 _t; rintro e w3 ⟨rfl, hb⟩; clear q0 q1 q2 q3 q4; replace br := br.below hb; replace hB := Below.tr hB hb; clear hb; have q0 := br.1 0 _ rfl; have q1 := br.1 1 _ rfl; have q2 := br.1 2 _ rfl; have q3 := br.1 3 _ rfl; have q4 := br.1 4 _ rfl)
     | (go_at_call 27; refine (c4 _ hB).mono ?_; rintro e w3 ⟨rfl, hb⟩; clear q0 q1 q2 q3 q4; replace br := br.below hb; replace hB := Below.tr hB hb; clear hb; have q0 := br.1 0 _ rfl; have q1 := br.1 1 _ rfl; have q2 := br.1 2 _ rfl; have q3 := br.1 3 _ rfl; have q4 := br.1 4 _ rfl))
    go_ret
    exact ⟨ret_bool (by rw [E.out]; first | rfl | (simp; done) | simp [true_and]), hB⟩
  ·
   by_cases h0 : is = 0
   ·
    have i0 : (is == 0) = true := by simpa using h0
    have HH : Hid (is = 0) := h0
    have t5 := trivial
    clear h0
    cases H5
    ·
     go_enter Try.func39, Try.ntmps39
     go_wp2_with (first
      | (have _t := t1; go_at_call 81; refine (cO _ hB0).mono ?_; clear t1 _t; rintro e w1 ⟨rfl, hb⟩; obtain ⟨br, hB⟩ := boxesR w [.string ky, .string nm, .slice ta tn tc, .int .i64 is, .slice sa n sc] 27 hb; clear hb; have q0 := br.1 0 _ rfl; have q1 := br.1 1 _ rfl; have q2 := br.1 2 _ rfl; have q3 := br.1 3 _ rfl; have q4 := br.1 4 _ rfl)
      | (go_at_call 81; refine (cO _ hB).mono ?_; rintro e w2 ⟨rfl, hb⟩; clear q0 q1 q2 q3 q4; replace br := br.below hb; replace hB := Below.tr hB hb; clear hb; have q0 := br.1 0 _ rfl; have q1 := br.1 1 _ rfl; have q2 := br.1 2 _ rfl; have q3 := br.1 3 _ rfl; have q4 := br.1 4 _ rfl)
      | (have _t := t4; go_at_call 27; refine (c4 _ hB).mono ?_; clear t4 _t; rintro e w3 ⟨rfl, hb⟩; clear q0 q1 q2 q3 q4; replace br := br.below hb; replace hB := Below.tr hB hb; clear hb; have q0 := br.1 0 _ rfl; have q1 := br.1 1 _ rfl; have q2 := br.1 2 _ rfl; have q3 := br.1 3 _ rfl; have q4 := br.1 4 _ rfl)
      | (have _t := t5; go_at_call 27; refine (c5 _ hB).mono ?_; clear t5 _t; rintro e w3 ⟨rfl, hb⟩; clear q0 q1 q2 q3 q4; replace br := br.below hb; replace hB := Below.tr hB hb; clear hb; have q0 := br.1 0 _ rfl; have q1 := br.1 1 _ rfl; have q2 := br.1 2 _ rfl; have q3 := br.1 3 _ rfl; have q4 := br.1 4 _ rfl)
      | (go_at_call 27; refine (c4 _ hB).mono ?_; rintro e w3 ⟨rfl, hb⟩; clear q0 q1 q2 q3 q4; replace br := br.below hb; replace hB := Below.tr hB hb; clear hb; have q0 := br.1 0 _ rfl; have q1 := br.1 1 _ rfl; have q2 := br.1 2 _ rfl; have q3 := br.1 3 _ rfl; have q4 := br.1 4 _ rfl))
     go_ret
     exact ⟨ret_bool (by rw [E.out]; first | rfl | (simp; done) | simp [HH.out]), hB⟩
    ·
     go_enter Try.func39, Try.ntmps39
     go_wp2_with (first
      | (have _t := t1; go_at_call 81; refine (cO _ hB0).mono ?_; clear t1 _t; rintro e w1 ⟨rfl, hb⟩; obtain ⟨br, hB⟩ := boxesR w [.string ky, .string nm, .slice ta tn tc, .int .i64 is, .slice sa n sc] 27 hb; clear hb; have q0 := br.1 0 _ rfl; have q1 := br.1 1 _ rfl; have q2 := br.1 2 _ rfl; have q3 := br.1 3 _ rfl; have q4 := br.1 4 _ rfl)
      | (go_at_call 81; refine (cO _ hB).mono ?_; rintro e w2 ⟨rfl, hb⟩; clear q0 q1 q2 q3 q4; replace br := br.below hb; replace hB := Below.tr hB hb; clear hb; have q0 := br.1 0 _ rfl; have q1 := br.1 1 _ rfl; have q2 := br.1 2 _ rfl; have q3 := br.1 3 _ rfl; have q4 := br.1 4 _ rfl)
      | (have _t := t4; go_at_call 27; refine (c4 _ hB).mono ?_; clear t4 _t; rintro e w3 ⟨rfl, hb⟩; clear q0 q1 q2 q3 q4; replace br := br.below hb; replace hB := Below.tr hB hb; clear hb; have q0 := br.1 0 _ rfl; have q1 := br.1 1 _ rfl; have q2 := br.1 2 _ rfl; have q3 := br.1 3 _ rfl; have q4 := br.1 4 _ rfl)
      | (have _t := t5; go_at_call 27; refine (c5 _ hB).mono ?_; clear t5 _t; rintro e w3 ⟨rfl, hb⟩; clear q0 q1 q2 q3 q4; replace br := br.below hb; replace hB := Below.tr hB hb; clear hb; have q0 := br.1 0 _ rfl; have q1 := br.1 1 _ rfl; have q2 := br.1 2 _ rfl; have q3 := br.1 3 _ rfl; have q4 := br.1 4 _ rfl)
      | (go_at_call 27; refine (c4 _ hB).mono ?_; rintro e w3 ⟨rfl, hb⟩; clear q0 q1 q2 q3 q4; replace br := br.below hb; replace hB := Below.tr hB hb; clear hb; have q0 := br.1 0 _ rfl; have q1 := br.1 1 _ rfl; have q2 := br.1 2 _ rfl; have q3 := br.1 3 _ rfl; have q4 := br.1 4 _ rfl))
     go_ret
     exact ⟨ret_bool (by rw [E.out]; first | rfl | (simp; done) | simp [HH.out]), hB⟩
   ·
    have i0 : (is == 0) = false := by simpa using h0
    go_enter Try.func39, Try.ntmps39
    go_wp2_with (first
     | (have _t := t1; go_at_call 81; refine (cO _ hB0).mono ?_; clear t1 _t; rintro e w1 ⟨rfl, hb⟩; obtain ⟨br, hB⟩ := boxesR w [.string ky, .string nm, .slice ta tn tc, .int .i64 is, .slice sa n sc] 27 hb; clear hb; have q0 := br.1 0 _ rfl; have q1 := br.1 1 _ rfl; have q2 := br.1 2 _ rfl; have q3 := br.1 3 _ rfl; have q4 := br.1 4 _ rfl)
     | (go_at_call 81; refine (cO _ hB).mono ?_; rintro e w2 ⟨rfl, hb⟩; clear q0 q1 q2 q3 q4; replace br := br.below hb; replace hB := Below.tr hB hb; clear hb; have q0 := br.1 0 _ rfl; have q1 := br.1 1 _ rfl; have q2 := br.1 2 _ rfl; have q3 := br.1 3 _ rfl; have q4 := br.1 4 _ rfl)
     | (have _t := t4; go_at_call 27; refine (c4 _ hB).mono ?_; clear t4 _t; rintro e w3 ⟨rfl, hb⟩; clear q0 q1 q2 q3 q4; replace br := br.below hb; replace hB := Below.tr hB hb; clear hb; have q0 := br.1 0 _ rfl; have q1 := br.1 1 _ rfl; have q2 := br.1 2 _ rfl; have q3 := br.1 3 _ rfl; have q4 := br.1 4 _ rfl)
     | (have _t := t5; go_at_call 27; refine (c5 _ hB).mono ?_; clear t5 _t; rintro e w3 ⟨rfl, hb⟩; clear q0 q1 q2 q3 q4; replace br := br.below hb; replace hB := Below.tr hB hb; clear hb; have q0 := br.1 0 _ rfl; have q1 := br.1 1 _ rfl; have q2 := br.1 2 _ rfl; have q3 := br.1 3 _ rfl; have q4 := br.1 4 _ rfl)
     | (go_at_call 27; refine (c4 _ hB).mono ?_; rintro e w3 ⟨rfl, hb⟩; clear q0 q1 q2 q3 q4; replace br := br.below hb; replace hB := Below.tr hB hb; clear hb; have q0 := br.1 0 _ rfl; have q1 := br.1 1 _ rfl; have q2 := br.1 2 _ rfl; have q3 := br.1 3 _ rfl; have q4 := br.1 4 _ rfl))
    go_ret
    exact ⟨ret_bool (by rw [E.out]; first | rfl | (simp; done) | simp [h0]), hB⟩
 ·
  by_cases h2 : is = 2
  ·
   have i2 : (is == 2) = true := by simpa using h2
   have HH : Hid (is = 2) := h2
   clear h2
   cases O
   ·
    go_enter Try.func39, Try.ntmps39
    go_wp2_with (first
     | (have _t := t1; go_at_call 81; refine (cO _ hB0).mono ?_; clear t1 _t; rintro e w1 ⟨rfl, hb⟩; obtain ⟨br, hB⟩ := boxesR w [.string ky, .string nm, .slice ta tn tc, .int .i64 is, .slice sa n sc] 27 hb; clear hb; have q0 := br.1 0 _ rfl; have q1 := br.1 1 _ rfl; have q2 := br.1 2 _ rfl; have q3 := br.1 3 _ rfl; have q4 := br.1 4 _ rfl)
     | (go_at_call 81; refine (cO _ hB).mono ?_; rintro e w2 ⟨rfl, hb⟩; clear q0 q1 q2 q3 q4; replace br := br.below hb; replace hB := Below.tr hB hb; clear hb; have q0 := br.1 0 _ rfl; have q1 := br.1 1 _ rfl; have q2 := br.1 2 _ rfl; have q3 := br.1 3 _ rfl; have q4 := br.1 4 _ rfl)
     | (have _t := t4; go_at_call 27; refine (c4 _ hB).mono ?_; clear t4 _t; rintro e w3 ⟨rfl, hb⟩; clear q0 q1 q2 q3 q4; replace br := br.below hb; replace hB := Below.tr hB hb; clear hb; have q0 := br.1 0 _ rfl; have q1 := br.1 1 _ rfl; have q2 := br.1 2 _ rfl; have q3 := br.1 3 _ rfl; have q4 := br.1 4 _ rfl)
     | (have _t := t5; go_at_call 27; refine (c5 _ hB).mono ?_; clear t5 _t; rintro e w3 ⟨rfl, hb⟩; clear q0 q1 q2 q3 q4; replace br := br.below hb; replace hB := Below.tr hB hb; clear hb; have q0 := br.1 0 _ rfl; have q1 := br.1 1 _ rfl; have q2 := br.1 2 _ rfl; have q3 := br.1 3 _ rfl; have q4 := br.1 4 _ rfl)
     | (go_at_call 27; refine (c4 _ hB).mono ?_; rintro e w3 ⟨rfl, hb⟩; clear q0 q1 q2 q3 q4; replace br := br.below hb; replace hB := Below.tr hB hb; clear hb; have q0 := br.1 0 _ rfl; have q1 := br.1 1 _ rfl; have q2 := br.1 2 _ rfl; have q3 := br.1 3 _ rfl; have q4 := br.1 4 _ rfl))
    go_ret
    exact ⟨ret_bool (by rw [E.out]; first | rfl | (simp; done) | simp [HH.out]), hB⟩
   ·
    go_enter Try.func39, Try.ntmps39
    go_wp2_with (first
     | (have _t := t1; go_at_call 81; refine (cO _ hB0).mono ?_; clear t1 _t; rintro e w1 ⟨rfl, hb⟩; obtain ⟨br, hB⟩ := boxesR w [.string ky, .string nm, .slice ta tn tc, .int .i64 is, .slice sa n sc] 27 hb; clear hb; have q0 := br.1 0 _ rfl; have q1 := br.1 1 _ rfl; have q2 := br.1 2 _ rfl; have q3 := br.1 3 _ rfl; have q4 := br.1 4 _ rfl)
     | (go_at_call 81; refine (cO _ hB).mono ?_; rintro e w2 ⟨rfl, hb⟩; clear q0 q1 q2 q3 q4; replace br := br.below hb; replace hB := Below.tr hB hb; clear hb; have q0 := br.1 0 _ rfl; have q1 := br.1 1 _ rfl; have q2 := br.1 2 _ rfl; have q3 := br.1 3 _ rfl; have q4 := br.1 4 _ rfl)
     | (have _t := t4; go_at_call 27; refine (c4 _ hB).mono ?_; clear t4 _t; rintro e w3 ⟨rfl, hb⟩; clear q0 q1 q2 q3 q4; replace br := br.below hb; replace hB := Below.tr hB hb; clear hb; have q0 := br.1 0 _ rfl; have q1 := br.1 1 _ rfl; have q2 := br.1 2 _ rfl; have q3 := br.1 3 _ rfl; have q4 := br.1 4 _ rfl)
     | (have _t := t5; go_at_call 27; refine (c5 _ hB).mono ?_; clear t5 _t; rintro e w3 ⟨rfl, hb⟩; clear q0 q1 q2 q3 q4; replace br := br.below hb; replace hB := Below.tr hB hb; clear hb; have q0 := br.1 0 _ rfl; have q1 := br.1 1 _ rfl; have q2 := br.1 2 _ rfl; have q3 := br.1 3 _ rfl; have q4 := br.1 4 _ rfl)
     | (go_at_call 27; refine (c4 _ hB).mono ?_; rintro e w3 ⟨rfl, hb⟩; clear q0 q1 q2 q3 q4; replace br := br.below hb; replace hB := Below.tr hB hb; clear hb; have q0 := br.1 0 _ rfl; have q1 := br.1 1 _ rfl; have q2 := br.1 2 _ rfl; have q3 := br.1 3 _ rfl; have q4 := br.1 4 _ rfl))
    go_ret
    exact ⟨ret_bool (by rw [E.out]; first | rfl | (simp; done) | simp [HH.out]), hB⟩
  ·
   have i2 : (is == 2) = false := by simpa using h2
   cases O
   ·
    go_enter Try.func39, Try.ntmps39
    go_wp2_with (first
     | (have _t := t1; go_at_call 81; refine (cO _ hB0).mono ?_; clear t1 _t; rintro e w1 ⟨rfl, hb⟩; obtain ⟨br, hB⟩ := boxesR w [.string ky, .string nm, .slice ta tn tc, .int .i64 is, .slice sa n sc] 27 hb; clear hb; have q0 := br.1 0 _ rfl; have q1 := br.1 1 _ rfl; have q2 := br.1 2 _ rfl; have q3 := br.1 3 _ rfl; have q4 := br.1 4 _ rfl)
     | (go_at_call 81; refine (cO _ hB).mono ?_; rintro e w2 ⟨rfl, hb⟩; clear q0 q1 q2 q3 q4; replace br := br.below hb; replace hB := Below.tr hB hb; clear hb; have q0 := br.1 0 _ rfl; have q1 := br.1 1 _ rfl; have q2 := br.1 2 _ rfl; have q3 := br.1 3 _ rfl; have q4 := br.1 4 _ rfl)
     | (have _t := t4; go_at_call 27; refine (c4 _ hB).mono ?_; clear t4 _t; rintro e w3 ⟨rfl, hb⟩; clear q0 q1 q2 q3 q4; replace br := br.below hb; replace hB := Below.tr hB hb; clear hb; have q0 := br.1 0 _ rfl; have q1 := br.1 1 _ rfl; have q2 := br.1 2 _ rfl; have q3 := br.1 3 _ rfl; have q4 := br.1 4 _ rfl)
     | (have _t := t5; go_at_call 27; refine (c5 _ hB).mono ?_; clear t5 _t; rintro e w3 ⟨rfl, hb⟩; clear q0 q1 q2 q3 q4; replace br := br.below hb; replace hB := Below.tr hB hb; clear hb; have q0 := br.1 0 _ rfl; have q1 := br.1 1 _ rfl; have q2 := br.1 2 _ rfl; have q3 := br.1 3 _ rfl; have q4 := br.1 4 _ rfl)
     | (go_at_call 27; refine (c4 _ hB).mono ?_; rintro e w3 ⟨rfl, hb⟩; clear q0 q1 q2 q3 q4; replace br := br.below hb; replace hB := Below.tr hB hb; clear hb; have q0 := br.1 0 _ rfl; have q1 := br.1 1 _ rfl; have q2 := br.1 2 _ rfl; have q3 := br.1 3 _ rfl; have q4 := br.1 4 _ rfl))
    go_ret
    exact ⟨ret_bool (by rw [E.out]; first | rfl | (simp; done) | simp [h2]), hB⟩
   ·
    go_enter Try.func39, Try.ntmps39
    go_wp2_with (first
     | (have _t := t1; go_at_call 81; refine (cO _ hB0).mono ?_; clear t1 _t; rintro e w1 ⟨rfl, hb⟩; obtain ⟨br, hB⟩ := boxesR w [.string ky, .string nm, .slice ta tn tc, .int .i64 is, .slice sa n sc] 27 hb; clear hb; have q0 := br.1 0 _ rfl; have q1 := br.1 1 _ rfl; have q2 := br.1 2 _ rfl; have q3 := br.1 3 _ rfl; have q4 := br.1 4 _ rfl)
     | (go_at_call 81; refine (cO _ hB).mono ?_; rintro e w2 ⟨rfl, hb⟩; clear q0 q1 q2 q3 q4; replace br := br.below hb; replace hB := Below.tr hB hb; clear hb; have q0 := br.1 0 _ rfl; have q1 := br.1 1 _ rfl; have q2 := br.1 2 _ rfl; have q3 := br.1 3 _ rfl; have q4 := br.1 4 _ rfl)
     | (have _t := t4; go_at_call 27; refine (c4 _ hB).mono ?_; clear t4 _t; rintro e w3 ⟨rfl, hb⟩; clear q0 q1 q2 q3 q4; replace br := br.below hb; replace hB := Below.tr hB hb; clear hb; have q0 := br.1 0 _ rfl; have q1 := br.1 1 _ rfl; have q2 := br.1 2 _ rfl; have q3 := br.1 3 _ rfl; have q4 := br.1 4 _ rfl)
     | (have _t := t5; go_at_call 27; refine (c5 _ hB).mono ?_; clear t5 _t; rintro e w3 ⟨rfl, hb⟩; clear q0 q1 q2 q3 q4; replace br := br.below hb; replace hB := Below.tr hB hb; clear hb; have q0 := br.1 0 _ rfl; have q1 := br.1 1 _ rfl; have q2 := br.1 2 _ rfl; have q3 := br.1 3 _ rfl; have q4 := br.1 4 _ rfl)
     | (go_at_call 27; refine (c4 _ hB).mono ?_; rintro e w3 ⟨rfl, hb⟩; clear q0 q1 q2 q3 q4; replace br := br.below hb; replace hB := Below.tr hB hb; clear hb; have q0 := br.1 0 _ rfl; have q1 := br.1 1 _ rfl; have q2 := br.1 2 _ rfl; have q3 := br.1 3 _ rfl; have q4 := br.1 4 _ rfl))
    go_ret
    exact ⟨ret_bool (by rw [E.out]; first | rfl | (simp; done) | simp [h2]), hB⟩
set_option maxRecDepth 20000 in
set_option maxHeartbeats 4000000 in
theorem refStands_any (i t d k : Int) (r : ByteArray) (w : World) (hz : r.size ≤ maxLen) :
  Calls Try.prog 82 #[.agg #[.int .i64 i, .int .i64 t, .int .i64 d, .int .i64 k, .string r]] w fun e w' => e = .returned (.bool (standT ⟨i, t, d, k, r⟩)) ∧ Below w.heap.size w w' := by
 have hB : Below w.heap.size w (w.alloc (.cells #[.int .i64 i, .int .i64 t, .int .i64 d, .int .i64 k, .string r] 52)) := (Below.refl _ _).alloc (Nat.le_refl _) _
 have hzi : r.size ≤ 9223372036854775807 := hz
 have no : ¬ ((0 ≤ i ∧ i ≤ 5) ∧ (0 ≤ t ∧ t ≤ 8) ∧ (0 ≤ d ∧ d ≤ 1099511627776) ∧ k ≤ 1099511627776 ∧ r.size ≤ 16) → Hid (standT ⟨i, t, d, k, r⟩ = false) := fun h => bool_false fun hh => h (by have := (standL_iff _ _ _ _ _).1 hh; omega)
 by_cases h1 : i < 0
 ·
  have hr := no (by omega)
  clear no
  go_enter Try.func82, Try.ntmps82
  go_wp2
  go_ret
  exact ⟨ret_bool hr.out.symm, hB⟩
 by_cases h2 : 5 < i
 ·
  have hr := no (by omega)
  clear no
  go_enter Try.func82, Try.ntmps82
  go_wp2
  go_ret
  exact ⟨ret_bool hr.out.symm, hB⟩
 by_cases h3 : t < 0
 ·
  have hr := no (by omega)
  clear no
  go_enter Try.func82, Try.ntmps82
  go_wp2
  go_ret
  exact ⟨ret_bool hr.out.symm, hB⟩
 by_cases h4 : 8 < t
 ·
  have hr := no (by omega)
  clear no
  go_enter Try.func82, Try.ntmps82
  go_wp2
  go_ret
  exact ⟨ret_bool hr.out.symm, hB⟩
 by_cases h5 : d < 0
 ·
  have hr := no (by omega)
  clear no
  go_enter Try.func82, Try.ntmps82
  go_wp2
  go_ret
  exact ⟨ret_bool hr.out.symm, hB⟩
 by_cases h6 : 1099511627776 < d
 ·
  have hr := no (by omega)
  clear no
  go_enter Try.func82, Try.ntmps82
  go_wp2
  go_ret
  exact ⟨ret_bool hr.out.symm, hB⟩
 by_cases h7 : 1099511627776 < k
 ·
  have hr := no (by omega)
  clear no
  go_enter Try.func82, Try.ntmps82
  go_wp2
  go_ret
  exact ⟨ret_bool hr.out.symm, hB⟩
 by_cases h8 : 16 < r.size
 ·
  have h8' : (16 : Int) < r.size := by omega
  have hr := no (by omega)
  clear no
  go_enter Try.func82, Try.ntmps82
  go_wp2
  go_ret
  exact ⟨ret_bool hr.out.symm, hB⟩
 have h8' : ¬ (16 : Int) < r.size := by omega
 clear no
 by_cases i2 : i = 2
 ·
  subst i2
  by_cases h9 : k < 1
  ·
   have hr : Hid (standT ⟨2, t, d, k, r⟩ = false) := bool_false fun hh => by have := (standL_iff _ _ _ _ _).1 hh; omega
   go_enter Try.func82, Try.ntmps82
   go_wp2
   go_ret
   exact ⟨ret_bool hr.out.symm, hB⟩
  by_cases h10 : r = ⟨#[]⟩
  ·
   have h10' := empT_true h10
   have hr : Hid (standT ⟨2, t, d, k, r⟩ = true) := (standL_iff _ _ _ _ _).2 ⟨by omega, by omega, by omega, by omega, by omega, by omega, fun _ => h10⟩
   clear h10
   go_enter Try.func82, Try.ntmps82
   go_wp2
   go_ret
   exact ⟨ret_bool hr.out.symm, hB⟩
  ·
   have h10' := empT_false h10
   have hr : Hid (standT ⟨2, t, d, k, r⟩ = false) := bool_false fun hh => h10 (((standL_iff _ _ _ _ _).1 hh).2.2.2.2.2.2 (by omega))
   clear h10
   go_enter Try.func82, Try.ntmps82
   go_wp2
   go_ret
   exact ⟨ret_bool hr.out.symm, hB⟩
 have i2' : (i == 2) = false := by simpa using i2
 have i2'' : (i != 2) = true := by simpa using i2
 by_cases h9 : k = 0
 ·
  subst h9
  by_cases i3 : i = 3
  ·
   subst i3
   have hr : Hid (standT ⟨3, t, d, 0, r⟩ = true) := (standL_iff _ _ _ _ _).2 ⟨by omega, by omega, by omega, by omega, by omega, by omega, fun hn => absurd rfl hn⟩
   go_enter Try.func82, Try.ntmps82
   go_wp2
   go_ret
   exact ⟨ret_bool hr.out.symm, hB⟩
  have i3' : (i == 3) = false := by simpa using i3
  by_cases h10 : r = ⟨#[]⟩
  ·
   have h10' := empT_true h10
   have hr : Hid (standT ⟨i, t, d, 0, r⟩ = true) := (standL_iff _ _ _ _ _).2 ⟨by omega, by omega, by omega, by omega, by omega, by omega, fun _ => h10⟩
   clear h10
   go_enter Try.func82, Try.ntmps82
   go_wp2
   go_ret
   exact ⟨ret_bool hr.out.symm, hB⟩
  ·
   have h10' := empT_false h10
   have hr : Hid (standT ⟨i, t, d, 0, r⟩ = false) := bool_false fun hh => h10 (((standL_iff _ _ _ _ _).1 hh).2.2.2.2.2.2 i3)
   clear h10
   go_enter Try.func82, Try.ntmps82
   go_wp2
   go_ret
   exact ⟨ret_bool hr.out.symm, hB⟩
 ·
  have h9' : (k != 0) = true := by simpa using h9
  have hr : Hid (standT ⟨i, t, d, k, r⟩ = false) := bool_false fun hh => h9 (((standL_iff _ _ _ _ _).1 hh).2.2.2.1.2 i2)
  go_enter Try.func82, Try.ntmps82
  go_wp2
  go_ret
  exact ⟨ret_bool hr.out.symm, hB⟩
theorem rightL_true' {tr i t d k : Int} {r : ByteArray} (h : standT ⟨i, t, d, k, r⟩ = true) (g : t ≤ tr ∧ (i = 0 → t = 0) ∧ (i = 1 → t < tr) ∧ (i = 2 ∨ i = 3 → 1 ≤ t) ∧ (i = 4 → t = tr) ∧ (d = 0 ∨ i = 1 ∨ i = 2)) : rightT tr ⟨i, t, d, k, r⟩ = true := by
 rw [rightT, h, (restL_iff _ _ _ _ _ _).2 g]; rfl
theorem rightL_false' {tr i t d k : Int} {r : ByteArray} (g : ¬ (t ≤ tr ∧ (i = 0 → t = 0) ∧ (i = 1 → t < tr) ∧ (i = 2 ∨ i = 3 → 1 ≤ t) ∧ (i = 4 → t = tr) ∧ (d = 0 ∨ i = 1 ∨ i = 2))) : rightT tr ⟨i, t, d, k, r⟩ = false :=
 bool_false fun hh => g ((restL_iff _ _ _ _ _ _).1 (right_parts hh).2)
set_option maxRecDepth 20000 in
set_option maxHeartbeats 4000000 in
theorem refRightT_any (ta : Option Addr) (tl tc : Nat) (tr wt le : Int) (i t d k : Int) (r : ByteArray) (w : World) (hz : r.size ≤ maxLen) :
  Calls Try.prog 40 #[.agg #[.slice ta tl tc, .int .i64 tr, .int .i64 wt, .int .i64 le], .agg #[.int .i64 i, .int .i64 t, .int .i64 d, .int .i64 k, .string r]] w fun e w' => e = .returned (.bool (rightT tr ⟨i, t, d, k, r⟩)) ∧ Below w.heap.size w w' := by
 have c1 := fun W => refStands_any i t d k r W hz
 cases hb : standT ⟨i, t, d, k, r⟩ with
 | false =>
  rw [hb] at c1
  have hr : Hid (rightT tr ⟨i, t, d, k, r⟩ = false) := by show _ = _; rw [rightT, hb]; rfl
  clear hb
  go_enter Try.func40, Try.ntmps40
  go_wp2_with (go_at_call 82; refine (c1 _).mono ?_; rintro e w1 ⟨rfl, hb⟩; obtain ⟨bt, bs, hB⟩ := boxes2 w [.slice ta tl tc, .int .i64 tr, .int .i64 wt, .int .i64 le] [.int .i64 i, .int .i64 t, .int .i64 d, .int .i64 k, .string r] _ _ (by simp) (by simp) hb; have x1 := bt.1 1 _ rfl; have s0 := bs.1 0 _ rfl; have s1 := bs.1 1 _ rfl; have s2 := bs.1 2 _ rfl; have s3 := bs.1 3 _ rfl; have s4 := bs.1 4 _ rfl; clear hb bt bs)
  all_goals (go_ret; exact ⟨ret_bool (by first | exact hr.out.symm | (rw [hr.out]; simp; done) | (rw [hr.out]; simp; omega)), hB⟩)
 | true =>
  rw [hb] at c1
  have hS := (standL_iff _ _ _ _ _).1 hb
  by_cases h1 : tr < t
  ·
   have hr : Hid (rightT tr ⟨i, t, d, k, r⟩ = false) := rightL_false' (by omega)
   clear hb hS
   go_enter Try.func40, Try.ntmps40
   go_wp2_with (go_at_call 82; refine (c1 _).mono ?_; rintro e w1 ⟨rfl, hb⟩; obtain ⟨bt, bs, hB⟩ := boxes2 w [.slice ta tl tc, .int .i64 tr, .int .i64 wt, .int .i64 le] [.int .i64 i, .int .i64 t, .int .i64 d, .int .i64 k, .string r] _ _ (by simp) (by simp) hb; have x1 := bt.1 1 _ rfl; have s0 := bs.1 0 _ rfl; have s1 := bs.1 1 _ rfl; have s2 := bs.1 2 _ rfl; have s3 := bs.1 3 _ rfl; have s4 := bs.1 4 _ rfl; clear hb bt bs)
   all_goals (go_ret; exact ⟨ret_bool (by first | exact hr.out.symm | (rw [hr.out]; simp; done) | (rw [hr.out]; simp; omega)), hB⟩)
  by_cases i0 : i = 0
  ·
   subst i0
   by_cases h2 : t = 0
   ·
    subst h2
    by_cases h3 : d = 0
    ·
     subst h3
     have hr : Hid (rightT tr ⟨0, 0, 0, k, r⟩ = true) := rightL_true' hb (by omega)
     clear hb hS
     go_enter Try.func40, Try.ntmps40
     go_wp2_with (go_at_call 82; refine (c1 _).mono ?_; rintro e w1 ⟨rfl, hb⟩; obtain ⟨bt, bs, hB⟩ := boxes2 w [.slice ta tl tc, .int .i64 tr, .int .i64 wt, .int .i64 le] [.int .i64 0, .int .i64 0, .int .i64 0, .int .i64 k, .string r] _ _ (by simp) (by simp) hb; have x1 := bt.1 1 _ rfl; have s0 := bs.1 0 _ rfl; have s1 := bs.1 1 _ rfl; have s2 := bs.1 2 _ rfl; have s3 := bs.1 3 _ rfl; have s4 := bs.1 4 _ rfl; clear hb bt bs)
     all_goals (go_ret; exact ⟨ret_bool (by first | exact hr.out.symm | (rw [hr.out]; simp; done) | (rw [hr.out]; simp; omega)), hB⟩)
    ·
     have h3' : (d != 0) = true := by simpa using h3
     have hr : Hid (rightT tr ⟨0, 0, d, k, r⟩ = false) := rightL_false' (by omega)
     clear hb hS
     go_enter Try.func40, Try.ntmps40
     go_wp2_with (go_at_call 82; refine (c1 _).mono ?_; rintro e w1 ⟨rfl, hb⟩; obtain ⟨bt, bs, hB⟩ := boxes2 w [.slice ta tl tc, .int .i64 tr, .int .i64 wt, .int .i64 le] [.int .i64 0, .int .i64 0, .int .i64 d, .int .i64 k, .string r] _ _ (by simp) (by simp) hb; have x1 := bt.1 1 _ rfl; have s0 := bs.1 0 _ rfl; have s1 := bs.1 1 _ rfl; have s2 := bs.1 2 _ rfl; have s3 := bs.1 3 _ rfl; have s4 := bs.1 4 _ rfl; clear hb bt bs)
     all_goals (go_ret; exact ⟨ret_bool (by first | exact hr.out.symm | (rw [hr.out]; simp; done) | (rw [hr.out]; simp; omega)), hB⟩)
   ·
    have h2' : (t != 0) = true := by simpa using h2
    have hr : Hid (rightT tr ⟨0, t, d, k, r⟩ = false) := rightL_false' (by omega)
    clear hb hS
    go_enter Try.func40, Try.ntmps40
    go_wp2_with (go_at_call 82; refine (c1 _).mono ?_; rintro e w1 ⟨rfl, hb⟩; obtain ⟨bt, bs, hB⟩ := boxes2 w [.slice ta tl tc, .int .i64 tr, .int .i64 wt, .int .i64 le] [.int .i64 0, .int .i64 t, .int .i64 d, .int .i64 k, .string r] _ _ (by simp) (by simp) hb; have x1 := bt.1 1 _ rfl; have s0 := bs.1 0 _ rfl; have s1 := bs.1 1 _ rfl; have s2 := bs.1 2 _ rfl; have s3 := bs.1 3 _ rfl; have s4 := bs.1 4 _ rfl; clear hb bt bs)
    all_goals (go_ret; exact ⟨ret_bool (by first | exact hr.out.symm | (rw [hr.out]; simp; done) | (rw [hr.out]; simp; omega)), hB⟩)
  by_cases i1 : i = 1
  ·
   subst i1
   by_cases h2 : t < tr
   ·
    have hr : Hid (rightT tr ⟨1, t, d, k, r⟩ = true) := rightL_true' hb (by omega)
    have h2' : ¬ tr ≤ t := by omega
    clear hb hS
    go_enter Try.func40, Try.ntmps40
    go_wp2_with (go_at_call 82; refine (c1 _).mono ?_; rintro e w1 ⟨rfl, hb⟩; obtain ⟨bt, bs, hB⟩ := boxes2 w [.slice ta tl tc, .int .i64 tr, .int .i64 wt, .int .i64 le] [.int .i64 1, .int .i64 t, .int .i64 d, .int .i64 k, .string r] _ _ (by simp) (by simp) hb; have x1 := bt.1 1 _ rfl; have s0 := bs.1 0 _ rfl; have s1 := bs.1 1 _ rfl; have s2 := bs.1 2 _ rfl; have s3 := bs.1 3 _ rfl; have s4 := bs.1 4 _ rfl; clear hb bt bs)
    all_goals (go_ret; exact ⟨ret_bool (by first | exact hr.out.symm | (rw [hr.out]; simp; done) | (rw [hr.out]; simp; omega)), hB⟩)
   ·
    have hr : Hid (rightT tr ⟨1, t, d, k, r⟩ = false) := rightL_false' (by omega)
    have h2' : tr ≤ t := by omega
    clear hb hS
    go_enter Try.func40, Try.ntmps40
    go_wp2_with (go_at_call 82; refine (c1 _).mono ?_; rintro e w1 ⟨rfl, hb⟩; obtain ⟨bt, bs, hB⟩ := boxes2 w [.slice ta tl tc, .int .i64 tr, .int .i64 wt, .int .i64 le] [.int .i64 1, .int .i64 t, .int .i64 d, .int .i64 k, .string r] _ _ (by simp) (by simp) hb; have x1 := bt.1 1 _ rfl; have s0 := bs.1 0 _ rfl; have s1 := bs.1 1 _ rfl; have s2 := bs.1 2 _ rfl; have s3 := bs.1 3 _ rfl; have s4 := bs.1 4 _ rfl; clear hb bt bs)
    all_goals (go_ret; exact ⟨ret_bool (by first | exact hr.out.symm | (rw [hr.out]; simp; done) | (rw [hr.out]; simp; omega)), hB⟩)
  by_cases i2 : i = 2
  ·
   subst i2
   clear i0 i1
   by_cases h2 : t < 1
   ·
    have hr : Hid (rightT tr ⟨2, t, d, k, r⟩ = false) := rightL_false' (by omega)
    clear hb hS
    go_enter Try.func40, Try.ntmps40
    go_wp2_with (go_at_call 82; refine (c1 _).mono ?_; rintro e w1 ⟨rfl, hb⟩; obtain ⟨bt, bs, hB⟩ := boxes2 w [.slice ta tl tc, .int .i64 tr, .int .i64 wt, .int .i64 le] [.int .i64 2, .int .i64 t, .int .i64 d, .int .i64 k, .string r] _ _ (by simp) (by simp) hb; have x1 := bt.1 1 _ rfl; have s0 := bs.1 0 _ rfl; have s1 := bs.1 1 _ rfl; have s2 := bs.1 2 _ rfl; have s3 := bs.1 3 _ rfl; have s4 := bs.1 4 _ rfl; clear hb bt bs)
    all_goals (go_ret; exact ⟨ret_bool (by first | exact hr.out.symm | (rw [hr.out]; simp; done) | (rw [hr.out]; simp; omega)), hB⟩)
   ·
    have hr : Hid (rightT tr ⟨2, t, d, k, r⟩ = true) := rightL_true' hb (by omega)
    clear hb hS
    go_enter Try.func40, Try.ntmps40
    go_wp2_with (go_at_call 82; refine (c1 _).mono ?_; rintro e w1 ⟨rfl, hb⟩; obtain ⟨bt, bs, hB⟩ := boxes2 w [.slice ta tl tc, .int .i64 tr, .int .i64 wt, .int .i64 le] [.int .i64 2, .int .i64 t, .int .i64 d, .int .i64 k, .string r] _ _ (by simp) (by simp) hb; have x1 := bt.1 1 _ rfl; have s0 := bs.1 0 _ rfl; have s1 := bs.1 1 _ rfl; have s2 := bs.1 2 _ rfl; have s3 := bs.1 3 _ rfl; have s4 := bs.1 4 _ rfl; clear hb bt bs)
    all_goals (go_ret; exact ⟨ret_bool (by first | exact hr.out.symm | (rw [hr.out]; simp; done) | (rw [hr.out]; simp; omega)), hB⟩)
  by_cases i3 : i = 3
  ·
   subst i3
   clear i0 i1 i2
   by_cases h2 : t < 1
   ·
    have hr : Hid (rightT tr ⟨3, t, d, k, r⟩ = false) := rightL_false' (by omega)
    clear hb hS
    go_enter Try.func40, Try.ntmps40
    go_wp2_with (go_at_call 82; refine (c1 _).mono ?_; rintro e w1 ⟨rfl, hb⟩; obtain ⟨bt, bs, hB⟩ := boxes2 w [.slice ta tl tc, .int .i64 tr, .int .i64 wt, .int .i64 le] [.int .i64 3, .int .i64 t, .int .i64 d, .int .i64 k, .string r] _ _ (by simp) (by simp) hb; have x1 := bt.1 1 _ rfl; have s0 := bs.1 0 _ rfl; have s1 := bs.1 1 _ rfl; have s2 := bs.1 2 _ rfl; have s3 := bs.1 3 _ rfl; have s4 := bs.1 4 _ rfl; clear hb bt bs)
    all_goals (go_ret; exact ⟨ret_bool (by first | exact hr.out.symm | (rw [hr.out]; simp; done) | (rw [hr.out]; simp; omega)), hB⟩)
   by_cases h3 : d = 0
   ·
    subst h3
    have hr : Hid (rightT tr ⟨3, t, 0, k, r⟩ = true) := rightL_true' hb (by omega)
    clear hb hS
    go_enter Try.func40, Try.ntmps40
    go_wp2_with (go_at_call 82; refine (c1 _).mono ?_; rintro e w1 ⟨rfl, hb⟩; obtain ⟨bt, bs, hB⟩ := boxes2 w [.slice ta tl tc, .int .i64 tr, .int .i64 wt, .int .i64 le] [.int .i64 3, .int .i64 t, .int .i64 0, .int .i64 k, .string r] _ _ (by simp) (by simp) hb; have x1 := bt.1 1 _ rfl; have s0 := bs.1 0 _ rfl; have s1 := bs.1 1 _ rfl; have s2 := bs.1 2 _ rfl; have s3 := bs.1 3 _ rfl; have s4 := bs.1 4 _ rfl; clear hb bt bs)
    all_goals (go_ret; exact ⟨ret_bool (by first | exact hr.out.symm | (rw [hr.out]; simp; done) | (rw [hr.out]; simp; omega)), hB⟩)
   ·
    have h3' : (d == 0) = false := by simpa using h3
    have hr : Hid (rightT tr ⟨3, t, d, k, r⟩ = false) := rightL_false' (by omega)
    clear hb hS
    go_enter Try.func40, Try.ntmps40
    go_wp2_with (go_at_call 82; refine (c1 _).mono ?_; rintro e w1 ⟨rfl, hb⟩; obtain ⟨bt, bs, hB⟩ := boxes2 w [.slice ta tl tc, .int .i64 tr, .int .i64 wt, .int .i64 le] [.int .i64 3, .int .i64 t, .int .i64 d, .int .i64 k, .string r] _ _ (by simp) (by simp) hb; have x1 := bt.1 1 _ rfl; have s0 := bs.1 0 _ rfl; have s1 := bs.1 1 _ rfl; have s2 := bs.1 2 _ rfl; have s3 := bs.1 3 _ rfl; have s4 := bs.1 4 _ rfl; clear hb bt bs)
    all_goals (go_ret; exact ⟨ret_bool (by first | exact hr.out.symm | (rw [hr.out]; simp; done) | (rw [hr.out]; simp; omega)), hB⟩)
  by_cases i4 : i = 4
  ·
   subst i4
   clear i0 i1 i2 i3
   by_cases h2 : t = tr
   ·
    have h2' : (t != tr) = false := by simpa using h2
    by_cases h3 : d = 0
    ·
     subst h3
     have hr : Hid (rightT tr ⟨4, t, 0, k, r⟩ = true) := rightL_true' hb (by omega)
     clear hb hS h2
     go_enter Try.func40, Try.ntmps40
     go_wp2_with (go_at_call 82; refine (c1 _).mono ?_; rintro e w1 ⟨rfl, hb⟩; obtain ⟨bt, bs, hB⟩ := boxes2 w [.slice ta tl tc, .int .i64 tr, .int .i64 wt, .int .i64 le] [.int .i64 4, .int .i64 t, .int .i64 0, .int .i64 k, .string r] _ _ (by simp) (by simp) hb; have x1 := bt.1 1 _ rfl; have s0 := bs.1 0 _ rfl; have s1 := bs.1 1 _ rfl; have s2 := bs.1 2 _ rfl; have s3 := bs.1 3 _ rfl; have s4 := bs.1 4 _ rfl; clear hb bt bs)
     all_goals (go_ret; exact ⟨ret_bool (by first | exact hr.out.symm | (rw [hr.out]; simp; done) | (rw [hr.out]; simp; omega)), hB⟩)
    ·
     have h3' : (d == 0) = false := by simpa using h3
     have hr : Hid (rightT tr ⟨4, t, d, k, r⟩ = false) := rightL_false' (by omega)
     clear hb hS h2
     go_enter Try.func40, Try.ntmps40
     go_wp2_with (go_at_call 82; refine (c1 _).mono ?_; rintro e w1 ⟨rfl, hb⟩; obtain ⟨bt, bs, hB⟩ := boxes2 w [.slice ta tl tc, .int .i64 tr, .int .i64 wt, .int .i64 le] [.int .i64 4, .int .i64 t, .int .i64 d, .int .i64 k, .string r] _ _ (by simp) (by simp) hb; have x1 := bt.1 1 _ rfl; have s0 := bs.1 0 _ rfl; have s1 := bs.1 1 _ rfl; have s2 := bs.1 2 _ rfl; have s3 := bs.1 3 _ rfl; have s4 := bs.1 4 _ rfl; clear hb bt bs)
     all_goals (go_ret; exact ⟨ret_bool (by first | exact hr.out.symm | (rw [hr.out]; simp; done) | (rw [hr.out]; simp; omega)), hB⟩)
   ·
    have h2' : (t != tr) = true := by simpa using h2
    have hr : Hid (rightT tr ⟨4, t, d, k, r⟩ = false) := rightL_false' (by omega)
    clear hb hS
    go_enter Try.func40, Try.ntmps40
    go_wp2_with (go_at_call 82; refine (c1 _).mono ?_; rintro e w1 ⟨rfl, hb⟩; obtain ⟨bt, bs, hB⟩ := boxes2 w [.slice ta tl tc, .int .i64 tr, .int .i64 wt, .int .i64 le] [.int .i64 4, .int .i64 t, .int .i64 d, .int .i64 k, .string r] _ _ (by simp) (by simp) hb; have x1 := bt.1 1 _ rfl; have s0 := bs.1 0 _ rfl; have s1 := bs.1 1 _ rfl; have s2 := bs.1 2 _ rfl; have s3 := bs.1 3 _ rfl; have s4 := bs.1 4 _ rfl; clear hb bt bs)
    all_goals (go_ret; exact ⟨ret_bool (by first | exact hr.out.symm | (rw [hr.out]; simp; done) | (rw [hr.out]; simp; omega)), hB⟩)
  obtain rfl : i = 5 := by omega
  clear i0 i1 i2 i3 i4
  by_cases h3 : d = 0
  ·
   subst h3
   have hr : Hid (rightT tr ⟨5, t, 0, k, r⟩ = true) := rightL_true' hb (by omega)
   clear hb hS
   go_enter Try.func40, Try.ntmps40
   go_wp2_with (go_at_call 82; refine (c1 _).mono ?_; rintro e w1 ⟨rfl, hb⟩; obtain ⟨bt, bs, hB⟩ := boxes2 w [.slice ta tl tc, .int .i64 tr, .int .i64 wt, .int .i64 le] [.int .i64 5, .int .i64 t, .int .i64 0, .int .i64 k, .string r] _ _ (by simp) (by simp) hb; have x1 := bt.1 1 _ rfl; have s0 := bs.1 0 _ rfl; have s1 := bs.1 1 _ rfl; have s2 := bs.1 2 _ rfl; have s3 := bs.1 3 _ rfl; have s4 := bs.1 4 _ rfl; clear hb bt bs)
   all_goals (go_ret; exact ⟨ret_bool (by first | exact hr.out.symm | (rw [hr.out]; simp; done) | (rw [hr.out]; simp; omega)), hB⟩)
  ·
   have h3' : (d == 0) = false := by simpa using h3
   have hr : Hid (rightT tr ⟨5, t, d, k, r⟩ = false) := rightL_false' (by omega)
   clear hb hS
   go_enter Try.func40, Try.ntmps40
   go_wp2_with (go_at_call 82; refine (c1 _).mono ?_; rintro e w1 ⟨rfl, hb⟩; obtain ⟨bt, bs, hB⟩ := boxes2 w [.slice ta tl tc, .int .i64 tr, .int .i64 wt, .int .i64 le] [.int .i64 5, .int .i64 t, .int .i64 d, .int .i64 k, .string r] _ _ (by simp) (by simp) hb; have x1 := bt.1 1 _ rfl; have s0 := bs.1 0 _ rfl; have s1 := bs.1 1 _ rfl; have s2 := bs.1 2 _ rfl; have s3 := bs.1 3 _ rfl; have s4 := bs.1 4 _ rfl; clear hb bt bs)
   all_goals (go_ret; exact ⟨ret_bool (by first | exact hr.out.symm | (rw [hr.out]; simp; done) | (rw [hr.out]; simp; omega)), hB⟩)
set_option maxRecDepth 20000 in
set_option maxHeartbeats 4000000 in
theorem refShaped_any (s : ByteArray) (a : Option Addr) (c n : Nat) (ts : List TaskV) (w : World) (hn : n = ts.length) (hT : IsT w a c ts) (h10 : n ≤ 10) (hs : s.size ≤ maxLen) :
  Calls Try.prog 32 #[.agg #[.string s, .slice a n c]] w fun e w' => e = .returned (.bool (nameB s && decide (0 < n) && tasksB (plainT ts))) ∧ Below w.heap.size w w' := by
 unfold maxLen at hs
 have HT : Hid (IsT w a c ts) := hT
 have HN : Hid (n = ts.length) := hn
 have HP : Hid ((plainT ts).length = n) := by show _ = _; rw [plainT_length, hn]
 clear hT hn
 have hB0 : Below w.heap.size w (w.alloc (.cells #[.string s, .slice a n c] 24)) := (Below.refl _ _).alloc (Nat.le_refl _) _
 by_cases h0 : 0 < n
 ·
  have h0' : ¬ (n : Int) < 1 := by omega
  by_cases h1 : 1 ≤ s.size
  ·
   have h1' : ¬ (s.size : Int) < 1 := by omega
   by_cases h2 : s.size ≤ 16
   ·
    have h2' : ¬ (16 : Int) < s.size := by omega
    have E : Hid (nameB s = true) := by show _ = _; unfold nameB; rw [decide_eq_true_eq]; omega
    rw [E.out, decide_eq_true h0, Bool.true_and, Bool.true_and]
    go_enter Try.func32, Try.ntmps32
    go_wp2
    go_loopw [28] (fun v wr => ∃ j : Nat, j ≤ n ∧ v = .int .i64 j ∧ Hid (TasksTo n (plainT ts) j) ∧ Below w.heap.size w wr) (fun v _ => n - (intOf v).toNat)
    case atStart => exact ⟨0, by omega, rfl, fun i t h => by omega, hB0⟩
    case round =>
     obtain ⟨j, hj, rfl, HA, hB⟩ := hrel
     by_cases hlt : j < n
     ·
      have hlt' : (j : Int) < n := by omega
      obtain ⟨t, ht⟩ : ∃ t, ts[j]? = some t := ⟨_, List.getElem?_eq_getElem (by rw [← HN.out]; exact hlt)⟩
      obtain ⟨b, o, rfl, hlb, c0, c1, c2, c3⟩ := HT.out.2.2.2 j t ht
      have z0 := cell_below hB c0
      have z1 := cell_below hB c1
      have z2 := cell_below hB c2
      have z3 := cell_below hB c3
      have hI : IsI (wr.alloc (.cells #[.slice t.a t.ns.length t.c, .int .i64 t.tr, .int .i64 t.wt, .int .i64 t.le] 50)) t.a t.c t.ns := ((HT.out.2.2.1 t (List.mem_of_getElem? ht)).below hB).below ((Below.refl _ _).alloc (Nat.le_refl _) _)
      have HB2 : Hid (Below w.heap.size w (wr.alloc (.cells #[.slice t.a t.ns.length t.c, .int .i64 t.tr, .int .i64 t.wt, .int .i64 t.le] 50))) := hB.alloc hB.size _
      have bx : BoxL (wr.alloc (.cells #[.slice t.a t.ns.length t.c, .int .i64 t.tr, .int .i64 t.wt, .int .i64 t.le] 50)) wr.heap.size [.slice t.a t.ns.length t.c, .int .i64 t.tr, .int .i64 t.wt, .int .i64 t.le] := boxL_new _ _ _ rfl
      have hkm : t.ns.length ≤ 9223372036854775807 := Nat.le_trans hI.1 hI.2.1
      have bad : Hid (taskB n t.p = false → tasksB (plainT ts) = false) := fun h => tasksB_bad (plainT_get ht) (by rw [HP.out]; exact h)
      have needsNo : Hid (needsB n 0 t.ns = false → taskB n t.p = false) := fun h => by show taskB n ⟨t.ns, _, _, _⟩ = false; unfold taskB; rw [h]; rfl
      have good : Hid (taskB n t.p = true → TasksTo n (plainT ts) (j + 1)) := fun h => tasksTo_succ HA.out (plainT_get ht) h
      have hA : Hid (needsB n 0 t.ns = true → 1 ≤ t.tr ∧ t.tr ≤ 8 ∧ 0 ≤ t.wt ∧ t.wt ≤ 1048576 ∧ 1 ≤ t.le ∧ t.le ≤ 1048576 → taskB n t.p = true) := fun h1 h2 => (taskB_iff _ _).2 ⟨h1, h2⟩
      have hNo : Hid (¬ (1 ≤ t.tr ∧ t.tr ≤ 8 ∧ 0 ≤ t.wt ∧ t.wt ≤ 1048576 ∧ 1 ≤ t.le ∧ t.le ≤ 1048576) → taskB n t.p = false) := fun h => by rw [Bool.eq_false_iff]; exact fun h' => h ((taskB_iff _ _).1 h').2
      clear c0 c1 c2 c3 HA hB0 ht
      obtain ⟨k, hk⟩ : ∃ k, k = t.ns.length := ⟨_, rfl⟩
      rw [← hk] at z0 HB2 bx hkm hI
      have HK : Hid (k = t.ns.length) := hk
      clear hk
      generalize t.ns = ns at *
      generalize t.tr = tr at *
      generalize t.wt = wt at *
      generalize t.le = le at *
      generalize t.a = ta at *
      generalize t.c = tc at *
      go_wp2
      obtain ⟨W2, hW2⟩ : ∃ W2, W2 = wr.alloc (.cells #[.slice ta k tc, .int .i64 tr, .int .i64 wt, .int .i64 le] 50) := ⟨_, rfl⟩
      rw [← hW2] at HB2 bx hI ⊢
      have hz : wr.heap.size < W2.heap.size := by rw [hW2]; simp
      have HI : Hid (IsI W2 ta tc ns) := hI
      have x0 := bx.1 0 _ rfl
      have x1 := bx.1 1 _ rfl
      have x2 := bx.1 2 _ rfl
      have x3 := bx.1 3 _ rfl
      clear hW2 hI bx hB
      go_loopw [35] (fun v wq => ∃ i : Nat, i ≤ k ∧ v = .int .i64 i ∧ Hid (needsB n 0 (ns.take i) = true) ∧ wq = W2) (fun v _ => k - (intOf v).toNat)
      case atStart => exact ⟨0, by omega, rfl, rfl, rfl⟩
      case round =>
       obtain ⟨i, hi, rfl, HL, rfl⟩ := hrel
       by_cases hil : i < k
       ·
        have hil' : (i : Int) < k := by omega
        obtain ⟨x, hx⟩ : ∃ x, ns[i]? = some x := ⟨_, List.getElem?_eq_getElem (by rw [← HK.out]; exact hil)⟩
        obtain ⟨b2, o2, rfl, -, hc⟩ := HI.out.2.2 i x hx
        clear good hA hNo
        by_cases h3 : x < 0
        ·
         have hneg : Hid (¬ (nextN 0 (ns.take i) ≤ x ∧ x < n)) := fun h => by have := needsB_from HL.out; omega
         have e : Hid (tasksB (plainT ts) = false) := bad.out (needsNo.out (needsB_bad hx hneg.out))
         clear bad needsNo HL hx hneg
         go_wp2
         go_ret
         exact ⟨by rw [e.out]; rfl, HB2.out⟩
        ·
         by_cases h4 : x < n
         ·
          have h4' : ¬ (n : Int) ≤ x := by omega
          by_cases h5 : i = 0
          ·
           subst h5
           have G : Hid (needsB n 0 (ns.take (0 + 1)) = true) := needsB_take hx HL.out (by show (0 : Int) ≤ x; omega) h4
           clear bad needsNo HL hx
           rw [Nat.add_zero] at hc
           go_wp2
           go_roundw
           case rel => exact ⟨0 + 1, by omega, by go_num, G, trivial⟩
           case measure => simp [intOf]; omega
          ·
           obtain ⟨i0, rfl⟩ : ∃ i0, i = i0 + 1 := ⟨i - 1, by omega⟩
           obtain ⟨y, hy⟩ : ∃ y, ns[i0]? = some y := ⟨_, List.getElem?_eq_getElem (by rw [← HK.out]; omega)⟩
           obtain ⟨b3, o3, e3, -, hd⟩ := HI.out.2.2 i0 y hy
           obtain ⟨rfl, rfl⟩ : b2 = b3 ∧ o2 = o3 := by cases e3; exact ⟨rfl, rfl⟩
           have hnx : Hid (nextN 0 (ns.take (i0 + 1)) = y + 1) := nextN_take hy
           have hi0 : (0 : Int) < (i0 + 1 : Nat) := by omega
           by_cases h6 : y < x
           ·
            have h6' : ¬ x ≤ y := by omega
            have G : Hid (needsB n 0 (ns.take (i0 + 1 + 1)) = true) := needsB_take hx HL.out (by rw [hnx.out]; omega) h4
            clear bad needsNo HL hx hnx hy
            go_wp2
            go_roundw
            case rel => exact ⟨i0 + 1 + 1, by omega, by go_num, G, trivial⟩
            case measure => simp [intOf]; omega
           ·
            have h6' : x ≤ y := by omega
            have e : Hid (tasksB (plainT ts) = false) := bad.out (needsNo.out (needsB_bad hx (by rw [hnx.out]; omega)))
            clear bad needsNo HL hx hnx hy
            go_wp2
            go_ret
            exact ⟨by rw [e.out]; rfl, HB2.out⟩
         ·
          have h4' : (n : Int) ≤ x := by omega
          have e : Hid (tasksB (plainT ts) = false) := bad.out (needsNo.out (needsB_bad hx (fun h => h4 h.2)))
          clear bad needsNo HL hx
          go_wp2
          go_ret
          exact ⟨by rw [e.out]; rfl, HB2.out⟩
       ·
        obtain rfl : i = k := by omega
        have hx : ¬ (i : Int) < i := by omega
        have hN : needsB n 0 ns = true := by
         have := HL.out
         rw [HK.out, List.take_length] at this
         exact this
        replace hA : Hid (1 ≤ tr ∧ tr ≤ 8 ∧ 0 ≤ wt ∧ wt ≤ 1048576 ∧ 1 ≤ le ∧ le ≤ 1048576 → taskB n t.p = true) := hA.out hN
        clear hN HL needsNo
        by_cases h1 : 1 ≤ tr
        ·
         have h1' : ¬ tr < 1 := by omega
         by_cases h2 : tr ≤ 8
         ·
          have h2' : ¬ 8 < tr := by omega
          by_cases h3 : 0 ≤ wt
          ·
           have h3' : ¬ wt < 0 := by omega
           by_cases h4 : wt ≤ 1048576
           ·
            have h4' : ¬ 1048576 < wt := by omega
            by_cases h5 : 1 ≤ le
            ·
             have h5' : ¬ le < 1 := by omega
             by_cases h6 : le ≤ 1048576
             ·
              have h6' : ¬ 1048576 < le := by omega
              have G : Hid (TasksTo n (plainT ts) (j + 1)) := good.out (hA.out ⟨h1, h2, h3, h4, h5, h6⟩)
              clear bad good hA hNo
              go_wp2
              go_roundw
              case rel => exact ⟨j + 1, by omega, by go_num, G, HB2.out⟩
              case measure => simp [intOf]; omega
             ·
              have h6' : 1048576 < le := by omega
              have e : Hid (tasksB (plainT ts) = false) := bad.out (hNo.out (fun h => by omega))
              clear bad good hA hNo
              go_wp2
              go_ret
              exact ⟨by rw [e.out]; rfl, HB2.out⟩
            ·
             have h5' : le < 1 := by omega
             have e : Hid (tasksB (plainT ts) = false) := bad.out (hNo.out (fun h => by omega))
             clear bad good hA hNo
             go_wp2
             go_ret
             exact ⟨by rw [e.out]; rfl, HB2.out⟩
           ·
            have h4' : 1048576 < wt := by omega
            have e : Hid (tasksB (plainT ts) = false) := bad.out (hNo.out (fun h => by omega))
            clear bad good hA hNo
            go_wp2
            go_ret
            exact ⟨by rw [e.out]; rfl, HB2.out⟩
          ·
           have h3' : wt < 0 := by omega
           have e : Hid (tasksB (plainT ts) = false) := bad.out (hNo.out (fun h => by omega))
           clear bad good hA hNo
           go_wp2
           go_ret
           exact ⟨by rw [e.out]; rfl, HB2.out⟩
         ·
          have h2' : 8 < tr := by omega
          have e : Hid (tasksB (plainT ts) = false) := bad.out (hNo.out (fun h => by omega))
          clear bad good hA hNo
          go_wp2
          go_ret
          exact ⟨by rw [e.out]; rfl, HB2.out⟩
        ·
         have h1' : tr < 1 := by omega
         have e : Hid (tasksB (plainT ts) = false) := bad.out (hNo.out (fun h => by omega))
         clear bad good hA hNo
         go_wp2
         go_ret
         exact ⟨by rw [e.out]; rfl, HB2.out⟩
     ·
      obtain rfl : j = n := by omega
      have e : Hid (tasksB (plainT ts) = true) := tasksTo_all (by rw [HP.out]; exact HA.out)
      have hx : ¬ (j : Int) < j := by omega
      clear HA
      go_wp2
      go_ret
      exact ⟨by rw [e.out]; rfl, hB⟩
   ·
    have h2' : (16 : Int) < s.size := by omega
    have E : Hid (nameB s = false) := by show _ = _; unfold nameB; rw [decide_eq_false (fun h => h2 h.2)]
    go_enter Try.func32, Try.ntmps32
    go_wp2
    go_ret
    exact ⟨by rw [E.out]; rfl, hB0⟩
  ·
   have h1' : (s.size : Int) < 1 := by omega
   have E : Hid (nameB s = false) := by show _ = _; unfold nameB; rw [decide_eq_false (fun h => h1 h.1)]
   go_enter Try.func32, Try.ntmps32
   go_wp2
   go_ret
   exact ⟨by rw [E.out]; rfl, hB0⟩
 ·
  have h0' : (n : Int) < 1 := by omega
  have E : Hid ((nameB s && decide (0 < n) && tasksB (plainT ts)) = false) := by show _ = _; rw [decide_eq_false h0, Bool.and_false]; rfl
  go_enter Try.func32, Try.ntmps32
  go_wp2
  go_ret
  exact ⟨by rw [E.out]; rfl, hB0⟩
theorem setAll_take {o : List Bool} {xs : List Int} {j : Nat} {x : Int} (h : xs[j]? = some x) : setAll o (xs.take (j + 1)) = (setAll o (xs.take j)).set x.toNat true := by
 rw [List.take_add_one, h, setAll_append]
 rfl
theorem RowT.there {w : World} {g n : Nat} {l : List Bool} (R : RowT w g n l) (hl : l.length = n) {x : Nat} (hx : x < n) : w.cell? ⟨g, x, none⟩ = some (.bool (onAt l x)) ∧ w.frozen? ⟨g, x, none⟩ = false := by
 have hv : l[x]? = some (onAt l x) := by unfold onAt; rw [List.getElem?_eq_getElem (by omega)]; rfl
 exact R.cell hv
set_option maxRecDepth 20000 in
set_option maxHeartbeats 4000000 in
theorem reach_any (s : ByteArray) (a : Option Addr) (c n : Nat) (ts : List TaskV) (from_ : Nat) (w : World) (hn : n = ts.length) (hT : IsT w a c ts) (hin : Inside (plainT ts)) (h20 : n ≤ 20) (hf : from_ < n) :
  Calls Try.prog 33 #[.agg #[.string s, .slice a n c], .int .i64 from_] w fun e w' => ∃ g, e = .returned (.slice (some ⟨g, 0, none⟩) n n) ∧ RowT w' g n (reachL (plainT ts) from_) ∧ Below w.heap.size w w' := by
 have hPn : (plainT ts).length = n := by rw [plainT_length]; exact hn.symm
 obtain ⟨Z, hmk, hZ⟩ : ∃ Z : Array Value, (∀ W : World, (Instr.makeSlice 56 (.int .i64 n) (.int .i64 n)).run Try.prog W = .ok (.slice (some ⟨W.heap.size, 0, none⟩) n n) (W.alloc (.cells Z 4))) ∧ Z = (List.replicate n (Value.bool false)).toArray :=
  ⟨madeCells #[.bool false] n, fun W => run_make_row' (P := Try.prog) 56 4 (.bool false) 1 Try.underlying56 Try.info4 rfl .i64 .i64 n (by omega) (by omega) W, made_one _ n⟩
 obtain ⟨W, hW⟩ : ∃ W, W = (w.alloc (.cells #[.string s, .slice a n c] 24)).alloc (.cells Z 4) := ⟨_, rfl⟩
 have zW : W.heap.size = w.heap.size + 1 + 1 := by rw [hW]; simp
 have hBa : Below w.heap.size w (w.alloc (.cells #[.string s, .slice a n c] 24)) := (Below.refl _ _).alloc (Nat.le_refl _) _
 have hB0 : Below w.heap.size w W := by rw [hW]; exact hBa.alloc (by simp) _
 have bX : BoxL W w.heap.size [.string s, .slice a n c] := by rw [hW]; exact (boxL_new _ _ _ rfl).alloc _
 have R0 : RowT W (w.heap.size + 1) n (List.replicate n false) := by rw [hW]; exact RowT.new _ n hZ (by simp) (by unfold maxLen; omega)
 have q1 := bX.1 1 _ rfl
 obtain ⟨t, ht⟩ : ∃ t, ts[from_]? = some t := ⟨_, List.getElem?_eq_getElem (by omega)⟩
 obtain ⟨b, o, rfl, -⟩ := hT.some (by omega)
 obtain ⟨y0, -, -, -, hI⟩ := (hT.below hB0).at ht
 have HT : Hid (IsT w (some ⟨b, o, none⟩) c ts) := hT
 have HN : Hid (n = ts.length) := hn
 have HP : Hid ((plainT ts).length = n) := hPn
 have HI : Hid (Inside (plainT ts)) := hin
 have hnm : n ≤ 9223372036854775807 := by omega
 have hf' : (from_ : Int) < n := by omega
 have HX : Hid (∀ x ∈ t.ns, 0 ≤ x ∧ x < n) := fun x hx => by
  have := hin from_ x (by rw [needsAt_get ht]; exact hx)
  omega
 have hkm : t.ns.length ≤ 9223372036854775807 := Nat.le_trans hI.1 hI.2.1
 have HA : Hid (needsAt (plainT ts) from_ = t.ns) := needsAt_get ht
 have HI0 : Hid (IsI w t.a t.c t.ns) := hT.2.2.1 t (List.mem_of_getElem? ht)
 obtain ⟨k, hk⟩ : ∃ k, k = t.ns.length := ⟨_, rfl⟩
 rw [← hk] at y0 hkm
 have HK : Hid (k = t.ns.length) := hk
 clear hn hT hin bX hBa hZ hPn ht hI hk
 generalize t.a = ta at *
 generalize t.c = tc at *
 generalize t.ns = ns at *
 rw [hW] at q1 y0
 go_enter Try.func33, Try.ntmps33
 go_wp2
 rw [← hW]
 rw [← hW] at q1 y0
 clear hW hmk
 go_loopw [24] (fun v wr => ∃ j : Nat, j ≤ k ∧ v = .int .i64 j ∧ RowT wr (w.heap.size + 1) n (setAll (List.replicate n false) (ns.take j)) ∧ wr.cell? ⟨w.heap.size, 1, none⟩ = some (.slice (some ⟨b, o, none⟩) n c) ∧ w.heap.size + 1 + 1 ≤ wr.heap.size ∧ Below w.heap.size w wr) (fun v _ => k - (intOf v).toNat)
 case atStart => exact ⟨0, by omega, rfl, R0, q1, by omega, hB0⟩
 case round =>
  clear R0 q1 y0
  obtain ⟨j, hj, rfl, R, q1, hz, hB⟩ := hrel
  by_cases hlt : j < k
  ·
   have hlt' : (j : Int) < k := by omega
   obtain ⟨x, hx⟩ : ∃ x, ns[j]? = some x := ⟨_, List.getElem?_eq_getElem (by rw [← HK.out]; exact hlt)⟩
   obtain ⟨b2, o2, rfl, -, hc⟩ := (HI0.out.below hB).2.2 j x hx
   obtain ⟨h0, h1⟩ := HX.out x (List.mem_of_getElem? hx)
   obtain ⟨y, rfl⟩ : ∃ y : Nat, x = y := ⟨x.toNat, by omega⟩
   obtain ⟨d0, d1⟩ := R.there (by rw [setAll_length]; simp) (x := y) (by omega)
   have R2 : Hid (RowT (wr.setCell ⟨w.heap.size + 1, y, none⟩ (.bool true)) (w.heap.size + 1) n (setAll (List.replicate n false) (ns.take (j + 1)))) := by
    show RowT _ _ _ _
    rw [setAll_take hx, Int.toNat_natCast]
    exact R.set y true
   have q1' := cell_set_other (k := w.heap.size + 1) (j := y) (u := .bool true) (.inl (by omega)) q1
   have hB2 : Below w.heap.size w (wr.setCell ⟨w.heap.size + 1, y, none⟩ (.bool true)) := hB.setCell (p := ⟨w.heap.size + 1, y, none⟩) (Nat.le_succ _) _
   generalize onAt (setAll (List.replicate n false) (ns.take j)) y = yv at d0
   clear R hx h0
   go_wp2
   go_roundw
   case rel => exact ⟨j + 1, by omega, by go_num, R2.out, q1', by simpa using hz, hB2⟩
   case measure => simp [intOf]; omega
  ·
   obtain rfl : j = k := by omega
   have hx : ¬ (j : Int) < j := by omega
   obtain ⟨O, hO⟩ : ∃ O, O = setAll (List.replicate n false) ns := ⟨_, rfl⟩
   rw [List.take_of_length_le (by rw [← HK.out]; exact Nat.le_refl _), ← hO] at R
   have HO : Hid (reachL (plainT ts) from_ = roundsR (plainT ts) n O) := by show _ = _; unfold reachL; rw [HP.out, HA.out, hO]
   have hOl : O.length = n := by rw [hO, setAll_length]; simp
   clear hO HX HA HI0
   go_wp2
   go_loopw [8] (fun v wr => ∃ r : Nat, r ≤ n ∧ v = .int .i64 r ∧ RowT wr (w.heap.size + 1) n (roundsR (plainT ts) r O) ∧ wr.cell? ⟨w.heap.size, 1, none⟩ = some (.slice (some ⟨b, o, none⟩) n c) ∧ w.heap.size + 1 + 1 ≤ wr.heap.size ∧ Below w.heap.size w wr) (fun v _ => n - (intOf v).toNat)
   case atStart => exact ⟨0, by omega, rfl, R, q1, hz, hB⟩
   case round =>
    clear R q1 hz hB hx hlt hj hkm HK
    obtain ⟨r, hr, rfl, R, q1, hz, hB⟩ := hrel
    by_cases hrn : r < n
    ·
     have hrn' : (r : Int) < n := by omega
     obtain ⟨P, hP⟩ : ∃ P, P = roundsR (plainT ts) r O := ⟨_, rfl⟩
     rw [← hP] at R
     have HR : Hid (roundsR (plainT ts) (r + 1) O = passN (plainT ts) n P) := by show _ = _; rw [hP]; show passR _ _ = _; unfold passR; rw [HP.out]
     have hPl : P.length = n := by rw [hP, roundsR_length, hOl]
     clear hP
     go_wp2
     go_loopw [42] (fun v wr => ∃ i : Nat, i ≤ n ∧ v = .int .i64 i ∧ RowT wr (w.heap.size + 1) n (passN (plainT ts) i P) ∧ wr.cell? ⟨w.heap.size, 1, none⟩ = some (.slice (some ⟨b, o, none⟩) n c) ∧ w.heap.size + 1 + 1 ≤ wr.heap.size ∧ Below w.heap.size w wr) (fun v _ => n - (intOf v).toNat)
     case atStart => exact ⟨0, by omega, rfl, R, q1, hz, hB⟩
     case round =>
      clear R q1 hz hB
      obtain ⟨i, hi, rfl, R, q1, hz, hB⟩ := hrel
      by_cases hin : i < n
      ·
       have hin' : (i : Int) < n := by omega
       obtain ⟨t, ht⟩ : ∃ t, ts[i]? = some t := ⟨_, List.getElem?_eq_getElem (by rw [← HN.out]; exact hin)⟩
       obtain ⟨z0, z1, z2, z3, hI⟩ := (HT.out.below hB).at ht
       have hAl : (passN (plainT ts) i P).length = n := by rw [passN_length, hPl]
       obtain ⟨d0, d1⟩ := R.there hAl (x := i) hin
       have HX : Hid (∀ x ∈ t.ns, 0 ≤ x ∧ x < n) := fun x hx => by
        have := HI.out i x (by rw [needsAt_get ht]; exact hx)
        have := HP.out
        omega
       have HA : Hid (needsAt (plainT ts) i = t.ns) := needsAt_get ht
       have HI0 : Hid (IsI w t.a t.c t.ns) := HT.out.2.2.1 t (List.mem_of_getElem? ht)
       have hkm : t.ns.length ≤ 9223372036854775807 := Nat.le_trans hI.1 hI.2.1
       obtain ⟨V, hV⟩ : ∃ V, V = wr.alloc (.cells #[.slice t.a t.ns.length t.c, .int .i64 t.tr, .int .i64 t.wt, .int .i64 t.le] 50) := ⟨_, rfl⟩
       have hbV : Below wr.heap.size wr V := by rw [hV]; exact (Below.refl _ _).alloc (Nat.le_refl _) _
       have bx : BoxL V wr.heap.size [.slice t.a t.ns.length t.c, .int .i64 t.tr, .int .i64 t.wt, .int .i64 t.le] := by rw [hV]; exact boxL_new _ _ _ rfl
       have RV := R.below hbV
       have qV := cell_below hbV q1
       have hzV : w.heap.size + 1 + 1 ≤ V.heap.size := Nat.le_trans hz hbV.size
       have hBV := Below.tr hB hbV
       have dV := cell_below hbV d0
       have x0 := bx.1 0 _ rfl
       clear hI R q1 hB d0 d1 bx hbV ht
       obtain ⟨k2, hk2⟩ : ∃ k2, k2 = t.ns.length := ⟨_, rfl⟩
       rw [← hk2] at z0 hkm hV x0
       have HK : Hid (k2 = t.ns.length) := hk2
       clear hk2
       generalize t.a = ta at *
       generalize t.c = tc at *
       generalize t.ns = ns2 at *
       generalize t.tr = t1 at *
       generalize t.wt = t2 at *
       generalize t.le = t3 at *
       cases hv : onAt (passN (plainT ts) i P) i with
       | false =>
        have HE : Hid (passN (plainT ts) (i + 1) P = passN (plainT ts) i P) := by show (if _ then _ else _) = _; rw [if_neg (by rw [hv]; decide)]
        rw [hv] at dV
        rw [hV] at dV
        clear hv
        go_wp2
        rw [← hV]
        go_roundw
        case rel => exact ⟨i + 1, by omega, by go_num, by rw [HE.out]; exact RV, qV, hzV, hBV⟩
        case measure => simp [intOf]; omega
       | true =>
        have HE : Hid (passN (plainT ts) (i + 1) P = setAll (passN (plainT ts) i P) ns2) := by show (if _ then _ else _) = _; rw [if_pos hv, HA.out]
        rw [hv] at dV
        rw [hV] at dV
        clear hv
        go_wp2
        rw [← hV]
        rw [← hV] at dV
        clear hV
        go_loopw [54] (fun v wr => ∃ j : Nat, j ≤ k2 ∧ v = .int .i64 j ∧ RowT wr (w.heap.size + 1) n (setAll (passN (plainT ts) i P) (ns2.take j)) ∧ wr.cell? ⟨w.heap.size, 1, none⟩ = some (.slice (some ⟨b, o, none⟩) n c) ∧ w.heap.size + 1 + 1 ≤ wr.heap.size ∧ Below w.heap.size w wr) (fun v _ => k2 - (intOf v).toNat)
        case atStart => exact ⟨0, by omega, rfl, RV, qV, hzV, hBV⟩
        case round =>
         clear RV qV hzV hBV dV x0
         obtain ⟨j, hj, rfl, R, q1, hz2, hB⟩ := hrel
         by_cases hlt : j < k2
         ·
          have hlt' : (j : Int) < k2 := by omega
          obtain ⟨x, hx⟩ : ∃ x, ns2[j]? = some x := ⟨_, List.getElem?_eq_getElem (by rw [← HK.out]; exact hlt)⟩
          obtain ⟨b2, o2, rfl, -, hc⟩ := (HI0.out.below hB).2.2 j x hx
          obtain ⟨h0, h1⟩ := HX.out x (List.mem_of_getElem? hx)
          obtain ⟨y, rfl⟩ : ∃ y : Nat, x = y := ⟨x.toNat, by omega⟩
          obtain ⟨d0, d1⟩ := R.there (by rw [setAll_length]; exact hAl) (x := y) (by omega)
          have R2 : Hid (RowT (wr.setCell ⟨w.heap.size + 1, y, none⟩ (.bool true)) (w.heap.size + 1) n (setAll (passN (plainT ts) i P) (ns2.take (j + 1)))) := by
           show RowT _ _ _ _
           rw [setAll_take hx, Int.toNat_natCast]
           exact R.set y true
          have q1' := cell_set_other (k := w.heap.size + 1) (j := y) (u := .bool true) (.inl (by omega)) q1
          have hB2 : Below w.heap.size w (wr.setCell ⟨w.heap.size + 1, y, none⟩ (.bool true)) := hB.setCell (p := ⟨w.heap.size + 1, y, none⟩) (Nat.le_succ _) _
          generalize onAt (setAll (passN (plainT ts) i P) (ns2.take j)) y = yv at d0
          clear R hx h0
          go_wp2
          go_roundw
          case rel => exact ⟨j + 1, by omega, by go_num, R2.out, q1', by simpa using hz2, hB2⟩
          case measure => simp [intOf]; omega
         ·
          obtain rfl : j = k2 := by omega
          have hx : ¬ (j : Int) < j := by omega
          rw [List.take_of_length_le (by rw [← HK.out]; exact Nat.le_refl _)] at R
          have R2 : Hid (RowT wr (w.heap.size + 1) n (passN (plainT ts) (i + 1) P)) := by show RowT _ _ _ _; rw [HE.out]; exact R
          clear R HE
          go_wp2
          go_roundw
          case rel => exact ⟨i + 1, by omega, by go_num, R2.out, q1, hz2, hB⟩
          case measure => simp [intOf]; omega
      ·
       obtain rfl : i = n := by omega
       have hx : ¬ (i : Int) < i := by omega
       have R2 : Hid (RowT wr (w.heap.size + 1) i (roundsR (plainT ts) (r + 1) O)) := by show RowT _ _ _ _; rw [HR.out]; exact R
       clear R HR
       go_wp2
       go_roundw
       case rel => exact ⟨r + 1, by omega, by go_num, R2.out, q1, hz, hB⟩
       case measure => simp [intOf]; omega
    ·
     obtain rfl : r = n := by omega
     have hx : ¬ (r : Int) < r := by omega
     have R2 : Hid (RowT wr (w.heap.size + 1) r (reachL (plainT ts) from_)) := by show RowT _ _ _ _; rw [HO.out]; exact R
     clear R HO
     go_wp2
     go_ret
     exact ⟨_, rfl, R2.out, hB⟩
theorem rightG_round {s : ByteArray} {ts : List TaskP} (h10 : ¬ 10 < ts.length) (h : (nameB s && decide (0 < ts.length) && tasksB ts) = true) {i : Nat} (hi : i < ts.length) (hr : onAt (reachL ts i) i = true) : rightG s ts = 160 := by
 rw [Bool.and_eq_true] at h
 have hin := tasksB_inside h.2
 refine rightG_cycle h10 (by rw [Bool.and_eq_true]; exact h) ?_
 have hat := ordD_at ts ts.length
 have hle : (orderL ts).length ≤ ts.length := by
  have := howMany_le (ordD ts ts.length).1
  rw [hat.many, hat.len] at this
  exact this
 refine Nat.lt_of_le_of_ne hle fun e => ?_
 have := (cyclic_iff hin).1 ((acyclic_iff hin).2 e) i hi
 rw [hr] at this
 cases this
theorem rightG_none {s : ByteArray} {ts : List TaskP} (h10 : ¬ 10 < ts.length) (h : (nameB s && decide (0 < ts.length) && tasksB ts) = true) (hr : ∀ i, i < ts.length → onAt (reachL ts i) i = false) : rightG s ts = 0 := by
 rw [Bool.and_eq_true] at h
 have hin := tasksB_inside h.2
 have := (acyclic_iff hin).1 ((cyclic_iff hin).2 hr)
 exact rightG_zero h10 (by rw [Bool.and_eq_true]; exact h) (by omega)
set_option maxRecDepth 20000 in
set_option maxHeartbeats 2000000 in
theorem refRight16_any (s : ByteArray) (a : Option Addr) (c n : Nat) (ts : List TaskV) (w : World) (hs : s.size ≤ maxLen) (hn : n = ts.length) (hT : IsT w a c ts) :
  Calls Try.prog 11 #[.agg #[.string s, .slice a n c]] w fun e w' => e = .returned (.int .i64 (rightG s (plainT ts))) ∧ Below w.heap.size w w' := by
 have hP : (plainT ts).length = n := by rw [plainT_length]; exact hn.symm
 have hnm : n ≤ 9223372036854775807 := by rw [hn]; exact Nat.le_trans hT.1 hT.2.1
 obtain ⟨W, hW⟩ : ∃ W, W = w.alloc (.cells #[.string s, .slice a n c] 24) := ⟨_, rfl⟩
 have bX : BoxL W w.heap.size [.string s, .slice a n c] := by rw [hW]; exact boxL_new _ _ _ rfl
 have hB0 : Below w.heap.size w W := by rw [hW]; exact (Below.refl _ _).alloc (Nat.le_refl _) _
 have q0 := bX.1 0 _ rfl
 have q1 := bX.1 1 _ rfl
 by_cases h10 : 10 < n
 ·
  have h10' : (10 : Int) < n := by omega
  have E : Hid (rightG s (plainT ts) = 2) := rightG_long (by rw [hP]; exact h10)
  clear hn hT hP
  rw [hW] at q0 q1
  go_enter Try.func11, Try.ntmps11
  go_wp2
  rw [← hW]
  go_ret
  exact ⟨by rw [E.out]; rfl, hB0⟩
 ·
  have h10' : ¬ (10 : Int) < n := by omega
  have cS := refShaped_any s a c n ts W hn (hT.below hB0) (by omega) hs
  cases ha : (nameB s && decide (0 < n) && tasksB (plainT ts)) with
  | false =>
   rw [ha] at cS
   have E : Hid (rightG s (plainT ts) = 1) := rightG_arg (by rw [hP]; exact h10) (by rw [hP]; exact ha)
   clear hn hT hP ha
   rw [hW] at q0 q1
   go_enter Try.func11, Try.ntmps11
   go_wp2_with (go_at_call 32; rw [← hW]; refine cS.mono ?_; rintro e w2 ⟨rfl, hb⟩; have hB2 := Below.tr hB0 hb)
   go_ret
   exact ⟨by rw [E.out]; rfl, hB2⟩
  | true =>
   rw [ha] at cS
   have ha2 := ha
   rw [Bool.and_eq_true] at ha2
   have hin := tasksB_inside ha2.2
   have cR : ∀ V i, Below w.heap.size w V → i < n → Calls Try.prog 33 #[.agg #[.string s, .slice a n c], .int .i64 i] V fun e w' => ∃ g, e = .returned (.slice (some ⟨g, 0, none⟩) n n) ∧ RowT w' g n (reachL (plainT ts) i) ∧ Below V.heap.size V w' := fun V i hb hi => reach_any s a c n ts i V hn (hT.below hb) hin (by omega) hi
   replace cR : Hid _ := cR
   have EC : Hid (∀ i, i < n → onAt (reachL (plainT ts) i) i = true → rightG s (plainT ts) = 160) := fun i hi h => rightG_round (by omega) (by rw [hP]; exact ha) (by omega) h
   have EZ : Hid ((∀ i, i < n → onAt (reachL (plainT ts) i) i = false) → rightG s (plainT ts) = 0) := fun h => rightG_none (by omega) (by rw [hP]; exact ha) (fun i hi => h i (by omega))
   have HL : Hid (∀ i, (reachL (plainT ts) i).length = n) := fun i => by unfold reachL; rw [roundsR_length, setAll_length, List.length_replicate, hP]
   clear hn hT hP ha ha2 hin
   rw [hW] at q0 q1
   go_enter Try.func11, Try.ntmps11
   go_wp2_with (go_at_call 32; rw [← hW]; refine cS.mono ?_; rintro e w2 ⟨rfl, hb⟩; have hB2 := Below.tr hB0 hb; rw [← hW] at q0 q1; have z0 := cell_below hb q0; have z1 := cell_below hb q1; have hz : w.heap.size < w2.heap.size := cell_lt z0)
   go_loopw [15] (fun v wr => ∃ j : Nat, j ≤ n ∧ v = .int .i64 j ∧ Hid (∀ i, i < j → onAt (reachL (plainT ts) i) i = false) ∧ Below w2.heap.size w2 wr) (fun v _ => n - (intOf v).toNat)
   case atStart => exact ⟨0, by omega, rfl, fun i h => by omega, Below.refl _ _⟩
   case round =>
    obtain ⟨j, hj, rfl, HA, hB⟩ := hrel
    have hBw := Below.tr hB2 hB
    have y0 := cell_below hB z0
    have y1 := cell_below hB z1
    clear hW bX q0 q1
    by_cases hlt : j < n
    ·
     have hlt' : (j : Int) < n := by omega
     have cJ := cR.out wr j hBw hlt
     have cJ2 : Calls Try.prog 33 #[.agg #[.string s, .slice a n c], .int .i64 j] wr fun e w' => ∃ g, e = .returned (.slice (some ⟨g, 0, none⟩) n n) ∧ w'.cell? ⟨g, j, none⟩ = some (.bool (onAt (reachL (plainT ts) j) j)) ∧ Below wr.heap.size wr w' := cJ.mono (by
      rintro e w' ⟨g, rfl, R, hb⟩
      exact ⟨g, rfl, (R.there (HL.out j) hlt).1, hb⟩)
     clear cJ
     cases hv : onAt (reachL (plainT ts) j) j with
     | true =>
      rw [hv] at cJ2
      have E : Hid (rightG s (plainT ts) = 160) := EC.out j hlt hv
      clear hv EC EZ HA
      go_wp2_with (go_at_call 33; refine cJ2.mono ?_; rintro e w3 ⟨g, rfl, hg, hb3⟩)
      go_ret
      exact ⟨by rw [E.out]; rfl, Below.tr hBw hb3⟩
     | false =>
      rw [hv] at cJ2
      have HA2 : Hid (∀ i, i < j + 1 → onAt (reachL (plainT ts) i) i = false) := fun i hi => by
       by_cases h : i = j
       ·
        subst h; exact hv
       ·
        exact HA.out i (by omega)
      clear hv EC HA
      go_wp2_with (go_at_call 33; refine cJ2.mono ?_; rintro e w3 ⟨g, rfl, hg, hb3⟩)
      go_roundw
      case rel => exact ⟨j + 1, by omega, by go_num, HA2, Below.tr hB hb3⟩
      case measure => simp [intOf]; omega
    ·
     obtain rfl : j = n := by omega
     have E : Hid (rightG s (plainT ts) = 0) := EZ.out HA.out
     have hx : ¬ (j : Int) < j := by omega
     clear EC EZ HA
     go_wp2
     go_ret
     exact ⟨by rw [E.out]; rfl, hBw⟩
end Go.Proofs.Ytdpljpjbomhccaa

/-
  The walk through the statement RunSettles.
-/
import Derived.Test.YtdpljpjbomhccaaRsA
import Derived.Test.YtdpljpjbomhccaaRtF
namespace Go.Proofs.Ytdpljpjbomhccaa
open Go.RowKit Plain
set_option linter.unusedVariables false

theorem wp_seq2 {P : Program} {x y z : Code} {Q : Exit → Act → World → Prop} {a : Act} {w : World} (h : ∀ K : Act → World → Prop, (∀ a w, z.wp P Q a w → K a w) → x.wp P (Exit.then (fun a w => y.wp P (Exit.then K Q) a w) Q) a w) : (x.seq (y.seq z)).wp P Q a w :=
  wp_seq (Code.wp_mono (fun e a w hh => by cases e <;> first | exact hh | exact wp_seq hh) (h _ fun _ _ h => h))

theorem rightOk_any {V : World} {ky nm : ByteArray} {is : Int} {fs : List TaskP} {zs : List StP} {xk xn : ByteArray} {xa : Option Addr} {xm xc : Nat} {xi : Int} {xz : Option Addr} {xq xl : Nat} (hky : ky.size ≤ maxLen) (hnm : nm.size ≤ maxLen) (hx : Said V 0 ky nm is fs zs xk xn xa xm xc xi xz xq xl) (hOk : RunOk ky nm fs zs is) :
    Calls Try.prog 15 #[.agg #[.string xk, .string xn, .slice xa xm xc, .int .i64 xi, .slice xz xq xl]] V fun e w' => e = .returned (.bool true) ∧ Below V.heap.size V w' := by
  have := rightY_any hky hnm hx
  rw [runB_iff.2 hOk] at this
  exact this



set_option maxRecDepth 20000 in
set_option maxHeartbeats 2000000 in
theorem runSettles_walk (ky nm : ByteArray) (ta : Option Addr) (tc : Nat) (tv : List TaskV) (is : Int) (sa : Option Addr) (sc : Nat) (ss : List StP) (now later k : Int) (w : World) (hky : ky.size ≤ maxLen) (hnm : nm.size ≤ maxLen) (hT : IsT w ta tc tv) (wi : (Lit.int .i64 is).wf = true) (hZ : IsZ w sa sc ss) (wn : (Lit.int .i64 now).wf = true) (wl : (Lit.int .i64 later).wf = true) (wk : (Lit.int .i64 k).wf = true) :
    Calls Try.prog 6 #[.agg #[.string ky, .string nm, .slice ta tv.length tc, .int .i64 is, .slice sa ss.length sc], .int .i64 now, .int .i64 later, .int .i64 k] w fun e w' => e = .returned (.bool true) ∧ Below w.heap.size w w' := by
  have hk : wfJ k := wk
  clear wi wn wk wl
  obtain ⟨tn, htn⟩ : ∃ x, x = tv.length := ⟨_, rfl⟩
  obtain ⟨n, hn⟩ : ∃ x, x = ss.length := ⟨_, rfl⟩
  rw [← htn, ← hn]
  have cF := fewRun_any ky nm ta tn tc is sa n sc tv ss w htn hT hn hZ
  unfold FewRun at cF
  obtain ⟨fv, hfs⟩ : ∃ fs, fs = fewT tv := ⟨_, rfl⟩
  obtain ⟨gs, hgs⟩ : ∃ gs, gs = fewS ss := ⟨_, rfl⟩
  rw [← hfs, ← hgs] at cF
  obtain ⟨fs, hfs2⟩ : ∃ fs, fs = plainT fv := ⟨_, rfl⟩
  obtain ⟨ok, hok⟩ : ∃ ok, ok = runB ky nm fs gs is := ⟨_, rfl⟩
  have HFS : Hid (fs = plainT fv) := hfs2
  have HOK : Hid (ok = runB ky nm fs gs is) := hok
  clear hfs hgs htn hn hT hZ hok hfs2
  cases ok with
  | false =>
    go_enter Try.func6, Try.ntmps6
    refine wp_seq_k (fun K hK => ?_); have HK : Shut _ := hK; clear hK
    go_wp2
    refine HK.out _ _ ?_; clear HK K
    refine wp_seq_k (fun K hK => ?_); have HK : Shut _ := hK; clear hK
    go_wp2_with (go_at_call 9; refine cF.mono ?_; rintro e w1 ⟨ra, rc, rm, rq, u0, u1, u2, u3, u4, rfl, b1, R, hB⟩; have v0 := b1.1 0 _ rfl; have v1 := b1.1 1 _ rfl; have v2 := b1.1 2 _ rfl; have v3 := b1.1 3 _ rfl; have v4 := b1.1 4 _ rfl; have f0 := b1.2 0 (by simp); have f1 := b1.2 1 (by simp); have f2 := b1.2 2 (by simp); have f3 := b1.2 3 (by simp); have f4 := b1.2 4 (by simp))
    obtain ⟨Z, hZ9⟩ : ∃ Z, Z = (((((w1.setCell ⟨w.heap.size, 0, none⟩ (.string ky)).setCell ⟨w.heap.size, 1, none⟩ (.string nm)).setCell ⟨w.heap.size, 2, none⟩ (.slice ra rm rc)).setCell ⟨w.heap.size, 3, none⟩ (.int .i64 is)).setCell ⟨w.heap.size, 4, none⟩ (.slice sa rq sc)) := ⟨_, rfl⟩
    rw [← hZ9] at R hB
    rw [← hZ9]
    refine HK.out _ _ ?_; clear HK K
    have jr := R.said
    rw [← HFS.out] at jr
    have or := R.box
    clear hZ9 v0 v1 v2 v3 v4 R cF
    have cQ := rightY_any hky hnm jr
    rw [← HOK.out] at cQ
    have r0 := or.1 0 _ rfl; have r1 := or.1 1 _ rfl; have r2 := or.1 2 _ rfl; have r3 := or.1 3 _ rfl; have r4 := or.1 4 _ rfl
    go_wp2_with (first
      | (go_at_call 15; refine cQ.mono ?_; rintro e w2 ⟨rfl, hb2⟩; replace hB := Below.tr hB hb2; clear r0 r1 r2 r3 r4 jr or cQ)
      | (go_at_call 16; refine (alive19_any _).mono ?_; rintro e w9 ⟨rfl, hb⟩; replace hB := Below.tr hB hb))
    go_ret
    exact ⟨rfl, hB⟩
  | true =>
    have hOk : RunOk ky nm fs gs is := runB_iff.1 HOK.out.symm
    go_enter Try.func6, Try.ntmps6
    refine wp_seq_k (fun K hK => ?_); have HK : Shut _ := hK; clear hK
    go_wp2
    refine HK.out _ _ ?_; clear HK K
    refine wp_seq_k (fun K hK => ?_); have HK : Shut _ := hK; clear hK
    go_wp2_with (go_at_call 9; refine cF.mono ?_; rintro e w1 ⟨ra, rc, rm, rq, u0, u1, u2, u3, u4, rfl, b1, R, hB⟩; have v0 := b1.1 0 _ rfl; have v1 := b1.1 1 _ rfl; have v2 := b1.1 2 _ rfl; have v3 := b1.1 3 _ rfl; have v4 := b1.1 4 _ rfl; have f0 := b1.2 0 (by simp); have f1 := b1.2 1 (by simp); have f2 := b1.2 2 (by simp); have f3 := b1.2 3 (by simp); have f4 := b1.2 4 (by simp))
    obtain ⟨Z, hZ9⟩ : ∃ Z, Z = (((((w1.setCell ⟨w.heap.size, 0, none⟩ (.string ky)).setCell ⟨w.heap.size, 1, none⟩ (.string nm)).setCell ⟨w.heap.size, 2, none⟩ (.slice ra rm rc)).setCell ⟨w.heap.size, 3, none⟩ (.int .i64 is)).setCell ⟨w.heap.size, 4, none⟩ (.slice sa rq sc)) := ⟨_, rfl⟩
    rw [← hZ9] at R hB
    rw [← hZ9]
    refine HK.out _ _ ?_; clear HK K
    have jr := R.said
    rw [← HFS.out] at jr
    have or := R.box
    clear hZ9 v0 v1 v2 v3 v4 R cF
    have r0 := or.1 0 _ rfl; have r1 := or.1 1 _ rfl; have r2 := or.1 2 _ rfl; have r3 := or.1 3 _ rfl; have r4 := or.1 4 _ rfl
    have cQ := rightY_any hky hnm jr
    rw [runB_iff.2 hOk] at cQ
    refine wp_seq_k (fun K hK => ?_); have HK : Shut _ := hK; clear hK
    go_wp2_with (go_at_call 15; refine cQ.mono ?_; rintro e w2 ⟨rfl, hb2⟩)
    refine HK.out _ _ ?_; clear HK K
    replace jr := jr.below hb2
    replace or := or.below hb2
    replace hB := Below.tr hB hb2
    clear cQ r0 r1 r2 r3 r4 hb2
    refine wp_seq2 (fun K hK => ?_)
    have HK : Shut _ := hK
    clear hK
    have KEY : ∀ N M L M2 : Int, 0 ≤ N → N ≤ L → L ≤ 1099511627776 → K ⟨#[.agg #[.string ky, .string nm, .slice ta tn tc, .int .i64 is, .slice sa n sc], .int .i64 N, .int .i64 L, .int .i64 k, .pointer (some ⟨w.heap.size, 0, none⟩), undef, undef, undef, .bool false, undef, undef, undef, undef, undef, undef, undef, undef, undef, undef, undef, undef, .agg #[.string ky, .string nm, .slice ta tn tc, .int .i64 is, .slice sa n sc], .agg #[.string ky, .string nm, .slice ra rm rc, .int .i64 is, .slice sa rq sc], .agg #[.string ky, .string nm, .slice ra rm rc, .int .i64 is, .slice sa rq sc], .bool true, .bool false, undef, .int .i64 now, .int .i64 M, .int .i64 N, .int .i64 later, .int .i64 N, .int .i64 M2, .int .i64 L, undef, undef, undef, undef, undef, undef, undef, undef, undef, undef, undef, undef, undef, undef, undef, undef, undef, undef, undef, undef, undef, undef, undef, undef, undef, undef, undef, undef, undef, undef, undef, undef, undef, undef, undef, undef, undef, undef, undef, undef, undef, undef, undef, undef, undef, undef, undef, undef, undef, undef, undef, undef, undef, undef, undef, undef, undef, undef, undef, undef, undef, undef, undef, undef, undef, undef, undef, undef, undef, undef, undef, undef, undef, undef, undef, undef, undef, undef, undef, undef, undef, undef, undef, undef, undef, undef, undef, undef, undef, undef, undef, undef, undef, undef, undef, undef, undef, undef, undef, undef, undef, undef, undef, undef, undef, undef, undef, undef, undef, undef, undef, undef, undef, undef, undef, undef, undef, undef, undef, undef, undef, undef, undef, undef, undef, undef], []⟩ w2 := by
      intro N M L M2 h0 h1 h2
      refine HK.out _ _ ?_
      clear HK K
      obtain ⟨SA, hSA⟩ : ∃ SA, SA = settleS fs (untF N []) (gs, is) := ⟨_, rfl⟩
      obtain ⟨SC, hSC⟩ : ∃ SC, SC = settleS fs (untF L []) (gs, is) := ⟨_, rfl⟩
      have hSB : settleS fs (untF L []) (SA.1, SA.2) = SC := by rw [hSC, hSA]; exact settle_twice fs (unt_mono h1 []) (gs, is)
      have hRA : RightS fs SA.1 SA.2 := by rw [hSA]; exact settle_right (fun i t h => (tries_two hOk.dag i t h).1) (x := (gs, is)) hOk.st
      have hRC : RightS fs SC.1 SC.2 := by rw [hSC]; exact settle_right (fun i t h => (tries_two hOk.dag i t h).1) (x := (gs, is)) hOk.st
      have hOkA : RunOk ky nm fs SA.1 SA.2 := ⟨hOk.key, hOk.dag, hRA⟩
      have hOkC : RunOk ky nm fs SC.1 SC.2 := ⟨hOk.key, hOk.dag, hRC⟩
      have hSame : is ≠ 0 → SA = (gs, is) := fun hz => by rw [hSA]; exact settle_over (x := (gs, is)) hOk.st hz
      have hIs : SA.2 = 0 → is = 0 := fun h => Classical.byContradiction fun hz => by have := hSame hz; rw [this] at h; exact hz h
      have HNL : Hid (N ≤ L) := h1
      have HSA : Hid (SA = settleS fs (untF N []) (gs, is)) := hSA
      have HSC : Hid (SC = settleS fs (untF L []) (gs, is)) := hSC
      have HSB : Hid (settleS fs (untF L []) (SA.1, SA.2) = SC) := hSB
      have HSAME : Hid (is ≠ 0 → SA = (gs, is)) := hSame
      have HIS : Hid (SA.2 = 0 → is = 0) := hIs
      clear hSA hSC hSB hSame hIs
      clear h0 h1 h2
      have r0 := or.1 0 _ rfl; have r1 := or.1 1 _ rfl; have r2 := or.1 2 _ rfl; have r3 := or.1 3 _ rfl; have r4 := or.1 4 _ rfl
      have cA := settleY_any hky jr hOk N
      rw [← HSA.out] at cA
      refine wp_seq_k (fun K hK => ?_); have HK : Shut _ := hK; clear hK
      go_wp2_with (go_at_call 14; refine (cA).mono ?_; rintro e w2 ⟨ak, an, aa, am, ac, ai, az, aq, al, rfl, ja, hb⟩)
      obtain ⟨V2, hV2⟩ : ∃ V2, V2 = w2.alloc (.cells #[.string ak, .string an, .slice aa am ac, .int .i64 ai, .slice az aq al] 27) := ⟨_, rfl⟩
      have oa : BoxL V2 w2.heap.size [.string ak, .string an, .slice aa am ac, .int .i64 ai, .slice az aq al] := by rw [hV2]; exact boxL_new w2 _ _ rfl
      have hbb : Below w2.heap.size w2 V2 := by rw [hV2]; exact (Below.refl _ _).alloc (Nat.le_refl _) _
      replace ja := ja.below hbb
      have hb2 := Below.tr hb hbb
      replace hB := Below.tr hB hb2
      obtain ⟨pa, hpa⟩ : ∃ p, p = w2.heap.size := ⟨_, rfl⟩
      rw [← hpa] at oa
      have hpaw := hb.size
      rw [← hpa] at hpaw
      rw [← hV2, ← hpa]
      refine HK.out _ _ ?_; clear HK K
      clear hV2 hbb hb hpa
      replace jr := jr.below hb2
      replace or := or.below hb2
      clear r0 r1 r2 r3 r4 cA
      have a0 := oa.1 0 _ rfl; have a1 := oa.1 1 _ rfl; have a2 := oa.1 2 _ rfl; have a3 := oa.1 3 _ rfl; have a4 := oa.1 4 _ rfl
      have cB := settleY_any hky ja hOkA L
      rw [HSB.out] at cB
      refine wp_seq_k (fun K hK => ?_); have HK : Shut _ := hK; clear hK
      go_wp2_with (go_at_call 14; refine (cB).mono ?_; rintro e w2 ⟨bk, bn, ba, bm, bc, bi, bz, bq, bl, rfl, jb, hb⟩)
      obtain ⟨V2, hV2⟩ : ∃ V2, V2 = w2.alloc (.cells #[.string bk, .string bn, .slice ba bm bc, .int .i64 bi, .slice bz bq bl] 27) := ⟨_, rfl⟩
      have ob : BoxL V2 w2.heap.size [.string bk, .string bn, .slice ba bm bc, .int .i64 bi, .slice bz bq bl] := by rw [hV2]; exact boxL_new w2 _ _ rfl
      have hbb : Below w2.heap.size w2 V2 := by rw [hV2]; exact (Below.refl _ _).alloc (Nat.le_refl _) _
      replace jb := jb.below hbb
      have hb2 := Below.tr hb hbb
      replace hB := Below.tr hB hb2
      obtain ⟨pb, hpb⟩ : ∃ p, p = w2.heap.size := ⟨_, rfl⟩
      rw [← hpb] at ob
      have hpbw := hb.size
      rw [← hpb] at hpbw
      rw [← hV2, ← hpb]
      refine HK.out _ _ ?_; clear HK K
      clear hV2 hbb hb hpb
      replace jr := jr.below hb2
      replace or := or.below hb2
      replace ja := ja.below hb2; replace oa := oa.below hb2
      clear a0 a1 a2 a3 a4 cB
      have r0 := or.1 0 _ rfl; have r1 := or.1 1 _ rfl; have r2 := or.1 2 _ rfl; have r3 := or.1 3 _ rfl; have r4 := or.1 4 _ rfl
      have cC := settleY_any hky jr hOk L
      rw [← HSC.out] at cC
      refine wp_seq_k (fun K hK => ?_); have HK : Shut _ := hK; clear hK
      go_wp2_with (go_at_call 14; refine (cC).mono ?_; rintro e w2 ⟨ck, cn, ca, cm, cc, ci, cz, cq, cl, rfl, jc, hb⟩)
      obtain ⟨V2, hV2⟩ : ∃ V2, V2 = w2.alloc (.cells #[.string ck, .string cn, .slice ca cm cc, .int .i64 ci, .slice cz cq cl] 27) := ⟨_, rfl⟩
      have oc : BoxL V2 w2.heap.size [.string ck, .string cn, .slice ca cm cc, .int .i64 ci, .slice cz cq cl] := by rw [hV2]; exact boxL_new w2 _ _ rfl
      have hbb : Below w2.heap.size w2 V2 := by rw [hV2]; exact (Below.refl _ _).alloc (Nat.le_refl _) _
      replace jc := jc.below hbb
      have hb2 := Below.tr hb hbb
      replace hB := Below.tr hB hb2
      obtain ⟨pc, hpc⟩ : ∃ p, p = w2.heap.size := ⟨_, rfl⟩
      rw [← hpc] at oc
      have hpcw := hb.size
      rw [← hpc] at hpcw
      rw [← hV2, ← hpc]
      refine HK.out _ _ ?_; clear HK K
      clear hV2 hbb hb hpc
      replace jr := jr.below hb2
      replace or := or.below hb2
      replace ja := ja.below hb2; replace oa := oa.below hb2; replace jb := jb.below hb2; replace ob := ob.below hb2
      clear r0 r1 r2 r3 r4 cC
      have r0 := or.1 0 _ rfl; have r1 := or.1 1 _ rfl; have r2 := or.1 2 _ rfl; have r3 := or.1 3 _ rfl; have r4 := or.1 4 _ rfl; have a0 := oa.1 0 _ rfl; have a1 := oa.1 1 _ rfl; have a2 := oa.1 2 _ rfl; have a3 := oa.1 3 _ rfl; have a4 := oa.1 4 _ rfl; have b0 := ob.1 0 _ rfl; have b1 := ob.1 1 _ rfl; have b2 := ob.1 2 _ rfl; have b3 := ob.1 3 _ rfl; have b4 := ob.1 4 _ rfl; have c0 := oc.1 0 _ rfl; have c1 := oc.1 1 _ rfl; have c2 := oc.1 2 _ rfl; have c3 := oc.1 3 _ rfl; have c4 := oc.1 4 _ rfl
      have tok0 : True := trivial
      have tok1 : True := trivial
      by_cases hz : is = 0
      · have i0 : (is != 0) = false := by simpa using hz
        have HZ : Hid (is = 0) := hz
        clear hz
        refine wp_seq_k (fun K hK => ?_); have HK : Shut _ := hK; clear hK
        go_wp2_with (first
          | (go_at_call 12; refine (likeS_any jb jc).mono ?_; rintro e w3 ⟨rfl, hb⟩; clear r0 r1 r2 r3 r4 a0 a1 a2 a3 a4 b0 b1 b2 b3 b4 c0 c1 c2 c3 c4; replace jr := jr.below hb; replace or := or.below hb; replace ja := ja.below hb; replace oa := oa.below hb; replace jb := jb.below hb; replace ob := ob.below hb; replace jc := jc.below hb; replace oc := oc.below hb; have r0 := or.1 0 _ rfl; have r1 := or.1 1 _ rfl; have r2 := or.1 2 _ rfl; have r3 := or.1 3 _ rfl; have r4 := or.1 4 _ rfl; have a0 := oa.1 0 _ rfl; have a1 := oa.1 1 _ rfl; have a2 := oa.1 2 _ rfl; have a3 := oa.1 3 _ rfl; have a4 := oa.1 4 _ rfl; have b0 := ob.1 0 _ rfl; have b1 := ob.1 1 _ rfl; have b2 := ob.1 2 _ rfl; have b3 := ob.1 3 _ rfl; have b4 := ob.1 4 _ rfl; have c0 := oc.1 0 _ rfl; have c1 := oc.1 1 _ rfl; have c2 := oc.1 2 _ rfl; have c3 := oc.1 3 _ rfl; have c4 := oc.1 4 _ rfl; replace hB := Below.tr hB hb; clear hb)
          | (go_at_call 15; clear tok0; refine (rightOk_any hky hnm ja hOkA).mono ?_; rintro e w3 ⟨rfl, hb⟩; clear r0 r1 r2 r3 r4 a0 a1 a2 a3 a4 b0 b1 b2 b3 b4 c0 c1 c2 c3 c4; replace jr := jr.below hb; replace or := or.below hb; replace ja := ja.below hb; replace oa := oa.below hb; replace jb := jb.below hb; replace ob := ob.below hb; replace jc := jc.below hb; replace oc := oc.below hb; have r0 := or.1 0 _ rfl; have r1 := or.1 1 _ rfl; have r2 := or.1 2 _ rfl; have r3 := or.1 3 _ rfl; have r4 := or.1 4 _ rfl; have a0 := oa.1 0 _ rfl; have a1 := oa.1 1 _ rfl; have a2 := oa.1 2 _ rfl; have a3 := oa.1 3 _ rfl; have a4 := oa.1 4 _ rfl; have b0 := ob.1 0 _ rfl; have b1 := ob.1 1 _ rfl; have b2 := ob.1 2 _ rfl; have b3 := ob.1 3 _ rfl; have b4 := ob.1 4 _ rfl; have c0 := oc.1 0 _ rfl; have c1 := oc.1 1 _ rfl; have c2 := oc.1 2 _ rfl; have c3 := oc.1 3 _ rfl; have c4 := oc.1 4 _ rfl; replace hB := Below.tr hB hb; clear hb)
          | (go_at_call 15; clear tok1; refine (rightOk_any hky hnm jb hOkC).mono ?_; rintro e w3 ⟨rfl, hb⟩; clear r0 r1 r2 r3 r4 a0 a1 a2 a3 a4 b0 b1 b2 b3 b4 c0 c1 c2 c3 c4; replace jr := jr.below hb; replace or := or.below hb; replace ja := ja.below hb; replace oa := oa.below hb; replace jb := jb.below hb; replace ob := ob.below hb; replace jc := jc.below hb; replace oc := oc.below hb; have r0 := or.1 0 _ rfl; have r1 := or.1 1 _ rfl; have r2 := or.1 2 _ rfl; have r3 := or.1 3 _ rfl; have r4 := or.1 4 _ rfl; have a0 := oa.1 0 _ rfl; have a1 := oa.1 1 _ rfl; have a2 := oa.1 2 _ rfl; have a3 := oa.1 3 _ rfl; have a4 := oa.1 4 _ rfl; have b0 := ob.1 0 _ rfl; have b1 := ob.1 1 _ rfl; have b2 := ob.1 2 _ rfl; have b3 := ob.1 3 _ rfl; have b4 := ob.1 4 _ rfl; have c0 := oc.1 0 _ rfl; have c1 := oc.1 1 _ rfl; have c2 := oc.1 2 _ rfl; have c3 := oc.1 3 _ rfl; have c4 := oc.1 4 _ rfl; replace hB := Below.tr hB hb; clear hb))
        refine HK.out _ _ ?_; clear HK K
        clear a0 a1 a2 a3 a4 b0 b1 b2 b3 b4 c0 c1 c2 c3 c4 ja jb jc oa ob oc
        have cL := leaseY_any hky jr hOk N k hk
        rw [← HSA.out] at cL
        refine wp_seq_k (fun K hK => ?_); have HK : Shut _ := hK; clear hK
        by_cases hL : leaseRE SA.1 N k = 0
        · rw [hL] at cL
          refine wp_seq_k (fun K hK => ?_); have HK : Shut _ := hK; clear hK
          go_wp2_with (go_at_call 19; refine (cL).mono ?_; rintro e w2 ⟨lk, ln, la, lm, lc, li, lz, lq, ll, rfl, jl, hb⟩)
          obtain ⟨V2, hV2⟩ : ∃ V2, V2 = w2.alloc (.cells #[.string lk, .string ln, .slice la lm lc, .int .i64 li, .slice lz lq ll] 27) := ⟨_, rfl⟩
          have ol : BoxL V2 w2.heap.size [.string lk, .string ln, .slice la lm lc, .int .i64 li, .slice lz lq ll] := by rw [hV2]; exact boxL_new w2 _ _ rfl
          have hbb : Below w2.heap.size w2 V2 := by rw [hV2]; exact (Below.refl _ _).alloc (Nat.le_refl _) _
          replace jl := jl.below hbb
          have hb2 := Below.tr hb hbb
          replace hB := Below.tr hB hb2
          obtain ⟨pl, hpl⟩ : ∃ p, p = w2.heap.size := ⟨_, rfl⟩
          rw [← hpl] at ol
          have hplw := hb.size
          rw [← hpl] at hplw
          rw [← hV2, ← hpl]
          refine HK.out _ _ ?_; clear HK K
          clear hV2 hbb hb hpl
          replace jr := jr.below hb2
          replace or := or.below hb2
          clear r0 r1 r2 r3 r4 cL
          obtain ⟨hKR, hK0⟩ := lease_keeps (fun i t h => (tries_two hOk.dag i t h).2) hRA hL
          have r0 := or.1 0 _ rfl; have r1 := or.1 1 _ rfl; have r2 := or.1 2 _ rfl; have r3 := or.1 3 _ rfl; have r4 := or.1 4 _ rfl; have l0 := ol.1 0 _ rfl; have l1 := ol.1 1 _ rfl; have l2 := ol.1 2 _ rfl; have l3 := ol.1 3 _ rfl; have l4 := ol.1 4 _ rfl
          go_wp2_with (go_at_call 15; refine (rightOk_any hky hnm jl ⟨hOk.key, hOk.dag, hKR⟩).mono ?_; rintro e w3 ⟨rfl, hb⟩; clear r0 r1 r2 r3 r4 l0 l1 l2 l3 l4; replace jr := jr.below hb; replace or := or.below hb; replace jl := jl.below hb; replace ol := ol.below hb; have r0 := or.1 0 _ rfl; have r1 := or.1 1 _ rfl; have r2 := or.1 2 _ rfl; have r3 := or.1 3 _ rfl; have r4 := or.1 4 _ rfl; have l0 := ol.1 0 _ rfl; have l1 := ol.1 1 _ rfl; have l2 := ol.1 2 _ rfl; have l3 := ol.1 3 _ rfl; have l4 := ol.1 4 _ rfl; replace hB := Below.tr hB hb; clear hb)
          refine HK.out _ _ ?_; clear HK K
          clear l0 l1 l2 l3 l4 r0 r1 r2 r3 r4 jl ol
          refine wp_seq_k (fun K hK => ?_); have HK : Shut _ := hK; clear hK
          go_wp2
          go_loopw [109] (fun v wr => ∃ j : Nat, j ≤ 4 ∧ v = .int .i64 j ∧ Said wr 0 ky nm is fs gs ky nm ra rm rc is sa rq sc ∧ BoxL wr w.heap.size [.string ky, .string nm, .slice ra rm rc, .int .i64 is, .slice sa rq sc] ∧ Below w.heap.size w wr) (fun v _ => 4 - (intOf v).toNat)
          case atStart => exact ⟨0, by omega, rfl, jr, or, hB⟩
          case round =>
            clear jr or hB
            obtain ⟨j, hj, rfl, jr, or, hB⟩ := hrel
            by_cases hlt : j < 4
            · rcases (by omega : j = 0 ∨ j = 1 ∨ j = 2 ∨ j = 3) with rfl | rfl | rfl | rfl
              · have hBr := Below.refl wr.heap.size wr
                refine wp_seq_k (fun K hK => ?_); have HK : Shut _ := hK; clear hK
                go_wp2
                refine HK.out _ _ ?_; clear HK K
                refine wp_seq_k (fun K hK => ?_); have HK : Shut _ := hK; clear hK
                go_wp2
                refine HK.out _ _ ?_; clear HK K
                refine wp_seq_k (fun K hK => ?_); have HK : Shut _ := hK; clear hK
                refine wp_block ?_
                refine wp_seq_k (fun K hK => ?_); have HK : Shut _ := hK; clear hK
                go_wp2
                refine HK.out _ _ ?_; clear HK K
                have r0 := or.1 0 _ rfl; have r1 := or.1 1 _ rfl; have r2 := or.1 2 _ rfl; have r3 := or.1 3 _ rfl; have r4 := or.1 4 _ rfl
                have cB := beatY_any hky jr hOk N k hk
                rw [← HSA.out] at cB
                refine wp_seq_k (fun K hK => ?_); have HK : Shut _ := hK; clear hK
                go_wp2_with (go_at_call 23; refine (cB).mono ?_; rintro e w2 ⟨xk, xn, xa, xm, xc, xi, xz, xq, xl, rfl, jx, hb⟩)
                obtain ⟨V2, hV2⟩ : ∃ V2, V2 = w2.alloc (.cells #[.string xk, .string xn, .slice xa xm xc, .int .i64 xi, .slice xz xq xl] 27) := ⟨_, rfl⟩
                have ox : BoxL V2 w2.heap.size [.string xk, .string xn, .slice xa xm xc, .int .i64 xi, .slice xz xq xl] := by rw [hV2]; exact boxL_new w2 _ _ rfl
                have hbb : Below w2.heap.size w2 V2 := by rw [hV2]; exact (Below.refl _ _).alloc (Nat.le_refl _) _
                replace jx := jx.below hbb
                have hb2 := Below.tr hb hbb
                replace hBr := Below.tr hBr hb2
                obtain ⟨px, hpx⟩ : ∃ p, p = w2.heap.size := ⟨_, rfl⟩
                rw [← hpx] at ox
                have hpxw := hb.size
                rw [← hpx] at hpxw
                rw [← hV2, ← hpx]
                refine HK.out _ _ ?_; clear HK K
                clear hV2 hbb hb hpx
                clear r0 r1 r2 r3 r4 cB
                have hpx : wr.heap.size ≤ px := hpxw
                refine wp_seq_k (fun K hK => ?_); have HK : Shut _ := hK; clear hK
                go_wp2
                refine HK.out _ _ ?_; clear HK K
                by_cases h0 : ansE fs (fun _ s => heldE s) SA.1 k = 0
                · rw [h0] at jx ⊢
                  obtain ⟨hKR, hK0⟩ := ans_keeps (fun i t h => (tries_two hOk.dag i t h).1) (keeps_beat N) hRA h0
                  have hz := HIS.out hK0
                  have or2 := or.below hBr
                  have r3 := or2.1 3 _ rfl
                  rw [hz] at r3
                  clear hz
                  have cR := rightY_any hky hnm jx
                  rw [runB_iff.2 ⟨hOk.key, hOk.dag, hKR⟩] at cR
                  have q0 := ox.1 0 _ rfl; have q1 := ox.1 1 _ rfl; have q2 := ox.1 2 _ rfl; have q3 := ox.1 3 _ rfl; have q4 := ox.1 4 _ rfl
                  go_wp2_with (go_at_call 15; refine cR.mono ?_; rintro e w5 ⟨rfl, hb⟩; replace r3 := cell_below hb r3; replace hBr := Below.tr hBr hb)
                  refine HK.out _ _ ?_
                  clear HK r3 q0 q1 q2 q3 q4
                  go_wp2
                  go_roundw
                  case rel => exact ⟨1, by omega, by go_num, jr.below hBr, or.below hBr, Below.tr hB hBr⟩
                  case measure => simp [intOf]
                · obtain ⟨EE, hEE⟩ : ∃ EE, EE = ansE fs (fun _ s => heldE s) SA.1 k := ⟨_, rfl⟩
                  rw [← hEE] at h0 ⊢
                  have hne : (EE == 0) = false := by simpa using h0
                  clear hEE
                  go_wp2
                  refine HK.out _ _ ?_
                  clear HK
                  go_wp2
                  go_roundw
                  case rel => exact ⟨1, by omega, by go_num, jr.below hBr, or.below hBr, Below.tr hB hBr⟩
                  case measure => simp [intOf]
              · have hBr := Below.refl wr.heap.size wr
                refine wp_seq_k (fun K hK => ?_); have HK : Shut _ := hK; clear hK
                go_wp2
                refine HK.out _ _ ?_; clear HK K
                refine wp_seq_k (fun K hK => ?_); have HK : Shut _ := hK; clear hK
                go_wp2
                refine HK.out _ _ ?_; clear HK K
                refine wp_seq_k (fun K hK => ?_); have HK : Shut _ := hK; clear hK
                refine wp_block ?_
                refine wp_seq_k (fun K hK => ?_); have HK : Shut _ := hK; clear hK
                go_wp2
                refine HK.out _ _ ?_; clear HK K
                have r0 := or.1 0 _ rfl; have r1 := or.1 1 _ rfl; have r2 := or.1 2 _ rfl; have r3 := or.1 3 _ rfl; have r4 := or.1 4 _ rfl
                have cB := beatY_any hky jr hOk N k hk
                rw [← HSA.out] at cB
                refine wp_seq_k (fun K hK => ?_); have HK : Shut _ := hK; clear hK
                go_wp2_with (go_at_call 23; refine (cB).mono ?_; rintro e w2 ⟨xk, xn, xa, xm, xc, xi, xz, xq, xl, rfl, jx, hb⟩)
                obtain ⟨V2, hV2⟩ : ∃ V2, V2 = w2.alloc (.cells #[.string xk, .string xn, .slice xa xm xc, .int .i64 xi, .slice xz xq xl] 27) := ⟨_, rfl⟩
                have ox : BoxL V2 w2.heap.size [.string xk, .string xn, .slice xa xm xc, .int .i64 xi, .slice xz xq xl] := by rw [hV2]; exact boxL_new w2 _ _ rfl
                have hbb : Below w2.heap.size w2 V2 := by rw [hV2]; exact (Below.refl _ _).alloc (Nat.le_refl _) _
                replace jx := jx.below hbb
                have hb2 := Below.tr hb hbb
                replace hBr := Below.tr hBr hb2
                obtain ⟨px, hpx⟩ : ∃ p, p = w2.heap.size := ⟨_, rfl⟩
                rw [← hpx] at ox
                have hpxw := hb.size
                rw [← hpx] at hpxw
                rw [← hV2, ← hpx]
                refine HK.out _ _ ?_; clear HK K
                clear hV2 hbb hb hpx
                clear r0 r1 r2 r3 r4 cB
                have hpx : wr.heap.size ≤ px := hpxw
                have jr2 := jr.below hBr
                have or2 := or.below hBr
                have r0 := or2.1 0 _ rfl; have r1 := or2.1 1 _ rfl; have r2 := or2.1 2 _ rfl; have r3 := or2.1 3 _ rfl; have r4 := or2.1 4 _ rfl
                have cD := doneY_any hky jr2 hOk N k ⟨#[114]⟩ (by decide) hk
                rw [← HSA.out] at cD
                refine wp_seq_k (fun K hK => ?_); have HK : Shut _ := hK; clear hK
                go_wp2_with (go_at_call 24; refine cD.mono ?_; rintro e w4 ⟨yk, yn, ya, ym, yc, yi, yz, yq, yl, rfl, jy, hb⟩; have oX := ox.below hb; clear r0 r1 r2 r3 r4; have X0 := oX.1 0 _ rfl; have X1 := oX.1 1 _ rfl; have X2 := oX.1 2 _ rfl; have X3 := oX.1 3 _ rfl; have X4 := oX.1 4 _ rfl; have d0 := oX.2 0 (by simp); have d1 := oX.2 1 (by simp); have d2 := oX.2 2 (by simp); have d3 := oX.2 3 (by simp); have d4 := oX.2 4 (by simp))
                obtain ⟨V4, hV4⟩ : ∃ V4, V4 = (((((w4.setCell ⟨px, 0, none⟩ (.string yk)).setCell ⟨px, 1, none⟩ (.string yn)).setCell ⟨px, 2, none⟩ (.slice ya ym yc)).setCell ⟨px, 3, none⟩ (.int .i64 yi)).setCell ⟨px, 4, none⟩ (.slice yz yq yl)) := ⟨_, rfl⟩
                have T4 : Turns (fun k => k = px) w4 V4 := by rw [hV4]; exact turns_set5 _ _ _ _ _ _ _
                have oy : BoxL V4 px [.string yk, .string yn, .slice ya ym yc, .int .i64 yi, .slice yz yq yl] := by rw [hV4]; exact boxL_set5 oX _ _ _ _ _
                have hpl := ox.lt (by simp)
                have jy4 := jy V4 (T4.mono fun k hk => by subst hk; exact hpl)
                have hBr4 := Below.turns (Below.tr hBr hb) T4 (fun k hk => by subst hk; exact hpx)
                rw [← hV4]
                refine HK.out _ _ ?_; clear HK K
                clear hV4 X0 X1 X2 X3 X4 d0 d1 d2 d3 d4 jy T4 jr2 or2 cD jx ox oX hBr
                have hBr := hBr4
                have jy := jy4
                clear hBr4 jy4
                by_cases h0 : ansE fs (fun _ s => doneE s ⟨#[114]⟩) SA.1 k = 0
                · rw [h0] at jy ⊢
                  obtain ⟨hKR, hK0⟩ := ans_keeps (fun i t h => (tries_two hOk.dag i t h).1) (keeps_done ⟨#[114]⟩) hRA h0
                  have hz := HIS.out hK0
                  have or2 := or.below hBr
                  have r3 := or2.1 3 _ rfl
                  rw [hz] at r3
                  clear hz
                  have cR := rightY_any hky hnm jy
                  rw [runB_iff.2 ⟨hOk.key, hOk.dag, hKR⟩] at cR
                  have q0 := oy.1 0 _ rfl; have q1 := oy.1 1 _ rfl; have q2 := oy.1 2 _ rfl; have q3 := oy.1 3 _ rfl; have q4 := oy.1 4 _ rfl
                  go_wp2_with (go_at_call 15; refine cR.mono ?_; rintro e w5 ⟨rfl, hb⟩; replace r3 := cell_below hb r3; replace hBr := Below.tr hBr hb)
                  refine HK.out _ _ ?_
                  clear HK r3 q0 q1 q2 q3 q4
                  go_wp2
                  go_roundw
                  case rel => exact ⟨2, by omega, by go_num, jr.below hBr, or.below hBr, Below.tr hB hBr⟩
                  case measure => simp [intOf]
                · obtain ⟨EE, hEE⟩ : ∃ EE, EE = ansE fs (fun _ s => doneE s ⟨#[114]⟩) SA.1 k := ⟨_, rfl⟩
                  rw [← hEE] at h0 ⊢
                  have hne : (EE == 0) = false := by simpa using h0
                  clear hEE
                  go_wp2
                  refine HK.out _ _ ?_
                  clear HK
                  go_wp2
                  go_roundw
                  case rel => exact ⟨2, by omega, by go_num, jr.below hBr, or.below hBr, Below.tr hB hBr⟩
                  case measure => simp [intOf]
              · have hBr := Below.refl wr.heap.size wr
                refine wp_seq_k (fun K hK => ?_); have HK : Shut _ := hK; clear hK
                go_wp2
                refine HK.out _ _ ?_; clear HK K
                refine wp_seq_k (fun K hK => ?_); have HK : Shut _ := hK; clear hK
                go_wp2
                refine HK.out _ _ ?_; clear HK K
                refine wp_seq_k (fun K hK => ?_); have HK : Shut _ := hK; clear hK
                refine wp_block ?_
                refine wp_seq_k (fun K hK => ?_); have HK : Shut _ := hK; clear hK
                go_wp2
                refine HK.out _ _ ?_; clear HK K
                have r0 := or.1 0 _ rfl; have r1 := or.1 1 _ rfl; have r2 := or.1 2 _ rfl; have r3 := or.1 3 _ rfl; have r4 := or.1 4 _ rfl
                have cB := beatY_any hky jr hOk N k hk
                rw [← HSA.out] at cB
                refine wp_seq_k (fun K hK => ?_); have HK : Shut _ := hK; clear hK
                go_wp2_with (go_at_call 23; refine (cB).mono ?_; rintro e w2 ⟨xk, xn, xa, xm, xc, xi, xz, xq, xl, rfl, jx, hb⟩)
                obtain ⟨V2, hV2⟩ : ∃ V2, V2 = w2.alloc (.cells #[.string xk, .string xn, .slice xa xm xc, .int .i64 xi, .slice xz xq xl] 27) := ⟨_, rfl⟩
                have ox : BoxL V2 w2.heap.size [.string xk, .string xn, .slice xa xm xc, .int .i64 xi, .slice xz xq xl] := by rw [hV2]; exact boxL_new w2 _ _ rfl
                have hbb : Below w2.heap.size w2 V2 := by rw [hV2]; exact (Below.refl _ _).alloc (Nat.le_refl _) _
                replace jx := jx.below hbb
                have hb2 := Below.tr hb hbb
                replace hBr := Below.tr hBr hb2
                obtain ⟨px, hpx⟩ : ∃ p, p = w2.heap.size := ⟨_, rfl⟩
                rw [← hpx] at ox
                have hpxw := hb.size
                rw [← hpx] at hpxw
                rw [← hV2, ← hpx]
                refine HK.out _ _ ?_; clear HK K
                clear hV2 hbb hb hpx
                clear r0 r1 r2 r3 r4 cB
                have hpx : wr.heap.size ≤ px := hpxw
                have jr2 := jr.below hBr
                have or2 := or.below hBr
                have r0 := or2.1 0 _ rfl; have r1 := or2.1 1 _ rfl; have r2 := or2.1 2 _ rfl; have r3 := or2.1 3 _ rfl; have r4 := or2.1 4 _ rfl
                have cD := failY_any hky jr2 hOk N k hk
                rw [← HSA.out] at cD
                refine wp_seq_k (fun K hK => ?_); have HK : Shut _ := hK; clear hK
                go_wp2_with (go_at_call 25; refine cD.mono ?_; rintro e w4 ⟨yk, yn, ya, ym, yc, yi, yz, yq, yl, rfl, jy, hb⟩; have oX := ox.below hb; clear r0 r1 r2 r3 r4; have X0 := oX.1 0 _ rfl; have X1 := oX.1 1 _ rfl; have X2 := oX.1 2 _ rfl; have X3 := oX.1 3 _ rfl; have X4 := oX.1 4 _ rfl; have d0 := oX.2 0 (by simp); have d1 := oX.2 1 (by simp); have d2 := oX.2 2 (by simp); have d3 := oX.2 3 (by simp); have d4 := oX.2 4 (by simp))
                obtain ⟨V4, hV4⟩ : ∃ V4, V4 = (((((w4.setCell ⟨px, 0, none⟩ (.string yk)).setCell ⟨px, 1, none⟩ (.string yn)).setCell ⟨px, 2, none⟩ (.slice ya ym yc)).setCell ⟨px, 3, none⟩ (.int .i64 yi)).setCell ⟨px, 4, none⟩ (.slice yz yq yl)) := ⟨_, rfl⟩
                have T4 : Turns (fun k => k = px) w4 V4 := by rw [hV4]; exact turns_set5 _ _ _ _ _ _ _
                have oy : BoxL V4 px [.string yk, .string yn, .slice ya ym yc, .int .i64 yi, .slice yz yq yl] := by rw [hV4]; exact boxL_set5 oX _ _ _ _ _
                have hpl := ox.lt (by simp)
                have jy4 := jy V4 (T4.mono fun k hk => by subst hk; exact hpl)
                have hBr4 := Below.turns (Below.tr hBr hb) T4 (fun k hk => by subst hk; exact hpx)
                rw [← hV4]
                refine HK.out _ _ ?_; clear HK K
                clear hV4 X0 X1 X2 X3 X4 d0 d1 d2 d3 d4 jy T4 jr2 or2 cD jx ox oX hBr
                have hBr := hBr4
                have jy := jy4
                clear hBr4 jy4
                by_cases h0 : ansE fs (fun _ s => heldE s) SA.1 k = 0
                · rw [h0] at jy ⊢
                  obtain ⟨hKR, hK0⟩ := ans_keeps (fun i t h => (tries_two hOk.dag i t h).1) (keeps_fail N) hRA h0
                  have hz := HIS.out hK0
                  have or2 := or.below hBr
                  have r3 := or2.1 3 _ rfl
                  rw [hz] at r3
                  clear hz
                  have cR := rightY_any hky hnm jy
                  rw [runB_iff.2 ⟨hOk.key, hOk.dag, hKR⟩] at cR
                  have q0 := oy.1 0 _ rfl; have q1 := oy.1 1 _ rfl; have q2 := oy.1 2 _ rfl; have q3 := oy.1 3 _ rfl; have q4 := oy.1 4 _ rfl
                  go_wp2_with (go_at_call 15; refine cR.mono ?_; rintro e w5 ⟨rfl, hb⟩; replace r3 := cell_below hb r3; replace hBr := Below.tr hBr hb)
                  refine HK.out _ _ ?_
                  clear HK r3 q0 q1 q2 q3 q4
                  go_wp2
                  go_roundw
                  case rel => exact ⟨3, by omega, by go_num, jr.below hBr, or.below hBr, Below.tr hB hBr⟩
                  case measure => simp [intOf]
                · obtain ⟨EE, hEE⟩ : ∃ EE, EE = ansE fs (fun _ s => heldE s) SA.1 k := ⟨_, rfl⟩
                  rw [← hEE] at h0 ⊢
                  have hne : (EE == 0) = false := by simpa using h0
                  clear hEE
                  go_wp2
                  refine HK.out _ _ ?_
                  clear HK
                  go_wp2
                  go_roundw
                  case rel => exact ⟨3, by omega, by go_num, jr.below hBr, or.below hBr, Below.tr hB hBr⟩
                  case measure => simp [intOf]
              · have hBr := Below.refl wr.heap.size wr
                refine wp_seq_k (fun K hK => ?_); have HK : Shut _ := hK; clear hK
                go_wp2
                refine HK.out _ _ ?_; clear HK K
                refine wp_seq_k (fun K hK => ?_); have HK : Shut _ := hK; clear hK
                go_wp2
                refine HK.out _ _ ?_; clear HK K
                refine wp_seq_k (fun K hK => ?_); have HK : Shut _ := hK; clear hK
                refine wp_block ?_
                refine wp_seq_k (fun K hK => ?_); have HK : Shut _ := hK; clear hK
                go_wp2
                refine HK.out _ _ ?_; clear HK K
                have r0 := or.1 0 _ rfl; have r1 := or.1 1 _ rfl; have r2 := or.1 2 _ rfl; have r3 := or.1 3 _ rfl; have r4 := or.1 4 _ rfl
                have cB := beatY_any hky jr hOk N k hk
                rw [← HSA.out] at cB
                refine wp_seq_k (fun K hK => ?_); have HK : Shut _ := hK; clear hK
                go_wp2_with (go_at_call 23; refine (cB).mono ?_; rintro e w2 ⟨xk, xn, xa, xm, xc, xi, xz, xq, xl, rfl, jx, hb⟩)
                obtain ⟨V2, hV2⟩ : ∃ V2, V2 = w2.alloc (.cells #[.string xk, .string xn, .slice xa xm xc, .int .i64 xi, .slice xz xq xl] 27) := ⟨_, rfl⟩
                have ox : BoxL V2 w2.heap.size [.string xk, .string xn, .slice xa xm xc, .int .i64 xi, .slice xz xq xl] := by rw [hV2]; exact boxL_new w2 _ _ rfl
                have hbb : Below w2.heap.size w2 V2 := by rw [hV2]; exact (Below.refl _ _).alloc (Nat.le_refl _) _
                replace jx := jx.below hbb
                have hb2 := Below.tr hb hbb
                replace hBr := Below.tr hBr hb2
                obtain ⟨px, hpx⟩ : ∃ p, p = w2.heap.size := ⟨_, rfl⟩
                rw [← hpx] at ox
                have hpxw := hb.size
                rw [← hpx] at hpxw
                rw [← hV2, ← hpx]
                refine HK.out _ _ ?_; clear HK K
                clear hV2 hbb hb hpx
                clear r0 r1 r2 r3 r4 cB
                have hpx : wr.heap.size ≤ px := hpxw
                have jr2 := jr.below hBr
                have or2 := or.below hBr
                have r0 := or2.1 0 _ rfl; have r1 := or2.1 1 _ rfl; have r2 := or2.1 2 _ rfl; have r3 := or2.1 3 _ rfl; have r4 := or2.1 4 _ rfl
                have cD := cancelY_any hky jr2 N
                rw [← HSA.out] at cD
                refine wp_seq_k (fun K hK => ?_); have HK : Shut _ := hK; clear hK
                go_wp2_with (go_at_call 20; refine cD.mono ?_; rintro e w4 ⟨yk, yn, ya, ym, yc, yi, yz, yq, yl, rfl, jy, hb⟩; have oX := ox.below hb; clear r0 r1 r2 r3 r4; have X0 := oX.1 0 _ rfl; have X1 := oX.1 1 _ rfl; have X2 := oX.1 2 _ rfl; have X3 := oX.1 3 _ rfl; have X4 := oX.1 4 _ rfl; have d0 := oX.2 0 (by simp); have d1 := oX.2 1 (by simp); have d2 := oX.2 2 (by simp); have d3 := oX.2 3 (by simp); have d4 := oX.2 4 (by simp))
                obtain ⟨V4, hV4⟩ : ∃ V4, V4 = (((((w4.setCell ⟨px, 0, none⟩ (.string yk)).setCell ⟨px, 1, none⟩ (.string yn)).setCell ⟨px, 2, none⟩ (.slice ya ym yc)).setCell ⟨px, 3, none⟩ (.int .i64 yi)).setCell ⟨px, 4, none⟩ (.slice yz yq yl)) := ⟨_, rfl⟩
                have T4 : Turns (fun k => k = px) w4 V4 := by rw [hV4]; exact turns_set5 _ _ _ _ _ _ _
                have oy : BoxL V4 px [.string yk, .string yn, .slice ya ym yc, .int .i64 yi, .slice yz yq yl] := by rw [hV4]; exact boxL_set5 oX _ _ _ _ _
                have hpl := ox.lt (by simp)
                have jy4 := jy V4 (T4.mono fun k hk => by subst hk; exact hpl)
                have hBr4 := Below.turns (Below.tr hBr hb) T4 (fun k hk => by subst hk; exact hpx)
                rw [← hV4]
                refine HK.out _ _ ?_; clear HK K
                clear hV4 X0 X1 X2 X3 X4 d0 d1 d2 d3 d4 jy T4 jr2 or2 cD jx ox oX hBr
                have hBr := hBr4
                have jy := jy4
                clear hBr4 jy4
                have hRS : RightS fs (settleS fs (untF N []) (gs, is)).1 (settleS fs (untF N []) (gs, is)).2 := by rw [← HSA.out]; exact hRA
                have hck : cancelE ky nm fs gs is N = 0 → RightS fs (SA.1.map cancelT) 3 ∧ SA.2 = 0 := fun h => by
                  have := cancel_keeps hRS hOk h
                  rw [← HSA.out] at this
                  exact this
                by_cases h0 : cancelE ky nm fs gs is N = 0
                · rw [h0] at jy ⊢
                  obtain ⟨hKR, hK0⟩ := hck h0
                  have hz := HIS.out hK0
                  have or2 := or.below hBr
                  have r3 := or2.1 3 _ rfl
                  rw [hz] at r3
                  clear hz
                  have cR := rightY_any hky hnm jy
                  rw [runB_iff.2 ⟨hOk.key, hOk.dag, hKR⟩] at cR
                  have q0 := oy.1 0 _ rfl; have q1 := oy.1 1 _ rfl; have q2 := oy.1 2 _ rfl; have q3 := oy.1 3 _ rfl; have q4 := oy.1 4 _ rfl
                  go_wp2_with (go_at_call 15; refine cR.mono ?_; rintro e w5 ⟨rfl, hb⟩; replace r3 := cell_below hb r3; replace hBr := Below.tr hBr hb)
                  refine HK.out _ _ ?_
                  clear HK r3 q0 q1 q2 q3 q4
                  go_wp2
                  go_roundw
                  case rel => exact ⟨4, by omega, by go_num, jr.below hBr, or.below hBr, Below.tr hB hBr⟩
                  case measure => simp [intOf]
                · obtain ⟨EE, hEE⟩ : ∃ EE, EE = cancelE ky nm fs gs is N := ⟨_, rfl⟩
                  rw [← hEE] at h0 ⊢
                  have hne : (EE == 0) = false := by simpa using h0
                  clear hEE
                  go_wp2
                  refine HK.out _ _ ?_
                  clear HK
                  go_wp2
                  go_roundw
                  case rel => exact ⟨4, by omega, by go_num, jr.below hBr, or.below hBr, Below.tr hB hBr⟩
                  case measure => simp [intOf]
            · obtain rfl : j = 4 := by omega
              go_wp2
              refine HK.out _ _ ?_
              go_wp2_with (go_at_call 16; refine (alive19_any _).mono ?_; rintro e w9 ⟨rfl, hb⟩; replace hB := Below.tr hB hb)
              go_ret
              exact ⟨rfl, hB⟩
        · obtain ⟨EL, hEL⟩ : ∃ EL, EL = leaseRE SA.1 N k := ⟨_, rfl⟩
          rw [← hEL] at hL cL
          have hne : (EL == 0) = false := by simpa using hL
          clear hEL hL
          refine wp_seq_k (fun K hK => ?_); have HK : Shut _ := hK; clear hK
          go_wp2_with (go_at_call 19; refine (cL).mono ?_; rintro e w2 ⟨lk, ln, la, lm, lc, li, lz, lq, ll, rfl, jl, hb⟩)
          obtain ⟨V2, hV2⟩ : ∃ V2, V2 = w2.alloc (.cells #[.string lk, .string ln, .slice la lm lc, .int .i64 li, .slice lz lq ll] 27) := ⟨_, rfl⟩
          have ol : BoxL V2 w2.heap.size [.string lk, .string ln, .slice la lm lc, .int .i64 li, .slice lz lq ll] := by rw [hV2]; exact boxL_new w2 _ _ rfl
          have hbb : Below w2.heap.size w2 V2 := by rw [hV2]; exact (Below.refl _ _).alloc (Nat.le_refl _) _
          replace jl := jl.below hbb
          have hb2 := Below.tr hb hbb
          replace hB := Below.tr hB hb2
          obtain ⟨pl, hpl⟩ : ∃ p, p = w2.heap.size := ⟨_, rfl⟩
          rw [← hpl] at ol
          have hplw := hb.size
          rw [← hpl] at hplw
          rw [← hV2, ← hpl]
          refine HK.out _ _ ?_; clear HK K
          clear hV2 hbb hb hpl
          replace jr := jr.below hb2
          replace or := or.below hb2
          clear r0 r1 r2 r3 r4 cL
          go_wp2
          refine HK.out _ _ ?_; clear HK K
          clear jl ol
          refine wp_seq_k (fun K hK => ?_); have HK : Shut _ := hK; clear hK
          go_wp2
          go_loopw [109] (fun v wr => ∃ j : Nat, j ≤ 4 ∧ v = .int .i64 j ∧ Said wr 0 ky nm is fs gs ky nm ra rm rc is sa rq sc ∧ BoxL wr w.heap.size [.string ky, .string nm, .slice ra rm rc, .int .i64 is, .slice sa rq sc] ∧ Below w.heap.size w wr) (fun v _ => 4 - (intOf v).toNat)
          case atStart => exact ⟨0, by omega, rfl, jr, or, hB⟩
          case round =>
            clear jr or hB
            obtain ⟨j, hj, rfl, jr, or, hB⟩ := hrel
            by_cases hlt : j < 4
            · rcases (by omega : j = 0 ∨ j = 1 ∨ j = 2 ∨ j = 3) with rfl | rfl | rfl | rfl
              · have hBr := Below.refl wr.heap.size wr
                refine wp_seq_k (fun K hK => ?_); have HK : Shut _ := hK; clear hK
                go_wp2
                refine HK.out _ _ ?_; clear HK K
                refine wp_seq_k (fun K hK => ?_); have HK : Shut _ := hK; clear hK
                go_wp2
                refine HK.out _ _ ?_; clear HK K
                refine wp_seq_k (fun K hK => ?_); have HK : Shut _ := hK; clear hK
                refine wp_block ?_
                refine wp_seq_k (fun K hK => ?_); have HK : Shut _ := hK; clear hK
                go_wp2
                refine HK.out _ _ ?_; clear HK K
                have r0 := or.1 0 _ rfl; have r1 := or.1 1 _ rfl; have r2 := or.1 2 _ rfl; have r3 := or.1 3 _ rfl; have r4 := or.1 4 _ rfl
                have cB := beatY_any hky jr hOk N k hk
                rw [← HSA.out] at cB
                refine wp_seq_k (fun K hK => ?_); have HK : Shut _ := hK; clear hK
                go_wp2_with (go_at_call 23; refine (cB).mono ?_; rintro e w2 ⟨xk, xn, xa, xm, xc, xi, xz, xq, xl, rfl, jx, hb⟩)
                obtain ⟨V2, hV2⟩ : ∃ V2, V2 = w2.alloc (.cells #[.string xk, .string xn, .slice xa xm xc, .int .i64 xi, .slice xz xq xl] 27) := ⟨_, rfl⟩
                have ox : BoxL V2 w2.heap.size [.string xk, .string xn, .slice xa xm xc, .int .i64 xi, .slice xz xq xl] := by rw [hV2]; exact boxL_new w2 _ _ rfl
                have hbb : Below w2.heap.size w2 V2 := by rw [hV2]; exact (Below.refl _ _).alloc (Nat.le_refl _) _
                replace jx := jx.below hbb
                have hb2 := Below.tr hb hbb
                replace hBr := Below.tr hBr hb2
                obtain ⟨px, hpx⟩ : ∃ p, p = w2.heap.size := ⟨_, rfl⟩
                rw [← hpx] at ox
                have hpxw := hb.size
                rw [← hpx] at hpxw
                rw [← hV2, ← hpx]
                refine HK.out _ _ ?_; clear HK K
                clear hV2 hbb hb hpx
                clear r0 r1 r2 r3 r4 cB
                have hpx : wr.heap.size ≤ px := hpxw
                refine wp_seq_k (fun K hK => ?_); have HK : Shut _ := hK; clear hK
                go_wp2
                refine HK.out _ _ ?_; clear HK K
                by_cases h0 : ansE fs (fun _ s => heldE s) SA.1 k = 0
                · rw [h0] at jx ⊢
                  obtain ⟨hKR, hK0⟩ := ans_keeps (fun i t h => (tries_two hOk.dag i t h).1) (keeps_beat N) hRA h0
                  have hz := HIS.out hK0
                  have or2 := or.below hBr
                  have r3 := or2.1 3 _ rfl
                  rw [hz] at r3
                  clear hz
                  have cR := rightY_any hky hnm jx
                  rw [runB_iff.2 ⟨hOk.key, hOk.dag, hKR⟩] at cR
                  have q0 := ox.1 0 _ rfl; have q1 := ox.1 1 _ rfl; have q2 := ox.1 2 _ rfl; have q3 := ox.1 3 _ rfl; have q4 := ox.1 4 _ rfl
                  go_wp2_with (go_at_call 15; refine cR.mono ?_; rintro e w5 ⟨rfl, hb⟩; replace r3 := cell_below hb r3; replace hBr := Below.tr hBr hb)
                  refine HK.out _ _ ?_
                  clear HK r3 q0 q1 q2 q3 q4
                  go_wp2
                  go_roundw
                  case rel => exact ⟨1, by omega, by go_num, jr.below hBr, or.below hBr, Below.tr hB hBr⟩
                  case measure => simp [intOf]
                · obtain ⟨EE, hEE⟩ : ∃ EE, EE = ansE fs (fun _ s => heldE s) SA.1 k := ⟨_, rfl⟩
                  rw [← hEE] at h0 ⊢
                  have hne : (EE == 0) = false := by simpa using h0
                  clear hEE
                  go_wp2
                  refine HK.out _ _ ?_
                  clear HK
                  go_wp2
                  go_roundw
                  case rel => exact ⟨1, by omega, by go_num, jr.below hBr, or.below hBr, Below.tr hB hBr⟩
                  case measure => simp [intOf]
              · have hBr := Below.refl wr.heap.size wr
                refine wp_seq_k (fun K hK => ?_); have HK : Shut _ := hK; clear hK
                go_wp2
                refine HK.out _ _ ?_; clear HK K
                refine wp_seq_k (fun K hK => ?_); have HK : Shut _ := hK; clear hK
                go_wp2
                refine HK.out _ _ ?_; clear HK K
                refine wp_seq_k (fun K hK => ?_); have HK : Shut _ := hK; clear hK
                refine wp_block ?_
                refine wp_seq_k (fun K hK => ?_); have HK : Shut _ := hK; clear hK
                go_wp2
                refine HK.out _ _ ?_; clear HK K
                have r0 := or.1 0 _ rfl; have r1 := or.1 1 _ rfl; have r2 := or.1 2 _ rfl; have r3 := or.1 3 _ rfl; have r4 := or.1 4 _ rfl
                have cB := beatY_any hky jr hOk N k hk
                rw [← HSA.out] at cB
                refine wp_seq_k (fun K hK => ?_); have HK : Shut _ := hK; clear hK
                go_wp2_with (go_at_call 23; refine (cB).mono ?_; rintro e w2 ⟨xk, xn, xa, xm, xc, xi, xz, xq, xl, rfl, jx, hb⟩)
                obtain ⟨V2, hV2⟩ : ∃ V2, V2 = w2.alloc (.cells #[.string xk, .string xn, .slice xa xm xc, .int .i64 xi, .slice xz xq xl] 27) := ⟨_, rfl⟩
                have ox : BoxL V2 w2.heap.size [.string xk, .string xn, .slice xa xm xc, .int .i64 xi, .slice xz xq xl] := by rw [hV2]; exact boxL_new w2 _ _ rfl
                have hbb : Below w2.heap.size w2 V2 := by rw [hV2]; exact (Below.refl _ _).alloc (Nat.le_refl _) _
                replace jx := jx.below hbb
                have hb2 := Below.tr hb hbb
                replace hBr := Below.tr hBr hb2
                obtain ⟨px, hpx⟩ : ∃ p, p = w2.heap.size := ⟨_, rfl⟩
                rw [← hpx] at ox
                have hpxw := hb.size
                rw [← hpx] at hpxw
                rw [← hV2, ← hpx]
                refine HK.out _ _ ?_; clear HK K
                clear hV2 hbb hb hpx
                clear r0 r1 r2 r3 r4 cB
                have hpx : wr.heap.size ≤ px := hpxw
                have jr2 := jr.below hBr
                have or2 := or.below hBr
                have r0 := or2.1 0 _ rfl; have r1 := or2.1 1 _ rfl; have r2 := or2.1 2 _ rfl; have r3 := or2.1 3 _ rfl; have r4 := or2.1 4 _ rfl
                have cD := doneY_any hky jr2 hOk N k ⟨#[114]⟩ (by decide) hk
                rw [← HSA.out] at cD
                refine wp_seq_k (fun K hK => ?_); have HK : Shut _ := hK; clear hK
                go_wp2_with (go_at_call 24; refine cD.mono ?_; rintro e w4 ⟨yk, yn, ya, ym, yc, yi, yz, yq, yl, rfl, jy, hb⟩; have oX := ox.below hb; clear r0 r1 r2 r3 r4; have X0 := oX.1 0 _ rfl; have X1 := oX.1 1 _ rfl; have X2 := oX.1 2 _ rfl; have X3 := oX.1 3 _ rfl; have X4 := oX.1 4 _ rfl; have d0 := oX.2 0 (by simp); have d1 := oX.2 1 (by simp); have d2 := oX.2 2 (by simp); have d3 := oX.2 3 (by simp); have d4 := oX.2 4 (by simp))
                obtain ⟨V4, hV4⟩ : ∃ V4, V4 = (((((w4.setCell ⟨px, 0, none⟩ (.string yk)).setCell ⟨px, 1, none⟩ (.string yn)).setCell ⟨px, 2, none⟩ (.slice ya ym yc)).setCell ⟨px, 3, none⟩ (.int .i64 yi)).setCell ⟨px, 4, none⟩ (.slice yz yq yl)) := ⟨_, rfl⟩
                have T4 : Turns (fun k => k = px) w4 V4 := by rw [hV4]; exact turns_set5 _ _ _ _ _ _ _
                have oy : BoxL V4 px [.string yk, .string yn, .slice ya ym yc, .int .i64 yi, .slice yz yq yl] := by rw [hV4]; exact boxL_set5 oX _ _ _ _ _
                have hpl := ox.lt (by simp)
                have jy4 := jy V4 (T4.mono fun k hk => by subst hk; exact hpl)
                have hBr4 := Below.turns (Below.tr hBr hb) T4 (fun k hk => by subst hk; exact hpx)
                rw [← hV4]
                refine HK.out _ _ ?_; clear HK K
                clear hV4 X0 X1 X2 X3 X4 d0 d1 d2 d3 d4 jy T4 jr2 or2 cD jx ox oX hBr
                have hBr := hBr4
                have jy := jy4
                clear hBr4 jy4
                by_cases h0 : ansE fs (fun _ s => doneE s ⟨#[114]⟩) SA.1 k = 0
                · rw [h0] at jy ⊢
                  obtain ⟨hKR, hK0⟩ := ans_keeps (fun i t h => (tries_two hOk.dag i t h).1) (keeps_done ⟨#[114]⟩) hRA h0
                  have hz := HIS.out hK0
                  have or2 := or.below hBr
                  have r3 := or2.1 3 _ rfl
                  rw [hz] at r3
                  clear hz
                  have cR := rightY_any hky hnm jy
                  rw [runB_iff.2 ⟨hOk.key, hOk.dag, hKR⟩] at cR
                  have q0 := oy.1 0 _ rfl; have q1 := oy.1 1 _ rfl; have q2 := oy.1 2 _ rfl; have q3 := oy.1 3 _ rfl; have q4 := oy.1 4 _ rfl
                  go_wp2_with (go_at_call 15; refine cR.mono ?_; rintro e w5 ⟨rfl, hb⟩; replace r3 := cell_below hb r3; replace hBr := Below.tr hBr hb)
                  refine HK.out _ _ ?_
                  clear HK r3 q0 q1 q2 q3 q4
                  go_wp2
                  go_roundw
                  case rel => exact ⟨2, by omega, by go_num, jr.below hBr, or.below hBr, Below.tr hB hBr⟩
                  case measure => simp [intOf]
                · obtain ⟨EE, hEE⟩ : ∃ EE, EE = ansE fs (fun _ s => doneE s ⟨#[114]⟩) SA.1 k := ⟨_, rfl⟩
                  rw [← hEE] at h0 ⊢
                  have hne : (EE == 0) = false := by simpa using h0
                  clear hEE
                  go_wp2
                  refine HK.out _ _ ?_
                  clear HK
                  go_wp2
                  go_roundw
                  case rel => exact ⟨2, by omega, by go_num, jr.below hBr, or.below hBr, Below.tr hB hBr⟩
                  case measure => simp [intOf]
              · have hBr := Below.refl wr.heap.size wr
                refine wp_seq_k (fun K hK => ?_); have HK : Shut _ := hK; clear hK
                go_wp2
                refine HK.out _ _ ?_; clear HK K
                refine wp_seq_k (fun K hK => ?_); have HK : Shut _ := hK; clear hK
                go_wp2
                refine HK.out _ _ ?_; clear HK K
                refine wp_seq_k (fun K hK => ?_); have HK : Shut _ := hK; clear hK
                refine wp_block ?_
                refine wp_seq_k (fun K hK => ?_); have HK : Shut _ := hK; clear hK
                go_wp2
                refine HK.out _ _ ?_; clear HK K
                have r0 := or.1 0 _ rfl; have r1 := or.1 1 _ rfl; have r2 := or.1 2 _ rfl; have r3 := or.1 3 _ rfl; have r4 := or.1 4 _ rfl
                have cB := beatY_any hky jr hOk N k hk
                rw [← HSA.out] at cB
                refine wp_seq_k (fun K hK => ?_); have HK : Shut _ := hK; clear hK
                go_wp2_with (go_at_call 23; refine (cB).mono ?_; rintro e w2 ⟨xk, xn, xa, xm, xc, xi, xz, xq, xl, rfl, jx, hb⟩)
                obtain ⟨V2, hV2⟩ : ∃ V2, V2 = w2.alloc (.cells #[.string xk, .string xn, .slice xa xm xc, .int .i64 xi, .slice xz xq xl] 27) := ⟨_, rfl⟩
                have ox : BoxL V2 w2.heap.size [.string xk, .string xn, .slice xa xm xc, .int .i64 xi, .slice xz xq xl] := by rw [hV2]; exact boxL_new w2 _ _ rfl
                have hbb : Below w2.heap.size w2 V2 := by rw [hV2]; exact (Below.refl _ _).alloc (Nat.le_refl _) _
                replace jx := jx.below hbb
                have hb2 := Below.tr hb hbb
                replace hBr := Below.tr hBr hb2
                obtain ⟨px, hpx⟩ : ∃ p, p = w2.heap.size := ⟨_, rfl⟩
                rw [← hpx] at ox
                have hpxw := hb.size
                rw [← hpx] at hpxw
                rw [← hV2, ← hpx]
                refine HK.out _ _ ?_; clear HK K
                clear hV2 hbb hb hpx
                clear r0 r1 r2 r3 r4 cB
                have hpx : wr.heap.size ≤ px := hpxw
                have jr2 := jr.below hBr
                have or2 := or.below hBr
                have r0 := or2.1 0 _ rfl; have r1 := or2.1 1 _ rfl; have r2 := or2.1 2 _ rfl; have r3 := or2.1 3 _ rfl; have r4 := or2.1 4 _ rfl
                have cD := failY_any hky jr2 hOk N k hk
                rw [← HSA.out] at cD
                refine wp_seq_k (fun K hK => ?_); have HK : Shut _ := hK; clear hK
                go_wp2_with (go_at_call 25; refine cD.mono ?_; rintro e w4 ⟨yk, yn, ya, ym, yc, yi, yz, yq, yl, rfl, jy, hb⟩; have oX := ox.below hb; clear r0 r1 r2 r3 r4; have X0 := oX.1 0 _ rfl; have X1 := oX.1 1 _ rfl; have X2 := oX.1 2 _ rfl; have X3 := oX.1 3 _ rfl; have X4 := oX.1 4 _ rfl; have d0 := oX.2 0 (by simp); have d1 := oX.2 1 (by simp); have d2 := oX.2 2 (by simp); have d3 := oX.2 3 (by simp); have d4 := oX.2 4 (by simp))
                obtain ⟨V4, hV4⟩ : ∃ V4, V4 = (((((w4.setCell ⟨px, 0, none⟩ (.string yk)).setCell ⟨px, 1, none⟩ (.string yn)).setCell ⟨px, 2, none⟩ (.slice ya ym yc)).setCell ⟨px, 3, none⟩ (.int .i64 yi)).setCell ⟨px, 4, none⟩ (.slice yz yq yl)) := ⟨_, rfl⟩
                have T4 : Turns (fun k => k = px) w4 V4 := by rw [hV4]; exact turns_set5 _ _ _ _ _ _ _
                have oy : BoxL V4 px [.string yk, .string yn, .slice ya ym yc, .int .i64 yi, .slice yz yq yl] := by rw [hV4]; exact boxL_set5 oX _ _ _ _ _
                have hpl := ox.lt (by simp)
                have jy4 := jy V4 (T4.mono fun k hk => by subst hk; exact hpl)
                have hBr4 := Below.turns (Below.tr hBr hb) T4 (fun k hk => by subst hk; exact hpx)
                rw [← hV4]
                refine HK.out _ _ ?_; clear HK K
                clear hV4 X0 X1 X2 X3 X4 d0 d1 d2 d3 d4 jy T4 jr2 or2 cD jx ox oX hBr
                have hBr := hBr4
                have jy := jy4
                clear hBr4 jy4
                by_cases h0 : ansE fs (fun _ s => heldE s) SA.1 k = 0
                · rw [h0] at jy ⊢
                  obtain ⟨hKR, hK0⟩ := ans_keeps (fun i t h => (tries_two hOk.dag i t h).1) (keeps_fail N) hRA h0
                  have hz := HIS.out hK0
                  have or2 := or.below hBr
                  have r3 := or2.1 3 _ rfl
                  rw [hz] at r3
                  clear hz
                  have cR := rightY_any hky hnm jy
                  rw [runB_iff.2 ⟨hOk.key, hOk.dag, hKR⟩] at cR
                  have q0 := oy.1 0 _ rfl; have q1 := oy.1 1 _ rfl; have q2 := oy.1 2 _ rfl; have q3 := oy.1 3 _ rfl; have q4 := oy.1 4 _ rfl
                  go_wp2_with (go_at_call 15; refine cR.mono ?_; rintro e w5 ⟨rfl, hb⟩; replace r3 := cell_below hb r3; replace hBr := Below.tr hBr hb)
                  refine HK.out _ _ ?_
                  clear HK r3 q0 q1 q2 q3 q4
                  go_wp2
                  go_roundw
                  case rel => exact ⟨3, by omega, by go_num, jr.below hBr, or.below hBr, Below.tr hB hBr⟩
                  case measure => simp [intOf]
                · obtain ⟨EE, hEE⟩ : ∃ EE, EE = ansE fs (fun _ s => heldE s) SA.1 k := ⟨_, rfl⟩
                  rw [← hEE] at h0 ⊢
                  have hne : (EE == 0) = false := by simpa using h0
                  clear hEE
                  go_wp2
                  refine HK.out _ _ ?_
                  clear HK
                  go_wp2
                  go_roundw
                  case rel => exact ⟨3, by omega, by go_num, jr.below hBr, or.below hBr, Below.tr hB hBr⟩
                  case measure => simp [intOf]
              · have hBr := Below.refl wr.heap.size wr
                refine wp_seq_k (fun K hK => ?_); have HK : Shut _ := hK; clear hK
                go_wp2
                refine HK.out _ _ ?_; clear HK K
                refine wp_seq_k (fun K hK => ?_); have HK : Shut _ := hK; clear hK
                go_wp2
                refine HK.out _ _ ?_; clear HK K
                refine wp_seq_k (fun K hK => ?_); have HK : Shut _ := hK; clear hK
                refine wp_block ?_
                refine wp_seq_k (fun K hK => ?_); have HK : Shut _ := hK; clear hK
                go_wp2
                refine HK.out _ _ ?_; clear HK K
                have r0 := or.1 0 _ rfl; have r1 := or.1 1 _ rfl; have r2 := or.1 2 _ rfl; have r3 := or.1 3 _ rfl; have r4 := or.1 4 _ rfl
                have cB := beatY_any hky jr hOk N k hk
                rw [← HSA.out] at cB
                refine wp_seq_k (fun K hK => ?_); have HK : Shut _ := hK; clear hK
                go_wp2_with (go_at_call 23; refine (cB).mono ?_; rintro e w2 ⟨xk, xn, xa, xm, xc, xi, xz, xq, xl, rfl, jx, hb⟩)
                obtain ⟨V2, hV2⟩ : ∃ V2, V2 = w2.alloc (.cells #[.string xk, .string xn, .slice xa xm xc, .int .i64 xi, .slice xz xq xl] 27) := ⟨_, rfl⟩
                have ox : BoxL V2 w2.heap.size [.string xk, .string xn, .slice xa xm xc, .int .i64 xi, .slice xz xq xl] := by rw [hV2]; exact boxL_new w2 _ _ rfl
                have hbb : Below w2.heap.size w2 V2 := by rw [hV2]; exact (Below.refl _ _).alloc (Nat.le_refl _) _
                replace jx := jx.below hbb
                have hb2 := Below.tr hb hbb
                replace hBr := Below.tr hBr hb2
                obtain ⟨px, hpx⟩ : ∃ p, p = w2.heap.size := ⟨_, rfl⟩
                rw [← hpx] at ox
                have hpxw := hb.size
                rw [← hpx] at hpxw
                rw [← hV2, ← hpx]
                refine HK.out _ _ ?_; clear HK K
                clear hV2 hbb hb hpx
                clear r0 r1 r2 r3 r4 cB
                have hpx : wr.heap.size ≤ px := hpxw
                have jr2 := jr.below hBr
                have or2 := or.below hBr
                have r0 := or2.1 0 _ rfl; have r1 := or2.1 1 _ rfl; have r2 := or2.1 2 _ rfl; have r3 := or2.1 3 _ rfl; have r4 := or2.1 4 _ rfl
                have cD := cancelY_any hky jr2 N
                rw [← HSA.out] at cD
                refine wp_seq_k (fun K hK => ?_); have HK : Shut _ := hK; clear hK
                go_wp2_with (go_at_call 20; refine cD.mono ?_; rintro e w4 ⟨yk, yn, ya, ym, yc, yi, yz, yq, yl, rfl, jy, hb⟩; have oX := ox.below hb; clear r0 r1 r2 r3 r4; have X0 := oX.1 0 _ rfl; have X1 := oX.1 1 _ rfl; have X2 := oX.1 2 _ rfl; have X3 := oX.1 3 _ rfl; have X4 := oX.1 4 _ rfl; have d0 := oX.2 0 (by simp); have d1 := oX.2 1 (by simp); have d2 := oX.2 2 (by simp); have d3 := oX.2 3 (by simp); have d4 := oX.2 4 (by simp))
                obtain ⟨V4, hV4⟩ : ∃ V4, V4 = (((((w4.setCell ⟨px, 0, none⟩ (.string yk)).setCell ⟨px, 1, none⟩ (.string yn)).setCell ⟨px, 2, none⟩ (.slice ya ym yc)).setCell ⟨px, 3, none⟩ (.int .i64 yi)).setCell ⟨px, 4, none⟩ (.slice yz yq yl)) := ⟨_, rfl⟩
                have T4 : Turns (fun k => k = px) w4 V4 := by rw [hV4]; exact turns_set5 _ _ _ _ _ _ _
                have oy : BoxL V4 px [.string yk, .string yn, .slice ya ym yc, .int .i64 yi, .slice yz yq yl] := by rw [hV4]; exact boxL_set5 oX _ _ _ _ _
                have hpl := ox.lt (by simp)
                have jy4 := jy V4 (T4.mono fun k hk => by subst hk; exact hpl)
                have hBr4 := Below.turns (Below.tr hBr hb) T4 (fun k hk => by subst hk; exact hpx)
                rw [← hV4]
                refine HK.out _ _ ?_; clear HK K
                clear hV4 X0 X1 X2 X3 X4 d0 d1 d2 d3 d4 jy T4 jr2 or2 cD jx ox oX hBr
                have hBr := hBr4
                have jy := jy4
                clear hBr4 jy4
                have hRS : RightS fs (settleS fs (untF N []) (gs, is)).1 (settleS fs (untF N []) (gs, is)).2 := by rw [← HSA.out]; exact hRA
                have hck : cancelE ky nm fs gs is N = 0 → RightS fs (SA.1.map cancelT) 3 ∧ SA.2 = 0 := fun h => by
                  have := cancel_keeps hRS hOk h
                  rw [← HSA.out] at this
                  exact this
                by_cases h0 : cancelE ky nm fs gs is N = 0
                · rw [h0] at jy ⊢
                  obtain ⟨hKR, hK0⟩ := hck h0
                  have hz := HIS.out hK0
                  have or2 := or.below hBr
                  have r3 := or2.1 3 _ rfl
                  rw [hz] at r3
                  clear hz
                  have cR := rightY_any hky hnm jy
                  rw [runB_iff.2 ⟨hOk.key, hOk.dag, hKR⟩] at cR
                  have q0 := oy.1 0 _ rfl; have q1 := oy.1 1 _ rfl; have q2 := oy.1 2 _ rfl; have q3 := oy.1 3 _ rfl; have q4 := oy.1 4 _ rfl
                  go_wp2_with (go_at_call 15; refine cR.mono ?_; rintro e w5 ⟨rfl, hb⟩; replace r3 := cell_below hb r3; replace hBr := Below.tr hBr hb)
                  refine HK.out _ _ ?_
                  clear HK r3 q0 q1 q2 q3 q4
                  go_wp2
                  go_roundw
                  case rel => exact ⟨4, by omega, by go_num, jr.below hBr, or.below hBr, Below.tr hB hBr⟩
                  case measure => simp [intOf]
                · obtain ⟨EE, hEE⟩ : ∃ EE, EE = cancelE ky nm fs gs is N := ⟨_, rfl⟩
                  rw [← hEE] at h0 ⊢
                  have hne : (EE == 0) = false := by simpa using h0
                  clear hEE
                  go_wp2
                  refine HK.out _ _ ?_
                  clear HK
                  go_wp2
                  go_roundw
                  case rel => exact ⟨4, by omega, by go_num, jr.below hBr, or.below hBr, Below.tr hB hBr⟩
                  case measure => simp [intOf]
            · obtain rfl : j = 4 := by omega
              go_wp2
              refine HK.out _ _ ?_
              go_wp2_with (go_at_call 16; refine (alive19_any _).mono ?_; rintro e w9 ⟨rfl, hb⟩; replace hB := Below.tr hB hb)
              go_ret
              exact ⟨rfl, hB⟩
      · have i0 : (is != 0) = true := by simpa using hz
        have HZ : Hid (is ≠ 0) := hz
        rw [HSAME.out hz] at ja
        clear hz
        have tok2 : True := trivial
        refine wp_seq_k (fun K hK => ?_); have HK : Shut _ := hK; clear hK
        go_wp2_with (first
          | (go_at_call 12; clear tok2; refine (likeS_any jb jc).mono ?_; rintro e w3 ⟨rfl, hb⟩; clear r0 r1 r2 r3 r4 a0 a1 a2 a3 a4 b0 b1 b2 b3 b4 c0 c1 c2 c3 c4; replace jr := jr.below hb; replace or := or.below hb; replace ja := ja.below hb; replace oa := oa.below hb; replace jb := jb.below hb; replace ob := ob.below hb; replace jc := jc.below hb; replace oc := oc.below hb; have r0 := or.1 0 _ rfl; have r1 := or.1 1 _ rfl; have r2 := or.1 2 _ rfl; have r3 := or.1 3 _ rfl; have r4 := or.1 4 _ rfl; have a0 := oa.1 0 _ rfl; have a1 := oa.1 1 _ rfl; have a2 := oa.1 2 _ rfl; have a3 := oa.1 3 _ rfl; have a4 := oa.1 4 _ rfl; have b0 := ob.1 0 _ rfl; have b1 := ob.1 1 _ rfl; have b2 := ob.1 2 _ rfl; have b3 := ob.1 3 _ rfl; have b4 := ob.1 4 _ rfl; have c0 := oc.1 0 _ rfl; have c1 := oc.1 1 _ rfl; have c2 := oc.1 2 _ rfl; have c3 := oc.1 3 _ rfl; have c4 := oc.1 4 _ rfl; replace hB := Below.tr hB hb; clear hb)
          | (go_at_call 12; refine (likeS_any ja jr).mono ?_; rintro e w3 ⟨rfl, hb⟩; clear r0 r1 r2 r3 r4 a0 a1 a2 a3 a4 b0 b1 b2 b3 b4 c0 c1 c2 c3 c4; replace jr := jr.below hb; replace or := or.below hb; replace ja := ja.below hb; replace oa := oa.below hb; replace jb := jb.below hb; replace ob := ob.below hb; replace jc := jc.below hb; replace oc := oc.below hb; have r0 := or.1 0 _ rfl; have r1 := or.1 1 _ rfl; have r2 := or.1 2 _ rfl; have r3 := or.1 3 _ rfl; have r4 := or.1 4 _ rfl; have a0 := oa.1 0 _ rfl; have a1 := oa.1 1 _ rfl; have a2 := oa.1 2 _ rfl; have a3 := oa.1 3 _ rfl; have a4 := oa.1 4 _ rfl; have b0 := ob.1 0 _ rfl; have b1 := ob.1 1 _ rfl; have b2 := ob.1 2 _ rfl; have b3 := ob.1 3 _ rfl; have b4 := ob.1 4 _ rfl; have c0 := oc.1 0 _ rfl; have c1 := oc.1 1 _ rfl; have c2 := oc.1 2 _ rfl; have c3 := oc.1 3 _ rfl; have c4 := oc.1 4 _ rfl; replace hB := Below.tr hB hb; clear hb)
          | (go_at_call 15; clear tok0; refine (rightOk_any hky hnm ja hOk).mono ?_; rintro e w3 ⟨rfl, hb⟩; clear r0 r1 r2 r3 r4 a0 a1 a2 a3 a4 b0 b1 b2 b3 b4 c0 c1 c2 c3 c4; replace jr := jr.below hb; replace or := or.below hb; replace ja := ja.below hb; replace oa := oa.below hb; replace jb := jb.below hb; replace ob := ob.below hb; replace jc := jc.below hb; replace oc := oc.below hb; have r0 := or.1 0 _ rfl; have r1 := or.1 1 _ rfl; have r2 := or.1 2 _ rfl; have r3 := or.1 3 _ rfl; have r4 := or.1 4 _ rfl; have a0 := oa.1 0 _ rfl; have a1 := oa.1 1 _ rfl; have a2 := oa.1 2 _ rfl; have a3 := oa.1 3 _ rfl; have a4 := oa.1 4 _ rfl; have b0 := ob.1 0 _ rfl; have b1 := ob.1 1 _ rfl; have b2 := ob.1 2 _ rfl; have b3 := ob.1 3 _ rfl; have b4 := ob.1 4 _ rfl; have c0 := oc.1 0 _ rfl; have c1 := oc.1 1 _ rfl; have c2 := oc.1 2 _ rfl; have c3 := oc.1 3 _ rfl; have c4 := oc.1 4 _ rfl; replace hB := Below.tr hB hb; clear hb)
          | (go_at_call 15; clear tok1; refine (rightOk_any hky hnm jb hOkC).mono ?_; rintro e w3 ⟨rfl, hb⟩; clear r0 r1 r2 r3 r4 a0 a1 a2 a3 a4 b0 b1 b2 b3 b4 c0 c1 c2 c3 c4; replace jr := jr.below hb; replace or := or.below hb; replace ja := ja.below hb; replace oa := oa.below hb; replace jb := jb.below hb; replace ob := ob.below hb; replace jc := jc.below hb; replace oc := oc.below hb; have r0 := or.1 0 _ rfl; have r1 := or.1 1 _ rfl; have r2 := or.1 2 _ rfl; have r3 := or.1 3 _ rfl; have r4 := or.1 4 _ rfl; have a0 := oa.1 0 _ rfl; have a1 := oa.1 1 _ rfl; have a2 := oa.1 2 _ rfl; have a3 := oa.1 3 _ rfl; have a4 := oa.1 4 _ rfl; have b0 := ob.1 0 _ rfl; have b1 := ob.1 1 _ rfl; have b2 := ob.1 2 _ rfl; have b3 := ob.1 3 _ rfl; have b4 := ob.1 4 _ rfl; have c0 := oc.1 0 _ rfl; have c1 := oc.1 1 _ rfl; have c2 := oc.1 2 _ rfl; have c3 := oc.1 3 _ rfl; have c4 := oc.1 4 _ rfl; replace hB := Below.tr hB hb; clear hb))
        refine HK.out _ _ ?_; clear HK K
        clear a0 a1 a2 a3 a4 b0 b1 b2 b3 b4 c0 c1 c2 c3 c4 ja jb jc oa ob oc
        have cL := leaseY_any hky jr hOk N k hk
        rw [← HSA.out] at cL
        have hL : leaseRE SA.1 N k ≠ 0 := fun hL => HZ.out (HIS.out (lease_keeps (fun i t h => (tries_two hOk.dag i t h).2) hRA hL).2)
        obtain ⟨EL, hEL⟩ : ∃ EL, EL = leaseRE SA.1 N k := ⟨_, rfl⟩
        rw [← hEL] at hL cL
        have hne : (EL == 0) = false := by simpa using hL
        clear hEL hL
        refine wp_seq_k (fun K hK => ?_); have HK : Shut _ := hK; clear hK
        refine wp_seq_k (fun K hK => ?_); have HK : Shut _ := hK; clear hK
        go_wp2_with (go_at_call 19; refine (cL).mono ?_; rintro e w2 ⟨lk, ln, la, lm, lc, li, lz, lq, ll, rfl, jl, hb⟩)
        obtain ⟨V2, hV2⟩ : ∃ V2, V2 = w2.alloc (.cells #[.string lk, .string ln, .slice la lm lc, .int .i64 li, .slice lz lq ll] 27) := ⟨_, rfl⟩
        have ol : BoxL V2 w2.heap.size [.string lk, .string ln, .slice la lm lc, .int .i64 li, .slice lz lq ll] := by rw [hV2]; exact boxL_new w2 _ _ rfl
        have hbb : Below w2.heap.size w2 V2 := by rw [hV2]; exact (Below.refl _ _).alloc (Nat.le_refl _) _
        replace jl := jl.below hbb
        have hb2 := Below.tr hb hbb
        replace hB := Below.tr hB hb2
        obtain ⟨pl, hpl⟩ : ∃ p, p = w2.heap.size := ⟨_, rfl⟩
        rw [← hpl] at ol
        have hplw := hb.size
        rw [← hpl] at hplw
        rw [← hV2, ← hpl]
        refine HK.out _ _ ?_; clear HK K
        clear hV2 hbb hb hpl
        replace jr := jr.below hb2
        replace or := or.below hb2
        clear r0 r1 r2 r3 r4 cL
        go_wp2
        refine HK.out _ _ ?_; clear HK K
        clear jl ol
        refine wp_seq_k (fun K hK => ?_); have HK : Shut _ := hK; clear hK
        go_wp2
        go_loopw [109] (fun v wr => ∃ j : Nat, j ≤ 4 ∧ v = .int .i64 j ∧ Said wr 0 ky nm is fs gs ky nm ra rm rc is sa rq sc ∧ BoxL wr w.heap.size [.string ky, .string nm, .slice ra rm rc, .int .i64 is, .slice sa rq sc] ∧ Below w.heap.size w wr) (fun v _ => 4 - (intOf v).toNat)
        case atStart => exact ⟨0, by omega, rfl, jr, or, hB⟩
        case round =>
          clear jr or hB
          obtain ⟨j, hj, rfl, jr, or, hB⟩ := hrel
          by_cases hlt : j < 4
          · rcases (by omega : j = 0 ∨ j = 1 ∨ j = 2 ∨ j = 3) with rfl | rfl | rfl | rfl
            · have hBr := Below.refl wr.heap.size wr
              refine wp_seq_k (fun K hK => ?_); have HK : Shut _ := hK; clear hK
              go_wp2
              refine HK.out _ _ ?_; clear HK K
              refine wp_seq_k (fun K hK => ?_); have HK : Shut _ := hK; clear hK
              go_wp2
              refine HK.out _ _ ?_; clear HK K
              refine wp_seq_k (fun K hK => ?_); have HK : Shut _ := hK; clear hK
              refine wp_block ?_
              refine wp_seq_k (fun K hK => ?_); have HK : Shut _ := hK; clear hK
              go_wp2
              refine HK.out _ _ ?_; clear HK K
              have r0 := or.1 0 _ rfl; have r1 := or.1 1 _ rfl; have r2 := or.1 2 _ rfl; have r3 := or.1 3 _ rfl; have r4 := or.1 4 _ rfl
              have cB := beatY_any hky jr hOk N k hk
              rw [← HSA.out] at cB
              refine wp_seq_k (fun K hK => ?_); have HK : Shut _ := hK; clear hK
              go_wp2_with (go_at_call 23; refine (cB).mono ?_; rintro e w2 ⟨xk, xn, xa, xm, xc, xi, xz, xq, xl, rfl, jx, hb⟩)
              obtain ⟨V2, hV2⟩ : ∃ V2, V2 = w2.alloc (.cells #[.string xk, .string xn, .slice xa xm xc, .int .i64 xi, .slice xz xq xl] 27) := ⟨_, rfl⟩
              have ox : BoxL V2 w2.heap.size [.string xk, .string xn, .slice xa xm xc, .int .i64 xi, .slice xz xq xl] := by rw [hV2]; exact boxL_new w2 _ _ rfl
              have hbb : Below w2.heap.size w2 V2 := by rw [hV2]; exact (Below.refl _ _).alloc (Nat.le_refl _) _
              replace jx := jx.below hbb
              have hb2 := Below.tr hb hbb
              replace hBr := Below.tr hBr hb2
              obtain ⟨px, hpx⟩ : ∃ p, p = w2.heap.size := ⟨_, rfl⟩
              rw [← hpx] at ox
              have hpxw := hb.size
              rw [← hpx] at hpxw
              rw [← hV2, ← hpx]
              refine HK.out _ _ ?_; clear HK K
              clear hV2 hbb hb hpx
              clear r0 r1 r2 r3 r4 cB
              have hpx : wr.heap.size ≤ px := hpxw
              refine wp_seq_k (fun K hK => ?_); have HK : Shut _ := hK; clear hK
              go_wp2
              refine HK.out _ _ ?_; clear HK K
              by_cases h0 : ansE fs (fun _ s => heldE s) SA.1 k = 0
              · rw [h0] at jx ⊢
                obtain ⟨hKR, hK0⟩ := ans_keeps (fun i t h => (tries_two hOk.dag i t h).1) (keeps_beat N) hRA h0
                have hz := HIS.out hK0
                have or2 := or.below hBr
                have r3 := or2.1 3 _ rfl
                rw [hz] at r3
                clear hz
                have cR := rightY_any hky hnm jx
                rw [runB_iff.2 ⟨hOk.key, hOk.dag, hKR⟩] at cR
                have q0 := ox.1 0 _ rfl; have q1 := ox.1 1 _ rfl; have q2 := ox.1 2 _ rfl; have q3 := ox.1 3 _ rfl; have q4 := ox.1 4 _ rfl
                go_wp2_with (go_at_call 15; refine cR.mono ?_; rintro e w5 ⟨rfl, hb⟩; replace r3 := cell_below hb r3; replace hBr := Below.tr hBr hb)
                refine HK.out _ _ ?_
                clear HK r3 q0 q1 q2 q3 q4
                go_wp2
                go_roundw
                case rel => exact ⟨1, by omega, by go_num, jr.below hBr, or.below hBr, Below.tr hB hBr⟩
                case measure => simp [intOf]
              · obtain ⟨EE, hEE⟩ : ∃ EE, EE = ansE fs (fun _ s => heldE s) SA.1 k := ⟨_, rfl⟩
                rw [← hEE] at h0 ⊢
                have hne : (EE == 0) = false := by simpa using h0
                clear hEE
                go_wp2
                refine HK.out _ _ ?_
                clear HK
                go_wp2
                go_roundw
                case rel => exact ⟨1, by omega, by go_num, jr.below hBr, or.below hBr, Below.tr hB hBr⟩
                case measure => simp [intOf]
            · have hBr := Below.refl wr.heap.size wr
              refine wp_seq_k (fun K hK => ?_); have HK : Shut _ := hK; clear hK
              go_wp2
              refine HK.out _ _ ?_; clear HK K
              refine wp_seq_k (fun K hK => ?_); have HK : Shut _ := hK; clear hK
              go_wp2
              refine HK.out _ _ ?_; clear HK K
              refine wp_seq_k (fun K hK => ?_); have HK : Shut _ := hK; clear hK
              refine wp_block ?_
              refine wp_seq_k (fun K hK => ?_); have HK : Shut _ := hK; clear hK
              go_wp2
              refine HK.out _ _ ?_; clear HK K
              have r0 := or.1 0 _ rfl; have r1 := or.1 1 _ rfl; have r2 := or.1 2 _ rfl; have r3 := or.1 3 _ rfl; have r4 := or.1 4 _ rfl
              have cB := beatY_any hky jr hOk N k hk
              rw [← HSA.out] at cB
              refine wp_seq_k (fun K hK => ?_); have HK : Shut _ := hK; clear hK
              go_wp2_with (go_at_call 23; refine (cB).mono ?_; rintro e w2 ⟨xk, xn, xa, xm, xc, xi, xz, xq, xl, rfl, jx, hb⟩)
              obtain ⟨V2, hV2⟩ : ∃ V2, V2 = w2.alloc (.cells #[.string xk, .string xn, .slice xa xm xc, .int .i64 xi, .slice xz xq xl] 27) := ⟨_, rfl⟩
              have ox : BoxL V2 w2.heap.size [.string xk, .string xn, .slice xa xm xc, .int .i64 xi, .slice xz xq xl] := by rw [hV2]; exact boxL_new w2 _ _ rfl
              have hbb : Below w2.heap.size w2 V2 := by rw [hV2]; exact (Below.refl _ _).alloc (Nat.le_refl _) _
              replace jx := jx.below hbb
              have hb2 := Below.tr hb hbb
              replace hBr := Below.tr hBr hb2
              obtain ⟨px, hpx⟩ : ∃ p, p = w2.heap.size := ⟨_, rfl⟩
              rw [← hpx] at ox
              have hpxw := hb.size
              rw [← hpx] at hpxw
              rw [← hV2, ← hpx]
              refine HK.out _ _ ?_; clear HK K
              clear hV2 hbb hb hpx
              clear r0 r1 r2 r3 r4 cB
              have hpx : wr.heap.size ≤ px := hpxw
              have jr2 := jr.below hBr
              have or2 := or.below hBr
              have r0 := or2.1 0 _ rfl; have r1 := or2.1 1 _ rfl; have r2 := or2.1 2 _ rfl; have r3 := or2.1 3 _ rfl; have r4 := or2.1 4 _ rfl
              have cD := doneY_any hky jr2 hOk N k ⟨#[114]⟩ (by decide) hk
              rw [← HSA.out] at cD
              refine wp_seq_k (fun K hK => ?_); have HK : Shut _ := hK; clear hK
              go_wp2_with (go_at_call 24; refine cD.mono ?_; rintro e w4 ⟨yk, yn, ya, ym, yc, yi, yz, yq, yl, rfl, jy, hb⟩; have oX := ox.below hb; clear r0 r1 r2 r3 r4; have X0 := oX.1 0 _ rfl; have X1 := oX.1 1 _ rfl; have X2 := oX.1 2 _ rfl; have X3 := oX.1 3 _ rfl; have X4 := oX.1 4 _ rfl; have d0 := oX.2 0 (by simp); have d1 := oX.2 1 (by simp); have d2 := oX.2 2 (by simp); have d3 := oX.2 3 (by simp); have d4 := oX.2 4 (by simp))
              obtain ⟨V4, hV4⟩ : ∃ V4, V4 = (((((w4.setCell ⟨px, 0, none⟩ (.string yk)).setCell ⟨px, 1, none⟩ (.string yn)).setCell ⟨px, 2, none⟩ (.slice ya ym yc)).setCell ⟨px, 3, none⟩ (.int .i64 yi)).setCell ⟨px, 4, none⟩ (.slice yz yq yl)) := ⟨_, rfl⟩
              have T4 : Turns (fun k => k = px) w4 V4 := by rw [hV4]; exact turns_set5 _ _ _ _ _ _ _
              have oy : BoxL V4 px [.string yk, .string yn, .slice ya ym yc, .int .i64 yi, .slice yz yq yl] := by rw [hV4]; exact boxL_set5 oX _ _ _ _ _
              have hpl := ox.lt (by simp)
              have jy4 := jy V4 (T4.mono fun k hk => by subst hk; exact hpl)
              have hBr4 := Below.turns (Below.tr hBr hb) T4 (fun k hk => by subst hk; exact hpx)
              rw [← hV4]
              refine HK.out _ _ ?_; clear HK K
              clear hV4 X0 X1 X2 X3 X4 d0 d1 d2 d3 d4 jy T4 jr2 or2 cD jx ox oX hBr
              have hBr := hBr4
              have jy := jy4
              clear hBr4 jy4
              by_cases h0 : ansE fs (fun _ s => doneE s ⟨#[114]⟩) SA.1 k = 0
              · rw [h0] at jy ⊢
                obtain ⟨hKR, hK0⟩ := ans_keeps (fun i t h => (tries_two hOk.dag i t h).1) (keeps_done ⟨#[114]⟩) hRA h0
                have hz := HIS.out hK0
                have or2 := or.below hBr
                have r3 := or2.1 3 _ rfl
                rw [hz] at r3
                clear hz
                have cR := rightY_any hky hnm jy
                rw [runB_iff.2 ⟨hOk.key, hOk.dag, hKR⟩] at cR
                have q0 := oy.1 0 _ rfl; have q1 := oy.1 1 _ rfl; have q2 := oy.1 2 _ rfl; have q3 := oy.1 3 _ rfl; have q4 := oy.1 4 _ rfl
                go_wp2_with (go_at_call 15; refine cR.mono ?_; rintro e w5 ⟨rfl, hb⟩; replace r3 := cell_below hb r3; replace hBr := Below.tr hBr hb)
                refine HK.out _ _ ?_
                clear HK r3 q0 q1 q2 q3 q4
                go_wp2
                go_roundw
                case rel => exact ⟨2, by omega, by go_num, jr.below hBr, or.below hBr, Below.tr hB hBr⟩
                case measure => simp [intOf]
              · obtain ⟨EE, hEE⟩ : ∃ EE, EE = ansE fs (fun _ s => doneE s ⟨#[114]⟩) SA.1 k := ⟨_, rfl⟩
                rw [← hEE] at h0 ⊢
                have hne : (EE == 0) = false := by simpa using h0
                clear hEE
                go_wp2
                refine HK.out _ _ ?_
                clear HK
                go_wp2
                go_roundw
                case rel => exact ⟨2, by omega, by go_num, jr.below hBr, or.below hBr, Below.tr hB hBr⟩
                case measure => simp [intOf]
            · have hBr := Below.refl wr.heap.size wr
              refine wp_seq_k (fun K hK => ?_); have HK : Shut _ := hK; clear hK
              go_wp2
              refine HK.out _ _ ?_; clear HK K
              refine wp_seq_k (fun K hK => ?_); have HK : Shut _ := hK; clear hK
              go_wp2
              refine HK.out _ _ ?_; clear HK K
              refine wp_seq_k (fun K hK => ?_); have HK : Shut _ := hK; clear hK
              refine wp_block ?_
              refine wp_seq_k (fun K hK => ?_); have HK : Shut _ := hK; clear hK
              go_wp2
              refine HK.out _ _ ?_; clear HK K
              have r0 := or.1 0 _ rfl; have r1 := or.1 1 _ rfl; have r2 := or.1 2 _ rfl; have r3 := or.1 3 _ rfl; have r4 := or.1 4 _ rfl
              have cB := beatY_any hky jr hOk N k hk
              rw [← HSA.out] at cB
              refine wp_seq_k (fun K hK => ?_); have HK : Shut _ := hK; clear hK
              go_wp2_with (go_at_call 23; refine (cB).mono ?_; rintro e w2 ⟨xk, xn, xa, xm, xc, xi, xz, xq, xl, rfl, jx, hb⟩)
              obtain ⟨V2, hV2⟩ : ∃ V2, V2 = w2.alloc (.cells #[.string xk, .string xn, .slice xa xm xc, .int .i64 xi, .slice xz xq xl] 27) := ⟨_, rfl⟩
              have ox : BoxL V2 w2.heap.size [.string xk, .string xn, .slice xa xm xc, .int .i64 xi, .slice xz xq xl] := by rw [hV2]; exact boxL_new w2 _ _ rfl
              have hbb : Below w2.heap.size w2 V2 := by rw [hV2]; exact (Below.refl _ _).alloc (Nat.le_refl _) _
              replace jx := jx.below hbb
              have hb2 := Below.tr hb hbb
              replace hBr := Below.tr hBr hb2
              obtain ⟨px, hpx⟩ : ∃ p, p = w2.heap.size := ⟨_, rfl⟩
              rw [← hpx] at ox
              have hpxw := hb.size
              rw [← hpx] at hpxw
              rw [← hV2, ← hpx]
              refine HK.out _ _ ?_; clear HK K
              clear hV2 hbb hb hpx
              clear r0 r1 r2 r3 r4 cB
              have hpx : wr.heap.size ≤ px := hpxw
              have jr2 := jr.below hBr
              have or2 := or.below hBr
              have r0 := or2.1 0 _ rfl; have r1 := or2.1 1 _ rfl; have r2 := or2.1 2 _ rfl; have r3 := or2.1 3 _ rfl; have r4 := or2.1 4 _ rfl
              have cD := failY_any hky jr2 hOk N k hk
              rw [← HSA.out] at cD
              refine wp_seq_k (fun K hK => ?_); have HK : Shut _ := hK; clear hK
              go_wp2_with (go_at_call 25; refine cD.mono ?_; rintro e w4 ⟨yk, yn, ya, ym, yc, yi, yz, yq, yl, rfl, jy, hb⟩; have oX := ox.below hb; clear r0 r1 r2 r3 r4; have X0 := oX.1 0 _ rfl; have X1 := oX.1 1 _ rfl; have X2 := oX.1 2 _ rfl; have X3 := oX.1 3 _ rfl; have X4 := oX.1 4 _ rfl; have d0 := oX.2 0 (by simp); have d1 := oX.2 1 (by simp); have d2 := oX.2 2 (by simp); have d3 := oX.2 3 (by simp); have d4 := oX.2 4 (by simp))
              obtain ⟨V4, hV4⟩ : ∃ V4, V4 = (((((w4.setCell ⟨px, 0, none⟩ (.string yk)).setCell ⟨px, 1, none⟩ (.string yn)).setCell ⟨px, 2, none⟩ (.slice ya ym yc)).setCell ⟨px, 3, none⟩ (.int .i64 yi)).setCell ⟨px, 4, none⟩ (.slice yz yq yl)) := ⟨_, rfl⟩
              have T4 : Turns (fun k => k = px) w4 V4 := by rw [hV4]; exact turns_set5 _ _ _ _ _ _ _
              have oy : BoxL V4 px [.string yk, .string yn, .slice ya ym yc, .int .i64 yi, .slice yz yq yl] := by rw [hV4]; exact boxL_set5 oX _ _ _ _ _
              have hpl := ox.lt (by simp)
              have jy4 := jy V4 (T4.mono fun k hk => by subst hk; exact hpl)
              have hBr4 := Below.turns (Below.tr hBr hb) T4 (fun k hk => by subst hk; exact hpx)
              rw [← hV4]
              refine HK.out _ _ ?_; clear HK K
              clear hV4 X0 X1 X2 X3 X4 d0 d1 d2 d3 d4 jy T4 jr2 or2 cD jx ox oX hBr
              have hBr := hBr4
              have jy := jy4
              clear hBr4 jy4
              by_cases h0 : ansE fs (fun _ s => heldE s) SA.1 k = 0
              · rw [h0] at jy ⊢
                obtain ⟨hKR, hK0⟩ := ans_keeps (fun i t h => (tries_two hOk.dag i t h).1) (keeps_fail N) hRA h0
                have hz := HIS.out hK0
                have or2 := or.below hBr
                have r3 := or2.1 3 _ rfl
                rw [hz] at r3
                clear hz
                have cR := rightY_any hky hnm jy
                rw [runB_iff.2 ⟨hOk.key, hOk.dag, hKR⟩] at cR
                have q0 := oy.1 0 _ rfl; have q1 := oy.1 1 _ rfl; have q2 := oy.1 2 _ rfl; have q3 := oy.1 3 _ rfl; have q4 := oy.1 4 _ rfl
                go_wp2_with (go_at_call 15; refine cR.mono ?_; rintro e w5 ⟨rfl, hb⟩; replace r3 := cell_below hb r3; replace hBr := Below.tr hBr hb)
                refine HK.out _ _ ?_
                clear HK r3 q0 q1 q2 q3 q4
                go_wp2
                go_roundw
                case rel => exact ⟨3, by omega, by go_num, jr.below hBr, or.below hBr, Below.tr hB hBr⟩
                case measure => simp [intOf]
              · obtain ⟨EE, hEE⟩ : ∃ EE, EE = ansE fs (fun _ s => heldE s) SA.1 k := ⟨_, rfl⟩
                rw [← hEE] at h0 ⊢
                have hne : (EE == 0) = false := by simpa using h0
                clear hEE
                go_wp2
                refine HK.out _ _ ?_
                clear HK
                go_wp2
                go_roundw
                case rel => exact ⟨3, by omega, by go_num, jr.below hBr, or.below hBr, Below.tr hB hBr⟩
                case measure => simp [intOf]
            · have hBr := Below.refl wr.heap.size wr
              refine wp_seq_k (fun K hK => ?_); have HK : Shut _ := hK; clear hK
              go_wp2
              refine HK.out _ _ ?_; clear HK K
              refine wp_seq_k (fun K hK => ?_); have HK : Shut _ := hK; clear hK
              go_wp2
              refine HK.out _ _ ?_; clear HK K
              refine wp_seq_k (fun K hK => ?_); have HK : Shut _ := hK; clear hK
              refine wp_block ?_
              refine wp_seq_k (fun K hK => ?_); have HK : Shut _ := hK; clear hK
              go_wp2
              refine HK.out _ _ ?_; clear HK K
              have r0 := or.1 0 _ rfl; have r1 := or.1 1 _ rfl; have r2 := or.1 2 _ rfl; have r3 := or.1 3 _ rfl; have r4 := or.1 4 _ rfl
              have cB := beatY_any hky jr hOk N k hk
              rw [← HSA.out] at cB
              refine wp_seq_k (fun K hK => ?_); have HK : Shut _ := hK; clear hK
              go_wp2_with (go_at_call 23; refine (cB).mono ?_; rintro e w2 ⟨xk, xn, xa, xm, xc, xi, xz, xq, xl, rfl, jx, hb⟩)
              obtain ⟨V2, hV2⟩ : ∃ V2, V2 = w2.alloc (.cells #[.string xk, .string xn, .slice xa xm xc, .int .i64 xi, .slice xz xq xl] 27) := ⟨_, rfl⟩
              have ox : BoxL V2 w2.heap.size [.string xk, .string xn, .slice xa xm xc, .int .i64 xi, .slice xz xq xl] := by rw [hV2]; exact boxL_new w2 _ _ rfl
              have hbb : Below w2.heap.size w2 V2 := by rw [hV2]; exact (Below.refl _ _).alloc (Nat.le_refl _) _
              replace jx := jx.below hbb
              have hb2 := Below.tr hb hbb
              replace hBr := Below.tr hBr hb2
              obtain ⟨px, hpx⟩ : ∃ p, p = w2.heap.size := ⟨_, rfl⟩
              rw [← hpx] at ox
              have hpxw := hb.size
              rw [← hpx] at hpxw
              rw [← hV2, ← hpx]
              refine HK.out _ _ ?_; clear HK K
              clear hV2 hbb hb hpx
              clear r0 r1 r2 r3 r4 cB
              have hpx : wr.heap.size ≤ px := hpxw
              have jr2 := jr.below hBr
              have or2 := or.below hBr
              have r0 := or2.1 0 _ rfl; have r1 := or2.1 1 _ rfl; have r2 := or2.1 2 _ rfl; have r3 := or2.1 3 _ rfl; have r4 := or2.1 4 _ rfl
              have cD := cancelY_any hky jr2 N
              rw [← HSA.out] at cD
              refine wp_seq_k (fun K hK => ?_); have HK : Shut _ := hK; clear hK
              go_wp2_with (go_at_call 20; refine cD.mono ?_; rintro e w4 ⟨yk, yn, ya, ym, yc, yi, yz, yq, yl, rfl, jy, hb⟩; have oX := ox.below hb; clear r0 r1 r2 r3 r4; have X0 := oX.1 0 _ rfl; have X1 := oX.1 1 _ rfl; have X2 := oX.1 2 _ rfl; have X3 := oX.1 3 _ rfl; have X4 := oX.1 4 _ rfl; have d0 := oX.2 0 (by simp); have d1 := oX.2 1 (by simp); have d2 := oX.2 2 (by simp); have d3 := oX.2 3 (by simp); have d4 := oX.2 4 (by simp))
              obtain ⟨V4, hV4⟩ : ∃ V4, V4 = (((((w4.setCell ⟨px, 0, none⟩ (.string yk)).setCell ⟨px, 1, none⟩ (.string yn)).setCell ⟨px, 2, none⟩ (.slice ya ym yc)).setCell ⟨px, 3, none⟩ (.int .i64 yi)).setCell ⟨px, 4, none⟩ (.slice yz yq yl)) := ⟨_, rfl⟩
              have T4 : Turns (fun k => k = px) w4 V4 := by rw [hV4]; exact turns_set5 _ _ _ _ _ _ _
              have oy : BoxL V4 px [.string yk, .string yn, .slice ya ym yc, .int .i64 yi, .slice yz yq yl] := by rw [hV4]; exact boxL_set5 oX _ _ _ _ _
              have hpl := ox.lt (by simp)
              have jy4 := jy V4 (T4.mono fun k hk => by subst hk; exact hpl)
              have hBr4 := Below.turns (Below.tr hBr hb) T4 (fun k hk => by subst hk; exact hpx)
              rw [← hV4]
              refine HK.out _ _ ?_; clear HK K
              clear hV4 X0 X1 X2 X3 X4 d0 d1 d2 d3 d4 jy T4 jr2 or2 cD jx ox oX hBr
              have hBr := hBr4
              have jy := jy4
              clear hBr4 jy4
              have hRS : RightS fs (settleS fs (untF N []) (gs, is)).1 (settleS fs (untF N []) (gs, is)).2 := by rw [← HSA.out]; exact hRA
              have hck : cancelE ky nm fs gs is N = 0 → RightS fs (SA.1.map cancelT) 3 ∧ SA.2 = 0 := fun h => by
                have := cancel_keeps hRS hOk h
                rw [← HSA.out] at this
                exact this
              by_cases h0 : cancelE ky nm fs gs is N = 0
              · rw [h0] at jy ⊢
                obtain ⟨hKR, hK0⟩ := hck h0
                have hz := HIS.out hK0
                have or2 := or.below hBr
                have r3 := or2.1 3 _ rfl
                rw [hz] at r3
                clear hz
                have cR := rightY_any hky hnm jy
                rw [runB_iff.2 ⟨hOk.key, hOk.dag, hKR⟩] at cR
                have q0 := oy.1 0 _ rfl; have q1 := oy.1 1 _ rfl; have q2 := oy.1 2 _ rfl; have q3 := oy.1 3 _ rfl; have q4 := oy.1 4 _ rfl
                go_wp2_with (go_at_call 15; refine cR.mono ?_; rintro e w5 ⟨rfl, hb⟩; replace r3 := cell_below hb r3; replace hBr := Below.tr hBr hb)
                refine HK.out _ _ ?_
                clear HK r3 q0 q1 q2 q3 q4
                go_wp2
                go_roundw
                case rel => exact ⟨4, by omega, by go_num, jr.below hBr, or.below hBr, Below.tr hB hBr⟩
                case measure => simp [intOf]
              · obtain ⟨EE, hEE⟩ : ∃ EE, EE = cancelE ky nm fs gs is N := ⟨_, rfl⟩
                rw [← hEE] at h0 ⊢
                have hne : (EE == 0) = false := by simpa using h0
                clear hEE
                go_wp2
                refine HK.out _ _ ?_
                clear HK
                go_wp2
                go_roundw
                case rel => exact ⟨4, by omega, by go_num, jr.below hBr, or.below hBr, Below.tr hB hBr⟩
                case measure => simp [intOf]
          · obtain rfl : j = 4 := by omega
            go_wp2
            refine HK.out _ _ ?_
            go_wp2_with (go_at_call 16; refine (alive19_any _).mono ?_; rintro e w9 ⟨rfl, hb⟩; replace hB := Below.tr hB hb)
            go_ret
            exact ⟨rfl, hB⟩
    clear HK
    go_wp2
    all_goals exact KEY _ _ _ _ (by omega) (by omega) (by omega)

end Go.Proofs.Ytdpljpjbomhccaa


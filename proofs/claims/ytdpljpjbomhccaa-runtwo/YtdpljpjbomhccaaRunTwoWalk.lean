/-
  The walk through the statement RunTwo.
-/
import Derived.Test.YtdpljpjbomhccaaRwA
import Derived.Test.YtdpljpjbomhccaaRtF
namespace Go.Proofs.Ytdpljpjbomhccaa
open Go.RowKit Plain
set_option linter.unusedVariables false

theorem rightOk_any {V : World} {ky nm : ByteArray} {is : Int} {fs : List TaskP} {zs : List StP} {xk xn : ByteArray} {xa : Option Addr} {xm xc : Nat} {xi : Int} {xz : Option Addr} {xq xl : Nat} (hky : ky.size ≤ maxLen) (hnm : nm.size ≤ maxLen) (hx : Said V 0 ky nm is fs zs xk xn xa xm xc xi xz xq xl) (hOk : RunOk ky nm fs zs is) :
    Calls Try.prog 15 #[.agg #[.string xk, .string xn, .slice xa xm xc, .int .i64 xi, .slice xz xq xl]] V fun e w' => e = .returned (.bool true) ∧ Below V.heap.size V w' := by
  have := rightY_any hky hnm hx
  rw [runB_iff.2 hOk] at this
  exact this



set_option maxRecDepth 20000 in
set_option maxHeartbeats 2000000 in
theorem runTwo_walk (ky nm : ByteArray) (ta : Option Addr) (tc : Nat) (tv : List TaskV) (is : Int) (sa : Option Addr) (sc : Nat) (ss : List StP) (now k k2 : Int) (w : World) (hky : ky.size ≤ maxLen) (hnm : nm.size ≤ maxLen) (hT : IsT w ta tc tv) (wi : (Lit.int .i64 is).wf = true) (hZ : IsZ w sa sc ss) (wn : (Lit.int .i64 now).wf = true) (wk : (Lit.int .i64 k).wf = true) (wl : (Lit.int .i64 k2).wf = true) :
    Calls Try.prog 8 #[.agg #[.string ky, .string nm, .slice ta tv.length tc, .int .i64 is, .slice sa ss.length sc], .int .i64 now, .int .i64 k, .int .i64 k2] w fun e w' => e = .returned (.bool true) ∧ Below w.heap.size w w' := by
  have hk2 : wfJ k2 := wl
  have hk : wfJ k := wk
  clear wi wn wk wl
  obtain ⟨tn, htn⟩ : ∃ x, x = tv.length := ⟨_, rfl⟩
  obtain ⟨n, hn⟩ : ∃ x, x = ss.length := ⟨_, rfl⟩
  rw [← htn, ← hn]
  have cF := fewRun_any ky nm ta tn tc is sa n sc tv ss w htn hT hn hZ
  unfold FewRun at cF
  obtain ⟨fv, hfs⟩ : ∃ fs, fs = fewT tv := ⟨_, rfl⟩
  obtain ⟨gs, hgs⟩ : ∃ gs, gs = fewS ss := ⟨_, rfl⟩
  rw [← hfs, ← hgs] at cF
  obtain ⟨fs, hfs2⟩ : ∃ fs, fs = plainT fv := ⟨_, rfl⟩
  obtain ⟨ok, hok⟩ : ∃ ok, ok = runB ky nm fs gs is := ⟨_, rfl⟩
  have HFS : Hid (fs = plainT fv) := hfs2
  have HOK : Hid (ok = runB ky nm fs gs is) := hok
  clear hfs hgs htn hn hT hZ hok hfs2
  cases ok with
  | false =>
    go_enter Try.func8, Try.ntmps8
    refine wp_seq_k (fun K hK => ?_); have HK : Shut _ := hK; clear hK
    go_wp2
    refine HK.out _ _ ?_; clear HK K
    refine wp_seq_k (fun K hK => ?_); have HK : Shut _ := hK; clear hK
    go_wp2_with (go_at_call 9; refine cF.mono ?_; rintro e w1 ⟨ra, rc, rm, rq, u0, u1, u2, u3, u4, rfl, b1, R, hB⟩; have v0 := b1.1 0 _ rfl; have v1 := b1.1 1 _ rfl; have v2 := b1.1 2 _ rfl; have v3 := b1.1 3 _ rfl; have v4 := b1.1 4 _ rfl; have f0 := b1.2 0 (by simp); have f1 := b1.2 1 (by simp); have f2 := b1.2 2 (by simp); have f3 := b1.2 3 (by simp); have f4 := b1.2 4 (by simp))
    obtain ⟨Z, hZ9⟩ : ∃ Z, Z = (((((w1.setCell ⟨w.heap.size, 0, none⟩ (.string ky)).setCell ⟨w.heap.size, 1, none⟩ (.string nm)).setCell ⟨w.heap.size, 2, none⟩ (.slice ra rm rc)).setCell ⟨w.heap.size, 3, none⟩ (.int .i64 is)).setCell ⟨w.heap.size, 4, none⟩ (.slice sa rq sc)) := ⟨_, rfl⟩
    rw [← hZ9] at R hB
    rw [← hZ9]
    refine HK.out _ _ ?_; clear HK K
    have jr := R.said
    rw [← HFS.out] at jr
    have or := R.box
    clear hZ9 v0 v1 v2 v3 v4 R
    have cQ := rightY_any hky hnm jr
    rw [← HOK.out] at cQ
    clear cF
    have r0 := or.1 0 _ rfl; have r1 := or.1 1 _ rfl; have r2 := or.1 2 _ rfl; have r3 := or.1 3 _ rfl; have r4 := or.1 4 _ rfl
    go_wp2_with (first
      | (go_at_call 15; refine cQ.mono ?_; rintro e w2 ⟨rfl, hb2⟩; replace hB := Below.tr hB hb2; clear r0 r1 r2 r3 r4 jr or cQ)
      | (go_at_call 16; refine (alive19_any _).mono ?_; rintro e w9 ⟨rfl, hb⟩; replace hB := Below.tr hB hb))
    go_ret
    exact ⟨rfl, hB⟩
  | true =>
    have hOk : RunOk ky nm fs gs is := runB_iff.1 HOK.out.symm
    go_enter Try.func8, Try.ntmps8
    refine wp_seq_k (fun K hK => ?_); have HK : Shut _ := hK; clear hK
    go_wp2
    refine HK.out _ _ ?_; clear HK K
    refine wp_seq_k (fun K hK => ?_); have HK : Shut _ := hK; clear hK
    go_wp2_with (go_at_call 9; refine cF.mono ?_; rintro e w1 ⟨ra, rc, rm, rq, u0, u1, u2, u3, u4, rfl, b1, R, hB⟩; have v0 := b1.1 0 _ rfl; have v1 := b1.1 1 _ rfl; have v2 := b1.1 2 _ rfl; have v3 := b1.1 3 _ rfl; have v4 := b1.1 4 _ rfl; have f0 := b1.2 0 (by simp); have f1 := b1.2 1 (by simp); have f2 := b1.2 2 (by simp); have f3 := b1.2 3 (by simp); have f4 := b1.2 4 (by simp))
    obtain ⟨Z, hZ9⟩ : ∃ Z, Z = (((((w1.setCell ⟨w.heap.size, 0, none⟩ (.string ky)).setCell ⟨w.heap.size, 1, none⟩ (.string nm)).setCell ⟨w.heap.size, 2, none⟩ (.slice ra rm rc)).setCell ⟨w.heap.size, 3, none⟩ (.int .i64 is)).setCell ⟨w.heap.size, 4, none⟩ (.slice sa rq sc)) := ⟨_, rfl⟩
    rw [← hZ9] at R hB
    rw [← hZ9]
    refine HK.out _ _ ?_; clear HK K
    have jr := R.said
    rw [← HFS.out] at jr
    have or := R.box
    clear hZ9 v0 v1 v2 v3 v4 R
    have r0 := or.1 0 _ rfl; have r1 := or.1 1 _ rfl; have r2 := or.1 2 _ rfl; have r3 := or.1 3 _ rfl; have r4 := or.1 4 _ rfl
    have cQ := rightOk_any hky hnm jr hOk
    refine wp_seq_k (fun K hK => ?_); have HK : Shut _ := hK; clear hK
    go_wp2_with (go_at_call 15; refine cQ.mono ?_; rintro e w2 ⟨rfl, hb2⟩)
    refine HK.out _ _ ?_; clear HK K
    replace jr := jr.below hb2
    replace or := or.below hb2
    replace hB := Below.tr hB hb2
    clear cQ r0 r1 r2 r3 r4 hb2
    obtain ⟨SS, hSS⟩ : ∃ SS, SS = settleS fs (untF now []) (gs, is) := ⟨_, rfl⟩
    have hRS : RightS fs SS.1 SS.2 := by rw [hSS]; exact settle_right (fun i t h => (tries_two hOk.dag i t h).1) (x := (gs, is)) hOk.st
    have hoS : overN SS.1 (untF now []) = none := by rw [hSS]; exact settle_none _ _ _
    have HSS : Hid (SS = settleS fs (untF now []) (gs, is)) := hSS
    clear hSS
    have cA := (doneY_any hky jr hOk now k ⟨#[120]⟩ (by decide) hk).mono fun e w' h => h.y
    rw [← HSS.out] at cA
    obtain ⟨EX, hEX⟩ : ∃ EX, EX = ansE fs (fun _ s => doneE s ⟨#[120]⟩) SS.1 k := ⟨_, rfl⟩
    obtain ⟨AX, hAX⟩ : ∃ AX, AX = ansZ fs (fun _ s => doneT s ⟨#[120]⟩) SS.1 SS.2 k := ⟨_, rfl⟩
    rw [← hEX, ← hAX] at cA
    have HEX : Hid (EX = ansE fs (fun _ s => doneE s ⟨#[120]⟩) SS.1 k ∧ AX = ansZ fs (fun _ s => doneT s ⟨#[120]⟩) SS.1 SS.2 k) := ⟨hEX, hAX⟩
    obtain ⟨EY, hEY⟩ : ∃ EY, EY = ansE fs (fun _ s => doneE s ⟨#[121]⟩) SS.1 k2 := ⟨_, rfl⟩
    obtain ⟨AY, hAY⟩ : ∃ AY, AY = ansZ fs (fun _ s => doneT s ⟨#[121]⟩) SS.1 SS.2 k2 := ⟨_, rfl⟩
    have HEY : Hid (EY = ansE fs (fun _ s => doneE s ⟨#[121]⟩) SS.1 k2 ∧ AY = ansZ fs (fun _ s => doneT s ⟨#[121]⟩) SS.1 SS.2 k2) := ⟨hEY, hAY⟩
    clear hEX hAX hEY hAY
    have r0 := or.1 0 _ rfl; have r1 := or.1 1 _ rfl; have r2 := or.1 2 _ rfl; have r3 := or.1 3 _ rfl; have r4 := or.1 4 _ rfl
    refine wp_seq_k (fun K hK => ?_); have HK : Shut _ := hK; clear hK
    go_wp2_with (go_at_call 24; refine (cA).mono ?_; rintro e w2 ⟨xk, xn, xa, xm, xc, xi, xz, xq, xl, rfl, jx, hb⟩)
    obtain ⟨V2, hV2⟩ : ∃ V2, V2 = w2.alloc (.cells #[.string xk, .string xn, .slice xa xm xc, .int .i64 xi, .slice xz xq xl] 27) := ⟨_, rfl⟩
    have ox : BoxL V2 w2.heap.size [.string xk, .string xn, .slice xa xm xc, .int .i64 xi, .slice xz xq xl] := by rw [hV2]; exact boxL_new w2 _ _ rfl
    have hbb : Below w2.heap.size w2 V2 := by rw [hV2]; exact (Below.refl _ _).alloc (Nat.le_refl _) _
    replace jx := jx.below hbb
    have hb2 := Below.tr hb hbb
    replace hB := Below.tr hB hb2
    obtain ⟨px, hpx⟩ : ∃ p, p = w2.heap.size := ⟨_, rfl⟩
    rw [← hpx] at ox
    have hpxw := hb.size
    rw [← hpx] at hpxw
    rw [← hV2, ← hpx]
    refine HK.out _ _ ?_; clear HK K
    clear hV2 hbb hb hpx
    replace jr := jr.below hb2
    replace or := or.below hb2
    clear r0 r1 r2 r3 r4 cA
    have cB := (doneY_any hky jr hOk now k2 ⟨#[121]⟩ (by decide) hk2).mono fun e w' h => h.y
    rw [← HSS.out, ← HEY.out.1, ← HEY.out.2] at cB
    have r0 := or.1 0 _ rfl; have r1 := or.1 1 _ rfl; have r2 := or.1 2 _ rfl; have r3 := or.1 3 _ rfl; have r4 := or.1 4 _ rfl
    refine wp_seq_k (fun K hK => ?_); have HK : Shut _ := hK; clear hK
    go_wp2_with (go_at_call 24; refine (cB).mono ?_; rintro e w2 ⟨yk, yn, ya, ym, yc, yi, yz, yq, yl, rfl, jy, hb⟩)
    obtain ⟨V2, hV2⟩ : ∃ V2, V2 = w2.alloc (.cells #[.string yk, .string yn, .slice ya ym yc, .int .i64 yi, .slice yz yq yl] 27) := ⟨_, rfl⟩
    have oy : BoxL V2 w2.heap.size [.string yk, .string yn, .slice ya ym yc, .int .i64 yi, .slice yz yq yl] := by rw [hV2]; exact boxL_new w2 _ _ rfl
    have hbb : Below w2.heap.size w2 V2 := by rw [hV2]; exact (Below.refl _ _).alloc (Nat.le_refl _) _
    replace jy := jy.below hbb
    have hb2 := Below.tr hb hbb
    replace hB := Below.tr hB hb2
    obtain ⟨py, hpy⟩ : ∃ p, p = w2.heap.size := ⟨_, rfl⟩
    rw [← hpy] at oy
    have hpyw := hb.size
    rw [← hpy] at hpyw
    rw [← hV2, ← hpy]
    refine HK.out _ _ ?_; clear HK K
    clear hV2 hbb hb hpy
    replace jr := jr.below hb2
    replace or := or.below hb2
    replace jx := jx.below hb2; replace ox := ox.below hb2
    clear r0 r1 r2 r3 r4 cB
    refine wp_seq_k (fun K hK => ?_); have HK : Shut _ := hK; clear hK
    by_cases hx : EX = 0
    · by_cases hy : EY = 0
      · by_cases hab : k = k2
        · have hab' : (k != k2) = false := by simpa using hab
          subst hx hy
          clear hab
          go_wp2
          refine HK.out _ _ ?_; clear HK K
          clear jx jy ox oy
          have r0 := or.1 0 _ rfl; have r1 := or.1 1 _ rfl; have r2 := or.1 2 _ rfl; have r3 := or.1 3 _ rfl; have r4 := or.1 4 _ rfl
          have cC := (cancelY_any hky jr now).mono fun e w' h => h.y
          obtain ⟨EC, hEC⟩ : ∃ EC, EC = cancelE ky nm fs gs is now := ⟨_, rfl⟩
          rw [← hEC, ← HSS.out] at cC
          have HEC : Hid (EC = cancelE ky nm fs gs is now) := hEC
          clear hEC
          refine wp_seq_k (fun K hK => ?_); have HK : Shut _ := hK; clear hK
          go_wp2_with (go_at_call 20; refine (cC).mono ?_; rintro e w2 ⟨ck, cn, ca, cm, cc, ci, cz, cq, cl, rfl, jc, hb⟩)
          obtain ⟨V2, hV2⟩ : ∃ V2, V2 = w2.alloc (.cells #[.string ck, .string cn, .slice ca cm cc, .int .i64 ci, .slice cz cq cl] 27) := ⟨_, rfl⟩
          have oc : BoxL V2 w2.heap.size [.string ck, .string cn, .slice ca cm cc, .int .i64 ci, .slice cz cq cl] := by rw [hV2]; exact boxL_new w2 _ _ rfl
          have hbb : Below w2.heap.size w2 V2 := by rw [hV2]; exact (Below.refl _ _).alloc (Nat.le_refl _) _
          replace jc := jc.below hbb
          have hb2 := Below.tr hb hbb
          replace hB := Below.tr hB hb2
          obtain ⟨pc, hpc⟩ : ∃ p, p = w2.heap.size := ⟨_, rfl⟩
          rw [← hpc] at oc
          have hpcw := hb.size
          rw [← hpc] at hpcw
          rw [← hV2, ← hpc]
          refine HK.out _ _ ?_; clear HK K
          clear hV2 hbb hb hpc
          clear r0 r1 r2 r3 r4 cC jr or
          by_cases hc : EC = 0
          · have hcC : RightS fs (SS.1.map cancelT) 3 ∧ SS.2 = 0 := by
              have := cancel_keeps (now := now) (by rw [← HSS.out]; exact hRS) hOk (by rw [← HEC.out]; exact hc)
              rw [← HSS.out] at this
              exact this
            obtain ⟨hRC, hz0⟩ := hcC
            have hOkC : RunOk ky nm fs (SS.1.map cancelT) 3 := ⟨hOk.key, hOk.dag, hRC⟩
            obtain ⟨f1, f2, f3, f4⟩ := cancelled (ky := ky) (nm := nm) (by rw [hz0] at hRS; exact hRS) hOkC now
            subst hc
            clear hz0
            obtain ⟨CZ, hCZ⟩ : ∃ CZ, CZ = SS.1.map cancelT := ⟨_, rfl⟩
            rw [← hCZ] at jc hRC hOkC f1 f2 f3 f4
            clear hCZ
            have hci : (3 : Int) = ci := by
              obtain ⟨_, _, _, h2, _⟩ := jc.it
              exact (h2 rfl).2.2.1
            subst hci
            have HF : Hid (settleS fs (untF now []) (CZ, 3) = (CZ, 3) ∧ leaseRE CZ now 1073741824 = 192 ∧ (∀ R k, ansE fs R CZ k = 191) ∧ cancelE ky nm fs CZ 3 now = 193) := ⟨f1, f2, f3, f4⟩
            clear f1 f2 f3 f4
            refine wp_seq_k (fun K hK => ?_); have HK : Shut _ := hK; clear hK
            go_wp2
            refine HK.out _ _ ?_; clear HK K
            have c0 := oc.1 0 _ rfl; have c1 := oc.1 1 _ rfl; have c2 := oc.1 2 _ rfl; have c3 := oc.1 3 _ rfl; have c4 := oc.1 4 _ rfl
            have cL := leaseY_any hky jc hOkC now 1073741824 (wfJ_of (by decide))
            rw [HF.out.1] at cL
            dsimp only at cL
            rw [HF.out.2.1] at cL
            refine wp_seq_k (fun K hK => ?_); have HK : Shut _ := hK; clear hK
            go_wp2_with (go_at_call 19; refine (cL).mono ?_; rintro e w2 ⟨lk, ln, la, lm, lc, li, lz, lq, ll, rfl, jl, hb⟩)
            obtain ⟨V2, hV2⟩ : ∃ V2, V2 = w2.alloc (.cells #[.string lk, .string ln, .slice la lm lc, .int .i64 li, .slice lz lq ll] 27) := ⟨_, rfl⟩
            have ol : BoxL V2 w2.heap.size [.string lk, .string ln, .slice la lm lc, .int .i64 li, .slice lz lq ll] := by rw [hV2]; exact boxL_new w2 _ _ rfl
            have hbb : Below w2.heap.size w2 V2 := by rw [hV2]; exact (Below.refl _ _).alloc (Nat.le_refl _) _
            replace jl := jl.below hbb
            have hb2 := Below.tr hb hbb
            replace hB := Below.tr hB hb2
            obtain ⟨pl, hpl⟩ : ∃ p, p = w2.heap.size := ⟨_, rfl⟩
            rw [← hpl] at ol
            have hplw := hb.size
            rw [← hpl] at hplw
            rw [← hV2, ← hpl]
            refine HK.out _ _ ?_; clear HK K
            clear hV2 hbb hb hpl
            replace jc := jc.below hb2; replace oc := oc.below hb2
            clear c0 c1 c2 c3 c4 cL jl ol
            have c0 := oc.1 0 _ rfl; have c1 := oc.1 1 _ rfl; have c2 := oc.1 2 _ rfl; have c3 := oc.1 3 _ rfl; have c4 := oc.1 4 _ rfl
            have cD := (doneY_any hky jc hOkC now k ⟨#[120]⟩ (by decide) hk).mono fun e w' h => h.y
            rw [HF.out.1] at cD
            dsimp only at cD
            rw [HF.out.2.2.1] at cD
            refine wp_seq_k (fun K hK => ?_); have HK : Shut _ := hK; clear hK
            go_wp2_with (go_at_call 24; refine (cD).mono ?_; rintro e w2 ⟨dk, dn, da, dm, dc, di, dz, dq, dl, rfl, jd, hb⟩)
            obtain ⟨V2, hV2⟩ : ∃ V2, V2 = w2.alloc (.cells #[.string dk, .string dn, .slice da dm dc, .int .i64 di, .slice dz dq dl] 27) := ⟨_, rfl⟩
            have od : BoxL V2 w2.heap.size [.string dk, .string dn, .slice da dm dc, .int .i64 di, .slice dz dq dl] := by rw [hV2]; exact boxL_new w2 _ _ rfl
            have hbb : Below w2.heap.size w2 V2 := by rw [hV2]; exact (Below.refl _ _).alloc (Nat.le_refl _) _
            replace jd := jd.below hbb
            have hb2 := Below.tr hb hbb
            replace hB := Below.tr hB hb2
            obtain ⟨pd, hpd⟩ : ∃ p, p = w2.heap.size := ⟨_, rfl⟩
            rw [← hpd] at od
            have hpdw := hb.size
            rw [← hpd] at hpdw
            rw [← hV2, ← hpd]
            refine HK.out _ _ ?_; clear HK K
            clear hV2 hbb hb hpd
            replace jc := jc.below hb2; replace oc := oc.below hb2
            clear c0 c1 c2 c3 c4 cD jd od
            have c0 := oc.1 0 _ rfl; have c1 := oc.1 1 _ rfl; have c2 := oc.1 2 _ rfl; have c3 := oc.1 3 _ rfl; have c4 := oc.1 4 _ rfl
            have cE := (cancelY_any hky jc now).mono fun e w' h => h.y
            rw [HF.out.1, HF.out.2.2.2] at cE
            refine wp_seq_k (fun K hK => ?_); have HK : Shut _ := hK; clear hK
            go_wp2_with (go_at_call 20; refine (cE).mono ?_; rintro e w2 ⟨ek, en, ea, em, ec, ei, ez, eq, el, rfl, je, hb⟩)
            obtain ⟨V2, hV2⟩ : ∃ V2, V2 = w2.alloc (.cells #[.string ek, .string en, .slice ea em ec, .int .i64 ei, .slice ez eq el] 27) := ⟨_, rfl⟩
            have oe : BoxL V2 w2.heap.size [.string ek, .string en, .slice ea em ec, .int .i64 ei, .slice ez eq el] := by rw [hV2]; exact boxL_new w2 _ _ rfl
            have hbb : Below w2.heap.size w2 V2 := by rw [hV2]; exact (Below.refl _ _).alloc (Nat.le_refl _) _
            replace je := je.below hbb
            have hb2 := Below.tr hb hbb
            replace hB := Below.tr hB hb2
            obtain ⟨pe, hpe⟩ : ∃ p, p = w2.heap.size := ⟨_, rfl⟩
            rw [← hpe] at oe
            have hpew := hb.size
            rw [← hpe] at hpew
            rw [← hV2, ← hpe]
            refine HK.out _ _ ?_; clear HK K
            clear hV2 hbb hb hpe
            replace jc := jc.below hb2; replace oc := oc.below hb2
            clear c0 c1 c2 c3 c4 cE je oe
            have c0 := oc.1 0 _ rfl; have c1 := oc.1 1 _ rfl; have c2 := oc.1 2 _ rfl; have c3 := oc.1 3 _ rfl; have c4 := oc.1 4 _ rfl
            go_wp2_with (go_at_call 16; refine (alive19_any _).mono ?_; rintro e w9 ⟨rfl, hb⟩; replace oc := oc.below hb; replace hB := Below.tr hB hb; clear c0 c1 c2 c3 c4; have c0 := oc.1 0 _ rfl; have c1 := oc.1 1 _ rfl; have c2 := oc.1 2 _ rfl; have c3 := oc.1 3 _ rfl; have c4 := oc.1 4 _ rfl)
            go_ret
            exact ⟨rfl, hB⟩
          · have h93 : EC = 193 := by
              have := HEC.out
              unfold cancelE at this
              rw [if_pos (runB_iff.2 hOk)] at this
              split at this
              · exact absurd this hc
              · exact this
            subst h93
            clear hc
            go_wp2_with (go_at_call 16; refine (alive19_any _).mono ?_; rintro e w9 ⟨rfl, hb⟩; replace hB := Below.tr hB hb)
            go_ret
            exact ⟨rfl, hB⟩
        · have hab' : (k != k2) = true := by simpa using hab
          obtain ⟨t1, t2, t3, t4, t5⟩ := two_done (fun i t h => (tries_two hOk.dag i t h).1) hRS hoS (by rw [← HEX.out.1]; exact hx) (by rw [← HEY.out.1]; exact hy) hab AX AY HEX.out.2 HEY.out.2
          have hOkX : RunOk ky nm fs AX.1 AX.2 := ⟨hOk.key, hOk.dag, by rw [HEX.out.2]; exact (ans_keeps (fun i t h => (tries_two hOk.dag i t h).1) (keeps_done _) hRS (by rw [← HEX.out.1]; exact hx)).1⟩
          have hOkY : RunOk ky nm fs AY.1 AY.2 := ⟨hOk.key, hOk.dag, by rw [HEY.out.2]; exact (ans_keeps (fun i t h => (tries_two hOk.dag i t h).1) (keeps_done _) hRS (by rw [← HEY.out.1]; exact hy)).1⟩
          subst hx hy
          clear hab
          have x0 := ox.1 0 _ rfl; have x1 := ox.1 1 _ rfl; have x2 := ox.1 2 _ rfl; have x3 := ox.1 3 _ rfl; have x4 := ox.1 4 _ rfl; have y0 := oy.1 0 _ rfl; have y1 := oy.1 1 _ rfl; have y2 := oy.1 2 _ rfl; have y3 := oy.1 3 _ rfl; have y4 := oy.1 4 _ rfl
          have cU := (doneY_any hky jx hOkX now k2 ⟨#[121]⟩ (by decide) hk2).mono fun e w' h => h.y
          rw [show (AX.1, AX.2) = AX from rfl, t1, t3] at cU
          have HV : Hid (settleS fs (untF now []) AY = AY ∧ ansE fs (fun _ s => doneE s ⟨#[120]⟩) AY.1 k = 0 ∧ ansZ fs (fun _ s => doneT s ⟨#[121]⟩) AX.1 AX.2 k2 = ansZ fs (fun _ s => doneT s ⟨#[120]⟩) AY.1 AY.2 k) := ⟨t2, t4, t5⟩
          clear t1 t2 t3 t4 t5
          clear x0 x1 x2 x3 x4 y0 y1 y2 y3 y4
          refine wp_seq_k (fun K hK => ?_); have HK : Shut _ := hK; clear hK
          go_wp2
          refine HK.out _ _ ?_; clear HK K
          refine wp_cond (t := true) rfl ?_
          rw [if_pos rfl]
          have x0 := ox.1 0 _ rfl; have x1 := ox.1 1 _ rfl; have x2 := ox.1 2 _ rfl; have x3 := ox.1 3 _ rfl; have x4 := ox.1 4 _ rfl
          refine wp_seq_k (fun K hK => ?_); have HK : Shut _ := hK; clear hK
          go_wp2_with (go_at_call 24; refine (cU).mono ?_; rintro e w2 ⟨uk, un, ua, um, uc, ui, uz, uq, ul, rfl, ju, hb⟩)
          obtain ⟨V2, hV2⟩ : ∃ V2, V2 = w2.alloc (.cells #[.string uk, .string un, .slice ua um uc, .int .i64 ui, .slice uz uq ul] 27) := ⟨_, rfl⟩
          have ou : BoxL V2 w2.heap.size [.string uk, .string un, .slice ua um uc, .int .i64 ui, .slice uz uq ul] := by rw [hV2]; exact boxL_new w2 _ _ rfl
          have hbb : Below w2.heap.size w2 V2 := by rw [hV2]; exact (Below.refl _ _).alloc (Nat.le_refl _) _
          replace ju := ju.below hbb
          have hb2 := Below.tr hb hbb
          replace hB := Below.tr hB hb2
          obtain ⟨pu, hpu⟩ : ∃ p, p = w2.heap.size := ⟨_, rfl⟩
          rw [← hpu] at ou
          have hpuw := hb.size
          rw [← hpu] at hpuw
          rw [← hV2, ← hpu]
          refine HK.out _ _ ?_; clear HK K
          clear hV2 hbb hb hpu
          replace jr := jr.below hb2
          replace or := or.below hb2
          replace jx := jx.below hb2; replace ox := ox.below hb2; replace jy := jy.below hb2; replace oy := oy.below hb2
          clear x0 x1 x2 x3 x4 cU
          have cV := (doneY_any hky jy hOkY now k ⟨#[120]⟩ (by decide) hk).mono fun e w' h => h.y
          rw [show (AY.1, AY.2) = AY from rfl, HV.out.1, HV.out.2.1] at cV
          have y0 := oy.1 0 _ rfl; have y1 := oy.1 1 _ rfl; have y2 := oy.1 2 _ rfl; have y3 := oy.1 3 _ rfl; have y4 := oy.1 4 _ rfl
          refine wp_seq_k (fun K hK => ?_); have HK : Shut _ := hK; clear hK
          go_wp2_with (go_at_call 24; refine (cV).mono ?_; rintro e w2 ⟨vk, vn, va, vm, vc, vi, vz, vq, vl, rfl, jv, hb⟩)
          obtain ⟨V2, hV2⟩ : ∃ V2, V2 = w2.alloc (.cells #[.string vk, .string vn, .slice va vm vc, .int .i64 vi, .slice vz vq vl] 27) := ⟨_, rfl⟩
          have ov : BoxL V2 w2.heap.size [.string vk, .string vn, .slice va vm vc, .int .i64 vi, .slice vz vq vl] := by rw [hV2]; exact boxL_new w2 _ _ rfl
          have hbb : Below w2.heap.size w2 V2 := by rw [hV2]; exact (Below.refl _ _).alloc (Nat.le_refl _) _
          replace jv := jv.below hbb
          have hb2 := Below.tr hb hbb
          replace hB := Below.tr hB hb2
          obtain ⟨pv, hpv⟩ : ∃ p, p = w2.heap.size := ⟨_, rfl⟩
          rw [← hpv] at ov
          have hpvw := hb.size
          rw [← hpv] at hpvw
          rw [← hV2, ← hpv]
          refine HK.out _ _ ?_; clear HK K
          clear hV2 hbb hb hpv
          replace jr := jr.below hb2
          replace or := or.below hb2
          replace jx := jx.below hb2; replace ox := ox.below hb2; replace jy := jy.below hb2; replace oy := oy.below hb2; replace ju := ju.below hb2; replace ou := ou.below hb2
          clear y0 y1 y2 y3 y4 cV
          rw [HV.out.2.2] at ju
          have u0 := ou.1 0 _ rfl; have u1 := ou.1 1 _ rfl; have u2 := ou.1 2 _ rfl; have u3 := ou.1 3 _ rfl; have u4 := ou.1 4 _ rfl; have v0 := ov.1 0 _ rfl; have v1 := ov.1 1 _ rfl; have v2 := ov.1 2 _ rfl; have v3 := ov.1 3 _ rfl; have v4 := ov.1 4 _ rfl
          go_wp2_with (go_at_call 12; refine (likeS_any ju jv).mono ?_; rintro e w3 ⟨rfl, hb2⟩; replace jr := jr.below hb2; replace or := or.below hb2; replace hB := Below.tr hB hb2)
          refine HK.out _ _ ?_; clear HK K
          clear u0 u1 u2 u3 u4 v0 v1 v2 v3 v4 jx jy ju jv ox oy ou ov
          have r0 := or.1 0 _ rfl; have r1 := or.1 1 _ rfl; have r2 := or.1 2 _ rfl; have r3 := or.1 3 _ rfl; have r4 := or.1 4 _ rfl
          have cC := (cancelY_any hky jr now).mono fun e w' h => h.y
          obtain ⟨EC, hEC⟩ : ∃ EC, EC = cancelE ky nm fs gs is now := ⟨_, rfl⟩
          rw [← hEC, ← HSS.out] at cC
          have HEC : Hid (EC = cancelE ky nm fs gs is now) := hEC
          clear hEC
          refine wp_seq_k (fun K hK => ?_); have HK : Shut _ := hK; clear hK
          go_wp2_with (go_at_call 20; refine (cC).mono ?_; rintro e w2 ⟨ck, cn, ca, cm, cc, ci, cz, cq, cl, rfl, jc, hb⟩)
          obtain ⟨V2, hV2⟩ : ∃ V2, V2 = w2.alloc (.cells #[.string ck, .string cn, .slice ca cm cc, .int .i64 ci, .slice cz cq cl] 27) := ⟨_, rfl⟩
          have oc : BoxL V2 w2.heap.size [.string ck, .string cn, .slice ca cm cc, .int .i64 ci, .slice cz cq cl] := by rw [hV2]; exact boxL_new w2 _ _ rfl
          have hbb : Below w2.heap.size w2 V2 := by rw [hV2]; exact (Below.refl _ _).alloc (Nat.le_refl _) _
          replace jc := jc.below hbb
          have hb2 := Below.tr hb hbb
          replace hB := Below.tr hB hb2
          obtain ⟨pc, hpc⟩ : ∃ p, p = w2.heap.size := ⟨_, rfl⟩
          rw [← hpc] at oc
          have hpcw := hb.size
          rw [← hpc] at hpcw
          rw [← hV2, ← hpc]
          refine HK.out _ _ ?_; clear HK K
          clear hV2 hbb hb hpc
          clear r0 r1 r2 r3 r4 cC jr or
          by_cases hc : EC = 0
          · have hcC : RightS fs (SS.1.map cancelT) 3 ∧ SS.2 = 0 := by
              have := cancel_keeps (now := now) (by rw [← HSS.out]; exact hRS) hOk (by rw [← HEC.out]; exact hc)
              rw [← HSS.out] at this
              exact this
            obtain ⟨hRC, hz0⟩ := hcC
            have hOkC : RunOk ky nm fs (SS.1.map cancelT) 3 := ⟨hOk.key, hOk.dag, hRC⟩
            obtain ⟨f1, f2, f3, f4⟩ := cancelled (ky := ky) (nm := nm) (by rw [hz0] at hRS; exact hRS) hOkC now
            subst hc
            clear hz0
            obtain ⟨CZ, hCZ⟩ : ∃ CZ, CZ = SS.1.map cancelT := ⟨_, rfl⟩
            rw [← hCZ] at jc hRC hOkC f1 f2 f3 f4
            clear hCZ
            have hci : (3 : Int) = ci := by
              obtain ⟨_, _, _, h2, _⟩ := jc.it
              exact (h2 rfl).2.2.1
            subst hci
            have HF : Hid (settleS fs (untF now []) (CZ, 3) = (CZ, 3) ∧ leaseRE CZ now 1073741824 = 192 ∧ (∀ R k, ansE fs R CZ k = 191) ∧ cancelE ky nm fs CZ 3 now = 193) := ⟨f1, f2, f3, f4⟩
            clear f1 f2 f3 f4
            refine wp_seq_k (fun K hK => ?_); have HK : Shut _ := hK; clear hK
            go_wp2
            refine HK.out _ _ ?_; clear HK K
            have c0 := oc.1 0 _ rfl; have c1 := oc.1 1 _ rfl; have c2 := oc.1 2 _ rfl; have c3 := oc.1 3 _ rfl; have c4 := oc.1 4 _ rfl
            have cL := leaseY_any hky jc hOkC now 1073741824 (wfJ_of (by decide))
            rw [HF.out.1] at cL
            dsimp only at cL
            rw [HF.out.2.1] at cL
            refine wp_seq_k (fun K hK => ?_); have HK : Shut _ := hK; clear hK
            go_wp2_with (go_at_call 19; refine (cL).mono ?_; rintro e w2 ⟨lk, ln, la, lm, lc, li, lz, lq, ll, rfl, jl, hb⟩)
            obtain ⟨V2, hV2⟩ : ∃ V2, V2 = w2.alloc (.cells #[.string lk, .string ln, .slice la lm lc, .int .i64 li, .slice lz lq ll] 27) := ⟨_, rfl⟩
            have ol : BoxL V2 w2.heap.size [.string lk, .string ln, .slice la lm lc, .int .i64 li, .slice lz lq ll] := by rw [hV2]; exact boxL_new w2 _ _ rfl
            have hbb : Below w2.heap.size w2 V2 := by rw [hV2]; exact (Below.refl _ _).alloc (Nat.le_refl _) _
            replace jl := jl.below hbb
            have hb2 := Below.tr hb hbb
            replace hB := Below.tr hB hb2
            obtain ⟨pl, hpl⟩ : ∃ p, p = w2.heap.size := ⟨_, rfl⟩
            rw [← hpl] at ol
            have hplw := hb.size
            rw [← hpl] at hplw
            rw [← hV2, ← hpl]
            refine HK.out _ _ ?_; clear HK K
            clear hV2 hbb hb hpl
            replace jc := jc.below hb2; replace oc := oc.below hb2
            clear c0 c1 c2 c3 c4 cL jl ol
            have c0 := oc.1 0 _ rfl; have c1 := oc.1 1 _ rfl; have c2 := oc.1 2 _ rfl; have c3 := oc.1 3 _ rfl; have c4 := oc.1 4 _ rfl
            have cD := (doneY_any hky jc hOkC now k ⟨#[120]⟩ (by decide) hk).mono fun e w' h => h.y
            rw [HF.out.1] at cD
            dsimp only at cD
            rw [HF.out.2.2.1] at cD
            refine wp_seq_k (fun K hK => ?_); have HK : Shut _ := hK; clear hK
            go_wp2_with (go_at_call 24; refine (cD).mono ?_; rintro e w2 ⟨dk, dn, da, dm, dc, di, dz, dq, dl, rfl, jd, hb⟩)
            obtain ⟨V2, hV2⟩ : ∃ V2, V2 = w2.alloc (.cells #[.string dk, .string dn, .slice da dm dc, .int .i64 di, .slice dz dq dl] 27) := ⟨_, rfl⟩
            have od : BoxL V2 w2.heap.size [.string dk, .string dn, .slice da dm dc, .int .i64 di, .slice dz dq dl] := by rw [hV2]; exact boxL_new w2 _ _ rfl
            have hbb : Below w2.heap.size w2 V2 := by rw [hV2]; exact (Below.refl _ _).alloc (Nat.le_refl _) _
            replace jd := jd.below hbb
            have hb2 := Below.tr hb hbb
            replace hB := Below.tr hB hb2
            obtain ⟨pd, hpd⟩ : ∃ p, p = w2.heap.size := ⟨_, rfl⟩
            rw [← hpd] at od
            have hpdw := hb.size
            rw [← hpd] at hpdw
            rw [← hV2, ← hpd]
            refine HK.out _ _ ?_; clear HK K
            clear hV2 hbb hb hpd
            replace jc := jc.below hb2; replace oc := oc.below hb2
            clear c0 c1 c2 c3 c4 cD jd od
            have c0 := oc.1 0 _ rfl; have c1 := oc.1 1 _ rfl; have c2 := oc.1 2 _ rfl; have c3 := oc.1 3 _ rfl; have c4 := oc.1 4 _ rfl
            have cE := (cancelY_any hky jc now).mono fun e w' h => h.y
            rw [HF.out.1, HF.out.2.2.2] at cE
            refine wp_seq_k (fun K hK => ?_); have HK : Shut _ := hK; clear hK
            go_wp2_with (go_at_call 20; refine (cE).mono ?_; rintro e w2 ⟨ek, en, ea, em, ec, ei, ez, eq, el, rfl, je, hb⟩)
            obtain ⟨V2, hV2⟩ : ∃ V2, V2 = w2.alloc (.cells #[.string ek, .string en, .slice ea em ec, .int .i64 ei, .slice ez eq el] 27) := ⟨_, rfl⟩
            have oe : BoxL V2 w2.heap.size [.string ek, .string en, .slice ea em ec, .int .i64 ei, .slice ez eq el] := by rw [hV2]; exact boxL_new w2 _ _ rfl
            have hbb : Below w2.heap.size w2 V2 := by rw [hV2]; exact (Below.refl _ _).alloc (Nat.le_refl _) _
            replace je := je.below hbb
            have hb2 := Below.tr hb hbb
            replace hB := Below.tr hB hb2
            obtain ⟨pe, hpe⟩ : ∃ p, p = w2.heap.size := ⟨_, rfl⟩
            rw [← hpe] at oe
            have hpew := hb.size
            rw [← hpe] at hpew
            rw [← hV2, ← hpe]
            refine HK.out _ _ ?_; clear HK K
            clear hV2 hbb hb hpe
            replace jc := jc.below hb2; replace oc := oc.below hb2
            clear c0 c1 c2 c3 c4 cE je oe
            have c0 := oc.1 0 _ rfl; have c1 := oc.1 1 _ rfl; have c2 := oc.1 2 _ rfl; have c3 := oc.1 3 _ rfl; have c4 := oc.1 4 _ rfl
            go_wp2_with (go_at_call 16; refine (alive19_any _).mono ?_; rintro e w9 ⟨rfl, hb⟩; replace oc := oc.below hb; replace hB := Below.tr hB hb; clear c0 c1 c2 c3 c4; have c0 := oc.1 0 _ rfl; have c1 := oc.1 1 _ rfl; have c2 := oc.1 2 _ rfl; have c3 := oc.1 3 _ rfl; have c4 := oc.1 4 _ rfl)
            go_ret
            exact ⟨rfl, hB⟩
          · have h93 : EC = 193 := by
              have := HEC.out
              unfold cancelE at this
              rw [if_pos (runB_iff.2 hOk)] at this
              split at this
              · exact absurd this hc
              · exact this
            subst h93
            clear hc
            go_wp2_with (go_at_call 16; refine (alive19_any _).mono ?_; rintro e w9 ⟨rfl, hb⟩; replace hB := Below.tr hB hb)
            go_ret
            exact ⟨rfl, hB⟩
      · have hne : (EY == 0) = false := by simpa using hy
        subst hx
        clear hy
        go_wp2
        refine HK.out _ _ ?_; clear HK K
        clear jx jy ox oy
        have r0 := or.1 0 _ rfl; have r1 := or.1 1 _ rfl; have r2 := or.1 2 _ rfl; have r3 := or.1 3 _ rfl; have r4 := or.1 4 _ rfl
        have cC := (cancelY_any hky jr now).mono fun e w' h => h.y
        obtain ⟨EC, hEC⟩ : ∃ EC, EC = cancelE ky nm fs gs is now := ⟨_, rfl⟩
        rw [← hEC, ← HSS.out] at cC
        have HEC : Hid (EC = cancelE ky nm fs gs is now) := hEC
        clear hEC
        refine wp_seq_k (fun K hK => ?_); have HK : Shut _ := hK; clear hK
        go_wp2_with (go_at_call 20; refine (cC).mono ?_; rintro e w2 ⟨ck, cn, ca, cm, cc, ci, cz, cq, cl, rfl, jc, hb⟩)
        obtain ⟨V2, hV2⟩ : ∃ V2, V2 = w2.alloc (.cells #[.string ck, .string cn, .slice ca cm cc, .int .i64 ci, .slice cz cq cl] 27) := ⟨_, rfl⟩
        have oc : BoxL V2 w2.heap.size [.string ck, .string cn, .slice ca cm cc, .int .i64 ci, .slice cz cq cl] := by rw [hV2]; exact boxL_new w2 _ _ rfl
        have hbb : Below w2.heap.size w2 V2 := by rw [hV2]; exact (Below.refl _ _).alloc (Nat.le_refl _) _
        replace jc := jc.below hbb
        have hb2 := Below.tr hb hbb
        replace hB := Below.tr hB hb2
        obtain ⟨pc, hpc⟩ : ∃ p, p = w2.heap.size := ⟨_, rfl⟩
        rw [← hpc] at oc
        have hpcw := hb.size
        rw [← hpc] at hpcw
        rw [← hV2, ← hpc]
        refine HK.out _ _ ?_; clear HK K
        clear hV2 hbb hb hpc
        clear r0 r1 r2 r3 r4 cC jr or
        by_cases hc : EC = 0
        · have hcC : RightS fs (SS.1.map cancelT) 3 ∧ SS.2 = 0 := by
            have := cancel_keeps (now := now) (by rw [← HSS.out]; exact hRS) hOk (by rw [← HEC.out]; exact hc)
            rw [← HSS.out] at this
            exact this
          obtain ⟨hRC, hz0⟩ := hcC
          have hOkC : RunOk ky nm fs (SS.1.map cancelT) 3 := ⟨hOk.key, hOk.dag, hRC⟩
          obtain ⟨f1, f2, f3, f4⟩ := cancelled (ky := ky) (nm := nm) (by rw [hz0] at hRS; exact hRS) hOkC now
          subst hc
          clear hz0
          obtain ⟨CZ, hCZ⟩ : ∃ CZ, CZ = SS.1.map cancelT := ⟨_, rfl⟩
          rw [← hCZ] at jc hRC hOkC f1 f2 f3 f4
          clear hCZ
          have hci : (3 : Int) = ci := by
            obtain ⟨_, _, _, h2, _⟩ := jc.it
            exact (h2 rfl).2.2.1
          subst hci
          have HF : Hid (settleS fs (untF now []) (CZ, 3) = (CZ, 3) ∧ leaseRE CZ now 1073741824 = 192 ∧ (∀ R k, ansE fs R CZ k = 191) ∧ cancelE ky nm fs CZ 3 now = 193) := ⟨f1, f2, f3, f4⟩
          clear f1 f2 f3 f4
          refine wp_seq_k (fun K hK => ?_); have HK : Shut _ := hK; clear hK
          go_wp2
          refine HK.out _ _ ?_; clear HK K
          have c0 := oc.1 0 _ rfl; have c1 := oc.1 1 _ rfl; have c2 := oc.1 2 _ rfl; have c3 := oc.1 3 _ rfl; have c4 := oc.1 4 _ rfl
          have cL := leaseY_any hky jc hOkC now 1073741824 (wfJ_of (by decide))
          rw [HF.out.1] at cL
          dsimp only at cL
          rw [HF.out.2.1] at cL
          refine wp_seq_k (fun K hK => ?_); have HK : Shut _ := hK; clear hK
          go_wp2_with (go_at_call 19; refine (cL).mono ?_; rintro e w2 ⟨lk, ln, la, lm, lc, li, lz, lq, ll, rfl, jl, hb⟩)
          obtain ⟨V2, hV2⟩ : ∃ V2, V2 = w2.alloc (.cells #[.string lk, .string ln, .slice la lm lc, .int .i64 li, .slice lz lq ll] 27) := ⟨_, rfl⟩
          have ol : BoxL V2 w2.heap.size [.string lk, .string ln, .slice la lm lc, .int .i64 li, .slice lz lq ll] := by rw [hV2]; exact boxL_new w2 _ _ rfl
          have hbb : Below w2.heap.size w2 V2 := by rw [hV2]; exact (Below.refl _ _).alloc (Nat.le_refl _) _
          replace jl := jl.below hbb
          have hb2 := Below.tr hb hbb
          replace hB := Below.tr hB hb2
          obtain ⟨pl, hpl⟩ : ∃ p, p = w2.heap.size := ⟨_, rfl⟩
          rw [← hpl] at ol
          have hplw := hb.size
          rw [← hpl] at hplw
          rw [← hV2, ← hpl]
          refine HK.out _ _ ?_; clear HK K
          clear hV2 hbb hb hpl
          replace jc := jc.below hb2; replace oc := oc.below hb2
          clear c0 c1 c2 c3 c4 cL jl ol
          have c0 := oc.1 0 _ rfl; have c1 := oc.1 1 _ rfl; have c2 := oc.1 2 _ rfl; have c3 := oc.1 3 _ rfl; have c4 := oc.1 4 _ rfl
          have cD := (doneY_any hky jc hOkC now k ⟨#[120]⟩ (by decide) hk).mono fun e w' h => h.y
          rw [HF.out.1] at cD
          dsimp only at cD
          rw [HF.out.2.2.1] at cD
          refine wp_seq_k (fun K hK => ?_); have HK : Shut _ := hK; clear hK
          go_wp2_with (go_at_call 24; refine (cD).mono ?_; rintro e w2 ⟨dk, dn, da, dm, dc, di, dz, dq, dl, rfl, jd, hb⟩)
          obtain ⟨V2, hV2⟩ : ∃ V2, V2 = w2.alloc (.cells #[.string dk, .string dn, .slice da dm dc, .int .i64 di, .slice dz dq dl] 27) := ⟨_, rfl⟩
          have od : BoxL V2 w2.heap.size [.string dk, .string dn, .slice da dm dc, .int .i64 di, .slice dz dq dl] := by rw [hV2]; exact boxL_new w2 _ _ rfl
          have hbb : Below w2.heap.size w2 V2 := by rw [hV2]; exact (Below.refl _ _).alloc (Nat.le_refl _) _
          replace jd := jd.below hbb
          have hb2 := Below.tr hb hbb
          replace hB := Below.tr hB hb2
          obtain ⟨pd, hpd⟩ : ∃ p, p = w2.heap.size := ⟨_, rfl⟩
          rw [← hpd] at od
          have hpdw := hb.size
          rw [← hpd] at hpdw
          rw [← hV2, ← hpd]
          refine HK.out _ _ ?_; clear HK K
          clear hV2 hbb hb hpd
          replace jc := jc.below hb2; replace oc := oc.below hb2
          clear c0 c1 c2 c3 c4 cD jd od
          have c0 := oc.1 0 _ rfl; have c1 := oc.1 1 _ rfl; have c2 := oc.1 2 _ rfl; have c3 := oc.1 3 _ rfl; have c4 := oc.1 4 _ rfl
          have cE := (cancelY_any hky jc now).mono fun e w' h => h.y
          rw [HF.out.1, HF.out.2.2.2] at cE
          refine wp_seq_k (fun K hK => ?_); have HK : Shut _ := hK; clear hK
          go_wp2_with (go_at_call 20; refine (cE).mono ?_; rintro e w2 ⟨ek, en, ea, em, ec, ei, ez, eq, el, rfl, je, hb⟩)
          obtain ⟨V2, hV2⟩ : ∃ V2, V2 = w2.alloc (.cells #[.string ek, .string en, .slice ea em ec, .int .i64 ei, .slice ez eq el] 27) := ⟨_, rfl⟩
          have oe : BoxL V2 w2.heap.size [.string ek, .string en, .slice ea em ec, .int .i64 ei, .slice ez eq el] := by rw [hV2]; exact boxL_new w2 _ _ rfl
          have hbb : Below w2.heap.size w2 V2 := by rw [hV2]; exact (Below.refl _ _).alloc (Nat.le_refl _) _
          replace je := je.below hbb
          have hb2 := Below.tr hb hbb
          replace hB := Below.tr hB hb2
          obtain ⟨pe, hpe⟩ : ∃ p, p = w2.heap.size := ⟨_, rfl⟩
          rw [← hpe] at oe
          have hpew := hb.size
          rw [← hpe] at hpew
          rw [← hV2, ← hpe]
          refine HK.out _ _ ?_; clear HK K
          clear hV2 hbb hb hpe
          replace jc := jc.below hb2; replace oc := oc.below hb2
          clear c0 c1 c2 c3 c4 cE je oe
          have c0 := oc.1 0 _ rfl; have c1 := oc.1 1 _ rfl; have c2 := oc.1 2 _ rfl; have c3 := oc.1 3 _ rfl; have c4 := oc.1 4 _ rfl
          go_wp2_with (go_at_call 16; refine (alive19_any _).mono ?_; rintro e w9 ⟨rfl, hb⟩; replace oc := oc.below hb; replace hB := Below.tr hB hb; clear c0 c1 c2 c3 c4; have c0 := oc.1 0 _ rfl; have c1 := oc.1 1 _ rfl; have c2 := oc.1 2 _ rfl; have c3 := oc.1 3 _ rfl; have c4 := oc.1 4 _ rfl)
          go_ret
          exact ⟨rfl, hB⟩
        · have h93 : EC = 193 := by
            have := HEC.out
            unfold cancelE at this
            rw [if_pos (runB_iff.2 hOk)] at this
            split at this
            · exact absurd this hc
            · exact this
          subst h93
          clear hc
          go_wp2_with (go_at_call 16; refine (alive19_any _).mono ?_; rintro e w9 ⟨rfl, hb⟩; replace hB := Below.tr hB hb)
          go_ret
          exact ⟨rfl, hB⟩
    · have hne : (EX == 0) = false := by simpa using hx
      clear hx
      go_wp2
      refine HK.out _ _ ?_; clear HK K
      clear jx jy ox oy
      have r0 := or.1 0 _ rfl; have r1 := or.1 1 _ rfl; have r2 := or.1 2 _ rfl; have r3 := or.1 3 _ rfl; have r4 := or.1 4 _ rfl
      have cC := (cancelY_any hky jr now).mono fun e w' h => h.y
      obtain ⟨EC, hEC⟩ : ∃ EC, EC = cancelE ky nm fs gs is now := ⟨_, rfl⟩
      rw [← hEC, ← HSS.out] at cC
      have HEC : Hid (EC = cancelE ky nm fs gs is now) := hEC
      clear hEC
      refine wp_seq_k (fun K hK => ?_); have HK : Shut _ := hK; clear hK
      go_wp2_with (go_at_call 20; refine (cC).mono ?_; rintro e w2 ⟨ck, cn, ca, cm, cc, ci, cz, cq, cl, rfl, jc, hb⟩)
      obtain ⟨V2, hV2⟩ : ∃ V2, V2 = w2.alloc (.cells #[.string ck, .string cn, .slice ca cm cc, .int .i64 ci, .slice cz cq cl] 27) := ⟨_, rfl⟩
      have oc : BoxL V2 w2.heap.size [.string ck, .string cn, .slice ca cm cc, .int .i64 ci, .slice cz cq cl] := by rw [hV2]; exact boxL_new w2 _ _ rfl
      have hbb : Below w2.heap.size w2 V2 := by rw [hV2]; exact (Below.refl _ _).alloc (Nat.le_refl _) _
      replace jc := jc.below hbb
      have hb2 := Below.tr hb hbb
      replace hB := Below.tr hB hb2
      obtain ⟨pc, hpc⟩ : ∃ p, p = w2.heap.size := ⟨_, rfl⟩
      rw [← hpc] at oc
      have hpcw := hb.size
      rw [← hpc] at hpcw
      rw [← hV2, ← hpc]
      refine HK.out _ _ ?_; clear HK K
      clear hV2 hbb hb hpc
      clear r0 r1 r2 r3 r4 cC jr or
      by_cases hc : EC = 0
      · have hcC : RightS fs (SS.1.map cancelT) 3 ∧ SS.2 = 0 := by
          have := cancel_keeps (now := now) (by rw [← HSS.out]; exact hRS) hOk (by rw [← HEC.out]; exact hc)
          rw [← HSS.out] at this
          exact this
        obtain ⟨hRC, hz0⟩ := hcC
        have hOkC : RunOk ky nm fs (SS.1.map cancelT) 3 := ⟨hOk.key, hOk.dag, hRC⟩
        obtain ⟨f1, f2, f3, f4⟩ := cancelled (ky := ky) (nm := nm) (by rw [hz0] at hRS; exact hRS) hOkC now
        subst hc
        clear hz0
        obtain ⟨CZ, hCZ⟩ : ∃ CZ, CZ = SS.1.map cancelT := ⟨_, rfl⟩
        rw [← hCZ] at jc hRC hOkC f1 f2 f3 f4
        clear hCZ
        have hci : (3 : Int) = ci := by
          obtain ⟨_, _, _, h2, _⟩ := jc.it
          exact (h2 rfl).2.2.1
        subst hci
        have HF : Hid (settleS fs (untF now []) (CZ, 3) = (CZ, 3) ∧ leaseRE CZ now 1073741824 = 192 ∧ (∀ R k, ansE fs R CZ k = 191) ∧ cancelE ky nm fs CZ 3 now = 193) := ⟨f1, f2, f3, f4⟩
        clear f1 f2 f3 f4
        refine wp_seq_k (fun K hK => ?_); have HK : Shut _ := hK; clear hK
        go_wp2
        refine HK.out _ _ ?_; clear HK K
        have c0 := oc.1 0 _ rfl; have c1 := oc.1 1 _ rfl; have c2 := oc.1 2 _ rfl; have c3 := oc.1 3 _ rfl; have c4 := oc.1 4 _ rfl
        have cL := leaseY_any hky jc hOkC now 1073741824 (wfJ_of (by decide))
        rw [HF.out.1] at cL
        dsimp only at cL
        rw [HF.out.2.1] at cL
        refine wp_seq_k (fun K hK => ?_); have HK : Shut _ := hK; clear hK
        go_wp2_with (go_at_call 19; refine (cL).mono ?_; rintro e w2 ⟨lk, ln, la, lm, lc, li, lz, lq, ll, rfl, jl, hb⟩)
        obtain ⟨V2, hV2⟩ : ∃ V2, V2 = w2.alloc (.cells #[.string lk, .string ln, .slice la lm lc, .int .i64 li, .slice lz lq ll] 27) := ⟨_, rfl⟩
        have ol : BoxL V2 w2.heap.size [.string lk, .string ln, .slice la lm lc, .int .i64 li, .slice lz lq ll] := by rw [hV2]; exact boxL_new w2 _ _ rfl
        have hbb : Below w2.heap.size w2 V2 := by rw [hV2]; exact (Below.refl _ _).alloc (Nat.le_refl _) _
        replace jl := jl.below hbb
        have hb2 := Below.tr hb hbb
        replace hB := Below.tr hB hb2
        obtain ⟨pl, hpl⟩ : ∃ p, p = w2.heap.size := ⟨_, rfl⟩
        rw [← hpl] at ol
        have hplw := hb.size
        rw [← hpl] at hplw
        rw [← hV2, ← hpl]
        refine HK.out _ _ ?_; clear HK K
        clear hV2 hbb hb hpl
        replace jc := jc.below hb2; replace oc := oc.below hb2
        clear c0 c1 c2 c3 c4 cL jl ol
        have c0 := oc.1 0 _ rfl; have c1 := oc.1 1 _ rfl; have c2 := oc.1 2 _ rfl; have c3 := oc.1 3 _ rfl; have c4 := oc.1 4 _ rfl
        have cD := (doneY_any hky jc hOkC now k ⟨#[120]⟩ (by decide) hk).mono fun e w' h => h.y
        rw [HF.out.1] at cD
        dsimp only at cD
        rw [HF.out.2.2.1] at cD
        refine wp_seq_k (fun K hK => ?_); have HK : Shut _ := hK; clear hK
        go_wp2_with (go_at_call 24; refine (cD).mono ?_; rintro e w2 ⟨dk, dn, da, dm, dc, di, dz, dq, dl, rfl, jd, hb⟩)
        obtain ⟨V2, hV2⟩ : ∃ V2, V2 = w2.alloc (.cells #[.string dk, .string dn, .slice da dm dc, .int .i64 di, .slice dz dq dl] 27) := ⟨_, rfl⟩
        have od : BoxL V2 w2.heap.size [.string dk, .string dn, .slice da dm dc, .int .i64 di, .slice dz dq dl] := by rw [hV2]; exact boxL_new w2 _ _ rfl
        have hbb : Below w2.heap.size w2 V2 := by rw [hV2]; exact (Below.refl _ _).alloc (Nat.le_refl _) _
        replace jd := jd.below hbb
        have hb2 := Below.tr hb hbb
        replace hB := Below.tr hB hb2
        obtain ⟨pd, hpd⟩ : ∃ p, p = w2.heap.size := ⟨_, rfl⟩
        rw [← hpd] at od
        have hpdw := hb.size
        rw [← hpd] at hpdw
        rw [← hV2, ← hpd]
        refine HK.out _ _ ?_; clear HK K
        clear hV2 hbb hb hpd
        replace jc := jc.below hb2; replace oc := oc.below hb2
        clear c0 c1 c2 c3 c4 cD jd od
        have c0 := oc.1 0 _ rfl; have c1 := oc.1 1 _ rfl; have c2 := oc.1 2 _ rfl; have c3 := oc.1 3 _ rfl; have c4 := oc.1 4 _ rfl
        have cE := (cancelY_any hky jc now).mono fun e w' h => h.y
        rw [HF.out.1, HF.out.2.2.2] at cE
        refine wp_seq_k (fun K hK => ?_); have HK : Shut _ := hK; clear hK
        go_wp2_with (go_at_call 20; refine (cE).mono ?_; rintro e w2 ⟨ek, en, ea, em, ec, ei, ez, eq, el, rfl, je, hb⟩)
        obtain ⟨V2, hV2⟩ : ∃ V2, V2 = w2.alloc (.cells #[.string ek, .string en, .slice ea em ec, .int .i64 ei, .slice ez eq el] 27) := ⟨_, rfl⟩
        have oe : BoxL V2 w2.heap.size [.string ek, .string en, .slice ea em ec, .int .i64 ei, .slice ez eq el] := by rw [hV2]; exact boxL_new w2 _ _ rfl
        have hbb : Below w2.heap.size w2 V2 := by rw [hV2]; exact (Below.refl _ _).alloc (Nat.le_refl _) _
        replace je := je.below hbb
        have hb2 := Below.tr hb hbb
        replace hB := Below.tr hB hb2
        obtain ⟨pe, hpe⟩ : ∃ p, p = w2.heap.size := ⟨_, rfl⟩
        rw [← hpe] at oe
        have hpew := hb.size
        rw [← hpe] at hpew
        rw [← hV2, ← hpe]
        refine HK.out _ _ ?_; clear HK K
        clear hV2 hbb hb hpe
        replace jc := jc.below hb2; replace oc := oc.below hb2
        clear c0 c1 c2 c3 c4 cE je oe
        have c0 := oc.1 0 _ rfl; have c1 := oc.1 1 _ rfl; have c2 := oc.1 2 _ rfl; have c3 := oc.1 3 _ rfl; have c4 := oc.1 4 _ rfl
        go_wp2_with (go_at_call 16; refine (alive19_any _).mono ?_; rintro e w9 ⟨rfl, hb⟩; replace oc := oc.below hb; replace hB := Below.tr hB hb; clear c0 c1 c2 c3 c4; have c0 := oc.1 0 _ rfl; have c1 := oc.1 1 _ rfl; have c2 := oc.1 2 _ rfl; have c3 := oc.1 3 _ rfl; have c4 := oc.1 4 _ rfl)
        go_ret
        exact ⟨rfl, hB⟩
      · have h93 : EC = 193 := by
          have := HEC.out
          unfold cancelE at this
          rw [if_pos (runB_iff.2 hOk)] at this
          split at this
          · exact absurd this hc
          · exact this
        subst h93
        clear hc
        go_wp2_with (go_at_call 16; refine (alive19_any _).mono ?_; rintro e w9 ⟨rfl, hb⟩; replace hB := Below.tr hB hb)
        go_ret
        exact ⟨rfl, hB⟩

end Go.Proofs.Ytdpljpjbomhccaa


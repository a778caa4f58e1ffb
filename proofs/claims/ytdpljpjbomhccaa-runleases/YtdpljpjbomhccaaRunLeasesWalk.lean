/-
  The walk through the statement RunLeases.
-/
import Derived.Test.YtdpljpjbomhccaaRlA
import Derived.Test.YtdpljpjbomhccaaRtF
namespace Go.Proofs.Ytdpljpjbomhccaa
open Go.RowKit Plain
set_option linter.unusedVariables false

theorem refLease_any (ky nm : ByteArray) (ta : Option Addr) (tn tc : Nat) (is : Int) (sa : Option Addr) (n sc : Nat) (tv : List TaskV) (ss : List StP) (now k : Int) (w : World) (hnow : now ≤ 9223372036854775807) (hT : IsT w ta tc tv) (htn : tn = tv.length) (hZ : IsZ w sa sc ss) (hn : n = ss.length) (hOk : RunOk ky nm (plainT tv) ss is) :
    Calls Try.prog 21 #[.agg #[.string ky, .string nm, .slice ta tn tc, .int .i64 is, .slice sa n sc], .int .i64 now, .int .i64 k] w fun e w' => LeaseU w (leaseRE (settleS (plainT tv) (untF now []) (ss, is)).1 now k) (leaseRP (settleS (plainT tv) (untF now []) (ss, is)).1 now k) ky nm (settleS (plainT tv) (untF now []) (ss, is)).2 (plainT tv) (leaseRZ (plainT tv) (settleS (plainT tv) (untF now []) (ss, is)).1 now k) e w' := by
  by_cases h1 : (1 ≤ k ∧ k ≤ 1099511627776) ∧ heldAt (settleS (plainT tv) (untF now []) (ss, is)).1 k = none
  · exact refLeaseGo_any ky nm ta tn tc is sa n sc tv ss now k w hnow hT htn hZ hn hOk h1.1.1 h1.1.2 h1.2
  · have e : leaseRE (settleS (plainT tv) (untF now []) (ss, is)).1 now k = 1 := if_neg h1
    have e2 : leaseRP (settleS (plainT tv) (untF now []) (ss, is)).1 now k = 0 := by unfold leaseRP; rw [e]; rfl
    rw [e, e2]
    by_cases h2 : 1 ≤ k ∧ k ≤ 1099511627776
    · exact refLeaseHeld_any ky nm ta tn tc is sa n sc tv ss now k w hnow hT htn hZ hn hOk h2.1 h2.2 (fun h => h1 ⟨h2, h⟩) _ _
    · exact refLeaseArg_any ky nm ta tn tc is sa n sc tv ss now k w hnow hT htn hZ hn hOk h2 _ _

/-- What a call made, said. -/
def SaidC (w : World) (E : Int) (ky nm : ByteArray) (is : Int) (zs : List StP) (fs : List TaskP) (e : Ending) (w' : World) : Prop :=
  ∃ xk xn xa xm xc xi xz xq xl, e = .returned (.tuple #[.agg #[.string xk, .string xn, .slice xa xm xc, .int .i64 xi, .slice xz xq xl], .int .i64 E]) ∧ Said w' E ky nm is fs zs xk xn xa xm xc xi xz xq xl ∧ Below w.heap.size w w'
def SaidL (w : World) (E p : Int) (ky nm : ByteArray) (is : Int) (zs : List StP) (fs : List TaskP) (e : Ending) (w' : World) : Prop :=
  ∃ xk xn xa xm xc xi xz xq xl, e = .returned (.tuple #[.agg #[.string xk, .string xn, .slice xa xm xc, .int .i64 xi, .slice xz xq xl], .int .i64 p, .int .i64 E]) ∧ Said w' E ky nm is fs zs xk xn xa xm xc xi xz xq xl ∧ Below w.heap.size w w'



set_option maxRecDepth 20000 in
set_option maxHeartbeats 2000000 in
theorem runLeases_walk (ky nm : ByteArray) (ta : Option Addr) (tc : Nat) (tv : List TaskV) (is : Int) (sa : Option Addr) (sc : Nat) (ss : List StP) (now k : Int) (w : World) (hky : ky.size ≤ maxLen) (hnm : nm.size ≤ maxLen) (hT : IsT w ta tc tv) (wi : (Lit.int .i64 is).wf = true) (hZ : IsZ w sa sc ss) (wn : (Lit.int .i64 now).wf = true) (wk : (Lit.int .i64 k).wf = true) :
    Calls Try.prog 4 #[.agg #[.string ky, .string nm, .slice ta tv.length tc, .int .i64 is, .slice sa ss.length sc], .int .i64 now, .int .i64 k] w fun e w' => e = .returned (.bool true) ∧ Below w.heap.size w w' := by
  have hnow := (wf_le wn).2
  have hk : wfJ k := wk
  clear wi wn wk
  obtain ⟨tn, htn⟩ : ∃ x, x = tv.length := ⟨_, rfl⟩
  obtain ⟨n, hn⟩ : ∃ x, x = ss.length := ⟨_, rfl⟩
  rw [← htn, ← hn]
  have cF := fewRun_any ky nm ta tn tc is sa n sc tv ss w htn hT hn hZ
  unfold FewRun at cF
  obtain ⟨fs, hfs⟩ : ∃ fs, fs = fewT tv := ⟨_, rfl⟩
  obtain ⟨gs, hgs⟩ : ∃ gs, gs = fewS ss := ⟨_, rfl⟩
  rw [← hfs, ← hgs] at cF
  obtain ⟨SS, hSS⟩ : ∃ SS, SS = settleS (plainT fs) (untF now []) (gs, is) := ⟨_, rfl⟩
  obtain ⟨ok, hok⟩ : ∃ ok, ok = runB ky nm (plainT fs) gs is := ⟨_, rfl⟩
  obtain ⟨E1, hE1⟩ : ∃ E : Int, E = if ok = true then leaseRE SS.1 now k else 1 := ⟨_, rfl⟩
  obtain ⟨P1, hP1⟩ : ∃ E : Int, E = if ok = true then leaseRP SS.1 now k else 0 := ⟨_, rfl⟩
  obtain ⟨E2, hE2⟩ : ∃ E : Int, E = cancelE ky nm (plainT fs) gs is now := ⟨_, rfl⟩
  obtain ⟨A1, hA1⟩ : ∃ A, A = leaseRZ (plainT fs) SS.1 now k := ⟨_, rfl⟩
  obtain ⟨A2, hA2⟩ : ∃ A, A = SS.1.map cancelT := ⟨_, rfl⟩
  have c1 : ∀ V a m c q, RunIn V w.heap.size ky nm a m c is sa q sc fs gs → Calls Try.prog 19 #[.agg #[.string ky, .string nm, .slice a m c, .int .i64 is, .slice sa q sc], .int .i64 now, .int .i64 k] V fun e w' => SaidL V E1 P1 ky nm SS.2 A1 (plainT fs) e w' := fun V a m c q R => by rw [hA1, hSS]; exact (leaseU_any ky nm a m c is sa q sc fs gs now k V hky hk R.hT R.htn R.hZ R.hn E1 P1 (by rw [hE1, hok, hSS]) (by rw [hP1, hok, hSS])).mono fun e w' h => h.said
  have c2 : ∀ V a m c q, RunIn V w.heap.size ky nm a m c is sa q sc fs gs → Calls Try.prog 20 #[.agg #[.string ky, .string nm, .slice a m c, .int .i64 is, .slice sa q sc], .int .i64 now] V fun e w' => SaidC V E2 ky nm 3 A2 (plainT fs) e w' := fun V a m c q R => by rw [hA2, hSS]; exact (cancelU_any ky nm a m c is sa q sc fs gs now V hky R.hT R.htn R.hZ R.hn E2 hE2).mono fun e w' h => h.said
  have cQ : ∀ V a m c q, RunIn V w.heap.size ky nm a m c is sa q sc fs gs → Calls Try.prog 15 #[.agg #[.string ky, .string nm, .slice a m c, .int .i64 is, .slice sa q sc]] V fun e w' => e = .returned (.bool ok) ∧ Below V.heap.size V w' := fun V a m c q R => by rw [hok]; exact refRight19_any ky nm a m c is sa q sc fs gs V hky hnm R.hT R.htn R.hZ R.hn
  have d1 : ok = true → ∀ V a m c q, RunIn V w.heap.size ky nm a m c is sa q sc fs gs → Calls Try.prog 21 #[.agg #[.string ky, .string nm, .slice a m c, .int .i64 is, .slice sa q sc], .int .i64 now, .int .i64 k] V fun e w' => SaidL V E1 P1 ky nm SS.2 A1 (plainT fs) e w' := fun h V a m c q R => by rw [hE1, if_pos h, hP1, if_pos h, hA1, hSS]; exact (refLease_any ky nm a m c is sa q sc fs gs now k V hnow R.hT R.htn R.hZ R.hn (runB_iff.1 (by rw [← hok]; exact h))).mono fun e w' h => h.said
  have d2 : ok = true → ∀ V a m c q, RunIn V w.heap.size ky nm a m c is sa q sc fs gs → Calls Try.prog 22 #[.agg #[.string ky, .string nm, .slice a m c, .int .i64 is, .slice sa q sc], .int .i64 now] V fun e w' => SaidC V E2 ky nm 3 A2 (plainT fs) e w' := fun h V a m c q R => by rw [hA2, hSS]; exact (refCancel_any ky nm a m c is sa q sc fs gs now V hnow R.hT R.htn R.hZ R.hn (runB_iff.1 (by rw [← hok]; exact h)) E2 hE2).mono fun e w' h => h.said
  have HE : Hid (ok = false → E1 = 1 ∧ P1 = 0 ∧ E2 = 1) := fun h => by
    subst h
    refine ⟨hE1, hP1, ?_⟩
    rw [hE2]; unfold cancelE; rw [← hok]; rfl
  clear hE1 hP1 hE2 hA1 hA2 hSS hok hfs hgs htn hn hT hZ hnow hk
  obtain ⟨S2, hS2⟩ : ∃ x, x = SS.2 := ⟨_, rfl⟩
  rw [← hS2] at c1 d1
  clear hS2
  cases ok with
  | true =>
    replace d1 := d1 rfl
    replace d2 := d2 rfl
    go_enter Try.func4, Try.ntmps4
    refine wp_seq_k (fun K hK => ?_); have HK : Shut _ := hK; clear hK
    go_wp2
    refine HK.out _ _ ?_; clear HK K
    refine wp_seq_k (fun K hK => ?_); have HK : Shut _ := hK; clear hK
    go_wp2_with (go_at_call 9; refine cF.mono ?_; rintro e w1 ⟨a, c, m, q, u0, u1, u2, u3, u4, rfl, b1, R, hB⟩; have v0 := b1.1 0 _ rfl; have v1 := b1.1 1 _ rfl; have v2 := b1.1 2 _ rfl; have v3 := b1.1 3 _ rfl; have v4 := b1.1 4 _ rfl; have f0 := b1.2 0 (by simp); have f1 := b1.2 1 (by simp); have f2 := b1.2 2 (by simp); have f3 := b1.2 3 (by simp); have f4 := b1.2 4 (by simp))
    obtain ⟨Z, hZ9⟩ : ∃ Z, Z = (((((w1.setCell ⟨w.heap.size, 0, none⟩ (.string ky)).setCell ⟨w.heap.size, 1, none⟩ (.string nm)).setCell ⟨w.heap.size, 2, none⟩ (.slice a m c)).setCell ⟨w.heap.size, 3, none⟩ (.int .i64 is)).setCell ⟨w.heap.size, 4, none⟩ (.slice sa q sc)) := ⟨_, rfl⟩
    rw [← hZ9] at R hB
    rw [← hZ9]
    refine HK.out _ _ ?_; clear HK K
    clear hZ9 v0 v1 v2 v3 v4
    have p0 := R.box.1 0 _ rfl; have p1 := R.box.1 1 _ rfl; have p2 := R.box.1 2 _ rfl; have p3 := R.box.1 3 _ rfl; have p4 := R.box.1 4 _ rfl
    refine wp_seq_k (fun K hK => ?_); have HK : Shut _ := hK; clear hK
    go_wp2_with (go_at_call 19; refine (c1 _ _ _ _ _ R).mono ?_; rintro e w2 ⟨ak, an, aa, am, ac, ai, az, aq, al, rfl, ja, hb⟩)
    obtain ⟨V2, hV2⟩ : ∃ V2, V2 = w2.alloc (.cells #[.string ak, .string an, .slice aa am ac, .int .i64 ai, .slice az aq al] 27) := ⟨_, rfl⟩
    have oa : BoxL V2 w2.heap.size [.string ak, .string an, .slice aa am ac, .int .i64 ai, .slice az aq al] := by rw [hV2]; exact boxL_new w2 _ _ rfl
    have hbb : Below w2.heap.size w2 V2 := by rw [hV2]; exact (Below.refl _ _).alloc (Nat.le_refl _) _
    replace ja := ja.below hbb
    have hb2 := Below.tr hb hbb
    replace R := R.below hb2
    replace hB := Below.tr hB hb2
    obtain ⟨pa, hpa⟩ : ∃ p, p = w2.heap.size := ⟨_, rfl⟩
    rw [← hpa] at oa
    rw [← hV2, ← hpa]
    refine HK.out _ _ ?_; clear HK K
    clear p0 p1 p2 p3 p4 hV2 hbb hb hpa
    have p0 := R.box.1 0 _ rfl; have p1 := R.box.1 1 _ rfl; have p2 := R.box.1 2 _ rfl; have p3 := R.box.1 3 _ rfl; have p4 := R.box.1 4 _ rfl
    refine wp_seq_k (fun K hK => ?_); have HK : Shut _ := hK; clear hK
    go_wp2_with (go_at_call 20; refine (c2 _ _ _ _ _ R).mono ?_; rintro e w2 ⟨bk, bn, ba, bm, bc, bi, bz, bq, bl, rfl, jb, hb⟩)
    obtain ⟨V2, hV2⟩ : ∃ V2, V2 = w2.alloc (.cells #[.string bk, .string bn, .slice ba bm bc, .int .i64 bi, .slice bz bq bl] 27) := ⟨_, rfl⟩
    have ob : BoxL V2 w2.heap.size [.string bk, .string bn, .slice ba bm bc, .int .i64 bi, .slice bz bq bl] := by rw [hV2]; exact boxL_new w2 _ _ rfl
    have hbb : Below w2.heap.size w2 V2 := by rw [hV2]; exact (Below.refl _ _).alloc (Nat.le_refl _) _
    replace jb := jb.below hbb
    have hb2 := Below.tr hb hbb
    replace R := R.below hb2
    replace hB := Below.tr hB hb2
    obtain ⟨pb, hpb⟩ : ∃ p, p = w2.heap.size := ⟨_, rfl⟩
    rw [← hpb] at ob
    rw [← hV2, ← hpb]
    refine HK.out _ _ ?_; clear HK K
    clear p0 p1 p2 p3 p4 hV2 hbb hb hpb
    replace ja := ja.below hb2; replace oa := oa.below hb2
    have p0 := R.box.1 0 _ rfl; have p1 := R.box.1 1 _ rfl; have p2 := R.box.1 2 _ rfl; have p3 := R.box.1 3 _ rfl; have p4 := R.box.1 4 _ rfl
    refine wp_seq_k (fun K hK => ?_); have HK : Shut _ := hK; clear hK
    go_wp2_with (go_at_call 15; refine (cQ _ _ _ _ _ R).mono ?_; rintro e w2 ⟨rfl, hb2⟩)
    refine HK.out _ _ ?_; clear HK K
    clear p0 p1 p2 p3 p4
    replace R := R.below hb2
    replace hB := Below.tr hB hb2
    replace ja := ja.below hb2; replace oa := oa.below hb2; replace jb := jb.below hb2; replace ob := ob.below hb2
    have p0 := R.box.1 0 _ rfl; have p1 := R.box.1 1 _ rfl; have p2 := R.box.1 2 _ rfl; have p3 := R.box.1 3 _ rfl; have p4 := R.box.1 4 _ rfl
    refine wp_seq_k (fun K hK => ?_); have HK : Shut _ := hK; clear hK
    go_wp2_with (go_at_call 21; refine (d1 _ _ _ _ _ R).mono ?_; rintro e w2 ⟨xk, xn, xa, xm, xc, xi, xz, xq, xl, rfl, jx, hb⟩)
    obtain ⟨V2, hV2⟩ : ∃ V2, V2 = w2.alloc (.cells #[.string xk, .string xn, .slice xa xm xc, .int .i64 xi, .slice xz xq xl] 27) := ⟨_, rfl⟩
    have ox : BoxL V2 w2.heap.size [.string xk, .string xn, .slice xa xm xc, .int .i64 xi, .slice xz xq xl] := by rw [hV2]; exact boxL_new w2 _ _ rfl
    have hbb : Below w2.heap.size w2 V2 := by rw [hV2]; exact (Below.refl _ _).alloc (Nat.le_refl _) _
    replace jx := jx.below hbb
    have hb2 := Below.tr hb hbb
    replace R := R.below hb2
    replace hB := Below.tr hB hb2
    obtain ⟨px, hpx⟩ : ∃ p, p = w2.heap.size := ⟨_, rfl⟩
    rw [← hpx] at ox
    rw [← hV2, ← hpx]
    refine HK.out _ _ ?_; clear HK K
    clear p0 p1 p2 p3 p4 hV2 hbb hb hpx
    replace ja := ja.below hb2; replace oa := oa.below hb2; replace jb := jb.below hb2; replace ob := ob.below hb2
    have p0 := R.box.1 0 _ rfl; have p1 := R.box.1 1 _ rfl; have p2 := R.box.1 2 _ rfl; have p3 := R.box.1 3 _ rfl; have p4 := R.box.1 4 _ rfl
    refine wp_seq_k (fun K hK => ?_); have HK : Shut _ := hK; clear hK
    go_wp2_with (go_at_call 22; refine (d2 _ _ _ _ _ R).mono ?_; rintro e w2 ⟨yk, yn, ya, ym, yc, yi, yz, yq, yl, rfl, jy, hb⟩)
    obtain ⟨V2, hV2⟩ : ∃ V2, V2 = w2.alloc (.cells #[.string yk, .string yn, .slice ya ym yc, .int .i64 yi, .slice yz yq yl] 27) := ⟨_, rfl⟩
    have oy : BoxL V2 w2.heap.size [.string yk, .string yn, .slice ya ym yc, .int .i64 yi, .slice yz yq yl] := by rw [hV2]; exact boxL_new w2 _ _ rfl
    have hbb : Below w2.heap.size w2 V2 := by rw [hV2]; exact (Below.refl _ _).alloc (Nat.le_refl _) _
    replace jy := jy.below hbb
    have hb2 := Below.tr hb hbb
    replace R := R.below hb2
    replace hB := Below.tr hB hb2
    obtain ⟨py, hpy⟩ : ∃ p, p = w2.heap.size := ⟨_, rfl⟩
    rw [← hpy] at oy
    rw [← hV2, ← hpy]
    refine HK.out _ _ ?_; clear HK K
    clear p0 p1 p2 p3 p4 hV2 hbb hb hpy
    replace ja := ja.below hb2; replace oa := oa.below hb2; replace jb := jb.below hb2; replace ob := ob.below hb2; replace jx := jx.below hb2; replace ox := ox.below hb2
    have a0 := oa.1 0 _ rfl; have a1 := oa.1 1 _ rfl; have a2 := oa.1 2 _ rfl; have a3 := oa.1 3 _ rfl; have a4 := oa.1 4 _ rfl; have b0 := ob.1 0 _ rfl; have b1 := ob.1 1 _ rfl; have b2 := ob.1 2 _ rfl; have b3 := ob.1 3 _ rfl; have b4 := ob.1 4 _ rfl; have x0 := ox.1 0 _ rfl; have x1 := ox.1 1 _ rfl; have x2 := ox.1 2 _ rfl; have x3 := ox.1 3 _ rfl; have x4 := ox.1 4 _ rfl; have y0 := oy.1 0 _ rfl; have y1 := oy.1 1 _ rfl; have y2 := oy.1 2 _ rfl; have y3 := oy.1 3 _ rfl; have y4 := oy.1 4 _ rfl
    clear R c1 c2 cQ d1 d2 cF
    have tok0 : True := trivial
    have tok1 : True := trivial
    go_wp2_with (first
      | (go_at_call 16; refine (alive19_any _).mono ?_; rintro e w3 ⟨rfl, hb⟩; clear a0 a1 a2 a3 a4 b0 b1 b2 b3 b4 x0 x1 x2 x3 x4 y0 y1 y2 y3 y4; replace ja := ja.below hb; replace oa := oa.below hb; replace jb := jb.below hb; replace ob := ob.below hb; replace jx := jx.below hb; replace ox := ox.below hb; replace jy := jy.below hb; replace oy := oy.below hb; have a0 := oa.1 0 _ rfl; have a1 := oa.1 1 _ rfl; have a2 := oa.1 2 _ rfl; have a3 := oa.1 3 _ rfl; have a4 := oa.1 4 _ rfl; have b0 := ob.1 0 _ rfl; have b1 := ob.1 1 _ rfl; have b2 := ob.1 2 _ rfl; have b3 := ob.1 3 _ rfl; have b4 := ob.1 4 _ rfl; have x0 := ox.1 0 _ rfl; have x1 := ox.1 1 _ rfl; have x2 := ox.1 2 _ rfl; have x3 := ox.1 3 _ rfl; have x4 := ox.1 4 _ rfl; have y0 := oy.1 0 _ rfl; have y1 := oy.1 1 _ rfl; have y2 := oy.1 2 _ rfl; have y3 := oy.1 3 _ rfl; have y4 := oy.1 4 _ rfl; replace hB := Below.tr hB hb; clear hb)
      | (go_at_call 12; clear tok0; refine (likeS_any ja jx).mono ?_; rintro e w4 ⟨rfl, hb⟩; clear a0 a1 a2 a3 a4 b0 b1 b2 b3 b4 x0 x1 x2 x3 x4 y0 y1 y2 y3 y4; replace ja := ja.below hb; replace oa := oa.below hb; replace jb := jb.below hb; replace ob := ob.below hb; replace jx := jx.below hb; replace ox := ox.below hb; replace jy := jy.below hb; replace oy := oy.below hb; have a0 := oa.1 0 _ rfl; have a1 := oa.1 1 _ rfl; have a2 := oa.1 2 _ rfl; have a3 := oa.1 3 _ rfl; have a4 := oa.1 4 _ rfl; have b0 := ob.1 0 _ rfl; have b1 := ob.1 1 _ rfl; have b2 := ob.1 2 _ rfl; have b3 := ob.1 3 _ rfl; have b4 := ob.1 4 _ rfl; have x0 := ox.1 0 _ rfl; have x1 := ox.1 1 _ rfl; have x2 := ox.1 2 _ rfl; have x3 := ox.1 3 _ rfl; have x4 := ox.1 4 _ rfl; have y0 := oy.1 0 _ rfl; have y1 := oy.1 1 _ rfl; have y2 := oy.1 2 _ rfl; have y3 := oy.1 3 _ rfl; have y4 := oy.1 4 _ rfl; replace hB := Below.tr hB hb; clear hb)
      | (go_at_call 12; clear tok1; refine (likeS_any jb jy).mono ?_; rintro e w4 ⟨rfl, hb⟩; clear a0 a1 a2 a3 a4 b0 b1 b2 b3 b4 x0 x1 x2 x3 x4 y0 y1 y2 y3 y4; replace ja := ja.below hb; replace oa := oa.below hb; replace jb := jb.below hb; replace ob := ob.below hb; replace jx := jx.below hb; replace ox := ox.below hb; replace jy := jy.below hb; replace oy := oy.below hb; have a0 := oa.1 0 _ rfl; have a1 := oa.1 1 _ rfl; have a2 := oa.1 2 _ rfl; have a3 := oa.1 3 _ rfl; have a4 := oa.1 4 _ rfl; have b0 := ob.1 0 _ rfl; have b1 := ob.1 1 _ rfl; have b2 := ob.1 2 _ rfl; have b3 := ob.1 3 _ rfl; have b4 := ob.1 4 _ rfl; have x0 := ox.1 0 _ rfl; have x1 := ox.1 1 _ rfl; have x2 := ox.1 2 _ rfl; have x3 := ox.1 3 _ rfl; have x4 := ox.1 4 _ rfl; have y0 := oy.1 0 _ rfl; have y1 := oy.1 1 _ rfl; have y2 := oy.1 2 _ rfl; have y3 := oy.1 3 _ rfl; have y4 := oy.1 4 _ rfl; replace hB := Below.tr hB hb; clear hb))
    go_ret
    exact ⟨rfl, hB⟩
  | false =>
    obtain ⟨rfl, rfl, rfl⟩ := HE.out rfl
    clear d1 d2
    go_enter Try.func4, Try.ntmps4
    refine wp_seq_k (fun K hK => ?_); have HK : Shut _ := hK; clear hK
    go_wp2
    refine HK.out _ _ ?_; clear HK K
    refine wp_seq_k (fun K hK => ?_); have HK : Shut _ := hK; clear hK
    go_wp2_with (go_at_call 9; refine cF.mono ?_; rintro e w1 ⟨a, c, m, q, u0, u1, u2, u3, u4, rfl, b1, R, hB⟩; have v0 := b1.1 0 _ rfl; have v1 := b1.1 1 _ rfl; have v2 := b1.1 2 _ rfl; have v3 := b1.1 3 _ rfl; have v4 := b1.1 4 _ rfl; have f0 := b1.2 0 (by simp); have f1 := b1.2 1 (by simp); have f2 := b1.2 2 (by simp); have f3 := b1.2 3 (by simp); have f4 := b1.2 4 (by simp))
    obtain ⟨Z, hZ9⟩ : ∃ Z, Z = (((((w1.setCell ⟨w.heap.size, 0, none⟩ (.string ky)).setCell ⟨w.heap.size, 1, none⟩ (.string nm)).setCell ⟨w.heap.size, 2, none⟩ (.slice a m c)).setCell ⟨w.heap.size, 3, none⟩ (.int .i64 is)).setCell ⟨w.heap.size, 4, none⟩ (.slice sa q sc)) := ⟨_, rfl⟩
    rw [← hZ9] at R hB
    rw [← hZ9]
    refine HK.out _ _ ?_; clear HK K
    clear hZ9 v0 v1 v2 v3 v4
    have p0 := R.box.1 0 _ rfl; have p1 := R.box.1 1 _ rfl; have p2 := R.box.1 2 _ rfl; have p3 := R.box.1 3 _ rfl; have p4 := R.box.1 4 _ rfl
    refine wp_seq_k (fun K hK => ?_); have HK : Shut _ := hK; clear hK
    go_wp2_with (go_at_call 19; refine (c1 _ _ _ _ _ R).mono ?_; rintro e w2 ⟨ak, an, aa, am, ac, ai, az, aq, al, rfl, ja, hb⟩)
    obtain ⟨V2, hV2⟩ : ∃ V2, V2 = w2.alloc (.cells #[.string ak, .string an, .slice aa am ac, .int .i64 ai, .slice az aq al] 27) := ⟨_, rfl⟩
    have oa : BoxL V2 w2.heap.size [.string ak, .string an, .slice aa am ac, .int .i64 ai, .slice az aq al] := by rw [hV2]; exact boxL_new w2 _ _ rfl
    have hbb : Below w2.heap.size w2 V2 := by rw [hV2]; exact (Below.refl _ _).alloc (Nat.le_refl _) _
    replace ja := ja.below hbb
    have hb2 := Below.tr hb hbb
    replace R := R.below hb2
    replace hB := Below.tr hB hb2
    obtain ⟨pa, hpa⟩ : ∃ p, p = w2.heap.size := ⟨_, rfl⟩
    rw [← hpa] at oa
    rw [← hV2, ← hpa]
    refine HK.out _ _ ?_; clear HK K
    clear p0 p1 p2 p3 p4 hV2 hbb hb hpa
    have p0 := R.box.1 0 _ rfl; have p1 := R.box.1 1 _ rfl; have p2 := R.box.1 2 _ rfl; have p3 := R.box.1 3 _ rfl; have p4 := R.box.1 4 _ rfl
    refine wp_seq_k (fun K hK => ?_); have HK : Shut _ := hK; clear hK
    go_wp2_with (go_at_call 20; refine (c2 _ _ _ _ _ R).mono ?_; rintro e w2 ⟨bk, bn, ba, bm, bc, bi, bz, bq, bl, rfl, jb, hb⟩)
    obtain ⟨V2, hV2⟩ : ∃ V2, V2 = w2.alloc (.cells #[.string bk, .string bn, .slice ba bm bc, .int .i64 bi, .slice bz bq bl] 27) := ⟨_, rfl⟩
    have ob : BoxL V2 w2.heap.size [.string bk, .string bn, .slice ba bm bc, .int .i64 bi, .slice bz bq bl] := by rw [hV2]; exact boxL_new w2 _ _ rfl
    have hbb : Below w2.heap.size w2 V2 := by rw [hV2]; exact (Below.refl _ _).alloc (Nat.le_refl _) _
    replace jb := jb.below hbb
    have hb2 := Below.tr hb hbb
    replace R := R.below hb2
    replace hB := Below.tr hB hb2
    obtain ⟨pb, hpb⟩ : ∃ p, p = w2.heap.size := ⟨_, rfl⟩
    rw [← hpb] at ob
    rw [← hV2, ← hpb]
    refine HK.out _ _ ?_; clear HK K
    clear p0 p1 p2 p3 p4 hV2 hbb hb hpb
    replace ja := ja.below hb2; replace oa := oa.below hb2
    have p0 := R.box.1 0 _ rfl; have p1 := R.box.1 1 _ rfl; have p2 := R.box.1 2 _ rfl; have p3 := R.box.1 3 _ rfl; have p4 := R.box.1 4 _ rfl
    refine wp_seq_k (fun K hK => ?_); have HK : Shut _ := hK; clear hK
    have tok0 : True := trivial
    have tok1 : True := trivial
    have a0 := oa.1 0 _ rfl; have a1 := oa.1 1 _ rfl; have a2 := oa.1 2 _ rfl; have a3 := oa.1 3 _ rfl; have a4 := oa.1 4 _ rfl; have b0 := ob.1 0 _ rfl; have b1 := ob.1 1 _ rfl; have b2 := ob.1 2 _ rfl; have b3 := ob.1 3 _ rfl; have b4 := ob.1 4 _ rfl
    go_wp2_with (first
      | (go_at_call 15; refine (cQ _ _ _ _ _ R).mono ?_; rintro e w2 ⟨rfl, hb⟩; clear p0 p1 p2 p3 p4; clear a0 a1 a2 a3 a4 b0 b1 b2 b3 b4; replace ja := ja.below hb; replace oa := oa.below hb; replace jb := jb.below hb; replace ob := ob.below hb; have a0 := oa.1 0 _ rfl; have a1 := oa.1 1 _ rfl; have a2 := oa.1 2 _ rfl; have a3 := oa.1 3 _ rfl; have a4 := oa.1 4 _ rfl; have b0 := ob.1 0 _ rfl; have b1 := ob.1 1 _ rfl; have b2 := ob.1 2 _ rfl; have b3 := ob.1 3 _ rfl; have b4 := ob.1 4 _ rfl; replace hB := Below.tr hB hb; clear hb; clear R)
      | (go_at_call 16; refine (alive19_any _).mono ?_; rintro e w3 ⟨rfl, hb⟩; clear a0 a1 a2 a3 a4 b0 b1 b2 b3 b4; replace ja := ja.below hb; replace oa := oa.below hb; replace jb := jb.below hb; replace ob := ob.below hb; have a0 := oa.1 0 _ rfl; have a1 := oa.1 1 _ rfl; have a2 := oa.1 2 _ rfl; have a3 := oa.1 3 _ rfl; have a4 := oa.1 4 _ rfl; have b0 := ob.1 0 _ rfl; have b1 := ob.1 1 _ rfl; have b2 := ob.1 2 _ rfl; have b3 := ob.1 3 _ rfl; have b4 := ob.1 4 _ rfl; replace hB := Below.tr hB hb; clear hb)
      | (go_at_call 12; clear tok0; refine (likeS_any ja (said_zero _ (by decide) _ _ _ _ _)).mono ?_; rintro e w4 ⟨rfl, hb⟩; clear a0 a1 a2 a3 a4 b0 b1 b2 b3 b4; replace ja := ja.below hb; replace oa := oa.below hb; replace jb := jb.below hb; replace ob := ob.below hb; have a0 := oa.1 0 _ rfl; have a1 := oa.1 1 _ rfl; have a2 := oa.1 2 _ rfl; have a3 := oa.1 3 _ rfl; have a4 := oa.1 4 _ rfl; have b0 := ob.1 0 _ rfl; have b1 := ob.1 1 _ rfl; have b2 := ob.1 2 _ rfl; have b3 := ob.1 3 _ rfl; have b4 := ob.1 4 _ rfl; replace hB := Below.tr hB hb; clear hb)
      | (go_at_call 12; clear tok1; refine (likeS_any jb (said_zero _ (by decide) _ _ _ _ _)).mono ?_; rintro e w4 ⟨rfl, hb⟩; clear a0 a1 a2 a3 a4 b0 b1 b2 b3 b4; replace ja := ja.below hb; replace oa := oa.below hb; replace jb := jb.below hb; replace ob := ob.below hb; have a0 := oa.1 0 _ rfl; have a1 := oa.1 1 _ rfl; have a2 := oa.1 2 _ rfl; have a3 := oa.1 3 _ rfl; have a4 := oa.1 4 _ rfl; have b0 := ob.1 0 _ rfl; have b1 := ob.1 1 _ rfl; have b2 := ob.1 2 _ rfl; have b3 := ob.1 3 _ rfl; have b4 := ob.1 4 _ rfl; replace hB := Below.tr hB hb; clear hb))
    go_ret
    exact ⟨rfl, hB⟩

end Go.Proofs.Ytdpljpjbomhccaa


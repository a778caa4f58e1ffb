/-
  The walk through the statement RunTolds.
-/
import Derived.Test.YtdpljpjbomhccaaRtC
import Derived.Test.YtdpljpjbomhccaaRtE
import Derived.Test.YtdpljpjbomhccaaRtF
namespace Go.Proofs.Ytdpljpjbomhccaa
open Go.RowKit Plain
set_option linter.unusedVariables false

theorem refTold0_any (x : ByteArray) (ky nm : ByteArray) (ta : Option Addr) (tn tc : Nat) (is : Int) (sa : Option Addr) (n sc : Nat) (tv : List TaskV) (ss : List StP) (now k : Int) (w : World) (hnow : now ≤ 9223372036854775807) (hT : IsT w ta tc tv) (htn : tn = tv.length) (hZ : IsZ w sa sc ss) (hn : n = ss.length) (hOk : RunOk ky nm (plainT tv) ss is) :
    Calls Try.prog 26 #[.agg #[.string ky, .string nm, .slice ta tn tc, .int .i64 is, .slice sa n sc], .int .i64 0, .int .i64 now, .int .i64 k, .string x] w fun e w' => ToldU w (ansE (plainT tv) (fun _ s => heldE s) (settleS (plainT tv) (untF now []) (ss, is)).1 k) ky nm (ansZ (plainT tv) (fun t s => beatT t.lease s now) (settleS (plainT tv) (untF now []) (ss, is)).1 (settleS (plainT tv) (untF now []) (ss, is)).2 k).2 (plainT tv) (ansZ (plainT tv) (fun t s => beatT t.lease s now) (settleS (plainT tv) (untF now []) (ss, is)).1 (settleS (plainT tv) (untF now []) (ss, is)).2 k).1 e w' := by
  cases hh : heldAt (settleS (plainT tv) (untF now []) (ss, is)).1 k with
  | none =>
    have e : ansE (plainT tv) (fun _ s => heldE s) (settleS (plainT tv) (untF now []) (ss, is)).1 k = 191 := by unfold ansE; rw [hh]
    rw [e]
    exact refToldNo_any 0 x ky nm ta tn tc is sa n sc tv ss now k w hnow hT htn hZ hn hOk hh _ _
  | some ix => exact refToldBeat_any x ky nm ta tn tc is sa n sc tv ss now k w hnow hT htn hZ hn hOk ix hh

theorem refTold1_any (x : ByteArray) (hx : x.size ≤ maxLen) (ky nm : ByteArray) (ta : Option Addr) (tn tc : Nat) (is : Int) (sa : Option Addr) (n sc : Nat) (tv : List TaskV) (ss : List StP) (now k : Int) (w : World) (hnow : now ≤ 9223372036854775807) (hT : IsT w ta tc tv) (htn : tn = tv.length) (hZ : IsZ w sa sc ss) (hn : n = ss.length) (hOk : RunOk ky nm (plainT tv) ss is) :
    Calls Try.prog 26 #[.agg #[.string ky, .string nm, .slice ta tn tc, .int .i64 is, .slice sa n sc], .int .i64 1, .int .i64 now, .int .i64 k, .string x] w fun e w' => ToldU w (ansE (plainT tv) (fun _ s => doneE s x) (settleS (plainT tv) (untF now []) (ss, is)).1 k) ky nm (ansZ (plainT tv) (fun _ s => doneT s x) (settleS (plainT tv) (untF now []) (ss, is)).1 (settleS (plainT tv) (untF now []) (ss, is)).2 k).2 (plainT tv) (ansZ (plainT tv) (fun _ s => doneT s x) (settleS (plainT tv) (untF now []) (ss, is)).1 (settleS (plainT tv) (untF now []) (ss, is)).2 k).1 e w' := by
  cases hh : heldAt (settleS (plainT tv) (untF now []) (ss, is)).1 k with
  | none =>
    have e : ansE (plainT tv) (fun _ s => doneE s x) (settleS (plainT tv) (untF now []) (ss, is)).1 k = 191 := by unfold ansE; rw [hh]
    rw [e]
    exact refToldNo_any 1 x ky nm ta tn tc is sa n sc tv ss now k w hnow hT htn hZ hn hOk hh _ _
  | some ix => exact refToldDone_any x hx ky nm ta tn tc is sa n sc tv ss now k w hnow hT htn hZ hn hOk ix hh

theorem refTold2_any (x : ByteArray) (ky nm : ByteArray) (ta : Option Addr) (tn tc : Nat) (is : Int) (sa : Option Addr) (n sc : Nat) (tv : List TaskV) (ss : List StP) (now k : Int) (w : World) (hnow : now ≤ 9223372036854775807) (hT : IsT w ta tc tv) (htn : tn = tv.length) (hZ : IsZ w sa sc ss) (hn : n = ss.length) (hOk : RunOk ky nm (plainT tv) ss is) :
    Calls Try.prog 26 #[.agg #[.string ky, .string nm, .slice ta tn tc, .int .i64 is, .slice sa n sc], .int .i64 2, .int .i64 now, .int .i64 k, .string x] w fun e w' => ToldU w (ansE (plainT tv) (fun _ s => heldE s) (settleS (plainT tv) (untF now []) (ss, is)).1 k) ky nm (ansZ (plainT tv) (fun t s => failT t.tries t.wait s now) (settleS (plainT tv) (untF now []) (ss, is)).1 (settleS (plainT tv) (untF now []) (ss, is)).2 k).2 (plainT tv) (ansZ (plainT tv) (fun t s => failT t.tries t.wait s now) (settleS (plainT tv) (untF now []) (ss, is)).1 (settleS (plainT tv) (untF now []) (ss, is)).2 k).1 e w' := by
  cases hh : heldAt (settleS (plainT tv) (untF now []) (ss, is)).1 k with
  | none =>
    have e : ansE (plainT tv) (fun _ s => heldE s) (settleS (plainT tv) (untF now []) (ss, is)).1 k = 191 := by unfold ansE; rw [hh]
    rw [e]
    exact refToldNo_any 2 x ky nm ta tn tc is sa n sc tv ss now k w hnow hT htn hZ hn hOk hh _ _
  | some ix => exact refToldFail_any x ky nm ta tn tc is sa n sc tv ss now k w hnow hT htn hZ hn hOk ix hh

/-- What a call made, said. -/
def SaidU (w : World) (E : Int) (ky nm : ByteArray) (y : List StP × Int) (fs : List TaskP) (e : Ending) (w' : World) : Prop :=
  ∃ xk xn xa xm xc xi xz xq xl, e = .returned (.tuple #[.agg #[.string xk, .string xn, .slice xa xm xc, .int .i64 xi, .slice xz xq xl], .int .i64 E]) ∧ Said w' E ky nm y.2 fs y.1 xk xn xa xm xc xi xz xq xl ∧ Below w.heap.size w w'


set_option maxRecDepth 20000 in
set_option maxHeartbeats 2000000 in
theorem runTolds_walk (ky nm : ByteArray) (ta : Option Addr) (tc : Nat) (tv : List TaskV) (is : Int) (sa : Option Addr) (sc : Nat) (ss : List StP) (now k : Int) (x : ByteArray) (w : World) (hky : ky.size ≤ maxLen) (hnm : nm.size ≤ maxLen) (hT : IsT w ta tc tv) (wi : (Lit.int .i64 is).wf = true) (hZ : IsZ w sa sc ss) (wn : (Lit.int .i64 now).wf = true) (wk : (Lit.int .i64 k).wf = true) (hx : x.size ≤ maxLen) :
    Calls Try.prog 5 #[.agg #[.string ky, .string nm, .slice ta tv.length tc, .int .i64 is, .slice sa ss.length sc], .int .i64 now, .int .i64 k, .string x] w fun e w' => e = .returned (.bool true) ∧ Below w.heap.size w w' := by
  have hnow := (wf_le wn).2
  have hk : wfJ k := wk
  clear wi wn wk
  obtain ⟨tn, htn⟩ : ∃ x, x = tv.length := ⟨_, rfl⟩
  obtain ⟨n, hn⟩ : ∃ x, x = ss.length := ⟨_, rfl⟩
  rw [← htn, ← hn]
  have cF := fewRun_any ky nm ta tn tc is sa n sc tv ss w htn hT hn hZ
  unfold FewRun at cF
  obtain ⟨fs, hfs⟩ : ∃ fs, fs = fewT tv := ⟨_, rfl⟩
  obtain ⟨gs, hgs⟩ : ∃ gs, gs = fewS ss := ⟨_, rfl⟩
  rw [← hfs, ← hgs] at cF
  obtain ⟨SS, hSS⟩ : ∃ SS, SS = settleS (plainT fs) (untF now []) (gs, is) := ⟨_, rfl⟩
  obtain ⟨ok, hok⟩ : ∃ ok, ok = runB ky nm (plainT fs) gs is := ⟨_, rfl⟩
  obtain ⟨E1, hE1⟩ : ∃ E : Int, E = if ok = true then ansE (plainT fs) (fun _ s => heldE s) SS.1 k else 1 := ⟨_, rfl⟩
  obtain ⟨E2, hE2⟩ : ∃ E : Int, E = if ok = true then ansE (plainT fs) (fun _ s => doneE s x) SS.1 k else 1 := ⟨_, rfl⟩
  obtain ⟨E3, hE3⟩ : ∃ E : Int, E = if ok = true then ansE (plainT fs) (fun _ s => heldE s) SS.1 k else 1 := ⟨_, rfl⟩
  obtain ⟨A1, hA1⟩ : ∃ A, A = ansZ (plainT fs) (fun t s => beatT t.lease s now) SS.1 SS.2 k := ⟨_, rfl⟩
  obtain ⟨A2, hA2⟩ : ∃ A, A = ansZ (plainT fs) (fun _ s => doneT s x) SS.1 SS.2 k := ⟨_, rfl⟩
  obtain ⟨A3, hA3⟩ : ∃ A, A = ansZ (plainT fs) (fun t s => failT t.tries t.wait s now) SS.1 SS.2 k := ⟨_, rfl⟩
  have c1 : ∀ V a m c q, RunIn V w.heap.size ky nm a m c is sa q sc fs gs → Calls Try.prog 23 #[.agg #[.string ky, .string nm, .slice a m c, .int .i64 is, .slice sa q sc], .int .i64 now, .int .i64 k] V fun e w' => SaidU V E1 ky nm A1 (plainT fs) e w' := fun V a m c q R => by rw [hA1, hSS]; exact (beatU_any ky nm a m c is sa q sc fs gs now k V hky hk R.hT R.htn R.hZ R.hn E1 (by rw [hE1, hok, hSS])).mono fun e w' h => h.said
  have c2 : ∀ V a m c q, RunIn V w.heap.size ky nm a m c is sa q sc fs gs → Calls Try.prog 24 #[.agg #[.string ky, .string nm, .slice a m c, .int .i64 is, .slice sa q sc], .int .i64 now, .int .i64 k, .string x] V fun e w' => SaidU V E2 ky nm A2 (plainT fs) e w' := fun V a m c q R => by rw [hA2, hSS]; exact (doneU_any ky nm a m c is sa q sc fs gs now k x V hx hky hk R.hT R.htn R.hZ R.hn E2 (by rw [hE2, hok, hSS])).mono fun e w' h => h.said
  have c3 : ∀ V a m c q, RunIn V w.heap.size ky nm a m c is sa q sc fs gs → Calls Try.prog 25 #[.agg #[.string ky, .string nm, .slice a m c, .int .i64 is, .slice sa q sc], .int .i64 now, .int .i64 k] V fun e w' => SaidU V E3 ky nm A3 (plainT fs) e w' := fun V a m c q R => by rw [hA3, hSS]; exact (failU_any ky nm a m c is sa q sc fs gs now k V hky hk R.hT R.htn R.hZ R.hn E3 (by rw [hE3, hok, hSS])).mono fun e w' h => h.said
  have cQ : ∀ V a m c q, RunIn V w.heap.size ky nm a m c is sa q sc fs gs → Calls Try.prog 15 #[.agg #[.string ky, .string nm, .slice a m c, .int .i64 is, .slice sa q sc]] V fun e w' => e = .returned (.bool ok) ∧ Below V.heap.size V w' := fun V a m c q R => by rw [hok]; exact refRight19_any ky nm a m c is sa q sc fs gs V hky hnm R.hT R.htn R.hZ R.hn
  have d1 : ok = true → ∀ V a m c q, RunIn V w.heap.size ky nm a m c is sa q sc fs gs → Calls Try.prog 26 #[.agg #[.string ky, .string nm, .slice a m c, .int .i64 is, .slice sa q sc], .int .i64 0, .int .i64 now, .int .i64 k, .string x] V fun e w' => SaidU V E1 ky nm A1 (plainT fs) e w' := fun h V a m c q R => by rw [hE1, if_pos h, hA1, hSS]; exact (refTold0_any x ky nm a m c is sa q sc fs gs now k V hnow R.hT R.htn R.hZ R.hn (runB_iff.1 (by rw [← hok]; exact h))).mono fun e w' h => h.said
  have d2 : ok = true → ∀ V a m c q, RunIn V w.heap.size ky nm a m c is sa q sc fs gs → Calls Try.prog 26 #[.agg #[.string ky, .string nm, .slice a m c, .int .i64 is, .slice sa q sc], .int .i64 1, .int .i64 now, .int .i64 k, .string x] V fun e w' => SaidU V E2 ky nm A2 (plainT fs) e w' := fun h V a m c q R => by rw [hE2, if_pos h, hA2, hSS]; exact (refTold1_any x hx ky nm a m c is sa q sc fs gs now k V hnow R.hT R.htn R.hZ R.hn (runB_iff.1 (by rw [← hok]; exact h))).mono fun e w' h => h.said
  have d3 : ok = true → ∀ V a m c q, RunIn V w.heap.size ky nm a m c is sa q sc fs gs → Calls Try.prog 26 #[.agg #[.string ky, .string nm, .slice a m c, .int .i64 is, .slice sa q sc], .int .i64 2, .int .i64 now, .int .i64 k, .string x] V fun e w' => SaidU V E3 ky nm A3 (plainT fs) e w' := fun h V a m c q R => by rw [hE3, if_pos h, hA3, hSS]; exact (refTold2_any x ky nm a m c is sa q sc fs gs now k V hnow R.hT R.htn R.hZ R.hn (runB_iff.1 (by rw [← hok]; exact h))).mono fun e w' h => h.said
  have HE : Hid (ok = false → E1 = 1 ∧ E2 = 1 ∧ E3 = 1) := fun h => by subst h; exact ⟨hE1, hE2, hE3⟩
  clear hE1 hE2 hE3 hA1 hA2 hA3 hSS hok hfs hgs htn hn hT hZ hnow hk hx
  cases ok with
  | true =>
    replace d1 := d1 rfl
    replace d2 := d2 rfl
    replace d3 := d3 rfl
    go_enter Try.func5, Try.ntmps5
    refine wp_seq_k (fun K hK => ?_); have HK : Shut _ := hK; clear hK
    go_wp2
    refine HK.out _ _ ?_; clear HK K
    refine wp_seq_k (fun K hK => ?_); have HK : Shut _ := hK; clear hK
    go_wp2_with (go_at_call 9; refine cF.mono ?_; rintro e w1 ⟨a, c, m, q, u0, u1, u2, u3, u4, rfl, b1, R, hB⟩; have v0 := b1.1 0 _ rfl; have v1 := b1.1 1 _ rfl; have v2 := b1.1 2 _ rfl; have v3 := b1.1 3 _ rfl; have v4 := b1.1 4 _ rfl; have f0 := b1.2 0 (by simp); have f1 := b1.2 1 (by simp); have f2 := b1.2 2 (by simp); have f3 := b1.2 3 (by simp); have f4 := b1.2 4 (by simp))
    obtain ⟨Z, hZ9⟩ : ∃ Z, Z = (((((w1.setCell ⟨w.heap.size, 0, none⟩ (.string ky)).setCell ⟨w.heap.size, 1, none⟩ (.string nm)).setCell ⟨w.heap.size, 2, none⟩ (.slice a m c)).setCell ⟨w.heap.size, 3, none⟩ (.int .i64 is)).setCell ⟨w.heap.size, 4, none⟩ (.slice sa q sc)) := ⟨_, rfl⟩
    rw [← hZ9] at R hB
    rw [← hZ9]
    refine HK.out _ _ ?_; clear HK K
    clear hZ9 v0 v1 v2 v3 v4
    have p0 := R.box.1 0 _ rfl; have p1 := R.box.1 1 _ rfl; have p2 := R.box.1 2 _ rfl; have p3 := R.box.1 3 _ rfl; have p4 := R.box.1 4 _ rfl
    refine wp_seq_k (fun K hK => ?_); have HK : Shut _ := hK; clear hK
    go_wp2_with (go_at_call 23; refine (c1 _ _ _ _ _ R).mono ?_; rintro e w2 ⟨ak, an, aa, am, ac, ai, az, aq, al, rfl, ja, hb⟩)
    obtain ⟨V2, hV2⟩ : ∃ V2, V2 = w2.alloc (.cells #[.string ak, .string an, .slice aa am ac, .int .i64 ai, .slice az aq al] 27) := ⟨_, rfl⟩
    have oa : BoxL V2 w2.heap.size [.string ak, .string an, .slice aa am ac, .int .i64 ai, .slice az aq al] := by rw [hV2]; exact boxL_new w2 _ _ rfl
    have hbb : Below w2.heap.size w2 V2 := by rw [hV2]; exact (Below.refl _ _).alloc (Nat.le_refl _) _
    replace ja := ja.below hbb
    have hb2 := Below.tr hb hbb
    replace R := R.below hb2
    replace hB := Below.tr hB hb2
    obtain ⟨pa, hpa⟩ : ∃ p, p = w2.heap.size := ⟨_, rfl⟩
    rw [← hpa] at oa
    rw [← hV2, ← hpa]
    refine HK.out _ _ ?_; clear HK K
    clear p0 p1 p2 p3 p4 hV2 hbb hb hpa
    have p0 := R.box.1 0 _ rfl; have p1 := R.box.1 1 _ rfl; have p2 := R.box.1 2 _ rfl; have p3 := R.box.1 3 _ rfl; have p4 := R.box.1 4 _ rfl
    refine wp_seq_k (fun K hK => ?_); have HK : Shut _ := hK; clear hK
    go_wp2_with (go_at_call 24; refine (c2 _ _ _ _ _ R).mono ?_; rintro e w2 ⟨bk, bn, ba, bm, bc, bi, bz, bq, bl, rfl, jb, hb⟩)
    obtain ⟨V2, hV2⟩ : ∃ V2, V2 = w2.alloc (.cells #[.string bk, .string bn, .slice ba bm bc, .int .i64 bi, .slice bz bq bl] 27) := ⟨_, rfl⟩
    have ob : BoxL V2 w2.heap.size [.string bk, .string bn, .slice ba bm bc, .int .i64 bi, .slice bz bq bl] := by rw [hV2]; exact boxL_new w2 _ _ rfl
    have hbb : Below w2.heap.size w2 V2 := by rw [hV2]; exact (Below.refl _ _).alloc (Nat.le_refl _) _
    replace jb := jb.below hbb
    have hb2 := Below.tr hb hbb
    replace R := R.below hb2
    replace hB := Below.tr hB hb2
    obtain ⟨pb, hpb⟩ : ∃ p, p = w2.heap.size := ⟨_, rfl⟩
    rw [← hpb] at ob
    rw [← hV2, ← hpb]
    refine HK.out _ _ ?_; clear HK K
    clear p0 p1 p2 p3 p4 hV2 hbb hb hpb
    replace ja := ja.below hb2; replace oa := oa.below hb2
    have p0 := R.box.1 0 _ rfl; have p1 := R.box.1 1 _ rfl; have p2 := R.box.1 2 _ rfl; have p3 := R.box.1 3 _ rfl; have p4 := R.box.1 4 _ rfl
    refine wp_seq_k (fun K hK => ?_); have HK : Shut _ := hK; clear hK
    go_wp2_with (go_at_call 25; refine (c3 _ _ _ _ _ R).mono ?_; rintro e w2 ⟨ck, cn, ca, cm, cc, ci, cz, cq, cl, rfl, jc, hb⟩)
    obtain ⟨V2, hV2⟩ : ∃ V2, V2 = w2.alloc (.cells #[.string ck, .string cn, .slice ca cm cc, .int .i64 ci, .slice cz cq cl] 27) := ⟨_, rfl⟩
    have oc : BoxL V2 w2.heap.size [.string ck, .string cn, .slice ca cm cc, .int .i64 ci, .slice cz cq cl] := by rw [hV2]; exact boxL_new w2 _ _ rfl
    have hbb : Below w2.heap.size w2 V2 := by rw [hV2]; exact (Below.refl _ _).alloc (Nat.le_refl _) _
    replace jc := jc.below hbb
    have hb2 := Below.tr hb hbb
    replace R := R.below hb2
    replace hB := Below.tr hB hb2
    obtain ⟨pc, hpc⟩ : ∃ p, p = w2.heap.size := ⟨_, rfl⟩
    rw [← hpc] at oc
    rw [← hV2, ← hpc]
    refine HK.out _ _ ?_; clear HK K
    clear p0 p1 p2 p3 p4 hV2 hbb hb hpc
    replace ja := ja.below hb2; replace oa := oa.below hb2; replace jb := jb.below hb2; replace ob := ob.below hb2
    have p0 := R.box.1 0 _ rfl; have p1 := R.box.1 1 _ rfl; have p2 := R.box.1 2 _ rfl; have p3 := R.box.1 3 _ rfl; have p4 := R.box.1 4 _ rfl
    refine wp_seq_k (fun K hK => ?_); have HK : Shut _ := hK; clear hK
    go_wp2_with (go_at_call 15; refine (cQ _ _ _ _ _ R).mono ?_; rintro e w2 ⟨rfl, hb2⟩)
    refine HK.out _ _ ?_; clear HK K
    clear p0 p1 p2 p3 p4
    replace R := R.below hb2
    replace hB := Below.tr hB hb2
    replace ja := ja.below hb2; replace oa := oa.below hb2; replace jb := jb.below hb2; replace ob := ob.below hb2; replace jc := jc.below hb2; replace oc := oc.below hb2
    have p0 := R.box.1 0 _ rfl; have p1 := R.box.1 1 _ rfl; have p2 := R.box.1 2 _ rfl; have p3 := R.box.1 3 _ rfl; have p4 := R.box.1 4 _ rfl
    refine wp_seq_k (fun K hK => ?_); have HK : Shut _ := hK; clear hK
    go_wp2_with (go_at_call 26; refine (d1 _ _ _ _ _ R).mono ?_; rintro e w2 ⟨xk, xn, xa, xm, xc, xi, xz, xq, xl, rfl, jx, hb⟩)
    obtain ⟨V2, hV2⟩ : ∃ V2, V2 = w2.alloc (.cells #[.string xk, .string xn, .slice xa xm xc, .int .i64 xi, .slice xz xq xl] 27) := ⟨_, rfl⟩
    have ox : BoxL V2 w2.heap.size [.string xk, .string xn, .slice xa xm xc, .int .i64 xi, .slice xz xq xl] := by rw [hV2]; exact boxL_new w2 _ _ rfl
    have hbb : Below w2.heap.size w2 V2 := by rw [hV2]; exact (Below.refl _ _).alloc (Nat.le_refl _) _
    replace jx := jx.below hbb
    have hb2 := Below.tr hb hbb
    replace R := R.below hb2
    replace hB := Below.tr hB hb2
    obtain ⟨px, hpx⟩ : ∃ p, p = w2.heap.size := ⟨_, rfl⟩
    rw [← hpx] at ox
    rw [← hV2, ← hpx]
    refine HK.out _ _ ?_; clear HK K
    clear p0 p1 p2 p3 p4 hV2 hbb hb hpx
    replace ja := ja.below hb2; replace oa := oa.below hb2; replace jb := jb.below hb2; replace ob := ob.below hb2; replace jc := jc.below hb2; replace oc := oc.below hb2
    have p0 := R.box.1 0 _ rfl; have p1 := R.box.1 1 _ rfl; have p2 := R.box.1 2 _ rfl; have p3 := R.box.1 3 _ rfl; have p4 := R.box.1 4 _ rfl
    refine wp_seq_k (fun K hK => ?_); have HK : Shut _ := hK; clear hK
    go_wp2_with (go_at_call 26; refine (d2 _ _ _ _ _ R).mono ?_; rintro e w2 ⟨yk, yn, ya, ym, yc, yi, yz, yq, yl, rfl, jy, hb⟩)
    obtain ⟨V2, hV2⟩ : ∃ V2, V2 = w2.alloc (.cells #[.string yk, .string yn, .slice ya ym yc, .int .i64 yi, .slice yz yq yl] 27) := ⟨_, rfl⟩
    have oy : BoxL V2 w2.heap.size [.string yk, .string yn, .slice ya ym yc, .int .i64 yi, .slice yz yq yl] := by rw [hV2]; exact boxL_new w2 _ _ rfl
    have hbb : Below w2.heap.size w2 V2 := by rw [hV2]; exact (Below.refl _ _).alloc (Nat.le_refl _) _
    replace jy := jy.below hbb
    have hb2 := Below.tr hb hbb
    replace R := R.below hb2
    replace hB := Below.tr hB hb2
    obtain ⟨py, hpy⟩ : ∃ p, p = w2.heap.size := ⟨_, rfl⟩
    rw [← hpy] at oy
    rw [← hV2, ← hpy]
    refine HK.out _ _ ?_; clear HK K
    clear p0 p1 p2 p3 p4 hV2 hbb hb hpy
    replace ja := ja.below hb2; replace oa := oa.below hb2; replace jb := jb.below hb2; replace ob := ob.below hb2; replace jc := jc.below hb2; replace oc := oc.below hb2; replace jx := jx.below hb2; replace ox := ox.below hb2
    have p0 := R.box.1 0 _ rfl; have p1 := R.box.1 1 _ rfl; have p2 := R.box.1 2 _ rfl; have p3 := R.box.1 3 _ rfl; have p4 := R.box.1 4 _ rfl
    refine wp_seq_k (fun K hK => ?_); have HK : Shut _ := hK; clear hK
    go_wp2_with (go_at_call 26; refine (d3 _ _ _ _ _ R).mono ?_; rintro e w2 ⟨zk, zn, za, zm, zc, zi, zz, zq, zl, rfl, jz, hb⟩)
    obtain ⟨V2, hV2⟩ : ∃ V2, V2 = w2.alloc (.cells #[.string zk, .string zn, .slice za zm zc, .int .i64 zi, .slice zz zq zl] 27) := ⟨_, rfl⟩
    have oz : BoxL V2 w2.heap.size [.string zk, .string zn, .slice za zm zc, .int .i64 zi, .slice zz zq zl] := by rw [hV2]; exact boxL_new w2 _ _ rfl
    have hbb : Below w2.heap.size w2 V2 := by rw [hV2]; exact (Below.refl _ _).alloc (Nat.le_refl _) _
    replace jz := jz.below hbb
    have hb2 := Below.tr hb hbb
    replace R := R.below hb2
    replace hB := Below.tr hB hb2
    obtain ⟨pz, hpz⟩ : ∃ p, p = w2.heap.size := ⟨_, rfl⟩
    rw [← hpz] at oz
    rw [← hV2, ← hpz]
    refine HK.out _ _ ?_; clear HK K
    clear p0 p1 p2 p3 p4 hV2 hbb hb hpz
    replace ja := ja.below hb2; replace oa := oa.below hb2; replace jb := jb.below hb2; replace ob := ob.below hb2; replace jc := jc.below hb2; replace oc := oc.below hb2; replace jx := jx.below hb2; replace ox := ox.below hb2; replace jy := jy.below hb2; replace oy := oy.below hb2
    have a0 := oa.1 0 _ rfl; have a1 := oa.1 1 _ rfl; have a2 := oa.1 2 _ rfl; have a3 := oa.1 3 _ rfl; have a4 := oa.1 4 _ rfl; have b0 := ob.1 0 _ rfl; have b1 := ob.1 1 _ rfl; have b2 := ob.1 2 _ rfl; have b3 := ob.1 3 _ rfl; have b4 := ob.1 4 _ rfl; have c0 := oc.1 0 _ rfl; have c1 := oc.1 1 _ rfl; have c2 := oc.1 2 _ rfl; have c3 := oc.1 3 _ rfl; have c4 := oc.1 4 _ rfl; have x0 := ox.1 0 _ rfl; have x1 := ox.1 1 _ rfl; have x2 := ox.1 2 _ rfl; have x3 := ox.1 3 _ rfl; have x4 := ox.1 4 _ rfl; have y0 := oy.1 0 _ rfl; have y1 := oy.1 1 _ rfl; have y2 := oy.1 2 _ rfl; have y3 := oy.1 3 _ rfl; have y4 := oy.1 4 _ rfl; have z0 := oz.1 0 _ rfl; have z1 := oz.1 1 _ rfl; have z2 := oz.1 2 _ rfl; have z3 := oz.1 3 _ rfl; have z4 := oz.1 4 _ rfl
    clear R c1 c2 c3 cQ d1 d2 d3 cF
    have tok0 : True := trivial
    have tok1 : True := trivial
    have tok2 : True := trivial
    go_wp2_with (first
      | (go_at_call 16; refine (alive19_any _).mono ?_; rintro e w3 ⟨rfl, hb⟩; clear a0 a1 a2 a3 a4 b0 b1 b2 b3 b4 c0 c1 c2 c3 c4 x0 x1 x2 x3 x4 y0 y1 y2 y3 y4 z0 z1 z2 z3 z4; replace ja := ja.below hb; replace oa := oa.below hb; replace jb := jb.below hb; replace ob := ob.below hb; replace jc := jc.below hb; replace oc := oc.below hb; replace jx := jx.below hb; replace ox := ox.below hb; replace jy := jy.below hb; replace oy := oy.below hb; replace jz := jz.below hb; replace oz := oz.below hb; have a0 := oa.1 0 _ rfl; have a1 := oa.1 1 _ rfl; have a2 := oa.1 2 _ rfl; have a3 := oa.1 3 _ rfl; have a4 := oa.1 4 _ rfl; have b0 := ob.1 0 _ rfl; have b1 := ob.1 1 _ rfl; have b2 := ob.1 2 _ rfl; have b3 := ob.1 3 _ rfl; have b4 := ob.1 4 _ rfl; have c0 := oc.1 0 _ rfl; have c1 := oc.1 1 _ rfl; have c2 := oc.1 2 _ rfl; have c3 := oc.1 3 _ rfl; have c4 := oc.1 4 _ rfl; have x0 := ox.1 0 _ rfl; have x1 := ox.1 1 _ rfl; have x2 := ox.1 2 _ rfl; have x3 := ox.1 3 _ rfl; have x4 := ox.1 4 _ rfl; have y0 := oy.1 0 _ rfl; have y1 := oy.1 1 _ rfl; have y2 := oy.1 2 _ rfl; have y3 := oy.1 3 _ rfl; have y4 := oy.1 4 _ rfl; have z0 := oz.1 0 _ rfl; have z1 := oz.1 1 _ rfl; have z2 := oz.1 2 _ rfl; have z3 := oz.1 3 _ rfl; have z4 := oz.1 4 _ rfl; replace hB := Below.tr hB hb; clear hb)
      | (go_at_call 12; clear tok0; refine (likeS_any ja jx).mono ?_; rintro e w4 ⟨rfl, hb⟩; clear a0 a1 a2 a3 a4 b0 b1 b2 b3 b4 c0 c1 c2 c3 c4 x0 x1 x2 x3 x4 y0 y1 y2 y3 y4 z0 z1 z2 z3 z4; replace ja := ja.below hb; replace oa := oa.below hb; replace jb := jb.below hb; replace ob := ob.below hb; replace jc := jc.below hb; replace oc := oc.below hb; replace jx := jx.below hb; replace ox := ox.below hb; replace jy := jy.below hb; replace oy := oy.below hb; replace jz := jz.below hb; replace oz := oz.below hb; have a0 := oa.1 0 _ rfl; have a1 := oa.1 1 _ rfl; have a2 := oa.1 2 _ rfl; have a3 := oa.1 3 _ rfl; have a4 := oa.1 4 _ rfl; have b0 := ob.1 0 _ rfl; have b1 := ob.1 1 _ rfl; have b2 := ob.1 2 _ rfl; have b3 := ob.1 3 _ rfl; have b4 := ob.1 4 _ rfl; have c0 := oc.1 0 _ rfl; have c1 := oc.1 1 _ rfl; have c2 := oc.1 2 _ rfl; have c3 := oc.1 3 _ rfl; have c4 := oc.1 4 _ rfl; have x0 := ox.1 0 _ rfl; have x1 := ox.1 1 _ rfl; have x2 := ox.1 2 _ rfl; have x3 := ox.1 3 _ rfl; have x4 := ox.1 4 _ rfl; have y0 := oy.1 0 _ rfl; have y1 := oy.1 1 _ rfl; have y2 := oy.1 2 _ rfl; have y3 := oy.1 3 _ rfl; have y4 := oy.1 4 _ rfl; have z0 := oz.1 0 _ rfl; have z1 := oz.1 1 _ rfl; have z2 := oz.1 2 _ rfl; have z3 := oz.1 3 _ rfl; have z4 := oz.1 4 _ rfl; replace hB := Below.tr hB hb; clear hb)
      | (go_at_call 12; clear tok1; refine (likeS_any jb jy).mono ?_; rintro e w4 ⟨rfl, hb⟩; clear a0 a1 a2 a3 a4 b0 b1 b2 b3 b4 c0 c1 c2 c3 c4 x0 x1 x2 x3 x4 y0 y1 y2 y3 y4 z0 z1 z2 z3 z4; replace ja := ja.below hb; replace oa := oa.below hb; replace jb := jb.below hb; replace ob := ob.below hb; replace jc := jc.below hb; replace oc := oc.below hb; replace jx := jx.below hb; replace ox := ox.below hb; replace jy := jy.below hb; replace oy := oy.below hb; replace jz := jz.below hb; replace oz := oz.below hb; have a0 := oa.1 0 _ rfl; have a1 := oa.1 1 _ rfl; have a2 := oa.1 2 _ rfl; have a3 := oa.1 3 _ rfl; have a4 := oa.1 4 _ rfl; have b0 := ob.1 0 _ rfl; have b1 := ob.1 1 _ rfl; have b2 := ob.1 2 _ rfl; have b3 := ob.1 3 _ rfl; have b4 := ob.1 4 _ rfl; have c0 := oc.1 0 _ rfl; have c1 := oc.1 1 _ rfl; have c2 := oc.1 2 _ rfl; have c3 := oc.1 3 _ rfl; have c4 := oc.1 4 _ rfl; have x0 := ox.1 0 _ rfl; have x1 := ox.1 1 _ rfl; have x2 := ox.1 2 _ rfl; have x3 := ox.1 3 _ rfl; have x4 := ox.1 4 _ rfl; have y0 := oy.1 0 _ rfl; have y1 := oy.1 1 _ rfl; have y2 := oy.1 2 _ rfl; have y3 := oy.1 3 _ rfl; have y4 := oy.1 4 _ rfl; have z0 := oz.1 0 _ rfl; have z1 := oz.1 1 _ rfl; have z2 := oz.1 2 _ rfl; have z3 := oz.1 3 _ rfl; have z4 := oz.1 4 _ rfl; replace hB := Below.tr hB hb; clear hb)
      | (go_at_call 12; clear tok2; refine (likeS_any jc jz).mono ?_; rintro e w4 ⟨rfl, hb⟩; clear a0 a1 a2 a3 a4 b0 b1 b2 b3 b4 c0 c1 c2 c3 c4 x0 x1 x2 x3 x4 y0 y1 y2 y3 y4 z0 z1 z2 z3 z4; replace ja := ja.below hb; replace oa := oa.below hb; replace jb := jb.below hb; replace ob := ob.below hb; replace jc := jc.below hb; replace oc := oc.below hb; replace jx := jx.below hb; replace ox := ox.below hb; replace jy := jy.below hb; replace oy := oy.below hb; replace jz := jz.below hb; replace oz := oz.below hb; have a0 := oa.1 0 _ rfl; have a1 := oa.1 1 _ rfl; have a2 := oa.1 2 _ rfl; have a3 := oa.1 3 _ rfl; have a4 := oa.1 4 _ rfl; have b0 := ob.1 0 _ rfl; have b1 := ob.1 1 _ rfl; have b2 := ob.1 2 _ rfl; have b3 := ob.1 3 _ rfl; have b4 := ob.1 4 _ rfl; have c0 := oc.1 0 _ rfl; have c1 := oc.1 1 _ rfl; have c2 := oc.1 2 _ rfl; have c3 := oc.1 3 _ rfl; have c4 := oc.1 4 _ rfl; have x0 := ox.1 0 _ rfl; have x1 := ox.1 1 _ rfl; have x2 := ox.1 2 _ rfl; have x3 := ox.1 3 _ rfl; have x4 := ox.1 4 _ rfl; have y0 := oy.1 0 _ rfl; have y1 := oy.1 1 _ rfl; have y2 := oy.1 2 _ rfl; have y3 := oy.1 3 _ rfl; have y4 := oy.1 4 _ rfl; have z0 := oz.1 0 _ rfl; have z1 := oz.1 1 _ rfl; have z2 := oz.1 2 _ rfl; have z3 := oz.1 3 _ rfl; have z4 := oz.1 4 _ rfl; replace hB := Below.tr hB hb; clear hb))
    go_ret
    exact ⟨rfl, hB⟩
  | false =>
    obtain ⟨rfl, rfl, rfl⟩ := HE.out rfl
    clear d1 d2 d3
    go_enter Try.func5, Try.ntmps5
    refine wp_seq_k (fun K hK => ?_); have HK : Shut _ := hK; clear hK
    go_wp2
    refine HK.out _ _ ?_; clear HK K
    refine wp_seq_k (fun K hK => ?_); have HK : Shut _ := hK; clear hK
    go_wp2_with (go_at_call 9; refine cF.mono ?_; rintro e w1 ⟨a, c, m, q, u0, u1, u2, u3, u4, rfl, b1, R, hB⟩; have v0 := b1.1 0 _ rfl; have v1 := b1.1 1 _ rfl; have v2 := b1.1 2 _ rfl; have v3 := b1.1 3 _ rfl; have v4 := b1.1 4 _ rfl; have f0 := b1.2 0 (by simp); have f1 := b1.2 1 (by simp); have f2 := b1.2 2 (by simp); have f3 := b1.2 3 (by simp); have f4 := b1.2 4 (by simp))
    obtain ⟨Z, hZ9⟩ : ∃ Z, Z = (((((w1.setCell ⟨w.heap.size, 0, none⟩ (.string ky)).setCell ⟨w.heap.size, 1, none⟩ (.string nm)).setCell ⟨w.heap.size, 2, none⟩ (.slice a m c)).setCell ⟨w.heap.size, 3, none⟩ (.int .i64 is)).setCell ⟨w.heap.size, 4, none⟩ (.slice sa q sc)) := ⟨_, rfl⟩
    rw [← hZ9] at R hB
    rw [← hZ9]
    refine HK.out _ _ ?_; clear HK K
    clear hZ9 v0 v1 v2 v3 v4
    have p0 := R.box.1 0 _ rfl; have p1 := R.box.1 1 _ rfl; have p2 := R.box.1 2 _ rfl; have p3 := R.box.1 3 _ rfl; have p4 := R.box.1 4 _ rfl
    refine wp_seq_k (fun K hK => ?_); have HK : Shut _ := hK; clear hK
    go_wp2_with (go_at_call 23; refine (c1 _ _ _ _ _ R).mono ?_; rintro e w2 ⟨ak, an, aa, am, ac, ai, az, aq, al, rfl, ja, hb⟩)
    obtain ⟨V2, hV2⟩ : ∃ V2, V2 = w2.alloc (.cells #[.string ak, .string an, .slice aa am ac, .int .i64 ai, .slice az aq al] 27) := ⟨_, rfl⟩
    have oa : BoxL V2 w2.heap.size [.string ak, .string an, .slice aa am ac, .int .i64 ai, .slice az aq al] := by rw [hV2]; exact boxL_new w2 _ _ rfl
    have hbb : Below w2.heap.size w2 V2 := by rw [hV2]; exact (Below.refl _ _).alloc (Nat.le_refl _) _
    replace ja := ja.below hbb
    have hb2 := Below.tr hb hbb
    replace R := R.below hb2
    replace hB := Below.tr hB hb2
    obtain ⟨pa, hpa⟩ : ∃ p, p = w2.heap.size := ⟨_, rfl⟩
    rw [← hpa] at oa
    rw [← hV2, ← hpa]
    refine HK.out _ _ ?_; clear HK K
    clear p0 p1 p2 p3 p4 hV2 hbb hb hpa
    have p0 := R.box.1 0 _ rfl; have p1 := R.box.1 1 _ rfl; have p2 := R.box.1 2 _ rfl; have p3 := R.box.1 3 _ rfl; have p4 := R.box.1 4 _ rfl
    refine wp_seq_k (fun K hK => ?_); have HK : Shut _ := hK; clear hK
    go_wp2_with (go_at_call 24; refine (c2 _ _ _ _ _ R).mono ?_; rintro e w2 ⟨bk, bn, ba, bm, bc, bi, bz, bq, bl, rfl, jb, hb⟩)
    obtain ⟨V2, hV2⟩ : ∃ V2, V2 = w2.alloc (.cells #[.string bk, .string bn, .slice ba bm bc, .int .i64 bi, .slice bz bq bl] 27) := ⟨_, rfl⟩
    have ob : BoxL V2 w2.heap.size [.string bk, .string bn, .slice ba bm bc, .int .i64 bi, .slice bz bq bl] := by rw [hV2]; exact boxL_new w2 _ _ rfl
    have hbb : Below w2.heap.size w2 V2 := by rw [hV2]; exact (Below.refl _ _).alloc (Nat.le_refl _) _
    replace jb := jb.below hbb
    have hb2 := Below.tr hb hbb
    replace R := R.below hb2
    replace hB := Below.tr hB hb2
    obtain ⟨pb, hpb⟩ : ∃ p, p = w2.heap.size := ⟨_, rfl⟩
    rw [← hpb] at ob
    rw [← hV2, ← hpb]
    refine HK.out _ _ ?_; clear HK K
    clear p0 p1 p2 p3 p4 hV2 hbb hb hpb
    replace ja := ja.below hb2; replace oa := oa.below hb2
    have p0 := R.box.1 0 _ rfl; have p1 := R.box.1 1 _ rfl; have p2 := R.box.1 2 _ rfl; have p3 := R.box.1 3 _ rfl; have p4 := R.box.1 4 _ rfl
    refine wp_seq_k (fun K hK => ?_); have HK : Shut _ := hK; clear hK
    go_wp2_with (go_at_call 25; refine (c3 _ _ _ _ _ R).mono ?_; rintro e w2 ⟨ck, cn, ca, cm, cc, ci, cz, cq, cl, rfl, jc, hb⟩)
    obtain ⟨V2, hV2⟩ : ∃ V2, V2 = w2.alloc (.cells #[.string ck, .string cn, .slice ca cm cc, .int .i64 ci, .slice cz cq cl] 27) := ⟨_, rfl⟩
    have oc : BoxL V2 w2.heap.size [.string ck, .string cn, .slice ca cm cc, .int .i64 ci, .slice cz cq cl] := by rw [hV2]; exact boxL_new w2 _ _ rfl
    have hbb : Below w2.heap.size w2 V2 := by rw [hV2]; exact (Below.refl _ _).alloc (Nat.le_refl _) _
    replace jc := jc.below hbb
    have hb2 := Below.tr hb hbb
    replace R := R.below hb2
    replace hB := Below.tr hB hb2
    obtain ⟨pc, hpc⟩ : ∃ p, p = w2.heap.size := ⟨_, rfl⟩
    rw [← hpc] at oc
    rw [← hV2, ← hpc]
    refine HK.out _ _ ?_; clear HK K
    clear p0 p1 p2 p3 p4 hV2 hbb hb hpc
    replace ja := ja.below hb2; replace oa := oa.below hb2; replace jb := jb.below hb2; replace ob := ob.below hb2
    have p0 := R.box.1 0 _ rfl; have p1 := R.box.1 1 _ rfl; have p2 := R.box.1 2 _ rfl; have p3 := R.box.1 3 _ rfl; have p4 := R.box.1 4 _ rfl
    refine wp_seq_k (fun K hK => ?_); have HK : Shut _ := hK; clear hK
    have tok0 : True := trivial
    have tok1 : True := trivial
    have tok2 : True := trivial
    go_wp2_with (first
      | (go_at_call 15; refine (cQ _ _ _ _ _ R).mono ?_; rintro e w2 ⟨rfl, hb'⟩; clear p0 p1 p2 p3 p4; obtain ⟨V2, hV2⟩ : ∃ V2, V2 = w2.alloc (.cells #[.string ⟨#[]⟩, .string ⟨#[]⟩, .slice none 0 0, .int .i64 0, .slice none 0 0] 27) := ⟨_, rfl⟩; have hb2 := Below.tr hb' (show Below w2.heap.size w2 V2 by rw [hV2]; exact (Below.refl _ _).alloc (Nat.le_refl _) _); have oN : BoxL V2 w2.heap.size [.string ⟨#[]⟩, .string ⟨#[]⟩, .slice none 0 0, .int .i64 0, .slice none 0 0] := (by rw [hV2]; exact boxL_new w2 _ _ rfl); replace hB := Below.tr hB hb2; replace ja := ja.below hb2; replace oa := oa.below hb2; replace jb := jb.below hb2; replace ob := ob.below hb2; replace jc := jc.below hb2; replace oc := oc.below hb2; clear R hb' hb2)
      | (go_at_call 16; rw [← hV2]; refine (alive19_any _).mono ?_; rintro e w3 ⟨rfl, hb2⟩; replace ja := ja.below hb2; replace oa := oa.below hb2; replace jb := jb.below hb2; replace ob := ob.below hb2; replace jc := jc.below hb2; replace oc := oc.below hb2; replace oN := oN.below hb2; replace hB := Below.tr hB hb2; clear hV2 hb2; have a0 := oa.1 0 _ rfl; have a1 := oa.1 1 _ rfl; have a2 := oa.1 2 _ rfl; have a3 := oa.1 3 _ rfl; have a4 := oa.1 4 _ rfl; have b0 := ob.1 0 _ rfl; have b1 := ob.1 1 _ rfl; have b2 := ob.1 2 _ rfl; have b3 := ob.1 3 _ rfl; have b4 := ob.1 4 _ rfl; have c0 := oc.1 0 _ rfl; have c1 := oc.1 1 _ rfl; have c2 := oc.1 2 _ rfl; have c3 := oc.1 3 _ rfl; have c4 := oc.1 4 _ rfl; have N0 := oN.1 0 _ rfl; have N1 := oN.1 1 _ rfl; have N2 := oN.1 2 _ rfl; have N3 := oN.1 3 _ rfl; have N4 := oN.1 4 _ rfl)
      | (go_at_call 12; clear tok0; refine (likeS_any ja (said_zero _ (by decide) _ _ _ _ _)).mono ?_; rintro e w4 ⟨rfl, hb⟩; have oM := oN.below hb; clear N0 N1 N2 N3 N4 oN; have oN := oM; clear oM; have N0 := oN.1 0 _ rfl; have N1 := oN.1 1 _ rfl; have N2 := oN.1 2 _ rfl; have N3 := oN.1 3 _ rfl; have N4 := oN.1 4 _ rfl; clear a0 a1 a2 a3 a4 b0 b1 b2 b3 b4 c0 c1 c2 c3 c4; replace ja := ja.below hb; replace oa := oa.below hb; replace jb := jb.below hb; replace ob := ob.below hb; replace jc := jc.below hb; replace oc := oc.below hb; have a0 := oa.1 0 _ rfl; have a1 := oa.1 1 _ rfl; have a2 := oa.1 2 _ rfl; have a3 := oa.1 3 _ rfl; have a4 := oa.1 4 _ rfl; have b0 := ob.1 0 _ rfl; have b1 := ob.1 1 _ rfl; have b2 := ob.1 2 _ rfl; have b3 := ob.1 3 _ rfl; have b4 := ob.1 4 _ rfl; have c0 := oc.1 0 _ rfl; have c1 := oc.1 1 _ rfl; have c2 := oc.1 2 _ rfl; have c3 := oc.1 3 _ rfl; have c4 := oc.1 4 _ rfl; replace hB := Below.tr hB hb; clear hb)
      | (go_at_call 12; clear tok1; refine (likeS_any jb (said_zero _ (by decide) _ _ _ _ _)).mono ?_; rintro e w4 ⟨rfl, hb⟩; have oM := oN.below hb; clear N0 N1 N2 N3 N4 oN; have oN := oM; clear oM; have N0 := oN.1 0 _ rfl; have N1 := oN.1 1 _ rfl; have N2 := oN.1 2 _ rfl; have N3 := oN.1 3 _ rfl; have N4 := oN.1 4 _ rfl; clear a0 a1 a2 a3 a4 b0 b1 b2 b3 b4 c0 c1 c2 c3 c4; replace ja := ja.below hb; replace oa := oa.below hb; replace jb := jb.below hb; replace ob := ob.below hb; replace jc := jc.below hb; replace oc := oc.below hb; have a0 := oa.1 0 _ rfl; have a1 := oa.1 1 _ rfl; have a2 := oa.1 2 _ rfl; have a3 := oa.1 3 _ rfl; have a4 := oa.1 4 _ rfl; have b0 := ob.1 0 _ rfl; have b1 := ob.1 1 _ rfl; have b2 := ob.1 2 _ rfl; have b3 := ob.1 3 _ rfl; have b4 := ob.1 4 _ rfl; have c0 := oc.1 0 _ rfl; have c1 := oc.1 1 _ rfl; have c2 := oc.1 2 _ rfl; have c3 := oc.1 3 _ rfl; have c4 := oc.1 4 _ rfl; replace hB := Below.tr hB hb; clear hb)
      | (go_at_call 12; clear tok2; refine (likeS_any jc (said_zero _ (by decide) _ _ _ _ _)).mono ?_; rintro e w4 ⟨rfl, hb⟩; have oM := oN.below hb; clear N0 N1 N2 N3 N4 oN; have oN := oM; clear oM; have N0 := oN.1 0 _ rfl; have N1 := oN.1 1 _ rfl; have N2 := oN.1 2 _ rfl; have N3 := oN.1 3 _ rfl; have N4 := oN.1 4 _ rfl; clear a0 a1 a2 a3 a4 b0 b1 b2 b3 b4 c0 c1 c2 c3 c4; replace ja := ja.below hb; replace oa := oa.below hb; replace jb := jb.below hb; replace ob := ob.below hb; replace jc := jc.below hb; replace oc := oc.below hb; have a0 := oa.1 0 _ rfl; have a1 := oa.1 1 _ rfl; have a2 := oa.1 2 _ rfl; have a3 := oa.1 3 _ rfl; have a4 := oa.1 4 _ rfl; have b0 := ob.1 0 _ rfl; have b1 := ob.1 1 _ rfl; have b2 := ob.1 2 _ rfl; have b3 := ob.1 3 _ rfl; have b4 := ob.1 4 _ rfl; have c0 := oc.1 0 _ rfl; have c1 := oc.1 1 _ rfl; have c2 := oc.1 2 _ rfl; have c3 := oc.1 3 _ rfl; have c4 := oc.1 4 _ rfl; replace hB := Below.tr hB hb; clear hb))
    go_ret
    exact ⟨rfl, hB⟩

end Go.Proofs.Ytdpljpjbomhccaa


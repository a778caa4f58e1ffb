/-
  The walk through the statement RunRights.
-/
import Derived.Test.YtpjaeaepifpmjaaRrC
import Derived.Test.YtpjaeaepifpmjaaRrB
import Derived.Test.YtpjaeaepifpmjaaRrD
namespace Go.Proofs.Ytpjaeaepifpmjaa
open Go.RowKit Plain
set_option linter.unusedVariables false



set_option maxRecDepth 20000 in
set_option maxHeartbeats 4000000 in
theorem runRights_walk (ky nm : ByteArray) (ta : Option Addr) (tc : Nat) (tv : List TaskV) (is : Int) (sa : Option Addr) (sc : Nat) (ss : List StP) (now : Int) (w : World) (hky : ky.size ≤ maxLen) (hnm : nm.size ≤ maxLen) (hT : IsT w ta tc tv) (wi : (Lit.int .i64 is).wf = true) (hZ : IsZ w sa sc ss) (wn : (Lit.int .i64 now).wf = true) :
    Calls Try.prog 3 #[.agg #[.string ky, .string nm, .slice ta tv.length tc, .int .i64 is, .slice sa ss.length sc], .int .i64 now] w fun e w' => e = .returned (.bool true) ∧ Below w.heap.size w w' := by
  have hnow := (wf_le wn).2
  clear wi wn
  obtain ⟨tn, htn⟩ : ∃ x, x = tv.length := ⟨_, rfl⟩
  obtain ⟨n, hn⟩ : ∃ x, x = ss.length := ⟨_, rfl⟩
  rw [← htn, ← hn]
  have cF := fewRun_any ky nm ta tn tc is sa n sc tv ss w htn hT hn hZ
  unfold FewRun at cF
  obtain ⟨fs, hfs⟩ : ∃ fs, fs = fewT tv := ⟨_, rfl⟩
  obtain ⟨gs, hgs⟩ : ∃ gs, gs = fewS ss := ⟨_, rfl⟩
  rw [← hfs, ← hgs] at cF
  obtain ⟨MS, hMS⟩ : ∃ MS, MS = mendS (plainT fs) (zerosS fs.length) 0 := ⟨_, rfl⟩
  obtain ⟨SS, hSS⟩ : ∃ SS, SS = settleS (plainT fs) (untF now []) (gs, is) := ⟨_, rfl⟩
  obtain ⟨r, hr⟩ : ∃ r, r = rightG nm (plainT fs) := ⟨_, rfl⟩
  obtain ⟨E, hE⟩ : ∃ E, E = if 1 ≤ ky.size ∧ ky.size ≤ 16 then r else 1 := ⟨_, rfl⟩
  obtain ⟨ok, hok⟩ : ∃ ok, ok = runB ky nm (plainT fs) gs is := ⟨_, rfl⟩
  obtain ⟨F, hF⟩ : ∃ F : Int, F = if runB ky nm (plainT fs) gs is = true then 0 else 1 := ⟨_, rfl⟩
  have cN : ∀ V a m c q, RunIn V w.heap.size ky nm a m c is sa q sc fs gs → Calls Try.prog 10 #[.string ky, .agg #[.string nm, .slice a m c]] V fun e w' => ToldU V E ky nm MS.2 (plainT fs) MS.1 e w' := fun V a m c q R => by rw [hMS]; exact newU_any ky nm a m c fs V hky R.hT R.htn E (by rw [hE, hr])
  have cW : ∀ V a m c q, RunIn V w.heap.size ky nm a m c is sa q sc fs gs → Calls Try.prog 11 #[.agg #[.string nm, .slice a m c]] V fun e w' => e = .returned (.int .i64 r) ∧ Below V.heap.size V w' := fun V a m c q R => by rw [hr]; exact refRight16_any nm a c m fs V hnm R.htn R.hT
  have cS : ∀ V a m c q, RunIn V w.heap.size ky nm a m c is sa q sc fs gs → Calls Try.prog 14 #[.agg #[.string ky, .string nm, .slice a m c, .int .i64 is, .slice sa q sc], .int .i64 now] V fun e w' => ToldU V F ky nm SS.2 (plainT fs) SS.1 e w' := fun V a m c q R => by rw [hSS]; exact settleU_any ky nm a m c is sa q sc fs gs now V hky R.hT R.htn R.hZ R.hn F hF
  have cR : ∀ V a m c q, RunIn V w.heap.size ky nm a m c is sa q sc fs gs → Calls Try.prog 17 #[.agg #[.string ky, .string nm, .slice a m c, .int .i64 is, .slice sa q sc]] V fun e w' => e = .returned (.bool ok) ∧ Below V.heap.size V w' := fun V a m c q R => by rw [hok]; exact runRight_any ky nm a m c is sa q sc fs gs V hky R.hT R.htn R.hZ R.hn
  have cQ : ∀ V a m c q, RunIn V w.heap.size ky nm a m c is sa q sc fs gs → Calls Try.prog 15 #[.agg #[.string ky, .string nm, .slice a m c, .int .i64 is, .slice sa q sc]] V fun e w' => e = .returned (.bool ok) ∧ Below V.heap.size V w' := fun V a m c q R => by rw [hok]; exact refRight19_any ky nm a m c is sa q sc fs gs V hky hnm R.hT R.htn R.hZ R.hn
  have cT : r = 0 → ∀ V a m c q, RunIn V w.heap.size ky nm a m c is sa q sc fs gs → Calls Try.prog 13 #[.string ky, .agg #[.string nm, .slice a m c]] V fun e w' => ∃ a' c', e = .returned (.agg #[.string ky, .string nm, .slice a m c, .int .i64 MS.2, .slice a' m c']) ∧ IsZ w' a' c' MS.1 ∧ m = MS.1.length ∧ Below V.heap.size V w' := fun h V a m c q R => by
    obtain ⟨h10, h0, hin⟩ := inside_of R.htn (by rw [← hr]; exact h)
    rw [hMS]
    exact refNew_any ky nm a m c fs V R.hT R.htn h10 hin
  have cU : ok = true → ∀ V a m c q, RunIn V w.heap.size ky nm a m c is sa q sc fs gs → Calls Try.prog 18 #[.agg #[.string ky, .string nm, .slice a m c, .int .i64 is, .slice sa q sc], .int .i64 now] V fun e w' => ∃ a' c', e = .returned (.agg #[.string ky, .string nm, .slice a m c, .int .i64 SS.2, .slice a' q c']) ∧ IsZ w' a' c' SS.1 ∧ q = SS.1.length ∧ Below V.heap.size V w' := fun h V a m c q R => by
    rw [hSS]
    exact refSettle_any ky nm a m c is sa q sc fs gs now V R.hT R.htn R.hZ R.hn hnow (runB_iff.1 (by rw [← hok]; exact h))
  have HOK : Hid (ok = runB ky nm (plainT fs) gs is) := hok
  have HE : Hid (E = if 1 ≤ ky.size ∧ ky.size ≤ 16 then r else 1) := hE
  have HR : Hid (r = rightG nm (plainT fs)) := hr
  have HF : Hid (F = if runB ky nm (plainT fs) gs is = true then 0 else 1) := hF
  obtain ⟨ms, mi⟩ := MS
  obtain ⟨zs, zi⟩ := SS
  clear hMS hSS hnow
  dsimp only at cN cS cT cU
  clear hok hr hF hfs hgs htn hn hT hZ
  by_cases hk : 1 ≤ ky.size ∧ ky.size ≤ 16
  · have k1 : ¬ (ky.size : Int) < 1 := by omega
    have k2 : ¬ (16 : Int) < ky.size := by omega
    rw [if_pos hk] at hE
    subst hE
    by_cases h0 : E = 0
    · replace cT := cT h0
      subst h0
      cases ok with
      | true =>
        replace cU := cU rfl
        obtain rfl : F = 0 := by rw [HF.out, ← HOK.out]; rfl
        go_enter Try.func3, Try.ntmps3
        go_wp2_with (first
          | (go_at_call 9; refine cF.mono ?_; rintro e w1 ⟨a, c, m, q, u0, u1, u2, u3, u4, rfl, b1, R1, hB1⟩; have v0 := b1.1 0 _ rfl; have v1 := b1.1 1 _ rfl; have v2 := b1.1 2 _ rfl; have v3 := b1.1 3 _ rfl; have v4 := b1.1 4 _ rfl; have d0 := b1.2 0 (by simp); have d1 := b1.2 1 (by simp); have d2 := b1.2 2 (by simp); have d3 := b1.2 3 (by simp); have d4 := b1.2 4 (by simp); obtain ⟨Z, hZ9⟩ : ∃ Z, Z = (((((w1.setCell ⟨w.heap.size, 0, none⟩ (.string ky)).setCell ⟨w.heap.size, 1, none⟩ (.string nm)).setCell ⟨w.heap.size, 2, none⟩ (.slice a m c)).setCell ⟨w.heap.size, 3, none⟩ (.int .i64 is)).setCell ⟨w.heap.size, 4, none⟩ (.slice sa q sc)) := ⟨_, rfl⟩; rw [← hZ9] at R1 hB1; have p0 := R1.box.1 0 _ rfl; have p1 := R1.box.1 1 _ rfl; have p2 := R1.box.1 2 _ rfl; have p3 := R1.box.1 3 _ rfl; have p4 := R1.box.1 4 _ rfl; rw [hZ9] at p0 p1 p2 p3 p4)
          | (go_at_call 10; rw [← hZ9]; refine (cN Z a m c q R1).mono ?_; rintro e w2 ⟨xk, xn, xa, xm, xc, xi, xs, xq, xsc, xt, xz, rfl, hX, h0, h1, hb⟩; obtain ⟨rfl, rfl, rfl, hxt, rfl⟩ := h0 rfl; clear h0 h1; obtain ⟨X, hX9⟩ : ∃ X, X = w2.alloc (.cells #[.string ky, .string nm, .slice xa xm xc, .int .i64 mi, .slice xs xq xsc] 27) := ⟨_, rfl⟩; have hbW : Below w2.heap.size w2 X := (by rw [hX9]; exact (Below.refl _ _).alloc (Nat.le_refl _) _); have hbX : Below Z.heap.size Z X := Below.tr hb hbW; have BX : BoxL X w2.heap.size [.string ky, .string nm, .slice xa xm xc, .int .i64 mi, .slice xs xq xsc] := (by rw [hX9]; exact boxL_new w2 [.string ky, .string nm, .slice xa xm xc, .int .i64 mi, .slice xs xq xsc] _ rfl); replace hX := hX.below hbW; have R := R1.below hbX; have hB := Below.tr hB1 hbX; clear p0 p1 p2 p3 p4 v0 v1 v2 v3 v4 d0 d1 d2 d3 d4 hb hbW hbX R1 hB1 b1; have p0 := R.box.1 0 _ rfl; have p1 := R.box.1 1 _ rfl; have p2 := R.box.1 2 _ rfl; have p3 := R.box.1 3 _ rfl; have p4 := R.box.1 4 _ rfl; have x0 := BX.1 0 _ rfl; have x1 := BX.1 1 _ rfl; have x2 := BX.1 2 _ rfl; have x3 := BX.1 3 _ rfl; have x4 := BX.1 4 _ rfl; rw [hX9] at p0 p1 p2 p3 p4 x0 x1 x2 x3 x4)
          | (go_at_call 11; rw [← hX9]; refine (cW X a m c q R).mono ?_; rintro e w3 ⟨rfl, hb⟩; clear p0 p1 p2 p3 p4 x0 x1 x2 x3 x4; replace BX := BX.below hb; replace hX := hX.below hb; replace R := R.below hb; replace hB := Below.tr hB hb; clear hb; have p0 := R.box.1 0 _ rfl; have p1 := R.box.1 1 _ rfl; have p2 := R.box.1 2 _ rfl; have p3 := R.box.1 3 _ rfl; have p4 := R.box.1 4 _ rfl; have x0 := BX.1 0 _ rfl; have x1 := BX.1 1 _ rfl; have x2 := BX.1 2 _ rfl; have x3 := BX.1 3 _ rfl; have x4 := BX.1 4 _ rfl)
          )
        refine wp_region_noPanic ?_
        refine wp_region_held_drew (S := fun V => (V.cell? ⟨w.heap.size, 0, none⟩ = some (.string ky) ∧ V.cell? ⟨w.heap.size, 1, none⟩ = some (.string nm) ∧ V.cell? ⟨w.heap.size, 2, none⟩ = some (.slice a m c)) ∧ V.cell? ⟨w2.heap.size, 0, none⟩ = some (.string ky) ∧ V.cell? ⟨w2.heap.size, 1, none⟩ = some (.string nm) ∧ V.cell? ⟨w2.heap.size, 2, none⟩ = some (.slice xa xm xc) ∧ V.cell? ⟨w2.heap.size, 3, none⟩ = some (.int .i64 mi) ∧ V.cell? ⟨w2.heap.size, 4, none⟩ = some (.slice xs xq xsc)) (by kernel_rfl) ⟨⟨p0, p1, p2⟩, x0, x1, x2, x3, x4⟩ (fun hHeld => ?_)
        have hb := (Below.refl w3.heap.size w3).drew; clear p0 p1 p2 p3 p4 x0 x1 x2 x3 x4; replace BX := BX.below hb; replace hX := hX.below hb; replace R := R.below hb; replace hB := Below.tr hB hb; clear hb; have p0 := R.box.1 0 _ rfl; have p1 := R.box.1 1 _ rfl; have p2 := R.box.1 2 _ rfl; have p3 := R.box.1 3 _ rfl; have p4 := R.box.1 4 _ rfl; have x0 := BX.1 0 _ rfl; have x1 := BX.1 1 _ rfl; have x2 := BX.1 2 _ rfl; have x3 := BX.1 3 _ rfl; have x4 := BX.1 4 _ rfl
        refine take_at (i := 0) (v := ?_) rfl (by kernel_rfl) (by kernel_rfl) (by kernel_rfl) (fun _ _ _ h => h) (Or.inl ⟨by rfl, ?_⟩) (by assumption) ?_
        rotate_left 1
        · (intro w hSw; (try dsimp only at hSw); go_simp; (try with_reducible rfl))
        try simp only [Act.put, List.setIfInBounds_toArray, List.set_cons_zero, List.set_cons_succ]
        refine take_at (i := 1) (v := ?_) rfl (by kernel_rfl) (by kernel_rfl) (by kernel_rfl) (fun _ _ _ h => h) (Or.inl ⟨by rfl, ?_⟩) (by assumption) ?_
        rotate_left 1
        · (intro w hSw; (try dsimp only at hSw); go_simp; (try with_reducible rfl))
        try simp only [Act.put, List.setIfInBounds_toArray, List.set_cons_zero, List.set_cons_succ]
        refine take_at (i := 2) (v := ?_) rfl (by kernel_rfl) (by kernel_rfl) (by kernel_rfl) (fun _ _ _ h => h) (Or.inl ⟨by rfl, ?_⟩) (by assumption) ?_
        rotate_left 1
        · (intro w hSw; (try dsimp only at hSw); go_simp; (try with_reducible rfl))
        try simp only [Act.put, List.setIfInBounds_toArray, List.set_cons_zero, List.set_cons_succ]
        refine take_at (i := 3) (v := ?_) rfl (by kernel_rfl) (by kernel_rfl) (by kernel_rfl) (fun _ _ _ h => h) (Or.inl ⟨by rfl, ?_⟩) (by assumption) ?_
        rotate_left 1
        · (intro w hSw; (try dsimp only at hSw); go_simp; (try with_reducible rfl))
        try simp only [Act.put, List.setIfInBounds_toArray, List.set_cons_zero, List.set_cons_succ]
        refine take_at (i := 4) (v := ?_) rfl (by kernel_rfl) (by kernel_rfl) (by kernel_rfl) (fun _ _ _ h => h) (Or.inl ⟨by rfl, ?_⟩) (by assumption) ?_
        rotate_left 1
        · (intro w hSw; (try dsimp only at hSw); go_simp; (try with_reducible rfl))
        try simp only [Act.put, List.setIfInBounds_toArray, List.set_cons_zero, List.set_cons_succ]
        refine take_at (i := 5) (v := ?_) rfl (by kernel_rfl) (by kernel_rfl) (by kernel_rfl) (fun _ _ _ h => h) (Or.inl ⟨by rfl, ?_⟩) (by assumption) ?_
        rotate_left 1
        · (intro w hSw; (try dsimp only at hSw); go_simp; (try with_reducible rfl))
        try simp only [Act.put, List.setIfInBounds_toArray, List.set_cons_zero, List.set_cons_succ]
        refine take_at (i := 6) (v := ?_) rfl (by kernel_rfl) (by kernel_rfl) (by kernel_rfl) (fun _ _ _ h => h) (Or.inl ⟨by rfl, ?_⟩) (by assumption) ?_
        rotate_left 1
        · (intro w hSw; (try dsimp only at hSw); go_simp; (try with_reducible rfl))
        try simp only [Act.put, List.setIfInBounds_toArray, List.set_cons_zero, List.set_cons_succ]
        refine take_at (i := 7) (v := ?_) rfl (by kernel_rfl) (by kernel_rfl) (by kernel_rfl) (fun _ _ _ h => h) (Or.inl ⟨by rfl, ?_⟩) (by assumption) ?_
        rotate_left 1
        · (intro w hSw; (try dsimp only at hSw); go_simp; (try with_reducible rfl))
        try simp only [Act.put, List.setIfInBounds_toArray, List.set_cons_zero, List.set_cons_succ]
        refine take_at (i := 8) (v := ?_) rfl (by kernel_rfl) (by kernel_rfl) (by kernel_rfl) (fun _ _ _ h => h) (Or.inl ⟨by rfl, ?_⟩) (by assumption) ?_
        rotate_left 1
        · (intro w hSw; (try dsimp only at hSw); go_simp; (try with_reducible rfl))
        try simp only [Act.put, List.setIfInBounds_toArray, List.set_cons_zero, List.set_cons_succ]
        refine take_at (i := 9) (v := ?_) rfl (by kernel_rfl) (by kernel_rfl) (by kernel_rfl) (fun _ _ _ h => h) (Or.inl ⟨by rfl, ?_⟩) (by assumption) ?_
        rotate_left 1
        · (intro w hSw; (try dsimp only at hSw); go_simp; (try with_reducible rfl))
        try simp only [Act.put, List.setIfInBounds_toArray, List.set_cons_zero, List.set_cons_succ]
        refine take_at (i := 10) (v := ?_) rfl (by kernel_rfl) (by kernel_rfl) (by kernel_rfl) (fun _ _ _ h => h) (Or.inl ⟨by rfl, ?_⟩) (by assumption) ?_
        rotate_left 1
        · (intro w hSw; (try dsimp only at hSw); go_simp; (try with_reducible rfl))
        try simp only [Act.put, List.setIfInBounds_toArray, List.set_cons_zero, List.set_cons_succ]
        refine take_at (i := 11) (v := ?_) rfl (by kernel_rfl) (by kernel_rfl) (by kernel_rfl) (fun _ _ _ h => h) (Or.inl ⟨by rfl, ?_⟩) (by assumption) ?_
        rotate_left 1
        · (intro w hSw; (try dsimp only at hSw); go_simp; (try with_reducible rfl))
        try simp only [Act.put, List.setIfInBounds_toArray, List.set_cons_zero, List.set_cons_succ]
        refine wpAnyH_ready (rs := [12]) (by kernel_rfl) (by simp) ?_
        refine cons_at (i := 12) rfl (fun K hK => ?_) AllReadyH.nil
        go_simp
        (go_at_call 13; refine (cT _ _ _ _ _ R).mono ?_; rintro e w4 ⟨a4, c4, rfl, hz4, hl4', hb⟩; have hl4 : Hid (m = ms.length) := hl4'; clear hl4'; clear p0 p1 p2 p3 p4 x0 x1 x2 x3 x4; replace BX := BX.below hb; replace hX := hX.below hb; replace R := R.below hb; replace hB := Below.tr hB hb; clear hb; have p0 := R.box.1 0 _ rfl; have p1 := R.box.1 1 _ rfl; have p2 := R.box.1 2 _ rfl; have p3 := R.box.1 3 _ rfl; have p4 := R.box.1 4 _ rfl; have x0 := BX.1 0 _ rfl; have x1 := BX.1 1 _ rfl; have x2 := BX.1 2 _ rfl; have x3 := BX.1 3 _ rfl; have x4 := BX.1 4 _ rfl)
        refine hK.out _ _ ?_ (fun hHeld => ?_)
        · exact ⟨⟨p0, p1, p2⟩, x0, x1, x2, x3, x4⟩
        clear hK K
        refine wpAnyH_ready (rs := [13]) (by kernel_rfl) (by simp) ?_
        refine cons_at (i := 13) rfl (fun K hK => ?_) AllReadyH.nil
        go_simp
        (go_at_call 12; refine (like19_same ky nm xa a xm m xc c mi xs a4 xq m xsc c4 xt fs ms _ hX.hT hX.hm R.hT R.htn hxt hX.hZ hX.hq hz4 hl4.out).mono ?_; rintro e w5 ⟨rfl, hb⟩; clear p0 p1 p2 p3 p4 x0 x1 x2 x3 x4 hz4 hl4; replace BX := BX.below hb; replace hX := hX.below hb; replace R := R.below hb; replace hB := Below.tr hB hb; clear hb; have p0 := R.box.1 0 _ rfl; have p1 := R.box.1 1 _ rfl; have p2 := R.box.1 2 _ rfl; have p3 := R.box.1 3 _ rfl; have p4 := R.box.1 4 _ rfl; have x0 := BX.1 0 _ rfl; have x1 := BX.1 1 _ rfl; have x2 := BX.1 2 _ rfl; have x3 := BX.1 3 _ rfl; have x4 := BX.1 4 _ rfl)
        refine hK.out _ _ ?_ (fun hHeld => ?_)
        · exact ⟨⟨p0, p1, p2⟩, x0, x1, x2, x3, x4⟩
        clear hK K
        refine take_at (i := 14) (v := ?_) rfl (by kernel_rfl) (by kernel_rfl) (by kernel_rfl) (fun _ _ _ h => h) (Or.inl ⟨by rfl, ?_⟩) (by assumption) ?_
        rotate_left 1
        · (intro w hSw; (try dsimp only at hSw); go_simp; (try with_reducible rfl))
        try simp only [Act.put, List.setIfInBounds_toArray, List.set_cons_zero, List.set_cons_succ]
        refine take_at (i := 15) (v := ?_) rfl (by kernel_rfl) (by kernel_rfl) (by kernel_rfl) (fun _ _ _ h => h) (Or.inl ⟨by rfl, ?_⟩) (by assumption) ?_
        rotate_left 1
        · (intro w hSw; (try dsimp only at hSw); go_simp; (try with_reducible rfl))
        try simp only [Act.put, List.setIfInBounds_toArray, List.set_cons_zero, List.set_cons_succ]
        refine take_at (i := 16) (v := ?_) rfl (by kernel_rfl) (by kernel_rfl) (by kernel_rfl) (fun _ _ _ h => h) (Or.inl ⟨by rfl, ?_⟩) (by assumption) ?_
        rotate_left 1
        · (intro w hSw; (try dsimp only at hSw); go_simp; (try with_reducible rfl))
        try simp only [Act.put, List.setIfInBounds_toArray, List.set_cons_zero, List.set_cons_succ]
        refine take_at (i := 17) (v := ?_) rfl (by kernel_rfl) (by kernel_rfl) (by kernel_rfl) (fun _ _ _ h => h) (Or.inl ⟨by rfl, ?_⟩) (by assumption) ?_
        rotate_left 1
        · (intro w hSw; (try dsimp only at hSw); go_simp; (try with_reducible rfl))
        try simp only [Act.put, List.setIfInBounds_toArray, List.set_cons_zero, List.set_cons_succ]
        refine take_at (i := 18) (v := ?_) rfl (by kernel_rfl) (by kernel_rfl) (by kernel_rfl) (fun _ _ _ h => h) (Or.inl ⟨by rfl, ?_⟩) (by assumption) ?_
        rotate_left 1
        · (intro w hSw; (try dsimp only at hSw); go_simp; (try with_reducible rfl))
        try simp only [Act.put, List.setIfInBounds_toArray, List.set_cons_zero, List.set_cons_succ]
        refine take_at (i := 19) (v := ?_) rfl (by kernel_rfl) (by kernel_rfl) (by kernel_rfl) (fun _ _ _ h => h) (Or.inl ⟨by rfl, ?_⟩) (by assumption) ?_
        rotate_left 1
        · (intro w hSw; (try dsimp only at hSw); go_simp; (try with_reducible rfl))
        try simp only [Act.put, List.setIfInBounds_toArray, List.set_cons_zero, List.set_cons_succ]
        refine take_at (i := 20) (v := ?_) rfl (by kernel_rfl) (by kernel_rfl) (by kernel_rfl) (fun _ _ _ h => h) (Or.inl ⟨by rfl, ?_⟩) (by assumption) ?_
        rotate_left 1
        · (intro w hSw; (try dsimp only at hSw); go_simp; (try with_reducible rfl))
        try simp only [Act.put, List.setIfInBounds_toArray, List.set_cons_zero, List.set_cons_succ]
        refine take_at (i := 21) (v := undef) rfl (by kernel_rfl) (by kernel_rfl) (by kernel_rfl) (fun _ _ _ h => h) (Or.inr ⟨by rfl, rfl⟩) (by assumption) ?_
        try simp only [Act.put, List.setIfInBounds_toArray, List.set_cons_zero, List.set_cons_succ]
        refine take_at (i := 22) (v := undef) rfl (by kernel_rfl) (by kernel_rfl) (by kernel_rfl) (fun _ _ _ h => h) (Or.inr ⟨by rfl, rfl⟩) (by assumption) ?_
        try simp only [Act.put, List.setIfInBounds_toArray, List.set_cons_zero, List.set_cons_succ]
        refine take_at (i := 23) (v := undef) rfl (by kernel_rfl) (by kernel_rfl) (by kernel_rfl) (fun _ _ _ h => h) (Or.inr ⟨by rfl, rfl⟩) (by assumption) ?_
        try simp only [Act.put, List.setIfInBounds_toArray, List.set_cons_zero, List.set_cons_succ]
        refine take_at (i := 24) (v := undef) rfl (by kernel_rfl) (by kernel_rfl) (by kernel_rfl) (fun _ _ _ h => h) (Or.inr ⟨by rfl, rfl⟩) (by assumption) ?_
        try simp only [Act.put, List.setIfInBounds_toArray, List.set_cons_zero, List.set_cons_succ]
        refine take_at (i := 25) (v := ?_) rfl (by kernel_rfl) (by kernel_rfl) (by kernel_rfl) (fun _ _ _ h => h) (Or.inl ⟨by rfl, ?_⟩) (by assumption) ?_
        rotate_left 1
        · (intro w hSw; (try dsimp only at hSw); go_simp; (try with_reducible rfl))
        try simp only [Act.put, List.setIfInBounds_toArray, List.set_cons_zero, List.set_cons_succ]
        refine take_at (i := 26) (v := ?_) rfl (by kernel_rfl) (by kernel_rfl) (by kernel_rfl) (fun _ _ _ h => h) (Or.inl ⟨by rfl, ?_⟩) (by assumption) ?_
        rotate_left 1
        · (intro w hSw; (try dsimp only at hSw); go_simp; (try with_reducible rfl))
        try simp only [Act.put, List.setIfInBounds_toArray, List.set_cons_zero, List.set_cons_succ]
        refine wpAnyH_done (by kernel_rfl) ?_ _
        refine NoPanic.normal ?_
        clear x0 x1 x2 x3 x4 BX hX
        go_wp2_with (first
          | (go_at_call 14; refine (cS _ _ _ _ _ R).mono ?_; rintro e w6 ⟨yk, yn, ya, ym, yc, yi, ys, yq, ysc, yt, yz, rfl, hY, g0, g1, hb⟩; obtain ⟨rfl, rfl, rfl, hyt, rfl⟩ := g0 rfl; clear g0 g1; obtain ⟨Y, hY9⟩ : ∃ Y, Y = w6.alloc (.cells #[.string ky, .string nm, .slice ya ym yc, .int .i64 zi, .slice ys yq ysc] 27) := ⟨_, rfl⟩; have hbW : Below w6.heap.size w6 Y := (by rw [hY9]; exact (Below.refl _ _).alloc (Nat.le_refl _) _); have hbY := Below.tr hb hbW; have BY : BoxL Y w6.heap.size [.string ky, .string nm, .slice ya ym yc, .int .i64 zi, .slice ys yq ysc] := (by rw [hY9]; exact boxL_new w6 [.string ky, .string nm, .slice ya ym yc, .int .i64 zi, .slice ys yq ysc] _ rfl); replace hY := hY.below hbW; replace R := R.below hbY; replace hB := Below.tr hB hbY; clear p0 p1 p2 p3 p4 hb hbW hbY; have p0 := R.box.1 0 _ rfl; have p1 := R.box.1 1 _ rfl; have p2 := R.box.1 2 _ rfl; have p3 := R.box.1 3 _ rfl; have p4 := R.box.1 4 _ rfl; have y0 := BY.1 0 _ rfl; have y1 := BY.1 1 _ rfl; have y2 := BY.1 2 _ rfl; have y3 := BY.1 3 _ rfl; have y4 := BY.1 4 _ rfl; rw [hY9] at p0 p1 p2 p3 p4 y0 y1 y2 y3 y4)
          | (go_at_call 15; rw [← hY9]; refine (cQ _ _ _ _ _ R).mono ?_; rintro e w7 ⟨rfl, hb⟩; clear p0 p1 p2 p3 p4 y0 y1 y2 y3 y4; replace BY := BY.below hb; replace hY := hY.below hb; replace R := R.below hb; replace hB := Below.tr hB hb; clear hb; have p0 := R.box.1 0 _ rfl; have p1 := R.box.1 1 _ rfl; have p2 := R.box.1 2 _ rfl; have p3 := R.box.1 3 _ rfl; have p4 := R.box.1 4 _ rfl; have y0 := BY.1 0 _ rfl; have y1 := BY.1 1 _ rfl; have y2 := BY.1 2 _ rfl; have y3 := BY.1 3 _ rfl; have y4 := BY.1 4 _ rfl)
          )
        have hb := (Below.refl w7.heap.size w7).drew; clear p0 p1 p2 p3 p4 y0 y1 y2 y3 y4; replace BY := BY.below hb; replace hY := hY.below hb; replace R := R.below hb; replace hB := Below.tr hB hb; clear hb; have p0 := R.box.1 0 _ rfl; have p1 := R.box.1 1 _ rfl; have p2 := R.box.1 2 _ rfl; have p3 := R.box.1 3 _ rfl; have p4 := R.box.1 4 _ rfl; have y0 := BY.1 0 _ rfl; have y1 := BY.1 1 _ rfl; have y2 := BY.1 2 _ rfl; have y3 := BY.1 3 _ rfl; have y4 := BY.1 4 _ rfl
        go_region_held3 (fun V => (V.cell? ⟨w.heap.size, 0, none⟩ = some (.string ky) ∧ V.cell? ⟨w.heap.size, 1, none⟩ = some (.string nm) ∧ V.cell? ⟨w.heap.size, 2, none⟩ = some (.slice a m c) ∧ V.cell? ⟨w.heap.size, 3, none⟩ = some (.int .i64 is) ∧ V.cell? ⟨w.heap.size, 4, none⟩ = some (.slice sa q sc)) ∧ V.cell? ⟨w6.heap.size, 0, none⟩ = some (.string ky) ∧ V.cell? ⟨w6.heap.size, 1, none⟩ = some (.string nm) ∧ V.cell? ⟨w6.heap.size, 2, none⟩ = some (.slice ya ym yc) ∧ V.cell? ⟨w6.heap.size, 3, none⟩ = some (.int .i64 zi) ∧ V.cell? ⟨w6.heap.size, 4, none⟩ = some (.slice ys yq ysc)) (exact ⟨⟨p0, p1, p2, p3, p4⟩, y0, y1, y2, y3, y4⟩) (first
          | (go_at_call 16; refine (alive19_any _).mono ?_; rintro e w8 ⟨rfl, hb⟩; clear p0 p1 p2 p3 p4 y0 y1 y2 y3 y4; replace BY := BY.below hb; replace hY := hY.below hb; replace R := R.below hb; replace hB := Below.tr hB hb; clear hb; have p0 := R.box.1 0 _ rfl; have p1 := R.box.1 1 _ rfl; have p2 := R.box.1 2 _ rfl; have p3 := R.box.1 3 _ rfl; have p4 := R.box.1 4 _ rfl; have y0 := BY.1 0 _ rfl; have y1 := BY.1 1 _ rfl; have y2 := BY.1 2 _ rfl; have y3 := BY.1 3 _ rfl; have y4 := BY.1 4 _ rfl)
          | (go_at_call 17; refine (cR _ _ _ _ _ R).mono ?_; rintro e w9 ⟨rfl, hb⟩; clear p0 p1 p2 p3 p4 y0 y1 y2 y3 y4; replace BY := BY.below hb; replace hY := hY.below hb; replace R := R.below hb; replace hB := Below.tr hB hb; clear hb; have p0 := R.box.1 0 _ rfl; have p1 := R.box.1 1 _ rfl; have p2 := R.box.1 2 _ rfl; have p3 := R.box.1 3 _ rfl; have p4 := R.box.1 4 _ rfl; have y0 := BY.1 0 _ rfl; have y1 := BY.1 1 _ rfl; have y2 := BY.1 2 _ rfl; have y3 := BY.1 3 _ rfl; have y4 := BY.1 4 _ rfl)
          | (go_at_call 18; refine (cU _ _ _ _ _ R).mono ?_; rintro e w10 ⟨a9, c9, rfl, hz9, hl9', hb⟩; have hl9 : Hid (q = zs.length) := hl9'; clear hl9'; clear p0 p1 p2 p3 p4 y0 y1 y2 y3 y4; replace BY := BY.below hb; replace hY := hY.below hb; replace R := R.below hb; replace hB := Below.tr hB hb; clear hb; have p0 := R.box.1 0 _ rfl; have p1 := R.box.1 1 _ rfl; have p2 := R.box.1 2 _ rfl; have p3 := R.box.1 3 _ rfl; have p4 := R.box.1 4 _ rfl; have y0 := BY.1 0 _ rfl; have y1 := BY.1 1 _ rfl; have y2 := BY.1 2 _ rfl; have y3 := BY.1 3 _ rfl; have y4 := BY.1 4 _ rfl)
          | (go_at_call 12; refine (like19_same ky nm ya a ym m yc c zi ys a9 yq q ysc c9 yt fs zs _ hY.hT hY.hm R.hT R.htn hyt hY.hZ hY.hq hz9 hl9.out).mono ?_; rintro e w11 ⟨rfl, hb⟩; clear p0 p1 p2 p3 p4 y0 y1 y2 y3 y4; replace hB := Below.tr hB hb; replace BY := BY.below hb; replace R := R.below hb; clear hb hz9 hl9; have p0 := R.box.1 0 _ rfl; have p1 := R.box.1 1 _ rfl; have p2 := R.box.1 2 _ rfl; have p3 := R.box.1 3 _ rfl; have p4 := R.box.1 4 _ rfl; have y0 := BY.1 0 _ rfl; have y1 := BY.1 1 _ rfl; have y2 := BY.1 2 _ rfl; have y3 := BY.1 3 _ rfl; have y4 := BY.1 4 _ rfl)
          )
        go_wp2
        go_ret
        exact ⟨rfl, hB⟩
      | false =>
        obtain rfl : F = 1 := by rw [HF.out, ← HOK.out]; rfl
        go_enter Try.func3, Try.ntmps3
        go_wp2_with (first
          | (go_at_call 9; refine cF.mono ?_; rintro e w1 ⟨a, c, m, q, u0, u1, u2, u3, u4, rfl, b1, R1, hB1⟩; have v0 := b1.1 0 _ rfl; have v1 := b1.1 1 _ rfl; have v2 := b1.1 2 _ rfl; have v3 := b1.1 3 _ rfl; have v4 := b1.1 4 _ rfl; have d0 := b1.2 0 (by simp); have d1 := b1.2 1 (by simp); have d2 := b1.2 2 (by simp); have d3 := b1.2 3 (by simp); have d4 := b1.2 4 (by simp); obtain ⟨Z, hZ9⟩ : ∃ Z, Z = (((((w1.setCell ⟨w.heap.size, 0, none⟩ (.string ky)).setCell ⟨w.heap.size, 1, none⟩ (.string nm)).setCell ⟨w.heap.size, 2, none⟩ (.slice a m c)).setCell ⟨w.heap.size, 3, none⟩ (.int .i64 is)).setCell ⟨w.heap.size, 4, none⟩ (.slice sa q sc)) := ⟨_, rfl⟩; rw [← hZ9] at R1 hB1; have p0 := R1.box.1 0 _ rfl; have p1 := R1.box.1 1 _ rfl; have p2 := R1.box.1 2 _ rfl; have p3 := R1.box.1 3 _ rfl; have p4 := R1.box.1 4 _ rfl; rw [hZ9] at p0 p1 p2 p3 p4)
          | (go_at_call 10; rw [← hZ9]; refine (cN Z a m c q R1).mono ?_; rintro e w2 ⟨xk, xn, xa, xm, xc, xi, xs, xq, xsc, xt, xz, rfl, hX, h0, h1, hb⟩; obtain ⟨rfl, rfl, rfl, hxt, rfl⟩ := h0 rfl; clear h0 h1; obtain ⟨X, hX9⟩ : ∃ X, X = w2.alloc (.cells #[.string ky, .string nm, .slice xa xm xc, .int .i64 mi, .slice xs xq xsc] 27) := ⟨_, rfl⟩; have hbW : Below w2.heap.size w2 X := (by rw [hX9]; exact (Below.refl _ _).alloc (Nat.le_refl _) _); have hbX : Below Z.heap.size Z X := Below.tr hb hbW; have BX : BoxL X w2.heap.size [.string ky, .string nm, .slice xa xm xc, .int .i64 mi, .slice xs xq xsc] := (by rw [hX9]; exact boxL_new w2 [.string ky, .string nm, .slice xa xm xc, .int .i64 mi, .slice xs xq xsc] _ rfl); replace hX := hX.below hbW; have R := R1.below hbX; have hB := Below.tr hB1 hbX; clear p0 p1 p2 p3 p4 v0 v1 v2 v3 v4 d0 d1 d2 d3 d4 hb hbW hbX R1 hB1 b1; have p0 := R.box.1 0 _ rfl; have p1 := R.box.1 1 _ rfl; have p2 := R.box.1 2 _ rfl; have p3 := R.box.1 3 _ rfl; have p4 := R.box.1 4 _ rfl; have x0 := BX.1 0 _ rfl; have x1 := BX.1 1 _ rfl; have x2 := BX.1 2 _ rfl; have x3 := BX.1 3 _ rfl; have x4 := BX.1 4 _ rfl; rw [hX9] at p0 p1 p2 p3 p4 x0 x1 x2 x3 x4)
          | (go_at_call 11; rw [← hX9]; refine (cW X a m c q R).mono ?_; rintro e w3 ⟨rfl, hb⟩; clear p0 p1 p2 p3 p4 x0 x1 x2 x3 x4; replace BX := BX.below hb; replace hX := hX.below hb; replace R := R.below hb; replace hB := Below.tr hB hb; clear hb; have p0 := R.box.1 0 _ rfl; have p1 := R.box.1 1 _ rfl; have p2 := R.box.1 2 _ rfl; have p3 := R.box.1 3 _ rfl; have p4 := R.box.1 4 _ rfl; have x0 := BX.1 0 _ rfl; have x1 := BX.1 1 _ rfl; have x2 := BX.1 2 _ rfl; have x3 := BX.1 3 _ rfl; have x4 := BX.1 4 _ rfl)
          )
        refine wp_region_noPanic ?_
        refine wp_region_held_drew (S := fun V => (V.cell? ⟨w.heap.size, 0, none⟩ = some (.string ky) ∧ V.cell? ⟨w.heap.size, 1, none⟩ = some (.string nm) ∧ V.cell? ⟨w.heap.size, 2, none⟩ = some (.slice a m c)) ∧ V.cell? ⟨w2.heap.size, 0, none⟩ = some (.string ky) ∧ V.cell? ⟨w2.heap.size, 1, none⟩ = some (.string nm) ∧ V.cell? ⟨w2.heap.size, 2, none⟩ = some (.slice xa xm xc) ∧ V.cell? ⟨w2.heap.size, 3, none⟩ = some (.int .i64 mi) ∧ V.cell? ⟨w2.heap.size, 4, none⟩ = some (.slice xs xq xsc)) (by kernel_rfl) ⟨⟨p0, p1, p2⟩, x0, x1, x2, x3, x4⟩ (fun hHeld => ?_)
        have hb := (Below.refl w3.heap.size w3).drew; clear p0 p1 p2 p3 p4 x0 x1 x2 x3 x4; replace BX := BX.below hb; replace hX := hX.below hb; replace R := R.below hb; replace hB := Below.tr hB hb; clear hb; have p0 := R.box.1 0 _ rfl; have p1 := R.box.1 1 _ rfl; have p2 := R.box.1 2 _ rfl; have p3 := R.box.1 3 _ rfl; have p4 := R.box.1 4 _ rfl; have x0 := BX.1 0 _ rfl; have x1 := BX.1 1 _ rfl; have x2 := BX.1 2 _ rfl; have x3 := BX.1 3 _ rfl; have x4 := BX.1 4 _ rfl
        refine take_at (i := 0) (v := ?_) rfl (by kernel_rfl) (by kernel_rfl) (by kernel_rfl) (fun _ _ _ h => h) (Or.inl ⟨by rfl, ?_⟩) (by assumption) ?_
        rotate_left 1
        · (intro w hSw; (try dsimp only at hSw); go_simp; (try with_reducible rfl))
        try simp only [Act.put, List.setIfInBounds_toArray, List.set_cons_zero, List.set_cons_succ]
        refine take_at (i := 1) (v := ?_) rfl (by kernel_rfl) (by kernel_rfl) (by kernel_rfl) (fun _ _ _ h => h) (Or.inl ⟨by rfl, ?_⟩) (by assumption) ?_
        rotate_left 1
        · (intro w hSw; (try dsimp only at hSw); go_simp; (try with_reducible rfl))
        try simp only [Act.put, List.setIfInBounds_toArray, List.set_cons_zero, List.set_cons_succ]
        refine take_at (i := 2) (v := ?_) rfl (by kernel_rfl) (by kernel_rfl) (by kernel_rfl) (fun _ _ _ h => h) (Or.inl ⟨by rfl, ?_⟩) (by assumption) ?_
        rotate_left 1
        · (intro w hSw; (try dsimp only at hSw); go_simp; (try with_reducible rfl))
        try simp only [Act.put, List.setIfInBounds_toArray, List.set_cons_zero, List.set_cons_succ]
        refine take_at (i := 3) (v := ?_) rfl (by kernel_rfl) (by kernel_rfl) (by kernel_rfl) (fun _ _ _ h => h) (Or.inl ⟨by rfl, ?_⟩) (by assumption) ?_
        rotate_left 1
        · (intro w hSw; (try dsimp only at hSw); go_simp; (try with_reducible rfl))
        try simp only [Act.put, List.setIfInBounds_toArray, List.set_cons_zero, List.set_cons_succ]
        refine take_at (i := 4) (v := ?_) rfl (by kernel_rfl) (by kernel_rfl) (by kernel_rfl) (fun _ _ _ h => h) (Or.inl ⟨by rfl, ?_⟩) (by assumption) ?_
        rotate_left 1
        · (intro w hSw; (try dsimp only at hSw); go_simp; (try with_reducible rfl))
        try simp only [Act.put, List.setIfInBounds_toArray, List.set_cons_zero, List.set_cons_succ]
        refine take_at (i := 5) (v := ?_) rfl (by kernel_rfl) (by kernel_rfl) (by kernel_rfl) (fun _ _ _ h => h) (Or.inl ⟨by rfl, ?_⟩) (by assumption) ?_
        rotate_left 1
        · (intro w hSw; (try dsimp only at hSw); go_simp; (try with_reducible rfl))
        try simp only [Act.put, List.setIfInBounds_toArray, List.set_cons_zero, List.set_cons_succ]
        refine take_at (i := 6) (v := ?_) rfl (by kernel_rfl) (by kernel_rfl) (by kernel_rfl) (fun _ _ _ h => h) (Or.inl ⟨by rfl, ?_⟩) (by assumption) ?_
        rotate_left 1
        · (intro w hSw; (try dsimp only at hSw); go_simp; (try with_reducible rfl))
        try simp only [Act.put, List.setIfInBounds_toArray, List.set_cons_zero, List.set_cons_succ]
        refine take_at (i := 7) (v := ?_) rfl (by kernel_rfl) (by kernel_rfl) (by kernel_rfl) (fun _ _ _ h => h) (Or.inl ⟨by rfl, ?_⟩) (by assumption) ?_
        rotate_left 1
        · (intro w hSw; (try dsimp only at hSw); go_simp; (try with_reducible rfl))
        try simp only [Act.put, List.setIfInBounds_toArray, List.set_cons_zero, List.set_cons_succ]
        refine take_at (i := 8) (v := ?_) rfl (by kernel_rfl) (by kernel_rfl) (by kernel_rfl) (fun _ _ _ h => h) (Or.inl ⟨by rfl, ?_⟩) (by assumption) ?_
        rotate_left 1
        · (intro w hSw; (try dsimp only at hSw); go_simp; (try with_reducible rfl))
        try simp only [Act.put, List.setIfInBounds_toArray, List.set_cons_zero, List.set_cons_succ]
        refine take_at (i := 9) (v := ?_) rfl (by kernel_rfl) (by kernel_rfl) (by kernel_rfl) (fun _ _ _ h => h) (Or.inl ⟨by rfl, ?_⟩) (by assumption) ?_
        rotate_left 1
        · (intro w hSw; (try dsimp only at hSw); go_simp; (try with_reducible rfl))
        try simp only [Act.put, List.setIfInBounds_toArray, List.set_cons_zero, List.set_cons_succ]
        refine take_at (i := 10) (v := ?_) rfl (by kernel_rfl) (by kernel_rfl) (by kernel_rfl) (fun _ _ _ h => h) (Or.inl ⟨by rfl, ?_⟩) (by assumption) ?_
        rotate_left 1
        · (intro w hSw; (try dsimp only at hSw); go_simp; (try with_reducible rfl))
        try simp only [Act.put, List.setIfInBounds_toArray, List.set_cons_zero, List.set_cons_succ]
        refine take_at (i := 11) (v := ?_) rfl (by kernel_rfl) (by kernel_rfl) (by kernel_rfl) (fun _ _ _ h => h) (Or.inl ⟨by rfl, ?_⟩) (by assumption) ?_
        rotate_left 1
        · (intro w hSw; (try dsimp only at hSw); go_simp; (try with_reducible rfl))
        try simp only [Act.put, List.setIfInBounds_toArray, List.set_cons_zero, List.set_cons_succ]
        refine wpAnyH_ready (rs := [12]) (by kernel_rfl) (by simp) ?_
        refine cons_at (i := 12) rfl (fun K hK => ?_) AllReadyH.nil
        go_simp
        (go_at_call 13; refine (cT _ _ _ _ _ R).mono ?_; rintro e w4 ⟨a4, c4, rfl, hz4, hl4', hb⟩; have hl4 : Hid (m = ms.length) := hl4'; clear hl4'; clear p0 p1 p2 p3 p4 x0 x1 x2 x3 x4; replace BX := BX.below hb; replace hX := hX.below hb; replace R := R.below hb; replace hB := Below.tr hB hb; clear hb; have p0 := R.box.1 0 _ rfl; have p1 := R.box.1 1 _ rfl; have p2 := R.box.1 2 _ rfl; have p3 := R.box.1 3 _ rfl; have p4 := R.box.1 4 _ rfl; have x0 := BX.1 0 _ rfl; have x1 := BX.1 1 _ rfl; have x2 := BX.1 2 _ rfl; have x3 := BX.1 3 _ rfl; have x4 := BX.1 4 _ rfl)
        refine hK.out _ _ ?_ (fun hHeld => ?_)
        · exact ⟨⟨p0, p1, p2⟩, x0, x1, x2, x3, x4⟩
        clear hK K
        refine wpAnyH_ready (rs := [13]) (by kernel_rfl) (by simp) ?_
        refine cons_at (i := 13) rfl (fun K hK => ?_) AllReadyH.nil
        go_simp
        (go_at_call 12; refine (like19_same ky nm xa a xm m xc c mi xs a4 xq m xsc c4 xt fs ms _ hX.hT hX.hm R.hT R.htn hxt hX.hZ hX.hq hz4 hl4.out).mono ?_; rintro e w5 ⟨rfl, hb⟩; clear p0 p1 p2 p3 p4 x0 x1 x2 x3 x4 hz4 hl4; replace BX := BX.below hb; replace hX := hX.below hb; replace R := R.below hb; replace hB := Below.tr hB hb; clear hb; have p0 := R.box.1 0 _ rfl; have p1 := R.box.1 1 _ rfl; have p2 := R.box.1 2 _ rfl; have p3 := R.box.1 3 _ rfl; have p4 := R.box.1 4 _ rfl; have x0 := BX.1 0 _ rfl; have x1 := BX.1 1 _ rfl; have x2 := BX.1 2 _ rfl; have x3 := BX.1 3 _ rfl; have x4 := BX.1 4 _ rfl)
        refine hK.out _ _ ?_ (fun hHeld => ?_)
        · exact ⟨⟨p0, p1, p2⟩, x0, x1, x2, x3, x4⟩
        clear hK K
        refine take_at (i := 14) (v := ?_) rfl (by kernel_rfl) (by kernel_rfl) (by kernel_rfl) (fun _ _ _ h => h) (Or.inl ⟨by rfl, ?_⟩) (by assumption) ?_
        rotate_left 1
        · (intro w hSw; (try dsimp only at hSw); go_simp; (try with_reducible rfl))
        try simp only [Act.put, List.setIfInBounds_toArray, List.set_cons_zero, List.set_cons_succ]
        refine take_at (i := 15) (v := ?_) rfl (by kernel_rfl) (by kernel_rfl) (by kernel_rfl) (fun _ _ _ h => h) (Or.inl ⟨by rfl, ?_⟩) (by assumption) ?_
        rotate_left 1
        · (intro w hSw; (try dsimp only at hSw); go_simp; (try with_reducible rfl))
        try simp only [Act.put, List.setIfInBounds_toArray, List.set_cons_zero, List.set_cons_succ]
        refine take_at (i := 16) (v := ?_) rfl (by kernel_rfl) (by kernel_rfl) (by kernel_rfl) (fun _ _ _ h => h) (Or.inl ⟨by rfl, ?_⟩) (by assumption) ?_
        rotate_left 1
        · (intro w hSw; (try dsimp only at hSw); go_simp; (try with_reducible rfl))
        try simp only [Act.put, List.setIfInBounds_toArray, List.set_cons_zero, List.set_cons_succ]
        refine take_at (i := 17) (v := ?_) rfl (by kernel_rfl) (by kernel_rfl) (by kernel_rfl) (fun _ _ _ h => h) (Or.inl ⟨by rfl, ?_⟩) (by assumption) ?_
        rotate_left 1
        · (intro w hSw; (try dsimp only at hSw); go_simp; (try with_reducible rfl))
        try simp only [Act.put, List.setIfInBounds_toArray, List.set_cons_zero, List.set_cons_succ]
        refine take_at (i := 18) (v := ?_) rfl (by kernel_rfl) (by kernel_rfl) (by kernel_rfl) (fun _ _ _ h => h) (Or.inl ⟨by rfl, ?_⟩) (by assumption) ?_
        rotate_left 1
        · (intro w hSw; (try dsimp only at hSw); go_simp; (try with_reducible rfl))
        try simp only [Act.put, List.setIfInBounds_toArray, List.set_cons_zero, List.set_cons_succ]
        refine take_at (i := 19) (v := ?_) rfl (by kernel_rfl) (by kernel_rfl) (by kernel_rfl) (fun _ _ _ h => h) (Or.inl ⟨by rfl, ?_⟩) (by assumption) ?_
        rotate_left 1
        · (intro w hSw; (try dsimp only at hSw); go_simp; (try with_reducible rfl))
        try simp only [Act.put, List.setIfInBounds_toArray, List.set_cons_zero, List.set_cons_succ]
        refine take_at (i := 20) (v := ?_) rfl (by kernel_rfl) (by kernel_rfl) (by kernel_rfl) (fun _ _ _ h => h) (Or.inl ⟨by rfl, ?_⟩) (by assumption) ?_
        rotate_left 1
        · (intro w hSw; (try dsimp only at hSw); go_simp; (try with_reducible rfl))
        try simp only [Act.put, List.setIfInBounds_toArray, List.set_cons_zero, List.set_cons_succ]
        refine take_at (i := 21) (v := undef) rfl (by kernel_rfl) (by kernel_rfl) (by kernel_rfl) (fun _ _ _ h => h) (Or.inr ⟨by rfl, rfl⟩) (by assumption) ?_
        try simp only [Act.put, List.setIfInBounds_toArray, List.set_cons_zero, List.set_cons_succ]
        refine take_at (i := 22) (v := undef) rfl (by kernel_rfl) (by kernel_rfl) (by kernel_rfl) (fun _ _ _ h => h) (Or.inr ⟨by rfl, rfl⟩) (by assumption) ?_
        try simp only [Act.put, List.setIfInBounds_toArray, List.set_cons_zero, List.set_cons_succ]
        refine take_at (i := 23) (v := undef) rfl (by kernel_rfl) (by kernel_rfl) (by kernel_rfl) (fun _ _ _ h => h) (Or.inr ⟨by rfl, rfl⟩) (by assumption) ?_
        try simp only [Act.put, List.setIfInBounds_toArray, List.set_cons_zero, List.set_cons_succ]
        refine take_at (i := 24) (v := undef) rfl (by kernel_rfl) (by kernel_rfl) (by kernel_rfl) (fun _ _ _ h => h) (Or.inr ⟨by rfl, rfl⟩) (by assumption) ?_
        try simp only [Act.put, List.setIfInBounds_toArray, List.set_cons_zero, List.set_cons_succ]
        refine take_at (i := 25) (v := ?_) rfl (by kernel_rfl) (by kernel_rfl) (by kernel_rfl) (fun _ _ _ h => h) (Or.inl ⟨by rfl, ?_⟩) (by assumption) ?_
        rotate_left 1
        · (intro w hSw; (try dsimp only at hSw); go_simp; (try with_reducible rfl))
        try simp only [Act.put, List.setIfInBounds_toArray, List.set_cons_zero, List.set_cons_succ]
        refine take_at (i := 26) (v := ?_) rfl (by kernel_rfl) (by kernel_rfl) (by kernel_rfl) (fun _ _ _ h => h) (Or.inl ⟨by rfl, ?_⟩) (by assumption) ?_
        rotate_left 1
        · (intro w hSw; (try dsimp only at hSw); go_simp; (try with_reducible rfl))
        try simp only [Act.put, List.setIfInBounds_toArray, List.set_cons_zero, List.set_cons_succ]
        refine wpAnyH_done (by kernel_rfl) ?_ _
        refine NoPanic.normal ?_
        clear x0 x1 x2 x3 x4 BX hX
        go_wp2_with (first
          | (go_at_call 14; refine (cS _ _ _ _ _ R).mono ?_; rintro e w6 ⟨yk, yn, ya, ym, yc, yi, ys, yq, ysc, yt, yz, rfl, hY, g0, g1, hb⟩; obtain ⟨rfl, rfl, rfl, rfl, rfl, rfl, rfl, rfl, rfl, rfl, rfl⟩ := g1 (by decide); clear g0 g1; obtain ⟨Y, hY9⟩ : ∃ Y, Y = w6.alloc (.cells #[.string ⟨#[]⟩, .string ⟨#[]⟩, .slice none 0 0, .int .i64 0, .slice none 0 0] 27) := ⟨_, rfl⟩; have hbW : Below w6.heap.size w6 Y := (by rw [hY9]; exact (Below.refl _ _).alloc (Nat.le_refl _) _); have hbY := Below.tr hb hbW; have BY : BoxL Y w6.heap.size [.string ⟨#[]⟩, .string ⟨#[]⟩, .slice none 0 0, .int .i64 0, .slice none 0 0] := (by rw [hY9]; exact boxL_new w6 [.string ⟨#[]⟩, .string ⟨#[]⟩, .slice none 0 0, .int .i64 0, .slice none 0 0] _ rfl); replace hY := hY.below hbW; replace R := R.below hbY; replace hB := Below.tr hB hbY; clear p0 p1 p2 p3 p4 hb hbW hbY; have p0 := R.box.1 0 _ rfl; have p1 := R.box.1 1 _ rfl; have p2 := R.box.1 2 _ rfl; have p3 := R.box.1 3 _ rfl; have p4 := R.box.1 4 _ rfl; have y0 := BY.1 0 _ rfl; have y1 := BY.1 1 _ rfl; have y2 := BY.1 2 _ rfl; have y3 := BY.1 3 _ rfl; have y4 := BY.1 4 _ rfl; rw [hY9] at p0 p1 p2 p3 p4 y0 y1 y2 y3 y4)
          | (go_at_call 15; rw [← hY9]; refine (cQ _ _ _ _ _ R).mono ?_; rintro e w7 ⟨rfl, hb⟩; clear p0 p1 p2 p3 p4 y0 y1 y2 y3 y4; replace BY := BY.below hb; replace hY := hY.below hb; replace R := R.below hb; replace hB := Below.tr hB hb; clear hb; have p0 := R.box.1 0 _ rfl; have p1 := R.box.1 1 _ rfl; have p2 := R.box.1 2 _ rfl; have p3 := R.box.1 3 _ rfl; have p4 := R.box.1 4 _ rfl; have y0 := BY.1 0 _ rfl; have y1 := BY.1 1 _ rfl; have y2 := BY.1 2 _ rfl; have y3 := BY.1 3 _ rfl; have y4 := BY.1 4 _ rfl)
          | (go_at_call 16; refine (alive19_any _).mono ?_; rintro e w8 ⟨rfl, hb⟩; clear p0 p1 p2 p3 p4 y0 y1 y2 y3 y4; replace BY := BY.below hb; replace hY := hY.below hb; replace R := R.below hb; replace hB := Below.tr hB hb; clear hb; have p0 := R.box.1 0 _ rfl; have p1 := R.box.1 1 _ rfl; have p2 := R.box.1 2 _ rfl; have p3 := R.box.1 3 _ rfl; have p4 := R.box.1 4 _ rfl; have y0 := BY.1 0 _ rfl; have y1 := BY.1 1 _ rfl; have y2 := BY.1 2 _ rfl; have y3 := BY.1 3 _ rfl; have y4 := BY.1 4 _ rfl)
          | (go_at_call 17; refine (cR _ _ _ _ _ R).mono ?_; rintro e w9 ⟨rfl, hb⟩; clear p0 p1 p2 p3 p4 y0 y1 y2 y3 y4; replace BY := BY.below hb; replace hY := hY.below hb; replace R := R.below hb; replace hB := Below.tr hB hb; clear hb; have p0 := R.box.1 0 _ rfl; have p1 := R.box.1 1 _ rfl; have p2 := R.box.1 2 _ rfl; have p3 := R.box.1 3 _ rfl; have p4 := R.box.1 4 _ rfl; have y0 := BY.1 0 _ rfl; have y1 := BY.1 1 _ rfl; have y2 := BY.1 2 _ rfl; have y3 := BY.1 3 _ rfl; have y4 := BY.1 4 _ rfl)
          | (go_at_call 12; refine (like19_same ⟨#[]⟩ ⟨#[]⟩ none none 0 0 0 0 0 none none 0 0 0 0 [] [] [] _ (isT_nil _ _ _ (Nat.zero_le _)) rfl (isT_nil _ _ _ (Nat.zero_le _)) rfl rfl (isZ_nil _ _ _ (Nat.zero_le _)) rfl (isZ_nil _ _ _ (Nat.zero_le _)) rfl).mono ?_; rintro e w12 ⟨rfl, hb⟩; replace hB := Below.tr hB hb)
          )
        go_ret
        exact ⟨rfl, hB⟩
    · have hE0 : E ≠ 0 := h0
      obtain rfl : ok = false := by rw [HOK.out]; exact notOk_dag fun h => h0 (HR.out.trans h)
      obtain rfl : F = 1 := by rw [HF.out, ← HOK.out]; rfl
      have e1 : (E != E) = false := by simp
      have e2 : (E == 0) = false := by simpa using h0
      have e3 : (E != 0) = true := by simpa using h0
      clear h0
      go_enter Try.func3, Try.ntmps3
      go_wp2_with (first
        | (go_at_call 9; refine cF.mono ?_; rintro e w1 ⟨a, c, m, q, u0, u1, u2, u3, u4, rfl, b1, R1, hB1⟩; have v0 := b1.1 0 _ rfl; have v1 := b1.1 1 _ rfl; have v2 := b1.1 2 _ rfl; have v3 := b1.1 3 _ rfl; have v4 := b1.1 4 _ rfl; have d0 := b1.2 0 (by simp); have d1 := b1.2 1 (by simp); have d2 := b1.2 2 (by simp); have d3 := b1.2 3 (by simp); have d4 := b1.2 4 (by simp); obtain ⟨Z, hZ9⟩ : ∃ Z, Z = (((((w1.setCell ⟨w.heap.size, 0, none⟩ (.string ky)).setCell ⟨w.heap.size, 1, none⟩ (.string nm)).setCell ⟨w.heap.size, 2, none⟩ (.slice a m c)).setCell ⟨w.heap.size, 3, none⟩ (.int .i64 is)).setCell ⟨w.heap.size, 4, none⟩ (.slice sa q sc)) := ⟨_, rfl⟩; rw [← hZ9] at R1 hB1; have p0 := R1.box.1 0 _ rfl; have p1 := R1.box.1 1 _ rfl; have p2 := R1.box.1 2 _ rfl; have p3 := R1.box.1 3 _ rfl; have p4 := R1.box.1 4 _ rfl; rw [hZ9] at p0 p1 p2 p3 p4)
        | (go_at_call 10; rw [← hZ9]; refine (cN Z a m c q R1).mono ?_; rintro e w2 ⟨xk, xn, xa, xm, xc, xi, xs, xq, xsc, xt, xz, rfl, hX, h0, h1, hb⟩; obtain ⟨rfl, rfl, rfl, rfl, rfl, rfl, rfl, rfl, rfl, rfl, rfl⟩ := h1 hE0; clear h0 h1; obtain ⟨X, hX9⟩ : ∃ X, X = w2.alloc (.cells #[.string ⟨#[]⟩, .string ⟨#[]⟩, .slice none 0 0, .int .i64 0, .slice none 0 0] 27) := ⟨_, rfl⟩; have hbW : Below w2.heap.size w2 X := (by rw [hX9]; exact (Below.refl _ _).alloc (Nat.le_refl _) _); have hbX : Below Z.heap.size Z X := Below.tr hb hbW; have BX : BoxL X w2.heap.size [.string ⟨#[]⟩, .string ⟨#[]⟩, .slice none 0 0, .int .i64 0, .slice none 0 0] := (by rw [hX9]; exact boxL_new w2 [.string ⟨#[]⟩, .string ⟨#[]⟩, .slice none 0 0, .int .i64 0, .slice none 0 0] _ rfl); replace hX := hX.below hbW; have R := R1.below hbX; have hB := Below.tr hB1 hbX; clear p0 p1 p2 p3 p4 v0 v1 v2 v3 v4 d0 d1 d2 d3 d4 hb hbW hbX R1 hB1 b1; have p0 := R.box.1 0 _ rfl; have p1 := R.box.1 1 _ rfl; have p2 := R.box.1 2 _ rfl; have p3 := R.box.1 3 _ rfl; have p4 := R.box.1 4 _ rfl; have x0 := BX.1 0 _ rfl; have x1 := BX.1 1 _ rfl; have x2 := BX.1 2 _ rfl; have x3 := BX.1 3 _ rfl; have x4 := BX.1 4 _ rfl; rw [hX9] at p0 p1 p2 p3 p4 x0 x1 x2 x3 x4)
        | (go_at_call 11; rw [← hX9]; refine (cW X a m c q R).mono ?_; rintro e w3 ⟨rfl, hb⟩; clear p0 p1 p2 p3 p4 x0 x1 x2 x3 x4; replace BX := BX.below hb; replace hX := hX.below hb; replace R := R.below hb; replace hB := Below.tr hB hb; clear hb; have p0 := R.box.1 0 _ rfl; have p1 := R.box.1 1 _ rfl; have p2 := R.box.1 2 _ rfl; have p3 := R.box.1 3 _ rfl; have p4 := R.box.1 4 _ rfl; have x0 := BX.1 0 _ rfl; have x1 := BX.1 1 _ rfl; have x2 := BX.1 2 _ rfl; have x3 := BX.1 3 _ rfl; have x4 := BX.1 4 _ rfl)
        )
      refine wp_region_noPanic ?_
      refine wp_region_held_drew (S := fun V => (V.cell? ⟨w.heap.size, 0, none⟩ = some (.string ky) ∧ V.cell? ⟨w.heap.size, 1, none⟩ = some (.string nm) ∧ V.cell? ⟨w.heap.size, 2, none⟩ = some (.slice a m c)) ∧ V.cell? ⟨w2.heap.size, 0, none⟩ = some (.string ⟨#[]⟩) ∧ V.cell? ⟨w2.heap.size, 1, none⟩ = some (.string ⟨#[]⟩) ∧ V.cell? ⟨w2.heap.size, 2, none⟩ = some (.slice none 0 0) ∧ V.cell? ⟨w2.heap.size, 3, none⟩ = some (.int .i64 0) ∧ V.cell? ⟨w2.heap.size, 4, none⟩ = some (.slice none 0 0)) (by kernel_rfl) ⟨⟨p0, p1, p2⟩, x0, x1, x2, x3, x4⟩ (fun hHeld => ?_)
      have hb := (Below.refl w3.heap.size w3).drew; clear p0 p1 p2 p3 p4 x0 x1 x2 x3 x4; replace BX := BX.below hb; replace hX := hX.below hb; replace R := R.below hb; replace hB := Below.tr hB hb; clear hb; have p0 := R.box.1 0 _ rfl; have p1 := R.box.1 1 _ rfl; have p2 := R.box.1 2 _ rfl; have p3 := R.box.1 3 _ rfl; have p4 := R.box.1 4 _ rfl; have x0 := BX.1 0 _ rfl; have x1 := BX.1 1 _ rfl; have x2 := BX.1 2 _ rfl; have x3 := BX.1 3 _ rfl; have x4 := BX.1 4 _ rfl
      refine take_at (i := 0) (v := ?_) rfl (by kernel_rfl) (by kernel_rfl) (by kernel_rfl) (fun _ _ _ h => h) (Or.inl ⟨by rfl, ?_⟩) (by assumption) ?_
      rotate_left 1
      · (intro w hSw; (try dsimp only at hSw); go_simp; (try with_reducible rfl))
      try simp only [Act.put, List.setIfInBounds_toArray, List.set_cons_zero, List.set_cons_succ]
      refine take_at (i := 1) (v := ?_) rfl (by kernel_rfl) (by kernel_rfl) (by kernel_rfl) (fun _ _ _ h => h) (Or.inl ⟨by rfl, ?_⟩) (by assumption) ?_
      rotate_left 1
      · (intro w hSw; (try dsimp only at hSw); go_simp; (try with_reducible rfl))
      try simp only [Act.put, List.setIfInBounds_toArray, List.set_cons_zero, List.set_cons_succ]
      refine take_at (i := 2) (v := ?_) rfl (by kernel_rfl) (by kernel_rfl) (by kernel_rfl) (fun _ _ _ h => h) (Or.inl ⟨by rfl, ?_⟩) (by assumption) ?_
      rotate_left 1
      · (intro w hSw; (try dsimp only at hSw); go_simp; (try with_reducible rfl))
      try simp only [Act.put, List.setIfInBounds_toArray, List.set_cons_zero, List.set_cons_succ]
      refine take_at (i := 3) (v := ?_) rfl (by kernel_rfl) (by kernel_rfl) (by kernel_rfl) (fun _ _ _ h => h) (Or.inl ⟨by rfl, ?_⟩) (by assumption) ?_
      rotate_left 1
      · (intro w hSw; (try dsimp only at hSw); go_simp; (try with_reducible rfl))
      try simp only [Act.put, List.setIfInBounds_toArray, List.set_cons_zero, List.set_cons_succ]
      refine take_at (i := 4) (v := ?_) rfl (by kernel_rfl) (by kernel_rfl) (by kernel_rfl) (fun _ _ _ h => h) (Or.inl ⟨by rfl, ?_⟩) (by assumption) ?_
      rotate_left 1
      · (intro w hSw; (try dsimp only at hSw); go_simp; (try with_reducible rfl))
      try simp only [Act.put, List.setIfInBounds_toArray, List.set_cons_zero, List.set_cons_succ]
      refine take_at (i := 5) (v := ?_) rfl (by kernel_rfl) (by kernel_rfl) (by kernel_rfl) (fun _ _ _ h => h) (Or.inl ⟨by rfl, ?_⟩) (by assumption) ?_
      rotate_left 1
      · (intro w hSw; (try dsimp only at hSw); go_simp; (try with_reducible rfl))
      try simp only [Act.put, List.setIfInBounds_toArray, List.set_cons_zero, List.set_cons_succ]
      refine take_at (i := 6) (v := ?_) rfl (by kernel_rfl) (by kernel_rfl) (by kernel_rfl) (fun _ _ _ h => h) (Or.inl ⟨by rfl, ?_⟩) (by assumption) ?_
      rotate_left 1
      · (intro w hSw; (try dsimp only at hSw); go_simp; (try with_reducible rfl))
      try simp only [Act.put, List.setIfInBounds_toArray, List.set_cons_zero, List.set_cons_succ]
      refine take_at (i := 7) (v := undef) rfl (by kernel_rfl) (by kernel_rfl) (by kernel_rfl) (fun _ _ _ h => h) (Or.inr ⟨by rfl, rfl⟩) (by assumption) ?_
      try simp only [Act.put, List.setIfInBounds_toArray, List.set_cons_zero, List.set_cons_succ]
      refine take_at (i := 8) (v := undef) rfl (by kernel_rfl) (by kernel_rfl) (by kernel_rfl) (fun _ _ _ h => h) (Or.inr ⟨by rfl, rfl⟩) (by assumption) ?_
      try simp only [Act.put, List.setIfInBounds_toArray, List.set_cons_zero, List.set_cons_succ]
      refine take_at (i := 9) (v := undef) rfl (by kernel_rfl) (by kernel_rfl) (by kernel_rfl) (fun _ _ _ h => h) (Or.inr ⟨by rfl, rfl⟩) (by assumption) ?_
      try simp only [Act.put, List.setIfInBounds_toArray, List.set_cons_zero, List.set_cons_succ]
      refine take_at (i := 10) (v := undef) rfl (by kernel_rfl) (by kernel_rfl) (by kernel_rfl) (fun _ _ _ h => h) (Or.inr ⟨by rfl, rfl⟩) (by assumption) ?_
      try simp only [Act.put, List.setIfInBounds_toArray, List.set_cons_zero, List.set_cons_succ]
      refine take_at (i := 11) (v := undef) rfl (by kernel_rfl) (by kernel_rfl) (by kernel_rfl) (fun _ _ _ h => h) (Or.inr ⟨by rfl, rfl⟩) (by assumption) ?_
      try simp only [Act.put, List.setIfInBounds_toArray, List.set_cons_zero, List.set_cons_succ]
      refine take_at (i := 12) (v := undef) rfl (by kernel_rfl) (by kernel_rfl) (by kernel_rfl) (fun _ _ _ h => h) (Or.inr ⟨by rfl, rfl⟩) (by assumption) ?_
      try simp only [Act.put, List.setIfInBounds_toArray, List.set_cons_zero, List.set_cons_succ]
      refine take_at (i := 13) (v := undef) rfl (by kernel_rfl) (by kernel_rfl) (by kernel_rfl) (fun _ _ _ h => h) (Or.inr ⟨by rfl, rfl⟩) (by assumption) ?_
      try simp only [Act.put, List.setIfInBounds_toArray, List.set_cons_zero, List.set_cons_succ]
      refine take_at (i := 14) (v := undef) rfl (by kernel_rfl) (by kernel_rfl) (by kernel_rfl) (fun _ _ _ h => h) (Or.inr ⟨by rfl, rfl⟩) (by assumption) ?_
      try simp only [Act.put, List.setIfInBounds_toArray, List.set_cons_zero, List.set_cons_succ]
      refine take_at (i := 15) (v := ?_) rfl (by kernel_rfl) (by kernel_rfl) (by kernel_rfl) (fun _ _ _ h => h) (Or.inl ⟨by rfl, ?_⟩) (by assumption) ?_
      rotate_left 1
      · (intro w hSw; (try dsimp only at hSw); go_simp; (try with_reducible rfl))
      try simp only [Act.put, List.setIfInBounds_toArray, List.set_cons_zero, List.set_cons_succ]
      refine take_at (i := 16) (v := ?_) rfl (by kernel_rfl) (by kernel_rfl) (by kernel_rfl) (fun _ _ _ h => h) (Or.inl ⟨by rfl, ?_⟩) (by assumption) ?_
      rotate_left 1
      · (intro w hSw; (try dsimp only at hSw); go_simp; (try with_reducible rfl))
      try simp only [Act.put, List.setIfInBounds_toArray, List.set_cons_zero, List.set_cons_succ]
      refine take_at (i := 17) (v := ?_) rfl (by kernel_rfl) (by kernel_rfl) (by kernel_rfl) (fun _ _ _ h => h) (Or.inl ⟨by rfl, ?_⟩) (by assumption) ?_
      rotate_left 1
      · (intro w hSw; (try dsimp only at hSw); go_simp; (try with_reducible rfl))
      try simp only [Act.put, List.setIfInBounds_toArray, List.set_cons_zero, List.set_cons_succ]
      refine take_at (i := 18) (v := ?_) rfl (by kernel_rfl) (by kernel_rfl) (by kernel_rfl) (fun _ _ _ h => h) (Or.inl ⟨by rfl, ?_⟩) (by assumption) ?_
      rotate_left 1
      · (intro w hSw; (try dsimp only at hSw); go_simp; (try with_reducible rfl))
      try simp only [Act.put, List.setIfInBounds_toArray, List.set_cons_zero, List.set_cons_succ]
      refine take_at (i := 19) (v := ?_) rfl (by kernel_rfl) (by kernel_rfl) (by kernel_rfl) (fun _ _ _ h => h) (Or.inl ⟨by rfl, ?_⟩) (by assumption) ?_
      rotate_left 1
      · (intro w hSw; (try dsimp only at hSw); go_simp; (try with_reducible rfl))
      try simp only [Act.put, List.setIfInBounds_toArray, List.set_cons_zero, List.set_cons_succ]
      refine take_at (i := 20) (v := ?_) rfl (by kernel_rfl) (by kernel_rfl) (by kernel_rfl) (fun _ _ _ h => h) (Or.inl ⟨by rfl, ?_⟩) (by assumption) ?_
      rotate_left 1
      · (intro w hSw; (try dsimp only at hSw); go_simp; (try with_reducible rfl))
      try simp only [Act.put, List.setIfInBounds_toArray, List.set_cons_zero, List.set_cons_succ]
      refine take_at (i := 21) (v := ?_) rfl (by kernel_rfl) (by kernel_rfl) (by kernel_rfl) (fun _ _ _ h => h) (Or.inl ⟨by rfl, ?_⟩) (by assumption) ?_
      rotate_left 1
      · (intro w hSw; (try dsimp only at hSw); go_simp; (try with_reducible rfl))
      try simp only [Act.put, List.setIfInBounds_toArray, List.set_cons_zero, List.set_cons_succ]
      refine take_at (i := 22) (v := ?_) rfl (by kernel_rfl) (by kernel_rfl) (by kernel_rfl) (fun _ _ _ h => h) (Or.inl ⟨by rfl, ?_⟩) (by assumption) ?_
      rotate_left 1
      · (intro w hSw; (try dsimp only at hSw); go_simp; (try with_reducible rfl))
      try simp only [Act.put, List.setIfInBounds_toArray, List.set_cons_zero, List.set_cons_succ]
      refine wpAnyH_ready (rs := [23]) (by kernel_rfl) (by simp) ?_
      refine cons_at (i := 23) rfl (fun K hK => ?_) AllReadyH.nil
      go_simp
      (go_at_call 12; refine (like19_same ⟨#[]⟩ ⟨#[]⟩ none none 0 0 0 0 0 none none 0 0 0 0 [] [] [] _ (isT_nil _ _ _ (Nat.zero_le _)) rfl (isT_nil _ _ _ (Nat.zero_le _)) rfl rfl (isZ_nil _ _ _ (Nat.zero_le _)) rfl (isZ_nil _ _ _ (Nat.zero_le _)) rfl).mono ?_; rintro e w5 ⟨rfl, hb⟩; clear p0 p1 p2 p3 p4 x0 x1 x2 x3 x4; replace BX := BX.below hb; replace hX := hX.below hb; replace R := R.below hb; replace hB := Below.tr hB hb; clear hb; have p0 := R.box.1 0 _ rfl; have p1 := R.box.1 1 _ rfl; have p2 := R.box.1 2 _ rfl; have p3 := R.box.1 3 _ rfl; have p4 := R.box.1 4 _ rfl; have x0 := BX.1 0 _ rfl; have x1 := BX.1 1 _ rfl; have x2 := BX.1 2 _ rfl; have x3 := BX.1 3 _ rfl; have x4 := BX.1 4 _ rfl)
      refine hK.out _ _ ?_ (fun hHeld => ?_)
      · exact ⟨⟨p0, p1, p2⟩, x0, x1, x2, x3, x4⟩
      clear hK K
      refine take_at (i := 24) (v := ?_) rfl (by kernel_rfl) (by kernel_rfl) (by kernel_rfl) (fun _ _ _ h => h) (Or.inl ⟨by rfl, ?_⟩) (by assumption) ?_
      rotate_left 1
      · (intro w hSw; (try dsimp only at hSw); go_simp; (try with_reducible rfl))
      try simp only [Act.put, List.setIfInBounds_toArray, List.set_cons_zero, List.set_cons_succ]
      refine take_at (i := 25) (v := ?_) rfl (by kernel_rfl) (by kernel_rfl) (by kernel_rfl) (fun _ _ _ h => h) (Or.inl ⟨by rfl, ?_⟩) (by assumption) ?_
      rotate_left 1
      · (intro w hSw; (try dsimp only at hSw); go_simp; (try with_reducible rfl))
      try simp only [Act.put, List.setIfInBounds_toArray, List.set_cons_zero, List.set_cons_succ]
      refine take_at (i := 26) (v := ?_) rfl (by kernel_rfl) (by kernel_rfl) (by kernel_rfl) (fun _ _ _ h => h) (Or.inl ⟨by rfl, ?_⟩) (by assumption) ?_
      rotate_left 1
      · (intro w hSw; (try dsimp only at hSw); go_simp; (try with_reducible rfl))
      try simp only [Act.put, List.setIfInBounds_toArray, List.set_cons_zero, List.set_cons_succ]
      refine wpAnyH_done (by kernel_rfl) ?_ _
      refine NoPanic.normal ?_
      clear x0 x1 x2 x3 x4 BX hX
      go_wp2_with (first
        | (go_at_call 14; refine (cS _ _ _ _ _ R).mono ?_; rintro e w6 ⟨yk, yn, ya, ym, yc, yi, ys, yq, ysc, yt, yz, rfl, hY, g0, g1, hb⟩; obtain ⟨rfl, rfl, rfl, rfl, rfl, rfl, rfl, rfl, rfl, rfl, rfl⟩ := g1 (by decide); clear g0 g1; obtain ⟨Y, hY9⟩ : ∃ Y, Y = w6.alloc (.cells #[.string ⟨#[]⟩, .string ⟨#[]⟩, .slice none 0 0, .int .i64 0, .slice none 0 0] 27) := ⟨_, rfl⟩; have hbW : Below w6.heap.size w6 Y := (by rw [hY9]; exact (Below.refl _ _).alloc (Nat.le_refl _) _); have hbY := Below.tr hb hbW; have BY : BoxL Y w6.heap.size [.string ⟨#[]⟩, .string ⟨#[]⟩, .slice none 0 0, .int .i64 0, .slice none 0 0] := (by rw [hY9]; exact boxL_new w6 [.string ⟨#[]⟩, .string ⟨#[]⟩, .slice none 0 0, .int .i64 0, .slice none 0 0] _ rfl); replace hY := hY.below hbW; replace R := R.below hbY; replace hB := Below.tr hB hbY; clear p0 p1 p2 p3 p4 hb hbW hbY; have p0 := R.box.1 0 _ rfl; have p1 := R.box.1 1 _ rfl; have p2 := R.box.1 2 _ rfl; have p3 := R.box.1 3 _ rfl; have p4 := R.box.1 4 _ rfl; have y0 := BY.1 0 _ rfl; have y1 := BY.1 1 _ rfl; have y2 := BY.1 2 _ rfl; have y3 := BY.1 3 _ rfl; have y4 := BY.1 4 _ rfl; rw [hY9] at p0 p1 p2 p3 p4 y0 y1 y2 y3 y4)
        | (go_at_call 15; rw [← hY9]; refine (cQ _ _ _ _ _ R).mono ?_; rintro e w7 ⟨rfl, hb⟩; clear p0 p1 p2 p3 p4 y0 y1 y2 y3 y4; replace BY := BY.below hb; replace hY := hY.below hb; replace R := R.below hb; replace hB := Below.tr hB hb; clear hb; have p0 := R.box.1 0 _ rfl; have p1 := R.box.1 1 _ rfl; have p2 := R.box.1 2 _ rfl; have p3 := R.box.1 3 _ rfl; have p4 := R.box.1 4 _ rfl; have y0 := BY.1 0 _ rfl; have y1 := BY.1 1 _ rfl; have y2 := BY.1 2 _ rfl; have y3 := BY.1 3 _ rfl; have y4 := BY.1 4 _ rfl)
        | (go_at_call 16; refine (alive19_any _).mono ?_; rintro e w8 ⟨rfl, hb⟩; clear p0 p1 p2 p3 p4 y0 y1 y2 y3 y4; replace BY := BY.below hb; replace hY := hY.below hb; replace R := R.below hb; replace hB := Below.tr hB hb; clear hb; have p0 := R.box.1 0 _ rfl; have p1 := R.box.1 1 _ rfl; have p2 := R.box.1 2 _ rfl; have p3 := R.box.1 3 _ rfl; have p4 := R.box.1 4 _ rfl; have y0 := BY.1 0 _ rfl; have y1 := BY.1 1 _ rfl; have y2 := BY.1 2 _ rfl; have y3 := BY.1 3 _ rfl; have y4 := BY.1 4 _ rfl)
        | (go_at_call 17; refine (cR _ _ _ _ _ R).mono ?_; rintro e w9 ⟨rfl, hb⟩; clear p0 p1 p2 p3 p4 y0 y1 y2 y3 y4; replace BY := BY.below hb; replace hY := hY.below hb; replace R := R.below hb; replace hB := Below.tr hB hb; clear hb; have p0 := R.box.1 0 _ rfl; have p1 := R.box.1 1 _ rfl; have p2 := R.box.1 2 _ rfl; have p3 := R.box.1 3 _ rfl; have p4 := R.box.1 4 _ rfl; have y0 := BY.1 0 _ rfl; have y1 := BY.1 1 _ rfl; have y2 := BY.1 2 _ rfl; have y3 := BY.1 3 _ rfl; have y4 := BY.1 4 _ rfl)
        | (go_at_call 12; refine (like19_same ⟨#[]⟩ ⟨#[]⟩ none none 0 0 0 0 0 none none 0 0 0 0 [] [] [] _ (isT_nil _ _ _ (Nat.zero_le _)) rfl (isT_nil _ _ _ (Nat.zero_le _)) rfl rfl (isZ_nil _ _ _ (Nat.zero_le _)) rfl (isZ_nil _ _ _ (Nat.zero_le _)) rfl).mono ?_; rintro e w12 ⟨rfl, hb⟩; replace hB := Below.tr hB hb)
        )
      go_ret
      exact ⟨rfl, hB⟩
  · rw [if_neg hk] at hE
    subst hE
    obtain rfl : ok = false := by rw [HOK.out]; exact notOk_key hk
    obtain rfl : F = 1 := by rw [HF.out, ← HOK.out]; rfl
    by_cases k1 : (ky.size : Int) < 1
    · clear hk
      go_enter Try.func3, Try.ntmps3
      go_wp2_with (first
        | (go_at_call 9; refine cF.mono ?_; rintro e w1 ⟨a, c, m, q, u0, u1, u2, u3, u4, rfl, b1, R1, hB1⟩; have v0 := b1.1 0 _ rfl; have v1 := b1.1 1 _ rfl; have v2 := b1.1 2 _ rfl; have v3 := b1.1 3 _ rfl; have v4 := b1.1 4 _ rfl; have d0 := b1.2 0 (by simp); have d1 := b1.2 1 (by simp); have d2 := b1.2 2 (by simp); have d3 := b1.2 3 (by simp); have d4 := b1.2 4 (by simp); obtain ⟨Z, hZ9⟩ : ∃ Z, Z = (((((w1.setCell ⟨w.heap.size, 0, none⟩ (.string ky)).setCell ⟨w.heap.size, 1, none⟩ (.string nm)).setCell ⟨w.heap.size, 2, none⟩ (.slice a m c)).setCell ⟨w.heap.size, 3, none⟩ (.int .i64 is)).setCell ⟨w.heap.size, 4, none⟩ (.slice sa q sc)) := ⟨_, rfl⟩; rw [← hZ9] at R1 hB1; have p0 := R1.box.1 0 _ rfl; have p1 := R1.box.1 1 _ rfl; have p2 := R1.box.1 2 _ rfl; have p3 := R1.box.1 3 _ rfl; have p4 := R1.box.1 4 _ rfl; rw [hZ9] at p0 p1 p2 p3 p4)
        | (go_at_call 10; rw [← hZ9]; refine (cN Z a m c q R1).mono ?_; rintro e w2 ⟨xk, xn, xa, xm, xc, xi, xs, xq, xsc, xt, xz, rfl, hX, h0, h1, hb⟩; obtain ⟨rfl, rfl, rfl, rfl, rfl, rfl, rfl, rfl, rfl, rfl, rfl⟩ := h1 (by decide); clear h0 h1; obtain ⟨X, hX9⟩ : ∃ X, X = w2.alloc (.cells #[.string ⟨#[]⟩, .string ⟨#[]⟩, .slice none 0 0, .int .i64 0, .slice none 0 0] 27) := ⟨_, rfl⟩; have hbW : Below w2.heap.size w2 X := (by rw [hX9]; exact (Below.refl _ _).alloc (Nat.le_refl _) _); have hbX : Below Z.heap.size Z X := Below.tr hb hbW; have BX : BoxL X w2.heap.size [.string ⟨#[]⟩, .string ⟨#[]⟩, .slice none 0 0, .int .i64 0, .slice none 0 0] := (by rw [hX9]; exact boxL_new w2 [.string ⟨#[]⟩, .string ⟨#[]⟩, .slice none 0 0, .int .i64 0, .slice none 0 0] _ rfl); replace hX := hX.below hbW; have R := R1.below hbX; have hB := Below.tr hB1 hbX; clear p0 p1 p2 p3 p4 v0 v1 v2 v3 v4 d0 d1 d2 d3 d4 hb hbW hbX R1 hB1 b1; have p0 := R.box.1 0 _ rfl; have p1 := R.box.1 1 _ rfl; have p2 := R.box.1 2 _ rfl; have p3 := R.box.1 3 _ rfl; have p4 := R.box.1 4 _ rfl; have x0 := BX.1 0 _ rfl; have x1 := BX.1 1 _ rfl; have x2 := BX.1 2 _ rfl; have x3 := BX.1 3 _ rfl; have x4 := BX.1 4 _ rfl; rw [hX9] at p0 p1 p2 p3 p4 x0 x1 x2 x3 x4)
        | (go_at_call 11; rw [← hX9]; refine (cW X a m c q R).mono ?_; rintro e w3 ⟨rfl, hb⟩; clear p0 p1 p2 p3 p4 x0 x1 x2 x3 x4; replace BX := BX.below hb; replace hX := hX.below hb; replace R := R.below hb; replace hB := Below.tr hB hb; clear hb; have p0 := R.box.1 0 _ rfl; have p1 := R.box.1 1 _ rfl; have p2 := R.box.1 2 _ rfl; have p3 := R.box.1 3 _ rfl; have p4 := R.box.1 4 _ rfl; have x0 := BX.1 0 _ rfl; have x1 := BX.1 1 _ rfl; have x2 := BX.1 2 _ rfl; have x3 := BX.1 3 _ rfl; have x4 := BX.1 4 _ rfl)
        )
      refine wp_region_noPanic ?_
      refine wp_region_held_drew (S := fun V => (V.cell? ⟨w.heap.size, 0, none⟩ = some (.string ky) ∧ V.cell? ⟨w.heap.size, 1, none⟩ = some (.string nm) ∧ V.cell? ⟨w.heap.size, 2, none⟩ = some (.slice a m c)) ∧ V.cell? ⟨w2.heap.size, 0, none⟩ = some (.string ⟨#[]⟩) ∧ V.cell? ⟨w2.heap.size, 1, none⟩ = some (.string ⟨#[]⟩) ∧ V.cell? ⟨w2.heap.size, 2, none⟩ = some (.slice none 0 0) ∧ V.cell? ⟨w2.heap.size, 3, none⟩ = some (.int .i64 0) ∧ V.cell? ⟨w2.heap.size, 4, none⟩ = some (.slice none 0 0)) (by kernel_rfl) ⟨⟨p0, p1, p2⟩, x0, x1, x2, x3, x4⟩ (fun hHeld => ?_)
      have hb := (Below.refl w3.heap.size w3).drew; clear p0 p1 p2 p3 p4 x0 x1 x2 x3 x4; replace BX := BX.below hb; replace hX := hX.below hb; replace R := R.below hb; replace hB := Below.tr hB hb; clear hb; have p0 := R.box.1 0 _ rfl; have p1 := R.box.1 1 _ rfl; have p2 := R.box.1 2 _ rfl; have p3 := R.box.1 3 _ rfl; have p4 := R.box.1 4 _ rfl; have x0 := BX.1 0 _ rfl; have x1 := BX.1 1 _ rfl; have x2 := BX.1 2 _ rfl; have x3 := BX.1 3 _ rfl; have x4 := BX.1 4 _ rfl
      refine take_at (i := 0) (v := ?_) rfl (by kernel_rfl) (by kernel_rfl) (by kernel_rfl) (fun _ _ _ h => h) (Or.inl ⟨by rfl, ?_⟩) (by assumption) ?_
      rotate_left 1
      · (intro w hSw; (try dsimp only at hSw); go_simp; (try with_reducible rfl))
      try simp only [Act.put, List.setIfInBounds_toArray, List.set_cons_zero, List.set_cons_succ]
      refine take_at (i := 1) (v := ?_) rfl (by kernel_rfl) (by kernel_rfl) (by kernel_rfl) (fun _ _ _ h => h) (Or.inl ⟨by rfl, ?_⟩) (by assumption) ?_
      rotate_left 1
      · (intro w hSw; (try dsimp only at hSw); go_simp; (try with_reducible rfl))
      try simp only [Act.put, List.setIfInBounds_toArray, List.set_cons_zero, List.set_cons_succ]
      refine take_at (i := 2) (v := ?_) rfl (by kernel_rfl) (by kernel_rfl) (by kernel_rfl) (fun _ _ _ h => h) (Or.inl ⟨by rfl, ?_⟩) (by assumption) ?_
      rotate_left 1
      · (intro w hSw; (try dsimp only at hSw); go_simp; (try with_reducible rfl))
      try simp only [Act.put, List.setIfInBounds_toArray, List.set_cons_zero, List.set_cons_succ]
      refine take_at (i := 3) (v := ?_) rfl (by kernel_rfl) (by kernel_rfl) (by kernel_rfl) (fun _ _ _ h => h) (Or.inl ⟨by rfl, ?_⟩) (by assumption) ?_
      rotate_left 1
      · (intro w hSw; (try dsimp only at hSw); go_simp; (try with_reducible rfl))
      try simp only [Act.put, List.setIfInBounds_toArray, List.set_cons_zero, List.set_cons_succ]
      refine take_at (i := 4) (v := ?_) rfl (by kernel_rfl) (by kernel_rfl) (by kernel_rfl) (fun _ _ _ h => h) (Or.inl ⟨by rfl, ?_⟩) (by assumption) ?_
      rotate_left 1
      · (intro w hSw; (try dsimp only at hSw); go_simp; (try with_reducible rfl))
      try simp only [Act.put, List.setIfInBounds_toArray, List.set_cons_zero, List.set_cons_succ]
      refine take_at (i := 5) (v := ?_) rfl (by kernel_rfl) (by kernel_rfl) (by kernel_rfl) (fun _ _ _ h => h) (Or.inl ⟨by rfl, ?_⟩) (by assumption) ?_
      rotate_left 1
      · (intro w hSw; (try dsimp only at hSw); go_simp; (try with_reducible rfl))
      try simp only [Act.put, List.setIfInBounds_toArray, List.set_cons_zero, List.set_cons_succ]
      refine take_at (i := 6) (v := ?_) rfl (by kernel_rfl) (by kernel_rfl) (by kernel_rfl) (fun _ _ _ h => h) (Or.inl ⟨by rfl, ?_⟩) (by assumption) ?_
      rotate_left 1
      · (intro w hSw; (try dsimp only at hSw); go_simp; (try with_reducible rfl))
      try simp only [Act.put, List.setIfInBounds_toArray, List.set_cons_zero, List.set_cons_succ]
      refine take_at (i := 7) (v := undef) rfl (by kernel_rfl) (by kernel_rfl) (by kernel_rfl) (fun _ _ _ h => h) (Or.inr ⟨by rfl, rfl⟩) (by assumption) ?_
      try simp only [Act.put, List.setIfInBounds_toArray, List.set_cons_zero, List.set_cons_succ]
      refine take_at (i := 8) (v := undef) rfl (by kernel_rfl) (by kernel_rfl) (by kernel_rfl) (fun _ _ _ h => h) (Or.inr ⟨by rfl, rfl⟩) (by assumption) ?_
      try simp only [Act.put, List.setIfInBounds_toArray, List.set_cons_zero, List.set_cons_succ]
      refine take_at (i := 9) (v := undef) rfl (by kernel_rfl) (by kernel_rfl) (by kernel_rfl) (fun _ _ _ h => h) (Or.inr ⟨by rfl, rfl⟩) (by assumption) ?_
      try simp only [Act.put, List.setIfInBounds_toArray, List.set_cons_zero, List.set_cons_succ]
      refine take_at (i := 10) (v := undef) rfl (by kernel_rfl) (by kernel_rfl) (by kernel_rfl) (fun _ _ _ h => h) (Or.inr ⟨by rfl, rfl⟩) (by assumption) ?_
      try simp only [Act.put, List.setIfInBounds_toArray, List.set_cons_zero, List.set_cons_succ]
      refine take_at (i := 11) (v := undef) rfl (by kernel_rfl) (by kernel_rfl) (by kernel_rfl) (fun _ _ _ h => h) (Or.inr ⟨by rfl, rfl⟩) (by assumption) ?_
      try simp only [Act.put, List.setIfInBounds_toArray, List.set_cons_zero, List.set_cons_succ]
      refine take_at (i := 12) (v := undef) rfl (by kernel_rfl) (by kernel_rfl) (by kernel_rfl) (fun _ _ _ h => h) (Or.inr ⟨by rfl, rfl⟩) (by assumption) ?_
      try simp only [Act.put, List.setIfInBounds_toArray, List.set_cons_zero, List.set_cons_succ]
      refine take_at (i := 13) (v := undef) rfl (by kernel_rfl) (by kernel_rfl) (by kernel_rfl) (fun _ _ _ h => h) (Or.inr ⟨by rfl, rfl⟩) (by assumption) ?_
      try simp only [Act.put, List.setIfInBounds_toArray, List.set_cons_zero, List.set_cons_succ]
      refine take_at (i := 14) (v := undef) rfl (by kernel_rfl) (by kernel_rfl) (by kernel_rfl) (fun _ _ _ h => h) (Or.inr ⟨by rfl, rfl⟩) (by assumption) ?_
      try simp only [Act.put, List.setIfInBounds_toArray, List.set_cons_zero, List.set_cons_succ]
      refine take_at (i := 15) (v := ?_) rfl (by kernel_rfl) (by kernel_rfl) (by kernel_rfl) (fun _ _ _ h => h) (Or.inl ⟨by rfl, ?_⟩) (by assumption) ?_
      rotate_left 1
      · (intro w hSw; (try dsimp only at hSw); go_simp; (try with_reducible rfl))
      try simp only [Act.put, List.setIfInBounds_toArray, List.set_cons_zero, List.set_cons_succ]
      refine take_at (i := 16) (v := ?_) rfl (by kernel_rfl) (by kernel_rfl) (by kernel_rfl) (fun _ _ _ h => h) (Or.inl ⟨by rfl, ?_⟩) (by assumption) ?_
      rotate_left 1
      · (intro w hSw; (try dsimp only at hSw); go_simp; (try with_reducible rfl))
      try simp only [Act.put, List.setIfInBounds_toArray, List.set_cons_zero, List.set_cons_succ]
      refine take_at (i := 17) (v := ?_) rfl (by kernel_rfl) (by kernel_rfl) (by kernel_rfl) (fun _ _ _ h => h) (Or.inl ⟨by rfl, ?_⟩) (by assumption) ?_
      rotate_left 1
      · (intro w hSw; (try dsimp only at hSw); go_simp; (try with_reducible rfl))
      try simp only [Act.put, List.setIfInBounds_toArray, List.set_cons_zero, List.set_cons_succ]
      refine take_at (i := 18) (v := ?_) rfl (by kernel_rfl) (by kernel_rfl) (by kernel_rfl) (fun _ _ _ h => h) (Or.inl ⟨by rfl, ?_⟩) (by assumption) ?_
      rotate_left 1
      · (intro w hSw; (try dsimp only at hSw); go_simp; (try with_reducible rfl))
      try simp only [Act.put, List.setIfInBounds_toArray, List.set_cons_zero, List.set_cons_succ]
      refine take_at (i := 19) (v := ?_) rfl (by kernel_rfl) (by kernel_rfl) (by kernel_rfl) (fun _ _ _ h => h) (Or.inl ⟨by rfl, ?_⟩) (by assumption) ?_
      rotate_left 1
      · (intro w hSw; (try dsimp only at hSw); go_simp; (try with_reducible rfl))
      try simp only [Act.put, List.setIfInBounds_toArray, List.set_cons_zero, List.set_cons_succ]
      refine take_at (i := 20) (v := ?_) rfl (by kernel_rfl) (by kernel_rfl) (by kernel_rfl) (fun _ _ _ h => h) (Or.inl ⟨by rfl, ?_⟩) (by assumption) ?_
      rotate_left 1
      · (intro w hSw; (try dsimp only at hSw); go_simp; (try with_reducible rfl))
      try simp only [Act.put, List.setIfInBounds_toArray, List.set_cons_zero, List.set_cons_succ]
      refine take_at (i := 21) (v := ?_) rfl (by kernel_rfl) (by kernel_rfl) (by kernel_rfl) (fun _ _ _ h => h) (Or.inl ⟨by rfl, ?_⟩) (by assumption) ?_
      rotate_left 1
      · (intro w hSw; (try dsimp only at hSw); go_simp; (try with_reducible rfl))
      try simp only [Act.put, List.setIfInBounds_toArray, List.set_cons_zero, List.set_cons_succ]
      refine take_at (i := 22) (v := ?_) rfl (by kernel_rfl) (by kernel_rfl) (by kernel_rfl) (fun _ _ _ h => h) (Or.inl ⟨by rfl, ?_⟩) (by assumption) ?_
      rotate_left 1
      · (intro w hSw; (try dsimp only at hSw); go_simp; (try with_reducible rfl))
      try simp only [Act.put, List.setIfInBounds_toArray, List.set_cons_zero, List.set_cons_succ]
      refine wpAnyH_ready (rs := [23]) (by kernel_rfl) (by simp) ?_
      refine cons_at (i := 23) rfl (fun K hK => ?_) AllReadyH.nil
      go_simp
      (go_at_call 12; refine (like19_same ⟨#[]⟩ ⟨#[]⟩ none none 0 0 0 0 0 none none 0 0 0 0 [] [] [] _ (isT_nil _ _ _ (Nat.zero_le _)) rfl (isT_nil _ _ _ (Nat.zero_le _)) rfl rfl (isZ_nil _ _ _ (Nat.zero_le _)) rfl (isZ_nil _ _ _ (Nat.zero_le _)) rfl).mono ?_; rintro e w5 ⟨rfl, hb⟩; clear p0 p1 p2 p3 p4 x0 x1 x2 x3 x4; replace BX := BX.below hb; replace hX := hX.below hb; replace R := R.below hb; replace hB := Below.tr hB hb; clear hb; have p0 := R.box.1 0 _ rfl; have p1 := R.box.1 1 _ rfl; have p2 := R.box.1 2 _ rfl; have p3 := R.box.1 3 _ rfl; have p4 := R.box.1 4 _ rfl; have x0 := BX.1 0 _ rfl; have x1 := BX.1 1 _ rfl; have x2 := BX.1 2 _ rfl; have x3 := BX.1 3 _ rfl; have x4 := BX.1 4 _ rfl)
      refine hK.out _ _ ?_ (fun hHeld => ?_)
      · exact ⟨⟨p0, p1, p2⟩, x0, x1, x2, x3, x4⟩
      clear hK K
      refine take_at (i := 24) (v := ?_) rfl (by kernel_rfl) (by kernel_rfl) (by kernel_rfl) (fun _ _ _ h => h) (Or.inl ⟨by rfl, ?_⟩) (by assumption) ?_
      rotate_left 1
      · (intro w hSw; (try dsimp only at hSw); go_simp; (try with_reducible rfl))
      try simp only [Act.put, List.setIfInBounds_toArray, List.set_cons_zero, List.set_cons_succ]
      refine take_at (i := 25) (v := ?_) rfl (by kernel_rfl) (by kernel_rfl) (by kernel_rfl) (fun _ _ _ h => h) (Or.inl ⟨by rfl, ?_⟩) (by assumption) ?_
      rotate_left 1
      · (intro w hSw; (try dsimp only at hSw); go_simp; (try with_reducible rfl))
      try simp only [Act.put, List.setIfInBounds_toArray, List.set_cons_zero, List.set_cons_succ]
      refine take_at (i := 26) (v := ?_) rfl (by kernel_rfl) (by kernel_rfl) (by kernel_rfl) (fun _ _ _ h => h) (Or.inl ⟨by rfl, ?_⟩) (by assumption) ?_
      rotate_left 1
      · (intro w hSw; (try dsimp only at hSw); go_simp; (try with_reducible rfl))
      try simp only [Act.put, List.setIfInBounds_toArray, List.set_cons_zero, List.set_cons_succ]
      refine wpAnyH_done (by kernel_rfl) ?_ _
      refine NoPanic.normal ?_
      clear x0 x1 x2 x3 x4 BX hX
      go_wp2_with (first
        | (go_at_call 14; refine (cS _ _ _ _ _ R).mono ?_; rintro e w6 ⟨yk, yn, ya, ym, yc, yi, ys, yq, ysc, yt, yz, rfl, hY, g0, g1, hb⟩; obtain ⟨rfl, rfl, rfl, rfl, rfl, rfl, rfl, rfl, rfl, rfl, rfl⟩ := g1 (by decide); clear g0 g1; obtain ⟨Y, hY9⟩ : ∃ Y, Y = w6.alloc (.cells #[.string ⟨#[]⟩, .string ⟨#[]⟩, .slice none 0 0, .int .i64 0, .slice none 0 0] 27) := ⟨_, rfl⟩; have hbW : Below w6.heap.size w6 Y := (by rw [hY9]; exact (Below.refl _ _).alloc (Nat.le_refl _) _); have hbY := Below.tr hb hbW; have BY : BoxL Y w6.heap.size [.string ⟨#[]⟩, .string ⟨#[]⟩, .slice none 0 0, .int .i64 0, .slice none 0 0] := (by rw [hY9]; exact boxL_new w6 [.string ⟨#[]⟩, .string ⟨#[]⟩, .slice none 0 0, .int .i64 0, .slice none 0 0] _ rfl); replace hY := hY.below hbW; replace R := R.below hbY; replace hB := Below.tr hB hbY; clear p0 p1 p2 p3 p4 hb hbW hbY; have p0 := R.box.1 0 _ rfl; have p1 := R.box.1 1 _ rfl; have p2 := R.box.1 2 _ rfl; have p3 := R.box.1 3 _ rfl; have p4 := R.box.1 4 _ rfl; have y0 := BY.1 0 _ rfl; have y1 := BY.1 1 _ rfl; have y2 := BY.1 2 _ rfl; have y3 := BY.1 3 _ rfl; have y4 := BY.1 4 _ rfl; rw [hY9] at p0 p1 p2 p3 p4 y0 y1 y2 y3 y4)
        | (go_at_call 15; rw [← hY9]; refine (cQ _ _ _ _ _ R).mono ?_; rintro e w7 ⟨rfl, hb⟩; clear p0 p1 p2 p3 p4 y0 y1 y2 y3 y4; replace BY := BY.below hb; replace hY := hY.below hb; replace R := R.below hb; replace hB := Below.tr hB hb; clear hb; have p0 := R.box.1 0 _ rfl; have p1 := R.box.1 1 _ rfl; have p2 := R.box.1 2 _ rfl; have p3 := R.box.1 3 _ rfl; have p4 := R.box.1 4 _ rfl; have y0 := BY.1 0 _ rfl; have y1 := BY.1 1 _ rfl; have y2 := BY.1 2 _ rfl; have y3 := BY.1 3 _ rfl; have y4 := BY.1 4 _ rfl)
        | (go_at_call 16; refine (alive19_any _).mono ?_; rintro e w8 ⟨rfl, hb⟩; clear p0 p1 p2 p3 p4 y0 y1 y2 y3 y4; replace BY := BY.below hb; replace hY := hY.below hb; replace R := R.below hb; replace hB := Below.tr hB hb; clear hb; have p0 := R.box.1 0 _ rfl; have p1 := R.box.1 1 _ rfl; have p2 := R.box.1 2 _ rfl; have p3 := R.box.1 3 _ rfl; have p4 := R.box.1 4 _ rfl; have y0 := BY.1 0 _ rfl; have y1 := BY.1 1 _ rfl; have y2 := BY.1 2 _ rfl; have y3 := BY.1 3 _ rfl; have y4 := BY.1 4 _ rfl)
        | (go_at_call 17; refine (cR _ _ _ _ _ R).mono ?_; rintro e w9 ⟨rfl, hb⟩; clear p0 p1 p2 p3 p4 y0 y1 y2 y3 y4; replace BY := BY.below hb; replace hY := hY.below hb; replace R := R.below hb; replace hB := Below.tr hB hb; clear hb; have p0 := R.box.1 0 _ rfl; have p1 := R.box.1 1 _ rfl; have p2 := R.box.1 2 _ rfl; have p3 := R.box.1 3 _ rfl; have p4 := R.box.1 4 _ rfl; have y0 := BY.1 0 _ rfl; have y1 := BY.1 1 _ rfl; have y2 := BY.1 2 _ rfl; have y3 := BY.1 3 _ rfl; have y4 := BY.1 4 _ rfl)
        | (go_at_call 12; refine (like19_same ⟨#[]⟩ ⟨#[]⟩ none none 0 0 0 0 0 none none 0 0 0 0 [] [] [] _ (isT_nil _ _ _ (Nat.zero_le _)) rfl (isT_nil _ _ _ (Nat.zero_le _)) rfl rfl (isZ_nil _ _ _ (Nat.zero_le _)) rfl (isZ_nil _ _ _ (Nat.zero_le _)) rfl).mono ?_; rintro e w12 ⟨rfl, hb⟩; replace hB := Below.tr hB hb)
        )
      go_ret
      exact ⟨rfl, hB⟩
    · have k2 : (16 : Int) < ky.size := by omega
      clear hk
      go_enter Try.func3, Try.ntmps3
      go_wp2_with (first
        | (go_at_call 9; refine cF.mono ?_; rintro e w1 ⟨a, c, m, q, u0, u1, u2, u3, u4, rfl, b1, R1, hB1⟩; have v0 := b1.1 0 _ rfl; have v1 := b1.1 1 _ rfl; have v2 := b1.1 2 _ rfl; have v3 := b1.1 3 _ rfl; have v4 := b1.1 4 _ rfl; have d0 := b1.2 0 (by simp); have d1 := b1.2 1 (by simp); have d2 := b1.2 2 (by simp); have d3 := b1.2 3 (by simp); have d4 := b1.2 4 (by simp); obtain ⟨Z, hZ9⟩ : ∃ Z, Z = (((((w1.setCell ⟨w.heap.size, 0, none⟩ (.string ky)).setCell ⟨w.heap.size, 1, none⟩ (.string nm)).setCell ⟨w.heap.size, 2, none⟩ (.slice a m c)).setCell ⟨w.heap.size, 3, none⟩ (.int .i64 is)).setCell ⟨w.heap.size, 4, none⟩ (.slice sa q sc)) := ⟨_, rfl⟩; rw [← hZ9] at R1 hB1; have p0 := R1.box.1 0 _ rfl; have p1 := R1.box.1 1 _ rfl; have p2 := R1.box.1 2 _ rfl; have p3 := R1.box.1 3 _ rfl; have p4 := R1.box.1 4 _ rfl; rw [hZ9] at p0 p1 p2 p3 p4)
        | (go_at_call 10; rw [← hZ9]; refine (cN Z a m c q R1).mono ?_; rintro e w2 ⟨xk, xn, xa, xm, xc, xi, xs, xq, xsc, xt, xz, rfl, hX, h0, h1, hb⟩; obtain ⟨rfl, rfl, rfl, rfl, rfl, rfl, rfl, rfl, rfl, rfl, rfl⟩ := h1 (by decide); clear h0 h1; obtain ⟨X, hX9⟩ : ∃ X, X = w2.alloc (.cells #[.string ⟨#[]⟩, .string ⟨#[]⟩, .slice none 0 0, .int .i64 0, .slice none 0 0] 27) := ⟨_, rfl⟩; have hbW : Below w2.heap.size w2 X := (by rw [hX9]; exact (Below.refl _ _).alloc (Nat.le_refl _) _); have hbX : Below Z.heap.size Z X := Below.tr hb hbW; have BX : BoxL X w2.heap.size [.string ⟨#[]⟩, .string ⟨#[]⟩, .slice none 0 0, .int .i64 0, .slice none 0 0] := (by rw [hX9]; exact boxL_new w2 [.string ⟨#[]⟩, .string ⟨#[]⟩, .slice none 0 0, .int .i64 0, .slice none 0 0] _ rfl); replace hX := hX.below hbW; have R := R1.below hbX; have hB := Below.tr hB1 hbX; clear p0 p1 p2 p3 p4 v0 v1 v2 v3 v4 d0 d1 d2 d3 d4 hb hbW hbX R1 hB1 b1; have p0 := R.box.1 0 _ rfl; have p1 := R.box.1 1 _ rfl; have p2 := R.box.1 2 _ rfl; have p3 := R.box.1 3 _ rfl; have p4 := R.box.1 4 _ rfl; have x0 := BX.1 0 _ rfl; have x1 := BX.1 1 _ rfl; have x2 := BX.1 2 _ rfl; have x3 := BX.1 3 _ rfl; have x4 := BX.1 4 _ rfl; rw [hX9] at p0 p1 p2 p3 p4 x0 x1 x2 x3 x4)
        | (go_at_call 11; rw [← hX9]; refine (cW X a m c q R).mono ?_; rintro e w3 ⟨rfl, hb⟩; clear p0 p1 p2 p3 p4 x0 x1 x2 x3 x4; replace BX := BX.below hb; replace hX := hX.below hb; replace R := R.below hb; replace hB := Below.tr hB hb; clear hb; have p0 := R.box.1 0 _ rfl; have p1 := R.box.1 1 _ rfl; have p2 := R.box.1 2 _ rfl; have p3 := R.box.1 3 _ rfl; have p4 := R.box.1 4 _ rfl; have x0 := BX.1 0 _ rfl; have x1 := BX.1 1 _ rfl; have x2 := BX.1 2 _ rfl; have x3 := BX.1 3 _ rfl; have x4 := BX.1 4 _ rfl)
        )
      refine wp_region_noPanic ?_
      refine wp_region_held_drew (S := fun V => (V.cell? ⟨w.heap.size, 0, none⟩ = some (.string ky) ∧ V.cell? ⟨w.heap.size, 1, none⟩ = some (.string nm) ∧ V.cell? ⟨w.heap.size, 2, none⟩ = some (.slice a m c)) ∧ V.cell? ⟨w2.heap.size, 0, none⟩ = some (.string ⟨#[]⟩) ∧ V.cell? ⟨w2.heap.size, 1, none⟩ = some (.string ⟨#[]⟩) ∧ V.cell? ⟨w2.heap.size, 2, none⟩ = some (.slice none 0 0) ∧ V.cell? ⟨w2.heap.size, 3, none⟩ = some (.int .i64 0) ∧ V.cell? ⟨w2.heap.size, 4, none⟩ = some (.slice none 0 0)) (by kernel_rfl) ⟨⟨p0, p1, p2⟩, x0, x1, x2, x3, x4⟩ (fun hHeld => ?_)
      have hb := (Below.refl w3.heap.size w3).drew; clear p0 p1 p2 p3 p4 x0 x1 x2 x3 x4; replace BX := BX.below hb; replace hX := hX.below hb; replace R := R.below hb; replace hB := Below.tr hB hb; clear hb; have p0 := R.box.1 0 _ rfl; have p1 := R.box.1 1 _ rfl; have p2 := R.box.1 2 _ rfl; have p3 := R.box.1 3 _ rfl; have p4 := R.box.1 4 _ rfl; have x0 := BX.1 0 _ rfl; have x1 := BX.1 1 _ rfl; have x2 := BX.1 2 _ rfl; have x3 := BX.1 3 _ rfl; have x4 := BX.1 4 _ rfl
      refine take_at (i := 0) (v := ?_) rfl (by kernel_rfl) (by kernel_rfl) (by kernel_rfl) (fun _ _ _ h => h) (Or.inl ⟨by rfl, ?_⟩) (by assumption) ?_
      rotate_left 1
      · (intro w hSw; (try dsimp only at hSw); go_simp; (try with_reducible rfl))
      try simp only [Act.put, List.setIfInBounds_toArray, List.set_cons_zero, List.set_cons_succ]
      refine take_at (i := 1) (v := ?_) rfl (by kernel_rfl) (by kernel_rfl) (by kernel_rfl) (fun _ _ _ h => h) (Or.inl ⟨by rfl, ?_⟩) (by assumption) ?_
      rotate_left 1
      · (intro w hSw; (try dsimp only at hSw); go_simp; (try with_reducible rfl))
      try simp only [Act.put, List.setIfInBounds_toArray, List.set_cons_zero, List.set_cons_succ]
      refine take_at (i := 2) (v := ?_) rfl (by kernel_rfl) (by kernel_rfl) (by kernel_rfl) (fun _ _ _ h => h) (Or.inl ⟨by rfl, ?_⟩) (by assumption) ?_
      rotate_left 1
      · (intro w hSw; (try dsimp only at hSw); go_simp; (try with_reducible rfl))
      try simp only [Act.put, List.setIfInBounds_toArray, List.set_cons_zero, List.set_cons_succ]
      refine take_at (i := 3) (v := ?_) rfl (by kernel_rfl) (by kernel_rfl) (by kernel_rfl) (fun _ _ _ h => h) (Or.inl ⟨by rfl, ?_⟩) (by assumption) ?_
      rotate_left 1
      · (intro w hSw; (try dsimp only at hSw); go_simp; (try with_reducible rfl))
      try simp only [Act.put, List.setIfInBounds_toArray, List.set_cons_zero, List.set_cons_succ]
      refine take_at (i := 4) (v := ?_) rfl (by kernel_rfl) (by kernel_rfl) (by kernel_rfl) (fun _ _ _ h => h) (Or.inl ⟨by rfl, ?_⟩) (by assumption) ?_
      rotate_left 1
      · (intro w hSw; (try dsimp only at hSw); go_simp; (try with_reducible rfl))
      try simp only [Act.put, List.setIfInBounds_toArray, List.set_cons_zero, List.set_cons_succ]
      refine take_at (i := 5) (v := ?_) rfl (by kernel_rfl) (by kernel_rfl) (by kernel_rfl) (fun _ _ _ h => h) (Or.inl ⟨by rfl, ?_⟩) (by assumption) ?_
      rotate_left 1
      · (intro w hSw; (try dsimp only at hSw); go_simp; (try with_reducible rfl))
      try simp only [Act.put, List.setIfInBounds_toArray, List.set_cons_zero, List.set_cons_succ]
      refine take_at (i := 6) (v := ?_) rfl (by kernel_rfl) (by kernel_rfl) (by kernel_rfl) (fun _ _ _ h => h) (Or.inl ⟨by rfl, ?_⟩) (by assumption) ?_
      rotate_left 1
      · (intro w hSw; (try dsimp only at hSw); go_simp; (try with_reducible rfl))
      try simp only [Act.put, List.setIfInBounds_toArray, List.set_cons_zero, List.set_cons_succ]
      refine take_at (i := 7) (v := undef) rfl (by kernel_rfl) (by kernel_rfl) (by kernel_rfl) (fun _ _ _ h => h) (Or.inr ⟨by rfl, rfl⟩) (by assumption) ?_
      try simp only [Act.put, List.setIfInBounds_toArray, List.set_cons_zero, List.set_cons_succ]
      refine take_at (i := 8) (v := undef) rfl (by kernel_rfl) (by kernel_rfl) (by kernel_rfl) (fun _ _ _ h => h) (Or.inr ⟨by rfl, rfl⟩) (by assumption) ?_
      try simp only [Act.put, List.setIfInBounds_toArray, List.set_cons_zero, List.set_cons_succ]
      refine take_at (i := 9) (v := undef) rfl (by kernel_rfl) (by kernel_rfl) (by kernel_rfl) (fun _ _ _ h => h) (Or.inr ⟨by rfl, rfl⟩) (by assumption) ?_
      try simp only [Act.put, List.setIfInBounds_toArray, List.set_cons_zero, List.set_cons_succ]
      refine take_at (i := 10) (v := undef) rfl (by kernel_rfl) (by kernel_rfl) (by kernel_rfl) (fun _ _ _ h => h) (Or.inr ⟨by rfl, rfl⟩) (by assumption) ?_
      try simp only [Act.put, List.setIfInBounds_toArray, List.set_cons_zero, List.set_cons_succ]
      refine take_at (i := 11) (v := undef) rfl (by kernel_rfl) (by kernel_rfl) (by kernel_rfl) (fun _ _ _ h => h) (Or.inr ⟨by rfl, rfl⟩) (by assumption) ?_
      try simp only [Act.put, List.setIfInBounds_toArray, List.set_cons_zero, List.set_cons_succ]
      refine take_at (i := 12) (v := undef) rfl (by kernel_rfl) (by kernel_rfl) (by kernel_rfl) (fun _ _ _ h => h) (Or.inr ⟨by rfl, rfl⟩) (by assumption) ?_
      try simp only [Act.put, List.setIfInBounds_toArray, List.set_cons_zero, List.set_cons_succ]
      refine take_at (i := 13) (v := undef) rfl (by kernel_rfl) (by kernel_rfl) (by kernel_rfl) (fun _ _ _ h => h) (Or.inr ⟨by rfl, rfl⟩) (by assumption) ?_
      try simp only [Act.put, List.setIfInBounds_toArray, List.set_cons_zero, List.set_cons_succ]
      refine take_at (i := 14) (v := undef) rfl (by kernel_rfl) (by kernel_rfl) (by kernel_rfl) (fun _ _ _ h => h) (Or.inr ⟨by rfl, rfl⟩) (by assumption) ?_
      try simp only [Act.put, List.setIfInBounds_toArray, List.set_cons_zero, List.set_cons_succ]
      refine take_at (i := 15) (v := ?_) rfl (by kernel_rfl) (by kernel_rfl) (by kernel_rfl) (fun _ _ _ h => h) (Or.inl ⟨by rfl, ?_⟩) (by assumption) ?_
      rotate_left 1
      · (intro w hSw; (try dsimp only at hSw); go_simp; (try with_reducible rfl))
      try simp only [Act.put, List.setIfInBounds_toArray, List.set_cons_zero, List.set_cons_succ]
      refine take_at (i := 16) (v := ?_) rfl (by kernel_rfl) (by kernel_rfl) (by kernel_rfl) (fun _ _ _ h => h) (Or.inl ⟨by rfl, ?_⟩) (by assumption) ?_
      rotate_left 1
      · (intro w hSw; (try dsimp only at hSw); go_simp; (try with_reducible rfl))
      try simp only [Act.put, List.setIfInBounds_toArray, List.set_cons_zero, List.set_cons_succ]
      refine take_at (i := 17) (v := ?_) rfl (by kernel_rfl) (by kernel_rfl) (by kernel_rfl) (fun _ _ _ h => h) (Or.inl ⟨by rfl, ?_⟩) (by assumption) ?_
      rotate_left 1
      · (intro w hSw; (try dsimp only at hSw); go_simp; (try with_reducible rfl))
      try simp only [Act.put, List.setIfInBounds_toArray, List.set_cons_zero, List.set_cons_succ]
      refine take_at (i := 18) (v := ?_) rfl (by kernel_rfl) (by kernel_rfl) (by kernel_rfl) (fun _ _ _ h => h) (Or.inl ⟨by rfl, ?_⟩) (by assumption) ?_
      rotate_left 1
      · (intro w hSw; (try dsimp only at hSw); go_simp; (try with_reducible rfl))
      try simp only [Act.put, List.setIfInBounds_toArray, List.set_cons_zero, List.set_cons_succ]
      refine take_at (i := 19) (v := ?_) rfl (by kernel_rfl) (by kernel_rfl) (by kernel_rfl) (fun _ _ _ h => h) (Or.inl ⟨by rfl, ?_⟩) (by assumption) ?_
      rotate_left 1
      · (intro w hSw; (try dsimp only at hSw); go_simp; (try with_reducible rfl))
      try simp only [Act.put, List.setIfInBounds_toArray, List.set_cons_zero, List.set_cons_succ]
      refine take_at (i := 20) (v := ?_) rfl (by kernel_rfl) (by kernel_rfl) (by kernel_rfl) (fun _ _ _ h => h) (Or.inl ⟨by rfl, ?_⟩) (by assumption) ?_
      rotate_left 1
      · (intro w hSw; (try dsimp only at hSw); go_simp; (try with_reducible rfl))
      try simp only [Act.put, List.setIfInBounds_toArray, List.set_cons_zero, List.set_cons_succ]
      refine take_at (i := 21) (v := ?_) rfl (by kernel_rfl) (by kernel_rfl) (by kernel_rfl) (fun _ _ _ h => h) (Or.inl ⟨by rfl, ?_⟩) (by assumption) ?_
      rotate_left 1
      · (intro w hSw; (try dsimp only at hSw); go_simp; (try with_reducible rfl))
      try simp only [Act.put, List.setIfInBounds_toArray, List.set_cons_zero, List.set_cons_succ]
      refine take_at (i := 22) (v := ?_) rfl (by kernel_rfl) (by kernel_rfl) (by kernel_rfl) (fun _ _ _ h => h) (Or.inl ⟨by rfl, ?_⟩) (by assumption) ?_
      rotate_left 1
      · (intro w hSw; (try dsimp only at hSw); go_simp; (try with_reducible rfl))
      try simp only [Act.put, List.setIfInBounds_toArray, List.set_cons_zero, List.set_cons_succ]
      refine wpAnyH_ready (rs := [23]) (by kernel_rfl) (by simp) ?_
      refine cons_at (i := 23) rfl (fun K hK => ?_) AllReadyH.nil
      go_simp
      (go_at_call 12; refine (like19_same ⟨#[]⟩ ⟨#[]⟩ none none 0 0 0 0 0 none none 0 0 0 0 [] [] [] _ (isT_nil _ _ _ (Nat.zero_le _)) rfl (isT_nil _ _ _ (Nat.zero_le _)) rfl rfl (isZ_nil _ _ _ (Nat.zero_le _)) rfl (isZ_nil _ _ _ (Nat.zero_le _)) rfl).mono ?_; rintro e w5 ⟨rfl, hb⟩; clear p0 p1 p2 p3 p4 x0 x1 x2 x3 x4; replace BX := BX.below hb; replace hX := hX.below hb; replace R := R.below hb; replace hB := Below.tr hB hb; clear hb; have p0 := R.box.1 0 _ rfl; have p1 := R.box.1 1 _ rfl; have p2 := R.box.1 2 _ rfl; have p3 := R.box.1 3 _ rfl; have p4 := R.box.1 4 _ rfl; have x0 := BX.1 0 _ rfl; have x1 := BX.1 1 _ rfl; have x2 := BX.1 2 _ rfl; have x3 := BX.1 3 _ rfl; have x4 := BX.1 4 _ rfl)
      refine hK.out _ _ ?_ (fun hHeld => ?_)
      · exact ⟨⟨p0, p1, p2⟩, x0, x1, x2, x3, x4⟩
      clear hK K
      refine take_at (i := 24) (v := ?_) rfl (by kernel_rfl) (by kernel_rfl) (by kernel_rfl) (fun _ _ _ h => h) (Or.inl ⟨by rfl, ?_⟩) (by assumption) ?_
      rotate_left 1
      · (intro w hSw; (try dsimp only at hSw); go_simp; (try with_reducible rfl))
      try simp only [Act.put, List.setIfInBounds_toArray, List.set_cons_zero, List.set_cons_succ]
      refine take_at (i := 25) (v := ?_) rfl (by kernel_rfl) (by kernel_rfl) (by kernel_rfl) (fun _ _ _ h => h) (Or.inl ⟨by rfl, ?_⟩) (by assumption) ?_
      rotate_left 1
      · (intro w hSw; (try dsimp only at hSw); go_simp; (try with_reducible rfl))
      try simp only [Act.put, List.setIfInBounds_toArray, List.set_cons_zero, List.set_cons_succ]
      refine take_at (i := 26) (v := ?_) rfl (by kernel_rfl) (by kernel_rfl) (by kernel_rfl) (fun _ _ _ h => h) (Or.inl ⟨by rfl, ?_⟩) (by assumption) ?_
      rotate_left 1
      · (intro w hSw; (try dsimp only at hSw); go_simp; (try with_reducible rfl))
      try simp only [Act.put, List.setIfInBounds_toArray, List.set_cons_zero, List.set_cons_succ]
      refine wpAnyH_done (by kernel_rfl) ?_ _
      refine NoPanic.normal ?_
      clear x0 x1 x2 x3 x4 BX hX
      go_wp2_with (first
        | (go_at_call 14; refine (cS _ _ _ _ _ R).mono ?_; rintro e w6 ⟨yk, yn, ya, ym, yc, yi, ys, yq, ysc, yt, yz, rfl, hY, g0, g1, hb⟩; obtain ⟨rfl, rfl, rfl, rfl, rfl, rfl, rfl, rfl, rfl, rfl, rfl⟩ := g1 (by decide); clear g0 g1; obtain ⟨Y, hY9⟩ : ∃ Y, Y = w6.alloc (.cells #[.string ⟨#[]⟩, .string ⟨#[]⟩, .slice none 0 0, .int .i64 0, .slice none 0 0] 27) := ⟨_, rfl⟩; have hbW : Below w6.heap.size w6 Y := (by rw [hY9]; exact (Below.refl _ _).alloc (Nat.le_refl _) _); have hbY := Below.tr hb hbW; have BY : BoxL Y w6.heap.size [.string ⟨#[]⟩, .string ⟨#[]⟩, .slice none 0 0, .int .i64 0, .slice none 0 0] := (by rw [hY9]; exact boxL_new w6 [.string ⟨#[]⟩, .string ⟨#[]⟩, .slice none 0 0, .int .i64 0, .slice none 0 0] _ rfl); replace hY := hY.below hbW; replace R := R.below hbY; replace hB := Below.tr hB hbY; clear p0 p1 p2 p3 p4 hb hbW hbY; have p0 := R.box.1 0 _ rfl; have p1 := R.box.1 1 _ rfl; have p2 := R.box.1 2 _ rfl; have p3 := R.box.1 3 _ rfl; have p4 := R.box.1 4 _ rfl; have y0 := BY.1 0 _ rfl; have y1 := BY.1 1 _ rfl; have y2 := BY.1 2 _ rfl; have y3 := BY.1 3 _ rfl; have y4 := BY.1 4 _ rfl; rw [hY9] at p0 p1 p2 p3 p4 y0 y1 y2 y3 y4)
        | (go_at_call 15; rw [← hY9]; refine (cQ _ _ _ _ _ R).mono ?_; rintro e w7 ⟨rfl, hb⟩; clear p0 p1 p2 p3 p4 y0 y1 y2 y3 y4; replace BY := BY.below hb; replace hY := hY.below hb; replace R := R.below hb; replace hB := Below.tr hB hb; clear hb; have p0 := R.box.1 0 _ rfl; have p1 := R.box.1 1 _ rfl; have p2 := R.box.1 2 _ rfl; have p3 := R.box.1 3 _ rfl; have p4 := R.box.1 4 _ rfl; have y0 := BY.1 0 _ rfl; have y1 := BY.1 1 _ rfl; have y2 := BY.1 2 _ rfl; have y3 := BY.1 3 _ rfl; have y4 := BY.1 4 _ rfl)
        | (go_at_call 16; refine (alive19_any _).mono ?_; rintro e w8 ⟨rfl, hb⟩; clear p0 p1 p2 p3 p4 y0 y1 y2 y3 y4; replace BY := BY.below hb; replace hY := hY.below hb; replace R := R.below hb; replace hB := Below.tr hB hb; clear hb; have p0 := R.box.1 0 _ rfl; have p1 := R.box.1 1 _ rfl; have p2 := R.box.1 2 _ rfl; have p3 := R.box.1 3 _ rfl; have p4 := R.box.1 4 _ rfl; have y0 := BY.1 0 _ rfl; have y1 := BY.1 1 _ rfl; have y2 := BY.1 2 _ rfl; have y3 := BY.1 3 _ rfl; have y4 := BY.1 4 _ rfl)
        | (go_at_call 17; refine (cR _ _ _ _ _ R).mono ?_; rintro e w9 ⟨rfl, hb⟩; clear p0 p1 p2 p3 p4 y0 y1 y2 y3 y4; replace BY := BY.below hb; replace hY := hY.below hb; replace R := R.below hb; replace hB := Below.tr hB hb; clear hb; have p0 := R.box.1 0 _ rfl; have p1 := R.box.1 1 _ rfl; have p2 := R.box.1 2 _ rfl; have p3 := R.box.1 3 _ rfl; have p4 := R.box.1 4 _ rfl; have y0 := BY.1 0 _ rfl; have y1 := BY.1 1 _ rfl; have y2 := BY.1 2 _ rfl; have y3 := BY.1 3 _ rfl; have y4 := BY.1 4 _ rfl)
        | (go_at_call 12; refine (like19_same ⟨#[]⟩ ⟨#[]⟩ none none 0 0 0 0 0 none none 0 0 0 0 [] [] [] _ (isT_nil _ _ _ (Nat.zero_le _)) rfl (isT_nil _ _ _ (Nat.zero_le _)) rfl rfl (isZ_nil _ _ _ (Nat.zero_le _)) rfl (isZ_nil _ _ _ (Nat.zero_le _)) rfl).mono ?_; rintro e w12 ⟨rfl, hb⟩; replace hB := Below.tr hB hb)
        )
      go_ret
      exact ⟨rfl, hB⟩

end Go.Proofs.Ytpjaeaepifpmjaa




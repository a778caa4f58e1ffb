/-
  The walk through the statement RunEnds.
-/
import Derived.Test.YtdpljpjbomhccaaReA
import Derived.Test.YtdpljpjbomhccaaRtF
namespace Go.Proofs.Ytdpljpjbomhccaa
open Go.RowKit Plain
set_option linter.unusedVariables false

theorem rightOk_any {V : World} {ky nm : ByteArray} {is : Int} {fs : List TaskP} {zs : List StP} {xk xn : ByteArray} {xa : Option Addr} {xm xc : Nat} {xi : Int} {xz : Option Addr} {xq xl : Nat} (hky : ky.size ≤ maxLen) (hnm : nm.size ≤ maxLen) (hx : Said V 0 ky nm is fs zs xk xn xa xm xc xi xz xq xl) (hOk : RunOk ky nm fs zs is) :
    Calls Try.prog 15 #[.agg #[.string xk, .string xn, .slice xa xm xc, .int .i64 xi, .slice xz xq xl]] V fun e w' => e = .returned (.bool true) ∧ Below V.heap.size V w' := by
  have := rightY_any hky hnm hx
  rw [runB_iff.2 hOk] at this
  exact this



theorem mostT_le : ∀ (ts : List TaskP), (∀ t ∈ ts, 1 ≤ t.tries ∧ t.tries ≤ 8) → 0 ≤ mostT ts ∧ mostT ts ≤ 8 * ts.length ∧ (0 < ts.length → 1 ≤ mostT ts)
  | [], _ => ⟨Int.le_refl _, by simp [mostT], fun h => absurd h (Nat.lt_irrefl _)⟩
  | t :: ts, h => by
    obtain ⟨a, b, -⟩ := mostT_le ts fun u hu => h u (List.mem_cons_of_mem _ hu)
    have := h t List.mem_cons_self
    show 0 ≤ t.tries + mostT ts ∧ t.tries + mostT ts ≤ 8 * ((ts.length + 1 : Nat) : Int) ∧ _
    refine ⟨by omega, by omega, fun _ => by show 1 ≤ t.tries + mostT ts; omega⟩
theorem mostT_take {ts : List TaskP} {j : Nat} {t : TaskP} (h : ts[j]? = some t) : mostT (ts.take (j + 1)) = mostT (ts.take j) + t.tries := by
  have gen : ∀ (a : List TaskP) (b : TaskP), mostT (a ++ [b]) = mostT a + b.tries := by
    intro a b
    induction a with
    | nil => simp [mostT]
    | cons x a ih => show x.tries + mostT (a ++ [b]) = x.tries + mostT a + b.tries; rw [ih]; omega
  rw [List.take_add_one, h]
  exact gen _ _

theorem sum_zeros : ∀ n, sumT (zerosS n) = 0
  | 0 => rfl
  | n + 1 => by
    show (0 : Int) + sumT (zerosS n) = 0
    rw [sum_zeros n]; rfl

theorem ends_start {ts : List TaskP} (h0 : 0 < ts.length) {M : List StP × Int} (hM : M = mendS ts (zerosS ts.length) 0) (hR : RightS ts M.1 M.2) : M.2 = 0 ∧ EndsAt ts M.1 1 0 0 := by
  have h4 : hasK (zerosS ts.length) 4 = false := by
    rw [Bool.eq_false_iff]
    intro hh
    obtain ⟨i, s, hs, e⟩ := (hasK_iff _ _).1 hh
    rw [zeros_at hs] at e
    cases e
  have hall : ∀ (i : Nat) s, M.1[i]? = some s → (s.i = 0 ∨ s.i = 1) ∧ s.d = 0 := fun i s hs => by
    rw [hM] at hs
    unfold mendS at hs
    rw [if_neg (by rw [h4]; decide)] at hs
    dsimp only at hs
    rw [List.getElem?_mapIdx] at hs
    obtain ⟨v, hv, rfl⟩ := Option.map_eq_some_iff.1 hs
    rw [zeros_at hv]
    split
    · exact ⟨.inr rfl, rfl⟩
    · exact ⟨.inl rfl, rfl⟩
  have hl : M.1.length = ts.length := hR.len
  obtain ⟨s, hs⟩ : ∃ s, M.1[0]? = some s := ⟨_, List.getElem?_eq_getElem (by omega)⟩
  have hz : M.2 = 0 := open_goes hR.fits (held_open hs (by rcases (hall 0 s hs).1 with h | h; exact .inl h; exact .inr (.inl h)))
  refine ⟨hz, by rw [hz] at hR; exact hR, ?_, ?_, ⟨Int.le_refl _, Int.le_refl _⟩, fun i s hs => by rw [(hall i s hs).2]; exact Int.le_refl _⟩
  · rw [Bool.eq_false_iff]
    intro hh
    obtain ⟨i, s, hs, e⟩ := (hasK_iff _ _).1 hh
    have := (hall i s hs).1
    omega
  · rw [hM, mend_sum, sum_zeros]; rfl



theorem fate_q (f : Int) : (wrap64 (f.tmod 3 + 3)).tmod 3 = 0 ∨ (wrap64 (f.tmod 3 + 3)).tmod 3 = 1 ∨ (wrap64 (f.tmod 3 + 3)).tmod 3 = 2 := by
  have h1 := Int.tmod_lt_of_pos f (show (0 : Int) < 3 by decide)
  have h2 := Int.lt_tmod_of_pos f (show (0 : Int) < 3 by decide)
  obtain ⟨x, hx⟩ : ∃ x, x = f.tmod 3 := ⟨_, rfl⟩
  rw [← hx] at h1 h2 ⊢
  have hw : wrap64 (x + 3) = x + 3 := by unfold wrap64; omega
  rw [hw, Int.tmod_eq_emod_of_nonneg (by omega)]
  omega

set_option maxRecDepth 20000 in
set_option maxHeartbeats 4000000 in
theorem runEnds_walk (nm : ByteArray) (ta : Option Addr) (tc : Nat) (tv : List TaskV) (fa : Option Addr) (fc : Nat) (fates : List Int) (w : World) (hnm : nm.size ≤ maxLen) (hT : IsT w ta tc tv) (hF : IsI w fa fc fates) :
    Calls Try.prog 7 #[.agg #[.string nm, .slice ta tv.length tc], .slice fa fates.length fc] w fun e w' => e = .returned (.bool true) ∧ Below w.heap.size w w' := by
  obtain ⟨tn, htn⟩ : ∃ x, x = tv.length := ⟨_, rfl⟩
  obtain ⟨fn, hfn⟩ : ∃ x, x = fates.length := ⟨_, rfl⟩
  rw [← htn, ← hfn]
  obtain ⟨ts, hts⟩ : ∃ ts, ts = plainT tv := ⟨_, rfl⟩
  obtain ⟨E, hE⟩ : ∃ E, E = rightG nm ts := ⟨_, rfl⟩
  obtain ⟨ky, hky0⟩ : ∃ ky : ByteArray, ky = ⟨#[107]⟩ := ⟨_, rfl⟩
  have hk16 : 1 ≤ ky.size ∧ ky.size ≤ 16 := by rw [hky0]; decide
  have hky : ky.size ≤ maxLen := by rw [hky0]; decide
  obtain ⟨W0, hW0⟩ : ∃ W0, W0 = w.alloc (.cells #[.string nm, .slice ta tn tc] 24) := ⟨_, rfl⟩
  have hB : Below w.heap.size w W0 := by rw [hW0]; exact (Below.refl _ _).alloc (Nat.le_refl _) _
  have oD : BoxL W0 w.heap.size [.string nm, .slice ta tn tc] := by rw [hW0]; exact boxL_new w _ _ rfl
  have cN := (newU_any ky nm ta tn tc tv W0 hky (hT.below hB) htn E (by rw [if_pos hk16, hE, hts])).mono fun e w' h => h.said
  have cR : ∀ V, Below w.heap.size w V → Calls Try.prog 11 #[.agg #[.string nm, .slice ta tn tc]] V fun e w' => e = .returned (.int .i64 E) ∧ Below V.heap.size V w' := fun V hV => by
    rw [hE, hts]; exact refRight16_any nm ta tc tn tv V hnm htn (hT.below hV)
  rw [← hts] at cN
  have HT : Hid (IsT w ta tc tv ∧ tn = tv.length ∧ ts = plainT tv) := ⟨hT, htn, hts⟩
  have HF : Hid (IsI w fa fc fates ∧ fn = fates.length) := ⟨hF, hfn⟩
  have HE : Hid (E = rightG nm ts) := hE
  have hzl : zerosS tv.length = zerosS ts.length := by rw [hts, plainT_length]
  rw [hzl] at cN
  obtain ⟨M0, hM0⟩ : ∃ M, M = mendS ts (zerosS ts.length) 0 := ⟨_, rfl⟩
  rw [← hM0] at cN
  have HM0 : Hid (M0 = mendS ts (zerosS ts.length) 0) := hM0
  have d0 := oD.1 0 _ rfl
  have d1 := oD.1 1 _ rfl

  have HKY : Hid (ky = ⟨#[107]⟩) := hky0
  clear hT htn hF hfn hE hzl hM0 hts
  go_enter Try.func7, Try.ntmps7
  refine wp_seq_k (fun K hK => ?_); have HK : Shut _ := hK; clear hK
  go_wp2
  refine HK.out _ _ ?_; clear HK K
  rw [← hW0]
  clear hW0
  refine wp_seq_k (fun K hK => ?_); have HK : Shut _ := hK; clear hK
  go_wp2_with (go_at_call 10; rw [← hky0]; refine cN.mono ?_; rintro e w2 ⟨rk, rn, ra, rm, rc, ri, rz, rq, rl, rfl, jr, hb⟩)
  obtain ⟨V1, hV1⟩ : ∃ V1, V1 = w2.alloc (.cells #[.string rk, .string rn, .slice ra rm rc, .int .i64 ri, .slice rz rq rl] 27) := ⟨_, rfl⟩
  have or : BoxL V1 w2.heap.size [.string rk, .string rn, .slice ra rm rc, .int .i64 ri, .slice rz rq rl] := by rw [hV1]; exact boxL_new w2 _ _ rfl
  have hbb : Below w2.heap.size w2 V1 := by rw [hV1]; exact (Below.refl _ _).alloc (Nat.le_refl _) _
  replace jr := jr.below hbb
  have hb2 := Below.tr hb hbb
  have hpw : w.heap.size ≤ w2.heap.size := (Below.tr hB hb).size
  replace hB := Below.tr hB hb2
  replace oD := oD.below hb2
  obtain ⟨p, hp⟩ : ∃ p, p = w2.heap.size := ⟨_, rfl⟩
  rw [← hp] at or hpw
  rw [← hV1, ← hp]
  refine HK.out _ _ ?_; clear HK K
  clear hV1 hbb hb hb2 hp d0 d1 cN
  by_cases h0 : E = 0
  · have hEz : (E != 0) = false := by simpa using h0
    have hd : rightG nm ts = 0 := by rw [← HE.out]; exact h0
    clear hEz cR
    subst h0
    have hOk : RunOk ky nm ts M0.1 M0.2 := by
      have := new_right (ky := ky) (nm := nm) (tv := tv) hk16 (by rw [← HT.out.2.2]; exact hd)
      rw [← HT.out.2.2] at this
      rw [HM0.out, show ts.length = tv.length by rw [HT.out.2.2, plainT_length]]
      exact this
    obtain ⟨h10, -, hpos, -, -, ha, hi⟩ := rightG_ok hd
    obtain ⟨hz, hS⟩ := ends_start hpos HM0.out hOk.st
    have htl : tn = ts.length := by rw [HT.out.2.2, plainT_length]; exact HT.out.2.1
    have hmt := mostT_le ts fun t ht => by
      obtain ⟨i, hi⟩ := List.mem_iff_getElem?.1 ht
      exact ⟨(tasks_all hd i t hi).1, (tasks_all hd i t hi).2.1⟩
    have HX : Hid (rightG nm ts = 0 ∧ Acyclic ts ∧ Inside ts ∧ RunOk ky nm ts M0.1 M0.2 ∧ EndsAt ts M0.1 1 0 0 ∧ tn = ts.length ∧ (0 ≤ mostT ts ∧ mostT ts ≤ 8 * ts.length ∧ (0 < ts.length → 1 ≤ mostT ts)) ∧ ts.length ≤ 10 ∧ 0 < ts.length) := ⟨hd, ha, hi, hOk, hS, htl, hmt, h10, hpos⟩
    rw [hz] at jr
    have hn10 : tn ≤ 10 := by omega
    have hn0 : 0 < tn := by omega
    clear h10 hpos ha hi hz hS htl hmt hOk hd
    refine wp_seq_k (fun K hK => ?_); have HK : Shut _ := hK; clear hK
    go_wp2
    refine HK.out _ _ ?_; clear HK K
    refine wp_seq_k (fun K hK => ?_); have HK : Shut _ := hK; clear hK
    go_wp2
    refine HK.out _ _ ?_; clear HK K
    have d1 := oD.1 1 _ rfl
    refine wp_seq_k (fun K hK => ?_); have HK : Shut _ := hK; clear hK
    go_wp2
    clear d1
    have hB00 := Below.refl V1.heap.size V1
    have h00 : mostT (ts.take 0) = 0 := rfl
    go_loopw [7, 35] (fun u v wr => ∃ j : Nat, j ≤ tn ∧ v = .int .i64 j ∧ u = .int .i64 (mostT (ts.take j)) ∧ Below V1.heap.size V1 wr) (fun _ v _ => tn - (intOf v).toNat)
    case atStart => exact ⟨0, by omega, rfl, rfl, hB00⟩
    case round =>
      clear hB00 h00
      obtain ⟨j, hj, rfl, rfl, hB1⟩ := hrel
      by_cases hlt : j < tn
      · have hlt' : (j : Int) < tn := by omega
        obtain ⟨t, ht⟩ : ∃ t, tv[j]? = some t := ⟨_, List.getElem?_eq_getElem (by have := HT.out.2.1; omega)⟩
        obtain ⟨tb, to, rfl, -⟩ := HT.out.1.some (by have := HT.out.2.1; omega)
        obtain ⟨y0, y1, y2, y3, -⟩ := ((HT.out.1.below hB).below hB1).at ht
        have htp : ts[j]? = some t.p := by rw [HT.out.2.2]; exact plainT_get ht
        have hml := mostT_le (ts.take j) fun u hu => by
          obtain ⟨i, hi⟩ := List.mem_iff_getElem?.1 (List.mem_of_mem_take hu)
          exact ⟨(tasks_all HX.out.1 i u hi).1, (tasks_all HX.out.1 i u hi).2.1⟩
        have hmt := mostT_take htp
        have htr := tasks_all HX.out.1 j t.p htp
        have hmb : 0 ≤ mostT (ts.take j) ∧ mostT (ts.take j) ≤ 80 := by
          refine ⟨hml.1, Int.le_trans hml.2.1 ?_⟩
          have : (ts.take j).length ≤ 10 := by rw [List.length_take]; have := HX.out.2.2.2.2.2.2.2.1; omega
          omega
        have HM1 : Hid (mostT (ts.take (j + 1)) = mostT (ts.take j) + t.tr) := hmt
        have htc : tn ≤ tc ∧ tc ≤ 9223372036854775807 := by have a1 := HT.out.1.1; have a2 := HT.out.1.2.1; rw [← HT.out.2.1] at a1; exact ⟨a1, a2⟩
        obtain ⟨htc1, htc2⟩ := htc
        obtain ⟨mm, hmm⟩ : ∃ mm, mm = mostT (ts.take j) := ⟨_, rfl⟩
        rw [← hmm] at HM1 hmb
        rw [← hmm]
        have ht1 : 1 ≤ t.tr ∧ t.tr ≤ 8 := ⟨htr.1, htr.2.1⟩
        obtain ⟨ttr, httr⟩ : ∃ a, a = t.tr := ⟨_, rfl⟩
        rw [← httr] at y1 HM1 ht1
        clear hml hmt htr htp ht hmm httr
        go_wp2
        go_roundw
        case rel =>
          refine ⟨j + 1, by omega, by go_num, ?_, hB1.alloc hB1.size _⟩
          rw [HM1.out]
        case measure => simp [intOf]; omega
      · obtain rfl : tn = j := by omega
        have hx : ¬ (tn : Int) < tn := by omega
        have htk : mostT (ts.take tn) = mostT ts := by rw [HX.out.2.2.2.2.2.1, List.take_length]
        rw [htk]
        go_wp2
        refine HK.out _ _ ?_
        clear HK htk
        replace jr := jr.below hB1
        replace or := or.below hB1
        replace oD := oD.below hB1
        replace hB := Below.tr hB hB1
        obtain ⟨V2, hV2⟩ : ∃ V2, V2 = wr := ⟨_, rfl⟩
        rw [← hV2] at jr or oD hB ⊢
        clear hV2 hB1
        obtain ⟨MT, hMT⟩ : ∃ MT, MT = mostT ts := ⟨_, rfl⟩
        rw [← hMT]
        have HMT : Hid (MT = mostT ts ∧ 1 ≤ MT ∧ MT ≤ 80) := by have h := HX.out.2.2.2.2.2.2; exact ⟨hMT, by rw [hMT]; exact h.1.2.2 h.2.2, by rw [hMT]; have := h.1.2.1; omega⟩
        have hM1 : 1 ≤ MT ∧ MT ≤ 80 := HMT.out.2
        clear hMT
        refine wp_seq_k (fun KO hKO => ?_); have HKO : Shut _ := hKO; clear hKO
        go_wp2
        have hB00 := hB
        have hTT : (0 : Int) = (1 - 1) * 2097152 := by decide
        have hES : Hid (EndsAt ts M0.1 1 0 0) := HX.out.2.2.2.2.1
        go_loopw [8, 11] (fun u v wr => ∃ (n T now : Int) (zs : List StP) (rk rn : ByteArray) (ra : Option Addr) (rm rc : Nat) (ri : Int) (rz : Option Addr) (rq rl : Nat), v = .int .i64 n ∧ u = .int .i64 now ∧ 1 ≤ n ∧ n ≤ MT + 1 ∧ T = (n - 1) * 2097152 ∧ Hid (EndsAt ts zs n T now) ∧ Said wr 0 ky nm 0 ts zs rk rn ra rm rc ri rz rq rl ∧ BoxL wr p [.string rk, .string rn, .slice ra rm rc, .int .i64 ri, .slice rz rq rl] ∧ Below w.heap.size w wr) (fun _ v _ => (MT + 1 - intOf v).toNat)
        case atStart => exact ⟨1, 0, 0, M0.1, rk, rn, ra, rm, rc, ri, rz, rq, rl, rfl, rfl, by omega, by omega, hTT, hES, jr, or, hB⟩
        case round =>
          clear hB00 hTT hES jr or hB oD
          obtain ⟨n, T, now, zs, rk, rn, ra, rm, rc, ri, rz, rq, rl, rfl, rfl, hn1, hn2, hTn, HS, jr, or, hB⟩ := hrel
          obtain ⟨V3, hV3⟩ : ∃ V3, V3 = wr := ⟨_, rfl⟩
          rw [← hV3] at jr or hB ⊢
          have HV3 : Hid (V3 = wr) := hV3
          clear hV3
          by_cases hlt : n ≤ MT
          · refine wp_seq_k (fun K hK => ?_); have HK : Shut _ := hK; clear hK
            go_wp2
            refine HK.out _ _ ?_; clear HK K
            refine wp_seq_k (fun K hK => ?_); have HK : Shut _ := hK; clear hK
            refine wp_block ?_
            have HTB : Hid (T = (n - 1) * 2097152 ∧ T ≤ 1000000000000 ∧ 0 ≤ T) := ⟨hTn, by omega, by omega⟩
            clear hTn
            obtain ⟨xt, xr, hXR, hEq, -⟩ := jr.it
            obtain ⟨-, -, hri, -, hzr⟩ := hEq rfl
            subst hzr hri
            clear hEq
            have hIZ := hXR.hZ
            have hrq := hXR.hq
            have hrl : rq ≤ rl ∧ rl ≤ 9223372036854775807 := by have a1 := hIZ.1; have a2 := hIZ.2.1; rw [← hrq] at a1; exact ⟨a1, a2⟩
            obtain ⟨hrl1, hrl2⟩ := hrl
            have HRQ : Hid (rq = zs.length) := hrq
            have hrq10 : 0 < rq ∧ rq ≤ 10 := by have h1 := HS.out.right.len; have h2 := HX.out.2.2.2.2.2.2.2; omega
            clear hrq hXR
            have r0 := or.1 0 _ rfl; have r1 := or.1 1 _ rfl; have r2 := or.1 2 _ rfl; have r3 := or.1 3 _ rfl; have r4 := or.1 4 _ rfl
            refine wp_seq_k (fun K hK => ?_); have HK : Shut _ := hK; clear hK
            go_wp2
            clear r0 r1 r2 r3 r4
            have hb00 := Below.refl V3.heap.size V3
            have ht0 := HS.out.time
            have h00 : Hid (∀ (i : Nat) s, i < 0 → zs[i]? = some s → s.i = 1 → s.d ≤ now) := fun i s h => absurd h (Nat.not_lt_zero _)
            go_loopw [8, 52] (fun u v wr => ∃ (j : Nat) (N : Int), j ≤ rq ∧ v = .int .i64 j ∧ u = .int .i64 N ∧ now ≤ N ∧ N ≤ T ∧ Hid (∀ (i : Nat) s, i < j → zs[i]? = some s → s.i = 1 → s.d ≤ N) ∧ Below V3.heap.size V3 wr) (fun _ v _ => rq - (intOf v).toNat)
            case atStart => exact ⟨0, now, by omega, rfl, rfl, Int.le_refl _, ht0.2, h00, hb00⟩
            case round =>
              clear h00 hb00
              obtain ⟨j, N, hj, rfl, rfl, hN1, hN2, hh, hb⟩ := hrel
              by_cases hlj : j < rq
              · have hlj' : (j : Int) < rq := by omega
                obtain ⟨x, hx⟩ : ∃ x, zs[j]? = some x := ⟨_, List.getElem?_eq_getElem (by rw [← HRQ.out]; exact hlj)⟩
                obtain ⟨b, o, rfl, -⟩ := hIZ.some (by have := HRQ.out; omega)
                obtain ⟨g0, g1, g2, g3, g4⟩ := (hIZ.below hb).at hx
                have hxd := HS.out.due j x hx
                have hb2 : Below V3.heap.size V3 (wr.alloc (.cells #[.int .i64 x.i, .int .i64 x.t, .int .i64 x.d, .int .i64 x.k, .string x.r] 52)) := hb.alloc hb.size _
                have hT1 : ∀ M : Int, N ≤ M → (x.i = 1 → x.d ≤ M) → Hid (∀ (i : Nat) s, i < j + 1 → zs[i]? = some s → s.i = 1 → s.d ≤ M) := fun M hM hxM i s hi hs h1 => by
                  rcases Nat.lt_or_ge i j with h | h
                  · have := hh.out i s h hs h1; omega
                  · obtain rfl : i = j := by omega
                    rw [hx] at hs; cases hs; exact hxM h1
                have HT1 : Hid (∀ M : Int, N ≤ M → (x.i = 1 → x.d ≤ M) → Hid (∀ (i : Nat) s, i < j + 1 → zs[i]? = some s → s.i = 1 → s.d ≤ M)) := hT1
                clear hT1 hx
                obtain ⟨xi, xt2, xd, xk, xr⟩ := x
                dsimp only at *
                by_cases hx1 : xi = 1
                · have HX1 : Hid (xi = 1) := hx1
                  have i1 : (xi == 1) = true := by simpa using hx1
                  clear hx1
                  go_wp2
                  all_goals go_roundw
                  all_goals first
                    | exact ⟨j + 1, _, by omega, by go_num, rfl, by omega, by omega, HT1.out _ (by omega) (fun _ => by omega), hb2⟩
                    | (simp [intOf]; omega)
                · have i1 : (xi == 1) = false := by simpa using hx1
                  have hT2 := HT1.out N (Int.le_refl _) (fun h => absurd h hx1)
                  clear hx1
                  go_wp2
                  go_roundw
                  case rel => exact ⟨j + 1, N, by omega, by go_num, rfl, hN1, hN2, hT2, hb2⟩
                  case measure => simp [intOf]; omega
              · obtain rfl : rq = j := by omega
                have hx : ¬ (rq : Int) < rq := by omega
                go_wp2
                refine HK.out _ _ ?_
                clear HK
                obtain ⟨V4, hV4⟩ : ∃ V4, V4 = wr := ⟨_, rfl⟩
                rw [← hV4] at hb ⊢
                replace jr := jr.below hb
                replace or := or.below hb
                replace hB := Below.tr hB hb
                clear hIZ hb hV4
                have hn1000 : 1 ≤ n ∧ n ≤ 1000 := ⟨hn1, by omega⟩
                obtain ⟨hs0, hE0, i, x, t, hP, hL⟩ := leased_of HX.out.1 HS.out hn1000 ⟨hN1, hN2⟩ (fun i s hs h1 => hh.out i s (by rw [HRQ.out]; exact (List.getElem?_eq_some_iff.1 hs).1) hs h1) HTB.out.2.1
                have hOkr : RunOk ky nm ts zs 0 := ⟨hk16, HX.out.1, HS.out.right⟩
                have cL := leaseYW_any hky jr hOkr N n (wfJ_of (by omega)) (by rw [hs0]; exact hE0)
                rw [hs0] at cL
                dsimp only at cL
                rw [hE0, hP] at cL
                obtain ⟨zs1, hzs1⟩ : ∃ z, z = leaseRZ ts zs N n := ⟨_, rfl⟩
                rw [← hzs1] at cL hL
                have HL : Hid (Leased ts zs n T N i x t zs1) := hL
                have hpl : p < V4.heap.size := or.lt (by simp)
                clear hs0 hE0 hP hOkr hzs1 hL hh
                have r0 := or.1 0 _ rfl; have r1 := or.1 1 _ rfl; have r2 := or.1 2 _ rfl; have r3 := or.1 3 _ rfl; have r4 := or.1 4 _ rfl
                refine wp_seq_k (fun K hK => ?_); have HK : Shut _ := hK; clear hK
                go_wp2_with (go_at_call 19; refine cL.mono ?_; rintro e w2 ⟨lk, ln, la, lm, lc, li, lz, lq, ll, rfl, jl, hb⟩)
                obtain ⟨V5, hV5⟩ : ∃ V5, V5 = w2.alloc (.cells #[.string lk, .string ln, .slice la lm lc, .int .i64 li, .slice lz lq ll] 27) := ⟨_, rfl⟩
                have ol : BoxL V5 w2.heap.size [.string lk, .string ln, .slice la lm lc, .int .i64 li, .slice lz lq ll] := by rw [hV5]; exact boxL_new w2 _ _ rfl
                have hbb : Below w2.heap.size w2 V5 := by rw [hV5]; exact (Below.refl _ _).alloc (Nat.le_refl _) _
                obtain ⟨pl, hpl2⟩ : ∃ p, p = w2.heap.size := ⟨_, rfl⟩
                rw [← hpl2] at ol
                rw [← hV5, ← hpl2]
                refine HK.out _ _ ?_; clear HK K
                have hb5 := Below.tr hb hbb
                have hlq : lq = zs1.length := by
                  obtain ⟨yt, yr, g1, g2, -⟩ := (jl w2 (Turns.refl _ _)).it
                  obtain ⟨-, -, -, -, rfl⟩ := g2 rfl
                  exact g1.hq
                have or5 := or.below hb5
                have hB5 := Below.tr hB hb5
                have hi0 : ¬ ((i : Int) < 0) := by omega
                have hi1 : (i : Int) < lq := by have h1 := HL.out.il; have h2 := HL.out.len; omega
                have T5 : Turns (fun k => k < V4.heap.size) w2 V5 := Turns.of_below hbb
                clear hV5 hpl2 hbb hb hlq r0 r1 r2 r3 r4 cL or jr hB
                have l0 := ol.1 0 _ rfl; have l1 := ol.1 1 _ rfl; have l2 := ol.1 2 _ rfl; have l3 := ol.1 3 _ rfl; have l4 := ol.1 4 _ rfl
                refine wp_seq_k (fun K hK => ?_); have HK : Shut _ := hK; clear hK
                go_wp2
                refine HK.out _ _ ?_; clear HK K
                have e0 := or5.1 0 _ rfl
                have e1 := or5.1 1 _ rfl
                have e2 := or5.1 2 _ rfl
                have e3 := or5.1 3 _ rfl
                have e4 := or5.1 4 _ rfl
                have d0 := or5.2 0 (by simp); have d1 := or5.2 1 (by simp); have d2 := or5.2 2 (by simp); have d3 := or5.2 3 (by simp); have d4 := or5.2 4 (by simp)
                refine wp_seq_k (fun K hK => ?_); have HK : Shut _ := hK; clear hK
                go_wp2
                obtain ⟨V6, hV6⟩ : ∃ V6, V6 = (((((V5.setCell ⟨p, 0, none⟩ (.string lk)).setCell ⟨p, 1, none⟩ (.string ln)).setCell ⟨p, 2, none⟩ (.slice la lm lc)).setCell ⟨p, 3, none⟩ (.int .i64 li)).setCell ⟨p, 4, none⟩ (.slice lz lq ll)) := ⟨_, rfl⟩
                have T6 : Turns (fun k => k = p) V5 V6 := by rw [hV6]; exact turns_set5 _ _ _ _ _ _ _
                have or : BoxL V6 p [.string lk, .string ln, .slice la lm lc, .int .i64 li, .slice lz lq ll] := by rw [hV6]; exact boxL_set5 or5 _ _ _ _ _
                have jr := jl V6 (T5.trans (T6.mono fun k hk => by omega))
                have hB := Below.turns hB5 T6 (fun k hk => by omega)
                rw [← hV6]
                refine HK.out _ _ ?_; clear HK K
                clear hV6 T5 T6 e0 e1 e2 e3 e4 d0 d1 d2 d3 d4 or5 hB5 jl ol hi1 l0 l1 l2 l3 l4 hb5
                refine wp_seq_k (fun K hK => ?_); have HK : Shut _ := hK; clear hK
                go_wp2
                refine HK.out _ _ ?_; clear HK K
                by_cases hnf : n ≤ fn
                · have hnf' : (n ≤ fn) := hnf
                  obtain ⟨m, hm⟩ : ∃ m : Nat, n - 1 = m := ⟨(n - 1).toNat, by omega⟩
                  have hmf : (m : Int) < fn := by omega
                  have hmf2 : m < fates.length := by have := HF.out.2; omega
                  obtain ⟨f, hf⟩ : ∃ f, fates[m]? = some f := ⟨_, List.getElem?_eq_getElem hmf2⟩
                  have hfi := HF.out.1.below hB
                  have hfc : fn ≤ fc ∧ fc ≤ 9223372036854775807 := by have a1 := hfi.1; have a2 := hfi.2.1; rw [← HF.out.2] at a1; exact ⟨a1, a2⟩
                  obtain ⟨hfc1, hfc2⟩ := hfc
                  obtain ⟨fb, fo, rfl, -, f0⟩ := hfi.2.2 m f hf
                  clear hf hfi hmf2 hnf
                  refine wp_seq_k (fun K hK => ?_); have HK : Shut _ := hK; clear hK
                  go_wp2
                  refine HK.out _ _ ?_; clear HK K
                  clear f0 hfc1 hfc2 hmf hnf' hm
                  rcases fate_q f with hq | hq | hq
                  · refine wp_seq_k (fun K hK => ?_); have HK : Shut _ := hK; clear hK
                    have r0 := or.1 0 _ rfl; have r1 := or.1 1 _ rfl; have r2 := or.1 2 _ rfl; have r3 := or.1 3 _ rfl; have r4 := or.1 4 _ rfl
                    have hOkl : RunOk ky nm ts zs1 0 := ⟨hk16, HX.out.1, HL.out.right⟩
                    have cD := doneY_any hky jr hOkl N n ⟨#[114]⟩ (by decide) (wfJ_of (by omega))
                    rw [leased_on HL.out HTB.out.2.1] at cD
                    dsimp only at cD
                    obtain ⟨hEd, hRE⟩ := end_done HX.out.1 HL.out ⟨#[114]⟩ (by decide)
                    rw [hEd] at cD
                    go_wp2_with (go_at_call 24; refine cD.mono ?_; rintro e w7 ⟨yk, yn, ya, ym, yc, yi, yz, yq, yl, rfl, jy, hb⟩; have or7 := or.below hb; have hB7 := Below.tr hB hb; clear r0 r1 r2 r3 r4; have e0 := or7.1 0 _ rfl; have e1 := or7.1 1 _ rfl; have e2 := or7.1 2 _ rfl; have e3 := or7.1 3 _ rfl; have e4 := or7.1 4 _ rfl; have d0 := or7.2 0 (by simp); have d1 := or7.2 1 (by simp); have d2 := or7.2 2 (by simp); have d3 := or7.2 3 (by simp); have d4 := or7.2 4 (by simp))
                    have hpl6 := or.lt (by simp)
                    have hQB : 0 ≤ N ∧ N ≤ T + 2097152 := by have := HS.out.time; omega
                    obtain ⟨V8, hV8⟩ : ∃ V8, V8 = (((((w7.setCell ⟨p, 0, none⟩ (.string yk)).setCell ⟨p, 1, none⟩ (.string yn)).setCell ⟨p, 2, none⟩ (.slice ya ym yc)).setCell ⟨p, 3, none⟩ (.int .i64 yi)).setCell ⟨p, 4, none⟩ (.slice yz yq yl)) := ⟨_, rfl⟩
                    have T8 : Turns (fun k => k = p) w7 V8 := by rw [hV8]; exact turns_set5 _ _ _ _ _ _ _
                    have oy : BoxL V8 p [.string yk, .string yn, .slice ya ym yc, .int .i64 yi, .slice yz yq yl] := by rw [hV8]; exact boxL_set5 or7 _ _ _ _ _
                    have jy8 := jy V8 (T8.mono fun k hk => by omega)
                    have hB8 := Below.turns hB7 T8 (fun k hk => by omega)
                    rw [← hV8]
                    refine HK.out _ _ ?_; clear HK K
                    clear hV8 T8 or7 hB7 jy e0 e1 e2 e3 e4 d0 d1 d2 d3 d4
                    have y0 := oy.1 0 _ rfl; have y1 := oy.1 1 _ rfl; have y2 := oy.1 2 _ rfl; have y3 := oy.1 3 _ rfl; have y4 := oy.1 4 _ rfl
                    refine wp_seq_k (fun K hK => ?_); have HK : Shut _ := hK; clear hK
                    go_wp2_with (go_at_call 15; refine (rightOk_any hky hnm jy8 ⟨hk16, HX.out.1, hRE.right⟩).mono ?_; rintro e w9 ⟨rfl, hb⟩)
                    refine HK.out _ _ ?_; clear HK K
                    replace jy8 := jy8.below hb
                    replace oy := oy.below hb
                    replace hB8 := Below.tr hB8 hb
                    clear y0 y1 y2 y3 y4 hb
                    obtain ⟨ms, hms⟩ : ∃ ms, ms = (ansZ ts (fun _ s => doneT s ⟨#[114]⟩) zs1 0 n).1 := ⟨_, rfl⟩
                    obtain ⟨mi, hmi⟩ : ∃ mi, mi = (ansZ ts (fun _ s => doneT s ⟨#[114]⟩) zs1 0 n).2 := ⟨_, rfl⟩
                    rw [← hms, ← hmi] at hRE jy8
                    clear hms hmi
                    have hyi : mi = yi := by
                      obtain ⟨_, _, _, h2, _⟩ := jy8.it
                      exact (h2 rfl).2.2.1
                    have y3 := oy.1 3 _ rfl
                    rw [← hyi] at y3
                    have HYI : Hid (mi = yi) := hyi
                    clear hyi
                    by_cases hm : mi = 0
                    · have hm' : (mi != 0) = false := by simpa using hm
                      have hg := hRE.goes (now := N) hm hQB
                      have HG : Hid (EndsAt ts ms (n + 1) (T + 2097152) (N) ∧ mi = 0) := ⟨hg, hm⟩
                      clear hm hg
                      go_wp2
                      refine HK.out _ _ ?_
                      clear HK y3
                      go_wp2
                      go_roundw
                      case rel =>
                        have hj9 := jy8
                        rw [HG.out.2] at hj9
                        exact ⟨n + 1, T + 2097152, N, ms, yk, yn, ya, ym, yc, yi, yz, yq, yl, by first | rfl | go_num, rfl, by omega, by omega, by have := HTB.out; omega, HG.out.1, hj9, oy, hB8⟩
                      case measure => simp [intOf]; omega
                    · have hm' : (mi != 0) = true := by simpa using hm
                      have hov := hRE.over hm
                      go_wp2
                      refine HKO.out _ _ ?_
                      clear HKO y3
                      obtain ⟨yt, yr, hXY, hEY, -⟩ := jy8.it
                      obtain ⟨-, -, -, -, hzy⟩ := hEY rfl
                      subst hzy
                      have cH4 := fun V (hV : Below w9.heap.size w9 V) => refHas_any yk yn ya ym yc yi yz yq yl ms 4 V (hXY.hZ.below hV) hXY.hq
                      have cH1 := fun V (hV : Below w9.heap.size w9 V) => refHas_any yk yn ya ym yc yi yz yq yl ms 1 V (hXY.hZ.below hV) hXY.hq
                      rcases hov with ⟨rfl, h4⟩ | ⟨rfl, h4⟩
                      · have hyi := HYI.out
                        subst hyi
                        rw [h4] at cH4
                        clear h4 cH1
                        go_wp2_with (first
                          | (go_at_call 16; refine (alive19_any _).mono ?_; rintro e w10 ⟨rfl, hb⟩; replace oy := oy.below hb; have y0 := oy.1 0 _ rfl; have y1 := oy.1 1 _ rfl; have y2 := oy.1 2 _ rfl; have y3 := oy.1 3 _ rfl; have y4 := oy.1 4 _ rfl)
                          | (go_at_call 27; refine (cH4 _ hb).mono ?_; rintro e w11 ⟨rfl, hb2⟩))
                        go_ret
                        exact ⟨rfl, Below.tr (Below.tr hB8 hb) hb2⟩
                      · have hyi := HYI.out
                        subst hyi
                        rw [h4] at cH1
                        clear h4 cH4
                        go_wp2_with (first
                          | (go_at_call 16; refine (alive19_any _).mono ?_; rintro e w10 ⟨rfl, hb⟩; replace oy := oy.below hb; have y0 := oy.1 0 _ rfl; have y1 := oy.1 1 _ rfl; have y2 := oy.1 2 _ rfl; have y3 := oy.1 3 _ rfl; have y4 := oy.1 4 _ rfl)
                          | (go_at_call 27; refine (cH1 _ hb).mono ?_; rintro e w11 ⟨rfl, hb2⟩))
                        go_ret
                        exact ⟨rfl, Below.tr (Below.tr hB8 hb) hb2⟩
                  · refine wp_seq_k (fun K hK => ?_); have HK : Shut _ := hK; clear hK
                    have r0 := or.1 0 _ rfl; have r1 := or.1 1 _ rfl; have r2 := or.1 2 _ rfl; have r3 := or.1 3 _ rfl; have r4 := or.1 4 _ rfl
                    have hOkl : RunOk ky nm ts zs1 0 := ⟨hk16, HX.out.1, HL.out.right⟩
                    have cD := failY_any hky jr hOkl N n (wfJ_of (by omega))
                    rw [leased_on HL.out HTB.out.2.1] at cD
                    dsimp only at cD
                    obtain ⟨hEd, hRE⟩ := end_fail HX.out.1 HL.out
                    rw [hEd] at cD
                    go_wp2_with (go_at_call 25; refine cD.mono ?_; rintro e w7 ⟨yk, yn, ya, ym, yc, yi, yz, yq, yl, rfl, jy, hb⟩; have or7 := or.below hb; have hB7 := Below.tr hB hb; clear r0 r1 r2 r3 r4; have e0 := or7.1 0 _ rfl; have e1 := or7.1 1 _ rfl; have e2 := or7.1 2 _ rfl; have e3 := or7.1 3 _ rfl; have e4 := or7.1 4 _ rfl; have d0 := or7.2 0 (by simp); have d1 := or7.2 1 (by simp); have d2 := or7.2 2 (by simp); have d3 := or7.2 3 (by simp); have d4 := or7.2 4 (by simp))
                    have hpl6 := or.lt (by simp)
                    have hQB : 0 ≤ N ∧ N ≤ T + 2097152 := by have := HS.out.time; omega
                    obtain ⟨V8, hV8⟩ : ∃ V8, V8 = (((((w7.setCell ⟨p, 0, none⟩ (.string yk)).setCell ⟨p, 1, none⟩ (.string yn)).setCell ⟨p, 2, none⟩ (.slice ya ym yc)).setCell ⟨p, 3, none⟩ (.int .i64 yi)).setCell ⟨p, 4, none⟩ (.slice yz yq yl)) := ⟨_, rfl⟩
                    have T8 : Turns (fun k => k = p) w7 V8 := by rw [hV8]; exact turns_set5 _ _ _ _ _ _ _
                    have oy : BoxL V8 p [.string yk, .string yn, .slice ya ym yc, .int .i64 yi, .slice yz yq yl] := by rw [hV8]; exact boxL_set5 or7 _ _ _ _ _
                    have jy8 := jy V8 (T8.mono fun k hk => by omega)
                    have hB8 := Below.turns hB7 T8 (fun k hk => by omega)
                    rw [← hV8]
                    refine HK.out _ _ ?_; clear HK K
                    clear hV8 T8 or7 hB7 jy e0 e1 e2 e3 e4 d0 d1 d2 d3 d4
                    have y0 := oy.1 0 _ rfl; have y1 := oy.1 1 _ rfl; have y2 := oy.1 2 _ rfl; have y3 := oy.1 3 _ rfl; have y4 := oy.1 4 _ rfl
                    refine wp_seq_k (fun K hK => ?_); have HK : Shut _ := hK; clear hK
                    go_wp2_with (go_at_call 15; refine (rightOk_any hky hnm jy8 ⟨hk16, HX.out.1, hRE.right⟩).mono ?_; rintro e w9 ⟨rfl, hb⟩)
                    refine HK.out _ _ ?_; clear HK K
                    replace jy8 := jy8.below hb
                    replace oy := oy.below hb
                    replace hB8 := Below.tr hB8 hb
                    clear y0 y1 y2 y3 y4 hb
                    obtain ⟨ms, hms⟩ : ∃ ms, ms = (ansZ ts (fun t s => failT t.tries t.wait s N) zs1 0 n).1 := ⟨_, rfl⟩
                    obtain ⟨mi, hmi⟩ : ∃ mi, mi = (ansZ ts (fun t s => failT t.tries t.wait s N) zs1 0 n).2 := ⟨_, rfl⟩
                    rw [← hms, ← hmi] at hRE jy8
                    clear hms hmi
                    have hyi : mi = yi := by
                      obtain ⟨_, _, _, h2, _⟩ := jy8.it
                      exact (h2 rfl).2.2.1
                    have y3 := oy.1 3 _ rfl
                    rw [← hyi] at y3
                    have HYI : Hid (mi = yi) := hyi
                    clear hyi
                    by_cases hm : mi = 0
                    · have hm' : (mi != 0) = false := by simpa using hm
                      have hg := hRE.goes (now := N) hm hQB
                      have HG : Hid (EndsAt ts ms (n + 1) (T + 2097152) (N) ∧ mi = 0) := ⟨hg, hm⟩
                      clear hm hg
                      go_wp2
                      refine HK.out _ _ ?_
                      clear HK y3
                      go_wp2
                      go_roundw
                      case rel =>
                        have hj9 := jy8
                        rw [HG.out.2] at hj9
                        exact ⟨n + 1, T + 2097152, N, ms, yk, yn, ya, ym, yc, yi, yz, yq, yl, by first | rfl | go_num, rfl, by omega, by omega, by have := HTB.out; omega, HG.out.1, hj9, oy, hB8⟩
                      case measure => simp [intOf]; omega
                    · have hm' : (mi != 0) = true := by simpa using hm
                      have hov := hRE.over hm
                      go_wp2
                      refine HKO.out _ _ ?_
                      clear HKO y3
                      obtain ⟨yt, yr, hXY, hEY, -⟩ := jy8.it
                      obtain ⟨-, -, -, -, hzy⟩ := hEY rfl
                      subst hzy
                      have cH4 := fun V (hV : Below w9.heap.size w9 V) => refHas_any yk yn ya ym yc yi yz yq yl ms 4 V (hXY.hZ.below hV) hXY.hq
                      have cH1 := fun V (hV : Below w9.heap.size w9 V) => refHas_any yk yn ya ym yc yi yz yq yl ms 1 V (hXY.hZ.below hV) hXY.hq
                      rcases hov with ⟨rfl, h4⟩ | ⟨rfl, h4⟩
                      · have hyi := HYI.out
                        subst hyi
                        rw [h4] at cH4
                        clear h4 cH1
                        go_wp2_with (first
                          | (go_at_call 16; refine (alive19_any _).mono ?_; rintro e w10 ⟨rfl, hb⟩; replace oy := oy.below hb; have y0 := oy.1 0 _ rfl; have y1 := oy.1 1 _ rfl; have y2 := oy.1 2 _ rfl; have y3 := oy.1 3 _ rfl; have y4 := oy.1 4 _ rfl)
                          | (go_at_call 27; refine (cH4 _ hb).mono ?_; rintro e w11 ⟨rfl, hb2⟩))
                        go_ret
                        exact ⟨rfl, Below.tr (Below.tr hB8 hb) hb2⟩
                      · have hyi := HYI.out
                        subst hyi
                        rw [h4] at cH1
                        clear h4 cH4
                        go_wp2_with (first
                          | (go_at_call 16; refine (alive19_any _).mono ?_; rintro e w10 ⟨rfl, hb⟩; replace oy := oy.below hb; have y0 := oy.1 0 _ rfl; have y1 := oy.1 1 _ rfl; have y2 := oy.1 2 _ rfl; have y3 := oy.1 3 _ rfl; have y4 := oy.1 4 _ rfl)
                          | (go_at_call 27; refine (cH1 _ hb).mono ?_; rintro e w11 ⟨rfl, hb2⟩))
                        go_ret
                        exact ⟨rfl, Below.tr (Below.tr hB8 hb) hb2⟩
                  · refine wp_seq_k (fun K hK => ?_); have HK : Shut _ := hK; clear hK
                    have r0 := or.1 0 _ rfl; have r1 := or.1 1 _ rfl; have r2 := or.1 2 _ rfl; have r3 := or.1 3 _ rfl; have r4 := or.1 4 _ rfl
                    have hOkl : RunOk ky nm ts zs1 0 := ⟨hk16, HX.out.1, HL.out.right⟩
                    have hRE := end_over HX.out.1 HL.out HTB.out.2.1
                    have hxw := HL.out.when
                    have hxt := HL.out.tb
                    obtain ⟨zt, zr, hXZ, hEZ, -⟩ := jr.it
                    obtain ⟨-, -, -, -, hzz⟩ := hEZ rfl
                    subst hzz
                    have hil2 := HL.out.il
                    have hll := HL.out.len
                    have hlq2 := hXZ.hq
                    have hi1 : (i : Int) < lq := by omega
                    have hi0' : i < lq := by omega
                    have hlc : lq ≤ ll ∧ ll ≤ 9223372036854775807 := by have a1 := hXZ.hZ.1; have a2 := hXZ.hZ.2.1; rw [← hlq2] at a1; exact ⟨a1, a2⟩
                    obtain ⟨hlc1, hlc2⟩ := hlc
                    obtain ⟨zb, zo, rfl, -⟩ := hXZ.hZ.some (by omega)
                    have z2 := (hXZ.hZ.at HL.out.at_).2.2.1
                    obtain ⟨xd, hxd⟩ : ∃ xd, xd = x.d := ⟨_, rfl⟩
                    rw [← hxd] at z2 hRE hxw
                    have cD := settleYW_any hky jr hOkl xd
                    have hNx : N < xd := by omega
                    have hQB : 0 ≤ xd ∧ xd ≤ T + 2097152 := by have := HS.out.time; omega
                    clear hxd hxw hxt hEZ hlq2 hll hil2 hXZ
                    go_wp2_with (go_at_call 14; refine cD.mono ?_; rintro e w7 ⟨yk, yn, ya, ym, yc, yi, yz, yq, yl, rfl, jy, hb⟩; have or7 := or.below hb; have hB7 := Below.tr hB hb; clear r0 r1 r2 r3 r4; have e0 := or7.1 0 _ rfl; have e1 := or7.1 1 _ rfl; have e2 := or7.1 2 _ rfl; have e3 := or7.1 3 _ rfl; have e4 := or7.1 4 _ rfl; have d0 := or7.2 0 (by simp); have d1 := or7.2 1 (by simp); have d2 := or7.2 2 (by simp); have d3 := or7.2 3 (by simp); have d4 := or7.2 4 (by simp))
                    have hpl6 := or.lt (by simp)
                    obtain ⟨V8, hV8⟩ : ∃ V8, V8 = (((((w7.setCell ⟨p, 0, none⟩ (.string yk)).setCell ⟨p, 1, none⟩ (.string yn)).setCell ⟨p, 2, none⟩ (.slice ya ym yc)).setCell ⟨p, 3, none⟩ (.int .i64 yi)).setCell ⟨p, 4, none⟩ (.slice yz yq yl)) := ⟨_, rfl⟩
                    have T8 : Turns (fun k => k = p) w7 V8 := by rw [hV8]; exact turns_set5 _ _ _ _ _ _ _
                    have oy : BoxL V8 p [.string yk, .string yn, .slice ya ym yc, .int .i64 yi, .slice yz yq yl] := by rw [hV8]; exact boxL_set5 or7 _ _ _ _ _
                    have jy8 := jy V8 (T8.mono fun k hk => by omega)
                    have hB8 := Below.turns hB7 T8 (fun k hk => by omega)
                    rw [← hV8]
                    refine HK.out _ _ ?_; clear HK K
                    clear hV8 T8 or7 hB7 jy e0 e1 e2 e3 e4 d0 d1 d2 d3 d4
                    have y0 := oy.1 0 _ rfl; have y1 := oy.1 1 _ rfl; have y2 := oy.1 2 _ rfl; have y3 := oy.1 3 _ rfl; have y4 := oy.1 4 _ rfl
                    refine wp_seq_k (fun K hK => ?_); have HK : Shut _ := hK; clear hK
                    go_wp2_with (go_at_call 15; refine (rightOk_any hky hnm jy8 ⟨hk16, HX.out.1, hRE.right⟩).mono ?_; rintro e w9 ⟨rfl, hb⟩)
                    refine HK.out _ _ ?_; clear HK K
                    replace jy8 := jy8.below hb
                    replace oy := oy.below hb
                    replace hB8 := Below.tr hB8 hb
                    clear y0 y1 y2 y3 y4 hb
                    obtain ⟨ms, hms⟩ : ∃ ms, ms = (settleS ts (untF xd []) (zs1, 0)).1 := ⟨_, rfl⟩
                    obtain ⟨mi, hmi⟩ : ∃ mi, mi = (settleS ts (untF xd []) (zs1, 0)).2 := ⟨_, rfl⟩
                    rw [← hms, ← hmi] at hRE jy8
                    clear hms hmi
                    have hyi : mi = yi := by
                      obtain ⟨_, _, _, h2, _⟩ := jy8.it
                      exact (h2 rfl).2.2.1
                    have y3 := oy.1 3 _ rfl
                    rw [← hyi] at y3
                    have HYI : Hid (mi = yi) := hyi
                    clear hyi
                    by_cases hm : mi = 0
                    · have hm' : (mi != 0) = false := by simpa using hm
                      have hg := hRE.goes (now := xd) hm hQB
                      have HG : Hid (EndsAt ts ms (n + 1) (T + 2097152) (xd) ∧ mi = 0) := ⟨hg, hm⟩
                      clear hm hg
                      go_wp2
                      refine HK.out _ _ ?_
                      clear HK y3
                      go_wp2
                      go_roundw
                      case rel =>
                        have hj9 := jy8
                        rw [HG.out.2] at hj9
                        exact ⟨n + 1, T + 2097152, xd, ms, yk, yn, ya, ym, yc, yi, yz, yq, yl, by first | rfl | go_num, rfl, by omega, by omega, by have := HTB.out; omega, HG.out.1, hj9, oy, hB8⟩
                      case measure => simp [intOf]; omega
                    · have hm' : (mi != 0) = true := by simpa using hm
                      have hov := hRE.over hm
                      go_wp2
                      refine HKO.out _ _ ?_
                      clear HKO y3
                      obtain ⟨yt, yr, hXY, hEY, -⟩ := jy8.it
                      obtain ⟨-, -, -, -, hzy⟩ := hEY rfl
                      subst hzy
                      have cH4 := fun V (hV : Below w9.heap.size w9 V) => refHas_any yk yn ya ym yc yi yz yq yl ms 4 V (hXY.hZ.below hV) hXY.hq
                      have cH1 := fun V (hV : Below w9.heap.size w9 V) => refHas_any yk yn ya ym yc yi yz yq yl ms 1 V (hXY.hZ.below hV) hXY.hq
                      rcases hov with ⟨rfl, h4⟩ | ⟨rfl, h4⟩
                      · have hyi := HYI.out
                        subst hyi
                        rw [h4] at cH4
                        clear h4 cH1
                        go_wp2_with (first
                          | (go_at_call 16; refine (alive19_any _).mono ?_; rintro e w10 ⟨rfl, hb⟩; replace oy := oy.below hb; have y0 := oy.1 0 _ rfl; have y1 := oy.1 1 _ rfl; have y2 := oy.1 2 _ rfl; have y3 := oy.1 3 _ rfl; have y4 := oy.1 4 _ rfl)
                          | (go_at_call 27; refine (cH4 _ hb).mono ?_; rintro e w11 ⟨rfl, hb2⟩))
                        go_ret
                        exact ⟨rfl, Below.tr (Below.tr hB8 hb) hb2⟩
                      · have hyi := HYI.out
                        subst hyi
                        rw [h4] at cH1
                        clear h4 cH4
                        go_wp2_with (first
                          | (go_at_call 16; refine (alive19_any _).mono ?_; rintro e w10 ⟨rfl, hb⟩; replace oy := oy.below hb; have y0 := oy.1 0 _ rfl; have y1 := oy.1 1 _ rfl; have y2 := oy.1 2 _ rfl; have y3 := oy.1 3 _ rfl; have y4 := oy.1 4 _ rfl)
                          | (go_at_call 27; refine (cH1 _ hb).mono ?_; rintro e w11 ⟨rfl, hb2⟩))
                        go_ret
                        exact ⟨rfl, Below.tr (Below.tr hB8 hb) hb2⟩
                · have hnf' : ¬ (n ≤ fn) := hnf
                  refine wp_seq_k (fun K hK => ?_); have HK : Shut _ := hK; clear hK
                  go_wp2
                  refine HK.out _ _ ?_; clear HK K
                  refine wp_seq_k (fun K hK => ?_); have HK : Shut _ := hK; clear hK
                  have r0 := or.1 0 _ rfl; have r1 := or.1 1 _ rfl; have r2 := or.1 2 _ rfl; have r3 := or.1 3 _ rfl; have r4 := or.1 4 _ rfl
                  have hOkl : RunOk ky nm ts zs1 0 := ⟨hk16, HX.out.1, HL.out.right⟩
                  have cD := doneY_any hky jr hOkl N n ⟨#[114]⟩ (by decide) (wfJ_of (by omega))
                  rw [leased_on HL.out HTB.out.2.1] at cD
                  dsimp only at cD
                  obtain ⟨hEd, hRE⟩ := end_done HX.out.1 HL.out ⟨#[114]⟩ (by decide)
                  rw [hEd] at cD
                  go_wp2_with (go_at_call 24; refine cD.mono ?_; rintro e w7 ⟨yk, yn, ya, ym, yc, yi, yz, yq, yl, rfl, jy, hb⟩; have or7 := or.below hb; have hB7 := Below.tr hB hb; clear r0 r1 r2 r3 r4; have e0 := or7.1 0 _ rfl; have e1 := or7.1 1 _ rfl; have e2 := or7.1 2 _ rfl; have e3 := or7.1 3 _ rfl; have e4 := or7.1 4 _ rfl; have d0 := or7.2 0 (by simp); have d1 := or7.2 1 (by simp); have d2 := or7.2 2 (by simp); have d3 := or7.2 3 (by simp); have d4 := or7.2 4 (by simp))
                  have hpl6 := or.lt (by simp)
                  have hQB : 0 ≤ N ∧ N ≤ T + 2097152 := by have := HS.out.time; omega
                  obtain ⟨V8, hV8⟩ : ∃ V8, V8 = (((((w7.setCell ⟨p, 0, none⟩ (.string yk)).setCell ⟨p, 1, none⟩ (.string yn)).setCell ⟨p, 2, none⟩ (.slice ya ym yc)).setCell ⟨p, 3, none⟩ (.int .i64 yi)).setCell ⟨p, 4, none⟩ (.slice yz yq yl)) := ⟨_, rfl⟩
                  have T8 : Turns (fun k => k = p) w7 V8 := by rw [hV8]; exact turns_set5 _ _ _ _ _ _ _
                  have oy : BoxL V8 p [.string yk, .string yn, .slice ya ym yc, .int .i64 yi, .slice yz yq yl] := by rw [hV8]; exact boxL_set5 or7 _ _ _ _ _
                  have jy8 := jy V8 (T8.mono fun k hk => by omega)
                  have hB8 := Below.turns hB7 T8 (fun k hk => by omega)
                  rw [← hV8]
                  refine HK.out _ _ ?_; clear HK K
                  clear hV8 T8 or7 hB7 jy e0 e1 e2 e3 e4 d0 d1 d2 d3 d4
                  have y0 := oy.1 0 _ rfl; have y1 := oy.1 1 _ rfl; have y2 := oy.1 2 _ rfl; have y3 := oy.1 3 _ rfl; have y4 := oy.1 4 _ rfl
                  refine wp_seq_k (fun K hK => ?_); have HK : Shut _ := hK; clear hK
                  go_wp2_with (go_at_call 15; refine (rightOk_any hky hnm jy8 ⟨hk16, HX.out.1, hRE.right⟩).mono ?_; rintro e w9 ⟨rfl, hb⟩)
                  refine HK.out _ _ ?_; clear HK K
                  replace jy8 := jy8.below hb
                  replace oy := oy.below hb
                  replace hB8 := Below.tr hB8 hb
                  clear y0 y1 y2 y3 y4 hb
                  obtain ⟨ms, hms⟩ : ∃ ms, ms = (ansZ ts (fun _ s => doneT s ⟨#[114]⟩) zs1 0 n).1 := ⟨_, rfl⟩
                  obtain ⟨mi, hmi⟩ : ∃ mi, mi = (ansZ ts (fun _ s => doneT s ⟨#[114]⟩) zs1 0 n).2 := ⟨_, rfl⟩
                  rw [← hms, ← hmi] at hRE jy8
                  clear hms hmi
                  have hyi : mi = yi := by
                    obtain ⟨_, _, _, h2, _⟩ := jy8.it
                    exact (h2 rfl).2.2.1
                  have y3 := oy.1 3 _ rfl
                  rw [← hyi] at y3
                  have HYI : Hid (mi = yi) := hyi
                  clear hyi
                  by_cases hm : mi = 0
                  · have hm' : (mi != 0) = false := by simpa using hm
                    have hg := hRE.goes (now := N) hm hQB
                    have HG : Hid (EndsAt ts ms (n + 1) (T + 2097152) (N) ∧ mi = 0) := ⟨hg, hm⟩
                    clear hm hg
                    go_wp2
                    refine HK.out _ _ ?_
                    clear HK y3
                    go_wp2
                    go_roundw
                    case rel =>
                      have hj9 := jy8
                      rw [HG.out.2] at hj9
                      exact ⟨n + 1, T + 2097152, N, ms, yk, yn, ya, ym, yc, yi, yz, yq, yl, by first | rfl | go_num, rfl, by omega, by omega, by have := HTB.out; omega, HG.out.1, hj9, oy, hB8⟩
                    case measure => simp [intOf]; omega
                  · have hm' : (mi != 0) = true := by simpa using hm
                    have hov := hRE.over hm
                    go_wp2
                    refine HKO.out _ _ ?_
                    clear HKO y3
                    obtain ⟨yt, yr, hXY, hEY, -⟩ := jy8.it
                    obtain ⟨-, -, -, -, hzy⟩ := hEY rfl
                    subst hzy
                    have cH4 := fun V (hV : Below w9.heap.size w9 V) => refHas_any yk yn ya ym yc yi yz yq yl ms 4 V (hXY.hZ.below hV) hXY.hq
                    have cH1 := fun V (hV : Below w9.heap.size w9 V) => refHas_any yk yn ya ym yc yi yz yq yl ms 1 V (hXY.hZ.below hV) hXY.hq
                    rcases hov with ⟨rfl, h4⟩ | ⟨rfl, h4⟩
                    · have hyi := HYI.out
                      subst hyi
                      rw [h4] at cH4
                      clear h4 cH1
                      go_wp2_with (first
                        | (go_at_call 16; refine (alive19_any _).mono ?_; rintro e w10 ⟨rfl, hb⟩; replace oy := oy.below hb; have y0 := oy.1 0 _ rfl; have y1 := oy.1 1 _ rfl; have y2 := oy.1 2 _ rfl; have y3 := oy.1 3 _ rfl; have y4 := oy.1 4 _ rfl)
                        | (go_at_call 27; refine (cH4 _ hb).mono ?_; rintro e w11 ⟨rfl, hb2⟩))
                      go_ret
                      exact ⟨rfl, Below.tr (Below.tr hB8 hb) hb2⟩
                    · have hyi := HYI.out
                      subst hyi
                      rw [h4] at cH1
                      clear h4 cH4
                      go_wp2_with (first
                        | (go_at_call 16; refine (alive19_any _).mono ?_; rintro e w10 ⟨rfl, hb⟩; replace oy := oy.below hb; have y0 := oy.1 0 _ rfl; have y1 := oy.1 1 _ rfl; have y2 := oy.1 2 _ rfl; have y3 := oy.1 3 _ rfl; have y4 := oy.1 4 _ rfl)
                        | (go_at_call 27; refine (cH1 _ hb).mono ?_; rintro e w11 ⟨rfl, hb2⟩))
                      go_ret
                      exact ⟨rfl, Below.tr (Below.tr hB8 hb) hb2⟩
          · exfalso
            obtain ⟨h1, h2, h3, h4, h5⟩ := HS.out
            exact most_over HX.out.2.1 HX.out.2.2.1 h1 h2 (by rw [← HMT.out.1]; omega) rfl
  · have hEz : (E != 0) = true := by simpa using h0
    clear h0
    have d0 := oD.1 0 _ rfl
    have d1 := oD.1 1 _ rfl
    go_wp2_with (first
      | (go_at_call 16; refine (alive19_any _).mono ?_; rintro e w3 ⟨rfl, hb⟩; replace oD := oD.below hb; replace hB := Below.tr hB hb; clear d0 d1 hb; have d0 := oD.1 0 _ rfl; have d1 := oD.1 1 _ rfl)
      | (go_at_call 11; refine (cR _ hB).mono ?_; rintro e w4 ⟨rfl, hb⟩; replace hB := Below.tr hB hb))
    go_ret
    exact ⟨rfl, hB⟩

end Go.Proofs.Ytdpljpjbomhccaa


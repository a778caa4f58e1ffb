/-
  Texts laid together: RunRefRight.
-/
import Derived.Test.YtdpljpjbomhccaaRtC
import Derived.Test.YtdpljpjbomhccaaRtE
import Derived.Test.YtdpljpjbomhccaaRtA
namespace Go.Proofs.Ytdpljpjbomhccaa
open Go.RowKit Plain
set_option linter.unusedVariables false
set_option maxRecDepth 20000 in
set_option maxHeartbeats 4000000 in
theorem refRight19_any (ky nm : ByteArray) (ta : Option Addr) (tn tc : Nat) (is : Int) (sa : Option Addr) (n sc : Nat) (tv : List TaskV) (ss : List StP) (w : World) (hky : ky.size ≤ maxLen) (hnm : nm.size ≤ maxLen) (hT : IsT w ta tc tv) (htn : tn = tv.length) (hZ : IsZ w sa sc ss) (hn : n = ss.length) :
  Calls Try.prog 15 #[.agg #[.string ky, .string nm, .slice ta tn tc, .int .i64 is, .slice sa n sc]] w fun e w' => e = .returned (.bool (runB ky nm (plainT tv) ss is)) ∧ Below w.heap.size w w' := by
 have hB0 : Below w.heap.size w (w.alloc (.cells #[.string ky, .string nm, .slice ta tn tc, .int .i64 is, .slice sa n sc] 27)) := (Below.refl _ _).alloc (Nat.le_refl _) _
 have X : RunIn (w.alloc (.cells #[.string ky, .string nm, .slice ta tn tc, .int .i64 is, .slice sa n sc] 27)) w.heap.size ky nm ta tn tc is sa n sc tv ss := ⟨boxL_new w [.string ky, .string nm, .slice ta tn tc, .int .i64 is, .slice sa n sc] _ rfl, hT.below hB0, hZ.below hB0, htn, hn⟩
 have q0 := X.box.1 0 _ rfl; have q1 := X.box.1 1 _ rfl; have q2 := X.box.1 2 _ rfl; have q3 := X.box.1 3 _ rfl; have q4 := X.box.1 4 _ rfl
 have hki : ky.size ≤ 9223372036854775807 := hky
 have cD := fun W (h : Below w.heap.size w W) => refRight16_any nm ta tc tn tv W hnm htn (hT.below h)
 have cF := fun W (h : Below w.heap.size w W) => refFits_any ky nm ta tn tc is sa n sc ss W (hZ.below h) hn
 by_cases hk1 : ky.size < 1
 ·
  have a1 : (ky.size : Int) < 1 := by omega
  have HL : Hid (runB ky nm (plainT tv) ss is = false) := notOk_key (by omega)
  clear hT hZ htn hn
  go_enter Try.func15, Try.ntmps15
  go_wp2_with (first
   | (go_at_call 11; refine (cD _ hB0).mono ?_; rintro e w2 ⟨rfl, hb⟩; replace X := X.below hb; have hB := Below.tr hB0 hb; clear hb; clear q0 q1 q2 q3 q4; have q0 := X.box.1 0 _ rfl; have q1 := X.box.1 1 _ rfl; have q2 := X.box.1 2 _ rfl; have q3 := X.box.1 3 _ rfl; have q4 := X.box.1 4 _ rfl)
   | (go_at_call 39; refine (cF _ hB).mono ?_; rintro e w3 ⟨rfl, hb⟩; replace X := X.below hb; replace hB := Below.tr hB hb; clear hb; clear q0 q1 q2 q3 q4; have q0 := X.box.1 0 _ rfl; have q1 := X.box.1 1 _ rfl; have q2 := X.box.1 2 _ rfl; have q3 := X.box.1 3 _ rfl; have q4 := X.box.1 4 _ rfl))
  go_ret
  exact ⟨ret_bool HL.out.symm, hB0⟩
 have a1 : ¬ (ky.size : Int) < 1 := by omega
 by_cases hk2 : 16 < ky.size
 ·
  have a2 : (16 : Int) < ky.size := by omega
  have HL : Hid (runB ky nm (plainT tv) ss is = false) := notOk_key (by omega)
  clear hT hZ htn hn
  go_enter Try.func15, Try.ntmps15
  go_wp2_with (first
   | (go_at_call 11; refine (cD _ hB0).mono ?_; rintro e w2 ⟨rfl, hb⟩; replace X := X.below hb; have hB := Below.tr hB0 hb; clear hb; clear q0 q1 q2 q3 q4; have q0 := X.box.1 0 _ rfl; have q1 := X.box.1 1 _ rfl; have q2 := X.box.1 2 _ rfl; have q3 := X.box.1 3 _ rfl; have q4 := X.box.1 4 _ rfl)
   | (go_at_call 39; refine (cF _ hB).mono ?_; rintro e w3 ⟨rfl, hb⟩; replace X := X.below hb; replace hB := Below.tr hB hb; clear hb; clear q0 q1 q2 q3 q4; have q0 := X.box.1 0 _ rfl; have q1 := X.box.1 1 _ rfl; have q2 := X.box.1 2 _ rfl; have q3 := X.box.1 3 _ rfl; have q4 := X.box.1 4 _ rfl))
  go_ret
  exact ⟨ret_bool HL.out.symm, hB0⟩
 have a2 : ¬ (16 : Int) < ky.size := by omega
 by_cases hd : rightG nm (plainT tv) = 0
 ·
  rw [hd] at cD
  obtain ⟨h10, hp0, hin⟩ := inside_of htn hd
  by_cases hl : ss.length = (plainT tv).length
  ·
   have hnt : n = tn := by rw [hn, hl, plainT_length, htn]
   have hnq : ((n : Int) != (tn : Int)) = false := by simp; omega
   cases hf : fitsS ss is with
   | false =>
    rw [hf] at cF
    have HL : Hid (runB ky nm (plainT tv) ss is = false) := runB_no fun hh => by have := hh.st.fits; rw [hf] at this; cases this
    clear hT hZ htn hn hl hnt hin hd hf
    go_enter Try.func15, Try.ntmps15
    go_wp2_with (first
     | (go_at_call 11; refine (cD _ hB0).mono ?_; rintro e w2 ⟨rfl, hb⟩; replace X := X.below hb; have hB := Below.tr hB0 hb; clear hb; clear q0 q1 q2 q3 q4; have q0 := X.box.1 0 _ rfl; have q1 := X.box.1 1 _ rfl; have q2 := X.box.1 2 _ rfl; have q3 := X.box.1 3 _ rfl; have q4 := X.box.1 4 _ rfl)
     | (go_at_call 39; refine (cF _ hB).mono ?_; rintro e w3 ⟨rfl, hb⟩; replace X := X.below hb; replace hB := Below.tr hB hb; clear hb; clear q0 q1 q2 q3 q4; have q0 := X.box.1 0 _ rfl; have q1 := X.box.1 1 _ rfl; have q2 := X.box.1 2 _ rfl; have q3 := X.box.1 3 _ rfl; have q4 := X.box.1 4 _ rfl))
    go_ret
    exact ⟨ret_bool HL.out.symm, hB⟩
   | true =>
    rw [hf] at cF
    have HNT : Hid (n = tn) := hnt
    have HL : Hid (ss.length = (plainT tv).length) := hl
    have HN : Hid (n = ss.length) := hn
    have HTN : Hid (tn = tv.length) := htn
    have HF : Hid (fitsS ss is = true) := hf
    have HK : Hid ((1 ≤ ky.size ∧ ky.size ≤ 16) ∧ rightG nm (plainT tv) = 0) := ⟨⟨by omega, by omega⟩, hd⟩
    have cI := fun (i : Nat) t W (h : Below w.heap.size w W) ht => refIsReady_any ky nm ta tn tc is sa n sc ss tv i t W (hZ.below h) hn (hT.below h) htn ht (fun x hx => by rw [hnt]; exact hin i t ht x hx)
    clear hT hZ htn hn hl hnt hin hd hf hk1 hk2
    go_enter Try.func15, Try.ntmps15
    go_wp2_with (first
     | (go_at_call 11; refine (cD _ hB0).mono ?_; rintro e w2 ⟨rfl, hb⟩; replace X := X.below hb; have hB := Below.tr hB0 hb; clear hb; clear q0 q1 q2 q3 q4; have q0 := X.box.1 0 _ rfl; have q1 := X.box.1 1 _ rfl; have q2 := X.box.1 2 _ rfl; have q3 := X.box.1 3 _ rfl; have q4 := X.box.1 4 _ rfl)
     | (go_at_call 39; refine (cF _ hB).mono ?_; rintro e w3 ⟨rfl, hb⟩; replace X := X.below hb; replace hB := Below.tr hB hb; clear hb; clear q0 q1 q2 q3 q4; have q0 := X.box.1 0 _ rfl; have q1 := X.box.1 1 _ rfl; have q2 := X.box.1 2 _ rfl; have q3 := X.box.1 3 _ rfl; have q4 := X.box.1 4 _ rfl))
    clear q0 q1 q2 q3 q4
    go_loopw [40] (fun v wr => ∃ j : Nat, j ≤ n ∧ v = .int .i64 j ∧ RunIn wr w.heap.size ky nm ta tn tc is sa n sc tv ss ∧ Hid (∀ (i : Nat) s t, i < j → ss[i]? = some s → (plainT tv)[i]? = some t → StateAt (plainT tv) ss i s t) ∧ Below w.heap.size w wr) (fun v _ => n - (intOf v).toNat)
    case atStart => exact ⟨0, Nat.zero_le _, rfl, X, fun i s t h => absurd h (Nat.not_lt_zero _), hB⟩
    case round =>
     clear X hB
     obtain ⟨j, hj, rfl, X, HE, hB⟩ := hrel
     by_cases hlt : j < n
     ·
      have hlt' : (j : Int) < n := by omega
      have hltt : (j : Int) < tn := by have := HNT.out; omega
      obtain ⟨hb1, hb2, hb3, hb4⟩ := X.bounds
      obtain ⟨s, hs⟩ : ∃ s, ss[j]? = some s := ⟨_, List.getElem?_eq_getElem (by rw [← HN.out]; exact hlt)⟩
      obtain ⟨t, ht⟩ : ∃ t, tv[j]? = some t := ⟨_, List.getElem?_eq_getElem (by have := HNT.out; have := HTN.out; omega)⟩
      obtain ⟨b, o, rfl, -⟩ := X.hZ.some (by have := HN.out; omega)
      obtain ⟨tb, to, rfl, -⟩ := X.hT.some (by have := HNT.out; have := HTN.out; omega)
      obtain ⟨z0, z1, z2, z3, z4⟩ := X.hZ.at hs
      obtain ⟨y0, y1, y2, y3, -⟩ := X.hT.at ht
      have hr16 := X.hZ.text hs
      have hpl := plainT_get ht
      have HS : Hid (ss[j]? = some s) := hs
      have HPL : Hid ((plainT tv)[j]? = some t.p) := hpl
      have cQ := fun W h => cI j t W h ht
      have hR' : ∀ W, Calls Try.prog 40 #[.agg #[.slice t.a t.ns.length t.c, .int .i64 t.tr, .int .i64 t.wt, .int .i64 t.le], .agg #[.int .i64 s.i, .int .i64 s.t, .int .i64 s.d, .int .i64 s.k, .string s.r]] W fun e w' => e = .returned (.bool (rightT t.tr s)) ∧ Below W.heap.size W w' := fun W => refRightT_any t.a t.ns.length t.c t.tr t.wt t.le s.i s.t s.d s.k s.r W hr16
      obtain ⟨R, hR⟩ : ∃ R, R = rightT t.tr s := ⟨_, rfl⟩
      obtain ⟨Q, hQ⟩ : ∃ Q, Q = readyI (plainT tv) ss j := ⟨_, rfl⟩
      rw [← hR] at hR'
      rw [← hQ] at cQ
      have HR : Hid (R = rightT t.tr s) := hR
      have HQ : Hid (Q = readyI (plainT tv) ss j) := hQ
      have HNX : Hid (R = true → (∀ k u, k < j → ss[k]? = some u → 0 < s.k → u.k ≠ s.k) → (s.i = 0 → Q = false) → (s.i ≠ 0 → s.i ≠ 5 → Q = true) → ∀ (i : Nat) s t, i < j + 1 → ss[i]? = some s → (plainT tv)[i]? = some t → StateAt (plainT tv) ss i s t) := by
       intro h1 h2 h3 h4 i s' t' hi hs' ht'
       by_cases hij : i = j
       ·
        subst hij
        rw [hs] at hs'; cases hs'
        rw [hpl] at ht'; cases ht'
        exact ⟨by rw [← h1, hR]; rfl, h2, fun h => by rw [← hQ]; exact h3 h, fun h h' => by rw [← hQ]; exact h4 h h'⟩
       ·
        exact HE.out i s' t' (by omega) hs' ht'
      have HBAD : Hid (∀ h : ¬ (StateAt (plainT tv) ss j s t.p), runB ky nm (plainT tv) ss is = false) := fun h => runB_no fun hh => h (hh.st.each j s t.p hs hpl)
      obtain ⟨ta, hta⟩ : ∃ ta, ta = t.a := ⟨_, rfl⟩
      obtain ⟨tl, htl⟩ : ∃ tl, tl = t.ns.length := ⟨_, rfl⟩
      obtain ⟨tcc, htcc⟩ : ∃ tcc, tcc = t.c := ⟨_, rfl⟩
      obtain ⟨ttr, httr⟩ : ∃ ttr, ttr = t.tr := ⟨_, rfl⟩
      obtain ⟨twt, htwt⟩ : ∃ twt, twt = t.wt := ⟨_, rfl⟩
      obtain ⟨tle, htle⟩ : ∃ tle, tle = t.le := ⟨_, rfl⟩
      rw [← hta, ← htl, ← htcc, ← httr, ← htwt, ← htle] at hR'
      rw [← hta, ← htl, ← htcc] at y0
      rw [← httr] at y1
      rw [← htwt] at y2
      rw [← htle] at y3
      obtain ⟨si, st, sd, sk, sr⟩ := s
      dsimp only at *
      obtain ⟨Y, hY⟩ : ∃ Y, Y = wr.alloc (.cells #[.int .i64 si, .int .i64 st, .int .i64 sd, .int .i64 sk, .string sr] 52) := ⟨_, rfl⟩
      have bS : BoxL Y.drew wr.heap.size [.int .i64 si, .int .i64 st, .int .i64 sd, .int .i64 sk, .string sr] := by rw [hY]; exact (boxL_new wr [.int .i64 si, .int .i64 st, .int .i64 sd, .int .i64 sk, .string sr] _ rfl).below (Below.refl _ _).drew
      have XY : RunIn Y.drew w.heap.size ky nm (some ⟨tb, to, none⟩) tn tc is (some ⟨b, o, none⟩) n sc tv ss := by rw [hY]; exact (X.alloc _).drew
      have hBY : Below w.heap.size w Y.drew := by rw [hY]; exact (hB.alloc hB.size _).drew
      have k0 : Y.drew.cell? ⟨tb, to + j * 4, none⟩ = some (.slice ta tl tcc) := by rw [hY]; exact cell_alloc y0 _
      have k1 : Y.drew.cell? ⟨tb, to + j * 4 + 1, none⟩ = some (.int .i64 ttr) := by rw [hY]; exact cell_alloc y1 _
      have k2 : Y.drew.cell? ⟨tb, to + j * 4 + 2, none⟩ = some (.int .i64 twt) := by rw [hY]; exact cell_alloc y2 _
      have k3 : Y.drew.cell? ⟨tb, to + j * 4 + 3, none⟩ = some (.int .i64 tle) := by rw [hY]; exact cell_alloc y3 _
      clear cI hR hQ hta htl htcc httr htwt htle hs ht hpl hr16 X hB HE hlt hj y0 y1 y2 y3
      go_wp2
      rw [← hY]
      clear hY z0 z1 z2 z3 z4
      go_region_held3 (fun V => V.cell? ⟨w.heap.size, 2, none⟩ = some (.slice (some ⟨tb, to, none⟩) tn tc) ∧ (V.cell? ⟨tb, to + j * 4, none⟩ = some (.slice ta tl tcc) ∧ V.cell? ⟨tb, to + j * 4 + 1, none⟩ = some (.int .i64 ttr) ∧ V.cell? ⟨tb, to + j * 4 + 2, none⟩ = some (.int .i64 twt) ∧ V.cell? ⟨tb, to + j * 4 + 3, none⟩ = some (.int .i64 tle)) ∧ (V.cell? ⟨wr.heap.size, 0, none⟩ = some (.int .i64 si) ∧ V.cell? ⟨wr.heap.size, 1, none⟩ = some (.int .i64 st) ∧ V.cell? ⟨wr.heap.size, 2, none⟩ = some (.int .i64 sd) ∧ V.cell? ⟨wr.heap.size, 3, none⟩ = some (.int .i64 sk) ∧ V.cell? ⟨wr.heap.size, 4, none⟩ = some (.string sr))) (exact ⟨XY.box.1 2 _ rfl, ⟨k0, k1, k2, k3⟩, bS.1 0 _ rfl, bS.1 1 _ rfl, bS.1 2 _ rfl, bS.1 3 _ rfl, bS.1 4 _ rfl⟩) (first
       | (go_at_call 40; refine (hR' _).mono ?_; rintro e v1 ⟨rfl, hb⟩; replace XY := XY.below hb; replace bS := bS.below hb; replace k0 := cell_below hb k0; replace k1 := cell_below hb k1; replace k2 := cell_below hb k2; replace k3 := cell_below hb k3; replace hBY := Below.tr hBY hb; clear hb))
      clear k0 k1 k2 k3
      cases R with
      | false =>
       have hbad : Hid (runB ky nm (plainT tv) ss is = false) := HBAD.out fun h => by have := h.right; rw [show t.p.tries = t.tr from rfl, ← HR.out] at this; cases this
       go_wp2
       go_ret
       exact ⟨ret_bool hbad.out.symm, hBY⟩
      | true =>
       have p3 := bS.1 3 _ rfl
       obtain ⟨bx, hbx⟩ : ∃ bx, bx = wr.heap.size := ⟨_, rfl⟩
       rw [← hbx] at bS p3
       go_wp2
       rw [← hbx]
       clear hbx
       go_loopw [5] (fun v wr => ∃ k : Nat, k ≤ j ∧ v = .int .i64 k ∧ RunIn wr w.heap.size ky nm (some ⟨tb, to, none⟩) tn tc is (some ⟨b, o, none⟩) n sc tv ss ∧ BoxL wr bx [.int .i64 si, .int .i64 st, .int .i64 sd, .int .i64 sk, .string sr] ∧ Hid (∀ i u, i < k → ss[i]? = some u → 0 < sk → u.k ≠ sk) ∧ Below w.heap.size w wr) (fun v _ => j - (intOf v).toNat)
       case atStart => exact ⟨0, Nat.zero_le _, rfl, XY, bS, fun i u h => absurd h (Nat.not_lt_zero _), hBY⟩
       case round =>
        clear XY bS hBY p3
        obtain ⟨k, hk, rfl, X2, bS2, HT2, hB2⟩ := hrel
        by_cases hkj : k < j
        ·
         have hkj' : (k : Int) < j := by omega
         have hkn' : (k : Int) < n := by omega
         obtain ⟨u, hu⟩ : ∃ u, ss[k]? = some u := ⟨_, List.getElem?_eq_getElem (by have := HN.out; omega)⟩
         have u3 := (X2.drew.hZ.at hu).2.2.2.1
         have p3 : wr.drew.cell? ⟨bx, 3, none⟩ = some (.int .i64 sk) := bS2.1 3 _ rfl
         have p4 : wr.drew.cell? ⟨w.heap.size, 4, none⟩ = some (.slice (some ⟨b, o, none⟩) n sc) := X2.box.1 4 _ rfl
         obtain ⟨uk, huk⟩ : ∃ uk, uk = u.k := ⟨_, rfl⟩
         rw [← huk] at u3
         by_cases h0 : 0 < sk
         ·
          have h01 : (0 < sk) = True := eq_true h0
          by_cases he : uk = sk
          ·
           have he1 : (uk == sk) = true := by simpa using he
           have hbad : Hid (runB ky nm (plainT tv) ss is = false) := HBAD.out fun h => h.token k u hkj hu h0 (by rw [← huk]; exact he)
           clear hu huk h0 he
           go_wp2
           go_region
           go_wp2
           go_ret
           exact ⟨ret_bool hbad.out.symm, hB2.drew⟩
          ·
           have he1 : (uk == sk) = false := by simpa using he
           have hnx : Hid (∀ i u, i < k + 1 → ss[i]? = some u → 0 < sk → u.k ≠ sk) := by
            intro i u' hi hu' h0'
            by_cases hik : i = k
            ·
             subst hik; rw [hu] at hu'; cases hu'; rw [← huk]; exact he
            ·
             exact HT2.out i u' (by omega) hu' h0'
           clear hu huk h0 he
           go_wp2
           go_region
           go_wp2
           go_roundw
           case rel => exact ⟨k + 1, by omega, by go_num, X2.drew, bS2.below (Below.refl _ _).drew, hnx, hB2.drew⟩
           case measure => simp [intOf]; omega
         ·
          have h01 : (0 < sk) = False := eq_false h0
          have hnx : Hid (∀ i u, i < k + 1 → ss[i]? = some u → 0 < sk → u.k ≠ sk) := fun i u' hi hu' h0' => absurd h0' h0
          clear hu huk h0
          go_wp2
          go_region
          go_wp2
          go_roundw
          case rel => exact ⟨k + 1, by omega, by go_num, X2.drew, bS2.below (Below.refl _ _).drew, hnx, hB2.drew⟩
          case measure => simp [intOf]; omega
        ·
         obtain rfl : j = k := by omega
         have hx : ¬ (j : Int) < j := by omega
         have x0 := X2.box.1 0 _ rfl; have x1 := X2.box.1 1 _ rfl; have x2 := X2.box.1 2 _ rfl; have x3 := X2.box.1 3 _ rfl; have x4 := X2.box.1 4 _ rfl
         have s0 := bS2.1 0 _ rfl
         by_cases hs0 : si = 0
         ·
          have i0 : (si == 0) = true := by simpa using hs0
          have i1 : (si != 0) = false := by simpa using hs0
          have HS0 : Hid (si = 0) := hs0
          clear hs0
          cases Q with
          | true =>
           have hbad : Hid (runB ky nm (plainT tv) ss is = false) := HBAD.out fun h => by have := h.waits HS0.out; rw [← HQ.out] at this; cases this
           go_wp2_with (go_at_call 41; refine (cQ _ hB2).mono ?_; rintro e v4 ⟨rfl, hb4⟩; replace X2 := X2.below hb4; replace bS2 := bS2.below hb4; replace hB2 := Below.tr hB2 hb4; clear hb4; clear x0 x1 x2 x3 x4; have x0 := X2.box.1 0 _ rfl; have x1 := X2.box.1 1 _ rfl; have x2 := X2.box.1 2 _ rfl; have x3 := X2.box.1 3 _ rfl; have x4 := X2.box.1 4 _ rfl; replace s0 := bS2.1 0 _ rfl)
           go_ret
           exact ⟨ret_bool hbad.out.symm, hB2⟩
          | false =>
           have hnx : Hid _ := HNX.out (by trivial) HT2.out (fun _ => by trivial) (fun h _ => absurd HS0.out h)
           go_wp2_with (go_at_call 41; refine (cQ _ hB2).mono ?_; rintro e v4 ⟨rfl, hb4⟩; replace X2 := X2.below hb4; replace bS2 := bS2.below hb4; replace hB2 := Below.tr hB2 hb4; clear hb4; clear x0 x1 x2 x3 x4; have x0 := X2.box.1 0 _ rfl; have x1 := X2.box.1 1 _ rfl; have x2 := X2.box.1 2 _ rfl; have x3 := X2.box.1 3 _ rfl; have x4 := X2.box.1 4 _ rfl; replace s0 := bS2.1 0 _ rfl)
           go_roundw
           case rel => exact ⟨j + 1, by omega, by go_num, X2, hnx.out, hB2⟩
           case measure => simp [intOf]; omega
         ·
          have i0 : (si == 0) = false := by simpa using hs0
          have i1 : (si != 0) = true := by simpa using hs0
          by_cases hs5 : si = 5
          ·
           have i5 : (si != 5) = false := by simpa using hs5
           have HS5 : Hid (si = 5) := hs5
           have hnx : Hid _ := HNX.out (by trivial) HT2.out (fun h => absurd h hs0) (fun _ h => absurd hs5 h)
           clear hs0 hs5
           go_wp2
           go_roundw
           case rel => exact ⟨j + 1, by omega, by go_num, X2, hnx.out, hB2⟩
           case measure => simp [intOf]; omega
          ·
           have i5 : (si != 5) = true := by simpa using hs5
           cases Q with
           | true =>
            have hnx : Hid _ := HNX.out (by trivial) HT2.out (fun h => absurd h hs0) (fun _ _ => by trivial)
            clear hs0 hs5
            go_wp2_with (go_at_call 41; refine (cQ _ hB2).mono ?_; rintro e v4 ⟨rfl, hb4⟩; replace X2 := X2.below hb4; replace bS2 := bS2.below hb4; replace hB2 := Below.tr hB2 hb4; clear hb4; clear x0 x1 x2 x3 x4; have x0 := X2.box.1 0 _ rfl; have x1 := X2.box.1 1 _ rfl; have x2 := X2.box.1 2 _ rfl; have x3 := X2.box.1 3 _ rfl; have x4 := X2.box.1 4 _ rfl; replace s0 := bS2.1 0 _ rfl)
            go_roundw
            case rel => exact ⟨j + 1, by omega, by go_num, X2, hnx.out, hB2⟩
            case measure => simp [intOf]; omega
           | false =>
            have hbad : Hid (runB ky nm (plainT tv) ss is = false) := HBAD.out fun h => by have := h.past hs0 hs5; rw [← HQ.out] at this; cases this
            clear hs0 hs5
            go_wp2_with (go_at_call 41; refine (cQ _ hB2).mono ?_; rintro e v4 ⟨rfl, hb4⟩; replace X2 := X2.below hb4; replace bS2 := bS2.below hb4; replace hB2 := Below.tr hB2 hb4; clear hb4; clear x0 x1 x2 x3 x4; have x0 := X2.box.1 0 _ rfl; have x1 := X2.box.1 1 _ rfl; have x2 := X2.box.1 2 _ rfl; have x3 := X2.box.1 3 _ rfl; have x4 := X2.box.1 4 _ rfl; replace s0 := bS2.1 0 _ rfl)
            go_ret
            exact ⟨ret_bool hbad.out.symm, hB2⟩
     ·
      obtain rfl : n = j := by omega
      have hx : ¬ (n : Int) < n := by omega
      have hE : Hid (runB ky nm (plainT tv) ss is = true) := runB_iff.2 ⟨HK.out.1, HK.out.2, HL.out, HF.out, fun i s t hs ht => HE.out i s t (by rw [HN.out]; exact (List.getElem?_eq_some_iff.1 hs).1) hs ht⟩
      go_wp2
      go_ret
      exact ⟨ret_bool hE.out.symm, hB⟩
  ·
   have HL : Hid (runB ky nm (plainT tv) ss is = false) := notOk_len hl
   have hnq : ((n : Int) != (tn : Int)) = true := by rw [hn, htn, ← plainT_length]; simp; omega
   clear hT hZ htn hn hl hin hd
   go_enter Try.func15, Try.ntmps15
   go_wp2_with (first
    | (go_at_call 11; refine (cD _ hB0).mono ?_; rintro e w2 ⟨rfl, hb⟩; replace X := X.below hb; have hB := Below.tr hB0 hb; clear hb; clear q0 q1 q2 q3 q4; have q0 := X.box.1 0 _ rfl; have q1 := X.box.1 1 _ rfl; have q2 := X.box.1 2 _ rfl; have q3 := X.box.1 3 _ rfl; have q4 := X.box.1 4 _ rfl)
    | (go_at_call 39; refine (cF _ hB).mono ?_; rintro e w3 ⟨rfl, hb⟩; replace X := X.below hb; replace hB := Below.tr hB hb; clear hb; clear q0 q1 q2 q3 q4; have q0 := X.box.1 0 _ rfl; have q1 := X.box.1 1 _ rfl; have q2 := X.box.1 2 _ rfl; have q3 := X.box.1 3 _ rfl; have q4 := X.box.1 4 _ rfl))
   go_ret
   exact ⟨ret_bool HL.out.symm, hB⟩
 ·
  have HL : Hid (runB ky nm (plainT tv) ss is = false) := notOk_dag hd
  have hd' : (rightG nm (plainT tv) == 0) = false := by simpa using hd
  have hd2 : (rightG nm (plainT tv) != 0) = true := by simpa using hd
  generalize rightG nm (plainT tv) = G at *
  clear hT hZ htn hn
  go_enter Try.func15, Try.ntmps15
  go_wp2_with (first
   | (go_at_call 11; refine (cD _ hB0).mono ?_; rintro e w2 ⟨rfl, hb⟩; replace X := X.below hb; have hB := Below.tr hB0 hb; clear hb; clear q0 q1 q2 q3 q4; have q0 := X.box.1 0 _ rfl; have q1 := X.box.1 1 _ rfl; have q2 := X.box.1 2 _ rfl; have q3 := X.box.1 3 _ rfl; have q4 := X.box.1 4 _ rfl)
   | (go_at_call 39; refine (cF _ hB).mono ?_; rintro e w3 ⟨rfl, hb⟩; replace X := X.below hb; replace hB := Below.tr hB hb; clear hb; clear q0 q1 q2 q3 q4; have q0 := X.box.1 0 _ rfl; have q1 := X.box.1 1 _ rfl; have q2 := X.box.1 2 _ rfl; have q3 := X.box.1 3 _ rfl; have q4 := X.box.1 4 _ rfl))
  go_ret
  exact ⟨ret_bool HL.out.symm, hB⟩
end Go.Proofs.Ytdpljpjbomhccaa

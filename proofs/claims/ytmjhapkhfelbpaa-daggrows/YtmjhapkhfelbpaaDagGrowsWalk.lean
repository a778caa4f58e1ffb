/-
  The walk of the law DagGrows: it returns true at all arguments.
-/
import Derived.Test.YtmjhapkhfelbpaaDagIn
import Derived.Test.YtmjhapkhfelbpaaDagGrowP
import Derived.Test.YtmjhapkhfelbpaaBitsWith
namespace Go.Proofs.Ytmjhapkhfelbpaa
open Go.RowKit Plain
set_option linter.unusedVariables false

set_option maxRecDepth 20000 in
set_option maxHeartbeats 4000000 in
theorem dagGrows_walk (s : ByteArray) (a : Option Addr) (c : Nat) (ts : List TaskV) (ad : Option Addr) (cd : Nat) (done : List Bool) (at_ : Int) (w : World) (hs : s.size ≤ maxLen) (hT : IsT w a c ts) (hD0 : IsB w ad cd done) (wf : (Lit.int .i64 at_).wf = true) :
    Calls Try.prog 7 #[.agg #[.string s, .slice a ts.length c], .slice ad done.length cd, .int .i64 at_] w fun e w' => e = .returned (.bool true) ∧ Below w.heap.size w w' := by
  obtain ⟨n, hn⟩ : ∃ n, n = ts.length := ⟨_, rfl⟩
  obtain ⟨m, hm⟩ : ∃ m, m = done.length := ⟨_, rfl⟩
  have H0 : Hid (n = ts.length) := hn
  rw [← hn, ← hm]
  have HM : Hid (m = done.length) := hm
  have hmm : m ≤ 9223372036854775807 := by rw [hm]; exact Nat.le_trans hD0.1 hD0.2.1
  clear hm hn
  obtain ⟨fs, hfs⟩ : ∃ fs, fs = fewT ts := ⟨_, rfl⟩
  obtain ⟨E, hE⟩ : ∃ E, E = freeE s (plainT fs) done := ⟨_, rfl⟩
  obtain ⟨N, hN⟩ : ∃ N, N = fs.length := ⟨_, rfl⟩
  have HF : Hid (fs = fewT ts) := hfs
  have HE : Hid (E = freeE s (plainT fs) done) := hE
  have HN : Hid (N = fs.length) := hN
  have HP : Hid ((plainT fs).length = N) := by show _ = _; rw [plainT_length, hN]
  have hN20 : N ≤ 20 := by rw [hN, hfs]; exact fewT_length ts
  clear hE hfs hN
  by_cases h0 : E = 0
  · subst h0
    have hr0 : rightG s (plainT fs) = 0 := by
      have := HE.out
      unfold freeE at this
      split at this
      · assumption
      · rename_i h; exact absurd this.symm h
    have hmN : m = N := by
      have := HE.out
      unfold freeE at this
      rw [if_pos hr0] at this
      split at this
      · rename_i h; rw [HM.out, h, HP.out]
      · cases this
    have HI : Hid (Inside (plainT fs)) := (rightG_ok hr0).2.2.2.2.2.2
    have HR : Hid (rightG s (plainT fs) = 0) := hr0
    obtain ⟨L, hL⟩ : ∃ L, L = freeL (plainT fs) done := ⟨_, rfl⟩
    obtain ⟨K, hK⟩ : ∃ K, K = L.length := ⟨_, rfl⟩
    have HL : Hid (L = freeL (plainT fs) done) := hL
    have HK : Hid (K = L.length) := hK
    have hK20 : K ≤ 20 := by have := freeL_le (plainT fs) done; rw [hK, hL]; have := HP.out; omega
    subst hmN
    have cF : ∀ V a1 c1 n1, DagIn w V s a1 c1 n1 fs → IsB V ad cd done → Calls Try.prog 11 #[.agg #[.string s, .slice a1 n1 c1], .slice ad m cd] V fun e w' => ∃ x y, e = .returned (.tuple #[.slice x K y, .int .i64 0]) ∧ IsI w' x y (intsN L) ∧ Below V.heap.size V w' := fun V a1 c1 n1 D hB => (D.free HM.out hB).mono (by
      rintro e w' ⟨x, y, k, rfl, hk, hI, -, hb⟩
      have e : freeR s (plainT fs) done = L := by unfold freeR; rw [if_pos HE.out.symm]; exact HL.out.symm
      rw [e] at hk hI
      exact ⟨x, y, by rw [hk, HK.out, ← HE.out], hI, hb⟩)
    clear hr0 hL hK
    by_cases hK0 : K = 0
    · subst hK0
      go_enter Try.func7, Try.ntmps7
      go_wp2_with (first
        | (go_at_call 8; refine (fewStored_any s a c n ts w H0.out hT).mono ?_; rintro e w1 ⟨a1, c1, n1, a0, c0, n0, rfl, k0, k1, f0, f1, D, hn20⟩; rw [← HF.out] at D; obtain rfl : m = n1 := HN.out.trans D.hn.symm; have hD := hD0.below D.hB; have m0 := cell_set_other (w := w1) (h := w.heap.size) (k := w.heap.size) (i := 1) (j := 0) (u := .string s) (.inr (by decide)) k1; obtain ⟨q0, q1⟩ := D.cells)
        | (go_at_call 11; refine (cF _ _ _ _ D hD).mono ?_; rintro e w3 ⟨x3, y3, rfl, -, hb⟩; replace D := D.below hb; clear q0 q1 hb; obtain ⟨q0, q1⟩ := D.cells)
        | (go_at_call 13; refine (alive16_any _).mono ?_; rintro e w6 ⟨rfl, hb⟩; replace D := D.below hb; clear q0 q1; obtain ⟨q0, q1⟩ := D.cells)
        )
      go_ret
      exact ⟨rfl, D.hB⟩
    · have hKp : 0 < K := by omega
      have hK0' : ¬ (K : Int) = 0 := by omega
      obtain ⟨i, hi, hiK⟩ := place_of at_ K hKp
      obtain ⟨q, hq⟩ : ∃ q, at_.tmod (K : Int) = q := ⟨_, rfl⟩
      rw [hq] at hi
      have hq1 : -(K : Int) < q := by rw [← hq]; exact Int.lt_tmod_of_pos at_ (by omega)
      have hq2 : q < K := by rw [← hq]; exact Int.tmod_lt_of_pos at_ (by omega)
      have hiK' : (i : Int) < K := by omega
      obtain ⟨x, hx⟩ : ∃ x, L[i]? = some x := ⟨_, List.getElem?_eq_getElem (by rw [← HK.out]; exact hiK)⟩
      have HXL : Hid (x ∈ L) := List.mem_of_getElem? hx
      have hxf := mem_freeL.1 (show x ∈ freeL (plainT fs) done by rw [← HL.out]; exact List.mem_of_getElem? hx)
      have hxm : x < m := by have := HP.out; omega
      have hxm' : (x : Int) < m := by omega
      have hdx : Hid (onAt done x = false) := ((freeB_iff _ _ _).1 hxf.2).1
      have HXI : Hid (∀ V a c, IsI V a c (intsN L) → ∃ b o, a = some ⟨b, o, none⟩ ∧ V.cell? ⟨b, o + i, none⟩ = some (.int .i64 x)) := fun V a c h => by
        obtain ⟨b, o, e, -, h⟩ := h.2.2 i (x : Int) (by unfold intsN; rw [List.getElem?_map, hx]; rfl)
        exact ⟨b, o, e, h⟩
      obtain ⟨M, hM⟩ : ∃ M, M = freeL (plainT fs) (done.set x true) := ⟨_, rfl⟩
      obtain ⟨Q, hQ⟩ : ∃ Q, Q = M.length := ⟨_, rfl⟩
      have HMM : Hid (M = freeL (plainT fs) (done.set x true)) := hM
      have HQ : Hid (Q = M.length) := hQ
      have hQ20 : Q ≤ 20 := by have := freeL_le (plainT fs) (done.set x true); rw [hQ, hM]; have := HP.out; omega
      have HEND : Hid (hitN L M Q + 1 = K) := by
        show _ = _
        rw [hQ, hM, HK.out, HL.out]
        exact hit_all (by rw [HP.out, ← HM.out]) (by rw [← HL.out]; exact HXL.out)
      have HNEW : Hid (∀ y, y ∈ M → ¬ y ∈ L → (x : Int) ∈ needsAt (plainT fs) y) := fun y h1 h2 => free_new HI.out (by rw [← hM]; exact h1) (by rw [← HL.out]; exact h2)
      have HML : Hid (∀ y, y ∈ M → y < m) := fun y h1 => by
        rw [hM] at h1
        have := (mem_freeL.1 h1).1
        have := HP.out
        omega
      have HLL : Hid (∀ y, y ∈ L → y < m) := fun y h1 => by
        rw [HL.out] at h1
        have := (mem_freeL.1 h1).1
        have := HP.out
        omega
      have HDX : Hid (done[x]? = some false) := by
        show _ = _
        have := hdx.out
        unfold onAt at this
        have hl : x < done.length := by rw [← HM.out]; exact hxm
        rw [List.getElem?_eq_getElem hl] at this ⊢
        simp only [Option.getD_some] at this
        rw [this]
      have cM : ∀ V a1 c1 n1 g cap, DagIn w V s a1 c1 n1 fs → RowT V g cap (done.set x true) → Calls Try.prog 11 #[.agg #[.string s, .slice a1 n1 c1], .slice (some ⟨g, 0, none⟩) m cap] V fun e w' => ∃ x y, e = .returned (.tuple #[.slice x Q y, .int .i64 0]) ∧ IsI w' x y (intsN M) ∧ Below V.heap.size V w' := fun V a1 c1 n1 g cap D R => (D.free (by rw [List.length_set]; exact HM.out) R.isB).mono (by
        rintro e w' ⟨x', y, k, rfl, hk, hI, -, hb⟩
        have e1 : freeE s (plainT fs) (done.set x true) = 0 := by unfold freeE; rw [if_pos HR.out, if_pos (by rw [List.length_set, HP.out]; exact HM.out.symm)]
        have e : freeR s (plainT fs) (done.set x true) = M := by unfold freeR; rw [if_pos e1, hM]
        rw [e] at hk hI
        exact ⟨x', y, by rw [hk, hQ, e1], hI, hb⟩)
      clear hx hxf hM hQ
      have tok1 : True := trivial
      have hmm2 := @run_makeMap Try.prog
      go_enter Try.func7, Try.ntmps7
      go_wp2_with (first
        | (go_at_call 8; refine (fewStored_any s a c n ts w H0.out hT).mono ?_; rintro e w1 ⟨a1, c1, n1, a0, c0, n0, rfl, k0, k1, f0, f1, D, hn20⟩; rw [← HF.out] at D; obtain rfl : m = n1 := HN.out.trans D.hn.symm; have hD := hD0.below D.hB; have m0 := cell_set_other (w := w1) (h := w.heap.size) (k := w.heap.size) (i := 1) (j := 0) (u := .string s) (.inr (by decide)) k1; obtain ⟨q0, q1⟩ := D.cells)
        | (go_at_call 11; have _t := tok1; refine (cF _ _ _ _ D hD).mono ?_; rintro e w3 ⟨x3, y3, rfl, hI3, hb⟩; replace D := D.below hb; replace hD := hD.below hb; clear q0 q1 hb tok1 _t cF; obtain ⟨q0, q1⟩ := D.cells; obtain ⟨b3, o3, rfl, hx3⟩ := HXI.out _ _ _ hI3; have hKy : K ≤ y3 := (by have := hI3.1; rw [intsN_length, ← HK.out] at this; exact this); have hy3 : y3 ≤ 9223372036854775807 := hI3.2.1; obtain ⟨g, cap, w4, hrun, hg, R4, b4⟩ := copyT w3 ad cd m done HM.out hD (by omega) 25; obtain ⟨d0, d1⟩ := R4.cell HDX.out; have hcap : m ≤ cap ∧ cap ≤ 9223372036854775807 := (by obtain ⟨_, _, _, h1, h2, _⟩ := R4; exact ⟨by rw [HM.out]; exact h1, h2⟩); obtain ⟨hcap1, hcap2⟩ := hcap)
        | (at_builtin; refine Lib.wpList_append_run _ rfl _ _ _ _ rfl _ _ rfl rfl _ _ hrun ?_; have R5 := R4.set x true; have B5 : Below w3.heap.size w3 (w4.setCell ⟨g, x, none⟩ (.bool true)) := b4.setCell (p := ⟨g, x, none⟩) hg _; have D5 := D.below B5; clear q0 q1; obtain ⟨q0, q1⟩ := D5.cells)
        | (go_at_call 11; refine (cM _ _ _ _ _ _ D5 R5).mono ?_; rintro e w5 ⟨x5, y5, rfl, hI5, hb5⟩; have B6 := Below.tr B5 hb5; have D6 := D.below B6; have hI6 := hI3.below B6; clear R5 R4 hrun hb5 cM d0 d1 q0 q1))
      have hS0 := set_made Try.prog 3 4 w5
      have b0 : Below w5.heap.size w5 (w5.alloc (.map #[] 0)) := (Below.refl _ _).alloc (Nat.le_refl _) _
      have HI6 : Hid (IsI w5 (some ⟨b3, o3, none⟩) y3 (intsN L)) := hI6
      have HI5 : Hid (IsI w5 x5 y5 (intsN M)) := hI5
      clear hI6 hI5 hI3 hx3
      go_loopw [94] (fun v wr => ∃ j c0 : Nat, j ≤ K ∧ v = .int .i64 j ∧ IsSet Try.prog 3 4 wr w5.heap.size j (memS (L.take j)) c0 ∧ Below w5.heap.size w5 wr) (fun v _ => K - (intOf v).toNat)
      case atStart => exact ⟨0, 0, by omega, rfl, isSet_congr hS0 (fun y _ => by unfold memS intsN; simp), b0⟩
      case round =>
        clear hS0 b0
        obtain ⟨j, c0', hj, rfl, hS, hB⟩ := hrel
        by_cases hlt : j < K
        · have hlt' : (j : Int) < K := by omega
          obtain ⟨y, hy⟩ : ∃ y, L[j]? = some y := ⟨_, List.getElem?_eq_getElem (by rw [← HK.out]; exact hlt)⟩
          obtain ⟨b', o', e', -, hc⟩ := (HI6.out.below hB).2.2 j (y : Int) (by unfold intsN; rw [List.getElem?_map, hy]; rfl)
          obtain ⟨rfl, rfl⟩ : b3 = b' ∧ o3 = o' := by cases e'; exact ⟨rfl, rfl⟩
          have hym : y ≤ 4096 := by have := HLL.out y (List.mem_of_getElem? hy); omega
          have HC : Hid (∀ z, (decide (z = (y : Int)) || memS (L.take j) z) = memS (L.take (j + 1)) z) := fun z => by
            unfold memS intsN
            rw [List.take_add_one, hy]
            simp [Bool.or_comm]
          clear hy e'
          go_wp2_with (at_mapUpdate; refine wpList_set_store _ theIB16 rfl _ _ _ rfl rfl hS (by unfold maxLen; omega) _ rfl rfl (wfI_nat hym) ?_; intro w7 hS7 hg7; have B7 := hB.grown hg7 hB.size (fun j hj => by cases hj; exact Nat.le_refl _); try go_frame)
          go_roundw
          case rel => exact ⟨j + 1, _, by omega, by go_num, isSet_congr hS7 (fun z _ => HC.out z), B7⟩
          case measure => simp [intOf]; omega
        · obtain rfl : K = j := by omega
          have hx0 : ¬ (K : Int) < K := by omega
          rw [List.take_of_length_le (by rw [← HK.out]; exact Nat.le_refl _)] at hS
          go_wp2
          go_loopw [16, 103] (fun u v wr => ∃ j hit : Nat, j ≤ Q ∧ v = .int .i64 j ∧ u = .int .i64 hit ∧ Hid (hit = hitN L M j) ∧ hit ≤ j ∧ IsSet Try.prog 3 4 wr w5.heap.size K (memS L) c0' ∧ Below w5.heap.size w5 wr) (fun _ v _ => Q - (intOf v).toNat)
          case atStart => exact ⟨0, 0, by omega, rfl, rfl, rfl, Nat.le_refl _, hS, hB⟩
          case round =>
            clear hS hB hj hlt hx0
            obtain ⟨j, hit, hj, rfl, rfl, HH, hhj, hS, hB⟩ := hrel
            have Dr := D6.below hB
            obtain ⟨p0, p1⟩ := Dr.cells
            by_cases hlt : j < Q
            · have hlt' : (j : Int) < Q := by omega
              obtain ⟨y, hy⟩ : ∃ y, M[j]? = some y := ⟨_, List.getElem?_eq_getElem (by rw [← HQ.out]; exact hlt)⟩
              obtain ⟨b', o', rfl, -, hc⟩ := (HI5.out.below hB).2.2 j (y : Int) (by unfold intsN; rw [List.getElem?_map, hy]; rfl)
              have hym := HML.out y (List.mem_of_getElem? hy)
              have hym' : (y : Int) < m := by omega
              have hlk := hS.lookup theIB16 (wfI_nat (y := y) (by omega))
              rw [memS_nat] at hlk
              by_cases hyL : y ∈ L
              · rw [decide_eq_true hyL] at hlk
                have HH2 : Hid (hit + 1 = hitN L M (j + 1)) := by show _ = _; rw [hitN_yes hy hyL, HH.out]
                clear hy HH hyL
                go_wp2
                go_roundw
                case rel => exact ⟨j + 1, hit + 1, by omega, by go_num, by go_num, HH2, by omega, hS, hB⟩
                case measure => simp [intOf]; omega
              · rw [decide_eq_false hyL] at hlk
                have HH2 : Hid (hit = hitN L M (j + 1)) := by show _ = _; rw [hitN_no hy hyL]; exact HH.out
                have HNX : Hid ((x : Int) ∈ needsAt (plainT fs) y) := HNEW.out y (List.mem_of_getElem? hy) hyL
                obtain ⟨t, ht⟩ : ∃ t, fs[y]? = some t := ⟨_, List.getElem?_eq_getElem (by rw [← HN.out]; exact hym)⟩
                obtain ⟨bt, ot, rfl, -⟩ := Dr.hT.some (by rw [← HN.out]; omega)
                obtain ⟨z0, -, -, -, hIn⟩ := Dr.hT.at ht
                have HNX2 : Hid ((x : Int) ∈ t.ns) := by show _ ∈ _; rw [← needsAt_get ht]; exact HNX.out
                have HIn : Hid (IsI wr t.a t.c t.ns) := hIn
                have hkm : t.ns.length ≤ 9223372036854775807 := Nat.le_trans hIn.1 hIn.2.1
                clear hy HH hyL hIn ht HNX
                obtain ⟨k, hk⟩ : ∃ k, k = t.ns.length := ⟨_, rfl⟩
                rw [← hk] at z0 hkm
                have HKn : Hid (k = t.ns.length) := hk
                clear hk
                generalize t.a = ta at *
                generalize t.c = tc at *
                generalize t.ns = ns at *
                go_wp2
                go_loopw [19, 128] (fun u v wq => ∃ (i2 : Nat) (bb : Bool), i2 ≤ k ∧ v = .int .i64 i2 ∧ u = .bool bb ∧ Hid (bb = decide ((x : Int) ∈ ns.take i2)) ∧ wq = wr) (fun _ v _ => k - (intOf v).toNat)
                case atStart => exact ⟨0, false, by omega, rfl, rfl, by show _ = _; simp, rfl⟩
                case round =>
                  obtain ⟨i2, bb, hi2, rfl, rfl, HBB, rfl⟩ := hrel
                  by_cases hil : i2 < k
                  · have hil' : (i2 : Int) < k := by omega
                    obtain ⟨z, hz⟩ : ∃ z, ns[i2]? = some z := ⟨_, List.getElem?_eq_getElem (by rw [← HKn.out]; exact hil)⟩
                    obtain ⟨b2, o2, rfl, -, hc2⟩ := HIn.out.2.2 i2 z hz
                    have HB2 : Hid ((bb || decide (z = (x : Int))) = decide ((x : Int) ∈ ns.take (i2 + 1))) := by
                      show _ = _
                      rw [List.take_add_one, hz, HBB.out]
                      simp [eq_comm]
                    clear hz HBB
                    cases bb with
                    | true =>
                      go_wp2
                      go_roundw
                      case rel => exact ⟨i2 + 1, true, by omega, by go_num, rfl, HB2, trivial⟩
                      case measure => simp [intOf]; omega
                    | false =>
                      by_cases hzx : z = (x : Int)
                      · have HB3 : Hid (true = decide ((x : Int) ∈ ns.take (i2 + 1))) := by
                          show _ = _
                          rw [← HB2.out, decide_eq_true hzx]; rfl
                        have hzx' : (z == (x : Int)) = true := by simpa using hzx
                        clear HB2
                        subst hzx
                        go_wp2
                        go_roundw
                        case rel => exact ⟨i2 + 1, true, by omega, by go_num, rfl, HB3, trivial⟩
                        case measure => simp [intOf]; omega
                      · have HB3 : Hid (false = decide ((x : Int) ∈ ns.take (i2 + 1))) := by
                          show _ = _
                          rw [← HB2.out, decide_eq_false hzx]; rfl
                        have hzx' : (z == (x : Int)) = false := by simpa using hzx
                        clear HB2
                        go_wp2
                        go_roundw
                        case rel => exact ⟨i2 + 1, false, by omega, by go_num, rfl, HB3, trivial⟩
                        case measure => simp [intOf]; omega
                  · obtain rfl : k = i2 := by omega
                    have hx0 : ¬ (k : Int) < k := by omega
                    obtain rfl : bb = true := by
                      rw [HBB.out, List.take_of_length_le (by rw [← HKn.out]; exact Nat.le_refl _)]
                      exact decide_eq_true HNX2.out
                    clear HBB
                    go_wp2
                    go_roundw
                    case rel => exact ⟨j + 1, hit, by omega, by go_num, rfl, HH2, by omega, hS, hB⟩
                    case measure => simp [intOf]; omega
            · obtain rfl : Q = j := by omega
              have hx0 : ¬ (Q : Int) < Q := by omega
              have hhK : hit + 1 = K := by rw [HH.out]; exact HEND.out
              have he : ((hit : Int) == (K : Int) - 1) = true := by simp; omega
              have he2 : (hit : Int) = (K : Int) - 1 := by omega
              have hBw := Below.tr D6.hB hB
              clear HH hhK
              go_wp2_with (go_at_call 13; refine (alive16_any _).mono ?_; rintro e w8 ⟨rfl, hb8⟩; have hB8 := Below.tr hBw hb8)
              go_ret
              exact ⟨rfl, hB8⟩
  · have h0' : (E != 0) = true := by simpa using h0
    have cF : ∀ V a1 c1 n1, DagIn w V s a1 c1 n1 fs → IsB V ad cd done → Calls Try.prog 11 #[.agg #[.string s, .slice a1 n1 c1], .slice ad m cd] V fun e w' => ∃ x y, e = .returned (.tuple #[.slice x 0 y, .int .i64 E]) ∧ Below V.heap.size V w' := fun V a1 c1 n1 D hB => (D.free HM.out hB).mono (by
      rintro e w' ⟨x, y, k, rfl, hk, hI, -, hb⟩
      have e : freeR s (plainT fs) done = [] := by unfold freeR; rw [if_neg (by rw [← HE.out]; exact h0)]
      rw [e] at hk
      exact ⟨x, y, by rw [hk, ← HE.out]; rfl, hb⟩)
    go_enter Try.func7, Try.ntmps7
    go_wp2_with (first
      | (go_at_call 8; refine (fewStored_any s a c n ts w H0.out hT).mono ?_; rintro e w1 ⟨a1, c1, n1, a0, c0, n0, rfl, k0, k1, f0, f1, D, hn20⟩; rw [← HF.out] at D; obtain rfl : N = n1 := HN.out.trans D.hn.symm; have hD := hD0.below D.hB; have m0 := cell_set_other (w := w1) (h := w.heap.size) (k := w.heap.size) (i := 1) (j := 0) (u := .string s) (.inr (by decide)) k1; obtain ⟨q0, q1⟩ := D.cells)
      | (go_at_call 11; refine (cF _ _ _ _ D hD).mono ?_; rintro e w3 ⟨x3, y3, rfl, hb⟩; replace D := D.below hb; clear q0 q1 hb; obtain ⟨q0, q1⟩ := D.cells)
      | (go_at_call 13; refine (alive16_any _).mono ?_; rintro e w6 ⟨rfl, hb⟩; replace D := D.below hb; clear q0 q1; obtain ⟨q0, q1⟩ := D.cells)
      )
    go_ret
    exact ⟨rfl, D.hB⟩

end Go.Proofs.Ytmjhapkhfelbpaa

/-
  The walk of the law DagOrder: it returns true at all arguments.
-/
import Derived.Test.YtmjhapkhfelbpaaDagIn
namespace Go.Proofs.Ytmjhapkhfelbpaa
open Go.RowKit Plain
set_option linter.unusedVariables false

/-- The order, as it is gone through. -/
theorem order_at {ts : List TaskP} (ha : Acyclic ts) (hi : Inside ts) {j : Nat} (hj : j < ts.length) : ∃ x l, (orderL ts)[j]? = some x ∧ x < ts.length ∧ onAt (ordD ts j).1 x = false ∧ (∀ y ∈ needsAt ts x, onAt (ordD ts j).1 y.toNat = true) ∧ freeL ts (ordD ts j).1 = x :: l ∧ (ordD ts (j + 1)).1 = (ordD ts j).1.set x true := by
  obtain ⟨x, l, h1, h2, h3⟩ := ordD_prefix ha hi j hj
  have hm := mem_freeL.1 (show x ∈ freeL ts (ordD ts j).1 by rw [h1]; simp)
  obtain ⟨h4, h5⟩ := (freeB_iff _ _ _).1 hm.2
  refine ⟨x, l, ?_, hm.1, h4, h5, h1, h3⟩
  have grow : ∀ k m, j + 1 ≤ k → k ≤ ts.length → m = k → (ordD ts k).2[j]? = some x := by
    intro k
    induction k with
    | zero => intro m h; omega
    | succ k ih =>
      intro m hk hkl _
      by_cases he : j = k
      · subst he
        rw [h2, List.getElem?_append_right (by rw [ordD_len ha hi j (by omega)]; exact Nat.le_refl _), ordD_len ha hi j (by omega), Nat.sub_self]
        rfl
      · obtain ⟨y, l', g1, g2, g3⟩ := ordD_prefix ha hi k (by omega)
        rw [g2, List.getElem?_append_left (by rw [ordD_len ha hi k (by omega)]; omega)]
        exact ih k (by omega) (by omega) rfl
  exact grow ts.length _ (by omega) (Nat.le_refl _) rfl

set_option maxRecDepth 20000 in
set_option maxHeartbeats 4000000 in
theorem dagOrder_walk (s : ByteArray) (a : Option Addr) (c : Nat) (ts : List TaskV) (w : World) (hs : s.size ≤ maxLen) (hT : IsT w a c ts) :
    Calls Try.prog 6 #[.agg #[.string s, .slice a ts.length c]] w fun e w' => e = .returned (.bool true) ∧ Below w.heap.size w w' := by
  obtain ⟨n, hn⟩ : ∃ n, n = ts.length := ⟨_, rfl⟩
  have H0 : Hid (n = ts.length) := hn
  rw [← hn]
  clear hn
  obtain ⟨fs, hfs⟩ : ∃ fs, fs = fewT ts := ⟨_, rfl⟩
  obtain ⟨r, hr⟩ : ∃ r, r = rightG s (plainT fs) := ⟨_, rfl⟩
  obtain ⟨N, hN⟩ : ∃ N, N = fs.length := ⟨_, rfl⟩
  have HF : Hid (fs = fewT ts) := hfs
  have HR : Hid (r = rightG s (plainT fs)) := hr
  have HN : Hid (N = fs.length) := hN
  have HP : Hid ((plainT fs).length = N) := by show _ = _; rw [plainT_length, hN]
  have hN20 : N ≤ 20 := by rw [hN, hfs]; exact fewT_length ts
  clear hr hfs hN
  by_cases h0 : r = 0
  · subst h0
    have ok := rightG_ok HR.out.symm
    have HA : Hid (Acyclic (plainT fs)) := ok.2.2.2.2.2.1
    have HI : Hid (Inside (plainT fs)) := ok.2.2.2.2.2.2
    have HO : Hid ((orderL (plainT fs)).length = N) := ok.2.2.2.2.1.trans HP.out
    have cO : ∀ V a1 c1 n1, DagIn w V s a1 c1 n1 fs → Calls Try.prog 10 #[.agg #[.string s, .slice a1 n1 c1]] V fun e w' => ∃ x y, e = .returned (.tuple #[.slice x N y, .int .i64 0]) ∧ IsI w' x y (intsN (orderL (plainT fs))) ∧ Below V.heap.size V w' := fun V a1 c1 n1 D => D.order.mono (by
      rintro e w' ⟨x, y, k, rfl, hk, hI, hb⟩
      have e : ordR s (plainT fs) = orderL (plainT fs) := if_pos HR.out.symm
      rw [e] at hk hI
      exact ⟨x, y, by rw [hk, HO.out, ← HR.out], hI, hb⟩)
    have cF : ∀ V a1 c1 n1 g done, DagIn w V s a1 c1 n1 fs → RowT V g N done → done.length = N → Calls Try.prog 11 #[.agg #[.string s, .slice a1 n1 c1], .slice (some ⟨g, 0, none⟩) N N] V fun e w' => ∃ x y k, e = .returned (.tuple #[.slice x k y, .int .i64 0]) ∧ Hid (k = (freeL (plainT fs) done).length) ∧ IsI w' x y (intsN (freeL (plainT fs) done)) ∧ Below V.heap.size V w' := fun V a1 c1 n1 g done D R hl => (D.free hl.symm R.isB).mono (by
      rintro e w' ⟨x, y, k, rfl, hk, hI, -, hb⟩
      have e1 : freeE s (plainT fs) done = 0 := by unfold freeE; rw [if_pos HR.out.symm, if_pos (by rw [HP.out, hl])]
      have e : freeR s (plainT fs) done = freeL (plainT fs) done := if_pos e1
      rw [e] at hk hI
      exact ⟨x, y, k, by rw [e1], hk, hI, hb⟩)
    obtain ⟨Z, hmk, hZ⟩ : ∃ Z : Array Value, (∀ W : World, (Instr.makeSlice 25 (.int .i64 N) (.int .i64 N)).run Try.prog W = .ok (.slice (some ⟨W.heap.size, 0, none⟩) N N) (W.alloc (.cells Z 4))) ∧ Z = (List.replicate N (Value.bool false)).toArray :=
      ⟨madeCells #[.bool false] N, fun W => run_make_row' (P := Try.prog) 25 4 (.bool false) 1 Try.underlying25 Try.info4 rfl .i64 .i64 N (by omega) (by omega) W, made_one _ N⟩
    have HR0 : Hid (∀ V : World, RowT (V.alloc (.cells Z 4)) V.heap.size N (List.replicate N false)) := fun V => RowT.new V N hZ rfl (by unfold maxLen; omega)
    have e0 : Hid ((ordD (plainT fs) 0).1 = List.replicate N false) := by show List.replicate _ false = _; rw [HP.out]
    have hNm : N ≤ 9223372036854775807 := by omega
    clear ok hZ
    go_enter Try.func6, Try.ntmps6
    go_wp2_with (first
      | (go_at_call 8; refine (fewStored_any s a c n ts w H0.out hT).mono ?_; rintro e w1 ⟨a1, c1, n1, a0, c0, n0, rfl, k0, k1, f0, f1, D, hn20⟩; rw [← HF.out] at D; obtain rfl : N = n1 := HN.out.trans D.hn.symm; have m0 := cell_set_other (w := w1) (h := w.heap.size) (k := w.heap.size) (i := 1) (j := 0) (u := .string s) (.inr (by decide)) k1; obtain ⟨q0, q1⟩ := D.cells)
      | (go_at_call 10; refine (cO _ _ _ _ D).mono ?_; rintro e w3 ⟨x3, y3, rfl, hI3, hb⟩; replace D := D.below hb; clear q0 q1 hb; obtain ⟨q0, q1⟩ := D.cells))
    have R0 := HR0.out w3
    have bA : Below w3.heap.size w3 (w3.alloc (.cells Z 4)) := (Below.refl _ _).alloc (Nat.le_refl _) _
    have hlc : N ≤ y3 := by have := hI3.1; rw [intsN_length, HO.out] at this; exact this
    have hy3 : y3 ≤ 9223372036854775807 := hI3.2.1
    go_loopw [42] (fun v wr => ∃ j : Nat, j ≤ N ∧ v = .int .i64 j ∧ RowT wr w3.heap.size N (ordD (plainT fs) j).1 ∧ Below w3.heap.size w3 wr) (fun v _ => N - (intOf v).toNat)
    case atStart => exact ⟨0, by omega, rfl, by rw [e0.out]; exact R0, bA⟩
    case round =>
      obtain ⟨j, hj, rfl, R, hB⟩ := hrel
      have Dr := D.below hB
      obtain ⟨p0, p1⟩ := Dr.cells
      have hol : (ordD (plainT fs) j).1.length = N := by rw [(ordD_at (plainT fs) j).len, HP.out]
      clear R0 bA q0 q1 k0 k1 f0 f1 m0
      by_cases hlt : j < N
      · have hlt' : (j : Int) < N := by omega
        obtain ⟨x, l, hx, hxN, hnx, hneed, hL, hst⟩ := order_at HA.out HI.out (j := j) (by rw [HP.out]; exact hlt)
        rw [HP.out] at hxN
        have hxN' : (x : Int) < N := by omega
        obtain ⟨b, o, rfl, -, hc⟩ := hI3.2.2 j (x : Int) (by unfold intsN; rw [List.getElem?_map, hx]; rfl)
        have hc' := cell_below hB hc
        obtain ⟨d0, d1⟩ := R.there hol hxN
        rw [hnx] at d0
        obtain ⟨t, ht⟩ : ∃ t, fs[x]? = some t := ⟨_, List.getElem?_eq_getElem (by rw [← HN.out]; exact hxN)⟩
        obtain ⟨bt, ot, rfl, -⟩ := Dr.hT.some (by rw [← HN.out]; omega)
        obtain ⟨z0, -, -, -, hIn⟩ := Dr.hT.at ht
        rw [needsAt_get ht] at hneed
        have HX : Hid (∀ y ∈ t.ns, 0 ≤ y ∧ y < N) := fun y hy => by
          have := HI.out x y (by rw [needsAt_get ht]; exact hy)
          have := HP.out
          omega
        have HD : Hid (∀ y ∈ t.ns, wr.cell? ⟨w3.heap.size, y.toNat, none⟩ = some (.bool true)) := fun y hy => by
          have := (R.there hol (x := y.toNat) (by have := HX.out y hy; omega)).1
          rw [hneed y hy] at this
          exact this
        have cG := cF wr _ c1 N w3.heap.size _ Dr R hol
        rw [hL] at cG
        have cG2 : Calls Try.prog 11 #[.agg #[.string s, .slice (some ⟨bt, ot, none⟩) N c1], .slice (some ⟨w3.heap.size, 0, none⟩) N N] wr fun e w' => ∃ bf ff y k, e = .returned (.tuple #[.slice (some ⟨bf, ff, none⟩) k y, .int .i64 0]) ∧ (0 : Int) < k ∧ ¬ k = 0 ∧ k ≤ y ∧ y ≤ 9223372036854775807 ∧ w'.cell? ⟨bf, ff, none⟩ = some (.int .i64 x) ∧ Below wr.heap.size wr w' := cG.mono (by
          rintro e w' ⟨x', y', k, rfl, hk, hI', hb⟩
          obtain ⟨bf, ff, rfl, -, hf⟩ := hI'.2.2 0 (x : Int) rfl
          have h1 := hI'.1
          rw [intsN_length, ← hk.out] at h1
          have h2 : 0 < k := by rw [hk.out]; simp
          exact ⟨bf, ff, y', k, rfl, by omega, by omega, h1, hI'.2.1, by simpa using hf, hb⟩)
        have RS : Hid (∀ w' : World, Below wr.heap.size wr w' → w'.cell? ⟨w3.heap.size, x, none⟩ = some (.bool false) ∧ w'.frozen? ⟨w3.heap.size, x, none⟩ = false ∧ RowT (w'.setCell ⟨w3.heap.size, x, none⟩ (.bool true)) w3.heap.size N (ordD (plainT fs) (j + 1)).1 ∧ Below w3.heap.size w3 (w'.setCell ⟨w3.heap.size, x, none⟩ (.bool true))) := fun w' hb => by
          have R' := R.below hb
          obtain ⟨e0, e1⟩ := R'.there hol hxN
          rw [hnx] at e0
          refine ⟨e0, e1, ?_, (Below.tr hB hb).setCell (p := ⟨w3.heap.size, x, none⟩) (Nat.le_refl _) _⟩
          rw [hst]
          exact R'.set x true
        have HIn : Hid (IsI wr t.a t.c t.ns) := hIn
        have hkm : t.ns.length ≤ 9223372036854775807 := Nat.le_trans hIn.1 hIn.2.1
        clear R cG hL hst hneed hx hIn ht hol hc
        obtain ⟨k, hk⟩ : ∃ k, k = t.ns.length := ⟨_, rfl⟩
        rw [← hk] at z0 hkm
        have HK : Hid (k = t.ns.length) := hk
        clear hk
        generalize t.a = ta at *
        generalize t.c = tc at *
        generalize t.ns = ns at *
        go_wp2
        go_loopw [67] (fun v wq => ∃ i : Nat, i ≤ k ∧ v = .int .i64 i ∧ wq = wr) (fun v _ => k - (intOf v).toNat)
        case atStart => exact ⟨0, by omega, rfl, rfl⟩
        case round =>
          obtain ⟨i, hi, rfl, rfl⟩ := hrel
          by_cases hil : i < k
          · have hil' : (i : Int) < k := by omega
            obtain ⟨y, hy⟩ : ∃ y, ns[i]? = some y := ⟨_, List.getElem?_eq_getElem (by rw [← HK.out]; exact hil)⟩
            obtain ⟨b2, o2, rfl, -, hc2⟩ := HIn.out.2.2 i y hy
            obtain ⟨h3, h4⟩ := HX.out y (List.mem_of_getElem? hy)
            have hd := HD.out y (List.mem_of_getElem? hy)
            obtain ⟨y0, rfl⟩ : ∃ y0 : Nat, y = y0 := ⟨y.toNat, by omega⟩
            rw [Int.toNat_natCast] at hd
            clear hy h3
            go_wp2
            go_roundw
            case rel => exact ⟨i + 1, by omega, by go_num, trivial⟩
            case measure => simp [intOf]; omega
          · obtain rfl : i = k := by omega
            have hx : ¬ (i : Int) < i := by omega
            go_wp2_with (go_at_call 11; refine cG2.mono ?_; rintro e w5 ⟨bf, ff, y5, k5, rfl, h5, h5', h6, h7, hf5, hb5⟩; obtain ⟨e1, e2, R5', hB5⟩ := RS.out w5 hb5; have R5 : Hid _ := R5'; clear R5' RS cG2)
            go_roundw
            case rel => exact ⟨j + 1, by omega, by go_num, R5.out, hB5⟩
            case measure => simp [intOf]; omega
      · obtain rfl : j = N := by omega
        have hx : ¬ (j : Int) < j := by omega
        have hall : freeL (plainT fs) (ordD (plainT fs) j).1 = [] := by
          refine free_all (all_done (ordD_at (plainT fs) j).len ?_)
          rw [(ordD_at (plainT fs) j).many, ordD_len HA.out HI.out j (by rw [HP.out]; exact Nat.le_refl _), HP.out]
        have cG := cF wr _ c1 j w3.heap.size _ Dr R hol
        rw [hall] at cG
        have cG2 : Calls Try.prog 11 #[.agg #[.string s, .slice a1 j c1], .slice (some ⟨w3.heap.size, 0, none⟩) j j] wr fun e w' => ∃ x y, e = .returned (.tuple #[.slice x 0 y, .int .i64 0]) ∧ Below wr.heap.size wr w' := cG.mono (by
          rintro e w' ⟨x', y', k, rfl, hk, hI', hb⟩
          exact ⟨x', y', by rw [hk.out]; rfl, hb⟩)
        have hBw := Below.tr D.hB hB
        clear cG hall R hol
        go_wp2_with (first
          | (go_at_call 11; refine cG2.mono ?_; rintro e w5 ⟨x5, y5, rfl, hb5⟩; have hB5 := Below.tr hBw hb5)
          | (go_at_call 13; refine (alive16_any _).mono ?_; rintro e w6 ⟨rfl, hb⟩; have hB6 := Below.tr hB5 hb))
        go_ret
        exact ⟨rfl, hB6⟩
  · have h0' : (r != 0) = true := by simpa using h0
    have cO : ∀ V a1 c1 n1, DagIn w V s a1 c1 n1 fs → Calls Try.prog 10 #[.agg #[.string s, .slice a1 n1 c1]] V fun e w' => ∃ x y k, e = .returned (.tuple #[.slice x k y, .int .i64 r]) ∧ Hid (k = 0) ∧ IsI w' x y [] ∧ Below V.heap.size V w' := fun V a1 c1 n1 D => D.order.mono (by
      rintro e w' ⟨x, y, k, rfl, hk, hI, hb⟩
      have e : ordR s (plainT fs) = [] := if_neg (by rw [← HR.out]; exact h0)
      rw [e] at hk hI
      exact ⟨x, y, k, by rw [HR.out], hk, hI, hb⟩)
    have cR : ∀ V a1 c1 n1, DagIn w V s a1 c1 n1 fs → Calls Try.prog 12 #[.agg #[.string s, .slice a1 n1 c1]] V fun e w' => e = .returned (.int .i64 r) ∧ Below V.heap.size V w' := fun V a1 c1 n1 D => by rw [HR.out]; exact D.right
    go_enter Try.func6, Try.ntmps6
    go_wp2_with (first
      | (go_at_call 8; refine (fewStored_any s a c n ts w H0.out hT).mono ?_; rintro e w1 ⟨a1, c1, n1, a0, c0, n0, rfl, k0, k1, f0, f1, D, hn20⟩; rw [← HF.out] at D; obtain rfl : N = n1 := HN.out.trans D.hn.symm; have m0 := cell_set_other (w := w1) (h := w.heap.size) (k := w.heap.size) (i := 1) (j := 0) (u := .string s) (.inr (by decide)) k1; obtain ⟨q0, q1⟩ := D.cells)
      | (go_at_call 10; refine (cO _ _ _ _ D).mono ?_; rintro e w3 ⟨x3, y3, k3, rfl, hk3, hI3, hb⟩; replace D := D.below hb; clear q0 q1 hb; obtain ⟨q0, q1⟩ := D.cells)
      | (go_at_call 13; refine (alive16_any _).mono ?_; rintro e w6 ⟨rfl, hb⟩; replace D := D.below hb; clear q0 q1; obtain ⟨q0, q1⟩ := D.cells)
      | (go_at_call 12; refine (cR _ _ _ _ D).mono ?_; rintro e w5 ⟨rfl, hb⟩; replace D := D.below hb))
    go_ret
    exact ⟨rfl, D.hB⟩

end Go.Proofs.Ytmjhapkhfelbpaa

/-
  The document's own reach and Right.
-/
import Derived.Test.YtmjhapkhfelbpaaDagRefFree
import Derived.Test.YtmjhapkhfelbpaaDagRefShape
namespace Go.Proofs.Ytmjhapkhfelbpaa
open Go.RowKit Plain
set_option linter.unusedVariables false

theorem setAll_take {o : List Bool} {xs : List Int} {j : Nat} {x : Int} (h : xs[j]? = some x) : setAll o (xs.take (j + 1)) = (setAll o (xs.take j)).set x.toNat true := by
  rw [List.take_add_one, h, setAll_append]
  rfl

/-- A place set within a row of the call's own. -/
theorem RowT.there {w : World} {g n : Nat} {l : List Bool} (R : RowT w g n l) (hl : l.length = n) {x : Nat} (hx : x < n) : w.cell? ⟨g, x, none⟩ = some (.bool (onAt l x)) ∧ w.frozen? ⟨g, x, none⟩ = false := by
  have hv : l[x]? = some (onAt l x) := by unfold onAt; rw [List.getElem?_eq_getElem (by omega)]; rfl
  exact R.cell hv

set_option maxRecDepth 20000 in
set_option maxHeartbeats 4000000 in
/-- REACH. -/
theorem reach_any (s : ByteArray) (a : Option Addr) (c n : Nat) (ts : List TaskV) (from_ : Nat) (w : World) (hn : n = ts.length) (hT : IsT w a c ts) (hin : Inside (plainT ts)) (h20 : n ≤ 20) (hf : from_ < n) :
    Calls Try.prog 23 #[.agg #[.string s, .slice a n c], .int .i64 from_] w fun e w' => ∃ g, e = .returned (.slice (some ⟨g, 0, none⟩) n n) ∧ RowT w' g n (reachL (plainT ts) from_) ∧ Below w.heap.size w w' := by
  have hPn : (plainT ts).length = n := by rw [plainT_length]; exact hn.symm
  obtain ⟨Z, hmk, hZ⟩ : ∃ Z : Array Value, (∀ W : World, (Instr.makeSlice 25 (.int .i64 n) (.int .i64 n)).run Try.prog W = .ok (.slice (some ⟨W.heap.size, 0, none⟩) n n) (W.alloc (.cells Z 4))) ∧ Z = (List.replicate n (Value.bool false)).toArray :=
    ⟨madeCells #[.bool false] n, fun W => run_make_row' (P := Try.prog) 25 4 (.bool false) 1 Try.underlying25 Try.info4 rfl .i64 .i64 n (by omega) (by omega) W, made_one _ n⟩
  obtain ⟨W, hW⟩ : ∃ W, W = (w.alloc (.cells #[.string s, .slice a n c] 24)).alloc (.cells Z 4) := ⟨_, rfl⟩
  have zW : W.heap.size = w.heap.size + 1 + 1 := by rw [hW]; simp
  have hBa : Below w.heap.size w (w.alloc (.cells #[.string s, .slice a n c] 24)) := (Below.refl _ _).alloc (Nat.le_refl _) _
  have hB0 : Below w.heap.size w W := by rw [hW]; exact hBa.alloc (by simp) _
  have bX : BoxL W w.heap.size [.string s, .slice a n c] := by rw [hW]; exact (boxL_new _ _ _ rfl).alloc _
  have R0 : RowT W (w.heap.size + 1) n (List.replicate n false) := by rw [hW]; exact RowT.new _ n hZ (by simp) (by unfold maxLen; omega)
  have q1 := bX.1 1 _ rfl
  obtain ⟨t, ht⟩ : ∃ t, ts[from_]? = some t := ⟨_, List.getElem?_eq_getElem (by omega)⟩
  obtain ⟨b, o, rfl, -⟩ := hT.some (by omega)
  obtain ⟨y0, -, -, -, hI⟩ := (hT.below hB0).at ht
  have HT : Hid (IsT w (some ⟨b, o, none⟩) c ts) := hT
  have HN : Hid (n = ts.length) := hn
  have HP : Hid ((plainT ts).length = n) := hPn
  have HI : Hid (Inside (plainT ts)) := hin
  have hnm : n ≤ 9223372036854775807 := by omega
  have hf' : (from_ : Int) < n := by omega
  have HX : Hid (∀ x ∈ t.ns, 0 ≤ x ∧ x < n) := fun x hx => by
    have := hin from_ x (by rw [needsAt_get ht]; exact hx)
    omega
  have hkm : t.ns.length ≤ 9223372036854775807 := Nat.le_trans hI.1 hI.2.1
  have HA : Hid (needsAt (plainT ts) from_ = t.ns) := needsAt_get ht
  have HI0 : Hid (IsI w t.a t.c t.ns) := hT.2.2.1 t (List.mem_of_getElem? ht)
  obtain ⟨k, hk⟩ : ∃ k, k = t.ns.length := ⟨_, rfl⟩
  rw [← hk] at y0 hkm
  have HK : Hid (k = t.ns.length) := hk
  clear hn hT hin bX hBa hZ hPn ht hI hk
  generalize t.a = ta at *
  generalize t.c = tc at *
  generalize t.ns = ns at *
  rw [hW] at q1 y0
  go_enter Try.func23, Try.ntmps23
  go_wp2
  rw [← hW]
  rw [← hW] at q1 y0
  clear hW hmk
  go_loopw [24] (fun v wr => ∃ j : Nat, j ≤ k ∧ v = .int .i64 j ∧ RowT wr (w.heap.size + 1) n (setAll (List.replicate n false) (ns.take j)) ∧ wr.cell? ⟨w.heap.size, 1, none⟩ = some (.slice (some ⟨b, o, none⟩) n c) ∧ w.heap.size + 1 + 1 ≤ wr.heap.size ∧ Below w.heap.size w wr) (fun v _ => k - (intOf v).toNat)
  case atStart => exact ⟨0, by omega, rfl, R0, q1, by omega, hB0⟩
  case round =>
    clear R0 q1 y0
    obtain ⟨j, hj, rfl, R, q1, hz, hB⟩ := hrel
    by_cases hlt : j < k
    · have hlt' : (j : Int) < k := by omega
      obtain ⟨x, hx⟩ : ∃ x, ns[j]? = some x := ⟨_, List.getElem?_eq_getElem (by rw [← HK.out]; exact hlt)⟩
      obtain ⟨b2, o2, rfl, -, hc⟩ := (HI0.out.below hB).2.2 j x hx
      obtain ⟨h0, h1⟩ := HX.out x (List.mem_of_getElem? hx)
      obtain ⟨y, rfl⟩ : ∃ y : Nat, x = y := ⟨x.toNat, by omega⟩
      obtain ⟨d0, d1⟩ := R.there (by rw [setAll_length]; simp) (x := y) (by omega)
      have R2 : Hid (RowT (wr.setCell ⟨w.heap.size + 1, y, none⟩ (.bool true)) (w.heap.size + 1) n (setAll (List.replicate n false) (ns.take (j + 1)))) := by
        show RowT _ _ _ _
        rw [setAll_take hx, Int.toNat_natCast]
        exact R.set y true
      have q1' := cell_set_other (k := w.heap.size + 1) (j := y) (u := .bool true) (.inl (by omega)) q1
      have hB2 : Below w.heap.size w (wr.setCell ⟨w.heap.size + 1, y, none⟩ (.bool true)) := hB.setCell (p := ⟨w.heap.size + 1, y, none⟩) (Nat.le_succ _) _
      generalize onAt (setAll (List.replicate n false) (ns.take j)) y = yv at d0
      clear R hx h0
      go_wp2
      go_roundw
      case rel => exact ⟨j + 1, by omega, by go_num, R2.out, q1', by simpa using hz, hB2⟩
      case measure => simp [intOf]; omega
    · obtain rfl : j = k := by omega
      have hx : ¬ (j : Int) < j := by omega
      obtain ⟨O, hO⟩ : ∃ O, O = setAll (List.replicate n false) ns := ⟨_, rfl⟩
      rw [List.take_of_length_le (by rw [← HK.out]; exact Nat.le_refl _), ← hO] at R
      have HO : Hid (reachL (plainT ts) from_ = roundsR (plainT ts) n O) := by show _ = _; unfold reachL; rw [HP.out, HA.out, hO]
      have hOl : O.length = n := by rw [hO, setAll_length]; simp
      clear hO HX HA HI0
      go_wp2
      go_loopw [8] (fun v wr => ∃ r : Nat, r ≤ n ∧ v = .int .i64 r ∧ RowT wr (w.heap.size + 1) n (roundsR (plainT ts) r O) ∧ wr.cell? ⟨w.heap.size, 1, none⟩ = some (.slice (some ⟨b, o, none⟩) n c) ∧ w.heap.size + 1 + 1 ≤ wr.heap.size ∧ Below w.heap.size w wr) (fun v _ => n - (intOf v).toNat)
      case atStart => exact ⟨0, by omega, rfl, R, q1, hz, hB⟩
      case round =>
        clear R q1 hz hB hx hlt hj hkm HK
        obtain ⟨r, hr, rfl, R, q1, hz, hB⟩ := hrel
        by_cases hrn : r < n
        · have hrn' : (r : Int) < n := by omega
          obtain ⟨P, hP⟩ : ∃ P, P = roundsR (plainT ts) r O := ⟨_, rfl⟩
          rw [← hP] at R
          have HR : Hid (roundsR (plainT ts) (r + 1) O = passN (plainT ts) n P) := by show _ = _; rw [hP]; show passR _ _ = _; unfold passR; rw [HP.out]
          have hPl : P.length = n := by rw [hP, roundsR_length, hOl]
          clear hP
          go_wp2
          go_loopw [42] (fun v wr => ∃ i : Nat, i ≤ n ∧ v = .int .i64 i ∧ RowT wr (w.heap.size + 1) n (passN (plainT ts) i P) ∧ wr.cell? ⟨w.heap.size, 1, none⟩ = some (.slice (some ⟨b, o, none⟩) n c) ∧ w.heap.size + 1 + 1 ≤ wr.heap.size ∧ Below w.heap.size w wr) (fun v _ => n - (intOf v).toNat)
          case atStart => exact ⟨0, by omega, rfl, R, q1, hz, hB⟩
          case round =>
            clear R q1 hz hB
            obtain ⟨i, hi, rfl, R, q1, hz, hB⟩ := hrel
            by_cases hin : i < n
            · have hin' : (i : Int) < n := by omega
              obtain ⟨t, ht⟩ : ∃ t, ts[i]? = some t := ⟨_, List.getElem?_eq_getElem (by rw [← HN.out]; exact hin)⟩
              obtain ⟨z0, z1, z2, z3, hI⟩ := (HT.out.below hB).at ht
              have hAl : (passN (plainT ts) i P).length = n := by rw [passN_length, hPl]
              obtain ⟨d0, d1⟩ := R.there hAl (x := i) hin
              have HX : Hid (∀ x ∈ t.ns, 0 ≤ x ∧ x < n) := fun x hx => by
                have := HI.out i x (by rw [needsAt_get ht]; exact hx)
                have := HP.out
                omega
              have HA : Hid (needsAt (plainT ts) i = t.ns) := needsAt_get ht
              have HI0 : Hid (IsI w t.a t.c t.ns) := HT.out.2.2.1 t (List.mem_of_getElem? ht)
              have hkm : t.ns.length ≤ 9223372036854775807 := Nat.le_trans hI.1 hI.2.1
              obtain ⟨V, hV⟩ : ∃ V, V = wr.alloc (.cells #[.slice t.a t.ns.length t.c, .int .i64 t.tr, .int .i64 t.wt, .int .i64 t.le] 46) := ⟨_, rfl⟩
              have hbV : Below wr.heap.size wr V := by rw [hV]; exact (Below.refl _ _).alloc (Nat.le_refl _) _
              have bx : BoxL V wr.heap.size [.slice t.a t.ns.length t.c, .int .i64 t.tr, .int .i64 t.wt, .int .i64 t.le] := by rw [hV]; exact boxL_new _ _ _ rfl
              have RV := R.below hbV
              have qV := cell_below hbV q1
              have hzV : w.heap.size + 1 + 1 ≤ V.heap.size := Nat.le_trans hz hbV.size
              have hBV := Below.tr hB hbV
              have dV := cell_below hbV d0
              have x0 := bx.1 0 _ rfl
              clear hI R q1 hB d0 d1 bx hbV ht
              obtain ⟨k2, hk2⟩ : ∃ k2, k2 = t.ns.length := ⟨_, rfl⟩
              rw [← hk2] at z0 hkm hV x0
              have HK : Hid (k2 = t.ns.length) := hk2
              clear hk2
              generalize t.a = ta at *
              generalize t.c = tc at *
              generalize t.ns = ns2 at *
              generalize t.tr = t1 at *
              generalize t.wt = t2 at *
              generalize t.le = t3 at *
              cases hv : onAt (passN (plainT ts) i P) i with
              | false =>
                have HE : Hid (passN (plainT ts) (i + 1) P = passN (plainT ts) i P) := by show (if _ then _ else _) = _; rw [if_neg (by rw [hv]; decide)]
                rw [hv] at dV
                rw [hV] at dV
                clear hv
                go_wp2
                rw [← hV]
                go_roundw
                case rel => exact ⟨i + 1, by omega, by go_num, by rw [HE.out]; exact RV, qV, hzV, hBV⟩
                case measure => simp [intOf]; omega
              | true =>
                have HE : Hid (passN (plainT ts) (i + 1) P = setAll (passN (plainT ts) i P) ns2) := by show (if _ then _ else _) = _; rw [if_pos hv, HA.out]
                rw [hv] at dV
                rw [hV] at dV
                clear hv
                go_wp2
                rw [← hV]
                rw [← hV] at dV
                clear hV
                go_loopw [54] (fun v wr => ∃ j : Nat, j ≤ k2 ∧ v = .int .i64 j ∧ RowT wr (w.heap.size + 1) n (setAll (passN (plainT ts) i P) (ns2.take j)) ∧ wr.cell? ⟨w.heap.size, 1, none⟩ = some (.slice (some ⟨b, o, none⟩) n c) ∧ w.heap.size + 1 + 1 ≤ wr.heap.size ∧ Below w.heap.size w wr) (fun v _ => k2 - (intOf v).toNat)
                case atStart => exact ⟨0, by omega, rfl, RV, qV, hzV, hBV⟩
                case round =>
                  clear RV qV hzV hBV dV x0
                  obtain ⟨j, hj, rfl, R, q1, hz2, hB⟩ := hrel
                  by_cases hlt : j < k2
                  · have hlt' : (j : Int) < k2 := by omega
                    obtain ⟨x, hx⟩ : ∃ x, ns2[j]? = some x := ⟨_, List.getElem?_eq_getElem (by rw [← HK.out]; exact hlt)⟩
                    obtain ⟨b2, o2, rfl, -, hc⟩ := (HI0.out.below hB).2.2 j x hx
                    obtain ⟨h0, h1⟩ := HX.out x (List.mem_of_getElem? hx)
                    obtain ⟨y, rfl⟩ : ∃ y : Nat, x = y := ⟨x.toNat, by omega⟩
                    obtain ⟨d0, d1⟩ := R.there (by rw [setAll_length]; exact hAl) (x := y) (by omega)
                    have R2 : Hid (RowT (wr.setCell ⟨w.heap.size + 1, y, none⟩ (.bool true)) (w.heap.size + 1) n (setAll (passN (plainT ts) i P) (ns2.take (j + 1)))) := by
                      show RowT _ _ _ _
                      rw [setAll_take hx, Int.toNat_natCast]
                      exact R.set y true
                    have q1' := cell_set_other (k := w.heap.size + 1) (j := y) (u := .bool true) (.inl (by omega)) q1
                    have hB2 : Below w.heap.size w (wr.setCell ⟨w.heap.size + 1, y, none⟩ (.bool true)) := hB.setCell (p := ⟨w.heap.size + 1, y, none⟩) (Nat.le_succ _) _
                    generalize onAt (setAll (passN (plainT ts) i P) (ns2.take j)) y = yv at d0
                    clear R hx h0
                    go_wp2
                    go_roundw
                    case rel => exact ⟨j + 1, by omega, by go_num, R2.out, q1', by simpa using hz2, hB2⟩
                    case measure => simp [intOf]; omega
                  · obtain rfl : j = k2 := by omega
                    have hx : ¬ (j : Int) < j := by omega
                    rw [List.take_of_length_le (by rw [← HK.out]; exact Nat.le_refl _)] at R
                    have R2 : Hid (RowT wr (w.heap.size + 1) n (passN (plainT ts) (i + 1) P)) := by show RowT _ _ _ _; rw [HE.out]; exact R
                    clear R HE
                    go_wp2
                    go_roundw
                    case rel => exact ⟨i + 1, by omega, by go_num, R2.out, q1, hz2, hB⟩
                    case measure => simp [intOf]; omega
            · obtain rfl : i = n := by omega
              have hx : ¬ (i : Int) < i := by omega
              have R2 : Hid (RowT wr (w.heap.size + 1) i (roundsR (plainT ts) (r + 1) O)) := by show RowT _ _ _ _; rw [HR.out]; exact R
              clear R HR
              go_wp2
              go_roundw
              case rel => exact ⟨r + 1, by omega, by go_num, R2.out, q1, hz, hB⟩
              case measure => simp [intOf]; omega
        · obtain rfl : r = n := by omega
          have hx : ¬ (r : Int) < r := by omega
          have R2 : Hid (RowT wr (w.heap.size + 1) r (reachL (plainT ts) from_)) := by show RowT _ _ _ _; rw [HO.out]; exact R
          clear R HO
          go_wp2
          go_ret
          exact ⟨_, rfl, R2.out, hB⟩

theorem rightG_round {s : ByteArray} {ts : List TaskP} (h10 : ¬ 10 < ts.length) (h : (nameB s && decide (0 < ts.length) && tasksB ts) = true) {i : Nat} (hi : i < ts.length) (hr : onAt (reachL ts i) i = true) : rightG s ts = 160 := by
  rw [Bool.and_eq_true] at h
  have hin := tasksB_inside h.2
  refine rightG_cycle h10 (by rw [Bool.and_eq_true]; exact h) ?_
  have hat := ordD_at ts ts.length
  have hle : (orderL ts).length ≤ ts.length := by
    have := howMany_le (ordD ts ts.length).1
    rw [hat.many, hat.len] at this
    exact this
  refine Nat.lt_of_le_of_ne hle fun e => ?_
  have := (cyclic_iff hin).1 ((acyclic_iff hin).2 e) i hi
  rw [hr] at this
  cases this

theorem rightG_none {s : ByteArray} {ts : List TaskP} (h10 : ¬ 10 < ts.length) (h : (nameB s && decide (0 < ts.length) && tasksB ts) = true) (hr : ∀ i, i < ts.length → onAt (reachL ts i) i = false) : rightG s ts = 0 := by
  rw [Bool.and_eq_true] at h
  have hin := tasksB_inside h.2
  have := (acyclic_iff hin).1 ((cyclic_iff hin).2 hr)
  exact rightG_zero h10 (by rw [Bool.and_eq_true]; exact h) (by omega)

set_option maxRecDepth 20000 in
set_option maxHeartbeats 2000000 in
/-- RIGHT, the document's. -/
theorem refRight16_any (s : ByteArray) (a : Option Addr) (c n : Nat) (ts : List TaskV) (w : World) (hs : s.size ≤ maxLen) (hn : n = ts.length) (hT : IsT w a c ts) :
    Calls Try.prog 9 #[.agg #[.string s, .slice a n c]] w fun e w' => e = .returned (.int .i64 (rightG s (plainT ts))) ∧ Below w.heap.size w w' := by
  have hP : (plainT ts).length = n := by rw [plainT_length]; exact hn.symm
  have hnm : n ≤ 9223372036854775807 := by rw [hn]; exact Nat.le_trans hT.1 hT.2.1
  obtain ⟨W, hW⟩ : ∃ W, W = w.alloc (.cells #[.string s, .slice a n c] 24) := ⟨_, rfl⟩
  have bX : BoxL W w.heap.size [.string s, .slice a n c] := by rw [hW]; exact boxL_new _ _ _ rfl
  have hB0 : Below w.heap.size w W := by rw [hW]; exact (Below.refl _ _).alloc (Nat.le_refl _) _
  have q0 := bX.1 0 _ rfl
  have q1 := bX.1 1 _ rfl
  by_cases h10 : 10 < n
  · have h10' : (10 : Int) < n := by omega
    have E : Hid (rightG s (plainT ts) = 2) := rightG_long (by rw [hP]; exact h10)
    clear hn hT hP
    rw [hW] at q0 q1
    go_enter Try.func9, Try.ntmps9
    go_wp2
    rw [← hW]
    go_ret
    exact ⟨by rw [E.out]; rfl, hB0⟩
  · have h10' : ¬ (10 : Int) < n := by omega
    have cS := refShaped_any s a c n ts W hn (hT.below hB0) (by omega) hs
    cases ha : (nameB s && decide (0 < n) && tasksB (plainT ts)) with
    | false =>
      rw [ha] at cS
      have E : Hid (rightG s (plainT ts) = 1) := rightG_arg (by rw [hP]; exact h10) (by rw [hP]; exact ha)
      clear hn hT hP ha
      rw [hW] at q0 q1
      go_enter Try.func9, Try.ntmps9
      go_wp2_with (go_at_call 22; rw [← hW]; refine cS.mono ?_; rintro e w2 ⟨rfl, hb⟩; have hB2 := Below.tr hB0 hb)
      go_ret
      exact ⟨by rw [E.out]; rfl, hB2⟩
    | true =>
      rw [ha] at cS
      have ha2 := ha
      rw [Bool.and_eq_true] at ha2
      have hin := tasksB_inside ha2.2
      have cR : ∀ V i, Below w.heap.size w V → i < n → Calls Try.prog 23 #[.agg #[.string s, .slice a n c], .int .i64 i] V fun e w' => ∃ g, e = .returned (.slice (some ⟨g, 0, none⟩) n n) ∧ RowT w' g n (reachL (plainT ts) i) ∧ Below V.heap.size V w' := fun V i hb hi => reach_any s a c n ts i V hn (hT.below hb) hin (by omega) hi
      replace cR : Hid _ := cR
      have EC : Hid (∀ i, i < n → onAt (reachL (plainT ts) i) i = true → rightG s (plainT ts) = 160) := fun i hi h => rightG_round (by omega) (by rw [hP]; exact ha) (by omega) h
      have EZ : Hid ((∀ i, i < n → onAt (reachL (plainT ts) i) i = false) → rightG s (plainT ts) = 0) := fun h => rightG_none (by omega) (by rw [hP]; exact ha) (fun i hi => h i (by omega))
      have HL : Hid (∀ i, (reachL (plainT ts) i).length = n) := fun i => by unfold reachL; rw [roundsR_length, setAll_length, List.length_replicate, hP]
      clear hn hT hP ha ha2 hin
      rw [hW] at q0 q1
      go_enter Try.func9, Try.ntmps9
      go_wp2_with (go_at_call 22; rw [← hW]; refine cS.mono ?_; rintro e w2 ⟨rfl, hb⟩; have hB2 := Below.tr hB0 hb; rw [← hW] at q0 q1; have z0 := cell_below hb q0; have z1 := cell_below hb q1; have hz : w.heap.size < w2.heap.size := cell_lt z0)
      go_loopw [15] (fun v wr => ∃ j : Nat, j ≤ n ∧ v = .int .i64 j ∧ Hid (∀ i, i < j → onAt (reachL (plainT ts) i) i = false) ∧ Below w2.heap.size w2 wr) (fun v _ => n - (intOf v).toNat)
      case atStart => exact ⟨0, by omega, rfl, fun i h => by omega, Below.refl _ _⟩
      case round =>
        obtain ⟨j, hj, rfl, HA, hB⟩ := hrel
        have hBw := Below.tr hB2 hB
        have y0 := cell_below hB z0
        have y1 := cell_below hB z1
        clear hW bX q0 q1
        by_cases hlt : j < n
        · have hlt' : (j : Int) < n := by omega
          have cJ := cR.out wr j hBw hlt
          have cJ2 : Calls Try.prog 23 #[.agg #[.string s, .slice a n c], .int .i64 j] wr fun e w' => ∃ g, e = .returned (.slice (some ⟨g, 0, none⟩) n n) ∧ w'.cell? ⟨g, j, none⟩ = some (.bool (onAt (reachL (plainT ts) j) j)) ∧ Below wr.heap.size wr w' := cJ.mono (by
            rintro e w' ⟨g, rfl, R, hb⟩
            exact ⟨g, rfl, (R.there (HL.out j) hlt).1, hb⟩)
          clear cJ
          cases hv : onAt (reachL (plainT ts) j) j with
          | true =>
            rw [hv] at cJ2
            have E : Hid (rightG s (plainT ts) = 160) := EC.out j hlt hv
            clear hv EC EZ HA
            go_wp2_with (go_at_call 23; refine cJ2.mono ?_; rintro e w3 ⟨g, rfl, hg, hb3⟩)
            go_ret
            exact ⟨by rw [E.out]; rfl, Below.tr hBw hb3⟩
          | false =>
            rw [hv] at cJ2
            have HA2 : Hid (∀ i, i < j + 1 → onAt (reachL (plainT ts) i) i = false) := fun i hi => by
              by_cases h : i = j
              · subst h; exact hv
              · exact HA.out i (by omega)
            clear hv EC HA
            go_wp2_with (go_at_call 23; refine cJ2.mono ?_; rintro e w3 ⟨g, rfl, hg, hb3⟩)
            go_roundw
            case rel => exact ⟨j + 1, by omega, by go_num, HA2, Below.tr hB hb3⟩
            case measure => simp [intOf]; omega
        · obtain rfl : j = n := by omega
          have E : Hid (rightG s (plainT ts) = 0) := EZ.out HA.out
          have hx : ¬ (j : Int) < j := by omega
          clear EC EZ HA
          go_wp2
          go_ret
          exact ⟨by rw [E.out]; rfl, hBw⟩

end Go.Proofs.Ytmjhapkhfelbpaa

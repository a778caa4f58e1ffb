/-
  The document's own IsFree, Free, Order, SameInts.
-/
import Derived.Test.YtmjhapkhfelbpaaDagThose
namespace Go.Proofs.Ytmjhapkhfelbpaa
open Go.RowKit Plain
set_option linter.unusedVariables false

set_option maxRecDepth 20000 in
set_option maxHeartbeats 2000000 in
/-- SAME INTS. -/
theorem sameInts_any (a a' : Option Addr) (c c' n n' : Nat) (xs ys : List Int) (w : World) (hn : n = xs.length) (hn' : n' = ys.length) (hI : IsI w a c xs) (hI' : IsI w a' c' ys) :
    Calls Try.prog 14 #[.slice a n c, .slice a' n' c'] w fun e w' => e = .returned (.bool (decide (xs = ys))) ∧ Below w.heap.size w w' := by
  have m1 : n ≤ 9223372036854775807 := by rw [hn]; exact Nat.le_trans hI.1 hI.2.1
  have m2 : n' ≤ 9223372036854775807 := by rw [hn']; exact Nat.le_trans hI'.1 hI'.2.1
  by_cases hl : n = n'
  · subst hl
    have HN : Hid (n = xs.length) := hn
    have HN' : Hid (n = ys.length) := hn'
    have HI : Hid (IsI w a c xs) := hI
    have HI' : Hid (IsI w a' c' ys) := hI'
    clear hn hn' hI hI'
    go_enter Try.func14, Try.ntmps14
    go_wp2
    go_loopw [13] (fun v wr => ∃ j : Nat, j ≤ n ∧ v = .int .i64 j ∧ Hid (xs.take j = ys.take j) ∧ Below w.heap.size w wr) (fun v _ => n - (intOf v).toNat)
    case atStart => exact ⟨0, by omega, rfl, rfl, Below.refl _ _⟩
    case round =>
      obtain ⟨j, hj, rfl, HT, hB⟩ := hrel
      by_cases hlt : j < n
      · have hlt' : (j : Int) < n := by omega
        obtain ⟨x, hx⟩ : ∃ x, xs[j]? = some x := ⟨_, List.getElem?_eq_getElem (by rw [← HN.out]; exact hlt)⟩
        obtain ⟨y, hy⟩ : ∃ y, ys[j]? = some y := ⟨_, List.getElem?_eq_getElem (by rw [← HN'.out]; exact hlt)⟩
        obtain ⟨b, o, rfl, -, c0⟩ := HI.out.2.2 j x hx
        obtain ⟨b', o', rfl, -, c1⟩ := HI'.out.2.2 j y hy
        have z0 := cell_below hB c0
        have z1 := cell_below hB c1
        clear c0 c1
        by_cases hxy : x = y
        · subst hxy
          have HT2 : Hid (xs.take (j + 1) = ys.take (j + 1)) := by show _ = _; rw [List.take_add_one, List.take_add_one, hx, hy, HT.out]
          clear hx hy HT
          go_wp2
          go_region
          go_wp2
          go_roundw
          case rel => exact ⟨j + 1, by omega, by go_num, HT2, hB.drew⟩
          case measure => simp [intOf]; omega
        · have hxy' : (x != y) = true := by simpa using hxy
          have e : Hid (decide (xs = ys) = false) := decide_eq_false (fun h => hxy (by rw [h, hy] at hx; exact (Option.some.inj hx).symm))
          clear hx hy HT
          go_wp2
          go_region
          go_wp2
          go_ret
          exact ⟨by rw [e.out]; rfl, hB.drew⟩
      · obtain rfl : j = n := by omega
        have e : Hid (decide (xs = ys) = true) := by
          show _ = _
          have := HT.out
          rw [List.take_of_length_le (by rw [← HN.out]; exact Nat.le_refl _), List.take_of_length_le (by rw [← HN'.out]; exact Nat.le_refl _)] at this
          exact decide_eq_true this
        have hx : ¬ (j : Int) < j := by omega
        clear HT
        go_wp2
        go_ret
        exact ⟨by rw [e.out]; rfl, hB⟩
  · have hl' : ((n : Int) != n') = true := by simp; omega
    have e : Hid (decide (xs = ys) = false) := decide_eq_false (fun h => hl (by rw [hn, hn', h]))
    clear hn hn' hI hI' hl
    go_enter Try.func14, Try.ntmps14
    go_wp2
    go_ret
    exact ⟨by rw [e.out]; rfl, Below.refl _ _⟩

theorem all_take {done : List Bool} {ns : List Int} {j : Nat} {x : Int} (hx : ns[j]? = some x) : (ns.take (j + 1)).all (fun x => onAt done x.toNat) = ((ns.take j).all (fun x => onAt done x.toNat) && onAt done x.toNat) := by
  rw [List.take_add_one, hx, List.all_append]
  simp

set_option maxRecDepth 20000 in
set_option maxHeartbeats 2000000 in
/-- IS FREE, the document's. -/
theorem refIsFree_any (s : ByteArray) (a : Option Addr) (c n : Nat) (ts : List TaskV) (ad : Option Addr) (cd m : Nat) (done : List Bool) (i : Nat) (w : World) (hn : n = ts.length) (hT : IsT w a c ts) (hm : m = done.length) (hD : IsB w ad cd done) (hnm : n = m) (hin : Inside (plainT ts)) (hi : i < n) :
    Calls Try.prog 30 #[.agg #[.string s, .slice a n c], .slice ad m cd, .int .i64 i] w fun e w' => e = .returned (.bool (freeB (plainT ts) done i)) ∧ Below w.heap.size w w' := by
  subst hnm
  have hi' : (i : Int) < n := by omega
  obtain ⟨W, hW⟩ : ∃ W, W = w.alloc (.cells #[.string s, .slice a n c] 24) := ⟨_, rfl⟩
  have hB0 : Below w.heap.size w W := by rw [hW]; exact (Below.refl _ _).alloc (Nat.le_refl _) _
  have bX : BoxL W w.heap.size [.string s, .slice a n c] := by rw [hW]; exact boxL_new _ _ _ rfl
  obtain ⟨bd, od, rfl, -, hd⟩ := hD.onAt (x := i) (by omega)
  obtain ⟨t, ht⟩ : ∃ t, ts[i]? = some t := ⟨_, List.getElem?_eq_getElem (by omega)⟩
  obtain ⟨b, o, rfl, -⟩ := hT.some (by omega)
  obtain ⟨z0, -, -, -, hI⟩ := (hT.below hB0).at ht
  have hd0 := cell_below hB0 hd
  have hnm : n ≤ 9223372036854775807 := by rw [hn]; exact Nat.le_trans hT.1 hT.2.1
  have hkm : t.ns.length ≤ 9223372036854775807 := Nat.le_trans hI.1 hI.2.1
  have hE : Hid (freeB (plainT ts) done i = (!onAt done i && t.ns.all fun x => onAt done x.toNat)) := by
    show _ = _
    unfold freeB
    rw [needsAt_get ht]
  have HX : Hid (∀ x ∈ t.ns, 0 ≤ x ∧ x < n) := fun x hx => by
    have := hin i x (by rw [needsAt_get ht]; exact hx)
    rw [plainT_length] at this
    omega
  have HD : Hid (∀ x : Nat, x < n → W.cell? ⟨bd, od + x, none⟩ = some (.bool (onAt done x))) := fun x hx => by
    obtain ⟨b', o', e', -, h'⟩ := hD.onAt (x := x) (by omega)
    cases e'
    exact cell_below hB0 h'
  have q1 := bX.1 1 _ rfl
  clear hT hD hn hm hin ht hd bX
  obtain ⟨k, hk⟩ : ∃ k, k = t.ns.length := ⟨_, rfl⟩
  rw [← hk] at z0 hkm
  have HK : Hid (k = t.ns.length) := hk
  have HI : Hid (IsI W t.a t.c t.ns) := hI
  clear hk hI
  generalize t.a = ta at *
  generalize t.c = tc at *
  generalize t.ns = ns at *
  rw [hE.out]
  clear hE
  cases hv : onAt done i with
  | true =>
    rw [hv] at hd0
    rw [hW] at hd0
    go_enter Try.func30, Try.ntmps30
    go_wp2
    rw [← hW]
    go_ret
    exact ⟨rfl, hB0⟩
  | false =>
    rw [hv] at hd0
    rw [hW] at hd0 q1 z0
    go_enter Try.func30, Try.ntmps30
    go_wp2
    rw [← hW]
    rw [← hW] at hd0 q1 z0
    clear hW
    go_loopw [20] (fun v wr => ∃ j : Nat, j ≤ k ∧ v = .int .i64 j ∧ Hid ((ns.take j).all (fun x => onAt done x.toNat) = true) ∧ wr = W) (fun v _ => k - (intOf v).toNat)
    case atStart => exact ⟨0, by omega, rfl, rfl, rfl⟩
    case round =>
      obtain ⟨j, hj, rfl, HA, rfl⟩ := hrel
      by_cases hlt : j < k
      · have hlt' : (j : Int) < k := by omega
        obtain ⟨x, hx⟩ : ∃ x, ns[j]? = some x := ⟨_, List.getElem?_eq_getElem (by rw [← HK.out]; exact hlt)⟩
        obtain ⟨b2, o2, rfl, -, hc⟩ := HI.out.2.2 j x hx
        obtain ⟨h0, h1⟩ := HX.out x (List.mem_of_getElem? hx)
        obtain ⟨y, rfl⟩ : ∃ y : Nat, x = y := ⟨x.toNat, by omega⟩
        have hy := HD.out y (by omega)
        have HA2 : Hid ((ns.take (j + 1)).all (fun x => onAt done x.toNat) = onAt done y) := by show _ = _; rw [all_take hx, HA.out, Bool.true_and, Int.toNat_natCast]
        have HF : Hid (onAt done y = false → (ns.all fun x => onAt done x.toNat) = false) := fun e => by
          rw [List.all_eq_false]
          exact ⟨(y : Int), List.mem_of_getElem? hx, by rw [Int.toNat_natCast, e]; decide⟩
        clear hx h0 HA
        cases hv2 : onAt done y with
        | true =>
          rw [hv2] at hy HA2
          clear HF hv2
          go_wp2
          go_roundw
          case rel => exact ⟨j + 1, by omega, by go_num, HA2, trivial⟩
          case measure => simp [intOf]; omega
        | false =>
          rw [hv2] at hy
          have e : Hid _ := HF.out hv2
          clear HF hv2 HA2
          go_wp2
          go_ret
          exact ⟨by rw [e.out]; rfl, hB0⟩
      · obtain rfl : j = k := by omega
        have e : Hid ((ns.all fun x => onAt done x.toNat) = true) := by
          have := HA.out
          rw [HK.out, List.take_length] at this
          exact this
        have hx : ¬ (j : Int) < j := by omega
        clear HA
        go_wp2
        go_ret
        exact ⟨by rw [e.out]; rfl, hB0⟩

set_option maxRecDepth 20000 in
set_option maxHeartbeats 2000000 in
/-- FREE, the document's. -/
theorem refFree_any (s : ByteArray) (a : Option Addr) (c n : Nat) (ts : List TaskV) (ad : Option Addr) (cd m : Nat) (done : List Bool) (w : World) (hn : n = ts.length) (hT : IsT w a c ts) (hm : m = done.length) (hD : IsB w ad cd done) (hnm : n = m) (hin : Inside (plainT ts)) (h20 : n ≤ 20) :
    Calls Try.prog 16 #[.agg #[.string s, .slice a n c], .slice ad m cd] w fun e w' => ThoseC w ts done e w' := by
  subst hnm
  obtain ⟨W, hW⟩ : ∃ W, W = (w.alloc (.cells #[.string s, .slice a n c] 24)).alloc (.cells #[] 3) := ⟨_, rfl⟩
  have hB0 : Below w.heap.size w W := by rw [hW]; exact ((Below.refl _ _).alloc (Nat.le_refl _) _).alloc (by simp) _
  have bX : BoxL W w.heap.size [.string s, .slice a n c] := by rw [hW]; exact (boxL_new _ _ _ rfl).alloc _
  have zW : W.heap.size = w.heap.size + 1 + 1 := by rw [hW]; simp
  have own0 : W.ownsRow (w.heap.size + 1) 3 1 (.slice (some ⟨w.heap.size + 1, 0, none⟩) 0 0) 0 [] := by
    have := World.ownsRow_made (base := w.heap.size + 1) (e := 3) (size := 1) (w.alloc (.cells #[.string s, .slice a n c] 24)) #[] 0 (by simp) (by decide) rfl
    rw [hW]
    simpa using this
  have cF : ∀ wr i, Below w.heap.size w wr → i < n → Calls Try.prog 30 #[.agg #[.string s, .slice a n c], .slice ad n cd, .int .i64 i] wr fun e w' => e = .returned (.bool (freeB (plainT ts) done i)) ∧ Below wr.heap.size wr w' := fun wr i hb hi => refIsFree_any s a c n ts ad cd n done i wr hn (hT.below hb) hm (hD.below hb) rfl hin hi
  replace cF : Hid _ := cF
  have HP : Hid ((plainT ts).length = n) := by show _ = _; rw [plainT_length]; exact hn.symm
  have q0 := bX.1 0 _ rfl
  have q1 := bX.1 1 _ rfl
  have hq : w.heap.size < W.heap.size := by omega
  have hnm : n ≤ 9223372036854775807 := by omega
  clear hn hT hm hD hin bX
  rw [hW] at q0 q1
  go_enter Try.func16, Try.ntmps16
  go_wp2
  rw [← hW]
  rw [← hW] at q0 q1
  clear hW
  go_loopw [5, 11] (fun b v wr => ∃ j k : Nat, j ≤ n ∧ v = .int .i64 j ∧ Hid (k = (freeTo (plainT ts) done j).length) ∧ wr.ownsRow (w.heap.size + 1) 3 1 b k ((intsN (freeTo (plainT ts) done j)).map (Value.int .i64)) ∧ wr.cell? ⟨w.heap.size, 0, none⟩ = some (.string s) ∧ wr.cell? ⟨w.heap.size, 1, none⟩ = some (.slice a n c) ∧ w.heap.size + 2 ≤ wr.heap.size ∧ Below w.heap.size w wr) (fun _ v _ => n - (intOf v).toNat)
  case atStart => exact ⟨0, 0, by omega, rfl, rfl, own0, q0, q1, by omega, hB0⟩
  case round =>
    clear own0 q0 q1
    obtain ⟨j, k, hj, rfl, HK, own, z0, z1, hz, hB⟩ := hrel
    have hk20 : k ≤ 20 := by have := freeTo_le (plainT ts) done j; have := HK.out; omega
    by_cases hlt : j < n
    · have hlt' : (j : Int) < n := by omega
      have cG := cF.out wr j hB hlt
      cases hf : freeB (plainT ts) done j with
      | true =>
        rw [hf] at cG
        have HF1 : Hid (freeTo (plainT ts) done (j + 1) = freeTo (plainT ts) done j ++ [j]) := freeTo_yes hf
        clear hf
        go_wp2_with (first
          | (go_at_call 30; refine cG.mono ?_; rintro e w2 ⟨rfl, hb⟩; have hB2 := Below.tr hB hb; obtain ⟨g, cap, w3, hrun, own3, hgr, -, -, -⟩ := push_Z w2 (w.heap.size + 1) _ k _ (j : Int) ((Turns.of_below (P := fun _ => False) hb).owns own (fun _ _ x => x)) (by have := hb.size; omega) (by omega); have hb' := hb; clear cG)
          | (at_builtin; refine Lib.wpList_append_run _ rfl _ _ _ _ rfl _ _ rfl rfl _ _ hrun ?_)
          )
        have hT3 : Turns (fun i => w.heap.size + 1 ≤ i) wr w3 := ((Turns.of_below hb').alloc _).grown hgr (fun i hi => (own.lt i hi).1)
        go_roundw
        case rel => exact ⟨j + 1, k + 1, by omega, by go_num, by show _ = _; rw [HF1.out, List.length_append, ← HK.out]; rfl, by rw [HF1.out, intsN_append]; exact own3, hT3.cell (p := ⟨w.heap.size, 0, none⟩) (by show ¬ _ ≤ w.heap.size; omega) z0, hT3.cell (p := ⟨w.heap.size, 1, none⟩) (by show ¬ _ ≤ w.heap.size; omega) z1, Nat.le_trans hz hT3.size, Below.turns hB hT3 (fun i hi => by omega)⟩
        case measure => simp [intOf]; omega
      | false =>
        rw [hf] at cG
        have HF1 : Hid (freeTo (plainT ts) done (j + 1) = freeTo (plainT ts) done j) := freeTo_no hf
        clear hf
        go_wp2_with (go_at_call 30; refine cG.mono ?_; rintro e w2 ⟨rfl, hb⟩; have hB2 := Below.tr hB hb; have own2 := (Turns.of_below (P := fun _ => False) hb).owns own (fun _ _ x => x); clear own)
        go_roundw
        case rel => exact ⟨j + 1, k, by omega, by go_num, by show _ = _; rw [HF1.out]; exact HK.out, by rw [HF1.out]; exact own2, cell_below hb z0, cell_below hb z1, Nat.le_trans hz hb.size, hB2⟩
        case measure => simp [intOf]; omega
    · obtain rfl : j = n := by omega
      obtain ⟨a', c', rfl, -, hI, hFr⟩ := owns_I own
      have E : Hid (freeTo (plainT ts) done j = freeL (plainT ts) done) := by show _ = _; unfold freeL; rw [HP.out]; rfl
      have hx : ¬ (j : Int) < j := by omega
      clear own
      go_wp2
      go_ret
      exact ⟨a', c', k, rfl, by rw [← E.out]; exact HK.out, by rw [← E.out]; exact hI, hFr.mono (by omega), hB⟩

set_option maxRecDepth 20000 in
set_option maxHeartbeats 4000000 in
/-- ORDER, the document's. -/
theorem refOrder_any (s : ByteArray) (a : Option Addr) (c n : Nat) (ts : List TaskV) (w : World) (hn : n = ts.length) (hT : IsT w a c ts) (hin : Inside (plainT ts)) (h20 : n ≤ 20) :
    Calls Try.prog 15 #[.agg #[.string s, .slice a n c]] w fun e w' => OrderC w ts e w' := by
  have hPn : (plainT ts).length = n := by rw [plainT_length]; exact hn.symm
  obtain ⟨Z, hmk, hZ⟩ : ∃ Z : Array Value, (∀ W : World, (Instr.makeSlice 25 (.int .i64 n) (.int .i64 n)).run Try.prog W = .ok (.slice (some ⟨W.heap.size, 0, none⟩) n n) (W.alloc (.cells Z 4))) ∧ Z = (List.replicate n (Value.bool false)).toArray :=
    ⟨madeCells #[.bool false] n, fun W => run_make_row' (P := Try.prog) 25 4 (.bool false) 1 Try.underlying25 Try.info4 rfl .i64 .i64 n (by omega) (by omega) W, made_one _ n⟩
  obtain ⟨W0, hW0⟩ : ∃ W, W = (w.alloc (.cells #[.string s, .slice a n c] 24)).alloc (.cells Z 4) := ⟨_, rfl⟩
  obtain ⟨W, hW⟩ : ∃ W, W = W0.alloc (.cells #[] 3) := ⟨_, rfl⟩
  have z0 : W0.heap.size = w.heap.size + 1 + 1 := by rw [hW0]; simp
  have zW : W.heap.size = w.heap.size + 1 + 1 + 1 := by rw [hW, ← z0]; simp
  have hBa : Below w.heap.size w (w.alloc (.cells #[.string s, .slice a n c] 24)) := (Below.refl _ _).alloc (Nat.le_refl _) _
  have hBb : Below w.heap.size w W0 := by rw [hW0]; exact hBa.alloc (by simp) _
  have hB0 : Below w.heap.size w W := by rw [hW]; exact hBb.alloc hBb.size _
  have bX : BoxL W w.heap.size [.string s, .slice a n c] := by rw [hW, hW0]; exact ((boxL_new _ _ _ rfl).alloc _).alloc _
  have R0 : RowT W (w.heap.size + 1) n (List.replicate n false) := by
    have : RowT W0 (w.heap.size + 1) n (List.replicate n false) := by rw [hW0]; exact RowT.new _ n hZ (by simp) (by unfold maxLen; omega)
    rw [hW]
    exact this.below ((Below.refl _ _).alloc (Nat.le_refl _) _)
  have own0 : W.ownsRow (w.heap.size + 1 + 1) 3 1 (.slice (some ⟨w.heap.size + 1 + 1, 0, none⟩) 0 0) 0 [] := by
    have := World.ownsRow_made (base := w.heap.size + 1 + 1) (e := 3) (size := 1) W0 #[] 0 (by omega) (by decide) rfl
    rw [hW, ← z0]
    rw [← z0] at this
    simpa using this
  have q0 := bX.1 0 _ rfl
  have q1 := bX.1 1 _ rfl
  have cF : ∀ wr done, Below w.heap.size w wr → done.length = n → RowT wr (w.heap.size + 1) n done → Calls Try.prog 16 #[.agg #[.string s, .slice a n c], .slice (some ⟨w.heap.size + 1, 0, none⟩) n n] wr fun e w' => ThoseC wr ts done e w' := fun wr done hb hl hr => refFree_any s a c n ts _ n n done wr hn (hT.below hb) hl.symm hr.isB rfl hin h20
  replace cF : Hid _ := cF
  have HP : Hid ((plainT ts).length = n) := hPn
  have hnm : n ≤ 9223372036854775807 := by omega
  have e0 : Hid (ordD (plainT ts) 0 = (List.replicate n false, [])) := by show (List.replicate _ false, _) = _; rw [HP.out]
  clear hn hT hin bX hBa hBb hZ hPn
  rw [hW, hW0] at q0 q1
  go_enter Try.func15, Try.ntmps15
  go_wp2
  rw [← hW0, ← hW]
  rw [← hW0, ← hW] at q0 q1
  clear hW hW0 hmk
  go_loopw [4, 14] (fun b v wr => ∃ (j k : Nat) (ab : Option Addr) (cb : Nat), j ≤ n ∧ v = .int .i64 j ∧ b = .slice ab k cb ∧ Hid ((ordD (plainT ts) j).2.length = k) ∧ wr.ownsRow (w.heap.size + 1 + 1) 3 1 b k ((intsN (ordD (plainT ts) j).2).map (Value.int .i64)) ∧ RowT wr (w.heap.size + 1) n (ordD (plainT ts) j).1 ∧ wr.cell? ⟨w.heap.size, 0, none⟩ = some (.string s) ∧ wr.cell? ⟨w.heap.size, 1, none⟩ = some (.slice a n c) ∧ w.heap.size + 1 + 1 + 1 ≤ wr.heap.size ∧ Below w.heap.size w wr) (fun _ v _ => n - (intOf v).toNat)
  case atStart =>
    refine ⟨0, 0, _, _, by omega, rfl, rfl, ?_, ?_, ?_, q0, q1, by omega, hB0⟩
    · show _ = 0; rw [e0.out]; rfl
    · rw [e0.out]; exact own0
    · rw [e0.out]; exact R0
  case round =>
    clear own0 q0 q1 R0 e0
    obtain ⟨j, k, ab, cb, hj, rfl, rfl, HK, own, R, q0, q1, hz, hB⟩ := hrel
    have hat := ordD_at (plainT ts) j
    have hk20 : k ≤ 20 := by
      have := howMany_le (ordD (plainT ts) j).1
      rw [hat.many, hat.len, HK.out, HP.out] at this
      omega
    by_cases hlt : j < n
    · have hlt' : (j : Int) < n := by omega
      have cG := cF.out wr _ hB (by rw [hat.len, HP.out]) R
      cases hL : freeL (plainT ts) (ordD (plainT ts) j).1 with
      | nil =>
        have HE : Hid (ordD (plainT ts) (j + 1) = ordD (plainT ts) j) := ordD_nil hL
        have cG2 : Calls Try.prog 16 #[.agg #[.string s, .slice a n c], .slice (some ⟨w.heap.size + 1, 0, none⟩) n n] wr fun e w' => ∃ af cf, e = .returned (.slice af 0 cf) ∧ Below wr.heap.size wr w' := cG.mono (by
          rintro e w' ⟨af, cf, kf, rfl, hk, -, -, hb⟩
          rw [hL] at hk
          obtain rfl : kf = 0 := hk
          exact ⟨af, cf, rfl, hb⟩)
        clear cG hL hat
        go_wp2_with (go_at_call 16; refine cG2.mono ?_; rintro e w2 ⟨af, cf, rfl, hb⟩)
        go_roundw
        case rel => exact ⟨j + 1, k, ab, cb, by omega, by go_num, rfl, by rw [HE.out]; exact HK, by rw [HE.out]; exact (Turns.of_below (P := fun _ => False) hb).owns own (fun _ _ x => x), by rw [HE.out]; exact R.below hb, cell_below hb q0, cell_below hb q1, Nat.le_trans hz hb.size, Below.tr hB hb⟩
        case measure => simp [intOf]; omega
      | cons x l =>
        have hst : Hid (ordD (plainT ts) (j + 1) = ((ordD (plainT ts) j).1.set x true, (ordD (plainT ts) j).2 ++ [x])) := ordD_cons hL
        have hx := (mem_freeL.1 (show x ∈ freeL (plainT ts) (ordD (plainT ts) j).1 by rw [hL]; simp)).1
        rw [HP.out] at hx
        have hxn : (x : Int) < n := by omega
        have hx0 : (0 : Int) ≤ x := by omega
        obtain ⟨xv, hxv⟩ : ∃ xv, (ordD (plainT ts) j).1[x]? = some xv := ⟨_, List.getElem?_eq_getElem (by rw [hat.len, HP.out]; exact hx)⟩
        have cG2 : Calls Try.prog 16 #[.agg #[.string s, .slice a n c], .slice (some ⟨w.heap.size + 1, 0, none⟩) n n] wr fun e w' => ∃ g cap w3 bf ff kf cf, e = .returned (.slice (some ⟨bf, ff, none⟩) kf cf) ∧ (0 : Int) < kf ∧ kf ≤ cf ∧ cf ≤ 9223372036854775807 ∧ w'.cell? ⟨bf, ff, none⟩ = some (.int .i64 x) ∧ w'.cell? ⟨w.heap.size + 1, x, none⟩ = some (.bool xv) ∧ w'.frozen? ⟨w.heap.size + 1, x, none⟩ = false ∧ (w'.setCell ⟨w.heap.size + 1, x, none⟩ (.bool true)).cell? ⟨bf, ff, none⟩ = some (.int .i64 x) ∧
            (Builtin.append_ #[29, 29] 29 #[.slice ab k cb, .slice (some ⟨w'.heap.size, 0, none⟩) 1 1]).run Try.prog ((w'.setCell ⟨w.heap.size + 1, x, none⟩ (.bool true)).alloc (.cells #[.int .i64 x] 3)) = .ok (.slice (some ⟨g, 0, none⟩) (k + 1) cap) w3 ∧
            w3.ownsRow (w.heap.size + 1 + 1) 3 1 (.slice (some ⟨g, 0, none⟩) (k + 1) cap) (k + 1) ((intsN (ordD (plainT ts) (j + 1)).2).map (Value.int .i64)) ∧ RowT w3 (w.heap.size + 1) n (ordD (plainT ts) (j + 1)).1 ∧ w3.cell? ⟨w.heap.size, 0, none⟩ = some (.string s) ∧ w3.cell? ⟨w.heap.size, 1, none⟩ = some (.slice a n c) ∧ w.heap.size + 1 + 1 + 1 ≤ w3.heap.size ∧ Below w.heap.size w w3 := cG.mono (by
          rintro e w' ⟨af, cf, kf, rfl, hk, hI, hF, hb⟩
          rw [hL] at hk hI
          obtain ⟨bf, ff, rfl, hfl, hf0⟩ := hI.2.2 0 (x : Int) rfl
          have hf4 : wr.heap.size ≤ bf := hF _ rfl
          rw [Nat.add_zero] at hf0
          have R' := R.below hb
          obtain ⟨hd0, hd1⟩ := R'.cell hxv
          obtain ⟨W2, hW2⟩ : ∃ W2, W2 = w'.setCell ⟨w.heap.size + 1, x, none⟩ (.bool true) := ⟨_, rfl⟩
          have zW : W2.heap.size = w'.heap.size := by rw [hW2]; simp
          have hT2 : Turns (fun i => i = w.heap.size + 1) w' W2 := by rw [hW2]; exact (Turns.refl (fun i => i = w.heap.size + 1) w').setCell (p := ⟨w.heap.size + 1, x, none⟩) rfl _
          have own1 := (Turns.of_below (P := fun _ => False) hb).owns own (fun _ _ x => x)
          have own2 := hT2.owns own1 (fun g hg e => by have := (own1.lt g hg).1; omega)
          have R2 : RowT W2 (w.heap.size + 1) n ((ordD (plainT ts) j).1.set x true) := by rw [hW2]; exact R'.set x true
          have hf0' := hT2.cell (p := ⟨bf, ff, none⟩) (by show ¬ bf = _; omega) hf0
          have hbs := hb.size
          obtain ⟨g, cap, w3, hrun, own3, hgr, -, -, hg3⟩ := push_Z W2 (w.heap.size + 1 + 1) _ k _ (x : Int) own2 (by omega) (by omega)
          have hT3 : Turns (fun i => w.heap.size + 1 + 1 ≤ i) W2 w3 := ((Turns.refl _ _).alloc _).grown hgr (fun i hi => (own2.lt i hi).1)
          have hB3 : Below w.heap.size w w3 := Below.turns (Below.turns (Below.tr hB hb) hT2 (fun i hi => by omega)) hT3 (fun i hi => by omega)
          have R3 : RowT w3 (w.heap.size + 1) n ((ordD (plainT ts) j).1.set x true) := by
            obtain ⟨cur, hcur, hr⟩ := R2
            exact ⟨cur, by rw [hT3.block _ (by omega) (by omega)]; exact hcur, hr⟩
          have y0 := hT3.cell (p := ⟨w.heap.size, 0, none⟩) (by show ¬ _ ≤ w.heap.size; omega) (hT2.cell (p := ⟨w.heap.size, 0, none⟩) (by show ¬ w.heap.size = _; omega) (cell_below hb q0))
          have y1 := hT3.cell (p := ⟨w.heap.size, 1, none⟩) (by show ¬ _ ≤ w.heap.size; omega) (hT2.cell (p := ⟨w.heap.size, 1, none⟩) (by show ¬ w.heap.size = _; omega) (cell_below hb q1))
          have hkf : kf ≤ cf := by have := hI.1; rw [intsN_length, ← hk] at this; exact this
          have hs3 := hT3.size
          rw [zW, hW2] at hrun
          rw [hW2] at hf0'
          refine ⟨g, cap, w3, bf, ff, kf, cf, rfl, by rw [hk]; simp, hkf, hI.2.1, hf0, hd0, hd1, hf0', hrun, ?_, ?_, y0, y1, by omega, hB3⟩
          · rw [hst.out, intsN_append]; exact own3
          · rw [hst.out]; exact R3)
        have HK2 : Hid ((ordD (plainT ts) (j + 1)).2.length = k + 1) := by show _ = _; rw [hst.out, List.length_append, HK.out]; rfl
        clear cG hL hat hst HK own R hxv
        go_wp2_with (first
          | (go_at_call 16; refine cG2.mono ?_; rintro e w2 ⟨g, cap, w3, bf, ff, kf, cf, rfl, hk0, hkc, hcm, hf0, hd0, hd1, hf0', hrun, own3', R3', y0, y1, hz3, hB3⟩; have own3 : Hid _ := own3'; have R3 : Hid _ := R3'; clear own3' R3' cG2)
          | (at_builtin; refine Lib.wpList_append_run _ rfl _ _ _ _ rfl _ _ rfl rfl _ _ hrun ?_)
          )
        go_roundw
        case rel => exact ⟨j + 1, k + 1, some ⟨g, 0, none⟩, cap, by omega, by go_num, rfl, HK2, own3.out, R3.out, y0, y1, hz3, hB3⟩
        case measure => simp [intOf]; omega
    · obtain rfl : j = n := by omega
      have E : Hid (orderL (plainT ts) = (ordD (plainT ts) j).2) := by show _ = _; unfold orderL; rw [HP.out]
      obtain ⟨a2, c2, e2, -, hI2, -⟩ := owns_I own
      obtain ⟨rfl, rfl⟩ : ab = a2 ∧ cb = c2 := by cases e2; exact ⟨rfl, rfl⟩
      have fin : Hid (OrderC w ts (.returned (.slice ab k cb)) wr) := ⟨ab, cb, k, rfl, by rw [E.out]; exact HK.out.symm, by rw [E.out]; exact hI2, hB⟩
      have hx : ¬ (j : Int) < j := by omega
      clear own R hI2 e2 HK E hat
      go_wp2
      go_ret
      exact fin.out

end Go.Proofs.Ytmjhapkhfelbpaa

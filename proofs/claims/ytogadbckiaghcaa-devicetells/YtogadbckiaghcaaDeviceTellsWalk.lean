/-
  The walk of the law DeviceTells: it returns true at all arguments.
-/
import Derived.Test.YtogadbckiaghcaaDevInts
import Derived.Test.YtogadbckiaghcaaDevRead
import Derived.Test.YtogadbckiaghcaaDevWrite
import Derived.Test.YtogadbckiaghcaaDevLike
namespace Go.Proofs.Ytogadbckiaghcaa
open Go.RowKit Plain
set_option linter.unusedVariables false

theorem checkE_ok {bs : List ByteArray} {ps : List (Int × ByteArray)} {k : Int} (h : rightD bs ps = true) (h0 : 0 ≤ k) (h1 : k < bs.length) : checkE bs ps k = 0 := by
  unfold checkE
  rw [if_pos h, if_pos (by simp; omega)]

theorem writeE_zero {bs : List ByteArray} {ps : List (Int × ByteArray)} {k : Int} {s : ByteArray} (h : writeE bs ps k s = 0) : checkE bs ps k = 0 ∧ s.size ≤ 4096 ∧ ps.length ≠ 2048 := by
  unfold writeE at h
  split at h
  · rename_i hc
    split at h
    · cases h
    · rename_i hn
      exact ⟨hc, by omega, by omega⟩
  · rename_i hc
    exact absurd h hc

theorem right_written {bs : List ByteArray} {ps : List (Int × ByteArray)} {k : Int} {s : ByteArray} (h : rightD bs ps = true) (h0 : 0 ≤ k) (h1 : k < bs.length) (hs : s.size ≤ 4096) (hp : ps.length ≠ 2048) : rightD bs (ps ++ [(k, trimS s)]) = true := by
  rw [rightD_iff] at h ⊢
  obtain ⟨⟨a1, a2, a3⟩, a4, a5⟩ := h
  refine ⟨⟨a1, a2, by rw [List.length_append]; simp; omega⟩, a4, fun p hp => ?_⟩
  rcases List.mem_append.1 hp with h | h
  · exact a5 p h
  · obtain rfl : p = (k, trimS s) := by simpa using h
    exact (okW_iff _ _).2 ⟨⟨h0, h1⟩, okS_trim hs⟩

theorem readS_ok {bs : List ByteArray} {ps : List (Int × ByteArray)} {k : Int} (h : checkE bs ps k = 0) : readS bs ps k = tellsS bs ps k.toNat := if_pos h

/-- Behind a flush a block tells what it told. -/
theorem readS_flush {bs : List ByteArray} {ps : List (Int × ByteArray)} {k : Int} (h : rightD bs ps = true) (h0 : 0 ≤ k) (h1 : k < bs.length) : checkE (flushL bs ps) [] k = 0 ∧ readS (flushL bs ps) [] k = readS bs ps k := by
  have hc : checkE (flushL bs ps) [] k = 0 := checkE_ok (flushL_right h) h0 (by rw [flushL_length h]; exact h1)
  refine ⟨hc, ?_⟩
  rw [readS_ok hc, readS_ok (checkE_ok h h0 h1)]
  unfold flushL
  rw [if_pos h]
  exact flush_tells h k.toNat

theorem crashA_none {bs : List ByteArray} (h : rightD bs [] = true) (m : Nat → Int) : crashA m bs [] = bs := by
  unfold crashA
  rw [if_pos h]; rfl

theorem rightE_ok {bs : List ByteArray} {ps : List (Int × ByteArray)} (h : rightD bs ps = true) : rightE bs ps = 0 := if_pos h

set_option maxRecDepth 20000 in
set_option maxHeartbeats 4000000 in
theorem deviceTells_walk (a a' : Option Addr) (c c' : Nat) (bs : List ByteArray) (ps : List (Int × ByteArray)) (k o : Int) (s : ByteArray) (am : Option Addr) (cm : Nat) (ms : List Int) (w : World) (hS : IsS w a c bs) (hP : IsP w a' c' ps) (hk6 : (Lit.int .i64 k).wf = true) (ho6 : (Lit.int .i64 o).wf = true) (hs : s.size ≤ maxLen) (hI : IsI w am cm ms) :
    Calls Try.prog 7 #[.agg #[.slice a bs.length c, .slice a' ps.length c'], .int .i64 k, .int .i64 o, .string s, .slice am ms.length cm] w fun e w' => e = .returned (.bool true) ∧ Below w.heap.size w w' := by
  have hB0 : Below w.heap.size w (w.alloc (.cells #[.slice a bs.length c, .slice a' ps.length c'] 25)) := (Below.refl _ _).alloc (Nat.le_refl _) _
  have cf := few_any a a' c c' bs ps _ (hS.below hB0) (hP.below hB0)
  obtain ⟨ds, hds⟩ : ∃ ds, ds = fewS bs := ⟨_, rfl⟩
  obtain ⟨qs, hqs⟩ : ∃ qs, qs = fewP ps := ⟨_, rfl⟩
  have HS : Hid (IsS w a c ds) := by rw [hds]; exact hS.few
  have HP : Hid (IsP w a' c' qs) := by rw [hqs]; exact hP.few
  have HI : Hid (IsI w am cm ms) := hI
  rw [← hds, ← hqs] at cf
  have hk7 : -9223372036854775808 ≤ k ∧ k ≤ 9223372036854775807 := by
    have h := hk6
    simp only [Lit.wf, Bool.and_eq_true, decide_eq_true_eq] at h
    exact h
  clear hS hP hds hqs hI hk6 ho6
  have cR : ∀ W, Below w.heap.size w W → Calls Try.prog 15 #[.agg #[.slice a ds.length c, .slice a' qs.length c'], .int .i64 o] W fun r w' => r = .returned (.tuple #[.string (readS ds qs o), .int .i64 (checkE ds qs o)]) ∧ Below W.heap.size W w' :=
    fun W h => read_any a a' c c' ds qs o W (HS.out.below h) (HP.out.below h)
  have cW : ∀ W, Below w.heap.size w W → Calls Try.prog 16 #[.agg #[.slice a ds.length c, .slice a' qs.length c'], .int .i64 k, .string s] W fun e w' => ∃ b d b' d', e = .returned (.tuple #[.agg #[.slice b (writeB ds qs k s).length d, .slice b' (writeP ds qs k s).length d'], .int .i64 (writeE ds qs k s)]) ∧ IsS w' b d (writeB ds qs k s) ∧ IsP w' b' d' (writeP ds qs k s) ∧ Below W.heap.size W w' :=
    fun W h => write_any a a' c c' ds qs k s W (HS.out.below h) (HP.out.below h) hk7 hs
  by_cases hgood : checkE ds qs o = 0 ∧ writeE ds qs k s = 0
  · obtain ⟨hE, hF⟩ := hgood
    obtain ⟨hck, hs4, hq2⟩ := writeE_zero hF
    obtain ⟨hr, hk0, hk1⟩ := checkE_zero hck
    obtain ⟨-, ho0, ho1⟩ := checkE_zero hE
    obtain ⟨wb, wp⟩ := write_ok hF
    obtain ⟨q1, hq1⟩ : ∃ q1, q1 = qs ++ [(k, trimS s)] := ⟨_, rfl⟩
    have hr1 : rightD ds q1 = true := by rw [hq1]; exact right_written hr hk0 hk1 hs4 hq2
    obtain ⟨y, hy⟩ : ∃ y, y = trimS s := ⟨_, rfl⟩
    obtain ⟨t, ht⟩ : ∃ t, t = readS ds q1 o := ⟨_, rfl⟩
    obtain ⟨was, hwas⟩ : ∃ was, was = readS ds qs o := ⟨_, rfl⟩
    have hyk : readS ds q1 k = y := by
      rw [readS_ok (checkE_ok hr1 hk0 hk1), hq1, hy]
      obtain ⟨m, rfl⟩ : ∃ m : Nat, k = m := ⟨k.toNat, by omega⟩
      exact tells_write_same ds qs m (trimS s)
    have hto : ¬ k = o → t = was := by
      intro hne
      rw [ht, hwas, readS_ok (checkE_ok hr1 ho0 ho1), readS_ok hE, hq1]
      obtain ⟨m, rfl⟩ : ∃ m : Nat, k = m := ⟨k.toNat, by omega⟩
      obtain ⟨j, rfl⟩ : ∃ j : Nat, o = j := ⟨o.toNat, by omega⟩
      exact tells_write_other ds qs m j (trimS s) (by omega)
    rw [wb, wp, hF, ← hq1] at cW
    rw [hE, ← hwas] at cR
    obtain ⟨xs, hxs⟩ : ∃ xs, xs = flushL ds q1 := ⟨_, rfl⟩
    have hrx : rightD xs [] = true := by rw [hxs]; exact flushL_right hr1
    obtain ⟨u1, u2⟩ := readS_flush hr1 hk0 hk1
    obtain ⟨v1, v2⟩ := readS_flush hr1 ho0 ho1
    rw [← hxs] at u1 u2 v1 v2
    have cS : ∀ W b d b' d', IsS W b d ds → IsP W b' d' q1 → Calls Try.prog 15 #[.agg #[.slice b ds.length d, .slice b' q1.length d'], .int .i64 k] W fun r w' => r = .returned (.tuple #[.string y, .int .i64 0]) ∧ Below W.heap.size W w' := by
      intro W b d b' d' h1 h2
      have := read_any b b' d d' ds q1 k W h1 h2
      rw [hyk, checkE_ok hr1 hk0 hk1] at this
      exact this
    have cT : ∀ W b d b' d', IsS W b d ds → IsP W b' d' q1 → Calls Try.prog 15 #[.agg #[.slice b ds.length d, .slice b' q1.length d'], .int .i64 o] W fun r w' => r = .returned (.tuple #[.string t, .int .i64 0]) ∧ Below W.heap.size W w' := by
      intro W b d b' d' h1 h2
      have := read_any b b' d d' ds q1 o W h1 h2
      rw [← ht, checkE_ok hr1 ho0 ho1] at this
      exact this
    have cX : ∀ W b d b' d', IsS W b d ds → IsP W b' d' q1 → Calls Try.prog 17 #[.agg #[.slice b ds.length d, .slice b' q1.length d']] W fun r w' => ∃ b d, r = .returned (.tuple #[.agg #[.slice b xs.length d, .slice none 0 0], .int .i64 0]) ∧ IsS w' b d xs ∧ Below W.heap.size W w' := by
      intro W b d b' d' h1 h2
      have := flush_any b b' d d' ds q1 W h1 h2
      rw [← hxs, rightE_ok hr1] at this
      exact this
    have cY : ∀ W b d, Below w.heap.size w W → IsS W b d xs → Calls Try.prog 21 #[.agg #[.slice b xs.length d, .slice none 0 0], .slice am ms.length cm] W fun r w' => ∃ b d, r = .returned (.tuple #[.agg #[.slice b xs.length d, .slice none 0 0], .int .i64 0]) ∧ IsS w' b d xs ∧ Below W.heap.size W w' := by
      intro W b d hW h1
      have := crash_any b none am d 0 cm xs [] ms W h1 (IsP_nil _) (HI.out.below hW)
      rw [crashA_none hrx, rightE_ok hrx] at this
      exact this
    have cU : ∀ W b d, IsS W b d xs → Calls Try.prog 15 #[.agg #[.slice b xs.length d, .slice none 0 0], .int .i64 k] W fun r w' => r = .returned (.tuple #[.string y, .int .i64 0]) ∧ Below W.heap.size W w' := by
      intro W b d h1
      have := read_any b none d 0 xs [] k W h1 (IsP_nil _)
      rw [u1, u2, hyk] at this
      exact this
    have cV : ∀ W b d, IsS W b d xs → Calls Try.prog 15 #[.agg #[.slice b xs.length d, .slice none 0 0], .int .i64 o] W fun r w' => r = .returned (.tuple #[.string t, .int .i64 0]) ∧ Below W.heap.size W w' := by
      intro W b d h1
      have := read_any b none d 0 xs [] o W h1 (IsP_nil _)
      rw [v1, v2, ← ht] at this
      exact this
    have cM : ∀ W, Calls Try.prog 22 #[.string ⟨#[]⟩, .string s, .int .i64 255] W fun e w' => e = .returned (.string y) ∧ Below W.heap.size W w' := by
      intro W
      have := mix_any ⟨#[]⟩ s 255 W (by unfold maxLen; decide) hs
      rw [mix_all _ _ hs4, ← hy] at this
      exact this
    have hlr : likeD xs xs [] [] = true := by unfold likeD; rw [decide_eq_true rfl]; rfl
    have hyy : (y.toList == y.toList) = true := str_eq_true rfl
    have htt : (t.toList == t.toList) = true := str_eq_true rfl
    have hkt : (k == o) = false → (t.toList == was.toList) = true := fun h => str_eq_true (hto (by simpa using h))
    clear hto hyk u1 u2 v1 v2 ht hwas hxs hy hq1 wb wp hE hF hck hr hk0 hk1 ho0 ho1 hs4 hq2
    have t1 : True := trivial
    have t2 : True := trivial
    have t3 : True := trivial
    have t4 : True := trivial
    have t5 : True := trivial
    have t6 : True := trivial
    cases hko : (k == o) with
    | true =>
      go_enter Try.func7, Try.ntmps7
      go_wp2_with (first
        | (go_at_call 9; refine cf.mono ?_; rintro e w1 ⟨rfl, hb1⟩; have hB := Below.tr hB0 hb1; obtain ⟨⟨q0, q1⟩, f0, f1⟩ := box_open hb1)
        | (have _t := t1; go_at_call 15; clear t1; refine (cR _ ((hB.setCell (p := ⟨w.heap.size, 0, none⟩) (Nat.le_refl _) _).setCell (p := ⟨w.heap.size, 1, none⟩) (Nat.le_refl _) _)).mono ?_; rintro e w2 ⟨rfl, hb2⟩; obtain ⟨r0, r1⟩ := box_set q0 q1 hb2; replace hB := below_set2 hB (Nat.le_refl _) hb2; clear q0 q1 f0 f1 hb2)
        | (go_at_call 16; refine (cW _ hB).mono ?_; rintro e w3 ⟨g, cg, g', cg', rfl, hG, hG', hb⟩; replace hB := Below.tr hB hb; replace hB := hB.alloc hB.size (.cells #[.slice g ds.length cg, .slice g' q1.length cg'] 25); have HG : Hid (IsS (w3.alloc (.cells #[.slice g ds.length cg, .slice g' q1.length cg'] 25)) g cg ds) := hG.below ((Below.refl _ _).alloc (Nat.le_refl _) _); have HG' : Hid (IsP (w3.alloc (.cells #[.slice g ds.length cg, .slice g' q1.length cg'] 25)) g' cg' q1) := hG'.below ((Below.refl _ _).alloc (Nat.le_refl _) _); clear hG hG' hb)
        | (have _t := t2; go_at_call 15; clear t2; refine (cS _ _ _ _ _ HG.out HG'.out).mono ?_; rintro e w4 ⟨rfl, hb⟩; obtain ⟨g0, g1⟩ := box_cells hb; replace hB := Below.tr hB hb; replace HG : Hid (IsS w4 g cg ds) := HG.out.below hb; replace HG' : Hid (IsP w4 g' cg' q1) := HG'.out.below hb; clear hb)
        | (have _t := t3; go_at_call 15; clear t3; refine (cT _ _ _ _ _ HG.out HG'.out).mono ?_; rintro e w5 ⟨rfl, hb⟩; replace g0 := cell_below hb g0; replace g1 := cell_below hb g1; replace hB := Below.tr hB hb; replace HG : Hid (IsS w5 g cg ds) := HG.out.below hb; replace HG' : Hid (IsP w5 g' cg' q1) := HG'.out.below hb; clear hb)
        | (go_at_call 17; refine (cX _ _ _ _ _ HG.out HG'.out).mono ?_; rintro e w6 ⟨x, cx, rfl, hX, hb⟩; replace hB := Below.tr hB hb; replace hB := hB.alloc hB.size (.cells #[.slice x xs.length cx, .slice none 0 0] 25); replace g0 := cell_alloc (cell_below hb g0); replace g1 := cell_alloc (cell_below hb g1); replace HG : Hid (IsS (w6.alloc (.cells #[.slice x xs.length cx, .slice none 0 0] 25)) g cg ds) := (HG.out.below hb).below ((Below.refl _ _).alloc (Nat.le_refl _) _); replace HG' : Hid (IsP (w6.alloc (.cells #[.slice x xs.length cx, .slice none 0 0] 25)) g' cg' q1) := (HG'.out.below hb).below ((Below.refl _ _).alloc (Nat.le_refl _) _); have HX : Hid (IsS (w6.alloc (.cells #[.slice x xs.length cx, .slice none 0 0] 25)) x cx xs) := hX.below ((Below.refl _ _).alloc (Nat.le_refl _) _); clear hb hX)
        | (go_at_call 21; refine (cY _ _ _ hB HX.out).mono ?_; rintro e w7 ⟨z, cz, rfl, hZ, hb⟩; obtain ⟨x0, x1⟩ := box_cells hb; replace x0 := cell_alloc x0; replace x1 := cell_alloc x1; replace hB := Below.tr hB hb; replace hB := hB.alloc hB.size (.cells #[.slice z xs.length cz, .slice none 0 0] 25); replace g0 := cell_alloc (cell_below hb (g0 _)); replace g1 := cell_alloc (cell_below hb (g1 _)); replace HG : Hid (IsS (w7.alloc (.cells #[.slice z xs.length cz, .slice none 0 0] 25)) g cg ds) := (HG.out.below hb).below ((Below.refl _ _).alloc (Nat.le_refl _) _); replace HG' : Hid (IsP (w7.alloc (.cells #[.slice z xs.length cz, .slice none 0 0] 25)) g' cg' q1) := (HG'.out.below hb).below ((Below.refl _ _).alloc (Nat.le_refl _) _); replace HX : Hid (IsS (w7.alloc (.cells #[.slice z xs.length cz, .slice none 0 0] 25)) x cx xs) := (HX.out.below hb).below ((Below.refl _ _).alloc (Nat.le_refl _) _); have HZ : Hid (IsS (w7.alloc (.cells #[.slice z xs.length cz, .slice none 0 0] 25)) z cz xs) := hZ.below ((Below.refl _ _).alloc (Nat.le_refl _) _); clear hb hZ)
        | (have _t := t4; go_at_call 15; clear t4; refine (cU _ _ _ HZ.out).mono ?_; rintro e w8 ⟨rfl, hb⟩; obtain ⟨z0, z1⟩ := box_cells hb; replace x0 := x0 (.cells #[.slice z xs.length cz, .slice none 0 0] 25); replace x1 := x1 (.cells #[.slice z xs.length cz, .slice none 0 0] 25); replace g0 := g0 (.cells #[.slice z xs.length cz, .slice none 0 0] 25); replace g1 := g1 (.cells #[.slice z xs.length cz, .slice none 0 0] 25); replace x0 := cell_below hb x0; replace x1 := cell_below hb x1; replace g0 := cell_below hb g0; replace g1 := cell_below hb g1; replace hB := Below.tr hB hb; replace HG : Hid (IsS w8 g cg ds) := HG.out.below hb; replace HG' : Hid (IsP w8 g' cg' q1) := HG'.out.below hb; replace HX : Hid (IsS w8 x cx xs) := HX.out.below hb; replace HZ : Hid (IsS w8 z cz xs) := HZ.out.below hb; clear hb)
        | (have _t := t5; go_at_call 15; clear t5; refine (cV _ _ _ HZ.out).mono ?_; rintro e w9 ⟨rfl, hb⟩; replace x0 := cell_below hb x0; replace x1 := cell_below hb x1; replace z0 := cell_below hb z0; replace z1 := cell_below hb z1; replace g0 := cell_below hb g0; replace g1 := cell_below hb g1; replace hB := Below.tr hB hb; replace HG : Hid (IsS w9 g cg ds) := HG.out.below hb; replace HG' : Hid (IsP w9 g' cg' q1) := HG'.out.below hb; replace HX : Hid (IsS w9 x cx xs) := HX.out.below hb; replace HZ : Hid (IsS w9 z cz xs) := HZ.out.below hb; clear hb)
        | (go_at_call 12; refine (alive_any _).mono ?_; rintro e w10 ⟨rfl, hb⟩; replace x0 := cell_below hb x0; replace x1 := cell_below hb x1; replace z0 := cell_below hb z0; replace z1 := cell_below hb z1; replace g0 := cell_below hb g0; replace g1 := cell_below hb g1; replace hB := Below.tr hB hb; replace HG : Hid (IsS w10 g cg ds) := HG.out.below hb; replace HG' : Hid (IsP w10 g' cg' q1) := HG'.out.below hb; replace HX : Hid (IsS w10 x cx xs) := HX.out.below hb; replace HZ : Hid (IsS w10 z cz xs) := HZ.out.below hb; clear hb)
        | (go_at_call 22; refine (cM _).mono ?_; rintro e w11 ⟨rfl, hb⟩; replace x0 := cell_below hb x0; replace x1 := cell_below hb x1; replace z0 := cell_below hb z0; replace z1 := cell_below hb z1; replace g0 := cell_below hb g0; replace g1 := cell_below hb g1; replace hB := Below.tr hB hb; replace HG : Hid (IsS w11 g cg ds) := HG.out.below hb; replace HG' : Hid (IsP w11 g' cg' q1) := HG'.out.below hb; replace HX : Hid (IsS w11 x cx xs) := HX.out.below hb; replace HZ : Hid (IsS w11 z cz xs) := HZ.out.below hb; clear hb)
        | (go_at_call 11; refine (like_any x none z none cx 0 cz 0 xs xs [] [] _ HX.out (IsP_nil _) HZ.out (IsP_nil _)).mono ?_; rw [hlr]; rintro e w12 ⟨rfl, hb⟩; replace x0 := cell_below hb x0; replace x1 := cell_below hb x1; replace z0 := cell_below hb z0; replace z1 := cell_below hb z1; replace g0 := cell_below hb g0; replace g1 := cell_below hb g1; replace hB := Below.tr hB hb; replace HG : Hid (IsS w12 g cg ds) := HG.out.below hb; replace HG' : Hid (IsP w12 g' cg' q1) := HG'.out.below hb; replace HX : Hid (IsS w12 x cx xs) := HX.out.below hb; replace HZ : Hid (IsS w12 z cz xs) := HZ.out.below hb; clear hb)
        | (have _t := t6; go_at_call 13; clear t6; refine (right_any g g' cg cg' ds q1 _ HG.out HG'.out).mono ?_; rw [hr1]; rintro e w13 ⟨rfl, hb⟩; replace x0 := cell_below hb x0; replace x1 := cell_below hb x1; replace z0 := cell_below hb z0; replace z1 := cell_below hb z1; replace g0 := cell_below hb g0; replace g1 := cell_below hb g1; replace hB := Below.tr hB hb; replace HG : Hid (IsS w13 g cg ds) := HG.out.below hb; replace HG' : Hid (IsP w13 g' cg' q1) := HG'.out.below hb; replace HX : Hid (IsS w13 x cx xs) := HX.out.below hb; replace HZ : Hid (IsS w13 z cz xs) := HZ.out.below hb; clear hb)
        | (go_at_call 13; refine (right_any z none cz 0 xs [] _ HZ.out (IsP_nil _)).mono ?_; rw [hrx]; rintro e w14 ⟨rfl, hb⟩; replace x0 := cell_below hb x0; replace x1 := cell_below hb x1; replace z0 := cell_below hb z0; replace z1 := cell_below hb z1; replace g0 := cell_below hb g0; replace g1 := cell_below hb g1; replace hB := Below.tr hB hb; replace HG : Hid (IsS w14 g cg ds) := HG.out.below hb; replace HG' : Hid (IsP w14 g' cg' q1) := HG'.out.below hb; replace HX : Hid (IsS w14 x cx xs) := HX.out.below hb; replace HZ : Hid (IsS w14 z cz xs) := HZ.out.below hb; clear hb))
      go_ret
      exact ⟨rfl, hB⟩
    | false =>
      have htw := hkt hko
      go_enter Try.func7, Try.ntmps7
      go_wp2_with (first
        | (go_at_call 9; refine cf.mono ?_; rintro e w1 ⟨rfl, hb1⟩; have hB := Below.tr hB0 hb1; obtain ⟨⟨q0, q1⟩, f0, f1⟩ := box_open hb1)
        | (have _t := t1; go_at_call 15; clear t1; refine (cR _ ((hB.setCell (p := ⟨w.heap.size, 0, none⟩) (Nat.le_refl _) _).setCell (p := ⟨w.heap.size, 1, none⟩) (Nat.le_refl _) _)).mono ?_; rintro e w2 ⟨rfl, hb2⟩; obtain ⟨r0, r1⟩ := box_set q0 q1 hb2; replace hB := below_set2 hB (Nat.le_refl _) hb2; clear q0 q1 f0 f1 hb2)
        | (go_at_call 16; refine (cW _ hB).mono ?_; rintro e w3 ⟨g, cg, g', cg', rfl, hG, hG', hb⟩; replace hB := Below.tr hB hb; replace hB := hB.alloc hB.size (.cells #[.slice g ds.length cg, .slice g' q1.length cg'] 25); have HG : Hid (IsS (w3.alloc (.cells #[.slice g ds.length cg, .slice g' q1.length cg'] 25)) g cg ds) := hG.below ((Below.refl _ _).alloc (Nat.le_refl _) _); have HG' : Hid (IsP (w3.alloc (.cells #[.slice g ds.length cg, .slice g' q1.length cg'] 25)) g' cg' q1) := hG'.below ((Below.refl _ _).alloc (Nat.le_refl _) _); clear hG hG' hb)
        | (have _t := t2; go_at_call 15; clear t2; refine (cS _ _ _ _ _ HG.out HG'.out).mono ?_; rintro e w4 ⟨rfl, hb⟩; obtain ⟨g0, g1⟩ := box_cells hb; replace hB := Below.tr hB hb; replace HG : Hid (IsS w4 g cg ds) := HG.out.below hb; replace HG' : Hid (IsP w4 g' cg' q1) := HG'.out.below hb; clear hb)
        | (have _t := t3; go_at_call 15; clear t3; refine (cT _ _ _ _ _ HG.out HG'.out).mono ?_; rintro e w5 ⟨rfl, hb⟩; replace g0 := cell_below hb g0; replace g1 := cell_below hb g1; replace hB := Below.tr hB hb; replace HG : Hid (IsS w5 g cg ds) := HG.out.below hb; replace HG' : Hid (IsP w5 g' cg' q1) := HG'.out.below hb; clear hb)
        | (go_at_call 17; refine (cX _ _ _ _ _ HG.out HG'.out).mono ?_; rintro e w6 ⟨x, cx, rfl, hX, hb⟩; replace hB := Below.tr hB hb; replace hB := hB.alloc hB.size (.cells #[.slice x xs.length cx, .slice none 0 0] 25); replace g0 := cell_alloc (cell_below hb g0); replace g1 := cell_alloc (cell_below hb g1); replace HG : Hid (IsS (w6.alloc (.cells #[.slice x xs.length cx, .slice none 0 0] 25)) g cg ds) := (HG.out.below hb).below ((Below.refl _ _).alloc (Nat.le_refl _) _); replace HG' : Hid (IsP (w6.alloc (.cells #[.slice x xs.length cx, .slice none 0 0] 25)) g' cg' q1) := (HG'.out.below hb).below ((Below.refl _ _).alloc (Nat.le_refl _) _); have HX : Hid (IsS (w6.alloc (.cells #[.slice x xs.length cx, .slice none 0 0] 25)) x cx xs) := hX.below ((Below.refl _ _).alloc (Nat.le_refl _) _); clear hb hX)
        | (go_at_call 21; refine (cY _ _ _ hB HX.out).mono ?_; rintro e w7 ⟨z, cz, rfl, hZ, hb⟩; obtain ⟨x0, x1⟩ := box_cells hb; replace x0 := cell_alloc x0; replace x1 := cell_alloc x1; replace hB := Below.tr hB hb; replace hB := hB.alloc hB.size (.cells #[.slice z xs.length cz, .slice none 0 0] 25); replace g0 := cell_alloc (cell_below hb (g0 _)); replace g1 := cell_alloc (cell_below hb (g1 _)); replace HG : Hid (IsS (w7.alloc (.cells #[.slice z xs.length cz, .slice none 0 0] 25)) g cg ds) := (HG.out.below hb).below ((Below.refl _ _).alloc (Nat.le_refl _) _); replace HG' : Hid (IsP (w7.alloc (.cells #[.slice z xs.length cz, .slice none 0 0] 25)) g' cg' q1) := (HG'.out.below hb).below ((Below.refl _ _).alloc (Nat.le_refl _) _); replace HX : Hid (IsS (w7.alloc (.cells #[.slice z xs.length cz, .slice none 0 0] 25)) x cx xs) := (HX.out.below hb).below ((Below.refl _ _).alloc (Nat.le_refl _) _); have HZ : Hid (IsS (w7.alloc (.cells #[.slice z xs.length cz, .slice none 0 0] 25)) z cz xs) := hZ.below ((Below.refl _ _).alloc (Nat.le_refl _) _); clear hb hZ)
        | (have _t := t4; go_at_call 15; clear t4; refine (cU _ _ _ HZ.out).mono ?_; rintro e w8 ⟨rfl, hb⟩; obtain ⟨z0, z1⟩ := box_cells hb; replace x0 := x0 (.cells #[.slice z xs.length cz, .slice none 0 0] 25); replace x1 := x1 (.cells #[.slice z xs.length cz, .slice none 0 0] 25); replace g0 := g0 (.cells #[.slice z xs.length cz, .slice none 0 0] 25); replace g1 := g1 (.cells #[.slice z xs.length cz, .slice none 0 0] 25); replace x0 := cell_below hb x0; replace x1 := cell_below hb x1; replace g0 := cell_below hb g0; replace g1 := cell_below hb g1; replace hB := Below.tr hB hb; replace HG : Hid (IsS w8 g cg ds) := HG.out.below hb; replace HG' : Hid (IsP w8 g' cg' q1) := HG'.out.below hb; replace HX : Hid (IsS w8 x cx xs) := HX.out.below hb; replace HZ : Hid (IsS w8 z cz xs) := HZ.out.below hb; clear hb)
        | (have _t := t5; go_at_call 15; clear t5; refine (cV _ _ _ HZ.out).mono ?_; rintro e w9 ⟨rfl, hb⟩; replace x0 := cell_below hb x0; replace x1 := cell_below hb x1; replace z0 := cell_below hb z0; replace z1 := cell_below hb z1; replace g0 := cell_below hb g0; replace g1 := cell_below hb g1; replace hB := Below.tr hB hb; replace HG : Hid (IsS w9 g cg ds) := HG.out.below hb; replace HG' : Hid (IsP w9 g' cg' q1) := HG'.out.below hb; replace HX : Hid (IsS w9 x cx xs) := HX.out.below hb; replace HZ : Hid (IsS w9 z cz xs) := HZ.out.below hb; clear hb)
        | (go_at_call 12; refine (alive_any _).mono ?_; rintro e w10 ⟨rfl, hb⟩; replace x0 := cell_below hb x0; replace x1 := cell_below hb x1; replace z0 := cell_below hb z0; replace z1 := cell_below hb z1; replace g0 := cell_below hb g0; replace g1 := cell_below hb g1; replace hB := Below.tr hB hb; replace HG : Hid (IsS w10 g cg ds) := HG.out.below hb; replace HG' : Hid (IsP w10 g' cg' q1) := HG'.out.below hb; replace HX : Hid (IsS w10 x cx xs) := HX.out.below hb; replace HZ : Hid (IsS w10 z cz xs) := HZ.out.below hb; clear hb)
        | (go_at_call 22; refine (cM _).mono ?_; rintro e w11 ⟨rfl, hb⟩; replace x0 := cell_below hb x0; replace x1 := cell_below hb x1; replace z0 := cell_below hb z0; replace z1 := cell_below hb z1; replace g0 := cell_below hb g0; replace g1 := cell_below hb g1; replace hB := Below.tr hB hb; replace HG : Hid (IsS w11 g cg ds) := HG.out.below hb; replace HG' : Hid (IsP w11 g' cg' q1) := HG'.out.below hb; replace HX : Hid (IsS w11 x cx xs) := HX.out.below hb; replace HZ : Hid (IsS w11 z cz xs) := HZ.out.below hb; clear hb)
        | (go_at_call 11; refine (like_any x none z none cx 0 cz 0 xs xs [] [] _ HX.out (IsP_nil _) HZ.out (IsP_nil _)).mono ?_; rw [hlr]; rintro e w12 ⟨rfl, hb⟩; replace x0 := cell_below hb x0; replace x1 := cell_below hb x1; replace z0 := cell_below hb z0; replace z1 := cell_below hb z1; replace g0 := cell_below hb g0; replace g1 := cell_below hb g1; replace hB := Below.tr hB hb; replace HG : Hid (IsS w12 g cg ds) := HG.out.below hb; replace HG' : Hid (IsP w12 g' cg' q1) := HG'.out.below hb; replace HX : Hid (IsS w12 x cx xs) := HX.out.below hb; replace HZ : Hid (IsS w12 z cz xs) := HZ.out.below hb; clear hb)
        | (have _t := t6; go_at_call 13; clear t6; refine (right_any g g' cg cg' ds q1 _ HG.out HG'.out).mono ?_; rw [hr1]; rintro e w13 ⟨rfl, hb⟩; replace x0 := cell_below hb x0; replace x1 := cell_below hb x1; replace z0 := cell_below hb z0; replace z1 := cell_below hb z1; replace g0 := cell_below hb g0; replace g1 := cell_below hb g1; replace hB := Below.tr hB hb; replace HG : Hid (IsS w13 g cg ds) := HG.out.below hb; replace HG' : Hid (IsP w13 g' cg' q1) := HG'.out.below hb; replace HX : Hid (IsS w13 x cx xs) := HX.out.below hb; replace HZ : Hid (IsS w13 z cz xs) := HZ.out.below hb; clear hb)
        | (go_at_call 13; refine (right_any z none cz 0 xs [] _ HZ.out (IsP_nil _)).mono ?_; rw [hrx]; rintro e w14 ⟨rfl, hb⟩; replace x0 := cell_below hb x0; replace x1 := cell_below hb x1; replace z0 := cell_below hb z0; replace z1 := cell_below hb z1; replace g0 := cell_below hb g0; replace g1 := cell_below hb g1; replace hB := Below.tr hB hb; replace HG : Hid (IsS w14 g cg ds) := HG.out.below hb; replace HG' : Hid (IsP w14 g' cg' q1) := HG'.out.below hb; replace HX : Hid (IsS w14 x cx xs) := HX.out.below hb; replace HZ : Hid (IsS w14 z cz xs) := HZ.out.below hb; clear hb))
      go_ret
      exact ⟨rfl, hB⟩
  · have hwas : ¬ checkE ds qs o = 0 → readS ds qs o = ⟨#[]⟩ := fun h => readS_bad h
    generalize checkE ds qs o = E at cR hgood hwas
    generalize readS ds qs o = was at cR hwas
    generalize writeE ds qs k s = F at cW hgood
    generalize writeB ds qs k s = B1 at cW
    generalize writeP ds qs k s = P1 at cW
    by_cases hE : E = 0
    · have hF : ¬ F = 0 := fun h => hgood ⟨hE, h⟩
      subst hE
      clear hwas hgood
      go_enter Try.func7, Try.ntmps7
      go_wp2_with (first
        | (go_at_call 9; refine cf.mono ?_; rintro e w1 ⟨rfl, hb1⟩; have hB1 := Below.tr hB0 hb1; obtain ⟨⟨q0, q1⟩, f0, f1⟩ := box_open hb1)
        | (go_at_call 15; refine (cR _ ((hB1.setCell (p := ⟨w.heap.size, 0, none⟩) (Nat.le_refl _) _).setCell (p := ⟨w.heap.size, 1, none⟩) (Nat.le_refl _) _)).mono ?_; rintro e w2 ⟨rfl, hb2⟩; obtain ⟨r0, r1⟩ := box_set q0 q1 hb2; have hB2 := below_set2 hB1 (Nat.le_refl _) hb2; clear q0 q1 f0 f1 hb2)
        | (go_at_call 16; refine (cW _ hB2).mono ?_; rintro e w3 ⟨g, cg, g', cg', rfl, hG, hG', hb3⟩; have hB3 := Below.tr hB2 hb3; clear hG hG')
        | (go_at_call 12; refine (alive_any _).mono ?_; rintro e w4 ⟨rfl, hb4⟩; have hB4 := Below.tr (hB3.alloc hB3.size _) hb4))
      go_ret
      exact ⟨rfl, hB4⟩
    · have hw := hwas hE
      subst hw
      clear hwas hgood
      go_enter Try.func7, Try.ntmps7
      go_wp2_with (first
        | (go_at_call 9; refine cf.mono ?_; rintro e w1 ⟨rfl, hb1⟩; have hB1 := Below.tr hB0 hb1; obtain ⟨⟨q0, q1⟩, f0, f1⟩ := box_open hb1)
        | (go_at_call 15; refine (cR _ ((hB1.setCell (p := ⟨w.heap.size, 0, none⟩) (Nat.le_refl _) _).setCell (p := ⟨w.heap.size, 1, none⟩) (Nat.le_refl _) _)).mono ?_; rintro e w2 ⟨rfl, hb2⟩; obtain ⟨r0, r1⟩ := box_set q0 q1 hb2; have hB2 := below_set2 hB1 (Nat.le_refl _) hb2; clear q0 q1 f0 f1 hb2)
        | (go_at_call 16; refine (cW _ hB2).mono ?_; rintro e w3 ⟨g, cg, g', cg', rfl, hG, hG', hb3⟩; have hB3 := Below.tr hB2 hb3; clear hG hG')
        | (go_at_call 12; refine (alive_any _).mono ?_; rintro e w4 ⟨rfl, hb4⟩; have hB4 := Below.tr (hB3.alloc hB3.size _) hb4))
      go_ret
      exact ⟨rfl, hB4⟩

end Go.Proofs.Ytogadbckiaghcaa

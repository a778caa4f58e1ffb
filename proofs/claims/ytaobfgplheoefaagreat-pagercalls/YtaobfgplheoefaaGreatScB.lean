/-
  Texts laid together: PagerCallsOf PagerAlive PowerOpen.
-/
import Derived.Test.YtaobfgplheoefaaGreatScA
import Derived.Test.YtaobfgplheoefaaGreatSfD
import Derived.Lib.SmallJoins
namespace Go.Proofs.YtaobfgplheoefaaGreat
open Go.RowKit Plain
set_option linter.unusedVariables false
def PowA (X : World) (z : Nat) (a a' : Option Addr) (n n' c c' : Nat) (l : Int) (bs : List ByteArray) (ps : List (Int × ByteArray)) : Prop :=
 BoxL X z [.slice a n c, .slice a' n' c', .int .i64 l] ∧ IsS X a c bs ∧ IsP X a' c' ps ∧ n = bs.length ∧ n' = ps.length
section
variable {X Y : World} {z : Nat} {a a' b b' : Option Addr} {n n' c c' m m' d d' : Nat} {l : Int} {bs : List ByteArray} {ps : List (Int × ByteArray)}
theorem PowA.below (p : PowA X z a a' n n' c c' l bs ps) (hb : Below X.heap.size X Y) : PowA Y z a a' n n' c c' l bs ps := ⟨p.1.below hb, p.2.1.below hb, p.2.2.1.below hb, p.2.2.2⟩
theorem PowA.next (p : PowA X z a a' n n' c c' l bs ps) (hb : Below X.heap.size X Y) (o : Obj) : PowA (Y.alloc o) z a a' n n' c c' l bs ps := (p.below hb).below ((Below.refl _ _).alloc (Nat.le_refl _) _)
theorem powA_new {t : TypeId} (hS : IsS X a c bs) (hP : IsP X a' c' ps) (hn : n = bs.length) (hn' : n' = ps.length) : PowA (X.alloc (.cells #[.slice a n c, .slice a' n' c', .int .i64 l] t)) X.heap.size a a' n n' c c' l bs ps :=
 ⟨boxL_new X [_, _, _] _ rfl, hS.below ((Below.refl _ _).alloc (Nat.le_refl _) _), hP.below ((Below.refl _ _).alloc (Nat.le_refl _) _), hn, hn'⟩
theorem PowA.cells (p : PowA X z a a' n n' c c' l bs ps) : X.cell? ⟨z, 0, none⟩ = some (.slice a n c) ∧ X.cell? ⟨z, 1, none⟩ = some (.slice a' n' c') ∧ X.cell? ⟨z, 2, none⟩ = some (.int .i64 l) := ⟨p.1.1 0 _ rfl, p.1.1 1 _ rfl, p.1.1 2 _ rfl⟩
theorem PowA.like {q : Nat} (p : PowA X z a a' n n' c c' l bs ps) (r : PowA X q b b' m m' d d' l bs ps) :
  Calls Tryz.prog 17 #[.agg #[.slice a n c, .slice a' n' c', .int .i64 l], .agg #[.slice b m d, .slice b' m' d', .int .i64 l]] X fun e w' => e = .returned (.bool true) ∧ Below X.heap.size X w' :=
 likePower_same a a' b b' n n' c c' m m' d d' l bs ps X ⟨p.2.2.2.1, p.2.2.2.2, r.2.2.2.1, r.2.2.2.2⟩ p.2.1 p.2.2.1 r.2.1 r.2.2.1
end
theorem cs_long {l : Int} {bs : List ByteArray} {ps : List (Int × ByteArray)} (hl0 : ¬ l = 0) (hr : rightD bs ps = false) : csE l bs ps = 1 ∧ ctL l (csE l bs ps) = l ∧ csB l bs ps = bs ∧ csP l bs ps = ps := by
 have e1 : rightE bs ps = 1 := by unfold rightE; rw [if_neg (by rw [hr]; decide)]
 have e : csE l bs ps = 1 := by unfold csE ctE; rw [if_neg hl0, e1]
 refine ⟨e, ?_, ?_, ?_⟩
 ·
  rw [e]; unfold ctL; rw [if_neg (by omega)]
 ·
  unfold csB ctV flB; rw [if_neg hl0, e1, if_neg (by omega)]
 ·
  unfold csP ctV flP; rw [if_neg hl0, e1, if_neg (by omega)]
set_option maxRecDepth 20000 in
set_option maxHeartbeats 8000000 in
theorem pagerCalls_of (cA : ∀ w : World, Calls Tryz.prog 8 #[] w fun e w' => e = .returned (.bool true) ∧ Below w.heap.size w w')
  (cM : ∀ (a a' : Option Addr) (n n' c c' : Nat) (w : World), n ≤ maxLen → n' ≤ maxLen → Calls Tryz.prog 11 #[.agg #[.slice a n c, .slice a' n' c']] w fun e w' => e = .returned (.bool (decide (n ≤ 200 ∧ n' ≤ 200))) ∧ Below w.heap.size w w')
  (a a' : Option Addr) (c c' : Nat) (bs : List ByteArray) (ps : List (Int × ByteArray)) (l k : Int) (s : ByteArray) (w : World) (hS : IsS w a c bs) (hP : IsP w a' c' ps) (h64 : -9223372036854775808 ≤ l ∧ l ≤ 9223372036854775807) (hk6 : -9223372036854775808 ≤ k ∧ k ≤ 9223372036854775807) (hs : s.size ≤ maxLen) :
  Calls Tryz.prog 5 #[.agg #[.slice a bs.length c, .slice a' ps.length c', .int .i64 l], .int .i64 k, .string s] w fun e w' => e = .returned (.bool true) ∧ Below w.heap.size w w' := by
 obtain ⟨n, hn⟩ : ∃ n, n = bs.length := ⟨_, rfl⟩
 obtain ⟨n', hn'⟩ : ∃ n, n = ps.length := ⟨_, rfl⟩
 have cR : ∀ V, Below w.heap.size w V → Calls Tryz.prog 18 #[.agg #[.slice a n c, .slice a' n' c']] V fun e w' => e = .returned (.bool (rightD bs ps)) ∧ Below V.heap.size V w' := fun V hV => by
  have := refRight_any a a' c c' bs ps V (hS.below hV) (hP.below hV)
  rw [← hn, ← hn'] at this
  exact this
 rw [← hn, ← hn']
 have hnl : n ≤ maxLen := by rw [hn]; exact Nat.le_trans hS.1 hS.2.1
 have hnl' : n' ≤ maxLen := by rw [hn']; exact Nat.le_trans hP.1 hP.2.1
 have cB := fun W => cM a a' n n' c c' W hnl hnl'
 obtain ⟨W0, hW0⟩ : ∃ W0, W0 = w.alloc (.cells #[.slice a n c, .slice a' n' c', .int .i64 l] 47) := ⟨_, rfl⟩
 have HB : Below w.heap.size w W0 := by rw [hW0]; exact (Below.refl _ _).alloc (Nat.le_refl _) _
 have PP : PowA W0 w.heap.size a a' n n' c c' l bs ps := by rw [hW0]; exact powA_new hS hP hn hn'
 clear cM
 by_cases hsm : n ≤ 200 ∧ n' ≤ 200
 ·
  rw [decide_eq_true hsm] at cB
  have h1 : n ≤ 4096 := by omega
  have h2 : n' ≤ 4096 := by omega
  have cW := fun V (hV : Below w.heap.size w V) => pagerWrite_any a a' n n' c c' l bs ps k s V hn hn' (hS.below hV) (hP.below hV) h1 h2 h64 hk6 hs
  have cF := fun V (hV : Below w.heap.size w V) => pagerFlush_any a a' n n' c c' l bs ps V hn hn' (hS.below hV) (hP.below hV) h1 h2 h64
  have tk1 : True := trivial
  have tk2 : True := trivial
  have tk3 : True := trivial
  by_cases hl0 : l = 0
  ·
   subst hl0
   have e1 : ctL 0 140 = 0 := rfl
   have w1 : cwE 0 bs ps k s = 140 := rfl
   have w2 : cwB 0 bs ps k s = bs := rfl
   have w3 : cwP 0 bs ps k s = ps := rfl
   have f1 : csE 0 bs ps = 140 := rfl
   have f2 : csB 0 bs ps = bs := rfl
   have f3 : csP 0 bs ps = ps := rfl
   rw [w1, w2, w3, e1] at cW
   rw [f1, f2, f3, e1] at cF
   clear e1 w1 w2 w3 f1 f2 f3 hn hn' hS hP hnl hnl' h1 h2 hs hk6 h64 hsm
   go_enter Tryz.func5, Tryz.ntmps5
   go_wp2_with (first
    | (go_at_call 11; rw [← hW0]; refine (cB _).mono ?_; rintro e w1 ⟨rfl, hb⟩; replace HB := Below.tr HB hb; replace PP := PP.below hb; clear hb; obtain ⟨d0, d1, d2⟩ := PP.cells)
    | (go_at_call 15; refine (cW _ HB).mono ?_; rintro e w2 ⟨xa, xn, xc, ya, yn, yc, en, en', rfl, iS, iP, hb⟩; have hC := (Below.refl w2.heap.size w2).alloc (Nat.le_refl _) (.cells #[.slice xa xn xc, .slice ya yn yc, .int .i64 0] 47); replace HB := Below.tr (Below.tr HB hb) hC; replace PP := PP.next hb (.cells #[.slice xa xn xc, .slice ya yn yc, .int .i64 0] 47); have PX := powA_new (t := 47) (l := 0) iS iP en en'; clear hb hC iS iP en en' d0 d1 d2; obtain ⟨d0, d1, d2⟩ := PP.cells)
    | (go_at_call 16; refine (cF _ HB).mono ?_; rintro e w3 ⟨ua, un, uc, va, vn, vc, en, en', rfl, iS, iP, hb⟩; have hC := (Below.refl w3.heap.size w3).alloc (Nat.le_refl _) (.cells #[.slice ua un uc, .slice va vn vc, .int .i64 0] 47); replace HB := Below.tr (Below.tr HB hb) hC; replace PP := PP.next hb (.cells #[.slice ua un uc, .slice va vn vc, .int .i64 0] 47); replace PX := PX.next hb (.cells #[.slice ua un uc, .slice va vn vc, .int .i64 0] 47); have PY := powA_new (t := 47) (l := 0) iS iP en en'; clear hb hC iS iP en en' d0 d1 d2; obtain ⟨d0, d1, d2⟩ := PP.cells)
    | (go_at_call 8; refine (cA _).mono ?_; rintro e w4 ⟨rfl, hb⟩; replace HB := Below.tr HB hb; replace PP := PP.below hb; replace PX := PX.below hb; replace PY := PY.below hb; clear hb d0 d1 d2; obtain ⟨d0, d1, d2⟩ := PP.cells; obtain ⟨x0, x1, x2⟩ := PX.cells; obtain ⟨y0, y1, y2⟩ := PY.cells)
    | (go_at_call 17; have _t := tk1; refine (PX.like PP).mono ?_; rintro e w5 ⟨rfl, hb⟩; replace HB := Below.tr HB hb; replace PP := PP.below hb; replace PX := PX.below hb; replace PY := PY.below hb; clear hb d0 d1 d2 tk1; try clear x0 x1 x2 y0 y1 y2; obtain ⟨d0, d1, d2⟩ := PP.cells; obtain ⟨x0, x1, x2⟩ := PX.cells; obtain ⟨y0, y1, y2⟩ := PY.cells)
    | (go_at_call 17; refine (PY.like PP).mono ?_; rintro e w6 ⟨rfl, hb⟩; replace HB := Below.tr HB hb; clear hb)
    )
   go_ret
   exact ⟨ret_bool (by simp), HB⟩
  ·
   cases hr : rightD bs ps with
   | false =>
    rw [hr] at cR
    have e1 : blkE bs ps k = 1 := by unfold blkE; rw [if_neg (by rw [hr]; decide)]
    have eW := cw_long (bs := bs) (ps := ps) (k := k) (s := s) hl0 (E := 1) (by unfold writeE; rw [e1, if_neg (by omega)]) (by omega)
    have eF := cs_long hl0 hr
    rw [eW.2.1, eW.1, eW.2.2.1, eW.2.2.2] at cW
    rw [eF.2.1, eF.1, eF.2.2.1, eF.2.2.2] at cF
    clear e1 eW eF hr hn hn' hS hP hnl hnl' h1 h2 hs hk6 h64 hsm
    go_enter Tryz.func5, Tryz.ntmps5
    go_wp2_with (first
     | (go_at_call 11; rw [← hW0]; refine (cB _).mono ?_; rintro e w1 ⟨rfl, hb⟩; replace HB := Below.tr HB hb; replace PP := PP.below hb; clear hb; obtain ⟨d0, d1, d2⟩ := PP.cells)
     | (go_at_call 15; refine (cW _ HB).mono ?_; rintro e w2 ⟨xa, xn, xc, ya, yn, yc, en, en', rfl, iS, iP, hb⟩; have hC := (Below.refl w2.heap.size w2).alloc (Nat.le_refl _) (.cells #[.slice xa xn xc, .slice ya yn yc, .int .i64 l] 47); replace HB := Below.tr (Below.tr HB hb) hC; replace PP := PP.next hb (.cells #[.slice xa xn xc, .slice ya yn yc, .int .i64 l] 47); have PX := powA_new (t := 47) (l := l) iS iP en en'; clear hb hC iS iP en en' d0 d1 d2; obtain ⟨d0, d1, d2⟩ := PP.cells)
     | (go_at_call 16; refine (cF _ HB).mono ?_; rintro e w3 ⟨ua, un, uc, va, vn, vc, en, en', rfl, iS, iP, hb⟩; have hC := (Below.refl w3.heap.size w3).alloc (Nat.le_refl _) (.cells #[.slice ua un uc, .slice va vn vc, .int .i64 l] 47); replace HB := Below.tr (Below.tr HB hb) hC; replace PP := PP.next hb (.cells #[.slice ua un uc, .slice va vn vc, .int .i64 l] 47); replace PX := PX.next hb (.cells #[.slice ua un uc, .slice va vn vc, .int .i64 l] 47); have PY := powA_new (t := 47) (l := l) iS iP en en'; clear hb hC iS iP en en' d0 d1 d2; obtain ⟨d0, d1, d2⟩ := PP.cells)
     | (go_at_call 18; refine (cR _ HB).mono ?_; rintro e w7 ⟨rfl, hb⟩; replace HB := Below.tr HB hb; replace PP := PP.below hb; replace PX := PX.below hb; replace PY := PY.below hb; clear hb d0 d1 d2; obtain ⟨d0, d1, d2⟩ := PP.cells; obtain ⟨x0, x1, x2⟩ := PX.cells; obtain ⟨y0, y1, y2⟩ := PY.cells)
     | (go_at_call 8; refine (cA _).mono ?_; rintro e w4 ⟨rfl, hb⟩; replace HB := Below.tr HB hb; replace PP := PP.below hb; replace PX := PX.below hb; replace PY := PY.below hb; clear hb d0 d1 d2; obtain ⟨d0, d1, d2⟩ := PP.cells; obtain ⟨x0, x1, x2⟩ := PX.cells; obtain ⟨y0, y1, y2⟩ := PY.cells)
     | (go_at_call 17; have _t := tk1; refine (PX.like PP).mono ?_; rintro e w5 ⟨rfl, hb⟩; replace HB := Below.tr HB hb; replace PP := PP.below hb; replace PX := PX.below hb; replace PY := PY.below hb; clear hb d0 d1 d2 tk1; try clear x0 x1 x2 y0 y1 y2; obtain ⟨d0, d1, d2⟩ := PP.cells; obtain ⟨x0, x1, x2⟩ := PX.cells; obtain ⟨y0, y1, y2⟩ := PY.cells)
     | (go_at_call 17; refine (PY.like PP).mono ?_; rintro e w6 ⟨rfl, hb⟩; replace HB := Below.tr HB hb; clear hb)
     )
    go_ret
    exact ⟨ret_bool (by simp), HB⟩
   | true =>
    rw [hr] at cR
    have cG := fun V (hV : Below w.heap.size w V) => refDoF_any a a' n n' c c' l (-1) ⟨#[]⟩ bs ps V hn hn' (hS.below hV) (hP.below hV) hr hl0 (by omega) h64
    by_cases hk : k < 0
    ·
     have e1 : blkE bs ps k = 30 := by
      unfold blkE
      rw [if_pos hr, if_neg (by rw [Bool.and_eq_true, decide_eq_true_eq, decide_eq_true_eq]; omega)]
     have eW := cw_long (bs := bs) (ps := ps) (k := k) (s := s) hl0 (E := 30) (by unfold writeE; rw [e1, if_neg (by omega)]) (by omega)
     rw [eW.2.1, eW.1, eW.2.2.1, eW.2.2.2] at cW
     generalize csE l bs ps = EF at *
     generalize csB l bs ps = BF at *
     generalize csP l bs ps = PF at *
     generalize ctL l EF = LF at *
     have hEF : (EF == EF) = true := by simp
     clear e1 eW hr hn hn' hS hP hnl hnl' h1 h2 hs hk6 h64 hsm
     go_enter Tryz.func5, Tryz.ntmps5
     go_wp2_with (first
      | (go_at_call 11; rw [← hW0]; refine (cB _).mono ?_; rintro e w1 ⟨rfl, hb⟩; replace HB := Below.tr HB hb; replace PP := PP.below hb; clear hb; obtain ⟨d0, d1, d2⟩ := PP.cells)
      | (go_at_call 15; refine (cW _ HB).mono ?_; rintro e w2 ⟨xa, xn, xc, ya, yn, yc, en, en', rfl, iS, iP, hb⟩; have hC := (Below.refl w2.heap.size w2).alloc (Nat.le_refl _) (.cells #[.slice xa xn xc, .slice ya yn yc, .int .i64 l] 47); replace HB := Below.tr (Below.tr HB hb) hC; replace PP := PP.next hb (.cells #[.slice xa xn xc, .slice ya yn yc, .int .i64 l] 47); have PX := powA_new (t := 47) (l := l) iS iP en en'; clear hb hC iS iP en en' d0 d1 d2; obtain ⟨d0, d1, d2⟩ := PP.cells)
      | (go_at_call 16; refine (cF _ HB).mono ?_; rintro e w3 ⟨ua, un, uc, va, vn, vc, en, en', rfl, iS, iP, hb⟩; have hC := (Below.refl w3.heap.size w3).alloc (Nat.le_refl _) (.cells #[.slice ua un uc, .slice va vn vc, .int .i64 LF] 47); replace HB := Below.tr (Below.tr HB hb) hC; replace PP := PP.next hb (.cells #[.slice ua un uc, .slice va vn vc, .int .i64 LF] 47); replace PX := PX.next hb (.cells #[.slice ua un uc, .slice va vn vc, .int .i64 LF] 47); have PY := powA_new (t := 47) (l := LF) iS iP en en'; clear hb hC iS iP en en' d0 d1 d2; obtain ⟨d0, d1, d2⟩ := PP.cells)
      | (go_at_call 18; refine (cR _ HB).mono ?_; rintro e w7 ⟨rfl, hb⟩; replace HB := Below.tr HB hb; replace PP := PP.below hb; replace PX := PX.below hb; replace PY := PY.below hb; clear hb d0 d1 d2; obtain ⟨d0, d1, d2⟩ := PP.cells; obtain ⟨x0, x1, x2⟩ := PX.cells; obtain ⟨y0, y1, y2⟩ := PY.cells)
      | (go_at_call 17; have _t := tk1; refine (PX.like PP).mono ?_; rintro e w5 ⟨rfl, hb⟩; replace HB := Below.tr HB hb; replace PP := PP.below hb; replace PX := PX.below hb; replace PY := PY.below hb; clear hb d0 d1 d2 tk1; try clear x0 x1 x2 y0 y1 y2; obtain ⟨d0, d1, d2⟩ := PP.cells; obtain ⟨x0, x1, x2⟩ := PX.cells; obtain ⟨y0, y1, y2⟩ := PY.cells)
      | (go_at_call 19; refine (cG _ HB).mono ?_; rintro e w10 ⟨qa, qn, qc, ra, rn, rc, en, en', rfl, iS, iP, hb⟩; have hC := (Below.refl w10.heap.size w10).alloc (Nat.le_refl _) (.cells #[.slice qa qn qc, .slice ra rn rc, .int .i64 LF] 47); replace HB := Below.tr (Below.tr HB hb) hC; replace PY := PY.next hb (.cells #[.slice qa qn qc, .slice ra rn rc, .int .i64 LF] 47); have PZ := powA_new (t := 47) (l := LF) iS iP en en'; clear hb hC iS iP en en' d0 d1 d2; try clear y0 y1 y2)
      | (go_at_call 8; refine (cA _).mono ?_; rintro e w11 ⟨rfl, hb⟩; replace HB := Below.tr HB hb; replace PY := PY.below hb; replace PZ := PZ.below hb; clear hb; obtain ⟨y0, y1, y2⟩ := PY.cells; obtain ⟨z0, z1, z2⟩ := PZ.cells)
      | (go_at_call 17; refine (PY.like PZ).mono ?_; rintro e w12 ⟨rfl, hb⟩; replace HB := Below.tr HB hb; clear hb)
      )
     go_ret
     exact ⟨ret_bool (by simp), HB⟩
    ·
     have cD := fun V (hV : Below w.heap.size w V) => refDoW_any a a' n n' c c' l k s bs ps V hn hn' (hS.below hV) (hP.below hV) hr hl0 hk hk6.2 hs h64
     generalize csE l bs ps = EF at *
     generalize csB l bs ps = BF at *
     generalize csP l bs ps = PF at *
     generalize cwE l bs ps k s = EW at *
     generalize cwB l bs ps k s = BW at *
     generalize cwP l bs ps k s = PW at *
     generalize ctL l EF = LF at *
     generalize ctL l EW = LW at *
     have hEF : (EF == EF) = true := by simp
     have hEW : (EW != EW) = false := by simp
     clear hr hn hn' hS hP hnl hnl' h1 h2 hs hk6 h64 hsm
     go_enter Tryz.func5, Tryz.ntmps5
     go_wp2_with (first
      | (go_at_call 11; rw [← hW0]; refine (cB _).mono ?_; rintro e w1 ⟨rfl, hb⟩; replace HB := Below.tr HB hb; replace PP := PP.below hb; clear hb; obtain ⟨d0, d1, d2⟩ := PP.cells)
      | (go_at_call 15; refine (cW _ HB).mono ?_; rintro e w2 ⟨xa, xn, xc, ya, yn, yc, en, en', rfl, iS, iP, hb⟩; have hC := (Below.refl w2.heap.size w2).alloc (Nat.le_refl _) (.cells #[.slice xa xn xc, .slice ya yn yc, .int .i64 LW] 47); replace HB := Below.tr (Below.tr HB hb) hC; replace PP := PP.next hb (.cells #[.slice xa xn xc, .slice ya yn yc, .int .i64 LW] 47); have PX := powA_new (t := 47) (l := LW) iS iP en en'; clear hb hC iS iP en en' d0 d1 d2; obtain ⟨d0, d1, d2⟩ := PP.cells)
      | (go_at_call 16; refine (cF _ HB).mono ?_; rintro e w3 ⟨ua, un, uc, va, vn, vc, en, en', rfl, iS, iP, hb⟩; have hC := (Below.refl w3.heap.size w3).alloc (Nat.le_refl _) (.cells #[.slice ua un uc, .slice va vn vc, .int .i64 LF] 47); replace HB := Below.tr (Below.tr HB hb) hC; replace PP := PP.next hb (.cells #[.slice ua un uc, .slice va vn vc, .int .i64 LF] 47); replace PX := PX.next hb (.cells #[.slice ua un uc, .slice va vn vc, .int .i64 LF] 47); have PY := powA_new (t := 47) (l := LF) iS iP en en'; clear hb hC iS iP en en' d0 d1 d2; obtain ⟨d0, d1, d2⟩ := PP.cells)
      | (go_at_call 18; refine (cR _ HB).mono ?_; rintro e w7 ⟨rfl, hb⟩; replace HB := Below.tr HB hb; replace PP := PP.below hb; replace PX := PX.below hb; replace PY := PY.below hb; clear hb d0 d1 d2; obtain ⟨d0, d1, d2⟩ := PP.cells; obtain ⟨x0, x1, x2⟩ := PX.cells; obtain ⟨y0, y1, y2⟩ := PY.cells)
      | (go_at_call 19; have _t := tk2; refine (cD _ HB).mono ?_; rintro e w8 ⟨sa, sn, sc, ta, tn, tc, en, en', rfl, iS, iP, hb⟩; have hC := (Below.refl w8.heap.size w8).alloc (Nat.le_refl _) (.cells #[.slice sa sn sc, .slice ta tn tc, .int .i64 LW] 47); replace HB := Below.tr (Below.tr HB hb) hC; replace PP := PP.next hb (.cells #[.slice sa sn sc, .slice ta tn tc, .int .i64 LW] 47); replace PX := PX.next hb (.cells #[.slice sa sn sc, .slice ta tn tc, .int .i64 LW] 47); replace PY := PY.next hb (.cells #[.slice sa sn sc, .slice ta tn tc, .int .i64 LW] 47); have PZ := powA_new (t := 47) (l := LW) iS iP en en'; clear hb hC iS iP en en' d0 d1 d2 x0 x1 x2 y0 y1 y2 tk2; obtain ⟨d0, d1, d2⟩ := PP.cells; obtain ⟨x0, x1, x2⟩ := PX.cells; obtain ⟨z0, z1, z2⟩ := PZ.cells)
      | (go_at_call 17; have _t := tk3; refine (PX.like PZ).mono ?_; rintro e w9 ⟨rfl, hb⟩; replace HB := Below.tr HB hb; replace PP := PP.below hb; replace PY := PY.below hb; clear hb d0 d1 d2 x0 x1 x2 z0 z1 z2 PX PZ tk3; obtain ⟨d0, d1, d2⟩ := PP.cells)
      | (go_at_call 19; refine (cG _ HB).mono ?_; rintro e w10 ⟨qa, qn, qc, ra, rn, rc, en, en', rfl, iS, iP, hb⟩; have hC := (Below.refl w10.heap.size w10).alloc (Nat.le_refl _) (.cells #[.slice qa qn qc, .slice ra rn rc, .int .i64 LF] 47); replace HB := Below.tr (Below.tr HB hb) hC; replace PY := PY.next hb (.cells #[.slice qa qn qc, .slice ra rn rc, .int .i64 LF] 47); have PZ := powA_new (t := 47) (l := LF) iS iP en en'; clear hb hC iS iP en en' d0 d1 d2; try clear y0 y1 y2)
      | (go_at_call 8; refine (cA _).mono ?_; rintro e w11 ⟨rfl, hb⟩; replace HB := Below.tr HB hb; replace PY := PY.below hb; replace PZ := PZ.below hb; clear hb; obtain ⟨y0, y1, y2⟩ := PY.cells; obtain ⟨z0, z1, z2⟩ := PZ.cells)
      | (go_at_call 17; refine (PY.like PZ).mono ?_; rintro e w12 ⟨rfl, hb⟩; replace HB := Below.tr HB hb; clear hb)
      )
     go_ret
     exact ⟨ret_bool (by simp), HB⟩
 ·
  rw [decide_eq_false hsm] at cB
  clear hsm hn hn' hS hP hnl hnl' hs hk6 h64 cR
  go_enter Tryz.func5, Tryz.ntmps5
  go_wp2_with (first
   | (go_at_call 11; rw [← hW0]; refine (cB _).mono ?_; rintro e w1 ⟨rfl, hb⟩; replace HB := Below.tr HB hb; replace PP := PP.below hb; clear hb; obtain ⟨d0, d1, d2⟩ := PP.cells)
   | (go_at_call 8; refine (cA _).mono ?_; rintro e w2 ⟨rfl, hb⟩; replace HB := Below.tr HB hb; clear hb))
  go_ret
  exact ⟨rfl, HB⟩
set_option maxRecDepth 20000 in
theorem small14_any (a a' : Option Addr) (n n' c c' : Nat) (w : World) (hn : n ≤ maxLen) (hn' : n' ≤ maxLen) :
  Calls Tryz.prog 11 #[.agg #[.slice a n c, .slice a' n' c']] w fun e w' => e = .returned (.bool (decide (n ≤ 200 ∧ n' ≤ 200))) ∧ Below w.heap.size w w' := by
 have bD := boxL_new w [.slice a n c, .slice a' n' c'] 25 rfl
 have hC := (Below.refl w.heap.size w).alloc (Nat.le_refl _) (.cells #[.slice a n c, .slice a' n' c'] 25)
 have d0 := bD.1 0 _ rfl
 have d1 := bD.1 1 _ rfl
 by_cases h : n ≤ 200
 ·
  have h' : (n : Int) ≤ 200 := by omega
  by_cases k : n' ≤ 200
  ·
   have k' : (n' : Int) ≤ 200 := by omega
   go_enter Tryz.func11, Tryz.ntmps11
   go_wp2
   go_ret
   exact ⟨ret_bool (by first | rfl | simp [h, k]), hC⟩
  ·
   have k' : ¬ (n' : Int) ≤ 200 := by omega
   go_enter Tryz.func11, Tryz.ntmps11
   go_wp2
   go_ret
   exact ⟨ret_bool (by first | rfl | simp [h, k]), hC⟩
 ·
  have h' : ¬ (n : Int) ≤ 200 := by omega
  go_enter Tryz.func11, Tryz.ntmps11
  go_wp2
  go_ret
  exact ⟨ret_bool (by first | rfl | simp [h]), hC⟩
end Go.Proofs.YtaobfgplheoefaaGreat
namespace Go.Proofs.YtaobfgplheoefaaGreat
open Go.RowKit Plain Go.ChangeShapes Go.WideShapes
set_option linter.unusedVariables false
theorem array3P {α : Type} {cs : Array α} (h : cs.size = 3) : ∃ c0 c1 c2, cs = #[c0, c1, c2] := by
 rcases cs with ⟨l⟩
 match l, h with
 | [c0, c1, c2], _ => exact ⟨c0, c1, c2, rfl⟩
set_option maxRecDepth 20000 in
theorem open_power {H : Type} {enc : TypeId × Value → H} {w : World} {r : Reach} {b0 : Nat} {v : Value} {d : DataW H} {p : List MemPlace}
  (hv : Value.okWide Tryz.prog w r b0 47 v) (h : DataW.Trod enc Tryz.prog w 0 (fun _ => true) true 47 v d p) :
  ∃ a c bs a' c' ps l, v = .agg #[.slice a bs.length c, .slice a' ps.length c', .int .i64 l] ∧ IsS w a c bs ∧ IsP w a' c' ps ∧ (Lit.int .i64 l).wf = true := by
 obtain ⟨cs, rfl, hsz⟩ := okWide_struct Tryz.underlying47 hv
 obtain ⟨c0, c1, c2, rfl⟩ := array3P (hsz.trans (by kernel_rfl))
 obtain ⟨fuel, hf⟩ := h
 obtain ⟨y0, y1, n, hx, _, h0, h1⟩ := trod_struct2 Tryz.underlying47 hf
 have s0 : Tryz.prog.cellsOf 25 = 2 := by kernel_rfl
 have s1 : Tryz.prog.cellsOf 22 = 1 := by kernel_rfl
 have s2 : Tryz.prog.cellsOf 3 = 1 := by kernel_rfl
 have s3 : Tryz.prog.cellsOf 23 = 1 := by kernel_rfl
 simp only [Value.cells, s0, s2, List.drop_zero, List.drop_succ_cons, List.take_succ_cons, List.take_zero] at h0 h1
 obtain ⟨z0, z1, m, _, _, g0, g1⟩ := trod_struct2 Tryz.underlying25 h0
 simp only [s1, s3, List.drop_zero, List.drop_succ_cons, List.take_succ_cons, List.take_zero] at g0 g1
 obtain ⟨a, c, bs, rfl, hS⟩ := open_S g0
 obtain ⟨a', c', ps, rfl, hP⟩ := open_P g1
 obtain ⟨l, hl, _, wl⟩ := DataW.trod_int (k := .i64) Tryz.underlying3 h1
 simp at hl
 subst hl
 exact ⟨a, c, bs, a', c', ps, l, rfl, hS, hP, wl⟩
end Go.Proofs.YtaobfgplheoefaaGreat

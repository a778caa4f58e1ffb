/-
  The walk of the law DagBack: it returns true at all arguments.
-/
import Derived.Test.YtmjhapkhfelbpaaDagFewR
namespace Go.Proofs.Ytmjhapkhfelbpaa
open Go.RowKit Plain Anylast
set_option linter.unusedVariables false

/-- What a Get tells, its letters. -/
def GotB (V : World) (gN : ByteArray) (gE : Int) (gT : List TaskP) (e : Ending) (w' : World) : Prop :=
  ∃ ga gc gk gts, e = .returned (.tuple #[.agg #[.string gN, .slice ga gk gc], .int .i64 gE]) ∧ Hid (gk = gts.length) ∧ Hid (plainT gts = gT) ∧ IsT w' ga gc gts ∧ Below V.heap.size V w'

theorem gotB {V w' : World} {t : ByteArray} {e : Ending} (h : Got2 V t e w') : GotB V (gtN t) (gtE t) (gtT t) e w' := by
  obtain ⟨a, c, ts, rfl, hp, hT, hF, hb⟩ := h
  exact ⟨a, c, _, ts, rfl, rfl, hp, hT, hb⟩

set_option maxRecDepth 20000 in
set_option maxHeartbeats 4000000 in
theorem dagBack_walk (s : ByteArray) (a : Option Addr) (c : Nat) (ts : List TaskV) (t : ByteArray) (w : World) (hs : s.size ≤ maxLen) (hT : IsT w a c ts) (hts : t.size ≤ maxLen) :
    Calls Try.prog 5 #[.agg #[.string s, .slice a ts.length c], .string t] w fun e w' => e = .returned (.bool true) ∧ Below w.heap.size w w' := by
  obtain ⟨n, hn⟩ : ∃ n, n = ts.length := ⟨_, rfl⟩
  have H0 : Hid (n = ts.length) := hn
  rw [← hn]
  clear hn
  obtain ⟨fs, hfs⟩ : ∃ fs, fs = fewT ts := ⟨_, rfl⟩
  obtain ⟨r, hr⟩ : ∃ r, r = rightG s (plainT fs) := ⟨_, rfl⟩
  have HF : Hid (fs = fewT ts) := hfs
  have HR : Hid (r = rightG s (plainT fs)) := hr
  have HNF : Hid (NeedsIn w fs) := by show NeedsIn w fs; rw [hfs]; exact few_needs hT
  clear hr hfs
  obtain ⟨V0, hV0⟩ : ∃ V, V = (w.alloc (.cells #[.string s, .slice a n c] 24)).drew := ⟨_, rfl⟩
  obtain ⟨x0, hB0, cF⟩ := few_call s a c n ts w V0 H0.out hT hV0
  rw [← HF.out] at cF
  obtain ⟨Q, hQ⟩ : ∃ Q : Nat, Q = min t.size 2000 := ⟨_, rfl⟩
  have hQ0 : (0 : Int) ≤ Q := by omega
  have hQ1 : (Q : Int) ≤ t.size := by omega
  have hQ2 : Q ≤ t.size := by omega
  have hmin : min (t.size : Int) 2000 = Q := by omega
  have hmr := min_run hmin
  have htm : t.size ≤ 9223372036854775807 := hts
  have HQT : Hid ((t.extract 0 Q).size ≤ maxLen) := by show _ ≤ _; rw [ByteArray.size_extract]; omega
  clear hmin hQ
  have HXB : Hid (BoxL V0 w.heap.size [.string s, .slice a n c]) := x0
  have HB0 : Hid (Below w.heap.size w V0) := hB0
  clear hT hts hB0
  go_enter Try.func5, Try.ntmps5
  go_wp2
  refine region_chain (by kernel_rfl) [1, 7] (fwV w s a n c t (t.extract 0 Q) Q fs) (fwS w V0 s a n c fs) (Turns (fun k => k = w.heap.size)) (by kernel_rfl) (by kernel_rfl) fwV_mono (by rw [← hV0]; exact ⟨fun _ => rfl, fun h => by omega, fun h => by omega⟩) ?step 9 rfl ?done
  case step =>
    clear hV0
    intro i oo ho kq a9 X hkq hmay hS hdf hsz hdep hsame
    simp only [List.length_cons, List.length_nil] at hkq
    match i, ho with
    | 0, ho =>
      cases ho
      have h2 := hsame 2 rfl
      obtain rfl := hS.1 (by
        clear hS hdep hsame
        rcases (by omega : kq = 0 ∨ kq = 1 ∨ kq = 2) with rfl | rfl | rfl <;> first | rfl | exact absurd hmay (Bool.eq_false_iff.1 (by kernel_rfl)))
      have q0 := x0.1 0 _ rfl
      have q1 := x0.1 1 _ rfl
      exact op_value rfl (wanted_free rfl) (by clear hdep hsame hsz hdf; go_simp) rfl (by rw [if_neg (by decide)]; exact hS) (Turns.refl _ _)
    | 1, ho =>
      cases ho
      obtain ⟨_, h13, rfl⟩ := hdep 0 _ 13 rfl rfl rfl
      have hq0 : kq = 0 := by
        clear hS hdep hsame
        rcases (by omega : kq = 0 ∨ kq = 1 ∨ kq = 2) with rfl | rfl | rfl <;> first | rfl | exact absurd hmay (Bool.eq_false_iff.1 (by kernel_rfl))
      subst hq0
      obtain rfl := hS.1 rfl
      exact op_call rfl (wanted_free rfl) (by clear hdep hsame hsz hdf; go_simp) (cF.mono fun e X' hx => by
        obtain ⟨v, rfl, hv, hb, hbl⟩ := hx
        exact ⟨_, rfl, hv, by rw [if_pos (by decide)]; exact ⟨fun h => by omega, fun _ => hb, fun h => by omega⟩, Turns.of_below hbl⟩)
    | 2, ho =>
      cases ho
      have h1 := hsame 1 rfl
      exact op_value rfl (wanted_free rfl) (by clear hdep hsame hsz hdf; go_simp) rfl (by rw [if_neg (by decide)]; exact hS) (Turns.refl _ _)
    | 3, ho =>
      cases ho
      have h1 := hsame 1 rfl
      exact op_value rfl (wanted_free rfl) (by clear hdep hsame hsz hdf; go_simp) rfl (by rw [if_neg (by decide)]; exact hS) (Turns.refl _ _)
    | 4, ho =>
      cases ho
      obtain ⟨_, h16, rfl⟩ := hdep 3 _ 16 rfl rfl rfl
      exact op_value rfl (wanted_free rfl) (by clear hdep hsame hsz hdf; go_simp) rfl (by rw [if_neg (by decide)]; exact hS) (Turns.refl _ _)
    | 5, ho =>
      cases ho
      obtain ⟨_, h17, rfl⟩ := hdep 4 _ 17 rfl rfl rfl
      exact op_value rfl (wanted_free rfl) (by clear hdep hsame hsz hdf; go_simp) rfl (by rw [if_neg (by decide)]; exact hS) (Turns.refl _ _)
    | 6, ho =>
      cases ho
      obtain ⟨_, h15, rfl⟩ := hdep 2 _ 15 rfl rfl rfl
      obtain ⟨_, h18, rfl⟩ := hdep 5 _ 18 rfl rfl rfl
      exact op_value rfl (wanted_free rfl) (by clear hdep hsame hsz hdf; go_simp) rfl (by rw [if_neg (by decide)]; exact hS) (Turns.refl _ _)
    | 7, ho =>
      cases ho
      have h2 := hsame 2 rfl
      obtain ⟨_, h14, a1, c1, n1, w1, rfl, hw1, hw2, hw3, hw4, hw5⟩ := hdep 1 _ 14 rfl rfl rfl
      have hq1 : kq = 1 := by
        clear hS hdep hsame
        rcases (by omega : kq = 0 ∨ kq = 1 ∨ kq = 2) with rfl | rfl | rfl <;> first | rfl | exact absurd hmay (Bool.eq_false_iff.1 (by kernel_rfl))
      subst hq1
      have bX := hS.2.1 rfl
      obtain ⟨hD, tt⟩ := few_end HNF.out bX hw1 hw2 hw3 hw4 hw5
      have b1 := bX.set 0 (.string s)
      have q0 := bX.1 0 _ rfl
      have q1 := bX.1 1 _ rfl
      have f0 := bX.2 0 (by simp)
      have f1 := bX.2 1 (by simp)
      have q2 := b1.1 1 _ rfl
      have f2 := b1.2 1 (by simp)
      exact op_skipD rfl (wanted_free rfl) rfl (by clear hdep hsame hsz hdf hw1 hw2 hw3 hw4 hw5 hD tt hS b1 bX; go_simp) trivial (by rw [if_pos (by decide)]; exact ⟨fun h => by omega, fun h => by omega, fun _ => ⟨_, _, _, hD⟩⟩) tt
    | 8, ho =>
      cases ho
      obtain ⟨_, h19, rfl⟩ := hdep 6 _ 19 rfl rfl rfl
      exact op_value rfl (wanted_free rfl) (by clear hdep hsame hsz hdf; go_simp) rfl (by rw [if_neg (by decide)]; exact hS) (Turns.refl _ _)
    | k + 9, ho => simp at ho
  case done =>
    intro val X hS hV
    have h8 : val 8 = .string (t.extract 0 Q) := hV 8 _ rfl rfl
    obtain ⟨a1, c1, n1, D⟩ := hS.2.2 rfl
    clear hS hV cF x0 hV0 hQ0 hQ1 hQ2 hmr htm
    simp [filledN]
    rw [h8]
    clear h8
    generalize t.extract 0 Q = t' at *
    obtain ⟨q0, q1⟩ := D.cells
    obtain ⟨PT, hPT⟩ : ∃ x, x = putR s (plainT fs) := ⟨_, rfl⟩
    have HPT : Hid (PT = putR s (plainT fs)) := hPT
    clear hPT
    have cP : ∀ V a1 c1 n1, DagIn w V s a1 c1 n1 fs → Calls Try.prog 17 #[.agg #[.string s, .slice a1 n1 c1]] V fun e w' => e = .returned (.tuple #[.string PT, .int .i64 r]) ∧ Below V.heap.size V w' := fun V a1 c1 n1 D => by rw [HR.out, HPT.out]; exact put16_any s a1 c1 n1 fs V hs D.hn D.hT
    have cG : ∀ V, Calls Try.prog 18 #[.string t'] V fun e w' => GotB V (gtN t') (gtE t') (gtT t') e w' := fun V => (get16_any t' V HQT.out).mono fun e w' h => gotB h
    obtain ⟨gN, hgN⟩ : ∃ x, x = gtN t' := ⟨_, rfl⟩
    obtain ⟨gE, hgE⟩ : ∃ x, x = gtE t' := ⟨_, rfl⟩
    obtain ⟨gL, hgL⟩ : ∃ x, x = gtT t' := ⟨_, rfl⟩
    rw [← hgN, ← hgE, ← hgL] at cG
    have HGN : Hid (gN = gtN t') := hgN
    have HGE : Hid (gE = gtE t') := hgE
    have HGL : Hid (gL = gtT t') := hgL
    clear hgN hgE hgL
    have tok1 : True := trivial
    have tok2 : True := trivial
    have tok3 : True := trivial
    by_cases hr0 : r = 0
    · obtain rfl := hr0
      have ePT : PT = putD s (plainT fs) := by rw [HPT.out]; unfold putR; rw [if_pos HR.out.symm]
      have zPT : PT.size ≤ 200 := by rw [ePT]; exact putD_size HR.out.symm
      have h200 : ¬ (200 : Int) < PT.size := by omega
      have cB : ∀ V, Calls Try.prog 18 #[.string PT] V fun e w' => GotB V s 0 (plainT fs) e w' := fun V => (get16_any PT V (by unfold maxLen; omega)).mono fun e w' h => by
        have := gotB h
        rw [ePT] at this
        obtain ⟨g1, g2, g3⟩ := get_back HR.out.symm
        rw [g1, g2, g3] at this
        exact this
      have HX : Hid (PT = putD s (plainT fs)) := ePT
      clear ePT
      by_cases hg0 : gE = 0
      · have tokG : True := trivial
        obtain rfl := hg0
        have ⟨go1, go2⟩ := get_once HGE.out.symm
        rw [← HGN.out, ← HGL.out] at go1 go2
        have hgs : gN.size ≤ maxLen := by have := (right_ok go1).2.1; unfold maxLen; omega
        have cQ : ∀ V ha hc hk (hts : List TaskV), hk = hts.length → plainT hts = gL → IsT V ha hc hts → Calls Try.prog 17 #[.agg #[.string gN, .slice ha hk hc]] V fun e w' => e = .returned (.tuple #[.string t', .int .i64 0]) ∧ Below V.heap.size V w' := fun V ha hc hk hts h1 h2 h3 => by
          have := put16_any gN ha hc hk hts V hgs h1 h3
          rw [h2, go1] at this
          have e : putR gN gL = t' := by unfold putR; rw [if_pos go1, go2]
          rw [e] at this
          exact this
        have cV : ∀ V ha hc hk (hts : List TaskV), hk = hts.length → plainT hts = gL → IsT V ha hc hts → Calls Try.prog 12 #[.agg #[.string gN, .slice ha hk hc]] V fun e w' => e = .returned (.int .i64 0) ∧ Below V.heap.size V w' := fun V ha hc hk hts h1 h2 h3 => by
          have := right16_any gN ha hc hk hts V h1 h3
          rw [h2, go1] at this
          exact this
        have es2 := str_eq_true (rfl : t' = t')
        clear go1 go2 hgs
        have hg0 : True := trivial
        clear HR HPT HF HNF H0 hg0 HGN HGE HGL HX zPT
        go_wp2_with (first
          | (go_at_call 17; have _t := tok1; refine (cP _ _ _ _ D).mono ?_; rintro e w2 ⟨rfl, hb⟩; replace D := D.below hb; clear q0 q1 hb tok1 _t; obtain ⟨q0, q1⟩ := D.cells)
          | (go_at_call 18; have _t := tok2; refine (cB _).mono ?_; rintro e w3 ⟨ga, gc, gk, gts, rfl, gK, gP, gT, hb⟩; clear tok2 _t; have hb2 := hb.alloc hb.size (.cells #[.string s, .slice ga gk gc] 24); replace D := D.below hb2; have gB := boxL_new w3 [.string s, .slice ga gk gc] 24 rfl; replace gT := gT.alloc (.cells #[.string s, .slice ga gk gc] 24); clear q0 q1 hb hb2; obtain ⟨q0, q1⟩ := D.cells; have g0 := gB.1 0 _ rfl; have g1 := gB.1 1 _ rfl)
          | (go_at_call 21; have _t := tok3; refine (like16_same s ga a1 gc c1 gk n1 gts fs _ gK.out D.hn gT D.hT gP.out).mono ?_; clear tok3 _t; rintro e w4 ⟨rfl, hb⟩; replace D := D.below hb; clear q0 q1 hb g0 g1 gB gT; obtain ⟨q0, q1⟩ := D.cells)
          | (go_at_call 18; refine (cG _).mono ?_; rintro e w5 ⟨ha, hc, hk, hts, rfl, hK, hP, hT, hb⟩; have hb2 := hb.alloc hb.size (.cells #[.string gN, .slice ha hk hc] 24); replace D := D.below hb2; have hB := boxL_new w5 [.string gN, .slice ha hk hc] 24 rfl; replace hT := hT.alloc (.cells #[.string gN, .slice ha hk hc] 24); clear q0 q1 hb hb2; have h0 := hB.1 0 _ rfl; have h1 := hB.1 1 _ rfl)
          | (go_at_call 17; refine (cQ _ ha hc hk hts hK.out hP.out hT).mono ?_; rintro e w6 ⟨rfl, hb⟩; replace D := D.below hb; replace hB := hB.below hb; replace hT := hT.below hb; clear hb h0 h1; have h0 := hB.1 0 _ rfl; have h1 := hB.1 1 _ rfl)
          | (go_at_call 13; refine (alive16_any _).mono ?_; rintro e w7 ⟨rfl, hb⟩; replace D := D.below hb; replace hB := hB.below hb; replace hT := hT.below hb; clear hb h0 h1; have h0 := hB.1 0 _ rfl; have h1 := hB.1 1 _ rfl)
          | (go_at_call 12; refine (cV _ ha hc hk hts hK.out hP.out hT).mono ?_; rintro e w8 ⟨rfl, hb⟩; replace D := D.below hb)
          )
        go_ret
        exact ⟨rfl, D.hB⟩
      · have tokB : True := trivial
        have hg1 : (gE != 0) = true := by simpa using hg0
        obtain rfl : gN = ⟨#[]⟩ := by rw [HGN.out]; unfold gtN; rw [if_neg (by rw [← HGE.out]; exact hg0)]
        obtain rfl : gL = plainT [] := by rw [HGL.out]; unfold gtT; rw [if_neg (by rw [← HGE.out]; exact hg0)]; rfl
        clear HR HPT HF HNF H0 hg0 HGN HGE HGL HX zPT
        go_wp2_with (first
          | (go_at_call 17; have _t := tok1; refine (cP _ _ _ _ D).mono ?_; rintro e w2 ⟨rfl, hb⟩; replace D := D.below hb; clear q0 q1 hb tok1 _t; obtain ⟨q0, q1⟩ := D.cells)
          | (go_at_call 18; have _t := tok2; refine (cB _).mono ?_; rintro e w3 ⟨ga, gc, gk, gts, rfl, gK, gP, gT, hb⟩; clear tok2 _t; have hb2 := hb.alloc hb.size (.cells #[.string s, .slice ga gk gc] 24); replace D := D.below hb2; have gB := boxL_new w3 [.string s, .slice ga gk gc] 24 rfl; replace gT := gT.alloc (.cells #[.string s, .slice ga gk gc] 24); clear q0 q1 hb hb2; obtain ⟨q0, q1⟩ := D.cells; have g0 := gB.1 0 _ rfl; have g1 := gB.1 1 _ rfl)
          | (go_at_call 21; have _t := tok3; refine (like16_same s ga a1 gc c1 gk n1 gts fs _ gK.out D.hn gT D.hT gP.out).mono ?_; clear tok3 _t; rintro e w4 ⟨rfl, hb⟩; replace D := D.below hb; clear q0 q1 hb g0 g1 gB gT; obtain ⟨q0, q1⟩ := D.cells)
          | (go_at_call 18; refine (cG _).mono ?_; rintro e w5 ⟨ha, hc, hk, hts, rfl, hK, hP, hT, hb⟩; have hb2 := hb.alloc hb.size (.cells #[.string ⟨#[]⟩, .slice ha hk hc] 24); replace D := D.below hb2; have hB := boxL_new w5 [.string ⟨#[]⟩, .slice ha hk hc] 24 rfl; replace hT := hT.alloc (.cells #[.string ⟨#[]⟩, .slice ha hk hc] 24); clear q0 q1 hb hb2; have h0 := hB.1 0 _ rfl; have h1 := hB.1 1 _ rfl)
          | (go_at_call 13; refine (alive16_any _).mono ?_; rintro e w7 ⟨rfl, hb⟩; replace D := D.below hb; replace hB := hB.below hb; replace hT := hT.below hb; clear hb h0 h1; have h0 := hB.1 0 _ rfl; have h1 := hB.1 1 _ rfl)
          | (go_at_call 21; refine (like16_same ⟨#[]⟩ ha none hc 0 hk 0 hts [] _ hK.out rfl hT (isT_nil _ _ _ (Nat.zero_le _)) hP.out).mono ?_; rintro e w8 ⟨rfl, hb⟩; replace D := D.below hb)
          )
        go_ret
        exact ⟨rfl, D.hB⟩
    · have hr1 : (r == 0) = false := by simpa using hr0
      by_cases hg0 : gE = 0
      · have tokG : True := trivial
        obtain rfl := hg0
        have ⟨go1, go2⟩ := get_once HGE.out.symm
        rw [← HGN.out, ← HGL.out] at go1 go2
        have hgs : gN.size ≤ maxLen := by have := (right_ok go1).2.1; unfold maxLen; omega
        have cQ : ∀ V ha hc hk (hts : List TaskV), hk = hts.length → plainT hts = gL → IsT V ha hc hts → Calls Try.prog 17 #[.agg #[.string gN, .slice ha hk hc]] V fun e w' => e = .returned (.tuple #[.string t', .int .i64 0]) ∧ Below V.heap.size V w' := fun V ha hc hk hts h1 h2 h3 => by
          have := put16_any gN ha hc hk hts V hgs h1 h3
          rw [h2, go1] at this
          have e : putR gN gL = t' := by unfold putR; rw [if_pos go1, go2]
          rw [e] at this
          exact this
        have cV : ∀ V ha hc hk (hts : List TaskV), hk = hts.length → plainT hts = gL → IsT V ha hc hts → Calls Try.prog 12 #[.agg #[.string gN, .slice ha hk hc]] V fun e w' => e = .returned (.int .i64 0) ∧ Below V.heap.size V w' := fun V ha hc hk hts h1 h2 h3 => by
          have := right16_any gN ha hc hk hts V h1 h3
          rw [h2, go1] at this
          exact this
        have es2 := str_eq_true (rfl : t' = t')
        clear go1 go2 hgs
        have hg0 : True := trivial
        clear HR HPT HF HNF H0 hg0 HGN HGE HGL hr0
        go_wp2_with (first
          | (go_at_call 17; have _t := tok1; refine (cP _ _ _ _ D).mono ?_; rintro e w2 ⟨rfl, hb⟩; replace D := D.below hb; clear q0 q1 hb tok1 _t; obtain ⟨q0, q1⟩ := D.cells)
          | (go_at_call 18; refine (cG _).mono ?_; rintro e w5 ⟨ha, hc, hk, hts, rfl, hK, hP, hT, hb⟩; have hb2 := hb.alloc hb.size (.cells #[.string gN, .slice ha hk hc] 24); replace D := D.below hb2; have hB := boxL_new w5 [.string gN, .slice ha hk hc] 24 rfl; replace hT := hT.alloc (.cells #[.string gN, .slice ha hk hc] 24); clear q0 q1 hb hb2; have h0 := hB.1 0 _ rfl; have h1 := hB.1 1 _ rfl)
          | (go_at_call 17; refine (cQ _ ha hc hk hts hK.out hP.out hT).mono ?_; rintro e w6 ⟨rfl, hb⟩; replace D := D.below hb; replace hB := hB.below hb; replace hT := hT.below hb; clear hb h0 h1; have h0 := hB.1 0 _ rfl; have h1 := hB.1 1 _ rfl)
          | (go_at_call 13; refine (alive16_any _).mono ?_; rintro e w7 ⟨rfl, hb⟩; replace D := D.below hb; replace hB := hB.below hb; replace hT := hT.below hb; clear hb h0 h1; have h0 := hB.1 0 _ rfl; have h1 := hB.1 1 _ rfl)
          | (go_at_call 12; refine (cV _ ha hc hk hts hK.out hP.out hT).mono ?_; rintro e w8 ⟨rfl, hb⟩; replace D := D.below hb)
          )
        go_ret
        exact ⟨rfl, D.hB⟩
      · have tokB : True := trivial
        have hg1 : (gE != 0) = true := by simpa using hg0
        obtain rfl : gN = ⟨#[]⟩ := by rw [HGN.out]; unfold gtN; rw [if_neg (by rw [← HGE.out]; exact hg0)]
        obtain rfl : gL = plainT [] := by rw [HGL.out]; unfold gtT; rw [if_neg (by rw [← HGE.out]; exact hg0)]; rfl
        clear HR HPT HF HNF H0 hg0 HGN HGE HGL hr0
        go_wp2_with (first
          | (go_at_call 17; have _t := tok1; refine (cP _ _ _ _ D).mono ?_; rintro e w2 ⟨rfl, hb⟩; replace D := D.below hb; clear q0 q1 hb tok1 _t; obtain ⟨q0, q1⟩ := D.cells)
          | (go_at_call 18; refine (cG _).mono ?_; rintro e w5 ⟨ha, hc, hk, hts, rfl, hK, hP, hT, hb⟩; have hb2 := hb.alloc hb.size (.cells #[.string ⟨#[]⟩, .slice ha hk hc] 24); replace D := D.below hb2; have hB := boxL_new w5 [.string ⟨#[]⟩, .slice ha hk hc] 24 rfl; replace hT := hT.alloc (.cells #[.string ⟨#[]⟩, .slice ha hk hc] 24); clear q0 q1 hb hb2; have h0 := hB.1 0 _ rfl; have h1 := hB.1 1 _ rfl)
          | (go_at_call 13; refine (alive16_any _).mono ?_; rintro e w7 ⟨rfl, hb⟩; replace D := D.below hb; replace hB := hB.below hb; replace hT := hT.below hb; clear hb h0 h1; have h0 := hB.1 0 _ rfl; have h1 := hB.1 1 _ rfl)
          | (go_at_call 21; refine (like16_same ⟨#[]⟩ ha none hc 0 hk 0 hts [] _ hK.out rfl hT (isT_nil _ _ _ (Nat.zero_le _)) hP.out).mono ?_; rintro e w8 ⟨rfl, hb⟩; replace D := D.below hb)
          )
        go_ret
        exact ⟨rfl, D.hB⟩

end Go.Proofs.Ytmjhapkhfelbpaa

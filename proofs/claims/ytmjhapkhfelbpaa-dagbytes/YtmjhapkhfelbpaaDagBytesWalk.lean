/-
  The walk of the law DagBytes: it returns true at all arguments.
-/
import Derived.Test.YtmjhapkhfelbpaaDagFewR
namespace Go.Proofs.Ytmjhapkhfelbpaa
open Go.RowKit Plain Anylast
set_option linter.unusedVariables false

/-- What a Get tells, its letters. -/
def GotL (V : World) (gN : ByteArray) (gE : Int) (gT : List TaskP) (e : Ending) (w' : World) : Prop :=
  ∃ ga gc gk gts, e = .returned (.tuple #[.agg #[.string gN, .slice ga gk gc], .int .i64 gE]) ∧ Hid (gk = gts.length) ∧ Hid (plainT gts = gT) ∧ IsT w' ga gc gts ∧ Below V.heap.size V w'

theorem gotL {V w' : World} {t : ByteArray} {e : Ending} (h : Got2 V t e w') : GotL V (gtN t) (gtE t) (gtT t) e w' := by
  obtain ⟨a, c, ts, rfl, hp, hT, hF, hb⟩ := h
  exact ⟨a, c, _, ts, rfl, rfl, hp, hT, hb⟩

set_option maxRecDepth 20000 in
set_option maxHeartbeats 4000000 in
theorem dagBytes_walk (s : ByteArray) (a : Option Addr) (c : Nat) (ts : List TaskV) (t : ByteArray) (w : World) (hs : s.size ≤ maxLen) (hT : IsT w a c ts) (hts : t.size ≤ maxLen) :
    Calls Try.prog 4 #[.agg #[.string s, .slice a ts.length c], .string t] w fun e w' => e = .returned (.bool true) ∧ Below w.heap.size w w' := by
  obtain ⟨n, hn⟩ : ∃ n, n = ts.length := ⟨_, rfl⟩
  have H0 : Hid (n = ts.length) := hn
  rw [← hn]
  clear hn
  obtain ⟨fs, hfs⟩ : ∃ fs, fs = fewT ts := ⟨_, rfl⟩
  obtain ⟨r, hr⟩ : ∃ r, r = rightG s (plainT fs) := ⟨_, rfl⟩
  have HF : Hid (fs = fewT ts) := hfs
  have HR : Hid (r = rightG s (plainT fs)) := hr
  have HNF : Hid (NeedsIn w fs) := by show NeedsIn w fs; rw [hfs]; exact few_needs hT
  clear hr hfs
  obtain ⟨V0, hV0⟩ : ∃ V, V = (w.alloc (.cells #[.string s, .slice a n c] 24)).drew := ⟨_, rfl⟩
  obtain ⟨x0, hB0, cF⟩ := few_call s a c n ts w V0 H0.out hT hV0
  rw [← HF.out] at cF
  obtain ⟨Q, hQ⟩ : ∃ Q : Nat, Q = min t.size 2000 := ⟨_, rfl⟩
  have hQ0 : (0 : Int) ≤ Q := by omega
  have hQ1 : (Q : Int) ≤ t.size := by omega
  have hQ2 : Q ≤ t.size := by omega
  have hmin : min (t.size : Int) 2000 = Q := by omega
  have hmr := min_run hmin
  have htm : t.size ≤ 9223372036854775807 := hts
  have HQT : Hid ((t.extract 0 Q).size ≤ maxLen) := by show _ ≤ _; rw [ByteArray.size_extract]; omega
  clear hmin hQ
  have HXB : Hid (BoxL V0 w.heap.size [.string s, .slice a n c]) := x0
  have HB0 : Hid (Below w.heap.size w V0) := hB0
  clear hT hts hB0
  go_enter Try.func4, Try.ntmps4
  go_wp2
  refine region_chain (by kernel_rfl) [1, 7] (fwV w s a n c t (t.extract 0 Q) Q fs) (fwS w V0 s a n c fs) (Turns (fun k => k = w.heap.size)) (by kernel_rfl) (by kernel_rfl) fwV_mono (by rw [← hV0]; exact ⟨fun _ => rfl, fun h => by omega, fun h => by omega⟩) ?step 9 rfl ?done
  case step =>
    clear hV0
    intro i oo ho kq a9 X hkq hmay hS hdf hsz hdep hsame
    simp only [List.length_cons, List.length_nil] at hkq
    match i, ho with
    | 0, ho =>
      cases ho
      have h2 := hsame 2 rfl
      obtain rfl := hS.1 (by
        clear hS hdep hsame
        rcases (by omega : kq = 0 ∨ kq = 1 ∨ kq = 2) with rfl | rfl | rfl <;> first | rfl | exact absurd hmay (Bool.eq_false_iff.1 (by kernel_rfl)))
      have q0 := x0.1 0 _ rfl
      have q1 := x0.1 1 _ rfl
      exact op_value rfl (wanted_free rfl) (by clear hdep hsame hsz hdf; go_simp) rfl (by rw [if_neg (by decide)]; exact hS) (Turns.refl _ _)
    | 1, ho =>
      cases ho
      obtain ⟨_, h12, rfl⟩ := hdep 0 _ 12 rfl rfl rfl
      have hq0 : kq = 0 := by
        clear hS hdep hsame
        rcases (by omega : kq = 0 ∨ kq = 1 ∨ kq = 2) with rfl | rfl | rfl <;> first | rfl | exact absurd hmay (Bool.eq_false_iff.1 (by kernel_rfl))
      subst hq0
      obtain rfl := hS.1 rfl
      exact op_call rfl (wanted_free rfl) (by clear hdep hsame hsz hdf; go_simp) (cF.mono fun e X' hx => by
        obtain ⟨v, rfl, hv, hb, hbl⟩ := hx
        exact ⟨_, rfl, hv, by rw [if_pos (by decide)]; exact ⟨fun h => by omega, fun _ => hb, fun h => by omega⟩, Turns.of_below hbl⟩)
    | 2, ho =>
      cases ho
      have h1 := hsame 1 rfl
      exact op_value rfl (wanted_free rfl) (by clear hdep hsame hsz hdf; go_simp) rfl (by rw [if_neg (by decide)]; exact hS) (Turns.refl _ _)
    | 3, ho =>
      cases ho
      have h1 := hsame 1 rfl
      exact op_value rfl (wanted_free rfl) (by clear hdep hsame hsz hdf; go_simp) rfl (by rw [if_neg (by decide)]; exact hS) (Turns.refl _ _)
    | 4, ho =>
      cases ho
      obtain ⟨_, h15, rfl⟩ := hdep 3 _ 15 rfl rfl rfl
      exact op_value rfl (wanted_free rfl) (by clear hdep hsame hsz hdf; go_simp) rfl (by rw [if_neg (by decide)]; exact hS) (Turns.refl _ _)
    | 5, ho =>
      cases ho
      obtain ⟨_, h16, rfl⟩ := hdep 4 _ 16 rfl rfl rfl
      exact op_value rfl (wanted_free rfl) (by clear hdep hsame hsz hdf; go_simp) rfl (by rw [if_neg (by decide)]; exact hS) (Turns.refl _ _)
    | 6, ho =>
      cases ho
      obtain ⟨_, h14, rfl⟩ := hdep 2 _ 14 rfl rfl rfl
      obtain ⟨_, h17, rfl⟩ := hdep 5 _ 17 rfl rfl rfl
      exact op_value rfl (wanted_free rfl) (by clear hdep hsame hsz hdf; go_simp) rfl (by rw [if_neg (by decide)]; exact hS) (Turns.refl _ _)
    | 7, ho =>
      cases ho
      have h2 := hsame 2 rfl
      obtain ⟨_, h13, a1, c1, n1, w1, rfl, hw1, hw2, hw3, hw4, hw5⟩ := hdep 1 _ 13 rfl rfl rfl
      have hq1 : kq = 1 := by
        clear hS hdep hsame
        rcases (by omega : kq = 0 ∨ kq = 1 ∨ kq = 2) with rfl | rfl | rfl <;> first | rfl | exact absurd hmay (Bool.eq_false_iff.1 (by kernel_rfl))
      subst hq1
      have bX := hS.2.1 rfl
      obtain ⟨hD, tt⟩ := few_end HNF.out bX hw1 hw2 hw3 hw4 hw5
      have b1 := bX.set 0 (.string s)
      have q0 := bX.1 0 _ rfl
      have q1 := bX.1 1 _ rfl
      have f0 := bX.2 0 (by simp)
      have f1 := bX.2 1 (by simp)
      have q2 := b1.1 1 _ rfl
      have f2 := b1.2 1 (by simp)
      exact op_skipD rfl (wanted_free rfl) rfl (by clear hdep hsame hsz hdf hw1 hw2 hw3 hw4 hw5 hD tt hS b1 bX; go_simp) trivial (by rw [if_pos (by decide)]; exact ⟨fun h => by omega, fun h => by omega, fun _ => ⟨_, _, _, hD⟩⟩) tt
    | 8, ho =>
      cases ho
      obtain ⟨_, h18, rfl⟩ := hdep 6 _ 18 rfl rfl rfl
      exact op_value rfl (wanted_free rfl) (by clear hdep hsame hsz hdf; go_simp) rfl (by rw [if_neg (by decide)]; exact hS) (Turns.refl _ _)
    | k + 9, ho => simp at ho
  case done =>
    intro val X hS hV
    have h8 : val 8 = .string (t.extract 0 Q) := hV 8 _ rfl rfl
    obtain ⟨a1, c1, n1, D⟩ := hS.2.2 rfl
    clear hS hV cF x0 hV0 hQ0 hQ1 hQ2 hmr htm
    simp [filledN]
    rw [h8]
    clear h8
    generalize t.extract 0 Q = t' at *
    obtain ⟨q0, q1⟩ := D.cells
    have cW : ∀ V a1 c1 n1, DagIn w V s a1 c1 n1 fs → Calls Try.prog 9 #[.agg #[.string s, .slice a1 n1 c1]] V fun e w' => e = .returned (.int .i64 r) ∧ Below V.heap.size V w' := fun V a1 c1 n1 D => by rw [HR.out]; exact D.refRight hs
    obtain ⟨PT, hPT⟩ : ∃ x, x = putR s (plainT fs) := ⟨_, rfl⟩
    have HPT : Hid (PT = putR s (plainT fs)) := hPT
    clear hPT
    have cP : ∀ V a1 c1 n1, DagIn w V s a1 c1 n1 fs → Calls Try.prog 17 #[.agg #[.string s, .slice a1 n1 c1]] V fun e w' => e = .returned (.tuple #[.string PT, .int .i64 r]) ∧ Below V.heap.size V w' := fun V a1 c1 n1 D => by rw [HR.out, HPT.out]; exact put16_any s a1 c1 n1 fs V hs D.hn D.hT
    have cG : ∀ V, Calls Try.prog 18 #[.string t'] V fun e w' => GotL V (gtN t') (gtE t') (gtT t') e w' := fun V => (get16_any t' V HQT.out).mono fun e w' h => gotL h
    have cH : ∀ V, Calls Try.prog 19 #[.string t'] V fun e w' => GotL V (gtN t') (gtE t') (gtT t') e w' := fun V => (refGet16_any t' V HQT.out).mono fun e w' h => gotL h
    generalize gtN t' = gN at *
    generalize gtE t' = gE at *
    generalize gtT t' = gL at *
    have hrr : (r != r) = false := by simp
    have hee : (gE == gE) = true := by simp
    by_cases hr0 : r = 0
    · obtain rfl := hr0
      have cX : ∀ V a1 c1 n1, DagIn w V s a1 c1 n1 fs → Calls Try.prog 20 #[.agg #[.string s, .slice a1 n1 c1]] V fun e w' => e = .returned (.string PT) ∧ Below V.heap.size V w' := fun V a1 c1 n1 D => by
        have e : PT = putD s (plainT fs) := by rw [HPT.out]; unfold putR; rw [if_pos HR.out.symm]
        rw [e]; exact refPut16_any s a1 c1 n1 fs V hs D.hn D.hT HR.out.symm
      have es := str_ne_false (rfl : PT = PT)
      clear HR HPT HF HNF H0
      go_wp2_with (first
        | (go_at_call 17; refine (cP _ _ _ _ D).mono ?_; rintro e w2 ⟨rfl, hb⟩; replace D := D.below hb; clear q0 q1 hb; obtain ⟨q0, q1⟩ := D.cells)
        | (go_at_call 18; refine (cG _).mono ?_; rintro e w3 ⟨ga, gc, gk, gts, rfl, gK, gP, gT, hb⟩; have hb2 := hb.alloc hb.size (.cells #[.string gN, .slice ga gk gc] 24); replace D := D.below hb2; have gB := boxL_new w3 [.string gN, .slice ga gk gc] 24 rfl; replace gT := gT.alloc (.cells #[.string gN, .slice ga gk gc] 24); clear q0 q1 hb hb2; obtain ⟨q0, q1⟩ := D.cells)
        | (go_at_call 19; refine (cH _).mono ?_; rintro e w4 ⟨ha, hc, hk, hts, rfl, hK, hP, hT, hb⟩; have hb2 := hb.alloc hb.size (.cells #[.string gN, .slice ha hk hc] 24); replace D := D.below hb2; replace gB := gB.below hb2; replace gT := gT.below hb2; have hB := boxL_new w4 [.string gN, .slice ha hk hc] 24 rfl; replace hT := hT.alloc (.cells #[.string gN, .slice ha hk hc] 24); clear q0 q1 hb hb2; obtain ⟨q0, q1⟩ := D.cells)
        | (go_at_call 9; refine (cW _ _ _ _ D).mono ?_; rintro e w5 ⟨rfl, hb⟩; replace D := D.below hb; replace gB := gB.below hb; replace gT := gT.below hb; replace hB := hB.below hb; replace hT := hT.below hb; clear q0 q1 hb; obtain ⟨q0, q1⟩ := D.cells)
        | (go_at_call 20; refine (cX _ _ _ _ D).mono ?_; rintro e w6 ⟨rfl, hb⟩; replace D := D.below hb; replace gB := gB.below hb; replace gT := gT.below hb; replace hB := hB.below hb; replace hT := hT.below hb; clear q0 q1 hb; obtain ⟨q0, q1⟩ := D.cells)
        | (go_at_call 13; refine (alive16_any _).mono ?_; rintro e w7 ⟨rfl, hb⟩; replace D := D.below hb; replace gB := gB.below hb; replace gT := gT.below hb; replace hB := hB.below hb; replace hT := hT.below hb; clear q0 q1 hb; obtain ⟨q0, q1⟩ := D.cells; have g0 := gB.1 0 _ rfl; have g1 := gB.1 1 _ rfl; have h0 := hB.1 0 _ rfl; have h1 := hB.1 1 _ rfl)
        | (go_at_call 21; refine (like16_same gN ga ha gc hc gk hk gts hts _ gK.out hK.out gT hT (gP.out.trans hP.out.symm)).mono ?_; rintro e w8 ⟨rfl, hb⟩; replace D := D.below hb)
        )
      go_ret
      exact ⟨rfl, D.hB⟩
    · have hr1 : (r == 0) = false := by simpa using hr0
      have hr2 : (r != 0) = true := by simpa using hr0
      obtain rfl : PT = ⟨#[]⟩ := by rw [HPT.out]; unfold putR; rw [if_neg (by rw [← HR.out]; exact hr0)]
      have es := str_ne_false (rfl : (⟨#[]⟩ : ByteArray) = ⟨#[]⟩)
      clear HR HPT HF HNF H0 hr0
      go_wp2_with (first
        | (go_at_call 17; refine (cP _ _ _ _ D).mono ?_; rintro e w2 ⟨rfl, hb⟩; replace D := D.below hb; clear q0 q1 hb; obtain ⟨q0, q1⟩ := D.cells)
        | (go_at_call 18; refine (cG _).mono ?_; rintro e w3 ⟨ga, gc, gk, gts, rfl, gK, gP, gT, hb⟩; have hb2 := hb.alloc hb.size (.cells #[.string gN, .slice ga gk gc] 24); replace D := D.below hb2; have gB := boxL_new w3 [.string gN, .slice ga gk gc] 24 rfl; replace gT := gT.alloc (.cells #[.string gN, .slice ga gk gc] 24); clear q0 q1 hb hb2; obtain ⟨q0, q1⟩ := D.cells)
        | (go_at_call 19; refine (cH _).mono ?_; rintro e w4 ⟨ha, hc, hk, hts, rfl, hK, hP, hT, hb⟩; have hb2 := hb.alloc hb.size (.cells #[.string gN, .slice ha hk hc] 24); replace D := D.below hb2; replace gB := gB.below hb2; replace gT := gT.below hb2; have hB := boxL_new w4 [.string gN, .slice ha hk hc] 24 rfl; replace hT := hT.alloc (.cells #[.string gN, .slice ha hk hc] 24); clear q0 q1 hb hb2; obtain ⟨q0, q1⟩ := D.cells)
        | (go_at_call 9; refine (cW _ _ _ _ D).mono ?_; rintro e w5 ⟨rfl, hb⟩; replace D := D.below hb; replace gB := gB.below hb; replace gT := gT.below hb; replace hB := hB.below hb; replace hT := hT.below hb; clear q0 q1 hb; obtain ⟨q0, q1⟩ := D.cells)
        | (go_at_call 13; refine (alive16_any _).mono ?_; rintro e w7 ⟨rfl, hb⟩; replace D := D.below hb; replace gB := gB.below hb; replace gT := gT.below hb; replace hB := hB.below hb; replace hT := hT.below hb; clear q0 q1 hb; obtain ⟨q0, q1⟩ := D.cells; have g0 := gB.1 0 _ rfl; have g1 := gB.1 1 _ rfl; have h0 := hB.1 0 _ rfl; have h1 := hB.1 1 _ rfl)
        | (go_at_call 21; refine (like16_same gN ga ha gc hc gk hk gts hts _ gK.out hK.out gT hT (gP.out.trans hP.out.symm)).mono ?_; rintro e w8 ⟨rfl, hb⟩; replace D := D.below hb)
        )
      go_ret
      exact ⟨rfl, D.hB⟩

end Go.Proofs.Ytmjhapkhfelbpaa

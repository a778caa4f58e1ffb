/-
  The walk of the law DagRights: it returns true at all arguments.
-/
import Derived.Test.YtmjhapkhfelbpaaDagIn
namespace Go.Proofs.Ytmjhapkhfelbpaa
open Go.RowKit Plain
set_option linter.unusedVariables false

/-- A row, told. -/
def TellsI (V : World) (l : List Nat) (x : Option Addr) (y k : Nat) (w' : World) : Prop := Hid (k = l.length) ∧ IsI w' x y (intsN l) ∧ Below V.heap.size V w'

theorem sameAs {V : World} {l : List Nat} {x x' : Option Addr} {y y' k k' : Nat} (h1 : Hid (k = l.length)) (h2 : Hid (k' = l.length)) (hI : IsI V x y (intsN l)) (hI' : IsI V x' y' (intsN l)) :
    Calls Try.prog 14 #[.slice x k y, .slice x' k' y'] V fun e w' => e = .returned (.bool true) ∧ Below V.heap.size V w' := by
  have := sameInts_any x x' y y' k k' (intsN l) (intsN l) V (by rw [intsN_length]; exact h1.out) (by rw [intsN_length]; exact h2.out) hI hI'
  rw [decide_eq_true rfl] at this
  exact this

set_option maxRecDepth 20000 in
set_option maxHeartbeats 4000000 in
theorem dagRights_walk (s : ByteArray) (a : Option Addr) (c : Nat) (ts : List TaskV) (ad : Option Addr) (cd : Nat) (done : List Bool) (w : World) (hs : s.size ≤ maxLen) (hT : IsT w a c ts) (hD0 : IsB w ad cd done) :
    Calls Try.prog 3 #[.agg #[.string s, .slice a ts.length c], .slice ad done.length cd] w fun e w' => e = .returned (.bool true) ∧ Below w.heap.size w w' := by
  obtain ⟨n, hn⟩ : ∃ n, n = ts.length := ⟨_, rfl⟩
  have H0 : Hid (n = ts.length) := hn
  obtain ⟨m, hm⟩ : ∃ m, m = done.length := ⟨_, rfl⟩
  rw [← hn, ← hm]
  clear hn
  have HM : Hid (m = done.length) := hm
  have hmm : m ≤ 9223372036854775807 := by rw [hm]; exact Nat.le_trans hD0.1 hD0.2.1
  clear hm
  obtain ⟨fs, hfs⟩ : ∃ fs, fs = fewT ts := ⟨_, rfl⟩
  obtain ⟨r, hr⟩ : ∃ r, r = rightG s (plainT fs) := ⟨_, rfl⟩
  have HF : Hid (fs = fewT ts) := hfs
  have HR : Hid (r = rightG s (plainT fs)) := hr
  clear hr hfs
  have cW : ∀ V a1 c1 n1, DagIn w V s a1 c1 n1 fs → Calls Try.prog 9 #[.agg #[.string s, .slice a1 n1 c1]] V fun e w' => e = .returned (.int .i64 r) ∧ Below V.heap.size V w' := fun V a1 c1 n1 D => by rw [HR.out]; exact D.refRight hs
  have cR : ∀ V a1 c1 n1, DagIn w V s a1 c1 n1 fs → Calls Try.prog 12 #[.agg #[.string s, .slice a1 n1 c1]] V fun e w' => e = .returned (.int .i64 r) ∧ Below V.heap.size V w' := fun V a1 c1 n1 D => by rw [HR.out]; exact D.right
  by_cases h0 : r = 0
  · subst h0
    obtain ⟨N, hN⟩ : ∃ N, N = fs.length := ⟨_, rfl⟩
    have hG := rightG_in hN HR.out.symm
    have HN : Hid (N = fs.length) := hN
    have hNm : N ≤ 10 := hG.1
    have hNm2 : N ≤ 9223372036854775807 := by omega
    clear hN
    have cO : ∀ V a1 c1 n1, DagIn w V s a1 c1 n1 fs → Calls Try.prog 10 #[.agg #[.string s, .slice a1 n1 c1]] V fun e w' => ∃ x y k, e = .returned (.tuple #[.slice x k y, .int .i64 0]) ∧ TellsI V (orderL (plainT fs)) x y k w' := fun V a1 c1 n1 D => D.order.mono (by
      rintro e w' ⟨x, y, k, rfl, hk, hI, hb⟩
      have e : ordR s (plainT fs) = orderL (plainT fs) := if_pos HR.out.symm
      rw [e] at hk hI
      exact ⟨x, y, k, by rw [← HR.out], hk, hI, hb⟩)
    have cP : ∀ V a1 c1 n1, DagIn w V s a1 c1 n1 fs → Calls Try.prog 15 #[.agg #[.string s, .slice a1 n1 c1]] V fun e w' => ∃ x y k, e = .returned (.slice x k y) ∧ TellsI V (orderL (plainT fs)) x y k w' := fun V a1 c1 n1 D => (refOrder_any s a1 c1 n1 fs V D.hn D.hT hG.2 (by have := D.hn; have := HN.out; omega)).mono (by
      rintro e w' ⟨x, y, k, rfl, hk, hI, hb⟩
      exact ⟨x, y, k, rfl, hk, hI, hb⟩)
    by_cases hmN : m = N
    · subst hmN
      have cF : ∀ V a1 c1 n1, DagIn w V s a1 c1 n1 fs → IsB V ad cd done → Calls Try.prog 11 #[.agg #[.string s, .slice a1 n1 c1], .slice ad m cd] V fun e w' => ∃ x y k, e = .returned (.tuple #[.slice x k y, .int .i64 0]) ∧ TellsI V (freeL (plainT fs) done) x y k w' := fun V a1 c1 n1 D hB => (D.free HM.out hB).mono (by
        rintro e w' ⟨x, y, k, rfl, hk, hI, -, hb⟩
        have e1 : freeE s (plainT fs) done = 0 := by unfold freeE; rw [if_pos HR.out.symm, if_pos (by rw [plainT_length, ← HM.out, ← HN.out])]
        have e : freeR s (plainT fs) done = freeL (plainT fs) done := if_pos e1
        rw [e] at hk hI
        exact ⟨x, y, k, by rw [e1], hk, hI, hb⟩)
      have cG : ∀ V a1 c1 n1, DagIn w V s a1 c1 n1 fs → IsB V ad cd done → Calls Try.prog 16 #[.agg #[.string s, .slice a1 n1 c1], .slice ad m cd] V fun e w' => ∃ x y k, e = .returned (.slice x k y) ∧ TellsI V (freeL (plainT fs) done) x y k w' := fun V a1 c1 n1 D hB => (refFree_any s a1 c1 n1 fs ad cd m done V D.hn D.hT HM.out hB (D.hn.trans HN.out.symm) hG.2 (by have := D.hn; have := HN.out; omega)).mono (by
        rintro e w' ⟨x, y, k, rfl, hk, hI, -, hb⟩
        exact ⟨x, y, k, rfl, hk, hI, hb⟩)
      have hmm0 : ((m : Int) != m) = false := by simp
      have tok1 : True := trivial
      clear hG
      go_enter Try.func3, Try.ntmps3
      go_wp2_with (first
        | (go_at_call 8; refine (fewStored_any s a c n ts w H0.out hT).mono ?_; rintro e w1 ⟨a1, c1, n1, a0, c0, n0, rfl, k0, k1, f0, f1, D, hn20⟩; rw [← HF.out] at D; obtain rfl : n1 = m := D.hn.trans HN.out.symm; have hD := hD0.below D.hB; have m0 := cell_set_other (w := w1) (h := w.heap.size) (k := w.heap.size) (i := 1) (j := 0) (u := .string s) (.inr (by decide)) k1; obtain ⟨q0, q1⟩ := D.cells)
        | (go_at_call 9; refine (cW _ _ _ _ D).mono ?_; rintro e w2 ⟨rfl, hb⟩; replace D := D.below hb; replace hD := hD.below hb; clear q0 q1 hb; obtain ⟨q0, q1⟩ := D.cells)
        | (go_at_call 10; refine (cO _ _ _ _ D).mono ?_; rintro e w3 ⟨x3, y3, k3, rfl, hk3, hI3, hb⟩; replace D := D.below hb; replace hD := hD.below hb; clear q0 q1 hb; obtain ⟨q0, q1⟩ := D.cells)
        | (go_at_call 11; refine (cF _ _ _ _ D hD).mono ?_; rintro e w4 ⟨x4, y4, k4, rfl, hk4, hI4, hb⟩; replace D := D.below hb; replace hD := hD.below hb; replace hI3 := hI3.below hb; clear q0 q1 hb; obtain ⟨q0, q1⟩ := D.cells)
        | (go_at_call 12; refine (cR _ _ _ _ D).mono ?_; rintro e w5 ⟨rfl, hb⟩; replace D := D.below hb; replace hD := hD.below hb; replace hI3 := hI3.below hb; replace hI4 := hI4.below hb; clear q0 q1 hb; obtain ⟨q0, q1⟩ := D.cells)
        | (go_at_call 13; refine (alive16_any _).mono ?_; rintro e w6 ⟨rfl, hb⟩; replace D := D.below hb; replace hD := hD.below hb; replace hI3 := hI3.below hb; replace hI4 := hI4.below hb; clear q0 q1 hb; obtain ⟨q0, q1⟩ := D.cells)
        | (go_at_call 15; refine (cP _ _ _ _ D).mono ?_; rintro e w7 ⟨x7, y7, k7, rfl, hk7, hI7, hb⟩; replace D := D.below hb; replace hD := hD.below hb; replace hI3 := hI3.below hb; replace hI4 := hI4.below hb; clear q0 q1 hb; obtain ⟨q0, q1⟩ := D.cells)
        | (go_at_call 14; have _t := tok1; refine (sameAs hk3 hk7 hI3 hI7).mono ?_; rintro e w8 ⟨rfl, hb⟩; replace D := D.below hb; replace hD := hD.below hb; replace hI4 := hI4.below hb; clear q0 q1 hb tok1 _t; obtain ⟨q0, q1⟩ := D.cells)
        | (go_at_call 16; refine (cG _ _ _ _ D hD).mono ?_; rintro e w9 ⟨x9, y9, k9, rfl, hk9, hI9, hb⟩; replace D := D.below hb; replace hI4 := hI4.below hb; clear q0 q1 hb; obtain ⟨q0, q1⟩ := D.cells)
        | (go_at_call 14; refine (sameAs hk4 hk9 hI4 hI9).mono ?_; rintro e w10 ⟨rfl, hb⟩; replace D := D.below hb)
        )
      go_ret
      exact ⟨rfl, D.hB⟩
    · have hmN' : ((m : Int) != N) = true := by simp; omega
      have cF : ∀ V a1 c1 n1, DagIn w V s a1 c1 n1 fs → IsB V ad cd done → Calls Try.prog 11 #[.agg #[.string s, .slice a1 n1 c1], .slice ad m cd] V fun e w' => ∃ x y k, e = .returned (.tuple #[.slice x 0 y, .int .i64 1]) ∧ TellsI V [] x y k w' := fun V a1 c1 n1 D hB => (D.free HM.out hB).mono (by
        rintro e w' ⟨x, y, k, rfl, hk, hI, -, hb⟩
        have e1 : freeE s (plainT fs) done = 1 := by unfold freeE; rw [if_pos HR.out.symm, if_neg (by rw [plainT_length, ← HM.out, ← HN.out]; exact hmN)]
        have e : freeR s (plainT fs) done = [] := if_neg (by rw [e1]; decide)
        rw [e] at hk hI
        exact ⟨x, y, k, by rw [e1, hk]; rfl, hk, hI, hb⟩)
      have tok1 : True := trivial
      clear hG
      go_enter Try.func3, Try.ntmps3
      go_wp2_with (first
        | (go_at_call 8; refine (fewStored_any s a c n ts w H0.out hT).mono ?_; rintro e w1 ⟨a1, c1, n1, a0, c0, n0, rfl, k0, k1, f0, f1, D, hn20⟩; rw [← HF.out] at D; obtain rfl : n1 = N := D.hn.trans HN.out.symm; have hD := hD0.below D.hB; have m0 := cell_set_other (w := w1) (h := w.heap.size) (k := w.heap.size) (i := 1) (j := 0) (u := .string s) (.inr (by decide)) k1; obtain ⟨q0, q1⟩ := D.cells)
        | (go_at_call 9; refine (cW _ _ _ _ D).mono ?_; rintro e w2 ⟨rfl, hb⟩; replace D := D.below hb; replace hD := hD.below hb; clear q0 q1 hb; obtain ⟨q0, q1⟩ := D.cells)
        | (go_at_call 10; refine (cO _ _ _ _ D).mono ?_; rintro e w3 ⟨x3, y3, k3, rfl, hk3, hI3, hb⟩; replace D := D.below hb; replace hD := hD.below hb; clear q0 q1 hb; obtain ⟨q0, q1⟩ := D.cells)
        | (go_at_call 11; refine (cF _ _ _ _ D hD).mono ?_; rintro e w4 ⟨x4, y4, k4, rfl, hk4, hI4, hb⟩; replace D := D.below hb; replace hD := hD.below hb; replace hI3 := hI3.below hb; clear q0 q1 hb; obtain ⟨q0, q1⟩ := D.cells)
        | (go_at_call 12; refine (cR _ _ _ _ D).mono ?_; rintro e w5 ⟨rfl, hb⟩; replace D := D.below hb; replace hD := hD.below hb; replace hI3 := hI3.below hb; replace hI4 := hI4.below hb; clear q0 q1 hb; obtain ⟨q0, q1⟩ := D.cells)
        | (go_at_call 13; refine (alive16_any _).mono ?_; rintro e w6 ⟨rfl, hb⟩; replace D := D.below hb; replace hD := hD.below hb; replace hI3 := hI3.below hb; replace hI4 := hI4.below hb; clear q0 q1 hb; obtain ⟨q0, q1⟩ := D.cells)
        | (go_at_call 15; refine (cP _ _ _ _ D).mono ?_; rintro e w7 ⟨x7, y7, k7, rfl, hk7, hI7, hb⟩; replace D := D.below hb; replace hD := hD.below hb; replace hI3 := hI3.below hb; replace hI4 := hI4.below hb; clear q0 q1 hb; obtain ⟨q0, q1⟩ := D.cells)
        | (go_at_call 14; have _t := tok1; refine (sameAs hk3 hk7 hI3 hI7).mono ?_; rintro e w8 ⟨rfl, hb⟩; replace D := D.below hb; replace hD := hD.below hb; replace hI4 := hI4.below hb; clear q0 q1 hb tok1 _t; obtain ⟨q0, q1⟩ := D.cells)
        )
      go_ret
      exact ⟨rfl, D.hB⟩
  · have h0' : (r != 0) = true := by simpa using h0
    have cO : ∀ V a1 c1 n1, DagIn w V s a1 c1 n1 fs → Calls Try.prog 10 #[.agg #[.string s, .slice a1 n1 c1]] V fun e w' => ∃ x y, e = .returned (.tuple #[.slice x 0 y, .int .i64 r]) ∧ Below V.heap.size V w' := fun V a1 c1 n1 D => D.order.mono (by
      rintro e w' ⟨x, y, k, rfl, hk, -, hb⟩
      have e : ordR s (plainT fs) = [] := if_neg (by rw [← HR.out]; exact h0)
      rw [e] at hk
      exact ⟨x, y, by rw [hk, HR.out]; rfl, hb⟩)
    have cF : ∀ V a1 c1 n1, DagIn w V s a1 c1 n1 fs → IsB V ad cd done → Calls Try.prog 11 #[.agg #[.string s, .slice a1 n1 c1], .slice ad m cd] V fun e w' => ∃ x y, e = .returned (.tuple #[.slice x 0 y, .int .i64 r]) ∧ Below V.heap.size V w' := fun V a1 c1 n1 D hB => (D.free HM.out hB).mono (by
      rintro e w' ⟨x, y, k, rfl, hk, -, -, hb⟩
      have e1 : freeE s (plainT fs) done = r := by unfold freeE; rw [if_neg (by rw [← HR.out]; exact h0)]; exact HR.out.symm
      have e : freeR s (plainT fs) done = [] := if_neg (by rw [e1]; exact h0)
      rw [e] at hk
      exact ⟨x, y, by rw [hk, e1]; rfl, hb⟩)
    go_enter Try.func3, Try.ntmps3
    go_wp2_with (first
      | (go_at_call 8; refine (fewStored_any s a c n ts w H0.out hT).mono ?_; rintro e w1 ⟨a1, c1, n1, a0, c0, n0, rfl, k0, k1, f0, f1, D, hn20⟩; rw [← HF.out] at D; have hD := hD0.below D.hB; have m0 := cell_set_other (w := w1) (h := w.heap.size) (k := w.heap.size) (i := 1) (j := 0) (u := .string s) (.inr (by decide)) k1; obtain ⟨q0, q1⟩ := D.cells)
      | (go_at_call 9; refine (cW _ _ _ _ D).mono ?_; rintro e w2 ⟨rfl, hb⟩; replace D := D.below hb; replace hD := hD.below hb; clear q0 q1 hb; obtain ⟨q0, q1⟩ := D.cells)
      | (go_at_call 10; refine (cO _ _ _ _ D).mono ?_; rintro e w3 ⟨x3, y3, rfl, hb⟩; replace D := D.below hb; replace hD := hD.below hb; clear q0 q1 hb; obtain ⟨q0, q1⟩ := D.cells)
      | (go_at_call 11; refine (cF _ _ _ _ D hD).mono ?_; rintro e w4 ⟨x4, y4, rfl, hb⟩; replace D := D.below hb; clear q0 q1 hb; obtain ⟨q0, q1⟩ := D.cells)
      | (go_at_call 12; refine (cR _ _ _ _ D).mono ?_; rintro e w5 ⟨rfl, hb⟩; replace D := D.below hb; clear q0 q1 hb; obtain ⟨q0, q1⟩ := D.cells)
      | (go_at_call 13; refine (alive16_any _).mono ?_; rintro e w6 ⟨rfl, hb⟩; replace D := D.below hb; clear q0 q1; obtain ⟨q0, q1⟩ := D.cells))
    go_ret
    exact ⟨rfl, D.hB⟩

end Go.Proofs.Ytmjhapkhfelbpaa

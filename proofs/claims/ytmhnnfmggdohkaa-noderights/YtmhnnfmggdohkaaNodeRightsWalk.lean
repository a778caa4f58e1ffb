/-
  The walk through the statement NodeRights.
-/
import Derived.Test.YtmhnnfmggdohkaaNodeFew
import Derived.Test.YtmhnnfmggdohkaaNodeRefPut
import Derived.Test.YtmhnnfmggdohkaaNodeRefB
namespace Go.Proofs.Ytmhnnfmggdohkaa
open Go.RowKit Plain
set_option linter.unusedVariables false

set_option maxRecDepth 20000 in
set_option maxHeartbeats 4000000 in
theorem nodeRights_walk (l : Bool) (a : Option Addr) (c : Nat) (ks : List ByteArray) (a' : Option Addr) (c' : Nat) (vs : List ByteArray) (a'' : Option Addr) (c'' : Nat) (cs : List Int) (root : Bool) (w : World) (hK : IsS w a c ks) (hV : IsS w a' c' vs) (hC : IsI w a'' c'' cs) :
    Calls Try.prog 3 #[.agg #[.bool l, .slice a ks.length c, .slice a' vs.length c', .slice a'' cs.length c''], .bool root] w fun e w' => e = .returned (.bool true) ∧ Below w.heap.size w w' := by
  obtain ⟨n, m, xs, hn, hxs, hm, hmin, IX, g1, g2, g3⟩ := few_S hK
  obtain ⟨n', m', ys, hn', hys, hm', hmin', IY, g1', g2', g3'⟩ := few_S hV
  obtain ⟨n'', m'', zs, hn'', hzs, hm'', hmin'', IZ, g1'', g2'', g3''⟩ := few_I hC
  rw [← hn, ← hn', ← hn'']
  obtain ⟨W, hW⟩ : ∃ W, W = w.alloc (.cells #[.bool l, .slice a n c, .slice a' n' c', .slice a'' n'' c''] 25) := ⟨_, rfl⟩
  have hB0 : Below w.heap.size w W := by rw [hW]; exact (Below.refl _ _).alloc (Nat.le_refl _) _
  have hX : Box4 W w.heap.size (.bool l) (.slice a n c) (.slice a' n' c') (.slice a'' n'' c'') := by rw [hW]; exact box4_new _ _ _ _ _ _ rfl
  have cF : ∀ V, Calls Try.prog 9 #[.agg #[.bool l, .slice a n c, .slice a' n' c', .slice a'' n'' c'']] V fun e w' => e = .returned (.agg #[.bool l, .slice a m c, .slice a' m' c', .slice a'' m'' c'']) ∧ Below V.heap.size V w' := fun V => few_any l a a' a'' c c' c'' n n' n'' m m' m'' V g1 g1' g1'' g2 g2' g2'' hmin hmin' hmin''
  have cP : ∀ V, Below w.heap.size w V → Calls Try.prog 10 #[.agg #[.bool l, .slice a m c, .slice a' m' c', .slice a'' m'' c'']] V fun e w' => e = .returned (.tuple #[.string (nPutS l xs ys zs), .int .i64 (nPutE l xs ys zs)]) ∧ Below V.heap.size V w' := fun V h => nodePut_any _ _ _ _ _ _ _ _ _ _ _ _ _ _ hm hm' hm'' (IX.below h) (IY.below h) (IZ.below h)
  have cR : ∀ V r, Below w.heap.size w V → Calls Try.prog 13 #[.agg #[.bool l, .slice a m c, .slice a' m' c', .slice a'' m'' c''], .bool r] V fun e w' => e = .returned (.bool (rightN l xs ys zs r)) ∧ Below V.heap.size V w' := fun V r h => nodeRight_any _ _ _ _ _ _ _ _ _ _ _ _ _ r _ hm hm' hm'' (IX.below h) (IY.below h) (IZ.below h)
  have cQ : ∀ V r, Below w.heap.size w V → Calls Try.prog 11 #[.agg #[.bool l, .slice a m c, .slice a' m' c', .slice a'' m'' c''], .bool r] V fun e w' => e = .returned (.bool (rightN l xs ys zs r)) ∧ Below V.heap.size V w' := fun V r h => refNodeRight_any _ _ _ _ _ _ _ _ _ _ _ _ _ r _ hm hm' hm'' (IX.below h) (IY.below h) (IZ.below h)
  have cU : ∀ V, Below w.heap.size w V → rightN l xs ys zs true = true → Calls Try.prog 14 #[.agg #[.bool l, .slice a m c, .slice a' m' c', .slice a'' m'' c'']] V fun e w' => e = .returned (.string (nodeS l xs ys zs)) ∧ Below V.heap.size V w' := fun V h hr => refNodePut_any _ _ _ _ _ _ _ _ _ _ _ _ _ _ hm hm' hm'' (IX.below h) (IY.below h) (IZ.below h) hr
  have hle : w.heap.size ≤ w.heap.size := Nat.le_refl _
  cases hr : rightN l xs ys zs true with
  | true =>
    have e1 : nPutS l xs ys zs = nodeS l xs ys zs := by unfold nPutS; rw [if_pos hr]
    have e2 : nPutE l xs ys zs = 0 := by unfold nPutE; rw [if_pos hr]
    rw [e1, e2] at cP
    have cQt := fun V => cQ V true
    have cQr := fun V => cQ V root
    have cRr := fun V => cR V root
    replace cU := fun V h => cU V h hr
    rw [hr] at cQt
    clear cQ cR e1 e2 hr
    generalize nodeS l xs ys zs = S at cP cU
    generalize rightN l xs ys zs root = rr at cRr cQr
    clear hn hxs hmin hn' hys hmin' hn'' hzs hmin'' hK hV hC hm hm' hm'' IX IY IZ g1 g1' g1'' g2 g2' g2'' g3 g3' g3''
    have tok1 : True := trivial
    go_enter Try.func3, Try.ntmps3
    go_wp2_with (first
      | (go_at_call 9; rw [← hW]; refine (cF _).mono ?_; rintro e w1 ⟨rfl, hb⟩; replace hX := hX.below hb; replace hB0 := Below.tr hB0 hb; obtain ⟨⟨q0, q1, q2, q3⟩, f0, f1, f2, f3⟩ := id hX; clear hb)
      | (go_at_call 10; replace hX := hX.put (.bool l) (.slice a m c) (.slice a' m' c') (.slice a'' m'' c''); replace hB0 := below_put4 hB0 hle (.bool l) (.slice a m c) (.slice a' m' c') (.slice a'' m'' c''); refine (cP _ hB0).mono ?_; rintro e w2 ⟨rfl, hb⟩; replace hX := hX.below hb; replace hB0 := Below.tr hB0 hb; clear q0 q1 q2 q3 f0 f1 f2 f3; obtain ⟨⟨q0, q1, q2, q3⟩, f0, f1, f2, f3⟩ := id hX; clear hb)
      | (go_at_call 11; refine (cQt _ hB0).mono ?_; rintro e w3 ⟨rfl, hb⟩; replace hX := hX.below hb; replace hB0 := Below.tr hB0 hb; clear q0 q1 q2 q3 f0 f1 f2 f3; obtain ⟨⟨q0, q1, q2, q3⟩, f0, f1, f2, f3⟩ := id hX; clear hb))
    replace hB0 := hB0.drew
    replace hX := hX.drew
    have e0 : (rr == rr) = true := by simp
    go_region_held3 (fun V => V.cell? ⟨w.heap.size, 0, none⟩ = some (.bool l) ∧ V.cell? ⟨w.heap.size, 1, none⟩ = some (.slice a m c) ∧ V.cell? ⟨w.heap.size, 2, none⟩ = some (.slice a' m' c') ∧ V.cell? ⟨w.heap.size, 3, none⟩ = some (.slice a'' m'' c'')) (exact hX.1) (first
      | (go_at_call 12; refine (alive07_any _).mono ?_; rintro e w4 ⟨rfl, hb⟩; replace hB0 := Below.tr hB0 hb; replace hX := hX.below hb; clear hb)
      | (go_at_call 13; refine (cRr _ hB0).mono ?_; rintro e w5 ⟨rfl, hb⟩; replace hB0 := Below.tr hB0 hb; replace hX := hX.below hb; clear hb)
      | (go_at_call 11; refine (cQr _ hB0).mono ?_; rintro e w6 ⟨rfl, hb⟩; replace hB0 := Below.tr hB0 hb; replace hX := hX.below hb; clear hb)
      | (go_at_call 14; refine (cU _ hB0).mono ?_; rintro e w7 ⟨rfl, hb⟩; replace hB0 := Below.tr hB0 hb; replace hX := hX.below hb; clear hb))
    go_wp2
    go_ret
    exact ⟨rfl, hB0⟩
  | false =>
    have e1 : nPutS l xs ys zs = ⟨#[]⟩ := by unfold nPutS; rw [if_neg (by rw [hr]; decide)]
    have e2 : nPutE l xs ys zs = 1 := by unfold nPutE; rw [if_neg (by rw [hr]; decide)]
    have e3 : rightN l xs ys zs root = false := by
      rw [Bool.eq_false_iff]
      intro h
      obtain ⟨p1, p2, _⟩ := rightN_iff.1 h
      rw [rightN_iff.2 ⟨p1, p2, .inl rfl⟩] at hr
      cases hr
    rw [e1, e2] at cP
    have cQt := fun V => cQ V true
    have cRr := fun V => cR V root
    rw [hr] at cQt
    rw [e3] at cRr
    clear cQ cR e1 e2 e3 hr cU
    clear hn hxs hmin hn' hys hmin' hn'' hzs hmin'' hK hV hC hm hm' hm'' IX IY IZ g1 g1' g1'' g2 g2' g2'' g3 g3' g3''
    go_enter Try.func3, Try.ntmps3
    go_wp2_with (first
      | (go_at_call 9; rw [← hW]; refine (cF _).mono ?_; rintro e w1 ⟨rfl, hb⟩; replace hX := hX.below hb; replace hB0 := Below.tr hB0 hb; obtain ⟨⟨q0, q1, q2, q3⟩, f0, f1, f2, f3⟩ := id hX; clear hb)
      | (go_at_call 10; replace hX := hX.put (.bool l) (.slice a m c) (.slice a' m' c') (.slice a'' m'' c''); replace hB0 := below_put4 hB0 hle (.bool l) (.slice a m c) (.slice a' m' c') (.slice a'' m'' c''); refine (cP _ hB0).mono ?_; rintro e w2 ⟨rfl, hb⟩; replace hX := hX.below hb; replace hB0 := Below.tr hB0 hb; clear q0 q1 q2 q3 f0 f1 f2 f3; obtain ⟨⟨q0, q1, q2, q3⟩, f0, f1, f2, f3⟩ := id hX; clear hb)
      | (go_at_call 11; refine (cQt _ hB0).mono ?_; rintro e w3 ⟨rfl, hb⟩; replace hX := hX.below hb; replace hB0 := Below.tr hB0 hb; clear q0 q1 q2 q3 f0 f1 f2 f3; obtain ⟨⟨q0, q1, q2, q3⟩, f0, f1, f2, f3⟩ := id hX; clear hb)
      | (go_at_call 12; refine (alive07_any _).mono ?_; rintro e w4 ⟨rfl, hb⟩; replace hB0 := Below.tr hB0 hb; replace hX := hX.below hb; clear q0 q1 q2 q3 f0 f1 f2 f3; obtain ⟨⟨q0, q1, q2, q3⟩, f0, f1, f2, f3⟩ := id hX; clear hb)
      | (go_at_call 13; refine (cRr _ hB0).mono ?_; rintro e w5 ⟨rfl, hb⟩; replace hB0 := Below.tr hB0 hb; replace hX := hX.below hb; clear hb))
    go_ret
    exact ⟨rfl, hB0⟩

end Go.Proofs.Ytmhnnfmggdohkaa

/-
  The walk through the statement NodeHalves.
-/
import Derived.Test.YtmhnnfmggdohkaaNodeCutAll
import Derived.Test.YtmhnnfmggdohkaaNodeFew
import Derived.Test.YtmhnnfmggdohkaaNodeJoinI
import Derived.Test.YtmhnnfmggdohkaaNodeLike
namespace Go.Proofs.Ytmhnnfmggdohkaa
open Go.RowKit Plain
set_option linter.unusedVariables false

set_option maxRecDepth 20000 in
set_option maxHeartbeats 4000000 in
theorem nodeHalves_walk (l : Bool) (a : Option Addr) (c : Nat) (ks : List ByteArray) (a' : Option Addr) (c' : Nat) (vs : List ByteArray) (a'' : Option Addr) (c'' : Nat) (cs : List Int) (w : World) (hK : IsS w a c ks) (hV : IsS w a' c' vs) (hC : IsI w a'' c'' cs) :
    Calls Try.prog 8 #[.agg #[.bool l, .slice a ks.length c, .slice a' vs.length c', .slice a'' cs.length c'']] w fun e w' => e = .returned (.bool true) ∧ Below w.heap.size w w' := by
  obtain ⟨n, m, xs, hn, hxs, hm, hmin, IX, g1, g2, g3⟩ := few_S hK
  obtain ⟨n', m', ys, hn', hys, hm', hmin', IY, g1', g2', g3'⟩ := few_S hV
  obtain ⟨n'', m'', zs, hn'', hzs, hm'', hmin'', IZ, g1'', g2'', g3''⟩ := few_I hC
  rw [← hn, ← hn', ← hn'']
  obtain ⟨W, hW⟩ : ∃ W, W = w.alloc (.cells #[.bool l, .slice a n c, .slice a' n' c', .slice a'' n'' c''] 25) := ⟨_, rfl⟩
  have hB0 : Below w.heap.size w W := by rw [hW]; exact (Below.refl _ _).alloc (Nat.le_refl _) _
  have hX : Box4 W w.heap.size (.bool l) (.slice a n c) (.slice a' n' c') (.slice a'' n'' c'') := by rw [hW]; exact box4_new _ _ _ _ _ _ rfl
  have cF : ∀ V, Calls Try.prog 9 #[.agg #[.bool l, .slice a n c, .slice a' n' c', .slice a'' n'' c'']] V fun e w' => e = .returned (.agg #[.bool l, .slice a m c, .slice a' m' c', .slice a'' m'' c'']) ∧ Below V.heap.size V w' := fun V => few_any l a a' a'' c c' c'' n n' n'' m m' m'' V g1 g1' g1'' g2 g2' g2'' hmin hmin' hmin''
  have hle : w.heap.size ≤ w.heap.size := Nat.le_refl _
  by_cases hok : standsN l xs ys zs = true ∧ xs.length = 9
  · have hcu : cutOk l xs ys zs = true := by unfold cutOk; rw [hok.1, decide_eq_true hok.2]; rfl
    have cC : ∀ V, Below w.heap.size w V → Calls Try.prog 24 #[.agg #[.bool l, .slice a m c, .slice a' m' c', .slice a'' m'' c'']] V fun x w' => Answers2 V x w' l (xs.take 4) (ys.take 4) (zs.take 5) (xs.getD 4 ⟨#[]⟩) (xs.drop (cutFrom l)) (ys.drop 4) (zs.drop 5) 0 := fun V h => by
      have := nodeCut_any l a a' a'' c c' c'' m m' m'' xs ys zs V hm hm' hm'' (IX.below h) (IY.below h) (IZ.below h)
      unfold cutL cutAK cutAV cutAC cutM cutBK cutBV cutBC cutEr at this
      rw [hcu] at this
      simp only [if_true, Bool.true_and] at this
      exact this
    have hl4 : 4 < xs.length := by omega
    have hm4 : xs[4]? = some (xs.getD 4 ⟨#[]⟩) := by rw [List.getD_eq_getElem?_getD, List.getElem?_eq_getElem hl4]; rfl
    obtain ⟨hr1, hr2, hj1, hj2, hj3⟩ := cut_join hok.1 hok.2 hm4
    obtain ⟨_, hkk, hri, _, _, _⟩ := standsN_iff.1 hok.1
    obtain ⟨hs1, hs2, hs3⟩ := cut_sides hri hm4
    have hms : (xs.getD 4 ⟨#[]⟩).size ≤ maxLen := by have := (hkk _ (List.mem_of_getElem? hm4)).2; unfold maxLen; omega
    replace hs2 : ∀ k ∈ xs.drop (cutFrom l), ltB k (xs.getD 4 ⟨#[]⟩) = false := by
      unfold cutFrom
      split
      · exact hs2
      · exact hs3
    generalize xs.getD 4 ⟨#[]⟩ = mid at *
    generalize xs.take 4 = K1 at *
    generalize ys.take 4 = V1 at *
    generalize zs.take 5 = C1 at *
    generalize xs.drop (cutFrom l) = K2 at *
    generalize ys.drop 4 = V2 at *
    generalize zs.drop 5 = C2 at *
    have hE : joinE l K1 V1 C1 mid l K2 V2 C2 = 0 := by unfold joinE; rw [if_pos ⟨(rightN_iff.1 hr1).1, (rightN_iff.1 hr2).1, rfl, by rw [hj1, hj2, hj3]; exact hok.1⟩]
    have cJ : ∀ V a d n a' d' n' a'' d'' n'' e f p e' f' p' e'' f'' p'', n = K1.length → n' = V1.length → n'' = C1.length → p = K2.length → p' = V2.length → p'' = C2.length → IsS V a d K1 → IsS V a' d' V1 → IsI V a'' d'' C1 → IsS V e f K2 → IsS V e' f' V2 → IsI V e'' f'' C2 → Calls Try.prog 22 #[.agg #[.bool l, .slice a n d, .slice a' n' d', .slice a'' n'' d''], .string mid, .agg #[.bool l, .slice e p f, .slice e' p' f', .slice e'' p'' f'']] V fun x w' => Answers V x w' l xs ys zs 0 := fun V a d n a' d' n' a'' d'' n'' e f p e' f' p' e'' f'' p'' h1 h2 h3 h4 h5 h6 i1 i2 i3 i4 i5 i6 => by
      have := nodeJoin_any l l a a' a'' e e' e'' d d' d'' f f' f'' n n' n'' p p' p'' K1 V1 K2 V2 C1 C2 mid V h1 h2 h3 i1 i2 i3 h4 h5 h6 i4 i5 i6 hms
      unfold joinL joinKs joinVs joinCs at this
      rw [hE, if_pos rfl, if_pos rfl, if_pos rfl, if_pos rfl, hj1, hj2, hj3] at this
      exact this
    have cR1 : ∀ V a d n a' d' n' a'' d'' n'', n = K1.length → n' = V1.length → n'' = C1.length → IsS V a d K1 → IsS V a' d' V1 → IsI V a'' d'' C1 → Calls Try.prog 13 #[.agg #[.bool l, .slice a n d, .slice a' n' d', .slice a'' n'' d''], .bool false] V fun e w' => e = .returned (.bool true) ∧ Below V.heap.size V w' := fun V a d n a' d' n' a'' d'' n'' h1 h2 h3 i1 i2 i3 => by have := nodeRight_any l a a' a'' d d' d'' n n' n'' K1 V1 C1 false V h1 h2 h3 i1 i2 i3; rw [hr1] at this; exact this
    have cR2 : ∀ V a d n a' d' n' a'' d'' n'', n = K2.length → n' = V2.length → n'' = C2.length → IsS V a d K2 → IsS V a' d' V2 → IsI V a'' d'' C2 → Calls Try.prog 13 #[.agg #[.bool l, .slice a n d, .slice a' n' d', .slice a'' n'' d''], .bool false] V fun e w' => e = .returned (.bool true) ∧ Below V.heap.size V w' := fun V a d n a' d' n' a'' d'' n'' h1 h2 h3 i1 i2 i3 => by have := nodeRight_any l a a' a'' d d' d'' n n' n'' K2 V2 C2 false V h1 h2 h3 i1 i2 i3; rw [hr2] at this; exact this
    have cL : ∀ V, Below w.heap.size w V → ∀ a1 d1 n1 a1' d1' n1' a1'' d1'' n1'', n1 = xs.length → n1' = ys.length → n1'' = zs.length → IsS V a1 d1 xs → IsS V a1' d1' ys → IsI V a1'' d1'' zs → Calls Try.prog 17 #[.agg #[.bool l, .slice a1 n1 d1, .slice a1' n1' d1', .slice a1'' n1'' d1''], .agg #[.bool l, .slice a m c, .slice a' m' c', .slice a'' m'' c'']] V fun e w' => e = .returned (.bool true) ∧ Below V.heap.size V w' := fun V h a1 d1 n1 a1' d1' n1' a1'' d1'' n1'' h1 h2 h3 i1 i2 i3 => by
      have := refLike_any l a1 a1' a1'' d1 d1' d1'' n1 n1' n1'' xs ys zs l a a' a'' c c' c'' m m' m'' xs ys zs V h1 h2 h3 i1 i2 i3 hm hm' hm'' (IX.below h) (IY.below h) (IZ.below h)
      rw [likeN_iff.2 ⟨rfl, rfl, rfl, rfl⟩] at this
      exact this
    have HL1 : Hid (∀ k ∈ K1, ltB k mid = true) := hs1
    have HL2 : Hid (∀ k ∈ K2, ltB k mid = false) := hs2
    have hbb : (l == l) = true := by simp
    clear hn hxs hmin hn' hys hmin' hn'' hzs hmin'' hK hV hC hm hm' hm'' IX IY IZ g1 g1' g1'' g2 g2' g2'' g3 g3' g3'' hok hcu hl4 hm4 hr1 hr2 hj1 hj2 hj3 hkk hri hs1 hs2 hs3 hms hE
    have tok1 : True := trivial
    go_enter Try.func8, Try.ntmps8
    go_wp2_with (first
      | (go_at_call 9; rw [← hW]; refine (cF _).mono ?_; rintro e w1 ⟨rfl, hb⟩; replace hX := hX.below hb; replace hB0 := Below.tr hB0 hb; obtain ⟨⟨q0, q1, q2, q3⟩, f0, f1, f2, f3⟩ := id hX; clear hb)
      | (go_at_call 24; replace hX := hX.put (.bool l) (.slice a m c) (.slice a' m' c') (.slice a'' m'' c''); replace hB0 := below_put4 hB0 hle (.bool l) (.slice a m c) (.slice a' m' c') (.slice a'' m'' c''); refine (cC _ hB0).mono ?_; rintro e w2 ⟨k1, a1, d1, k1', a1', d1', k1'', a1'', d1'', k2, a2, d2, k2', a2', d2', k2'', a2'', d2'', rfl, e1, e2, e3, e4, e5, e6, i1, i2, i3, i4, i5, i6, hb⟩; have E1 : Hid (k1 = K1.length) := e1; have E2 : Hid (k1' = V1.length) := e2; have E3 : Hid (k1'' = C1.length) := e3; have E4 : Hid (k2 = K2.length) := e4; have E5 : Hid (k2' = V2.length) := e5; have E6 : Hid (k2'' = C2.length) := e6; have hA : Below w2.heap.size w2 ((w2.alloc (.cells #[.bool l, .slice a1 k1 d1, .slice a1' k1' d1', .slice a1'' k1'' d1''] 25)).alloc (.cells #[.bool l, .slice a2 k2 d2, .slice a2' k2' d2', .slice a2'' k2'' d2''] 25)) := ((Below.refl w2.heap.size w2).alloc (Nat.le_refl _) _).alloc (by simp) _; have I1 : Hid (IsS ((w2.alloc (.cells #[.bool l, .slice a1 k1 d1, .slice a1' k1' d1', .slice a1'' k1'' d1''] 25)).alloc (.cells #[.bool l, .slice a2 k2 d2, .slice a2' k2' d2', .slice a2'' k2'' d2''] 25)) a1 d1 K1) := i1.below hA; have I2 : Hid (IsS ((w2.alloc (.cells #[.bool l, .slice a1 k1 d1, .slice a1' k1' d1', .slice a1'' k1'' d1''] 25)).alloc (.cells #[.bool l, .slice a2 k2 d2, .slice a2' k2' d2', .slice a2'' k2'' d2''] 25)) a1' d1' V1) := i2.below hA; have I3 : Hid (IsI ((w2.alloc (.cells #[.bool l, .slice a1 k1 d1, .slice a1' k1' d1', .slice a1'' k1'' d1''] 25)).alloc (.cells #[.bool l, .slice a2 k2 d2, .slice a2' k2' d2', .slice a2'' k2'' d2''] 25)) a1'' d1'' C1) := i3.below hA; have I4 : Hid (IsS ((w2.alloc (.cells #[.bool l, .slice a1 k1 d1, .slice a1' k1' d1', .slice a1'' k1'' d1''] 25)).alloc (.cells #[.bool l, .slice a2 k2 d2, .slice a2' k2' d2', .slice a2'' k2'' d2''] 25)) a2 d2 K2) := i4.below hA; have I5 : Hid (IsS ((w2.alloc (.cells #[.bool l, .slice a1 k1 d1, .slice a1' k1' d1', .slice a1'' k1'' d1''] 25)).alloc (.cells #[.bool l, .slice a2 k2 d2, .slice a2' k2' d2', .slice a2'' k2'' d2''] 25)) a2' d2' V2) := i5.below hA; have I6 : Hid (IsI ((w2.alloc (.cells #[.bool l, .slice a1 k1 d1, .slice a1' k1' d1', .slice a1'' k1'' d1''] 25)).alloc (.cells #[.bool l, .slice a2 k2 d2, .slice a2' k2' d2', .slice a2'' k2'' d2''] 25)) a2'' d2'' C2) := i6.below hA; have BA : Box4 ((w2.alloc (.cells #[.bool l, .slice a1 k1 d1, .slice a1' k1' d1', .slice a1'' k1'' d1''] 25)).alloc (.cells #[.bool l, .slice a2 k2 d2, .slice a2' k2' d2', .slice a2'' k2'' d2''] 25)) w2.heap.size (.bool l) (.slice a1 k1 d1) (.slice a1' k1' d1') (.slice a1'' k1'' d1'') := (box4_new _ _ _ _ _ _ rfl).alloc _; have BB : Box4 ((w2.alloc (.cells #[.bool l, .slice a1 k1 d1, .slice a1' k1' d1', .slice a1'' k1'' d1''] 25)).alloc (.cells #[.bool l, .slice a2 k2 d2, .slice a2' k2' d2', .slice a2'' k2'' d2''] 25)) (w2.heap.size + 1) (.bool l) (.slice a2 k2 d2) (.slice a2' k2' d2') (.slice a2'' k2'' d2'') := box4_new _ _ _ _ _ _ (by simp); replace hX := (hX.below hb).below hA; replace hB0 := Below.tr (Below.tr hB0 hb) hA; clear q0 q1 q2 q3 f0 f1 f2 f3; obtain ⟨⟨q0, q1, q2, q3⟩, -⟩ := id hX; obtain ⟨⟨p0, p1, p2, p3⟩, -⟩ := id BA; obtain ⟨⟨r0, r1, r2, r3⟩, -⟩ := id BB; clear hb hA e1 e2 e3 e4 e5 e6 i1 i2 i3 i4 i5 i6)
      | (go_at_call 22; refine (cJ _ a1 d1 k1 a1' d1' k1' a1'' d1'' k1'' a2 d2 k2 a2' d2' k2' a2'' d2'' k2'' E1.out E2.out E3.out E4.out E5.out E6.out I1.out I2.out I3.out I4.out I5.out I6.out).mono ?_; rintro e w3 ⟨k3, a3, d3, k3', a3', d3', k3'', a3'', d3'', rfl, e1, e2, e3, i1, i2, i3, -, -, -, hb⟩; have G1 : Hid (k3 = xs.length) := e1; have G2 : Hid (k3' = ys.length) := e2; have G3 : Hid (k3'' = zs.length) := e3; have hA : Below w3.heap.size w3 (w3.alloc (.cells #[.bool l, .slice a3 k3 d3, .slice a3' k3' d3', .slice a3'' k3'' d3''] 25)) := (Below.refl w3.heap.size w3).alloc (Nat.le_refl _) _; have H1 : Hid (IsS (w3.alloc (.cells #[.bool l, .slice a3 k3 d3, .slice a3' k3' d3', .slice a3'' k3'' d3''] 25)) a3 d3 xs) := i1.below hA; have H2 : Hid (IsS (w3.alloc (.cells #[.bool l, .slice a3 k3 d3, .slice a3' k3' d3', .slice a3'' k3'' d3''] 25)) a3' d3' ys) := i2.below hA; have H3 : Hid (IsI (w3.alloc (.cells #[.bool l, .slice a3 k3 d3, .slice a3' k3' d3', .slice a3'' k3'' d3''] 25)) a3'' d3'' zs) := i3.below hA; replace hX := (hX.below hb).below hA; replace BA := (BA.below hb).below hA; replace BB := (BB.below hb).below hA; replace hB0 := Below.tr (Below.tr hB0 hb) hA; replace I1 : Hid (IsS (w3.alloc (.cells #[.bool l, .slice a3 k3 d3, .slice a3' k3' d3', .slice a3'' k3'' d3''] 25)) a1 d1 K1) := (I1.out.below hb).below hA; replace I2 : Hid (IsS (w3.alloc (.cells #[.bool l, .slice a3 k3 d3, .slice a3' k3' d3', .slice a3'' k3'' d3''] 25)) a1' d1' V1) := (I2.out.below hb).below hA; replace I3 : Hid (IsI (w3.alloc (.cells #[.bool l, .slice a3 k3 d3, .slice a3' k3' d3', .slice a3'' k3'' d3''] 25)) a1'' d1'' C1) := (I3.out.below hb).below hA; replace I4 : Hid (IsS (w3.alloc (.cells #[.bool l, .slice a3 k3 d3, .slice a3' k3' d3', .slice a3'' k3'' d3''] 25)) a2 d2 K2) := (I4.out.below hb).below hA; replace I5 : Hid (IsS (w3.alloc (.cells #[.bool l, .slice a3 k3 d3, .slice a3' k3' d3', .slice a3'' k3'' d3''] 25)) a2' d2' V2) := (I5.out.below hb).below hA; replace I6 : Hid (IsI (w3.alloc (.cells #[.bool l, .slice a3 k3 d3, .slice a3' k3' d3', .slice a3'' k3'' d3''] 25)) a2'' d2'' C2) := (I6.out.below hb).below hA; clear q0 q1 q2 q3 p0 p1 p2 p3 r0 r1 r2 r3; obtain ⟨⟨q0, q1, q2, q3⟩, -⟩ := id hX; obtain ⟨⟨p0, p1, p2, p3⟩, -⟩ := id BA; obtain ⟨⟨r0, r1, r2, r3⟩, -⟩ := id BB; clear hb hA e1 e2 e3 i1 i2 i3)
      | (go_at_call 17; refine (cL _ hB0 a3 d3 k3 a3' d3' k3' a3'' d3'' k3'' G1.out G2.out G3.out H1.out H2.out H3.out).mono ?_; rintro e w4 ⟨rfl, hb⟩; replace hX := hX.below hb; replace BA := BA.below hb; replace BB := BB.below hb; replace hB0 := Below.tr hB0 hb; replace I1 : Hid (IsS w4 a1 d1 K1) := I1.out.below hb; replace I2 : Hid (IsS w4 a1' d1' V1) := I2.out.below hb; replace I3 : Hid (IsI w4 a1'' d1'' C1) := I3.out.below hb; replace I4 : Hid (IsS w4 a2 d2 K2) := I4.out.below hb; replace I5 : Hid (IsS w4 a2' d2' V2) := I5.out.below hb; replace I6 : Hid (IsI w4 a2'' d2'' C2) := I6.out.below hb; clear q0 q1 q2 q3 p0 p1 p2 p3 r0 r1 r2 r3; obtain ⟨⟨q0, q1, q2, q3⟩, -⟩ := id hX; obtain ⟨⟨p0, p1, p2, p3⟩, -⟩ := id BA; obtain ⟨⟨r0, r1, r2, r3⟩, -⟩ := id BB; clear hb H1 H2 H3 G1 G2 G3)
      | (go_at_call 13; have _t := tok1; refine (cR1 _ a1 d1 k1 a1' d1' k1' a1'' d1'' k1'' E1.out E2.out E3.out I1.out I2.out I3.out).mono ?_; rintro e w5 ⟨rfl, hb⟩; replace hX := hX.below hb; replace BA := BA.below hb; replace BB := BB.below hb; replace hB0 := Below.tr hB0 hb; replace I1 : Hid (IsS w5 a1 d1 K1) := I1.out.below hb; replace I2 : Hid (IsS w5 a1' d1' V1) := I2.out.below hb; replace I3 : Hid (IsI w5 a1'' d1'' C1) := I3.out.below hb; replace I4 : Hid (IsS w5 a2 d2 K2) := I4.out.below hb; replace I5 : Hid (IsS w5 a2' d2' V2) := I5.out.below hb; replace I6 : Hid (IsI w5 a2'' d2'' C2) := I6.out.below hb; clear q0 q1 q2 q3 p0 p1 p2 p3 r0 r1 r2 r3; obtain ⟨⟨q0, q1, q2, q3⟩, -⟩ := id hX; obtain ⟨⟨p0, p1, p2, p3⟩, -⟩ := id BA; obtain ⟨⟨r0, r1, r2, r3⟩, -⟩ := id BB; clear hb tok1 _t)
      | (go_at_call 13; refine (cR2 _ a2 d2 k2 a2' d2' k2' a2'' d2'' k2'' E4.out E5.out E6.out I4.out I5.out I6.out).mono ?_; rintro e w6 ⟨rfl, hb⟩; replace hX := hX.below hb; replace BA := BA.below hb; replace BB := BB.below hb; replace hB0 := Below.tr hB0 hb; replace I1 : Hid (IsS w6 a1 d1 K1) := I1.out.below hb; replace I2 : Hid (IsS w6 a1' d1' V1) := I2.out.below hb; replace I3 : Hid (IsI w6 a1'' d1'' C1) := I3.out.below hb; replace I4 : Hid (IsS w6 a2 d2 K2) := I4.out.below hb; replace I5 : Hid (IsS w6 a2' d2' V2) := I5.out.below hb; replace I6 : Hid (IsI w6 a2'' d2'' C2) := I6.out.below hb; clear q0 q1 q2 q3 p0 p1 p2 p3 r0 r1 r2 r3; obtain ⟨⟨q0, q1, q2, q3⟩, -⟩ := id hX; obtain ⟨⟨p0, p1, p2, p3⟩, -⟩ := id BA; obtain ⟨⟨r0, r1, r2, r3⟩, -⟩ := id BB; clear hb)
      )
    clear hW
    have gk1 : k1 ≤ 9223372036854775807 := by rw [E1.out]; exact Nat.le_trans I1.out.1 I1.out.2.1
    have gk2 : k2 ≤ 9223372036854775807 := by rw [E4.out]; exact Nat.le_trans I4.out.1 I4.out.2.1
    go_loop [71] (fun v => ∃ j : Nat, j ≤ k1 ∧ v = .int .i64 j) (fun v => k1 - (intOf v).toNat)
    case atStart => exact ⟨0, by omega, rfl⟩
    case round =>
      obtain ⟨j, hj, rfl⟩ := hrel
      by_cases hlt : j < k1
      · have hlt' : (j : Int) < k1 := by omega
        obtain ⟨x, hx⟩ : ∃ x, Hid (K1[j]? = some x) := ⟨_, List.getElem?_eq_getElem (by rw [← E1.out]; exact hlt)⟩
        obtain ⟨b, o, rfl, hlb, hc0, hxs⟩ := I1.out.2.2 j x hx.out
        have h2 : Op.bytesLess x.toList mid.toList = true := HL1.out x (List.mem_of_getElem? hx.out)
        go_wp2
        go_round
        case rel => exact ⟨j + 1, by omega, by go_num⟩
        case measure => simp [intOf]; omega
      · obtain rfl : j = k1 := by omega
        clear hlt
        go_wp2
        go_loop [82] (fun v => ∃ i : Nat, i ≤ k2 ∧ v = .int .i64 i) (fun v => k2 - (intOf v).toNat)
        case atStart => exact ⟨0, by omega, rfl⟩
        case round =>
          obtain ⟨i, hi, rfl⟩ := hrel
          by_cases hlt : i < k2
          · have hlt' : (i : Int) < k2 := by omega
            obtain ⟨x, hx⟩ : ∃ x, Hid (K2[i]? = some x) := ⟨_, List.getElem?_eq_getElem (by rw [← E4.out]; exact hlt)⟩
            obtain ⟨b, o, rfl, hlb, hc0, hxs⟩ := I4.out.2.2 i x hx.out
            have h2 : Op.bytesLess x.toList mid.toList = false := HL2.out x (List.mem_of_getElem? hx.out)
            go_wp2
            go_round
            case rel => exact ⟨i + 1, by omega, by go_num⟩
            case measure => simp [intOf]; omega
          · obtain rfl : i = k2 := by omega
            clear hlt
            go_wp2_with (go_at_call 12; refine (alive07_any _).mono ?_; rintro e w7 ⟨rfl, hb⟩; replace hB0 := Below.tr hB0 hb; clear hb)
            go_ret
            exact ⟨rfl, hB0⟩
  · have cC : ∀ V, Below w.heap.size w V → Calls Try.prog 24 #[.agg #[.bool l, .slice a m c, .slice a' m' c', .slice a'' m'' c'']] V fun x w' => Answers2 V x w' false [] [] [] ⟨#[]⟩ [] [] [] 1 := fun V h => cutBad_any l a a' a'' c c' c'' m m' m'' xs ys zs V hm hm' hm'' (IX.below h) (IY.below h) (IZ.below h) hok
    clear hn hxs hmin hn' hys hmin' hn'' hzs hmin'' hK hV hC hm hm' hm'' IX IY IZ g1 g1' g1'' g2 g2' g2'' g3 g3' g3'' hok
    go_enter Try.func8, Try.ntmps8
    go_wp2_with (first
      | (go_at_call 9; rw [← hW]; refine (cF _).mono ?_; rintro e w1 ⟨rfl, hb⟩; replace hX := hX.below hb; replace hB0 := Below.tr hB0 hb; obtain ⟨⟨q0, q1, q2, q3⟩, f0, f1, f2, f3⟩ := id hX; clear hb)
      | (go_at_call 24; replace hX := hX.put (.bool l) (.slice a m c) (.slice a' m' c') (.slice a'' m'' c''); replace hB0 := below_put4 hB0 hle (.bool l) (.slice a m c) (.slice a' m' c') (.slice a'' m'' c''); refine (cC _ hB0).mono ?_; rintro e w2 ⟨k1, a1, d1, k1', a1', d1', k1'', a1'', d1'', k2, a2, d2, k2', a2', d2', k2'', a2'', d2'', rfl, -, -, -, -, -, -, -, -, -, -, -, -, hb⟩; replace hB0 := Below.tr hB0 hb; clear q0 q1 q2 q3 f0 f1 f2 f3; replace hB0 := (hB0.alloc hB0.size (.cells #[.bool false, .slice a1 k1 d1, .slice a1' k1' d1', .slice a1'' k1'' d1''] 25)).alloc (by have := hB0.size; simp; omega) (.cells #[.bool false, .slice a2 k2 d2, .slice a2' k2' d2', .slice a2'' k2'' d2''] 25); clear hb hX)
      | (go_at_call 12; refine (alive07_any _).mono ?_; rintro e w5 ⟨rfl, hb⟩; replace hB0 := Below.tr hB0 hb; clear hb))
    go_ret
    exact ⟨rfl, hB0⟩

end Go.Proofs.Ytmhnnfmggdohkaa

/-
  The walk through the statement NodeOrder.
-/
import Derived.Test.YtmhnnfmggdohkabNodeFew
import Derived.Test.YtmhnnfmggdohkabNodePut
import Derived.Test.YtmhnnfmggdohkabNodeFind
namespace Go.Proofs.Ytmhnnfmggdohkab
open Go.RowKit Plain
set_option linter.unusedVariables false

theorem stands_at {l : Bool} {a a' a'' : Option Addr} {c c' c'' n n' n'' : Nat} {ks vs : List ByteArray} {cs : List Int} {w : World} (hn : n = ks.length) (hn' : n' = vs.length) (hn'' : n'' = cs.length) (hK : IsS w a c ks) (hV : IsS w a' c' vs) (hC : IsI w a'' c'' cs) :
    Calls Try.prog 5 #[.agg #[.bool l, .slice a n c, .slice a' n' c', .slice a'' n'' c'']] w fun e w' => e = .returned (.bool (standsN l ks vs cs)) ∧ Below w.heap.size w w' := by
  subst hn hn' hn''; exact refStands_any l a a' a'' c c' c'' ks vs cs w hK hV hC

set_option maxRecDepth 20000 in
set_option maxHeartbeats 4000000 in
theorem nodeOrder_walk (l : Bool) (a : Option Addr) (c : Nat) (ks : List ByteArray) (a' : Option Addr) (c' : Nat) (vs : List ByteArray) (a'' : Option Addr) (c'' : Nat) (cs : List Int) (key : ByteArray) (w : World) (hK : IsS w a c ks) (hV : IsS w a' c' vs) (hC : IsI w a'' c'' cs) (hkey : key.size ≤ maxLen) :
    Calls Try.prog 3 #[.agg #[.bool l, .slice a ks.length c, .slice a' vs.length c', .slice a'' cs.length c''], .string key] w fun e w' => e = .returned (.bool true) ∧ Below w.heap.size w w' := by
  obtain ⟨n, m, xs, hn, hxs, hm, hmin, IX, g1, g2, g3⟩ := few_S hK
  obtain ⟨n', m', ys, hn', hys, hm', hmin', IY, g1', g2', g3'⟩ := few_S hV
  obtain ⟨n'', m'', zs, hn'', hzs, hm'', hmin'', IZ, g1'', g2'', g3''⟩ := few_I hC
  rw [← hn, ← hn', ← hn'']
  obtain ⟨W, hW⟩ : ∃ W, W = w.alloc (.cells #[.bool l, .slice a n c, .slice a' n' c', .slice a'' n'' c''] 25) := ⟨_, rfl⟩
  have hB0 : Below w.heap.size w W := by rw [hW]; exact (Below.refl _ _).alloc (Nat.le_refl _) _
  have hX : Box4 W w.heap.size (.bool l) (.slice a n c) (.slice a' n' c') (.slice a'' n'' c'') := by rw [hW]; exact box4_new _ _ _ _ _ _ rfl
  have cF : ∀ V, Calls Try.prog 4 #[.agg #[.bool l, .slice a n c, .slice a' n' c', .slice a'' n'' c'']] V fun e w' => e = .returned (.agg #[.bool l, .slice a m c, .slice a' m' c', .slice a'' m'' c'']) ∧ Below V.heap.size V w' := fun V => few_any l a a' a'' c c' c'' n n' n'' m m' m'' V g1 g1' g1'' g2 g2' g2'' hmin hmin' hmin''
  have c0 : ∀ V, Below w.heap.size w V → Calls Try.prog 5 #[.agg #[.bool l, .slice a m c, .slice a' m' c', .slice a'' m'' c'']] V fun e w' => e = .returned (.bool (standsN l xs ys zs)) ∧ Below V.heap.size V w' := fun V h => stands_at hm hm' hm'' (IX.below h) (IY.below h) (IZ.below h)
  have c1 : ∀ V, Below w.heap.size w V → Calls Try.prog 7 #[.agg #[.bool l, .slice a m c, .slice a' m' c', .slice a'' m'' c''], .string key] V fun e w' => e = .returned (.tuple #[.int .i64 (findR l xs ys zs key), .bool (findI l xs ys zs key)]) ∧ Below V.heap.size V w' := fun V h => nodeFind_any _ _ _ _ _ _ _ _ _ _ _ _ _ key _ hm hm' hm'' (IX.below h) (IY.below h) (IZ.below h)
  have c3 : ∀ V, Below w.heap.size w V → Calls Try.prog 8 #[.agg #[.bool l, .slice a m c, .slice a' m' c', .slice a'' m'' c''], .string key] V fun e w' => e = .returned (.int .i64 (kidR l xs ys zs key)) ∧ Below V.heap.size V w' := fun V h => nodeKid_any _ _ _ _ _ _ _ _ _ _ _ _ _ key _ hm hm' hm'' (IX.below h) (IY.below h) (IZ.below h)
  have hle : w.heap.size ≤ w.heap.size := Nat.le_refl _
  cases hs : standsN l xs ys zs with
  | false =>
    rw [hs] at c0
    clear hn hxs hmin hn' hys hmin' hn'' hzs hmin'' hK hV hC hm hm' hm'' IX IY IZ g1 g1' g1'' g2 g2' g2'' g3 g3' g3'' hkey hs c1 c3
    go_enter Try.func3, Try.ntmps3
    go_wp2_with (first
      | (go_at_call 4; rw [← hW]; refine (cF _).mono ?_; rintro e w1 ⟨rfl, hb⟩; replace hX := hX.below hb; replace hB0 := Below.tr hB0 hb; obtain ⟨⟨q0, q1, q2, q3⟩, f0, f1, f2, f3⟩ := id hX; clear hb)
      | (go_at_call 5; replace hX := hX.put (.bool l) (.slice a m c) (.slice a' m' c') (.slice a'' m'' c''); replace hB0 := below_put4 hB0 hle (.bool l) (.slice a m c) (.slice a' m' c') (.slice a'' m'' c''); refine (c0 _ hB0).mono ?_; rintro e w2 ⟨rfl, hb⟩; replace hX := hX.below hb; replace hB0 := Below.tr hB0 hb; clear q0 q1 q2 q3 f0 f1 f2 f3; obtain ⟨⟨q0, q1, q2, q3⟩, f0, f1, f2, f3⟩ := id hX; clear hb)
      | (go_at_call 6; refine (alive07_any _).mono ?_; rintro e w4 ⟨rfl, hb⟩; replace hB0 := Below.tr hB0 hb; clear hb))
    go_ret
    exact ⟨rfl, hB0⟩
  | true =>
    rw [hs] at c0
    obtain ⟨_, _, hri, _, _, hsh⟩ := standsN_iff.1 hs
    have eR : findR l xs ys zs key = (findN key xs : Nat) := by unfold findR; rw [if_pos hs]
    have eI : findI l xs ys zs key = isN xs key := by unfold findI; rw [hs, Bool.true_and]
    have eK : l = false → kidR l xs ys zs key = (findN key xs : Nat) + (if isN xs key = true then 1 else 0) := fun h => by rw [kidR_find h, eR, eI]
    have eK1 : l = true → kidR l xs ys zs key = 0 := fun h => by unfold kidR; rw [if_neg (by rw [h]; simp)]
    rw [eR, eI] at c1
    obtain ⟨f, hf⟩ : ∃ f, f = findN key xs := ⟨_, rfl⟩
    obtain ⟨g, hg⟩ : ∃ g, g = isN xs key := ⟨_, rfl⟩
    obtain ⟨r, hr⟩ : ∃ r, r = kidR l xs ys zs key := ⟨_, rfl⟩
    rw [← hf, ← hg] at c1 eK
    rw [← hr] at c3 eK eK1
    have hfm : f ≤ m := by rw [hf, hm]; exact findN_le _ _
    have HL : Hid (∀ j x, xs[j]? = some x → ltB x key = decide (j < f)) := fun j x hx => by
      rcases Nat.lt_or_ge j f with h | h
      · rw [decide_eq_true h]; rw [hf] at h; exact findN_ahead hx h
      · rw [decide_eq_false (by omega)]; rw [hf] at h; exact findN_behind hri hx h
    have HE : Hid (∀ j x, xs[j]? = some x → x = key → g = true ∧ j = f) := fun j x hx he => by
      subst he
      have h1 := findN_there hri hx
      refine ⟨?_, by rw [hf, h1]⟩
      rw [hg]
      exact isN_iff.2 (by rw [h1]; exact hx)
    have HM : Hid (l = false → m'' = m + 1) := fun h => by
      subst h
      have := (shape_inner.1 hsh).2.2
      rw [hm, hm'']; exact this
    have HG : Hid (g = true → f < m) := fun h => by
      rw [hg, isN_iff] at h
      rw [hf, hm]
      exact (List.getElem?_eq_some_iff.1 h).1
    have IXh : Hid (IsS w a c xs) := IX
    have EM : Hid (m = xs.length) := hm
    have EK : Hid (l = false → r = (f : Int) + (if g = true then 1 else 0)) := eK
    have EK1 : Hid (l = true → r = 0) := eK1
    clear hn hxs hmin hn' hys hmin' hn'' hzs hmin'' hK hV hC hm hm' hm'' IX IY IZ g1 g1' g1'' g2 g2' g2'' hkey hs hri hsh eR eI hf hg hr eK eK1
    go_enter Try.func3, Try.ntmps3
    go_wp2_with (first
      | (go_at_call 4; rw [← hW]; refine (cF _).mono ?_; rintro e w1 ⟨rfl, hb⟩; replace hX := hX.below hb; replace hB0 := Below.tr hB0 hb; obtain ⟨⟨q0, q1, q2, q3⟩, f0, f1, f2, f3⟩ := id hX; clear hb)
      | (go_at_call 5; replace hX := hX.put (.bool l) (.slice a m c) (.slice a' m' c') (.slice a'' m'' c''); replace hB0 := below_put4 hB0 hle (.bool l) (.slice a m c) (.slice a' m' c') (.slice a'' m'' c''); refine (c0 _ hB0).mono ?_; rintro e w2 ⟨rfl, hb⟩; replace hX := hX.below hb; replace hB0 := Below.tr hB0 hb; clear q0 q1 q2 q3 f0 f1 f2 f3; obtain ⟨⟨q0, q1, q2, q3⟩, f0, f1, f2, f3⟩ := id hX; clear hb)
      | (go_at_call 7; refine (c1 _ hB0).mono ?_; rintro e w3 ⟨rfl, hb⟩; replace hX := hX.below hb; replace hB0 := Below.tr hB0 hb; clear q0 q1 q2 q3 f0 f1 f2 f3; obtain ⟨⟨q0, q1, q2, q3⟩, f0, f1, f2, f3⟩ := id hX; clear hb))
    clear hW
    go_loop [34] (fun v => ∃ j : Nat, j ≤ m ∧ v = .int .i64 j) (fun v => m - (intOf v).toNat)
    case atStart => exact ⟨0, by omega, rfl⟩
    case round =>
      obtain ⟨j, hj, rfl⟩ := hrel
      by_cases hlt : j < m
      · have hlt' : (j : Int) < m := by omega
        obtain ⟨x, hx⟩ : ∃ x, Hid (xs[j]? = some x) := ⟨_, List.getElem?_eq_getElem (by rw [← EM.out]; exact hlt)⟩
        obtain ⟨b, o, rfl, hlb, hc0, hxs⟩ := IXh.out.2.2 j x hx.out
        have hc := cell_below hB0 hc0
        have h1 : Hid (ltB x key = decide (j < f)) := HL.out j x hx.out
        by_cases hjf : (j : Int) < f
        · have h2 : Op.bytesLess x.toList key.toList = true := h1.out.trans (decide_eq_true (by omega))
          have h3 : (x.toList == key.toList) = false := str_eq_false fun e => by have := (HE.out j x hx.out e).2; omega
          go_wp2
          go_round
          case rel => exact ⟨j + 1, by omega, by go_num⟩
          case measure => simp [intOf]; omega
        · have h2 : Op.bytesLess x.toList key.toList = false := h1.out.trans (decide_eq_false (by omega))
          by_cases e : x = key
          · obtain ⟨e1, e2⟩ := HE.out j x hx.out e
            have h3 := str_eq_true e
            subst e1
            subst e2
            clear e
            go_wp2
            go_round
            case rel => exact ⟨j + 1, by omega, by go_num⟩
            case measure => simp [intOf]; omega
          · have h3 := str_eq_false e
            clear e
            go_wp2
            go_round
            case rel => exact ⟨j + 1, by omega, by go_num⟩
            case measure => simp [intOf]; omega
      · obtain rfl : j = m := by omega
        clear hlt HL HE
        cases l with
        | true =>
          have h0 : r = 0 := EK1.out rfl
          subst h0
          go_wp2_with (first
            | (go_at_call 8; refine (c3 _ hB0).mono ?_; rintro e w4 ⟨rfl, hb⟩; replace hX := hX.below hb; replace hB0 := Below.tr hB0 hb; clear q0 q1 q2 q3 f0 f1 f2 f3; obtain ⟨⟨q0, q1, q2, q3⟩, f0, f1, f2, f3⟩ := id hX; clear hb)
            | (go_at_call 6; refine (alive07_any _).mono ?_; rintro e w5 ⟨rfl, hb⟩; replace hX := hX.below hb; replace hB0 := Below.tr hB0 hb; clear q0 q1 q2 q3 f0 f1 f2 f3; obtain ⟨⟨q0, q1, q2, q3⟩, f0, f1, f2, f3⟩ := id hX; clear hb))
          go_ret
          exact ⟨rfl, hB0⟩
        | false =>
          have h0 := EK.out rfl
          have h1 := HM.out rfl
          cases g with
          | true =>
            have h2 : f < j := HG.out rfl
            have h0' : r = (f : Int) + 1 := h0
            have h3 : (f : Int) + 1 < m'' := by omega
            subst h0'
            clear h0 h1
            go_wp2_with (first
              | (go_at_call 8; refine (c3 _ hB0).mono ?_; rintro e w4 ⟨rfl, hb⟩; replace hX := hX.below hb; replace hB0 := Below.tr hB0 hb; clear q0 q1 q2 q3 f0 f1 f2 f3; obtain ⟨⟨q0, q1, q2, q3⟩, f0, f1, f2, f3⟩ := id hX; clear hb)
              | (go_at_call 6; refine (alive07_any _).mono ?_; rintro e w5 ⟨rfl, hb⟩; replace hX := hX.below hb; replace hB0 := Below.tr hB0 hb; clear q0 q1 q2 q3 f0 f1 f2 f3; obtain ⟨⟨q0, q1, q2, q3⟩, f0, f1, f2, f3⟩ := id hX; clear hb))
            go_ret
            exact ⟨ret_bool (by simp <;> omega), hB0⟩
          | false =>
            have h0' : r = (f : Int) := by rw [h0]; simp
            have h3 : (f : Int) < m'' := by omega
            subst h0'
            clear h0 h1
            go_wp2_with (first
              | (go_at_call 8; refine (c3 _ hB0).mono ?_; rintro e w4 ⟨rfl, hb⟩; replace hX := hX.below hb; replace hB0 := Below.tr hB0 hb; clear q0 q1 q2 q3 f0 f1 f2 f3; obtain ⟨⟨q0, q1, q2, q3⟩, f0, f1, f2, f3⟩ := id hX; clear hb)
              | (go_at_call 6; refine (alive07_any _).mono ?_; rintro e w5 ⟨rfl, hb⟩; replace hX := hX.below hb; replace hB0 := Below.tr hB0 hb; clear q0 q1 q2 q3 f0 f1 f2 f3; obtain ⟨⟨q0, q1, q2, q3⟩, f0, f1, f2, f3⟩ := id hX; clear hb))
            go_ret
            exact ⟨ret_bool (by simp <;> omega), hB0⟩

end Go.Proofs.Ytmhnnfmggdohkab

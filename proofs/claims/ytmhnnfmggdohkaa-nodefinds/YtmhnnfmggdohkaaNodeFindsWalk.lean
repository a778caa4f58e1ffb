/-
  The walk through the statement NodeFinds.
-/
import Derived.Test.YtmhnnfmggdohkaaNodeFew
import Derived.Test.YtmhnnfmggdohkaaNodePut
import Derived.Test.YtmhnnfmggdohkaaNodeFind
import Derived.Test.YtmhnnfmggdohkaaNodeRefB
namespace Go.Proofs.Ytmhnnfmggdohkaa
open Go.RowKit Plain
set_option linter.unusedVariables false

set_option maxRecDepth 20000 in
set_option maxHeartbeats 4000000 in
theorem nodeFinds_walk (l : Bool) (a : Option Addr) (c : Nat) (ks : List ByteArray) (a' : Option Addr) (c' : Nat) (vs : List ByteArray) (a'' : Option Addr) (c'' : Nat) (cs : List Int) (key : ByteArray) (w : World) (hK : IsS w a c ks) (hV : IsS w a' c' vs) (hC : IsI w a'' c'' cs) (hkey : key.size ≤ maxLen) :
    Calls Try.prog 5 #[.agg #[.bool l, .slice a ks.length c, .slice a' vs.length c', .slice a'' cs.length c''], .string key] w fun e w' => e = .returned (.bool true) ∧ Below w.heap.size w w' := by
  obtain ⟨n, m, xs, hn, hxs, hm, hmin, IX, g1, g2, g3⟩ := few_S hK
  obtain ⟨n', m', ys, hn', hys, hm', hmin', IY, g1', g2', g3'⟩ := few_S hV
  obtain ⟨n'', m'', zs, hn'', hzs, hm'', hmin'', IZ, g1'', g2'', g3''⟩ := few_I hC
  rw [← hn, ← hn', ← hn'']
  obtain ⟨W, hW⟩ : ∃ W, W = w.alloc (.cells #[.bool l, .slice a n c, .slice a' n' c', .slice a'' n'' c''] 25) := ⟨_, rfl⟩
  have hB0 : Below w.heap.size w W := by rw [hW]; exact (Below.refl _ _).alloc (Nat.le_refl _) _
  have hX : Box4 W w.heap.size (.bool l) (.slice a n c) (.slice a' n' c') (.slice a'' n'' c'') := by rw [hW]; exact box4_new _ _ _ _ _ _ rfl
  have cF : ∀ V, Calls Try.prog 9 #[.agg #[.bool l, .slice a n c, .slice a' n' c', .slice a'' n'' c'']] V fun e w' => e = .returned (.agg #[.bool l, .slice a m c, .slice a' m' c', .slice a'' m'' c'']) ∧ Below V.heap.size V w' := fun V => few_any l a a' a'' c c' c'' n n' n'' m m' m'' V g1 g1' g1'' g2 g2' g2'' hmin hmin' hmin''
  have c1 : ∀ V, Below w.heap.size w V → Calls Try.prog 18 #[.agg #[.bool l, .slice a m c, .slice a' m' c', .slice a'' m'' c''], .string key] V fun e w' => e = .returned (.tuple #[.int .i64 (findR l xs ys zs key), .bool (findI l xs ys zs key)]) ∧ Below V.heap.size V w' := fun V h => nodeFind_any _ _ _ _ _ _ _ _ _ _ _ _ _ key _ hm hm' hm'' (IX.below h) (IY.below h) (IZ.below h)
  have c2 : ∀ V, Below w.heap.size w V → Calls Try.prog 19 #[.agg #[.bool l, .slice a m c, .slice a' m' c', .slice a'' m'' c''], .string key] V fun e w' => e = .returned (.tuple #[.int .i64 (findR l xs ys zs key), .bool (findI l xs ys zs key)]) ∧ Below V.heap.size V w' := fun V h => refFind_any _ _ _ _ _ _ _ _ _ _ _ _ _ key _ hm hm' hm'' (IX.below h) (IY.below h) (IZ.below h)
  have c3 : ∀ V, Below w.heap.size w V → Calls Try.prog 20 #[.agg #[.bool l, .slice a m c, .slice a' m' c', .slice a'' m'' c''], .string key] V fun e w' => e = .returned (.int .i64 (kidR l xs ys zs key)) ∧ Below V.heap.size V w' := fun V h => nodeKid_any _ _ _ _ _ _ _ _ _ _ _ _ _ key _ hm hm' hm'' (IX.below h) (IY.below h) (IZ.below h)
  have c4 : ∀ V, Below w.heap.size w V → Calls Try.prog 21 #[.agg #[.bool l, .slice a m c, .slice a' m' c', .slice a'' m'' c''], .string key] V fun e w' => e = .returned (.int .i64 (kidR l xs ys zs key)) ∧ Below V.heap.size V w' := fun V h => refKid_any _ _ _ _ _ _ _ _ _ _ _ _ _ key _ hm hm' hm'' (IX.below h) (IY.below h) (IZ.below h)
  have hle : w.heap.size ≤ w.heap.size := Nat.le_refl _
  generalize findR l xs ys zs key = r1 at c1 c2
  generalize findI l xs ys zs key = r2 at c1 c2
  generalize kidR l xs ys zs key = r3 at c3 c4
  clear hn hxs hmin hn' hys hmin' hn'' hzs hmin'' hK hV hC hm hm' hm'' IX IY IZ g1 g1' g1'' g2 g2' g2'' g3 g3' g3'' hkey
  have e0 : (r2 == r2) = true := by simp
  have e1 : (r1 == r1) = true := by simp
  have e3 : (r3 == r3) = true := by simp
  go_enter Try.func5, Try.ntmps5
  go_wp2_with (first
    | (go_at_call 9; rw [← hW]; refine (cF _).mono ?_; rintro e w1 ⟨rfl, hb⟩; replace hX := hX.below hb; replace hB0 := Below.tr hB0 hb; obtain ⟨⟨q0, q1, q2, q3⟩, f0, f1, f2, f3⟩ := id hX; clear hb)
    | (go_at_call 18; replace hX := hX.put (.bool l) (.slice a m c) (.slice a' m' c') (.slice a'' m'' c''); replace hB0 := below_put4 hB0 hle (.bool l) (.slice a m c) (.slice a' m' c') (.slice a'' m'' c''); refine (c1 _ hB0).mono ?_; rintro e w2 ⟨rfl, hb⟩; replace hX := hX.below hb; replace hB0 := Below.tr hB0 hb; clear q0 q1 q2 q3 f0 f1 f2 f3; obtain ⟨⟨q0, q1, q2, q3⟩, f0, f1, f2, f3⟩ := id hX; clear hb)
    | (go_at_call 19; refine (c2 _ hB0).mono ?_; rintro e w3 ⟨rfl, hb⟩; replace hX := hX.below hb; replace hB0 := Below.tr hB0 hb; clear q0 q1 q2 q3 f0 f1 f2 f3; obtain ⟨⟨q0, q1, q2, q3⟩, f0, f1, f2, f3⟩ := id hX; clear hb))
  replace hB0 := hB0.drew
  replace hX := hX.drew
  go_region_held3 (fun V => V.cell? ⟨w.heap.size, 0, none⟩ = some (.bool l) ∧ V.cell? ⟨w.heap.size, 1, none⟩ = some (.slice a m c) ∧ V.cell? ⟨w.heap.size, 2, none⟩ = some (.slice a' m' c') ∧ V.cell? ⟨w.heap.size, 3, none⟩ = some (.slice a'' m'' c'')) (exact hX.1) (first
    | (go_at_call 12; refine (alive07_any _).mono ?_; rintro e w4 ⟨rfl, hb⟩; replace hB0 := Below.tr hB0 hb; replace hX := hX.below hb; clear hb)
    | (go_at_call 20; refine (c3 _ hB0).mono ?_; rintro e w5 ⟨rfl, hb⟩; replace hB0 := Below.tr hB0 hb; replace hX := hX.below hb; clear hb)
    | (go_at_call 21; refine (c4 _ hB0).mono ?_; rintro e w6 ⟨rfl, hb⟩; replace hB0 := Below.tr hB0 hb; replace hX := hX.below hb; clear hb))
  go_wp2
  go_ret
  exact ⟨rfl, hB0⟩

end Go.Proofs.Ytmhnnfmggdohkaa

/-
  The walk through the statement RingScans.
-/
import Derived.Test.YtcdcnonkoffbhaaRingBody
import Derived.Test.YtcdcnonkoffbhaaRingScan
namespace Go.Proofs.Ytcdcnonkoffbhaa
open Go.RowKit Plain
set_option linter.unusedVariables false

set_option maxHeartbeats 1000000 in
theorem ringScans_walk (g : Int) (a : Option Addr) (c : Nat) (xs : List ByteArray) (w : World) (wg : (Lit.int .i64 g).wf = true) (hS : IsS w a c xs) :
    Calls Try.prog 4 #[.int .i64 g, .slice a xs.length c] w fun e w' => e = .returned (.bool true) ∧ Below w.heap.size w w' := by
  obtain ⟨ys, hys⟩ : ∃ ys, ys = xs.take 12 := ⟨_, rfl⟩
  obtain ⟨n, hn⟩ : ∃ n, n = ys.length := ⟨_, rfl⟩
  have hmin : min (xs.length : Int) 12 = (n : Int) := by rw [hn, hys, List.length_take]; omega
  have hl : n ≤ 12 := by rw [hn, hys, List.length_take]; omega
  have hY : IsS w a c ys := by rw [hys]; exact hS.take 12
  have hnc : n ≤ c := by rw [hn]; exact hY.1
  have hlc : xs.length ≤ c := hS.1
  have hcm : c ≤ 9223372036854775807 := hS.2.1
  have c1 : ∀ W, Below w.heap.size w W → Calls Try.prog 15 #[.int .i64 g, .slice a n c] W fun e w' => ∃ a' c', e = .returned (.slice a' (scanR g 0 ys).length c') ∧ IsS w' a' c' (scanR g 0 ys) ∧ Below W.heap.size W w' := fun W hB => ringScan_any g a c n ys W hn (hY.below hB) (by omega)
  have c2 : ∀ W, Below w.heap.size w W → Calls Try.prog 16 #[.int .i64 g, .slice a n c] W fun e w' => ∃ a' c', e = .returned (.slice a' (scanR g 0 ys).length c') ∧ IsS w' a' c' (scanR g 0 ys) ∧ Below W.heap.size W w' := fun W hB => refRingScan_any g a c n ys W hn (hY.below hB) (by omega)
  have c3 := alive13_any
  obtain ⟨zs, hzs⟩ : ∃ zs, zs = scanR g 0 ys := ⟨_, rfl⟩
  rw [← hzs] at c1 c2
  obtain ⟨l, hll⟩ : ∃ l, l = xs.length := ⟨_, rfl⟩
  rw [← hll] at hmin hlc ⊢
  obtain ⟨m, hm⟩ : ∃ m, m = zs.length := ⟨_, rfl⟩
  rw [← hm] at c1 c2
  have c4 : ∀ W a1 k1 a2 k2, IsS W a1 k1 zs → IsS W a2 k2 zs → Calls Try.prog 14 #[.slice a1 m k1, .slice a2 m k2] W fun e w' => e = .returned (.bool true) ∧ Below W.heap.size W w' := by
    intro W a1 k1 a2 k2 h1 h2
    have := ringSame_any a1 a2 k1 k2 zs zs W h1 h2
    rw [← hm, decide_eq_true rfl] at this
    exact this
  have rmin := min_run hmin
  clear hys hn hY hS hll hzs hm wg
  have hB := Below.refl w.heap.size w
  go_enter Try.func4, Try.ntmps4
  go_wp2_with (first
    | (go_at_call 13; refine (c3 _).mono ?_; rintro e w1 ⟨rfl, hb⟩; replace hB := Below.tr hB hb; clear hb)
    | (go_at_call 15; refine (c1 _ hB).mono ?_; rintro e w2 ⟨a1, k1, rfl, h1, hb⟩; replace hB := Below.tr hB hb; clear hb)
    | (go_at_call 16; refine (c2 _ hB).mono ?_; rintro e w3 ⟨a2, k2, rfl, h2, hb⟩; replace hB := Below.tr hB hb; replace h1 := h1.below hb; clear hb)
    | (go_at_call 14; refine (c4 _ _ _ _ _ h1 h2).mono ?_; rintro e w4 ⟨rfl, hb⟩; replace hB := Below.tr hB hb; clear hb))
  go_ret
  exact ⟨rfl, hB⟩

end Go.Proofs.Ytcdcnonkoffbhaa

/-
  The walk through the statement RingPacks.
-/
import Derived.Test.YtcdcnonkoffbhaaRingRefPack
import Derived.Test.YtcdcnonkoffbhaaRingUnpack
import Derived.Test.YtcdcnonkoffbhaaRingRefUnq
namespace Go.Proofs.Ytcdcnonkoffbhaa
open Go.RowKit Plain
set_option linter.unusedVariables false

set_option maxHeartbeats 1000000 in
theorem ringPacks_walk (a : Option Addr) (c : Nat) (xs : List Chg) (b : ByteArray) (w : World) (hC : IsC w a c xs) (hb0 : b.size ≤ maxLen) :
    Calls Try.prog 5 #[.slice a xs.length c, .string b] w fun e w' => e = .returned (.bool true) ∧ Below w.heap.size w w' := by
  obtain ⟨l, hl⟩ : ∃ l, l = xs.length := ⟨_, rfl⟩
  obtain ⟨k, hk⟩ : ∃ k, k = fewN l := ⟨_, rfl⟩
  obtain ⟨cs, hcs⟩ : ∃ cs, cs = xs.take k := ⟨_, rfl⟩
  have hC' : IsC w a c cs := by rw [hcs]; exact hC.take k
  have hkc : k = cs.length := by rw [hcs, List.length_take]; have := (fewN_le l).1; omega
  have c0 : ∀ W, Calls Try.prog 17 #[.slice a l c] W fun e w' => e = .returned (.slice a k c) ∧ W = w' := by
    intro W
    rw [hk]
    exact few13_any a c l W (by rw [hl]; exact hC.1) hC.2.1
  have c1 : ∀ W, Below w.heap.size w W → Calls Try.prog 18 #[.slice a k c] W fun e w' => e = .returned (.tuple #[.string (packR cs), .int .i64 (packE cs)]) ∧ Below W.heap.size W w' := fun W hB => ringPack_any a c k cs W hkc (hC'.below hB)
  have c2 : ∀ W, Below w.heap.size w W → Calls Try.prog 19 #[.slice a k c] W fun e w' => e = .returned (.tuple #[.string (packR cs), .int .i64 (packE cs)]) ∧ Below W.heap.size W w' := fun W hB => refRingPack_any a c k cs W hkc (hC'.below hB)
  have c3 := fun W => ringUnpack_any b W hb0
  have c4 := fun W => refUnpack_any b W hb0
  have c5 := alive13_any
  obtain ⟨us, hus⟩ : ∃ us, us = unpL b := ⟨_, rfl⟩
  obtain ⟨m, hm⟩ : ∃ m, m = us.length := ⟨_, rfl⟩
  rw [← hus, ← hm] at c3 c4
  have c6 : ∀ W a1 k1 a2 k2, IsC W a1 k1 us → IsC W a2 k2 us → Calls Try.prog 22 #[.slice a1 m k1, .slice a2 m k2] W fun e w' => e = .returned (.bool true) ∧ Below W.heap.size W w' := fun W a1 k1 a2 k2 h1 h2 => ringLike_same a1 a2 k1 k2 m us W hm h1 h2
  generalize packR cs = R at *
  generalize packE cs = E at *
  generalize unpE b = F at *
  rw [← hl]
  have hB := Below.refl w.heap.size w
  clear hl hk hcs hC hC' hkc hus hm hb0
  go_enter Try.func5, Try.ntmps5
  go_wp2_with (first
    | (go_at_call 17; refine (c0 _).mono ?_; rintro e w' ⟨rfl, rfl⟩)
    | (go_at_call 18; refine (c1 _ hB).mono ?_; rintro e w1 ⟨rfl, hb⟩; replace hB := Below.tr hB hb; clear hb)
    | (go_at_call 19; refine (c2 _ hB).mono ?_; rintro e w2 ⟨rfl, hb⟩; replace hB := Below.tr hB hb; clear hb)
    | (go_at_call 20; refine (c3 _).mono ?_; rintro e w3 ⟨a1, k1, rfl, h1, hb⟩; replace hB := Below.tr hB hb; clear hb)
    | (go_at_call 21; refine (c4 _).mono ?_; rintro e w4 ⟨a2, k2, rfl, h2, hb⟩; replace hB := Below.tr hB hb; replace h1 := h1.below hb; clear hb)
    | (go_at_call 13; refine (c5 _).mono ?_; rintro e w5 ⟨rfl, hb⟩; replace hB := Below.tr hB hb; replace h1 := h1.below hb; replace h2 := h2.below hb; clear hb)
    | (go_at_call 22; refine (c6 _ _ _ _ _ h1 h2).mono ?_; rintro e w6 ⟨rfl, hb⟩; replace hB := Below.tr hB hb; clear hb))
  go_ret
  exact ⟨ret_bool (by simp), hB⟩

end Go.Proofs.Ytcdcnonkoffbhaa

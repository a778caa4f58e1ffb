/-
  The walk through the statement BitsBack.
-/
import Derived.Test.YtkfapldicjmelaaBitsRef
namespace Go.Proofs.Ytkfapldicjmelaa
open Go.RowKit Plain
set_option linter.unusedVariables false

set_option maxRecDepth 20000 in
set_option maxHeartbeats 2000000 in
theorem bitsBack_walk (a : Option Addr) (c : Nat) (l : List Bool) (s : ByteArray) (n : Int) (w : World) (hB : IsB w a c l) (hs : s.size ≤ maxLen) (wn : (Lit.int .i64 n).wf = true) :
    Calls Try.prog 6 #[.slice a l.length c, .string s, .int .i64 n] w fun e w' => e = .returned (.bool true) ∧ Below w.heap.size w w' := by
  obtain ⟨ns, hns⟩ : ∃ ns, ns = l.take 2048 := ⟨_, rfl⟩
  have hJ : IsB w a c ns := by rw [hns]; exact hB.take 2048
  obtain ⟨p, hp⟩ : ∃ n, n = ns.length := ⟨_, rfl⟩
  have hmin : min (l.length : Int) 2048 = (p : Int) := by rw [hp, hns, List.length_take]; omega
  have hl : p ≤ 2048 := by rw [hp, hns, List.length_take]; omega
  have hnc : p ≤ c := by rw [hp]; exact hJ.1
  have hm : l.length ≤ 9223372036854775807 := Nat.le_trans hB.1 hB.2.1
  have hc' : c ≤ 9223372036854775807 := hB.2.1
  obtain ⟨m, hmm⟩ : ∃ m, m = l.length := ⟨_, rfl⟩
  have hlc : m ≤ c := by rw [hmm]; exact hB.1
  rw [← hmm] at hmin hm ⊢
  have hmr := min_run hmin
  obtain ⟨X, hX⟩ : ∃ X, Hid (X = packS ns) := ⟨_, rfl⟩
  have c1 : ∀ W, Below w.heap.size w W → Calls Try.prog 13 #[.slice a p c] W fun e w' => e = .returned (.string X) ∧ Below W.heap.size W w' := by
    intro W hW; rw [hp, hX.out]; exact pack_any a c ns W (hJ.below hW) (by omega)
  have hXz : X.size ≤ 256 := by rw [hX.out, packS_size, ← hp]; unfold sizeB; omega
  have hE1 : unE X p = 0 := unE_ok hl (by rw [hp, hX.out, unpack_pack])
  have hL1 : unL X p = ns := by rw [unL_ok hE1, hp, hX.out, unpack_pack]
  have c2 : ∀ W, Calls Try.prog 10 #[.string X, .int .i64 p] W fun e w' => ∃ a c, e = .returned (.tuple #[.slice a p c, .int .i64 0]) ∧ IsB w' a c ns ∧ Below W.heap.size W w' := by
    intro W
    have := unpack_any X p W (by unfold maxLen; omega)
    rw [hE1, hL1, ← hp] at this
    exact this
  obtain ⟨M, hM⟩ : ∃ M, Hid (M = unL s n) := ⟨_, rfl⟩
  obtain ⟨r, hr⟩ : ∃ r, Hid (r = M.length) := ⟨_, rfl⟩
  obtain ⟨E, hE⟩ : ∃ E, Hid (E = unE s n) := ⟨_, rfl⟩
  have c3 : ∀ W, Calls Try.prog 10 #[.string s, .int .i64 n] W fun e w' => ∃ a c, e = .returned (.tuple #[.slice a r c, .int .i64 E]) ∧ IsB w' a c M ∧ Below W.heap.size W w' := by
    intro W; rw [hr.out, hM.out, hE.out]; exact unpack_any s n W hs
  have c4 : ∀ (W : World) (a' : Option Addr) (c' : Nat), IsB W a' c' ns → Below w.heap.size w W → Calls Try.prog 15 #[.slice a' p c', .slice a p c] W fun e w' => e = .returned (.bool true) ∧ Below W.heap.size W w' := by
    intro W a' c' h hW
    have := same_any a' a c' c ns ns W h (hJ.below hW)
    rw [decide_eq_true rfl, ← hp] at this
    exact this
  have c5 : ∀ (W : World) (b : Option Addr) (d : Nat), IsB W b d M → r ≤ 2048 → Calls Try.prog 13 #[.slice b r d] W fun e w' => e = .returned (.string (packS M)) ∧ Below W.heap.size W w' := by
    intro W b d h hr2
    rw [hr.out]
    exact pack_any b d M W h (by rw [← hr.out]; omega)
  have HB : Below w.heap.size w w := Below.refl _ _
  have tok1 : True := trivial
  have tok2 : True := trivial
  clear hB hJ hns hmm hE1 hL1
  have HP : Hid (p = ns.length) := hp
  clear hp
  unfold maxLen at hs
  by_cases h0 : E = 0
  · obtain ⟨k, hk, hk1, hk2⟩ := unE_err (hE.out.symm.trans h0)
    have hMk : M = unpackL s k := by rw [hM.out, hk]; rw [hE.out, hk] at h0; exact unL_ok h0
    have hrk : r = k := by rw [hr.out, hMk, unpackL_length]
    have hpk : packS M = s := by rw [hMk]; exact hk2
    rw [hpk] at c5
    have hst := str_eq_true (a := s) rfl
    subst hrk hk h0
    clear hMk hpk hk2
    go_enter Try.func6, Try.ntmps6
    go_wp2_with (first
      | (go_at_call 13; have _t := tok1; refine (c1 _ HB).mono ?_; rintro e w1 ⟨rfl, hb⟩; clear tok1; replace HB := Below.tr HB hb; clear hb)
      | (go_at_call 10; have _t := tok2; refine (c2 _).mono ?_; rintro e w2 ⟨a2, d2, rfl, hI2, hb⟩; clear tok2; replace HB := Below.tr HB hb; have K2 : Hid (IsB w2 a2 d2 ns) := hI2; clear hb hI2)
      | (go_at_call 10; refine (c3 _).mono ?_; rintro e w3 ⟨a3, d3, rfl, hI3, hb⟩; replace HB := Below.tr HB hb; have K3 : Hid (IsB w3 a3 d3 M) := hI3; have K2 : Hid (IsB w3 a2 d2 ns) := K2.out.below hb; clear hb hI3)
      | (go_at_call 12; refine (alive_any _).mono ?_; rintro e w4 ⟨rfl, hb⟩; replace HB := Below.tr HB hb; have K3 : Hid (IsB w4 a3 d3 M) := K3.out.below hb; have K2 : Hid (IsB w4 a2 d2 ns) := K2.out.below hb; clear hb)
      | (go_at_call 15; refine (c4 _ a2 d2 K2.out HB).mono ?_; rintro e w5 ⟨rfl, hb⟩; replace HB := Below.tr HB hb; have K3 : Hid (IsB w5 a3 d3 M) := K3.out.below hb; clear hb)
      | (go_at_call 13; refine (c5 _ a3 d3 K3.out hk1).mono ?_; rintro e w6 ⟨rfl, hb⟩; replace HB := Below.tr HB hb; clear hb))
    go_ret
    exact ⟨rfl, HB⟩
  · go_enter Try.func6, Try.ntmps6
    go_wp2_with (first
      | (go_at_call 13; have _t := tok1; refine (c1 _ HB).mono ?_; rintro e w1 ⟨rfl, hb⟩; clear tok1; replace HB := Below.tr HB hb; clear hb)
      | (go_at_call 10; have _t := tok2; refine (c2 _).mono ?_; rintro e w2 ⟨a2, d2, rfl, hI2, hb⟩; clear tok2; replace HB := Below.tr HB hb; have K2 : Hid (IsB w2 a2 d2 ns) := hI2; clear hb hI2)
      | (go_at_call 10; refine (c3 _).mono ?_; rintro e w3 ⟨a3, d3, rfl, hI3, hb⟩; replace HB := Below.tr HB hb; have K2 : Hid (IsB w3 a2 d2 ns) := K2.out.below hb; clear hb hI3)
      | (go_at_call 12; refine (alive_any _).mono ?_; rintro e w4 ⟨rfl, hb⟩; replace HB := Below.tr HB hb; have K2 : Hid (IsB w4 a2 d2 ns) := K2.out.below hb; clear hb)
      | (go_at_call 15; refine (c4 _ a2 d2 K2.out HB).mono ?_; rintro e w5 ⟨rfl, hb⟩; replace HB := Below.tr HB hb; clear hb))
    go_ret
    exact ⟨rfl, HB⟩

end Go.Proofs.Ytkfapldicjmelaa

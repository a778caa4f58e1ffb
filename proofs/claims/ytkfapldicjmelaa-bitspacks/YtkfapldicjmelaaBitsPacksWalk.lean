/-
  The walk through the statement BitsPacks, at texts within the reach.
-/
import Derived.Test.YtkfapldicjmelaaBitsRef
namespace Go.Proofs.Ytkfapldicjmelaa
open Go.RowKit Plain
set_option linter.unusedVariables false

set_option maxHeartbeats 400000 in
theorem few_any (a : Option Addr) (c n p : Nat) (w : World) (hp : min (n : Int) 3000 = p) (hn : n ≤ c) (hc : c ≤ 9223372036854775807) :
    Calls Try.prog 9 #[.slice a n c] w fun e w' => e = .returned (.slice a p c) ∧ w = w' := by
  have hmr := min_run hp
  have hpc : p ≤ c := by omega
  go_enter Try.func9, Try.ntmps9
  go_wp2
  go_ret
  exact ⟨rfl, rfl⟩

set_option maxRecDepth 20000 in
set_option maxHeartbeats 2000000 in
theorem bitsPacks_walk (a : Option Addr) (c : Nat) (l : List Bool) (s : ByteArray) (n : Int) (w : World) (hB : IsB w a c l) (hs : s.size ≤ maxLen) (wn : (Lit.int .i64 n).wf = true) (hk : s.size ≤ 140737488355328) :
    Calls Try.prog 3 #[.slice a l.length c, .string s, .int .i64 n] w fun e w' => e = .returned (.bool true) ∧ Below w.heap.size w w' := by
  obtain ⟨ns, hns⟩ : ∃ ns, ns = l.take 3000 := ⟨_, rfl⟩
  have hJ : IsB w a c ns := by rw [hns]; exact hB.take 3000
  obtain ⟨p, hp⟩ : ∃ n, n = ns.length := ⟨_, rfl⟩
  have hl : p ≤ 3000 := by rw [hp, hns, List.length_take]; omega
  have cf : ∀ W, Calls Try.prog 9 #[.slice a l.length c] W fun e w' => e = .returned (.slice a p c) ∧ W = w' :=
    fun W => few_any a c l.length p W (by rw [hp, hns, List.length_take]; omega) hB.1 hB.2.1
  obtain ⟨m, hmm⟩ : ∃ m, m = l.length := ⟨_, rfl⟩
  rw [← hmm] at cf ⊢
  obtain ⟨X, hX⟩ : ∃ X, Hid (X = packS ns) := ⟨_, rfl⟩
  have c1 : ∀ W, Below w.heap.size w W → Calls Try.prog 13 #[.slice a p c] W fun e w' => e = .returned (.string X) ∧ Below W.heap.size W w' := by
    intro W hW; rw [hp, hX.out]; exact pack_any a c ns W (hJ.below hW) (by omega)
  have c2 : ∀ W, Below w.heap.size w W → Calls Try.prog 14 #[.slice a p c] W fun e w' => e = .returned (.string X) ∧ Below W.heap.size W w' := by
    intro W hW; rw [hp, hX.out]; exact refPack_any a c ns W (hJ.below hW) (by omega)
  obtain ⟨M, hM⟩ : ∃ M, Hid (M = unL s n) := ⟨_, rfl⟩
  obtain ⟨r, hr⟩ : ∃ r, Hid (r = M.length) := ⟨_, rfl⟩
  obtain ⟨E, hE⟩ : ∃ E, Hid (E = unE s n) := ⟨_, rfl⟩
  have c3 : ∀ W, Calls Try.prog 10 #[.string s, .int .i64 n] W fun e w' => ∃ a c, e = .returned (.tuple #[.slice a r c, .int .i64 E]) ∧ IsB w' a c M ∧ Below W.heap.size W w' := by
    intro W; rw [hr.out, hM.out, hE.out]; exact unpack_any s n W hs
  have c4 : ∀ W, Calls Try.prog 11 #[.string s, .int .i64 n] W fun e w' => ∃ a c, e = .returned (.tuple #[.slice a r c, .int .i64 E]) ∧ IsB w' a c M ∧ Below W.heap.size W w' := by
    intro W; rw [hr.out, hM.out, hE.out]; exact refUnpack_any s n W hk
  have c5 : ∀ (W : World) (b b' : Option Addr) (d d' : Nat), IsB W b d M → IsB W b' d' M → Calls Try.prog 15 #[.slice b r d, .slice b' r d'] W fun e w' => e = .returned (.bool true) ∧ Below W.heap.size W w' := by
    intro W b b' d d' h h'
    have := same_any b b' d d' M M W h h'
    rw [decide_eq_true rfl, ← hr.out] at this
    exact this
  have HB : Below w.heap.size w w := Below.refl _ _
  have hst := str_eq_true (a := X) rfl
  clear hB hJ hns hmm hp
  go_enter Try.func3, Try.ntmps3
  go_wp2_with (first
    | (go_at_call 9; refine (cf _).mono ?_; rintro e w1 ⟨rfl, rfl⟩)
    | (go_at_call 10; refine (c3 _).mono ?_; rintro e w2 ⟨a2, d2, rfl, hI2, hb⟩; replace HB := Below.tr HB hb; have K2 : Hid (IsB w2 a2 d2 M) := hI2; clear hb hI2)
    | (go_at_call 11; refine (c4 _).mono ?_; rintro e w3 ⟨a3, d3, rfl, hI3, hb⟩; replace HB := Below.tr HB hb; have K3 : Hid (IsB w3 a3 d3 M) := hI3; have K2 : Hid (IsB w3 a2 d2 M) := K2.out.below hb; clear hb hI3)
    | (go_at_call 12; refine (alive_any _).mono ?_; rintro e w4 ⟨rfl, hb⟩; replace HB := Below.tr HB hb; have K3 : Hid (IsB w4 a3 d3 M) := K3.out.below hb; have K2 : Hid (IsB w4 a2 d2 M) := K2.out.below hb; clear hb)
    | (go_at_call 13; refine (c1 _ HB).mono ?_; rintro e w5 ⟨rfl, hb⟩; replace HB := Below.tr HB hb; have K3 : Hid (IsB w5 a3 d3 M) := K3.out.below hb; have K2 : Hid (IsB w5 a2 d2 M) := K2.out.below hb; clear hb)
    | (go_at_call 14; refine (c2 _ HB).mono ?_; rintro e w6 ⟨rfl, hb⟩; replace HB := Below.tr HB hb; have K3 : Hid (IsB w6 a3 d3 M) := K3.out.below hb; have K2 : Hid (IsB w6 a2 d2 M) := K2.out.below hb; clear hb)
    | (go_at_call 15; refine (c5 _ a2 a3 d2 d3 K2.out K3.out).mono ?_; rintro e w7 ⟨rfl, hb⟩; replace HB := Below.tr HB hb; clear hb))
  go_ret
  exact ⟨rfl, HB⟩

end Go.Proofs.Ytkfapldicjmelaa

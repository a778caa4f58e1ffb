/-
  The walk through the statement BitsSets.
-/
import Derived.Test.YtkfapldicjmelaaBitsWith
namespace Go.Proofs.Ytkfapldicjmelaa
open Go.RowKit Plain
set_option linter.unusedVariables false

theorem below_drewN {w : World} (k : Nat) : Below w.heap.size w (w.drewN k) := by
  unfold World.drewN
  induction k with
  | zero => exact Below.refl _ _
  | succ k ih => exact ih.drew

set_option maxRecDepth 20000 in
set_option maxHeartbeats 2000000 in
theorem bitsSets_walk (a : Option Addr) (c : Nat) (l : List Bool) (is : Bool) (ap : Option Addr) (cp : Nat) (ps : List Int) (w : World) (hB : IsB w a c l) (hI : IsI w ap cp ps) :
    Calls Try.prog 5 #[.slice a l.length c, .bool is, .slice ap ps.length cp] w fun e w' => e = .returned (.bool true) ∧ Below w.heap.size w w' := by
  obtain ⟨ns, hns⟩ : ∃ ns, ns = l.take 300 := ⟨_, rfl⟩
  obtain ⟨qs, hqs⟩ : ∃ qs, qs = ps.take 20 := ⟨_, rfl⟩
  have hJ : IsB w a c ns := by rw [hns]; exact hB.take 300
  have hQ : IsI w ap cp qs := by rw [hqs]; exact hI.take 20
  obtain ⟨p, hp⟩ : ∃ n, n = ns.length := ⟨_, rfl⟩
  obtain ⟨q, hq⟩ : ∃ n, n = qs.length := ⟨_, rfl⟩
  have hmin : min (l.length : Int) 300 = (p : Int) := by rw [hp, hns, List.length_take]; omega
  have hmin2 : min (ps.length : Int) 20 = (q : Int) := by rw [hq, hqs, List.length_take]; omega
  have hl : p ≤ 300 := by rw [hp, hns, List.length_take]; omega
  have hl2 : q ≤ 20 := by rw [hq, hqs, List.length_take]; omega
  have hnc : p ≤ c := by rw [hp]; exact hJ.1
  have hnc2 : q ≤ cp := by rw [hq]; exact hQ.1
  have hm : l.length ≤ 9223372036854775807 := Nat.le_trans hB.1 hB.2.1
  have hm2 : ps.length ≤ 9223372036854775807 := Nat.le_trans hI.1 hI.2.1
  have hc' : c ≤ 9223372036854775807 := hB.2.1
  have hc2 : cp ≤ 9223372036854775807 := hI.2.1
  obtain ⟨m, hmm⟩ : ∃ m, m = l.length := ⟨_, rfl⟩
  obtain ⟨m2, hmm2⟩ : ∃ m, m = ps.length := ⟨_, rfl⟩
  have hlc : m ≤ c := by rw [hmm]; exact hB.1
  have hlc2 : m2 ≤ cp := by rw [hmm2]; exact hI.1
  rw [← hmm] at hmin hm ⊢
  rw [← hmm2] at hmin2 hm2 ⊢
  have hmr := min_run hmin
  have hmr2 := min_run hmin2
  obtain ⟨R, hR⟩ : ∃ R, Hid (R = withL ns is qs) := ⟨_, rfl⟩
  obtain ⟨r, hr⟩ : ∃ r, Hid (r = R.length) := ⟨_, rfl⟩
  obtain ⟨E, hE⟩ : ∃ E, Hid (E = withE ns qs) := ⟨_, rfl⟩
  have c1 : ∀ (W : World) (b : Option Addr) (d : Nat), IsB W b d ns → Below w.heap.size w W → Calls Try.prog 20 #[.slice b p d, .bool is, .slice ap q cp] W fun e w' => ∃ a c, e = .returned (.tuple #[.slice a r c, .int .i64 E]) ∧ IsB w' a c R ∧ Below W.heap.size W w' := by
    intro W b d h hW; rw [hr.out, hR.out, hE.out, hp, hq]; exact with_any b ap d cp ns is qs W h (hQ.below hW) (by omega)
  have c2 : ∀ (W : World), Below w.heap.size w W → Calls Try.prog 21 #[.slice a p c, .bool is, .slice ap q cp] W fun e w' => ∃ a c, e = .returned (.tuple #[.slice a r c, .int .i64 E]) ∧ IsB w' a c R ∧ Below W.heap.size W w' := by
    intro W hW; rw [hr.out, hR.out, hE.out, hp, hq]; exact refWith_any a ap c cp ns is qs W (hJ.below hW) (hQ.below hW) (by omega)
  have c3 : ∀ (W : World) (b b' : Option Addr) (d d' : Nat), IsB W b d R → IsB W b' d' R → Calls Try.prog 15 #[.slice b r d, .slice b' r d'] W fun e w' => e = .returned (.bool true) ∧ Below W.heap.size W w' := by
    intro W b b' d d' h h'
    have := same_any b b' d d' R R W h h'
    rw [decide_eq_true rfl, ← hr.out] at this
    exact this
  have c4 : ∀ (W : World) (b : Option Addr) (d : Nat), IsB W b d ns → Below w.heap.size w W → Calls Try.prog 15 #[.slice b p d, .slice a p c] W fun e w' => e = .returned (.bool true) ∧ Below W.heap.size W w' := by
    intro W b d h hW
    have := same_any b a d c ns ns W h (hJ.below hW)
    rw [decide_eq_true rfl, ← hp] at this
    exact this
  have cy : ∀ W, Below w.heap.size w W → ∃ g cap w', (Builtin.append_ #[22, 22] 22 #[.slice (some ⟨W.heap.size, 0, none⟩) 0 0, .slice a p c]).run Try.prog (W.alloc (.cells #[] 4)) = .ok (.slice (some ⟨g, 0, none⟩) p cap) w' ∧ W.heap.size ≤ g ∧ RowT w' g cap ns ∧ Below W.heap.size W w' :=
    fun W hW => copyT W a c p ns hp (hJ.below hW) (by omega) 22
  have tok1 : True := trivial
  have HB0 : ∀ k, Below w.heap.size w (w.drewN k) := fun k => below_drewN k
  clear hB hJ hI hQ hns hqs hmm hmm2 hp hq
  go_enter Try.func5, Try.ntmps5
  go_wp2
  go_quiet (fail)
  have HB := HB0 nq
  generalize w.drewN nq = w0 at HB ⊢
  clear HB0
  obtain ⟨g, cap, w1, hrun, hg, hrow, hb1⟩ := cy w0 HB
  replace HB := Below.tr HB hb1
  have KO : Hid (IsB w1 (some ⟨g, 0, none⟩) cap ns) := hrow.isB
  clear cy hb1 hrow
  go_wp2_with (first
    | (at_builtin; refine Lib.wpList_append_run _ rfl _ _ _ _ rfl _ _ rfl rfl _ _ hrun ?_)
    | (go_at_call 20; refine (c1 _ _ _ KO.out HB).mono ?_; rintro e w2 ⟨a2, d2, rfl, hI2, hb⟩; replace HB := Below.tr HB hb; have K2 : Hid (IsB w2 a2 d2 R) := hI2; have KO : Hid (IsB w2 (some ⟨g, 0, none⟩) cap ns) := KO.out.below hb; clear hb hI2)
    | (go_at_call 21; refine (c2 _ HB).mono ?_; rintro e w3 ⟨a3, d3, rfl, hI3, hb⟩; replace HB := Below.tr HB hb; have K3 : Hid (IsB w3 a3 d3 R) := hI3; have K2 : Hid (IsB w3 a2 d2 R) := K2.out.below hb; have KO : Hid (IsB w3 (some ⟨g, 0, none⟩) cap ns) := KO.out.below hb; clear hb hI3)
    | (go_at_call 12; refine (alive_any _).mono ?_; rintro e w4 ⟨rfl, hb⟩; replace HB := Below.tr HB hb; have K3 : Hid (IsB w4 a3 d3 R) := K3.out.below hb; have K2 : Hid (IsB w4 a2 d2 R) := K2.out.below hb; have KO : Hid (IsB w4 (some ⟨g, 0, none⟩) cap ns) := KO.out.below hb; clear hb)
    | (go_at_call 15; have _t := tok1; refine (c3 _ a2 a3 d2 d3 K2.out K3.out).mono ?_; rintro e w5 ⟨rfl, hb⟩; clear tok1; replace HB := Below.tr HB hb; have KO : Hid (IsB w5 (some ⟨g, 0, none⟩) cap ns) := KO.out.below hb; clear hb)
    | (go_at_call 15; refine (c4 _ _ _ KO.out HB).mono ?_; rintro e w6 ⟨rfl, hb⟩; replace HB := Below.tr HB hb; clear hb))
  go_ret
  exact ⟨rfl, HB⟩

end Go.Proofs.Ytkfapldicjmelaa

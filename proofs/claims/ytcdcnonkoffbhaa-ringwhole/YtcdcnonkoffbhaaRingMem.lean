/-
  Rows of changes in memory: three cells each; as they are handed in, and as they grow.
-/
import Derived.Test.YtcdcnonkoffbhaaTurns
import Derived.Test.YtcdcnonkoffbhaaSuperMem
import Derived.Test.YtcdcnonkoffbhaaRingPlain
import Derived.Deep.SlicePairs
import Derived.Deep.Strs
namespace Go.Proofs.Ytcdcnonkoffbhaa
open Go.RowKit Plain Go.ChangeShapes Go.WideShapes
set_option linter.unusedVariables false

def cellsC (cs : List Chg) : List Value := cs.flatMap fun c => [.string c.1, .string c.2.1, .bool c.2.2]

theorem cellsC_cons (c : Chg) (cs : List Chg) : cellsC (c :: cs) = .string c.1 :: .string c.2.1 :: .bool c.2.2 :: cellsC cs := rfl
theorem cellsC_append (xs ys : List Chg) : cellsC (xs ++ ys) = cellsC xs ++ cellsC ys := by simp [cellsC]

theorem cellsC_at {cs : List Chg} {i : Nat} {c : Chg} (h : cs[i]? = some c) : (cellsC cs)[i * 3]? = some (.string c.1) ∧ (cellsC cs)[i * 3 + 1]? = some (.string c.2.1) ∧ (cellsC cs)[i * 3 + 2]? = some (.bool c.2.2) := by
  induction cs generalizing i with
  | nil => simp at h
  | cons q ps ih =>
    rw [cellsC_cons]
    cases i with
    | zero => simp at h; subst h; exact ⟨rfl, rfl, rfl⟩
    | succ i =>
      simp at h
      have := ih h
      rw [Nat.succ_mul]
      simpa using this

/-- A row of changes, as it lies. -/
def IsC (w : World) (a : Option Addr) (c : Nat) (cs : List Chg) : Prop :=
  cs.length ≤ c ∧ c ≤ maxLen ∧ ∀ (j : Nat) x, cs[j]? = some x → ∃ b o, a = some ⟨b, o, none⟩ ∧ b < w.heap.size ∧ w.cell? ⟨b, o + j * 3, none⟩ = some (.string x.1) ∧ w.cell? ⟨b, o + j * 3 + 1, none⟩ = some (.string x.2.1) ∧ w.cell? ⟨b, o + j * 3 + 2, none⟩ = some (.bool x.2.2) ∧ x.1.size ≤ maxLen ∧ x.2.1.size ≤ maxLen

theorem isC_nil (w : World) (a : Option Addr) (c : Nat) (hc : c ≤ maxLen) : IsC w a c [] := ⟨Nat.zero_le _, hc, fun j p h => by simp at h⟩

theorem IsC.turns {P : Nat → Prop} {w w' : World} {a : Option Addr} {c : Nat} {cs : List Chg} (h : IsC w a c cs) (t : Turns P w w') (hp : ∀ x, a = some x → ¬ P x.block) : IsC w' a c cs := by
  refine ⟨h.1, h.2.1, fun j x hx => ?_⟩
  obtain ⟨b, o, ha, hlt, h0, h1, h2, hs⟩ := h.2.2 j x hx
  exact ⟨b, o, ha, Nat.lt_of_lt_of_le hlt t.size, t.cell (p := ⟨b, o + j * 3, none⟩) (hp ⟨b, o, none⟩ ha) h0, t.cell (p := ⟨b, o + j * 3 + 1, none⟩) (hp ⟨b, o, none⟩ ha) h1, t.cell (p := ⟨b, o + j * 3 + 2, none⟩) (hp ⟨b, o, none⟩ ha) h2, hs⟩

theorem IsC.below {w w' : World} {a : Option Addr} {c : Nat} {cs : List Chg} (h : IsC w a c cs) (hb : Below w.heap.size w w') : IsC w' a c cs :=
  h.turns (P := fun _ => False) (Turns.of_below hb) (fun _ _ x => x)

theorem IsC.take {w : World} {a : Option Addr} {c : Nat} {ms : List Chg} (h : IsC w a c ms) (n : Nat) : IsC w a c (ms.take n) := by
  refine ⟨by rw [List.length_take]; have := h.1; omega, h.2.1, fun j x hx => h.2.2 j x ?_⟩
  rw [List.getElem?_take] at hx
  split at hx
  · exact hx
  · cases hx

theorem IsC.size {w : World} {a : Option Addr} {c : Nat} {cs : List Chg} (h : IsC w a c cs) : cs.length ≤ 9223372036854775807 := Nat.le_trans h.1 h.2.1

theorem IsC.texts {w : World} {a : Option Addr} {c : Nat} {cs : List Chg} (h : IsC w a c cs) {j : Nat} {x : Chg} (hx : cs[j]? = some x) : x.1.size ≤ maxLen ∧ x.2.1.size ≤ maxLen := by
  obtain ⟨_, _, _, _, _, _, _, hs⟩ := h.2.2 j x hx
  exact hs

theorem owned_isC {w : World} {B : Nat} {v : Value} {n : Nat} {cs : List Chg} (h : w.ownsRow B 68 3 v n (cellsC cs)) (hn : n = cs.length) (hk : ∀ c ∈ cs, c.1.size ≤ maxLen ∧ c.2.1.size ≤ maxLen) : ∃ a c, v = .slice a n c ∧ IsC w a c cs ∧ From B a := by
  have hlt := h.lt
  have hcell := fun g => h.cells (g := g)
  rcases h.2 with ⟨rfl, rfl⟩ | ⟨g, cap, cur, rfl, hg, hh, hnc, hcm, hcs, htk⟩
  · obtain rfl : cs = [] := List.length_eq_zero_iff.1 hn.symm
    exact ⟨none, 0, rfl, isC_nil _ _ _ (Nat.zero_le _), from_nil _⟩
  · refine ⟨_, _, rfl, ⟨by omega, hcm, fun j p hp => ⟨g, 0, rfl, (hlt g rfl).2, ?_, ?_, ?_, hk p (List.mem_of_getElem? hp)⟩⟩, fun x hx => by cases hx; exact hg⟩
    · have := hcell g rfl (j * 3) _ (cellsC_at hp).1
      rw [at_add] at this
      exact this
    · have := hcell g rfl (j * 3 + 1) _ (cellsC_at hp).2.1
      rw [at_add] at this
      exact this
    · have := hcell g rfl (j * 3 + 2) _ (cellsC_at hp).2.2
      rw [at_add] at this
      exact this

theorem Try.info68 : (Try.prog.info? 68).map (fun i => (i.zero, i.size, i.bytes)) = some (some (.agg #[.string ⟨#[]⟩, .string ⟨#[]⟩, .bool false]), 3, 40) := by kernel_rfl

/-- One change more at the end of a row of the call's own. -/
theorem push_C (W : World) (base : Nat) (v : Value) (n : Nat) (l : List Chg) (x : Chg) (hown : W.ownsRow base 68 3 v n (cellsC l)) (hb : base ≤ W.heap.size) (hn : n ≤ 1000000) :
    ∃ g cap w', (Builtin.append_ #[34, 34] 34 #[v, .slice (some ⟨W.heap.size, 0, none⟩) 1 1]).run Try.prog (W.alloc (.cells #[.string x.1, .string x.2.1, .bool x.2.2] 68)) = .ok (.slice (some ⟨g, 0, none⟩) (n + 1) cap) w' ∧
      w'.ownsRow base 68 3 (.slice (some ⟨g, 0, none⟩) (n + 1) cap) (n + 1) (cellsC (l ++ [x])) ∧ (W.alloc (.cells #[.string x.1, .string x.2.1, .bool x.2.2] 68)).grownBy w' v.ownBlock ∧ (v.ownBlock = some g ∨ g = W.heap.size + 1) ∧ base ≤ g ∧ g < w'.heap.size := by
  obtain ⟨i0, hi, hz0, hz1, hz2⟩ := info_parts Try.info68
  obtain ⟨g, cap, w', h1, h2, h3, h4, h5⟩ := run_append_lies (P := Try.prog) (W.alloc (.cells #[.string x.1, .string x.2.1, .bool x.2.2] 68)) 34 34 base 68 i0 _ 3 40 Try.underlying34 hi hz0 hz1 hz2 rfl (by decide) v n (cellsC l) (hown.alloc _) ⟨W.heap.size, 0, none⟩ 1 1 [.string x.1, .string x.2.1, .bool x.2.2] rfl
    (by
      intro j u hj
      match j, hj with
      | 0, hj => simp at hj; subst hj; rw [at_add]; exact World.cell?_alloc_at _ _ _ _ rfl
      | 1, hj => simp at hj; subst hj; rw [at_add]; exact World.cell?_alloc_at _ _ _ _ rfl
      | 2, hj => simp at hj; subst hj; rw [at_add]; exact World.cell?_alloc_at _ _ _ _ rfl)
    (by intro u hu; simp at hu; rcases hu with rfl | rfl | rfl <;> rfl) (by omega) (by unfold maxLen; omega) (by omega) (by simp; omega) (W.heap.size + 1) (by simp)
  refine ⟨g, cap, w', h1, by rw [cellsC_append]; exact h2, h3, h4, (h2.lt g rfl).1, h5⟩

theorem list_three {α : Type} (l : List α) (h : l.length = 3) : ∃ a b c, l = [a, b, c] := by
  match l, h with
  | [a, b, c], _ => exact ⟨a, b, c, rfl⟩

set_option maxRecDepth 20000 in
theorem open_changes {H : Type} {enc : TypeId × Value → H} {w : World} {r : Reach} {b0 : Nat} {v : Value} {d : DataW H} {p : List MemPlace}
    (hv : Value.okWide Try.prog w r b0 34 v) (h : DataW.Trod enc Try.prog w 0 (fun _ => true) true 34 v d p) :
    ∃ a c xs, v = .slice a xs.length c ∧ IsC w a c xs := by
  obtain ⟨a, len, cap, rfl⟩ := okWide_slice Try.underlying34 hv
  obtain ⟨fuel, hf⟩ := h
  have hf' : DataW.trod enc Try.prog w 0 (fun _ => true) true fuel 34 [.slice a len cap] = some (d, p) := by simpa [Value.cells] using hf
  have ce : Try.prog.cellsOf 68 = 3 := by kernel_rfl
  rcases Deep.open_slice Try.underlying34 hf' with ⟨hcs, _⟩ | ⟨a, l, c, m, n, D, Pl, hcs, _, hl, hm, hmm, _, hcell⟩
  · simp at hcs
    obtain ⟨rfl, rfl, rfl⟩ := hcs
    exact ⟨none, 0, [], rfl, isC_nil _ _ _ (Nat.zero_le _)⟩
  · simp at hcs
    obtain ⟨rfl, rfl, rfl⟩ := hcs
    simp at hmm
    have each : ∀ i, i < m → ∃ p : Chg, w.cell? (a.add (i * 3)) = some (.string p.1) ∧ w.cell? (a.add (i * 3 + 1)) = some (.string p.2.1) ∧ w.cell? (a.add (i * 3 + 2)) = some (.bool p.2.2) ∧ p.1.size ≤ maxLen ∧ p.2.1.size ≤ maxLen := by
      intro i hi
      obtain ⟨cs', h1, h2⟩ := hcell i hi
      rw [ce] at h1
      obtain ⟨_, hlen, hc⟩ := World.cells?_some h1
      obtain ⟨y0, y1, y2, k, _, _, g0, g1, g2⟩ := Deep.trod_struct3 Try.underlying68 h2
      obtain ⟨v0, v1, v2, rfl⟩ := list_three cs' hlen
      obtain ⟨x0, e0, _, s0⟩ := DataW.trod_string Try.underlying9 g0
      obtain ⟨x1, e1, _, s1⟩ := DataW.trod_string Try.underlying9 g1
      obtain ⟨x2, e2, _⟩ := DataW.trod_bool Try.underlying4 g2
      have ci : Try.prog.cellsOf 9 = 1 := by kernel_rfl
      have cb : Try.prog.cellsOf 4 = 1 := by kernel_rfl
      simp [ci, cb] at e0 e1 e2
      subst e0 e1 e2
      have c0 := hc 0 (by omega)
      have c1 := hc 1 (by omega)
      have c2 := hc 2 (by omega)
      rw [Deep.add_add] at c0 c1 c2
      exact ⟨(x0, x1, x2), by simpa using c0, by simpa using c1, by simpa using c2, s0, s1⟩
    obtain ⟨q, hq⟩ := Deep.choose_lt each
    refine ⟨some a, cap, (List.range len).map q, by simp, by simpa using hl, hm, fun j p hp => ?_⟩
    have hj : j < len := by simpa using (List.getElem?_eq_some_iff.1 hp).1
    rw [List.getElem?_map, List.getElem?_range hj] at hp
    obtain rfl : q j = p := Option.some.inj hp
    obtain ⟨h0, h1, h2, h3⟩ := hq j (by omega)
    obtain ⟨b, o, rfl, hb⟩ := spot_none (hq 0 (by omega)).1
    rw [at_add] at h0 h1 h2
    exact ⟨b, o, rfl, hb, h0, by rw [Nat.add_assoc]; exact h1, by rw [Nat.add_assoc]; exact h2, h3⟩

end Go.Proofs.Ytcdcnonkoffbhaa

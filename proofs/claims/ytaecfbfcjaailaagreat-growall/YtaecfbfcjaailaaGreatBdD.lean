/-
  Texts laid together: AllocMem, Anyheld, AllocRight, Anyorder, AllocFree, AllocNew, AllocDo, AllocRef, LookHolds, LookRef, NodePut, NodeJoined, NodePart, NodeCutting.
-/
import Derived.Test.YtaecfbfcjaailaaGreatBdC
import Derived.Test.YtaecfbfcjaailaaGreatRows
import Derived.Deep.RegionHeld3
import Derived.Orders
import Derived.WalkKit
import Derived.Below
import Derived.Test.YtaecfbfcjaailaaGreatBdA
import Derived.Test.YtaecfbfcjaailaaGreatBdB
import Derived.Deep.AppendLies
import Derived.Lib.AppendZeros
namespace Go.Proofs.YtaecfbfcjaailaaGreat
open Go.RowKit Plain Go.ChangeShapes Go.WideShapes
set_option linter.unusedVariables false

/-- A struct of two cells in a box of its own. -/
def Box2 (w : World) (h : Nat) (v0 v1 : Value) : Prop :=
  (w.cell? ⟨h, 0, none⟩ = some v0 ∧ w.cell? ⟨h, 1, none⟩ = some v1) ∧ w.frozen? ⟨h, 0, none⟩ = false ∧ w.frozen? ⟨h, 1, none⟩ = false

theorem box2_new (w : World) (v0 v1 : Value) (t : TypeId) {h : Nat} (hh : h = w.heap.size) : Box2 (w.alloc (.cells #[v0, v1] t)) h v0 v1 := by
  subst hh
  refine ⟨⟨World.cell?_alloc_at _ _ _ _ rfl, World.cell?_alloc_at _ _ _ _ rfl⟩, ?_, ?_⟩
  · exact (World.frozen?_alloc_mark w _ _ _ _ 0).trans (by simp)
  · exact (World.frozen?_alloc_mark w _ _ _ _ 1).trans (by simp)

theorem Box2.lt {w : World} {h : Nat} {v0 v1 : Value} (b : Box2 w h v0 v1) : h < w.heap.size := cell_lt b.1.1

theorem Box2.below {w w' : World} {h : Nat} {v0 v1 : Value} (b : Box2 w h v0 v1) (hb : Below w.heap.size w w') : Box2 w' h v0 v1 := by
  have hl := b.lt
  obtain ⟨⟨c0, c1⟩, f0, f1⟩ := b
  exact ⟨⟨cell_below hb c0, cell_below hb c1⟩, by rw [hb.frozen (p := ⟨h, 0, none⟩) hl]; exact f0, by rw [hb.frozen (p := ⟨h, 1, none⟩) hl]; exact f1⟩

theorem Box2.alloc {w : World} {h : Nat} {v0 v1 : Value} (b : Box2 w h v0 v1) (o : Obj) : Box2 (w.alloc o) h v0 v1 := b.below ((Below.refl _ _).alloc (Nat.le_refl _) o)

theorem Box2.drew {w : World} {h : Nat} {v0 v1 : Value} (b : Box2 w h v0 v1) : Box2 w.drew h v0 v1 := b.below (Below.refl _ _).drew

/-- Behind a store of both cells. -/
theorem Box2.set {w : World} {h : Nat} {v0 v1 : Value} (b : Box2 w h v0 v1) (u0 u1 : Value) : Box2 ((w.setCell ⟨h, 0, none⟩ u0).setCell ⟨h, 1, none⟩ u1) h u0 u1 := by
  obtain ⟨⟨c0, c1⟩, f0, f1⟩ := b
  refine ⟨⟨?_, ?_⟩, ?_, ?_⟩
  · rw [World.cell?_setCell_other _ _ _ _ (fun hh => by cases hh)]
    exact World.cell?_setCell_same _ _ _ c0
  · refine World.cell?_setCell_same _ _ _ (u := v1) ?_
    rw [World.cell?_setCell_other _ _ _ _ (fun hh => by cases hh)]
    exact c1
  · simpa using f0
  · simpa using f1

theorem below_set2 {w w1 : World} {h : Nat} {v0 v1 : Value} (hB : Below w.heap.size w w1) (hh : w.heap.size ≤ h) : Below w.heap.size w ((w1.setCell ⟨h, 0, none⟩ v0).setCell ⟨h, 1, none⟩ v1) :=
  (hB.setCell (p := ⟨h, 0, none⟩) hh _).setCell (p := ⟨h, 1, none⟩) hh _

/-- Another box behind such a store. -/
theorem Box2.other {w : World} {h k : Nat} {v0 v1 : Value} (b : Box2 w h v0 v1) (hn : h ≠ k) (u0 u1 : Value) : Box2 ((w.setCell ⟨k, 0, none⟩ u0).setCell ⟨k, 1, none⟩ u1) h v0 v1 := by
  obtain ⟨⟨c0, c1⟩, f0, f1⟩ := b
  refine ⟨⟨?_, ?_⟩, ?_, ?_⟩
  · rw [World.cell?_setCell_other _ _ _ _ (fun hh => hn (congrArg Addr.block hh).symm), World.cell?_setCell_other _ _ _ _ (fun hh => hn (congrArg Addr.block hh).symm)]; exact c0
  · rw [World.cell?_setCell_other _ _ _ _ (fun hh => hn (congrArg Addr.block hh).symm), World.cell?_setCell_other _ _ _ _ (fun hh => hn (congrArg Addr.block hh).symm)]; exact c1
  · simpa using f0
  · simpa using f1

/-- A row behind a store into another block. -/
theorem IsB.setOther {w : World} {a : Option Addr} {c k i : Nat} {l : List Bool} {v : Value} (h : IsB w a c l) (hn : ∀ b o, a = .some ⟨b, o, none⟩ → b ≠ k) : IsB (w.setCell ⟨k, i, none⟩ v) a c l := by
  refine ⟨h.1, h.2.1, fun j x hx => ?_⟩
  obtain ⟨b, o, ha, hlt, hc⟩ := h.2.2 j x hx
  refine ⟨b, o, ha, by simpa using hlt, ?_⟩
  rw [World.cell?_setCell_other _ _ _ _ (fun hh => hn b o ha (congrArg Addr.block hh).symm)]
  exact hc

/-- A row of the call's own behind a store into an elder block. -/
theorem OwnT.store {base : Nat} {w : World} {a : Option Addr} {cap : Nat} {l : List Bool} (h : OwnT base w a cap l) {k : Nat} (hk : k < base) (i : Nat) (v : Value) : OwnT base (w.setCell ⟨k, i, none⟩ v) a cap l := by
  rcases h with h | ⟨g, h1, h2, cur, hg, hr⟩
  · exact .inl h
  · exact .inr ⟨g, h1, h2, cur, by rw [Below.heap_setCell _ _ _ _ (show g ≠ k by omega)]; exact hg, hr⟩

theorem OwnT.mono {base base' : Nat} {w : World} {a : Option Addr} {cap : Nat} {l : List Bool} (h : OwnT base w a cap l) (hb : base' ≤ base) : OwnT base' w a cap l := by
  rcases h with h | ⟨g, h1, h2, hr⟩
  · exact .inl h
  · exact .inr ⟨g, h1, Nat.le_trans hb h2, hr⟩

theorem OwnT_nil (base : Nat) (w : World) : OwnT base w none 0 [] := .inl ⟨rfl, rfl, rfl⟩

theorem cell_drew {w : World} {p : Addr} {v : Value} (h : w.cell? p = some v) : w.drew.cell? p = some v := h

set_option maxRecDepth 20000 in
theorem open_alloc {H : Type} {enc : TypeId × Value → H} {w : World} {r : Reach} {b0 : Nat} {v : Value} {d : DataW H} {p : List MemPlace}
    (hv : Value.okWide Tryz.prog w r b0 24 v) (h : DataW.Trod enc Tryz.prog w 0 (fun _ => true) true 24 v d p) :
    ∃ a c b a' c' n, v = .agg #[.slice a b.length c, .slice a' n.length c'] ∧ IsB w a c b ∧ IsB w a' c' n := by
  obtain ⟨v0, v1, y0, y1, n, rfl, _, _, h0, h1⟩ := Joins.open_agg2 Tryz.underlying24 (by kernel_rfl) (by kernel_rfl) hv h
  obtain ⟨a, c, b, rfl, hS⟩ := open_B h0
  obtain ⟨a', c', n, rfl, hP⟩ := open_B h1
  exact ⟨a, c, b, a', c', n, rfl, hS, hP⟩

end Go.Proofs.YtaecfbfcjaailaaGreat

namespace Go.Proofs.YtaecfbfcjaailaaGreat
set_option linter.unusedVariables false

theorem op_at {ops : Array Oper} {i : Nat} {o : Oper} {post : List Oper} (hd : ops.toList.drop i = o :: post) : ops[i]? = some o := by
  have h := List.getElem?_drop (xs := ops.toList) (i := i) (j := 0)
  rw [hd] at h
  simpa using h.symm

/-- Take number i first. -/
theorem take_at {P : Program} {ops : Array Oper} {Q : Exit → Act → World → Prop} {md : Region.Mode} {S : World → Prop} {i : Nat} {o : Oper} {post : List Oper} {v : Value} {fuel : Nat} {listed : Array Bool} {a : Act} {w : World}
    (hd : ops.toList.drop i = o :: post) (hs : Region.noSelect ops = true) (hf : Region.free md ops listed i = true) (hr : (Region.ready md ops listed).contains i = true)
    (hQ : ∀ c a w, Q (.panic c) (a.put o.dst v) w → Q (.panic c) a w) (hy : YieldsIf P ops S o v a) (hS : S w)
    (h : wpAnyH P md ops Q S fuel (listed.setIfInBounds i true) (a.put o.dst v) w) : wpAnyH P md ops Q S (fuel + 1) listed a w :=
  wpAnyH_take (op_at hd) hs hf hr hQ hy hS h

/-- The only one that may come up. -/
theorem cons_at {P : Program} {ops : Array Oper} {Q : Exit → Act → World → Prop} {md : Region.Mode} {S : World → Prop} {fuel : Nat} {listed : Array Bool} {a : Act} {w : World} {i : Nat} {o : Oper} {post : List Oper} {rs : List Nat}
    (hd : ops.toList.drop i = o :: post)
    (h : ∀ K' : Act → World → Prop, Shut (∀ a w, S w → (S w → wpAnyH P md ops Q S fuel (listed.setIfInBounds i true) a w) → K' a w) → if Region.wanted o (yielded ops a.tmps) = true then Oper.wp P o a w K' Q else K' (a.put o.dst undef) w)
    (hs : AllReadyH P md ops Q S fuel listed a w rs) : AllReadyH P md ops Q S fuel listed a w (i :: rs) :=
  AllReadyH.cons (op_at hd) h hs

end Go.Proofs.YtaecfbfcjaailaaGreat

namespace Go.Proofs.YtaecfbfcjaailaaGreat
open Go.RowKit Plain
set_option linter.unusedVariables false

def mayB (k : Int) : Bool := decide (24 ≤ k) && decide (k ≤ 2048)

theorem mayHave_any (k : Int) (w : World) : Calls Tryz.prog 61 #[.int .i64 k] w fun e w' => e = .returned (.bool (mayB k)) ∧ w = w' := by
  by_cases h1 : 24 ≤ k
  · by_cases h2 : k ≤ 2048
    · have e : Hid (mayB k = true) := by show _ = _; unfold mayB; rw [decide_eq_true h1, decide_eq_true h2]; rfl
      go_enter Tryz.func61, Tryz.ntmps61
      go_wp2
      go_ret
      exact ⟨ret_bool e.out.symm, rfl⟩
    · have e : Hid (mayB k = false) := by show _ = _; unfold mayB; rw [decide_eq_true h1, decide_eq_false h2]; rfl
      go_enter Tryz.func61, Tryz.ntmps61
      go_wp2
      go_ret
      exact ⟨ret_bool e.out.symm, rfl⟩
  · have e : Hid (mayB k = false) := by show _ = _; unfold mayB; rw [decide_eq_false h1]; rfl
    go_enter Tryz.func61, Tryz.ntmps61
    go_wp2
    go_ret
    exact ⟨ret_bool e.out.symm, rfl⟩

theorem right_lens {b m : List Bool} (h : b.length ≠ m.length) : rightA b m = false := by
  rw [Bool.eq_false_iff]; exact fun hr => h ((rightA_iff b m).1 hr).1

theorem right_may {b m : List Bool} (h : mayB m.length = false) : rightA b m = false := by
  rw [Bool.eq_false_iff]
  intro hr
  obtain ⟨_, h1, h2, _⟩ := (rightA_iff b m).1 hr
  unfold mayB at h
  rw [decide_eq_true (by omega), decide_eq_true (by omega)] at h
  cases h

theorem atB_take10 (l : List Bool) {i : Nat} (h : i < 10) : atB (l.take 10) i = atB l i := by
  unfold atB; rw [List.getElem?_take_of_lt h]

/-- All the first ten places are used in both, if so many are. -/
theorem right_ten {b m : List Bool} (h : b.length = m.length) (hm : mayB m.length = true) : rightA b m = ((countB [b.take 10, m.take 10] : Int) == 10) := by
  unfold mayB at hm
  simp at hm
  have hl : longest [b.take 10, m.take 10] = 10 := by simp [longest]; omega
  have hc : countB [b.take 10, m.take 10] = howN (allB [b.take 10, m.take 10]) 10 := by
    unfold countB
    rw [hl]
    generalize [b.take 10, m.take 10] = ls
    generalize 10 = k
    induction k with
    | zero => rfl
    | succ k ih => rw [countN_succ, howN, ih]
  have hall : ∀ i, i < 10 → (allB [b.take 10, m.take 10] i = true ↔ atB b i = true ∧ atB m i = true) := by
    intro i hi
    unfold allB
    rw [decide_eq_true_eq, howB_all]
    rw [← atB_take10 b hi, ← atB_take10 m hi]
    simp
  rw [Bool.eq_iff_iff, rightA_iff, beq_iff_eq, hc]
  constructor
  · rintro ⟨_, _, _, h4⟩
    rw [howN_all fun i hi => (hall i hi).2 (h4 i hi)]; rfl
  · intro h10
    refine ⟨h, by omega, by omega, fun i hi => (hall i hi).1 ?_⟩
    cases hf : allB [b.take 10, m.take 10] i with
    | true => rfl
    | false =>
      have h2 : howN (fun j => !allB [b.take 10, m.take 10] j) 10 + howN (allB [b.take 10, m.take 10]) 10 = 10 := by
        have := howN_or (f := fun j => !allB [b.take 10, m.take 10] j) (g := allB [b.take 10, m.take 10]) (h := fun _ => true) (k := 10) (fun j _ => by cases allB [b.take 10, m.take 10] j <;> simp)
        rw [← this, howN_all fun _ _ => rfl]
      have h3 : howN (fun j => !allB [b.take 10, m.take 10] j) 10 = 0 := by omega
      have := howN_zero.1 h3 i hi
      rw [hf] at this
      cases this

set_option maxRecDepth 20000 in
set_option maxHeartbeats 2000000 in
/-- RIGHT, of all allocs. -/
theorem allocRight_any (a a' : Option Addr) (c c' n n' : Nat) (b m : List Bool) (w : World) (hn : n = b.length) (hn' : n' = m.length) (hB : IsB w a c b) (hB' : IsB w a' c' m) :
    Calls Tryz.prog 43 #[.agg #[.slice a n c, .slice a' n' c']] w fun e w' => e = .returned (.bool (rightA b m)) ∧ Below w.heap.size w w' := by
  have hnb : n ≤ 9223372036854775807 := by rw [hn]; exact Nat.le_trans hB.1 hB.2.1
  have hnb' : n' ≤ 9223372036854775807 := by rw [hn']; exact Nat.le_trans hB'.1 hB'.2.1
  have hB0 : Below w.heap.size w (w.alloc (.cells #[.slice a n c, .slice a' n' c'] 24)) := (Below.refl _ _).alloc (Nat.le_refl _) _
  obtain ⟨⟨q0, q1⟩, -⟩ := box2_new w (.slice a n c) (.slice a' n' c') 24 rfl
  by_cases hl : n = n'
  · subst hl
    cases hm : mayB n with
    | false =>
      have he : Hid (rightA b m = false) := right_may (by rw [← hn']; exact hm)
      clear hn hn' hB hB'
      go_enter Tryz.func43, Tryz.ntmps43
      go_wp2
      generalize w.alloc (.cells #[.slice a n c, .slice a' n c'] 24) = W at q0 q1 hB0 ⊢
      refine wp_region_noPanic ?_
      refine wp_region_held_drew (S := fun V => V.cell? ⟨w.heap.size, 0, none⟩ = some (.slice a n c) ∧ V.cell? ⟨w.heap.size, 1, none⟩ = some (.slice a' n c')) (by kernel_rfl) ⟨q0, q1⟩ (fun hHeld => ?_)
      refine take_at (i := 0) (v := ?_) rfl (by kernel_rfl) (by kernel_rfl) (by kernel_rfl) (fun _ _ _ h => h) (Or.inl ⟨by rfl, ?_⟩) (by assumption) ?_
      rotate_left 1
      · (intro w hSw; (try dsimp only at hSw); go_simp; (try with_reducible rfl))
      try simp only [Act.put, List.setIfInBounds_toArray, List.set_cons_zero, List.set_cons_succ]
      refine take_at (i := 1) (v := ?_) rfl (by kernel_rfl) (by kernel_rfl) (by kernel_rfl) (fun _ _ _ h => h) (Or.inl ⟨by rfl, ?_⟩) (by assumption) ?_
      rotate_left 1
      · (intro w hSw; (try dsimp only at hSw); go_simp; (try with_reducible rfl))
      try simp only [Act.put, List.setIfInBounds_toArray, List.set_cons_zero, List.set_cons_succ]
      refine take_at (i := 2) (v := ?_) rfl (by kernel_rfl) (by kernel_rfl) (by kernel_rfl) (fun _ _ _ h => h) (Or.inl ⟨by rfl, ?_⟩) (by assumption) ?_
      rotate_left 1
      · (intro w hSw; (try dsimp only at hSw); go_simp; (try with_reducible rfl))
      try simp only [Act.put, List.setIfInBounds_toArray, List.set_cons_zero, List.set_cons_succ]
      refine take_at (i := 3) (v := ?_) rfl (by kernel_rfl) (by kernel_rfl) (by kernel_rfl) (fun _ _ _ h => h) (Or.inl ⟨by rfl, ?_⟩) (by assumption) ?_
      rotate_left 1
      · (intro w hSw; (try dsimp only at hSw); go_simp; (try with_reducible rfl))
      try simp only [Act.put, List.setIfInBounds_toArray, List.set_cons_zero, List.set_cons_succ]
      refine take_at (i := 4) (v := ?_) rfl (by kernel_rfl) (by kernel_rfl) (by kernel_rfl) (fun _ _ _ h => h) (Or.inl ⟨by rfl, ?_⟩) (by assumption) ?_
      rotate_left 1
      · (intro w hSw; (try dsimp only at hSw); go_simp; (try with_reducible rfl))
      try simp only [Act.put, List.setIfInBounds_toArray, List.set_cons_zero, List.set_cons_succ]
      refine take_at (i := 5) (v := ?_) rfl (by kernel_rfl) (by kernel_rfl) (by kernel_rfl) (fun _ _ _ h => h) (Or.inl ⟨by rfl, ?_⟩) (by assumption) ?_
      rotate_left 1
      · (intro w hSw; (try dsimp only at hSw); go_simp; (try with_reducible rfl))
      try simp only [Act.put, List.setIfInBounds_toArray, List.set_cons_zero, List.set_cons_succ]
      refine take_at (i := 6) (v := ?_) rfl (by kernel_rfl) (by kernel_rfl) (by kernel_rfl) (fun _ _ _ h => h) (Or.inl ⟨by rfl, ?_⟩) (by assumption) ?_
      rotate_left 1
      · (intro w hSw; (try dsimp only at hSw); go_simp; (try with_reducible rfl))
      try simp only [Act.put, List.setIfInBounds_toArray, List.set_cons_zero, List.set_cons_succ]
      refine take_at (i := 7) (v := ?_) rfl (by kernel_rfl) (by kernel_rfl) (by kernel_rfl) (fun _ _ _ h => h) (Or.inl ⟨by rfl, ?_⟩) (by assumption) ?_
      rotate_left 1
      · (intro w hSw; (try dsimp only at hSw); go_simp; (try with_reducible rfl))
      try simp only [Act.put, List.setIfInBounds_toArray, List.set_cons_zero, List.set_cons_succ]
      refine take_at (i := 8) (v := ?_) rfl (by kernel_rfl) (by kernel_rfl) (by kernel_rfl) (fun _ _ _ h => h) (Or.inl ⟨by rfl, ?_⟩) (by assumption) ?_
      rotate_left 1
      · (intro w hSw; (try dsimp only at hSw); go_simp; (try with_reducible rfl))
      try simp only [Act.put, List.setIfInBounds_toArray, List.set_cons_zero, List.set_cons_succ]
      refine take_at (i := 9) (v := ?_) rfl (by kernel_rfl) (by kernel_rfl) (by kernel_rfl) (fun _ _ _ h => h) (Or.inl ⟨by rfl, ?_⟩) (by assumption) ?_
      rotate_left 1
      · (intro w hSw; (try dsimp only at hSw); go_simp; (try with_reducible rfl))
      try simp only [Act.put, List.setIfInBounds_toArray, List.set_cons_zero, List.set_cons_succ]
      refine take_at (i := 10) (v := ?_) rfl (by kernel_rfl) (by kernel_rfl) (by kernel_rfl) (fun _ _ _ h => h) (Or.inl ⟨by rfl, ?_⟩) (by assumption) ?_
      rotate_left 1
      · (intro w hSw; (try dsimp only at hSw); go_simp; (try with_reducible rfl))
      try simp only [Act.put, List.setIfInBounds_toArray, List.set_cons_zero, List.set_cons_succ]
      refine wpAnyH_ready (rs := [11]) (by kernel_rfl) (by simp) ?_
      refine cons_at (i := 11) rfl (fun K hK => ?_) AllReadyH.nil
      go_simp
      go_at_call 61
      refine (mayHave_any _ _).mono ?_
      rw [hm]
      rintro e w' ⟨rfl, rfl⟩
      refine hK.out _ _ ?_ (fun hHeld => ?_)
      · assumption
      clear hK K
      refine take_at (i := 12) (v := ?_) rfl (by kernel_rfl) (by kernel_rfl) (by kernel_rfl) (fun _ _ _ h => h) (Or.inl ⟨by rfl, ?_⟩) (by assumption) ?_
      rotate_left 1
      · (intro w hSw; (try dsimp only at hSw); go_simp; (try with_reducible rfl))
      try simp only [Act.put, List.setIfInBounds_toArray, List.set_cons_zero, List.set_cons_succ]
      refine take_at (i := 13) (v := ?_) rfl (by kernel_rfl) (by kernel_rfl) (by kernel_rfl) (fun _ _ _ h => h) (Or.inl ⟨by rfl, ?_⟩) (by assumption) ?_
      rotate_left 1
      · (intro w hSw; (try dsimp only at hSw); go_simp; (try with_reducible rfl))
      try simp only [Act.put, List.setIfInBounds_toArray, List.set_cons_zero, List.set_cons_succ]
      refine take_at (i := 14) (v := undef) rfl (by kernel_rfl) (by kernel_rfl) (by kernel_rfl) (fun _ _ _ h => h) (Or.inr ⟨by rfl, rfl⟩) (by assumption) ?_
      try simp only [Act.put, List.setIfInBounds_toArray, List.set_cons_zero, List.set_cons_succ]
      refine take_at (i := 15) (v := undef) rfl (by kernel_rfl) (by kernel_rfl) (by kernel_rfl) (fun _ _ _ h => h) (Or.inr ⟨by rfl, rfl⟩) (by assumption) ?_
      try simp only [Act.put, List.setIfInBounds_toArray, List.set_cons_zero, List.set_cons_succ]
      refine take_at (i := 16) (v := undef) rfl (by kernel_rfl) (by kernel_rfl) (by kernel_rfl) (fun _ _ _ h => h) (Or.inr ⟨by rfl, rfl⟩) (by assumption) ?_
      try simp only [Act.put, List.setIfInBounds_toArray, List.set_cons_zero, List.set_cons_succ]
      refine take_at (i := 17) (v := undef) rfl (by kernel_rfl) (by kernel_rfl) (by kernel_rfl) (fun _ _ _ h => h) (Or.inr ⟨by rfl, rfl⟩) (by assumption) ?_
      try simp only [Act.put, List.setIfInBounds_toArray, List.set_cons_zero, List.set_cons_succ]
      refine take_at (i := 18) (v := undef) rfl (by kernel_rfl) (by kernel_rfl) (by kernel_rfl) (fun _ _ _ h => h) (Or.inr ⟨by rfl, rfl⟩) (by assumption) ?_
      try simp only [Act.put, List.setIfInBounds_toArray, List.set_cons_zero, List.set_cons_succ]
      refine take_at (i := 19) (v := undef) rfl (by kernel_rfl) (by kernel_rfl) (by kernel_rfl) (fun _ _ _ h => h) (Or.inr ⟨by rfl, rfl⟩) (by assumption) ?_
      try simp only [Act.put, List.setIfInBounds_toArray, List.set_cons_zero, List.set_cons_succ]
      refine take_at (i := 20) (v := undef) rfl (by kernel_rfl) (by kernel_rfl) (by kernel_rfl) (fun _ _ _ h => h) (Or.inr ⟨by rfl, rfl⟩) (by assumption) ?_
      try simp only [Act.put, List.setIfInBounds_toArray, List.set_cons_zero, List.set_cons_succ]
      refine take_at (i := 21) (v := undef) rfl (by kernel_rfl) (by kernel_rfl) (by kernel_rfl) (fun _ _ _ h => h) (Or.inr ⟨by rfl, rfl⟩) (by assumption) ?_
      try simp only [Act.put, List.setIfInBounds_toArray, List.set_cons_zero, List.set_cons_succ]
      refine take_at (i := 22) (v := undef) rfl (by kernel_rfl) (by kernel_rfl) (by kernel_rfl) (fun _ _ _ h => h) (Or.inr ⟨by rfl, rfl⟩) (by assumption) ?_
      try simp only [Act.put, List.setIfInBounds_toArray, List.set_cons_zero, List.set_cons_succ]
      refine take_at (i := 23) (v := ?_) rfl (by kernel_rfl) (by kernel_rfl) (by kernel_rfl) (fun _ _ _ h => h) (Or.inl ⟨by rfl, ?_⟩) (by assumption) ?_
      rotate_left 1
      · (intro w hSw; (try dsimp only at hSw); go_simp; (try with_reducible rfl))
      try simp only [Act.put, List.setIfInBounds_toArray, List.set_cons_zero, List.set_cons_succ]
      refine take_at (i := 24) (v := ?_) rfl (by kernel_rfl) (by kernel_rfl) (by kernel_rfl) (fun _ _ _ h => h) (Or.inl ⟨by rfl, ?_⟩) (by assumption) ?_
      rotate_left 1
      · (intro w hSw; (try dsimp only at hSw); go_simp; (try with_reducible rfl))
      try simp only [Act.put, List.setIfInBounds_toArray, List.set_cons_zero, List.set_cons_succ]
      refine wpAnyH_done (by kernel_rfl) ?_ _
      refine NoPanic.normal ?_
      go_wp2
      go_ret
      exact ⟨ret_bool he.out.symm, hB0.drew⟩
    | true =>
      have he : Hid (rightA b m = ((countB [b.take 10, m.take 10] : Int) == 10)) := right_ten (by omega) (by rw [← hn']; exact hm)
      have hr : 24 ≤ n ∧ n ≤ 2048 := by unfold mayB at hm; simp at hm; omega
      have hc1 : n ≤ c := by rw [hn]; exact hB.1
      have hc2 : n ≤ c' := by rw [hn']; exact hB'.1
      obtain ⟨b1, o1, rfl, -⟩ := hB.some (by omega)
      obtain ⟨b2, o2, rfl, -⟩ := hB'.some (by omega)
      have hd1 : (10 : Int) ≤ c := by omega
      have hd2 : (10 : Int) ≤ c' := by omega
      obtain ⟨X, hX⟩ : ∃ X, Hid (X = countB [b.take 10, m.take 10]) := ⟨_, rfl⟩
      have cc : ∀ W, Below w.heap.size w W → Calls Tryz.prog 62 #[.slice (some ⟨W.heap.size, 0, none⟩) 2 2] (W.alloc (.cells #[.slice (some ⟨b1, o1, none⟩) 10 c, .slice (some ⟨b2, o2, none⟩) 10 c'] 22)) fun e w' => e = .returned (.int .i64 X) ∧ Below W.heap.size W w' := by
        intro W hW
        rw [hX.out]
        exact count_two W _ _ c c' 10 10 (b.take 10) (m.take 10) (by rw [List.length_take]; omega) (by rw [List.length_take]; omega) ((hB.take 10).below hW) ((hB'.take 10).below hW)
      rw [← hX.out] at he
      clear hn hn' hB hB' hX
      go_enter Tryz.func43, Tryz.ntmps43
      go_wp2
      generalize w.alloc (.cells #[.slice (some ⟨b1, o1, none⟩) n c, .slice (some ⟨b2, o2, none⟩) n c'] 24) = W at q0 q1 hB0 ⊢
      replace hB0 := hB0.drew
      go_region_held3 (fun V => V.cell? ⟨w.heap.size, 0, none⟩ = some (.slice (some ⟨b1, o1, none⟩) n c) ∧ V.cell? ⟨w.heap.size, 1, none⟩ = some (.slice (some ⟨b2, o2, none⟩) n c')) (first | exact ⟨q0, q1⟩ | exact ⟨cell_alloc q0 _, cell_alloc q1 _⟩) (first
        | (go_at_call 61; refine (mayHave_any _ _).mono ?_; rw [hm]; rintro e w' ⟨rfl, rfl⟩)
        | (go_at_call 62; refine (cc _ hB0).mono ?_; rintro e w' ⟨rfl, hb⟩; replace q0 := cell_below hb q0; replace q1 := cell_below hb q1; replace hB0 := Below.tr hB0 hb; clear hb))
      go_wp2
      go_ret
      exact ⟨ret_bool he.out.symm, hB0⟩
  · have he : Hid (rightA b m = false) := right_lens (by omega)
    have hl' : ((n : Int) == n') = false := by rw [beq_eq_false_iff_ne]; omega
    clear hn hn' hB hB'
    go_enter Tryz.func43, Tryz.ntmps43
    go_wp2
    generalize w.alloc (.cells #[.slice a n c, .slice a' n' c'] 24) = W at q0 q1 hB0 ⊢
    refine wp_region_noPanic ?_
    refine wp_region_held_drew (S := fun V => V.cell? ⟨w.heap.size, 0, none⟩ = some (.slice a n c) ∧ V.cell? ⟨w.heap.size, 1, none⟩ = some (.slice a' n' c')) (by kernel_rfl) ⟨q0, q1⟩ (fun hHeld => ?_)
    refine take_at (i := 0) (v := ?_) rfl (by kernel_rfl) (by kernel_rfl) (by kernel_rfl) (fun _ _ _ h => h) (Or.inl ⟨by rfl, ?_⟩) (by assumption) ?_
    rotate_left 1
    · (intro w hSw; (try dsimp only at hSw); go_simp; (try with_reducible rfl))
    try simp only [Act.put, List.setIfInBounds_toArray, List.set_cons_zero, List.set_cons_succ]
    refine take_at (i := 1) (v := ?_) rfl (by kernel_rfl) (by kernel_rfl) (by kernel_rfl) (fun _ _ _ h => h) (Or.inl ⟨by rfl, ?_⟩) (by assumption) ?_
    rotate_left 1
    · (intro w hSw; (try dsimp only at hSw); go_simp; (try with_reducible rfl))
    try simp only [Act.put, List.setIfInBounds_toArray, List.set_cons_zero, List.set_cons_succ]
    refine take_at (i := 2) (v := ?_) rfl (by kernel_rfl) (by kernel_rfl) (by kernel_rfl) (fun _ _ _ h => h) (Or.inl ⟨by rfl, ?_⟩) (by assumption) ?_
    rotate_left 1
    · (intro w hSw; (try dsimp only at hSw); go_simp; (try with_reducible rfl))
    try simp only [Act.put, List.setIfInBounds_toArray, List.set_cons_zero, List.set_cons_succ]
    refine take_at (i := 3) (v := ?_) rfl (by kernel_rfl) (by kernel_rfl) (by kernel_rfl) (fun _ _ _ h => h) (Or.inl ⟨by rfl, ?_⟩) (by assumption) ?_
    rotate_left 1
    · (intro w hSw; (try dsimp only at hSw); go_simp; (try with_reducible rfl))
    try simp only [Act.put, List.setIfInBounds_toArray, List.set_cons_zero, List.set_cons_succ]
    refine take_at (i := 4) (v := ?_) rfl (by kernel_rfl) (by kernel_rfl) (by kernel_rfl) (fun _ _ _ h => h) (Or.inl ⟨by rfl, ?_⟩) (by assumption) ?_
    rotate_left 1
    · (intro w hSw; (try dsimp only at hSw); go_simp; (try with_reducible rfl))
    try simp only [Act.put, List.setIfInBounds_toArray, List.set_cons_zero, List.set_cons_succ]
    refine take_at (i := 5) (v := ?_) rfl (by kernel_rfl) (by kernel_rfl) (by kernel_rfl) (fun _ _ _ h => h) (Or.inl ⟨by rfl, ?_⟩) (by assumption) ?_
    rotate_left 1
    · (intro w hSw; (try dsimp only at hSw); go_simp; (try with_reducible rfl))
    try simp only [Act.put, List.setIfInBounds_toArray, List.set_cons_zero, List.set_cons_succ]
    refine take_at (i := 6) (v := ?_) rfl (by kernel_rfl) (by kernel_rfl) (by kernel_rfl) (fun _ _ _ h => h) (Or.inl ⟨by rfl, ?_⟩) (by assumption) ?_
    rotate_left 1
    · (intro w hSw; (try dsimp only at hSw); go_simp; (try with_reducible rfl))
    try simp only [Act.put, List.setIfInBounds_toArray, List.set_cons_zero, List.set_cons_succ]
    refine take_at (i := 7) (v := ?_) rfl (by kernel_rfl) (by kernel_rfl) (by kernel_rfl) (fun _ _ _ h => h) (Or.inl ⟨by rfl, ?_⟩) (by assumption) ?_
    rotate_left 1
    · (intro w hSw; (try dsimp only at hSw); go_simp; (try with_reducible rfl))
    try simp only [Act.put, List.setIfInBounds_toArray, List.set_cons_zero, List.set_cons_succ]
    refine take_at (i := 8) (v := undef) rfl (by kernel_rfl) (by kernel_rfl) (by kernel_rfl) (fun _ _ _ h => h) (Or.inr ⟨by rfl, rfl⟩) (by assumption) ?_
    try simp only [Act.put, List.setIfInBounds_toArray, List.set_cons_zero, List.set_cons_succ]
    refine take_at (i := 9) (v := undef) rfl (by kernel_rfl) (by kernel_rfl) (by kernel_rfl) (fun _ _ _ h => h) (Or.inr ⟨by rfl, rfl⟩) (by assumption) ?_
    try simp only [Act.put, List.setIfInBounds_toArray, List.set_cons_zero, List.set_cons_succ]
    refine take_at (i := 10) (v := undef) rfl (by kernel_rfl) (by kernel_rfl) (by kernel_rfl) (fun _ _ _ h => h) (Or.inr ⟨by rfl, rfl⟩) (by assumption) ?_
    try simp only [Act.put, List.setIfInBounds_toArray, List.set_cons_zero, List.set_cons_succ]
    refine take_at (i := 11) (v := undef) rfl (by kernel_rfl) (by kernel_rfl) (by kernel_rfl) (fun _ _ _ h => h) (Or.inr ⟨by rfl, rfl⟩) (by assumption) ?_
    try simp only [Act.put, List.setIfInBounds_toArray, List.set_cons_zero, List.set_cons_succ]
    refine take_at (i := 12) (v := ?_) rfl (by kernel_rfl) (by kernel_rfl) (by kernel_rfl) (fun _ _ _ h => h) (Or.inl ⟨by rfl, ?_⟩) (by assumption) ?_
    rotate_left 1
    · (intro w hSw; (try dsimp only at hSw); go_simp; (try with_reducible rfl))
    try simp only [Act.put, List.setIfInBounds_toArray, List.set_cons_zero, List.set_cons_succ]
    refine take_at (i := 13) (v := ?_) rfl (by kernel_rfl) (by kernel_rfl) (by kernel_rfl) (fun _ _ _ h => h) (Or.inl ⟨by rfl, ?_⟩) (by assumption) ?_
    rotate_left 1
    · (intro w hSw; (try dsimp only at hSw); go_simp; (try with_reducible rfl))
    try simp only [Act.put, List.setIfInBounds_toArray, List.set_cons_zero, List.set_cons_succ]
    refine take_at (i := 14) (v := undef) rfl (by kernel_rfl) (by kernel_rfl) (by kernel_rfl) (fun _ _ _ h => h) (Or.inr ⟨by rfl, rfl⟩) (by assumption) ?_
    try simp only [Act.put, List.setIfInBounds_toArray, List.set_cons_zero, List.set_cons_succ]
    refine take_at (i := 15) (v := undef) rfl (by kernel_rfl) (by kernel_rfl) (by kernel_rfl) (fun _ _ _ h => h) (Or.inr ⟨by rfl, rfl⟩) (by assumption) ?_
    try simp only [Act.put, List.setIfInBounds_toArray, List.set_cons_zero, List.set_cons_succ]
    refine take_at (i := 16) (v := undef) rfl (by kernel_rfl) (by kernel_rfl) (by kernel_rfl) (fun _ _ _ h => h) (Or.inr ⟨by rfl, rfl⟩) (by assumption) ?_
    try simp only [Act.put, List.setIfInBounds_toArray, List.set_cons_zero, List.set_cons_succ]
    refine take_at (i := 17) (v := undef) rfl (by kernel_rfl) (by kernel_rfl) (by kernel_rfl) (fun _ _ _ h => h) (Or.inr ⟨by rfl, rfl⟩) (by assumption) ?_
    try simp only [Act.put, List.setIfInBounds_toArray, List.set_cons_zero, List.set_cons_succ]
    refine take_at (i := 18) (v := undef) rfl (by kernel_rfl) (by kernel_rfl) (by kernel_rfl) (fun _ _ _ h => h) (Or.inr ⟨by rfl, rfl⟩) (by assumption) ?_
    try simp only [Act.put, List.setIfInBounds_toArray, List.set_cons_zero, List.set_cons_succ]
    refine take_at (i := 19) (v := undef) rfl (by kernel_rfl) (by kernel_rfl) (by kernel_rfl) (fun _ _ _ h => h) (Or.inr ⟨by rfl, rfl⟩) (by assumption) ?_
    try simp only [Act.put, List.setIfInBounds_toArray, List.set_cons_zero, List.set_cons_succ]
    refine take_at (i := 20) (v := undef) rfl (by kernel_rfl) (by kernel_rfl) (by kernel_rfl) (fun _ _ _ h => h) (Or.inr ⟨by rfl, rfl⟩) (by assumption) ?_
    try simp only [Act.put, List.setIfInBounds_toArray, List.set_cons_zero, List.set_cons_succ]
    refine take_at (i := 21) (v := undef) rfl (by kernel_rfl) (by kernel_rfl) (by kernel_rfl) (fun _ _ _ h => h) (Or.inr ⟨by rfl, rfl⟩) (by assumption) ?_
    try simp only [Act.put, List.setIfInBounds_toArray, List.set_cons_zero, List.set_cons_succ]
    refine take_at (i := 22) (v := undef) rfl (by kernel_rfl) (by kernel_rfl) (by kernel_rfl) (fun _ _ _ h => h) (Or.inr ⟨by rfl, rfl⟩) (by assumption) ?_
    try simp only [Act.put, List.setIfInBounds_toArray, List.set_cons_zero, List.set_cons_succ]
    refine take_at (i := 23) (v := ?_) rfl (by kernel_rfl) (by kernel_rfl) (by kernel_rfl) (fun _ _ _ h => h) (Or.inl ⟨by rfl, ?_⟩) (by assumption) ?_
    rotate_left 1
    · (intro w hSw; (try dsimp only at hSw); go_simp; (try with_reducible rfl))
    try simp only [Act.put, List.setIfInBounds_toArray, List.set_cons_zero, List.set_cons_succ]
    refine take_at (i := 24) (v := ?_) rfl (by kernel_rfl) (by kernel_rfl) (by kernel_rfl) (fun _ _ _ h => h) (Or.inl ⟨by rfl, ?_⟩) (by assumption) ?_
    rotate_left 1
    · (intro w hSw; (try dsimp only at hSw); go_simp; (try with_reducible rfl))
    try simp only [Act.put, List.setIfInBounds_toArray, List.set_cons_zero, List.set_cons_succ]
    refine wpAnyH_done (by kernel_rfl) ?_ _
    refine NoPanic.normal ?_
    go_wp2
    go_ret
    exact ⟨ret_bool he.out.symm, hB0.drew⟩

end Go.Proofs.YtaecfbfcjaailaaGreat

namespace Go.Proofs.YtaecfbfcjaailaaGreat.Anyorder
open Go

/-- Each operation waits for earlier ones alone, has a slot of its own, and that slot is there. -/
def fit (ops : Array Oper) (n : Nat) : Bool :=
  (List.range ops.size).all fun i => match ops[i]? with
    | none => true
    | some o => (o.after.toList.all fun e => decide (e.on < i)) &&
      match o.dst with
      | none => true
      | some d => decide (d < n) && (List.range ops.size).all fun j => match ops[j]? with
        | none => true
        | some oj => oj.dst != some d || j == i

theorem fit_spec {ops : Array Oper} {n : Nat} (h : fit ops n = true) {i : Nat} {o : Oper} (hi : ops[i]? = some o) :
    (∀ e ∈ o.after, e.on < i) ∧ ∀ d, o.dst = some d → d < n ∧ ∀ j oj, ops[j]? = some oj → oj.dst = some d → j = i := by
  have hlt : i < ops.size := (Array.getElem?_eq_some_iff.1 hi).1
  unfold fit at h
  rw [List.all_eq_true] at h
  have h1 := h i (List.mem_range.2 hlt)
  rw [hi] at h1
  simp only [Bool.and_eq_true, List.all_eq_true, decide_eq_true_eq] at h1
  obtain ⟨ha, hb⟩ := h1
  refine ⟨fun e he => ha e (Array.mem_toList_iff.2 he), fun d hd => ?_⟩
  rw [hd] at hb
  simp only [Bool.and_eq_true, List.all_eq_true, decide_eq_true_eq] at hb
  refine ⟨hb.1, fun j oj hj hdj => ?_⟩
  have hjlt : j < ops.size := (Array.getElem?_eq_some_iff.1 hj).1
  have h2 := hb.2 j (List.mem_range.2 hjlt)
  rw [hj] at h2
  simp only [hdj] at h2
  simpa using h2

/-- Operation o waits for number j. -/
def waits (o : Oper) (j : Nat) : Bool := o.after.toList.any fun e => Region.binds .any e && e.on == j

theorem waits_spec {o : Oper} {j : Nat} : waits o j = true ↔ ∃ e ∈ o.after, Region.binds .any e = true ∧ e.on = j := by
  unfold waits
  rw [List.any_eq_true]
  constructor
  · rintro ⟨e, he, h⟩
    rw [Bool.and_eq_true, beq_iff_eq] at h
    exact ⟨e, Array.mem_toList_iff.1 he, h.1, h.2⟩
  · rintro ⟨e, he, h1, h2⟩
    exact ⟨e, Array.mem_toList_iff.2 he, by rw [Bool.and_eq_true, beq_iff_eq]; exact ⟨h1, h2⟩⟩

/-- Nobody writes slot d ahead of number i. -/
def free (ops : Array Oper) (i d : Nat) : Bool :=
  (List.range ops.size).all fun j => match ops[j]? with
    | none => true
    | some oj => oj.dst != some d || j == i || waits oj i

theorem free_spec {ops : Array Oper} {i d : Nat} (h : free ops i d = true) {j : Nat} {oj : Oper} (hj : ops[j]? = some oj) (hd : oj.dst = some d) : j = i ∨ ∃ e ∈ oj.after, Region.binds .any e = true ∧ e.on = i := by
  unfold free at h
  rw [List.all_eq_true] at h
  have h1 := h j (List.mem_range.2 (Array.getElem?_eq_some_iff.1 hj).1)
  rw [hj] at h1
  simp only [hd] at h1
  rw [← waits_spec]
  simpa using h1

/-- What holds while they come up. -/
def Amid (ops : Array Oper) (a0 : Act) (V : Nat → Value → World → Prop) (S : World → Prop) (listed : Array Bool) (a : Act) (w : World) : Prop :=
  (S w) ∧
  (a.defers = a0.defers) ∧
  (a.tmps.size = a0.tmps.size) ∧
  (listed.size = ops.size) ∧
  (∀ (j : Nat) (oj : Oper), ops[j]? = some oj → listed.getD j false = true → ∀ e ∈ oj.after, Region.binds .any e = true → listed.getD e.on false = true) ∧
  (∀ d : Nat, (∀ (j : Nat) (oj : Oper), ops[j]? = some oj → oj.dst = some d → listed.getD j false = false) → a.tmps[d]? = a0.tmps[d]?) ∧
  (∀ (j : Nat) (oj : Oper) (d : Nat), ops[j]? = some oj → oj.dst = some d → listed.getD j false = true → ∃ v, a.tmps[d]? = some v ∧ V j v w)

theorem Amid.held {ops : Array Oper} {a0 : Act} {V : Nat → Value → World → Prop} {S : World → Prop} {listed : Array Bool} {a : Act} {w : World} (h : Amid ops a0 V S listed a w) : S w := h.1

theorem Amid.defers {ops : Array Oper} {a0 : Act} {V : Nat → Value → World → Prop} {S : World → Prop} {listed : Array Bool} {a : Act} {w : World} (h : Amid ops a0 V S listed a w) : a.defers = a0.defers := h.2.1

theorem Amid.size {ops : Array Oper} {a0 : Act} {V : Nat → Value → World → Prop} {S : World → Prop} {listed : Array Bool} {a : Act} {w : World} (h : Amid ops a0 V S listed a w) : a.tmps.size = a0.tmps.size := h.2.2.1

theorem Amid.lsize {ops : Array Oper} {a0 : Act} {V : Nat → Value → World → Prop} {S : World → Prop} {listed : Array Bool} {a : Act} {w : World} (h : Amid ops a0 V S listed a w) : listed.size = ops.size := h.2.2.2.1

theorem Amid.closed {ops : Array Oper} {a0 : Act} {V : Nat → Value → World → Prop} {S : World → Prop} {listed : Array Bool} {a : Act} {w : World} (h : Amid ops a0 V S listed a w) : ∀ (j : Nat) (oj : Oper), ops[j]? = some oj → listed.getD j false = true → ∀ e ∈ oj.after, Region.binds .any e = true → listed.getD e.on false = true := h.2.2.2.2.1

theorem Amid.same {ops : Array Oper} {a0 : Act} {V : Nat → Value → World → Prop} {S : World → Prop} {listed : Array Bool} {a : Act} {w : World} (h : Amid ops a0 V S listed a w) : ∀ d : Nat, (∀ (j : Nat) (oj : Oper), ops[j]? = some oj → oj.dst = some d → listed.getD j false = false) → a.tmps[d]? = a0.tmps[d]? := h.2.2.2.2.2.1

theorem Amid.val {ops : Array Oper} {a0 : Act} {V : Nat → Value → World → Prop} {S : World → Prop} {listed : Array Bool} {a : Act} {w : World} (h : Amid ops a0 V S listed a w) : ∀ (j : Nat) (oj : Oper) (d : Nat), ops[j]? = some oj → oj.dst = some d → listed.getD j false = true → ∃ v, a.tmps[d]? = some v ∧ V j v w := h.2.2.2.2.2.2

theorem getD_set (listed : Array Bool) (i j : Nat) (hi : i < listed.size) (b : Bool) : (listed.setIfInBounds i true).getD j b = if j = i then true else listed.getD j b := by
  simp only [Array.getD_eq_getD_getElem?, Array.getElem?_setIfInBounds]
  by_cases h : i = j
  · subst h; simp [hi]
  · rw [if_neg h, if_neg (fun e => h e.symm)]

/-- How many are still to come. -/
def left (listed : Array Bool) : Nat := listed.toList.countP (fun b => !b)

theorem left_set (listed : Array Bool) (i : Nat) (hi : i < listed.size) (h : listed.getD i true = false) : left (listed.setIfInBounds i true) + 1 = left listed := by
  unfold left
  rw [Array.toList_setIfInBounds]
  have hl : i < listed.toList.length := by simpa using hi
  have hv : listed.toList[i] = false := by
    simp only [Array.getD_eq_getD_getElem?, Array.getElem?_eq_getElem hi, Option.getD_some] at h
    simpa using h
  have hpos : 0 < listed.toList.countP (fun b => !b) := by
    rw [List.countP_pos_iff]
    exact ⟨false, by rw [← hv]; exact List.getElem_mem hl, rfl⟩
  rw [List.countP_set hl, hv]
  have e1 : (!false) = true := rfl
  have e2 : (!true) = false := rfl
  simp only [e1, e2, if_true, Bool.false_eq_true, if_false, Nat.add_zero]
  omega

theorem getD_both {listed : Array Bool} {i : Nat} (hi : i < listed.size) (b c : Bool) : listed.getD i b = listed.getD i c := by
  simp [Array.getD_eq_getD_getElem?, hi]

/-- THE RULE. -/
theorem any_inv {P : Program} {ops : Array Oper} {Q : Exit → Act → World → Prop} {a0 : Act} (V : Nat → Value → World → Prop) (S : World → Prop) (R : World → World → Prop)
    (hfit : fit ops a0.tmps.size = true)
    (hmono : ∀ i v w w', R w w' → V i v w → V i v w')
    (hstep : ∀ i o, ops[i]? = some o → ∀ a w, S w → a.defers = a0.defers → a.tmps.size = a0.tmps.size →
      (∀ j oj d, ops[j]? = some oj → oj.dst = some d → waits o j = true → ∃ v, a.tmps[d]? = some v ∧ V j v w) →
      (∀ d, free ops i d = true → a.tmps[d]? = a0.tmps[d]?) →
      wpOp P ops Q i (fun a' w' => ∃ v, a' = a.put o.dst v ∧ V i v w' ∧ S w' ∧ R w w') a w)
    (hdone : ∀ a w, S w → a.defers = a0.defers → a.tmps.size = a0.tmps.size →
      (∀ d, (∀ (j : Nat) (oj : Oper), ops[j]? = some oj → oj.dst ≠ some d) → a.tmps[d]? = a0.tmps[d]?) →
      (∀ j oj d, ops[j]? = some oj → oj.dst = some d → ∃ v, a.tmps[d]? = some v ∧ V j v w) → Q .normal a w) :
    ∀ (fuel : Nat) (listed : Array Bool) (a : Act) (w : World), left listed = fuel → Amid ops a0 V S listed a w → wpAny P .any ops Q fuel listed a w := by
  have hend : ∀ (listed : Array Bool) (a : Act) (w : World), Amid ops a0 V S listed a w → Region.ready .any ops listed = [] → Q .normal a w := by
    intro listed a w hI hr
    have hall : ∀ i, i < ops.size → listed.getD i false = true := by
      intro i
      induction i using Nat.strongRecOn with
      | _ i ih =>
        intro hi
        have hi' : i < listed.size := by rw [hI.lsize]; exact hi
        cases hc : listed.getD i false with
        | true => rfl
        | false =>
          exfalso
          have hm : i ∈ Region.ready .any ops listed := by
            rw [mem_ready]
            refine ⟨by rw [getD_both hi' true false]; exact hc, _, Array.getElem?_eq_getElem hi, fun e he _ => ?_⟩
            have hlt := (fit_spec hfit (Array.getElem?_eq_getElem hi)).1 e he
            exact ih e.on hlt (by omega)
          rw [hr] at hm
          cases hm
    refine hdone a w hI.held hI.defers hI.size (fun d hd => hI.same d fun j oj hj hdj => absurd hdj (hd j oj hj)) fun j oj d hj hd => hI.val j oj d hj hd (hall j (Array.getElem?_eq_some_iff.1 hj).1)
  have hone : ∀ (listed : Array Bool) (a : Act) (w : World) (i : Nat), Amid ops a0 V S listed a w → i ∈ Region.ready .any ops listed → wpOp P ops Q i (Amid ops a0 V S (listed.setIfInBounds i true)) a w := by
    intro listed a w i hI hi
    obtain ⟨h0, o, ho, hall⟩ := mem_ready.1 hi
    have hlt : i < ops.size := (Array.getElem?_eq_some_iff.1 ho).1
    have hlt' : i < listed.size := by rw [hI.lsize]; exact hlt
    have h0' : listed.getD i false = false := by rw [getD_both hlt' false true]; exact h0
    obtain ⟨hearly, hdst⟩ := fit_spec hfit ho
    refine wpOp_mono ?_ (hstep i o ho a w hI.held hI.defers hI.size ?_ ?_)
    · rintro a' w' ⟨v, rfl, hV, hS, hR⟩
      refine ⟨hS, ?_, ?_, by rw [Array.size_setIfInBounds]; exact hI.lsize, ?_, ?_, ?_⟩
      · cases hd : o.dst <;> exact hI.defers
      · cases hd : o.dst with
        | none => exact hI.size
        | some d => simpa [Act.put] using hI.size
      · intro j oj hj hl e he hb
        rw [getD_set _ _ _ hlt']
        by_cases hji : j = i
        · subst hji
          rw [ho] at hj
          cases hj
          have := hall e he hb
          split
          · rfl
          · exact this
        · rw [getD_set _ _ _ hlt', if_neg hji] at hl
          split
          · rfl
          · exact hI.closed j oj hj hl e he hb
      · intro d hd
        have hne : o.dst ≠ some d := by
          intro e
          have := hd i o ho e
          rw [getD_set _ _ _ hlt', if_pos rfl] at this
          cases this
        have hs := hI.same d fun j oj hj hdj => by
          have h := hd j oj hj hdj
          rw [getD_set _ _ _ hlt'] at h
          split at h
          · cases h
          · exact h
        cases hdd : o.dst with
        | none => exact hs
        | some d' =>
          have : d' ≠ d := fun e => hne (by rw [hdd, e])
          simp only [Act.put]
          rw [Array.getElem?_setIfInBounds_ne this]
          exact hs
      · intro j oj d hj hd hl
        by_cases hji : j = i
        · subst hji
          rw [ho] at hj
          cases hj
          refine ⟨v, ?_, hV⟩
          rw [hd]
          have := (hdst d hd).1
          simp only [Act.put]
          rw [Array.getElem?_setIfInBounds_self_of_lt (by rw [hI.size]; exact this)]
        · rw [getD_set _ _ _ hlt', if_neg hji] at hl
          obtain ⟨u, hu, hVu⟩ := hI.val j oj d hj hd hl
          refine ⟨u, ?_, hmono j u _ _ hR hVu⟩
          cases hdd : o.dst with
          | none => exact hu
          | some d' =>
            have : d' ≠ d := fun e => hji ((hdst d' hdd).2 j oj hj (by rw [hd, e]))
            simp only [Act.put]
            rw [Array.getElem?_setIfInBounds_ne this]
            exact hu
    · intro j oj d hj hd hwt
      obtain ⟨e, he, hb, rfl⟩ := waits_spec.1 hwt
      exact hI.val _ oj d hj hd (hall e he hb)
    · intro d hd
      refine hI.same d fun j oj hj hdj => ?_
      cases hc : listed.getD j false with
      | false => rfl
      | true =>
        exfalso
        rcases free_spec hd hj hdj with hji | ⟨e, he, hb, hei⟩
        · subst hji
          rw [h0'] at hc
          cases hc
        · have := hI.closed j oj hj hc e he hb
          rw [hei, h0'] at this
          cases this
  intro fuel
  induction fuel with
  | zero =>
    intro listed a w hl hI
    have hr : Region.ready .any ops listed = [] := by
      cases hr : Region.ready .any ops listed with
      | nil => rfl
      | cons i r =>
        exfalso
        have hi : i ∈ Region.ready .any ops listed := by rw [hr]; exact List.mem_cons_self
        obtain ⟨h0, o, ho, _⟩ := mem_ready.1 hi
        have hlt : i < listed.size := by rw [hI.lsize]; exact (Array.getElem?_eq_some_iff.1 ho).1
        have := left_set listed i hlt h0
        omega
    exact ⟨hr, hend listed a w hI hr⟩
  | succ fuel ih =>
    intro listed a w hl hI
    refine ⟨hend listed a w hI, fun i hi => ?_⟩
    obtain ⟨h0, o, ho, _⟩ := mem_ready.1 hi
    have hlt : i < listed.size := by rw [hI.lsize]; exact (Array.getElem?_eq_some_iff.1 ho).1
    have hls := left_set listed i hlt h0
    exact wpOp_mono (fun a' w' h' => ih _ a' w' (by omega) h') (hone listed a w i hI hi)

/-- THE RULE, of a region. -/
theorem region_inv {P : Program} {ops : Array Oper} {Q : Exit → Act → World → Prop} {id : Nat} {a0 : Act} {w0 : World} (hm : P.follows .mixedOrders = true) (V : Nat → Value → World → Prop) (S : World → Prop) (R : World → World → Prop)
    (hfit : fit ops a0.tmps.size = true)
    (hmono : ∀ i v w w', R w w' → V i v w → V i v w')
    (hS : S w0.drew)
    (hstep : ∀ i o, ops[i]? = some o → ∀ a w, S w → a.defers = a0.defers → a.tmps.size = a0.tmps.size →
      (∀ j oj d, ops[j]? = some oj → oj.dst = some d → waits o j = true → ∃ v, a.tmps[d]? = some v ∧ V j v w) →
      (∀ d, free ops i d = true → a.tmps[d]? = a0.tmps[d]?) →
      wpOp P ops Q i (fun a' w' => ∃ v, a' = a.put o.dst v ∧ V i v w' ∧ S w' ∧ R w w') a w)
    (hdone : ∀ a w, S w → a.defers = a0.defers → a.tmps.size = a0.tmps.size →
      (∀ d, (∀ (j : Nat) (oj : Oper), ops[j]? = some oj → oj.dst ≠ some d) → a.tmps[d]? = a0.tmps[d]?) →
      (∀ j oj d, ops[j]? = some oj → oj.dst = some d → ∃ v, a.tmps[d]? = some v ∧ V j v w) → Q .normal a w) :
    (Code.region id ops true).wp P Q a0 w0 := by
  refine wp_region_any hm (any_inv V S R hfit hmono hstep hdone ops.size (Array.replicate ops.size false) a0 _ ?_ ?_)
  · unfold left
    rw [Array.toList_replicate, List.countP_replicate]
    simp
  · have hf : ∀ j, (Array.replicate ops.size false).getD j false = false := by
      intro j
      simp only [Array.getD_eq_getD_getElem?, Array.getElem?_replicate]
      split <;> rfl
    refine ⟨hS, rfl, rfl, by simp, ?_, fun d _ => rfl, ?_⟩
    · intro j oj _ hl
      rw [hf] at hl
      cases hl
    · intro j oj d _ _ hl
      rw [hf] at hl
      cases hl

/-- An operation behind '&&' whose guard is true. -/
theorem wanted_by {ops : Array Oper} {o : Oper} {tmps : Array Value} (g : Nat) (b : Bool) (d : Nat) (h : o.guard = some (g, b)) (hd : (ops[g]?).bind (·.dst) = some d) (hv : tmps[d]? = some (.bool b)) :
    Region.wanted o (yielded ops tmps) = true := by
  unfold Region.wanted yielded
  rw [h]
  simp [hd, hv]

theorem wanted_free {ops : Array Oper} {o : Oper} {tmps : Array Value} (h : o.guard = none) : Region.wanted o (yielded ops tmps) = true := by
  unfold Region.wanted
  rw [h]

theorem eval_tmp {a : Act} {d : Nat} {v : Value} (h : a.tmps[d]? = some v) : a.eval (.tmp d) = v := by
  simp [Act.eval, h]

/-- One operation that runs to its end. -/
theorem op_value {P : Program} {ops : Array Oper} {Q : Exit → Act → World → Prop} {i : Nat} {o : Oper} {a : Act} {w w' : World} {v : Value} {V : Nat → Value → World → Prop} {S : World → Prop} {R : World → World → Prop} (hi : ops[i]? = some o) (hw : Region.wanted o (yielded ops a.tmps) = true)
    (hr : (execOp a.eval o).run P w = .ok (.value v) w') (hV : V i v w') (hS : S w') (hR : R w w') :
    wpOp P ops Q i (fun a' w' => ∃ v, a' = a.put o.dst v ∧ V i v w' ∧ S w' ∧ R w w') a w := by
  unfold wpOp
  simp only [hi, hw, if_true]
  refine .inl ?_
  unfold Oper.wp
  rw [hr]
  exact ⟨v, rfl, hV, hS, hR⟩

/-- One call, by its contract. -/
theorem op_call {P : Program} {ops : Array Oper} {Q : Exit → Act → World → Prop} {i : Nat} {o : Oper} {a : Act} {w w' : World} {f : FuncId} {args : Array Value} {V : Nat → Value → World → Prop} {S : World → Prop} {R : World → World → Prop} (hi : ops[i]? = some o) (hw : Region.wanted o (yielded ops a.tmps) = true)
    (hr : (execOp a.eval o).run P w = .ok (.enter f args) w')
    (hc : Calls P f args w' fun e w'' => ∃ v, e = .returned v ∧ V i v w'' ∧ S w'' ∧ R w w'') :
    wpOp P ops Q i (fun a' w' => ∃ v, a' = a.put o.dst v ∧ V i v w' ∧ S w' ∧ R w w') a w := by
  unfold wpOp
  simp only [hi, hw, if_true]
  refine .inl ?_
  unfold Oper.wp
  rw [hr]
  refine Calls.mono hc ?_
  rintro e w'' ⟨v, rfl, hV, hS, hR⟩
  exact ⟨v, rfl, hV, hS, hR⟩

/-! The frame behind the region, written out -/

theorem unwritten {ops : Array Oper} {d : Nat} (h : (ops.toList.all fun o => o.dst != some d) = true) : ∀ (j : Nat) (oj : Oper), ops[j]? = some oj → oj.dst ≠ some d := by
  intro j oj hj
  rw [List.all_eq_true] at h
  have := h oj (Array.mem_toList_iff.2 (Array.mem_of_getElem? hj))
  simpa using this

def Fits (t : Array Value) : Nat → List Value → Prop
  | _, [] => True
  | i, v :: vs => t[i]? = some v ∧ Fits t (i + 1) vs

theorem Fits.get {t : Array Value} {l : List Value} {k : Nat} (h : Fits t k l) (i : Nat) (v : Value) (hi : l[i]? = some v) : t[k + i]? = some v := by
  induction l generalizing k i with
  | nil => simp at hi
  | cons x xs ih =>
    cases i with
    | zero => simp at hi; subst hi; exact h.1
    | succ i =>
      have := ih h.2 i (by simpa using hi)
      rw [show k + (i + 1) = k + 1 + i by omega]
      exact this

theorem frame_is {a : Act} {l : List Value} {ds : List Deferred} (h : Fits a.tmps 0 l) (hd : a.defers = ds) (hs : a.tmps.size = l.length) : a = ⟨l.toArray, ds⟩ := by
  obtain ⟨t, d⟩ := a
  subst hd
  congr 1
  apply Array.ext_getElem?
  intro i
  by_cases hi : i < l.length
  · have := h.get i l[i] (List.getElem?_eq_getElem hi)
    rw [Nat.zero_add] at this
    rw [this, List.getElem?_toArray, List.getElem?_eq_getElem hi]
  · rw [Array.getElem?_eq_none (by simp only at hs; omega), List.getElem?_toArray, List.getElem?_eq_none (by omega)]

end Go.Proofs.YtaecfbfcjaailaaGreat.Anyorder

namespace Go.Proofs.YtaecfbfcjaailaaGreat
open Go.RowKit Plain Anyorder
set_option linter.unusedVariables false

theorem countN_how (ls : List (List Bool)) (k : Nat) : countN ls k = howN (allB ls) k := by
  induction k with
  | zero => rfl
  | succ k ih => rw [countN_succ, howN, ih]

theorem count_incl (f g h u : Nat → Bool) (k : Nat) (hh : ∀ i, h i = (f i && g i)) (hu : ∀ i, i < k → u i = (!f i && !g i)) : howN f k + howN g k + howN u k = howN h k + k := by
  induction k with
  | zero => rfl
  | succ k ih =>
    have := ih fun i hi => hu i (by omega)
    rw [howN, howN, howN, howN, hh k, hu k (by omega)]
    cases f k <;> cases g k <;> simp [bn] <;> omega

/-- How many are free, by how many are used. -/
theorem free_used {b m : List Bool} (h : b.length = m.length) : countB [b] + countB [m] + howN (freeB b m) m.length = countB [b, m] + m.length := by
  have e1 : countB [b] = howN (atB b) m.length := by
    unfold countB
    rw [countN_how, show longest [b] = m.length by simp [longest]; omega]
    apply howN_congr
    intro i _
    rw [Bool.eq_iff_iff]
    unfold allB
    rw [decide_eq_true_eq, howB_all]; simp
  have e2 : countB [m] = howN (atB m) m.length := by
    unfold countB
    rw [countN_how, show longest [m] = m.length by simp [longest]]
    apply howN_congr
    intro i _
    rw [Bool.eq_iff_iff]
    unfold allB
    rw [decide_eq_true_eq, howB_all]; simp
  have e3 : countB [b, m] = howN (fun i => atB b i && atB m i) m.length := by
    unfold countB
    rw [countN_how, show longest [b, m] = m.length by simp [longest]; omega]
    apply howN_congr
    intro i _
    rw [Bool.eq_iff_iff]
    unfold allB
    rw [decide_eq_true_eq, howB_all]; simp
  rw [e1, e2, e3]
  refine count_incl _ _ _ _ _ (fun _ => rfl) fun i hi => ?_
  unfold freeB
  rw [decide_eq_true hi, Bool.true_and, Bool.and_comm]

theorem first_ten {b m : List Bool} (h : rightA b m = true) : firstB 10 [b, m] = takeP b m := by
  obtain ⟨hl, _⟩ := (rightA_iff b m).1 h
  have hL : longest [b, m] = m.length := by simp [longest]; omega
  rcases takeP_spec hl with ⟨e, hn⟩ | ⟨p, e, hp, hf, hlo⟩
  · rw [e]
    refine firstB_none fun j _ hj hh => ?_
    rw [hL] at hj
    have := hn j hj
    rw [(freeB_how hj).2 hh] at this
    cases this
  · rw [e]
    refine firstB_is (by have := free_ten h hf; omega) (by omega) ((freeB_how hp).1 hf) fun j _ hj hh => ?_
    have := hlo j hj
    rw [(freeB_how (by omega)).2 hh] at this
    cases this

theorem freeC_le (b m : List Bool) : freeC b m ≤ 2048 := by
  unfold freeC
  split
  · rename_i h
    have := howN_le (freeB b m) m.length
    have := ((rightA_iff b m).1 h).2.2.1
    omega
  · omega

/-- What the slots of Free's drawn region hold. -/
def freeV (a a' : Option Addr) (c c' n n' h : Nat) (b m : List Bool) (X Y Z : Nat) (i : Nat) (v : Value) (w : World) : Prop :=
  match i with
  | 0 => v = .pointer (some ⟨h, 0, none⟩)
  | 1 => v = .slice a n c
  | 2 => ∃ k, v = .slice (some ⟨k, 0, none⟩) 1 1 ∧ IsL w (some ⟨k, 0, none⟩) 1 [(a, c, b)]
  | 3 => v = .int .i64 X
  | 4 => v = .pointer (some ⟨h, 1, none⟩)
  | 5 => v = .slice a' n' c'
  | 6 => ∃ k, v = .slice (some ⟨k, 0, none⟩) 1 1 ∧ IsL w (some ⟨k, 0, none⟩) 1 [(a', c', m)]
  | 7 => v = .int .i64 Y
  | 8 => v = .int .i64 ((X : Int) + Y)
  | 9 => v = .pointer (some ⟨h, 0, none⟩)
  | 10 => v = .slice a n c
  | 11 => v = .pointer (some ⟨h, 1, none⟩)
  | 12 => v = .slice a' n' c'
  | 13 => ∃ k, v = .slice (some ⟨k, 0, none⟩) 2 2 ∧ IsL w (some ⟨k, 0, none⟩) 2 [(a, c, b), (a', c', m)]
  | 14 => v = .int .i64 Z
  | 15 => v = .int .i64 ((X : Int) + Y - Z)
  | 16 => v = .int .i64 ((X : Int) + Y - Z)
  | _ => True

end Go.Proofs.YtaecfbfcjaailaaGreat

namespace Go.Proofs.YtaecfbfcjaailaaGreat
open Go.RowKit Plain
set_option linter.unusedVariables false

set_option maxHeartbeats 1000000 in
/-- An alloc of a copy of one row and another row. -/
theorem making_any (a a' : Option Addr) (c c' n n' : Nat) (b : List Bool) (w : World) (hn : n = b.length) (hl : n ≤ 4096) (hB : IsB w a c b) :
    Calls Tryz.prog 99 #[.slice a n c, .slice a' n' c'] w fun e w' => ∃ a1 c1, e = .returned (.agg #[.slice a1 n c1, .slice a' n' c']) ∧ OwnT w.heap.size w' a1 c1 b ∧ Below w.heap.size w w' := by
  have hB0 : Below w.heap.size w (w.alloc (.cells #[.slice none 0 0, .slice none 0 0] 24)) := (Below.refl _ _).alloc (Nat.le_refl _) _
  have bx := box2_new w (.slice none 0 0) (.slice none 0 0) 24 rfl
  have cc := clone_any a c n b _ hn (hB.below hB0) hl
  clear hn hB
  go_enter Tryz.func99, Tryz.ntmps99
  go_wp2_with (go_at_call 51; refine cc.mono ?_; rintro e w1 ⟨a1, c1, rfl, ho, hb⟩; have HO : Hid (OwnT _ w1 a1 c1 b) := ho; replace hB0 := Below.tr hB0 hb; obtain ⟨⟨q0, q1⟩, f0, f1⟩ := bx.below hb; clear ho hb cc bx)
  refine bodyPost_ret (v := .agg #[.slice a1 n c1, .slice a' n' c']) (by simp [results, Tryz.results99, go_sem, q0, q1]) rfl ⟨a1, c1, rfl, ?_, below_set2 hB0 (Nat.le_refl _)⟩
  exact ((HO.out.store (by simp) _ _).store (by simp) _ _).mono (by simp)

/-- The rows of a new one, of a number that may not be, too; the error. -/
def freshA (k : Int) : List Bool := if mayB k = true then freshL k.toNat else []
def freshE (k : Int) : Int := if mayB k = true then 0 else 1

/-- The first so many of the reserved ones used. -/
def usedL (k j : Nat) : List Bool := (List.range k).map fun i => decide (i < j)

theorem usedL_length (k j : Nat) : (usedL k j).length = k := by simp [usedL]
theorem usedL_get {k i : Nat} (j : Nat) (h : i < k) : (usedL k j)[i]? = some (decide (i < j)) := by
  unfold usedL; rw [List.getElem?_map, List.getElem?_range h]; rfl
theorem usedL_zero (k : Nat) : usedL k 0 = List.replicate k false := by
  apply List.ext_getElem?
  intro i
  by_cases h : i < k
  · rw [usedL_get 0 h, List.getElem?_replicate, if_pos h]; simp
  · rw [List.getElem?_eq_none (by rw [usedL_length]; omega), List.getElem?_eq_none (by simp; omega)]
theorem usedL_set {k j : Nat} (h : j < k) : (usedL k j).set j true = usedL k (j + 1) := by
  apply List.ext_getElem?
  intro i
  by_cases hi : i < k
  · rw [usedL_get _ hi]
    by_cases e : j = i
    · subst e
      rw [List.getElem?_set_self (by rw [usedL_length]; exact h)]
      simp
    · rw [List.getElem?_set_ne e, usedL_get _ hi, show decide (i < j + 1) = decide (i < j) from by rw [decide_eq_decide]; omega]
  · rw [List.getElem?_eq_none (by rw [List.length_set, usedL_length]; omega), List.getElem?_eq_none (by rw [usedL_length]; omega)]
theorem usedL_ten (k : Nat) : usedL k 10 = freshL k := rfl

theorem mayB_no {k : Int} (h : mayB k = false) : freshA k = [] ∧ freshE k = 1 := by unfold freshA freshE; rw [h]; exact ⟨rfl, rfl⟩
theorem mayB_yes {k : Nat} (h : mayB k = true) : freshA k = freshL k ∧ freshE k = 0 := by unfold freshA freshE; rw [h]; exact ⟨rfl, rfl⟩
theorem mayB_iff {k : Int} : mayB k = true ↔ 24 ≤ k ∧ k ≤ 2048 := by unfold mayB; simp

theorem free_new24 : freeC (freshL 24) (freshL 24) = 14 := by decide +kernel
theorem right_new24 : rightA (freshL 24) (freshL 24) = true := freshL_right (by omega) (by omega)

end Go.Proofs.YtaecfbfcjaailaaGreat

namespace Go.Proofs.YtaecfbfcjaailaaGreat
open Go.RowKit Plain
set_option linter.unusedVariables false

/-- A box of an alloc that came in and one of what goes out. -/
theorem two_box2 {w W : World} {v0 v1 u0 u1 : Value} {t : TypeId} (hW : W = (w.alloc (.cells #[v0, v1] t)).alloc (.cells #[u0, u1] t)) :
    Below w.heap.size w W ∧ W.heap.size = w.heap.size + 2 ∧ Box2 W w.heap.size v0 v1 ∧ Box2 W (w.heap.size + 1) u0 u1 := by
  subst hW
  refine ⟨((Below.refl _ _).alloc (Nat.le_refl _) _).alloc (by simp) _, by simp, (box2_new _ _ _ _ rfl).alloc _, box2_new _ _ _ _ (by simp)⟩

theorem take_wrong {b m : List Bool} (h : rightA b m = false) : takeE b m = 1 := by unfold takeE; rw [h]; rfl
theorem take_none {b m : List Bool} (h : rightA b m = true) (hp : takeP b m = -1) : takeE b m = 60 := by unfold takeE; rw [if_pos h, if_pos hp]
theorem take_some {b m : List Bool} (h : rightA b m = true) {p : Nat} (hp : takeP b m = p) : takeE b m = 0 := by unfold takeE; rw [if_pos h, if_neg (by omega)]
theorem take_err {b m : List Bool} (h : takeE b m ≠ 0) : takeK b m = 0 ∧ takeB b m = [] ∧ takeNow b m = [] := by unfold takeK takeB takeNow; rw [if_neg h, if_neg h, if_neg h]; exact ⟨rfl, rfl, rfl⟩
theorem took_ok {b m : List Bool} (h : takeE b m = 0) {p : Nat} (hp : takeP b m = p) : takeK b m = p ∧ takeB b m = b ∧ takeNow b m = m.set p true := by unfold takeK takeB takeNow; rw [if_pos h, if_pos h, if_pos h, hp]; exact ⟨rfl, rfl, rfl⟩

set_option maxRecDepth 20000 in
set_option maxHeartbeats 2000000 in
/-- TAKE, of all allocs. -/
theorem allocTake_any (a a' : Option Addr) (c c' n n' : Nat) (b m : List Bool) (w : World) (hn : n = b.length) (hn' : n' = m.length) (hB : IsB w a c b) (hB' : IsB w a' c' m) :
    Calls Tryz.prog 83 #[.agg #[.slice a n c, .slice a' n' c']] w fun e w' => ∃ a1 c1 a2 c2, e = .returned (.tuple #[.agg #[.slice a1 (takeB b m).length c1, .slice a2 (takeNow b m).length c2], .int .i64 (takeK b m), .int .i64 (takeE b m)]) ∧ OwnT w.heap.size w' a1 c1 (takeB b m) ∧ OwnT w.heap.size w' a2 c2 (takeNow b m) ∧ Below w.heap.size w w' := by
  obtain ⟨W, hW⟩ : ∃ W, W = (w.alloc (.cells #[.slice a n c, .slice a' n' c'] 24)).alloc (.cells #[.slice none 0 0, .slice none 0 0] 24) := ⟨_, rfl⟩
  obtain ⟨hB0, hWs, bi, bo⟩ := two_box2 hW
  have HB : Below W.heap.size W W := Below.refl _ _
  have cr := allocRight_any a a' c c' n n' b m W hn hn' (hB.below hB0) (hB'.below hB0)
  have fin : ∀ k : Int, takeE b m = k → k ≠ 0 → ∀ w1, Below w.heap.size w w1 → ∃ a1 c1 a2 c2, Ending.returned (.tuple #[.agg #[.slice none 0 0, .slice none 0 0], .int .i64 0, .int .i64 k]) = .returned (.tuple #[.agg #[.slice a1 (takeB b m).length c1, .slice a2 (takeNow b m).length c2], .int .i64 (takeK b m), .int .i64 (takeE b m)]) ∧ OwnT w.heap.size w1 a1 c1 (takeB b m) ∧ OwnT w.heap.size w1 a2 c2 (takeNow b m) ∧ Below w.heap.size w w1 := by
    rintro k rfl hk w1 hb
    obtain ⟨e1, e2, e3⟩ := take_err hk
    rw [e1, e2, e3]
    exact ⟨none, 0, none, 0, rfl, OwnT_nil _ _, OwnT_nil _ _, hb⟩
  cases hr : rightA b m with
  | false =>
    have hE : Hid (takeE b m = 1) := take_wrong hr
    rw [hr, hW] at cr
    clear hn hn' hB hB'
    go_enter Tryz.func83, Tryz.ntmps83
    go_wp2_with (go_at_call 43; refine cr.mono ?_; rintro e w1 ⟨rfl, hb⟩; rw [← hW] at hb; replace HB := Below.tr HB hb; obtain ⟨⟨q0, q1⟩, f0, f1⟩ := bo.below hb; clear hb cr)
    refine bodyPost_ret (v := .tuple #[.agg #[.slice none 0 0, .slice none 0 0], .int .i64 0, .int .i64 1]) (by simp [results, Tryz.results83, go_sem, q0, q1]) rfl (fin 1 hE.out (by decide) _ ?_)
    exact below_set2 (Below.tr hB0 HB) (Nat.le_succ _)
  | true =>
    obtain ⟨hl, h24, h48, -⟩ := (rightA_iff b m).1 hr
    have hnb : n ≤ 4096 := by omega
    have hnb' : n' ≤ 4096 := by omega
    obtain ⟨P, hP⟩ : ∃ P, P = takeP b m := ⟨_, rfl⟩
    have cf : ∀ V, Below W.heap.size W V → Calls Tryz.prog 97 #[.int .i64 10, .slice (some ⟨V.heap.size, 0, none⟩) 2 2] (V.alloc (.cells #[.slice a n c, .slice a' n' c'] 22)) fun e w' => e = .returned (.int .i64 P) ∧ Below V.heap.size V w' := by
      intro V hV
      have := first_two V 10 a a' c c' n n' b m hn hn' (hB.below (Below.tr hB0 hV)) (hB'.below (Below.tr hB0 hV)) hnb hnb'
      rw [first_ten hr, ← hP] at this
      exact this
    rw [hr, hW] at cr
    rcases takeP_spec hl with ⟨e, -⟩ | ⟨p, e, hp, hf, -⟩
    · have hE : Hid (takeE b m = 60) := take_none hr e
      obtain rfl : P = -1 := by rw [hP, e]
      clear hn hn' hB hB' hP
      go_enter Tryz.func83, Tryz.ntmps83
      go_wp2_with (first
        | (go_at_call 43; refine cr.mono ?_; rintro e w1 ⟨rfl, hb⟩; rw [← hW] at hb; replace HB := Below.tr HB hb; obtain ⟨⟨q0, q1⟩, -, -⟩ := bi.below hb; clear hb cr)
        | (go_at_call 97; refine (cf _ HB).mono ?_; rintro e w2 ⟨rfl, hb⟩; replace HB := Below.tr HB hb; obtain ⟨⟨q0, q1⟩, f0, f1⟩ := bo.below HB; clear hb cf))
      refine bodyPost_ret (v := .tuple #[.agg #[.slice none 0 0, .slice none 0 0], .int .i64 0, .int .i64 60]) (by simp [results, Tryz.results83, go_sem, q0, q1]) rfl (fin 60 hE.out (by decide) _ ?_)
      exact below_set2 (Below.tr hB0 HB) (Nat.le_succ _)
    · have hE : takeE b m = 0 := take_some hr e
      obtain ⟨g1, g2, g3⟩ := took_ok hE e
      have G : Hid (takeE b m = 0 ∧ takeK b m = p ∧ takeB b m = b ∧ takeNow b m = m.set p true ∧ (m.set p true).length = n' ∧ b.length = n) := ⟨hE, g1, g2, g3, by rw [List.length_set, hn'], hn.symm⟩
      obtain rfl : P = p := by rw [hP, e]
      have hpn : p < n' := by omega
      have ep : ((p : Int) == -1) = false := by rw [beq_eq_false_iff_ne]; omega
      have cw : ∀ V, Below W.heap.size W V → Calls Tryz.prog 98 #[.slice a' n' c', .bool true, .slice (some ⟨V.heap.size, 0, none⟩) 1 1] (V.alloc (.cells #[.int .i64 p] 3)) fun e w' => ∃ a2 c2, e = .returned (.tuple #[.slice a2 n' c2, .int .i64 0]) ∧ OwnT V.heap.size w' a2 c2 (m.set p true) ∧ Below V.heap.size V w' :=
        fun V hV => with_own_one V a' c' n' m true p hn' (hB'.below (Below.tr hB0 hV)) hnb' hpn
      have cm : ∀ V a2 c2, Below W.heap.size W V → Calls Tryz.prog 99 #[.slice a n c, .slice a2 n' c2] V fun e w' => ∃ a1 c1, e = .returned (.agg #[.slice a1 n c1, .slice a2 n' c2]) ∧ OwnT V.heap.size w' a1 c1 b ∧ Below V.heap.size V w' :=
        fun V a2 c2 hV => making_any a a2 c c2 n n' b V hn hnb (hB.below (Below.tr hB0 hV))
      clear hn hn' hB hB' hP g1 g2 g3 hE e
      go_enter Tryz.func83, Tryz.ntmps83
      go_wp2_with (first
        | (go_at_call 43; refine cr.mono ?_; rintro e w1 ⟨rfl, hb⟩; rw [← hW] at hb; replace HB := Below.tr HB hb; obtain ⟨⟨q0, q1⟩, -, -⟩ := bi.below hb; clear hb cr)
        | (go_at_call 97; refine (cf _ HB).mono ?_; rintro e w2 ⟨rfl, hb⟩; replace HB := Below.tr HB hb; obtain ⟨⟨r0, r1⟩, -, -⟩ := bi.below HB; clear hb cf)
        | (go_at_call 98; refine (cw _ HB).mono ?_; rintro e w3 ⟨a2, c2, rfl, ho, hb⟩; have O2 : Hid (OwnT W.heap.size w3 a2 c2 (m.set p true)) := ho.mono HB.size; replace HB := Below.tr HB hb; obtain ⟨⟨s0, s1⟩, -, -⟩ := bi.below HB; clear hb cw ho)
        | (go_at_call 99; refine (cm _ a2 c2 HB).mono ?_; rintro e w4 ⟨a1, c1, rfl, ho, hb⟩; have O1 : Hid (OwnT W.heap.size w4 a1 c1 b) := ho.mono HB.size; replace HB := Below.tr HB hb; have O3 : Hid (OwnT W.heap.size w4 a2 c2 (m.set p true)) := O2.out.below hb; obtain ⟨⟨t0, t1⟩, f0, f1⟩ := bo.below HB; clear hb cm ho O2))
      obtain ⟨g0, g1, g2, g3, g4, g5⟩ := G.out
      refine bodyPost_ret (v := .tuple #[.agg #[.slice a1 n c1, .slice a2 n' c2], .int .i64 p, .int .i64 0]) (by simp [results, Tryz.results83, go_sem, t0, t1]) rfl ⟨a1, c1, a2, c2, by rw [g0, g1, g2, g3, g4, g5], ?_, ?_, below_set2 (Below.tr hB0 HB) (Nat.le_succ _)⟩
      · rw [g2]
        exact ((O1.out.store (by omega) _ _).store (by omega) _ _).mono (by omega)
      · rw [g3]
        exact ((O3.out.store (by omega) _ _).store (by omega) _ _).mono (by omega)

theorem give_err {b m : List Bool} {xs : List Int} (h : giveE b m xs ≠ 0) : giveB b m xs = [] ∧ giveN b m xs = [] := by unfold giveB giveN; rw [if_neg h, if_neg h]; exact ⟨rfl, rfl⟩
theorem give_wrong {b m : List Bool} {xs : List Int} (h : rightA b m = false) : giveE b m xs = 1 := by unfold giveE; rw [h]; rfl
theorem give_none {b m : List Bool} {xs : List Int} (h : rightA b m = true) (hg : giveR m xs = none) : giveE b m xs = 30 := by unfold giveE; rw [if_pos h, hg]; rfl
theorem give_some {b m l : List Bool} {xs : List Int} (h : rightA b m = true) (hg : giveR m xs = some l) : giveE b m xs = 0 ∧ giveB b m xs = b ∧ giveN b m xs = l := by
  have hE : giveE b m xs = 0 := by unfold giveE; rw [if_pos h, hg]; rfl
  unfold giveB giveN
  rw [if_pos hE, if_pos hE, hg]
  exact ⟨hE, rfl, rfl⟩

theorem giveR_bad {m l : List Bool} {xs : List Int} {j : Nat} {x : Int} (h : giveR m (xs.take j) = some l) (hx : xs[j]? = some x) (hb : ¬ (10 ≤ x ∧ x < l.length ∧ atB l x.toNat = true)) : giveR m xs = none := by
  apply giveR_stop (j := j + 1)
  rw [giveR_take h hx, if_neg hb]

set_option maxRecDepth 20000 in
set_option maxHeartbeats 2000000 in
/-- GIVE, of all allocs and blocks. -/
theorem allocGive_any (a a' ap : Option Addr) (c c' cp n n' k : Nat) (b m : List Bool) (xs : List Int) (w : World) (hn : n = b.length) (hn' : n' = m.length) (hk : k = xs.length) (hB : IsB w a c b) (hB' : IsB w a' c' m) (hI : IsI w ap cp xs) :
    Calls Tryz.prog 104 #[.agg #[.slice a n c, .slice a' n' c'], .slice ap k cp] w fun e w' => ∃ a1 c1 a2 c2, e = .returned (.tuple #[.agg #[.slice a1 (giveB b m xs).length c1, .slice a2 (giveN b m xs).length c2], .int .i64 (giveE b m xs)]) ∧ OwnT w.heap.size w' a1 c1 (giveB b m xs) ∧ OwnT w.heap.size w' a2 c2 (giveN b m xs) ∧ Below w.heap.size w w' := by
  obtain ⟨W, hW⟩ : ∃ W, W = (w.alloc (.cells #[.slice a n c, .slice a' n' c'] 24)).alloc (.cells #[.slice none 0 0, .slice none 0 0] 24) := ⟨_, rfl⟩
  obtain ⟨hB0, hWs, bi, bo⟩ := two_box2 hW
  have HB : Below W.heap.size W W := Below.refl _ _
  have hkb : k ≤ 9223372036854775807 := by rw [hk]; exact Nat.le_trans hI.1 hI.2.1
  have cr := allocRight_any a a' c c' n n' b m W hn hn' (hB.below hB0) (hB'.below hB0)
  have fin : ∀ k : Int, giveE b m xs = k → k ≠ 0 → ∀ w1, Below w.heap.size w w1 → ∃ a1 c1 a2 c2, Ending.returned (.tuple #[.agg #[.slice none 0 0, .slice none 0 0], .int .i64 k]) = .returned (.tuple #[.agg #[.slice a1 (giveB b m xs).length c1, .slice a2 (giveN b m xs).length c2], .int .i64 (giveE b m xs)]) ∧ OwnT w.heap.size w1 a1 c1 (giveB b m xs) ∧ OwnT w.heap.size w1 a2 c2 (giveN b m xs) ∧ Below w.heap.size w w1 := by
    rintro k rfl hk w1 hb
    obtain ⟨e2, e3⟩ := give_err hk
    rw [e2, e3]
    exact ⟨none, 0, none, 0, rfl, OwnT_nil _ _, OwnT_nil _ _, hb⟩
  cases hr : rightA b m with
  | false =>
    have hE : Hid (giveE b m xs = 1) := give_wrong hr
    rw [hr, hW] at cr
    clear hn hn' hB hB' hk hI
    go_enter Tryz.func104, Tryz.ntmps104
    go_wp2_with (go_at_call 43; refine cr.mono ?_; rintro e w1 ⟨rfl, hb⟩; rw [← hW] at hb; replace HB := Below.tr HB hb; obtain ⟨⟨q0, q1⟩, f0, f1⟩ := bo.below hb; clear hb cr)
    refine bodyPost_ret (v := .tuple #[.agg #[.slice none 0 0, .slice none 0 0], .int .i64 1]) (by simp [results, Tryz.results104, go_sem, q0, q1]) rfl (fin 1 hE.out (by decide) _ ?_)
    exact below_set2 (Below.tr hB0 HB) (Nat.le_succ _)
  | true =>
    obtain ⟨hl, h24, h48, -⟩ := (rightA_iff b m).1 hr
    have hnb : n ≤ 4096 := by omega
    have hnb' : n' ≤ 4096 := by omega
    have cc : ∀ V, Below W.heap.size W V → Calls Tryz.prog 51 #[.slice a' n' c'] V fun e w' => ∃ a2 c2, e = .returned (.slice a2 n' c2) ∧ OwnT V.heap.size w' a2 c2 m ∧ Below V.heap.size V w' :=
      fun V hV => clone_any a' c' n' m V hn' (hB'.below (Below.tr hB0 hV)) hnb'
    have cm : ∀ V a2 c2, Below W.heap.size W V → Calls Tryz.prog 99 #[.slice a n c, .slice a2 n' c2] V fun e w' => ∃ a1 c1, e = .returned (.agg #[.slice a1 n c1, .slice a2 n' c2]) ∧ OwnT V.heap.size w' a1 c1 b ∧ Below V.heap.size V w' :=
      fun V a2 c2 hV => making_any a a2 c c2 n n' b V hn hnb (hB.below (Below.tr hB0 hV))
    have HI : Hid (IsI w ap cp xs) := hI
    have HK : Hid (k = xs.length) := hk
    have HN : Hid (n = b.length ∧ n' = m.length ∧ rightA b m = true) := ⟨hn, hn', hr⟩
    rw [hr, hW] at cr
    clear hn hn' hB hB' hk hI h24 h48 hl hr
    go_enter Tryz.func104, Tryz.ntmps104
    go_wp2_with (first
      | (go_at_call 43; refine cr.mono ?_; rintro e w1 ⟨rfl, hb⟩; rw [← hW] at hb; replace HB := Below.tr HB hb; obtain ⟨⟨q0, q1⟩, -, -⟩ := bi.below hb; clear hb cr)
      | (go_at_call 51; refine (cc _ HB).mono ?_; rintro e w2 ⟨a2, c2, rfl, ho, hb⟩; have O2 : Hid (OwnT W.heap.size w2 a2 c2 m) := ho.mono HB.size; replace HB := Below.tr HB hb; clear hb cc ho))
    go_loopw [18] (fun v wr => ∃ (j : Nat) (l : List Bool), j ≤ k ∧ v = .int .i64 j ∧ giveR m (xs.take j) = some l ∧ OwnT W.heap.size wr a2 c2 l ∧ Below W.heap.size W wr) (fun v _ => k - (intOf v).toNat)
    case atStart => exact ⟨0, m, by omega, rfl, rfl, O2.out, HB⟩
    case round =>
      obtain ⟨j, l, hj, rfl, hgl, hown, hbel⟩ := hrel
      have HO : Hid (OwnT W.heap.size wr a2 c2 l) := hown
      have HG : Hid (giveR m (xs.take j) = some l) := hgl
      have hll : l.length = n' := by rw [giveR_length hgl, HN.out.2.1]
      clear hown hgl
      by_cases hlt : j < k
      · have hlt' : (j : Int) < k := by omega
        obtain ⟨x, hx⟩ : ∃ p, Hid (xs[j]? = some p) := ⟨_, List.getElem?_eq_getElem (by rw [← HK.out]; exact hlt)⟩
        obtain ⟨bb, oo, rfl, hbl, hc0⟩ := HI.out.2.2 j x hx.out
        have hc := cell_below (Below.tr hB0 hbel) hc0
        obtain ⟨⟨r0, r1⟩, f0, f1⟩ := bo.below hbel
        by_cases hok : 10 ≤ x ∧ x < l.length ∧ atB l x.toNat = true
        · obtain ⟨q, rfl⟩ : ∃ q : Nat, x = q := ⟨x.toNat, by omega⟩
          have hq1 : ¬ (q : Int) < 10 := by omega
          have hq2 : ¬ (n' : Int) ≤ q := by omega
          have hqn : q < n' := by omega
          have hql : q < l.length := by omega
          have hat : l[q]? = some true := by
            have := hok.2.2
            rw [Int.toNat_natCast] at this
            rw [List.getElem?_eq_getElem hql]
            rw [atB_some (List.getElem?_eq_getElem hql)] at this
            rw [this]
          obtain ⟨g, rfl, hg, hrow⟩ := HO.out.some (by omega)
          obtain ⟨hcx, hfx⟩ := hrow.cell hat
          have hset : Hid (OwnT W.heap.size (wr.setCell ⟨g, q, none⟩ (.bool false)) (some ⟨g, 0, none⟩) c2 (l.set q false)) := .inr ⟨g, rfl, hg, hrow.set q false⟩
          have hnx : Hid (giveR m (xs.take (j + 1)) = some (l.set q false)) := by
            show _ = _
            rw [giveR_take HG.out hx.out, if_pos hok, Int.toNat_natCast]
          clear hrow hat hok hll
          go_wp2
          go_roundw
          case rel => exact ⟨j + 1, l.set q false, by omega, by go_num, hnx.out, hset.out, hbel.setCell (p := ⟨g, q, none⟩) hg _⟩
          case measure => simp [intOf]; omega
        · have hE : Hid (giveE b m xs = 30) := give_none HN.out.2.2 (giveR_bad HG.out hx.out hok)
          have hend : ∀ w1, w1 = (wr.setCell ⟨w.heap.size + 1, 0, none⟩ (.slice none 0 0)).setCell ⟨w.heap.size + 1, 1, none⟩ (.slice none 0 0) → Below w.heap.size w w1 := by
            rintro w1 rfl; exact below_set2 (Below.tr hB0 hbel) (Nat.le_succ _)
          by_cases h1 : x < 10
          · clear hok
            go_wp2
            refine bodyPost_ret (v := .tuple #[.agg #[.slice none 0 0, .slice none 0 0], .int .i64 30]) (by simp [results, Tryz.results104, go_sem, r0, r1]) rfl (fin 30 hE.out (by decide) _ (hend _ rfl))
          · by_cases h2 : (n' : Int) ≤ x
            · clear hok
              go_wp2
              refine bodyPost_ret (v := .tuple #[.agg #[.slice none 0 0, .slice none 0 0], .int .i64 30]) (by simp [results, Tryz.results104, go_sem, r0, r1]) rfl (fin 30 hE.out (by decide) _ (hend _ rfl))
            · obtain ⟨q, rfl⟩ : ∃ q : Nat, x = q := ⟨x.toNat, by omega⟩
              have hqn : (q : Int) < n' := by omega
              have hql : q < l.length := by omega
              have hat : l[q]? = some false := by
                rw [List.getElem?_eq_getElem hql]
                cases hv : l[q] with
                | false => rfl
                | true => exact absurd ⟨by omega, by omega, by rw [Int.toNat_natCast, atB_some (List.getElem?_eq_getElem hql)]; exact hv⟩ hok
              obtain ⟨g, rfl, hg, hrow⟩ := HO.out.some (by omega)
              obtain ⟨hcx, hfx⟩ := hrow.cell hat
              clear hrow hat hok hll
              go_wp2
              refine bodyPost_ret (v := .tuple #[.agg #[.slice none 0 0, .slice none 0 0], .int .i64 30]) (by simp [results, Tryz.results104, go_sem, r0, r1]) rfl (fin 30 hE.out (by decide) _ (hend _ rfl))
      · obtain rfl : j = k := by omega
        have hE : Hid (giveE b m xs = 0 ∧ giveB b m xs = b ∧ giveN b m xs = l) := give_some HN.out.2.2 (by have := HG.out; rw [HK.out, List.take_length] at this; exact this)
        obtain ⟨⟨q0, q1⟩, -, -⟩ := bi.below hbel
        go_wp2_with (go_at_call 99; refine (cm _ a2 c2 hbel).mono ?_; rintro e w4 ⟨a1, c1, rfl, ho, hb⟩; have O1 : Hid (OwnT W.heap.size w4 a1 c1 b) := ho.mono hbel.size; have HB4 := Below.tr hbel hb; have O3 : Hid (OwnT W.heap.size w4 a2 c2 l) := HO.out.below hb; obtain ⟨⟨t0, t1⟩, f0, f1⟩ := bo.below HB4; clear hb cm ho)
        obtain ⟨g0, g1, g2⟩ := hE.out
        refine bodyPost_ret (v := .tuple #[.agg #[.slice a1 n c1, .slice a2 n' c2], .int .i64 0]) (by simp [results, Tryz.results104, go_sem, t0, t1]) rfl ⟨a1, c1, a2, c2, by rw [g0, g1, g2, hll, ← HN.out.1], ?_, ?_, below_set2 (Below.tr hB0 HB4) (Nat.le_succ _)⟩
        · rw [g1]
          exact ((O1.out.store (by omega) _ _).store (by omega) _ _).mono (by omega)
        · rw [g2]
          exact ((O3.out.store (by omega) _ _).store (by omega) _ _).mono (by omega)

end Go.Proofs.YtaecfbfcjaailaaGreat

namespace Go.Proofs.YtaecfbfcjaailaaGreat
open Go.RowKit Plain
set_option linter.unusedVariables false

theorem right_size {b m : List Bool} (h : ¬ (24 ≤ m.length ∧ m.length ≤ 2048)) : rightA b m = false := by
  rw [Bool.eq_false_iff]
  intro hr
  obtain ⟨_, h1, h2, _⟩ := (rightA_iff b m).1 hr
  exact h ⟨h1, h2⟩

theorem right_place {b m : List Bool} {i : Nat} (hi : i < 10) (h : atB b i = false ∨ atB m i = false) : rightA b m = false := by
  rw [Bool.eq_false_iff]
  intro hr
  obtain ⟨_, _, _, h4⟩ := (rightA_iff b m).1 hr
  obtain ⟨h5, h6⟩ := h4 i hi
  rcases h with h | h
  · rw [h] at h5; cases h5
  · rw [h] at h6; cases h6

set_option maxHeartbeats 1000000 in
/-- The document's own RIGHT, of all allocs. -/
theorem allocRefRight_any (a a' : Option Addr) (c c' n n' : Nat) (b m : List Bool) (w : World) (hn : n = b.length) (hn' : n' = m.length) (hB : IsB w a c b) (hB' : IsB w a' c' m) :
    Calls Tryz.prog 25 #[.agg #[.slice a n c, .slice a' n' c']] w fun e w' => e = .returned (.bool (rightA b m)) ∧ Below w.heap.size w w' := by
  have hnb : n ≤ 9223372036854775807 := by rw [hn]; exact Nat.le_trans hB.1 hB.2.1
  have hnb' : n' ≤ 9223372036854775807 := by rw [hn']; exact Nat.le_trans hB'.1 hB'.2.1
  have hB0 : Below w.heap.size w (w.alloc (.cells #[.slice a n c, .slice a' n' c'] 24)) := (Below.refl _ _).alloc (Nat.le_refl _) _
  obtain ⟨⟨q0, q1⟩, -⟩ := box2_new w (.slice a n c) (.slice a' n' c') 24 rfl
  by_cases hl : n = n'
  · subst hl
    by_cases h24 : 24 ≤ n
    · by_cases h48 : n ≤ 2048
      · have h1 : ¬ (n : Int) < 24 := by omega
        have h2 : ¬ (2048 : Int) < n := by omega
        have HB : Hid (IsB _ a c b) := hB.below hB0
        have HB' : Hid (IsB _ a' c' m) := hB'.below hB0
        have HN : Hid (n = b.length ∧ n = m.length) := ⟨hn, hn'⟩
        obtain ⟨b1, o1, rfl, -⟩ := hB.some (by omega)
        obtain ⟨b2, o2, rfl, -⟩ := hB'.some (by omega)
        clear hn hn' hB hB'
        go_enter Tryz.func25, Tryz.ntmps25
        go_wp2
        generalize w.alloc (.cells #[.slice (some ⟨b1, o1, none⟩) n c, .slice (some ⟨b2, o2, none⟩) n c'] 24) = W at q0 q1 hB0 HB HB' ⊢
        go_loopw [3] (fun v wr => ∃ j : Nat, j ≤ 10 ∧ v = .int .i64 j ∧ (∀ i, i < j → atB b i = true ∧ atB m i = true) ∧ W = wr) (fun v _ => 10 - (intOf v).toNat)
        case atStart => exact ⟨0, by omega, rfl, fun i hi => by omega, by trivial⟩
        case round =>
          obtain ⟨j, hj, rfl, hall, rfl⟩ := hrel
          have HA : Hid (∀ i, i < j → atB b i = true ∧ atB m i = true) := hall
          clear hall
          by_cases hlt : j < 10
          · have hlt' : (j : Int) < 10 := by omega
            have hjn : (j : Int) < n := by omega
            obtain ⟨x, hx⟩ : ∃ q, Hid (b[j]? = some q) := ⟨_, List.getElem?_eq_getElem (by rw [← HN.out.1]; omega)⟩
            obtain ⟨y, hy⟩ : ∃ q, Hid (m[j]? = some q) := ⟨_, List.getElem?_eq_getElem (by rw [← HN.out.2]; omega)⟩
            have hc1 := HB.out.at hx.out
            have hc2 := HB'.out.at hy.out
            cases x with
            | false =>
              have hE : Hid (rightA b m = false) := right_place hlt (.inl (atB_some hx.out))
              go_wp2
              go_ret
              exact ⟨ret_bool hE.out.symm, hB0⟩
            | true =>
              cases y with
              | false =>
                have hE : Hid (rightA b m = false) := right_place hlt (.inr (atB_some hy.out))
                go_wp2
                go_ret
                exact ⟨ret_bool hE.out.symm, hB0⟩
              | true =>
                have hnx : Hid (∀ i, i < j + 1 → atB b i = true ∧ atB m i = true) := by
                  intro i hi
                  by_cases e : i = j
                  · rw [e]; exact ⟨atB_some hx.out, atB_some hy.out⟩
                  · exact HA.out i (by omega)
                go_wp2
                go_roundw
                case rel => exact ⟨j + 1, by omega, by go_num, hnx.out, by trivial⟩
                case measure => simp [intOf]; omega
          · obtain rfl : j = 10 := by omega
            have hE : Hid (rightA b m = true) := (rightA_iff b m).2 ⟨HN.out.1.symm.trans HN.out.2, by have := HN.out.2; omega, by have := HN.out.2; omega, HA.out⟩
            go_wp2
            go_ret
            exact ⟨ret_bool hE.out.symm, hB0⟩
      · have hE : Hid (rightA b m = false) := right_size (by omega)
        have h1 : ¬ (n : Int) < 24 := by omega
        have h2 : (2048 : Int) < n := by omega
        clear hn hn' hB hB'
        go_enter Tryz.func25, Tryz.ntmps25
        go_wp2
        go_ret
        exact ⟨ret_bool hE.out.symm, hB0⟩
    · have hE : Hid (rightA b m = false) := right_size (by omega)
      have h1 : (n : Int) < 24 := by omega
      clear hn hn' hB hB'
      go_enter Tryz.func25, Tryz.ntmps25
      go_wp2
      go_ret
      exact ⟨ret_bool hE.out.symm, hB0⟩
  · have hE : Hid (rightA b m = false) := right_lens (by omega)
    have hl' : ((n : Int) == n') = false := by rw [beq_eq_false_iff_ne]; omega
    clear hn hn' hB hB'
    go_enter Tryz.func25, Tryz.ntmps25
    go_wp2
    go_ret
    exact ⟨ret_bool hE.out.symm, hB0⟩

set_option maxHeartbeats 1000000 in
/-- The document's own ISFREE, where both rows have as many places. -/
theorem allocIsFree_any (a a' : Option Addr) (c c' n : Nat) (b m : List Bool) (i : Nat) (w : World) (hn : n = b.length) (hn' : n = m.length) (hB : IsB w a c b) (hB' : IsB w a' c' m) :
    Calls Tryz.prog 27 #[.agg #[.slice a n c, .slice a' n c'], .int .i64 i] w fun e w' => e = .returned (.bool (freeB b m i)) ∧ Below w.heap.size w w' := by
  have hnb : n ≤ 9223372036854775807 := by rw [hn]; exact Nat.le_trans hB.1 hB.2.1
  have hB0 : Below w.heap.size w (w.alloc (.cells #[.slice a n c, .slice a' n c'] 24)) := (Below.refl _ _).alloc (Nat.le_refl _) _
  obtain ⟨⟨q0, q1⟩, -⟩ := box2_new w (.slice a n c) (.slice a' n c') 24 rfl
  have h0 : (0 : Int) ≤ i := by omega
  by_cases hi : i < n
  · have hi' : (i : Int) < n := by omega
    obtain ⟨x, hx⟩ : ∃ q, b[i]? = some q := ⟨_, List.getElem?_eq_getElem (by omega)⟩
    obtain ⟨y, hy⟩ : ∃ q, m[i]? = some q := ⟨_, List.getElem?_eq_getElem (by omega)⟩
    have hE : Hid ((!y && !x) = freeB b m i) := by show _ = _; unfold freeB; rw [decide_eq_true (by omega), atB_some hx, atB_some hy]; rfl
    obtain ⟨b1, o1, rfl, -⟩ := hB.some (by omega)
    obtain ⟨b2, o2, rfl, -⟩ := hB'.some (by omega)
    have hc1 := (hB.below hB0).at hx
    have hc2 := (hB'.below hB0).at hy
    clear hn hn' hB hB' hx hy
    cases y with
    | true =>
      go_enter Tryz.func27, Tryz.ntmps27
      go_wp2
      go_ret
      exact ⟨ret_bool hE.out, hB0⟩
    | false =>
      go_enter Tryz.func27, Tryz.ntmps27
      go_wp2
      go_ret
      exact ⟨ret_bool hE.out, hB0⟩
  · have hi' : ¬ (i : Int) < n := by omega
    have hE : Hid (false = freeB b m i) := by show _ = _; unfold freeB; rw [decide_eq_false (by omega)]; rfl
    clear hn hn' hB hB'
    go_enter Tryz.func27, Tryz.ntmps27
    go_wp2
    go_ret
    exact ⟨ret_bool hE.out, hB0⟩

set_option maxHeartbeats 1000000 in
/-- The document's own FREE, of all allocs. -/
theorem allocRefFree_any (a a' : Option Addr) (c c' n n' : Nat) (b m : List Bool) (w : World) (hn : n = b.length) (hn' : n' = m.length) (hB : IsB w a c b) (hB' : IsB w a' c' m) :
    Calls Tryz.prog 16 #[.agg #[.slice a n c, .slice a' n' c']] w fun e w' => e = .returned (.int .i64 (freeC b m)) ∧ Below w.heap.size w w' := by
  obtain ⟨W, hW⟩ : ∃ W, W = w.alloc (.cells #[.slice a n c, .slice a' n' c'] 24) := ⟨_, rfl⟩
  have hB0 : Below w.heap.size w W := by rw [hW]; exact (Below.refl _ _).alloc (Nat.le_refl _) _
  have bx : Box2 W w.heap.size (.slice a n c) (.slice a' n' c') := by rw [hW]; exact box2_new _ _ _ _ rfl
  have cr := allocRefRight_any a a' c c' n n' b m W hn hn' (hB.below hB0) (hB'.below hB0)
  cases hr : rightA b m with
  | false =>
    have he : Hid ((0 : Int) = (freeC b m : Nat)) := by show _ = _; unfold freeC; rw [hr]; rfl
    rw [hr, hW] at cr
    rw [hW] at hB0
    clear hn hn' hB hB'
    go_enter Tryz.func16, Tryz.ntmps16
    go_wp2_with (go_at_call 25; refine cr.mono ?_; rintro e w1 ⟨rfl, hb⟩; replace hB0 := Below.tr hB0 hb)
    go_ret
    exact ⟨ret_int he.out, hB0⟩
  | true =>
    obtain ⟨hl, h24, h48, -⟩ := (rightA_iff b m).1 hr
    obtain rfl : n = n' := by omega
    have hnb : n ≤ 2048 := by omega
    have he : Hid (freeC b m = howN (freeB b m) n) := by show _ = _; unfold freeC; rw [if_pos hr, hn']
    have ci : ∀ (i : Nat) (q : Bool) V, Below W.heap.size W V → freeB b m i = q → Calls Tryz.prog 27 #[.agg #[.slice a n c, .slice a' n c'], .int .i64 i] V fun e w' => e = .returned (.bool q) ∧ Below V.heap.size V w' := by
      rintro i q V hV rfl
      exact allocIsFree_any a a' c c' n b m i V hn hn' (hB.below (Below.tr hB0 hV)) (hB'.below (Below.tr hB0 hV))
    rw [hr, hW] at cr
    clear hn hn' hB hB' h24 h48 hl hr
    go_enter Tryz.func16, Tryz.ntmps16
    go_wp2_with (go_at_call 25; refine cr.mono ?_; rintro e w1 ⟨rfl, hb⟩; rw [← hW] at hb; obtain ⟨⟨q0, q1⟩, -, -⟩ := bx.below hb; clear cr)
    go_loopw [3, 11] (fun u v wr => ∃ j k : Nat, j ≤ n ∧ v = .int .i64 j ∧ k = howN (freeB b m) j ∧ k ≤ j ∧ u = .int .i64 k ∧ Below W.heap.size W wr) (fun _ v _ => n - (intOf v).toNat)
    case atStart => exact ⟨0, 0, by omega, rfl, rfl, Nat.le_refl _, rfl, hb⟩
    case round =>
      obtain ⟨j, k, hj, rfl, hk, hkj, rfl, hbel⟩ := hrel
      have HK : Hid (k = howN (freeB b m) j) := hk
      clear hk q0 q1
      obtain ⟨⟨q0, q1⟩, -, -⟩ := bx.below hbel
      by_cases hlt : j < n
      · have hlt' : (j : Int) < n := by omega
        obtain ⟨q, hq⟩ : ∃ q, Hid (freeB b m j = q) := ⟨_, rfl⟩
        have hnx : Hid (howN (freeB b m) (j + 1) = k + bn q) := by show howN _ _ = _; rw [howN, ← HK.out, hq.out]
        have cj := ci j q wr hbel hq.out
        cases q with
        | true =>
          go_wp2_with (go_at_call 27; refine cj.mono ?_; rintro e w2 ⟨rfl, hb2⟩)
          go_roundw
          case rel => exact ⟨j + 1, k + 1, by omega, by go_num, hnx.out.symm, by omega, by go_num, Below.tr hbel hb2⟩
          case measure => simp [intOf]; omega
        | false =>
          go_wp2_with (go_at_call 27; refine cj.mono ?_; rintro e w2 ⟨rfl, hb2⟩)
          go_roundw
          case rel => exact ⟨j + 1, k, by omega, by go_num, hnx.out.symm, by omega, rfl, Below.tr hbel hb2⟩
          case measure => simp [intOf]; omega
      · obtain rfl : j = n := by omega
        have hE : Hid ((k : Int) = (freeC b m : Nat)) := by show _ = _; rw [he.out, HK.out]
        go_wp2
        go_ret
        exact ⟨ret_int hE.out, Below.tr hB0 hbel⟩

def likeA (b m b' m' : List Bool) : Bool := decide (b = b') && decide (m = m')

theorem likeA_same (b m : List Bool) : likeA b m b m = true := by unfold likeA; simp

set_option maxHeartbeats 1000000 in
/-- LIKE, of all allocs. -/
theorem allocLike_any (a a' d d' : Option Addr) (c c' e e' n n' k k' : Nat) (b m b' m' : List Bool) (w : World) (hn : n = b.length) (hn' : n' = m.length) (hk : k = b'.length) (hk' : k' = m'.length)
    (hB : IsB w a c b) (hB' : IsB w a' c' m) (hD : IsB w d e b') (hD' : IsB w d' e' m') :
    Calls Tryz.prog 34 #[.agg #[.slice a n c, .slice a' n' c'], .agg #[.slice d k e, .slice d' k' e']] w fun x w' => x = .returned (.bool (likeA b m b' m')) ∧ Below w.heap.size w w' := by
  obtain ⟨W, hW⟩ : ∃ W, W = (w.alloc (.cells #[.slice a n c, .slice a' n' c'] 24)).alloc (.cells #[.slice d k e, .slice d' k' e'] 24) := ⟨_, rfl⟩
  obtain ⟨hB0, hWs, bi, bo⟩ := two_box2 hW
  have HB : Below W.heap.size W W := Below.refl _ _
  obtain ⟨x, hx⟩ : ∃ x, x = decide (b = b') := ⟨_, rfl⟩
  obtain ⟨y, hy⟩ : ∃ y, y = decide (m = m') := ⟨_, rfl⟩
  have hE : Hid (likeA b m b' m' = (x && y)) := by show _ = _; unfold likeA; rw [hx, hy]
  have c1 : Calls Tryz.prog 57 #[.slice a n c, .slice d k e] W fun e w' => e = .returned (.bool x) ∧ Below W.heap.size W w' := by
    rw [hn, hk, hx]; exact same_any a d c e b b' W (hB.below hB0) (hD.below hB0)
  have c2 : ∀ V, Below W.heap.size W V → Calls Tryz.prog 57 #[.slice a' n' c', .slice d' k' e'] V fun e w' => e = .returned (.bool y) ∧ Below V.heap.size V w' := by
    intro V hV; rw [hn', hk', hy]; exact same_any a' d' c' e' m m' V (hB'.below (Below.tr hB0 hV)) (hD'.below (Below.tr hB0 hV))
  rw [hW] at c1
  have t1 : True := trivial
  clear hn hn' hk hk' hB hB' hD hD' hx hy
  cases x with
  | false =>
    go_enter Tryz.func34, Tryz.ntmps34
    go_wp2_with (go_at_call 57; refine c1.mono ?_; rintro e w1 ⟨rfl, hb⟩; rw [← hW] at hb)
    go_ret
    exact ⟨ret_bool hE.out.symm, Below.tr hB0 hb⟩
  | true =>
    go_enter Tryz.func34, Tryz.ntmps34
    go_wp2_with (first
      | (go_at_call 57; have _t := t1; refine c1.mono ?_; rintro e w1 ⟨rfl, hb⟩; rw [← hW] at hb; clear t1; replace HB := Below.tr HB hb; obtain ⟨⟨q0, q1⟩, -, -⟩ := bi.below hb; obtain ⟨⟨r0, r1⟩, -, -⟩ := bo.below hb; clear hb)
      | (go_at_call 57; refine (c2 _ HB).mono ?_; rintro e w2 ⟨rfl, hb⟩; replace HB := Below.tr HB hb; clear hb))
    go_ret
    exact ⟨ret_bool hE.out.symm, Below.tr hB0 HB⟩

end Go.Proofs.YtaecfbfcjaailaaGreat

namespace Go.Proofs.YtaecfbfcjaailaaGreat
namespace Plain
/-- Which woods may be. -/
def rightW (bs ns : List Bool) (ps : List ByteArray) (root gen : Int) : Bool :=
  rightA bs ns && decide (ps.length = ns.length) && decide (1 ≤ gen) && decide (gen ≤ 1099511627776) && ps.all (fun s => decide (s.size ≤ 4096)) && (decide (root = 0) || (decide (10 ≤ root) && decide (root < ns.length)))
end Plain
open Go.RowKit Plain
set_option linter.unusedVariables false

theorem readB_few (s : ByteArray) : (readB s).size ≤ 4096 := by
  unfold readB
  by_cases h : readE s = 0
  · rw [if_pos h]
    have hs : s.size ≤ 4096 := by
      by_cases hs : s.size ≤ 4096
      · exact hs
      · rw [readE, if_neg hs] at h; omega
    unfold fB
    rw [ByteArray.size_extract, fullS_size hs]
    omega
  · rw [if_neg h]
    exact Nat.zero_le _

/-- The node that a page holds, of a generation of at most gen. -/
def pageN (s : ByteArray) (gen : Int) (root : Bool) : Option NodeS :=
  if readE s = 0 ∧ readG s ≤ gen ∧ gE (readK s) (readB s) = 0 ∧ rightN (gN (readK s) (readB s)).1 (gN (readK s) (readB s)).2.1 (gN (readK s) (readB s)).2.2.1 (gN (readK s) (readB s)).2.2.2 root = true then some (gN (readK s) (readB s)) else none

/-- The node that a block holds. -/
def holdsS (ns : List Bool) (ps : List ByteArray) (gen : Int) (block : Int) (root : Bool) : Option NodeS :=
  if 10 ≤ block ∧ block < ns.length ∧ block < ps.length ∧ ns.getD block.toNat false = true then pageN (ps.getD block.toNat ⟨#[]⟩) gen root else none

/-- How it is answered. -/
def HoldsC (w : World) (x : Ending) (w' : World) : Option NodeS → Prop
  | none => x = .returned (.tuple #[.agg #[.bool false, .slice none 0 0, .slice none 0 0, .slice none 0 0], .bool false]) ∧ Below w.heap.size w w'
  | some nd => ∃ k1 a1 d1 k2 a2 d2 k3 a3 d3, x = .returned (.tuple #[.agg #[.bool nd.1, .slice a1 k1 d1, .slice a2 k2 d2, .slice a3 k3 d3], .bool true]) ∧ k1 = nd.2.1.length ∧ k2 = nd.2.2.1.length ∧ k3 = nd.2.2.2.length ∧ IsS w' a1 d1 nd.2.1 ∧ IsS w' a2 d2 nd.2.2.1 ∧ IsI w' a3 d3 nd.2.2.2 ∧ From w.heap.size a1 ∧ From w.heap.size a2 ∧ From w.heap.size a3 ∧ Below w.heap.size w w'

set_option maxRecDepth 20000 in
set_option maxHeartbeats 4000000 in
/-- penelope/peneloperef08.HoldsDS. -/
theorem holds_any (a a' b : Option Addr) (n c n' c' p f : Nat) (ns : List Bool) (ps : List ByteArray) (root gen block : Int) (rt : Bool) (w : World) (hn' : n' = ns.length) (hp : p = ps.length) (hB' : IsB w a' c' ns) (hP : IsS w b f ps) :
    Calls Tryz.prog 36 #[.agg #[.slice a n c, .slice a' n' c', .slice b p f, .int .i64 root, .int .i64 gen], .int .i64 block, .bool rt] w fun x w' => HoldsC w x w' (holdsS ns ps gen block rt) := by
  obtain ⟨W, hW⟩ : ∃ W, W = (w.alloc (.cells #[.slice a n c, .slice a' n' c', .slice b p f, .int .i64 root, .int .i64 gen] 27)).alloc (.cells #[.bool false, .slice none 0 0, .slice none 0 0, .slice none 0 0] 76) := ⟨_, rfl⟩
  have BW : WoodBox W w.heap.size (.slice a n c) (.slice a' n' c') (.slice b p f) (.int .i64 root) (.int .i64 gen) := by rw [hW]; exact (woodBox_new _ _ _ _ _ _ _ rfl).below ((Below.refl _ _).alloc (Nat.le_refl _) _)
  have BR : Box4 W (w.heap.size + 1) (.bool false) (.slice none 0 0) (.slice none 0 0) (.slice none 0 0) := by rw [hW]; exact box4_new _ _ _ _ _ _ (by simp)
  have HB : Below w.heap.size w W := by rw [hW]; exact ((Below.refl _ _).alloc (Nat.le_refl _) _).alloc (by simp) _
  have hle : w.heap.size ≤ w.heap.size + 1 := by omega
  have mn : n' ≤ 9223372036854775807 := by rw [hn']; exact Nat.le_trans hB'.1 hB'.2.1
  have mp : p ≤ 9223372036854775807 := by rw [hp]; exact Nat.le_trans hP.1 hP.2.1
  obtain ⟨O, hO'⟩ : ∃ O, O = holdsS ns ps gen block rt := ⟨_, rfl⟩
  rw [← hO']
  obtain ⟨⟨r0, r1, r2, r3⟩, f0, f1, f2, f3⟩ := id (hW ▸ BR)
  obtain ⟨x0, x1, x2, x3, x4⟩ := id (hW ▸ BW)
  by_cases hin : 10 ≤ block ∧ block < ns.length ∧ block < ps.length ∧ ns.getD block.toNat false = true
  · have hO1 : O = pageN (ps.getD block.toNat ⟨#[]⟩) gen rt := by rw [hO']; unfold holdsS; rw [if_pos hin]
    obtain ⟨h10, hl1, hl2, hnow⟩ := hin
    obtain ⟨i, rfl⟩ : ∃ i : Nat, block = i := ⟨block.toNat, by omega⟩
    simp only [Int.toNat_natCast] at hnow hO1
    have hi1 : i < ns.length := by omega
    have hi2 : i < ps.length := by omega
    have hgn : ns[i]? = some true := by rw [List.getD_eq_getElem?_getD, List.getElem?_eq_getElem hi1] at hnow; rw [List.getElem?_eq_getElem hi1]; exact congrArg some hnow
    obtain ⟨s, hs⟩ : ∃ s, ps[i]? = some s := ⟨_, List.getElem?_eq_getElem hi2⟩
    rw [List.getD_eq_getElem?_getD, hs] at hO1
    obtain ⟨b1, o1, rfl, hlb1, hc1⟩ := hB'.2.2 i true hgn
    obtain ⟨b2, o2, rfl, hlb2, hc2, hss⟩ := hP.2.2 i s hs
    have z1 := cell_below HB hc1
    have z2 := cell_below HB hc2
    rw [hW] at z1 z2
    have k1 : ¬ (i : Int) < 10 := by omega
    have k2 : ¬ (n' : Int) ≤ i := by omega
    have k3 : ¬ (p : Int) ≤ i := by omega
    have k4 : (i : Int) < n' := by omega
    have k5 : (i : Int) < p := by omega
    have cP := fun V => refPageGet_any s V hss
    have hrBs : (readB s).size ≤ maxLen := Nat.le_trans (readB_few s) (by unfold maxLen; omega)
    have cG := fun V => refNodeGet_any (readK s) (readB s) V hrBs
    have hO : O = pageN s gen rt := hO1
    unfold pageN at hO
    clear hO1 hO' hn' hp hB' hP h10 hl1 hl2 hnow hi1 hi2 hgn hs hlb1 hlb2 hc1 hc2 hss hrBs
    obtain ⟨rE, hrE⟩ : ∃ x, x = readE s := ⟨_, rfl⟩
    obtain ⟨rK, hrK⟩ : ∃ x, x = readK s := ⟨_, rfl⟩
    obtain ⟨rG, hrG⟩ : ∃ x, x = readG s := ⟨_, rfl⟩
    obtain ⟨rB, hrB⟩ : ∃ x, x = readB s := ⟨_, rfl⟩
    rw [← hrE, ← hrK, ← hrG, ← hrB] at hO
    rw [← hrE, ← hrK, ← hrG, ← hrB] at cP
    rw [← hrK, ← hrB] at cG
    clear hrE hrK hrG hrB
    obtain ⟨nE, hnE⟩ : ∃ x, x = gE rK rB := ⟨_, rfl⟩
    obtain ⟨⟨nl, nk, nv, nc⟩, hnd⟩ : ∃ x, x = gN rK rB := ⟨_, rfl⟩
    rw [← hnE, ← hnd] at hO cG
    clear hnE hnd
    have cR : ∀ V a1 d1 k1 a2 d2 k2 a3 d3 k3, k1 = nk.length → k2 = nv.length → k3 = nc.length → IsS V a1 d1 nk → IsS V a2 d2 nv → IsI V a3 d3 nc → Calls Tryz.prog 59 #[.agg #[.bool nl, .slice a1 k1 d1, .slice a2 k2 d2, .slice a3 k3 d3], .bool rt] V fun e w' => e = .returned (.bool (rightN nl nk nv nc rt)) ∧ Below V.heap.size V w' := fun V a1 d1 k1 a2 d2 k2 a3 d3 k3 h1 h2 h3 i1 i2 i3 => refNodeRight_any nl a1 a2 a3 d1 d2 d3 k1 k2 k3 nk nv nc rt V h1 h2 h3 i1 i2 i3
    by_cases hE : rE = 0
    · subst hE
      by_cases hG : rG ≤ gen
      · have hG' : ¬ gen < rG := by omega
        by_cases hNE : nE = 0
        · subst hNE
          cases hR : rightN nl nk nv nc rt with
          | true =>
            replace hO : O = some (nl, nk, nv, nc) := by rw [hO, if_pos ⟨rfl, hG, rfl, hR⟩]
            rw [hR] at cR
            clear hR hG
            go_enter Tryz.func36, Tryz.ntmps36
            go_wp2_with (first
              | (go_at_call 29; rw [← hW]; refine (cP _).mono ?_; rintro y w1 ⟨rfl, hb⟩; have hA : Below w1.heap.size w1 (w1.alloc (.cells #[.int .i64 rK, .int .i64 rG, .string rB] 63)) := (Below.refl _ _).alloc (Nat.le_refl _) _; have b3 := box3_new w1 (.int .i64 rK) (.int .i64 rG) (.string rB) 63; replace HB := Below.tr (Below.tr HB hb) hA; replace BR := (BR.below hb).below hA; replace BW := (BW.below hb).below hA; clear r0 r1 r2 r3 f0 f1 f2 f3 x0 x1 x2 x3 x4; obtain ⟨⟨r0, r1, r2, r3⟩, f0, f1, f2, f3⟩ := id BR; obtain ⟨x0, x1, x2, x3, x4⟩ := id BW; obtain ⟨⟨g0, g1, g2⟩, -⟩ := id b3; clear hb hA b3)
              | (go_at_call 58; refine (cG _).mono ?_; rintro y w2 ⟨k1, a1, d1, k2, a2, d2, k3, a3, d3, rfl, e1, e2, e3, i1, i2, i3, j1, j2, j3, hb⟩; have hA : Below w2.heap.size w2 (w2.alloc (.cells #[.bool nl, .slice a1 k1 d1, .slice a2 k2 d2, .slice a3 k3 d3] 76)) := (Below.refl _ _).alloc (Nat.le_refl _) _; have b4 := box4_new w2 (.bool nl) (.slice a1 k1 d1) (.slice a2 k2 d2) (.slice a3 k3 d3) 76 rfl; have hlo : w.heap.size + 2 ≤ w1.heap.size + 1 := (by have := BR.lt; simp at this; omega); replace HB := Below.tr (Below.tr HB hb) hA; replace BR := (BR.below hb).below hA; clear r0 r1 r2 r3 f0 f1 f2 f3 x0 x1 x2 x3 x4 g0 g1 g2 BW; obtain ⟨⟨r0, r1, r2, r3⟩, f0, f1, f2, f3⟩ := id BR; obtain ⟨⟨m0, m1, m2, m3⟩, -⟩ := id b4; have E : Hid (k1 = nk.length ∧ k2 = nv.length ∧ k3 = nc.length) := ⟨e1, e2, e3⟩; have I : Hid (IsS (w2.alloc (.cells #[.bool nl, .slice a1 k1 d1, .slice a2 k2 d2, .slice a3 k3 d3] 76)) a1 d1 nk ∧ IsS (w2.alloc (.cells #[.bool nl, .slice a1 k1 d1, .slice a2 k2 d2, .slice a3 k3 d3] 76)) a2 d2 nv ∧ IsI (w2.alloc (.cells #[.bool nl, .slice a1 k1 d1, .slice a2 k2 d2, .slice a3 k3 d3] 76)) a3 d3 nc) := ⟨i1.below hA, i2.below hA, i3.below hA⟩; have J : Hid (From (w.heap.size + 2) a1 ∧ From (w.heap.size + 2) a2 ∧ From (w.heap.size + 2) a3) := ⟨j1.mono (by simp; omega), j2.mono (by simp; omega), j3.mono (by simp; omega)⟩; clear hb hA hlo e1 e2 e3 i1 i2 i3 j1 j2 j3)
              | (go_at_call 59; refine (cR _ a1 d1 k1 a2 d2 k2 a3 d3 k3 E.out.1 E.out.2.1 E.out.2.2 I.out.1 I.out.2.1 I.out.2.2).mono ?_; rintro y w3 ⟨rfl, hb⟩; replace HB := Below.tr HB hb; replace BR := BR.below hb; replace b4 := b4.below hb; clear r0 r1 r2 r3 f0 f1 f2 f3 m0 m1 m2 m3; obtain ⟨⟨r0, r1, r2, r3⟩, f0, f1, f2, f3⟩ := id BR; obtain ⟨⟨m0, m1, m2, m3⟩, -⟩ := id b4; replace I : Hid (IsS w3 a1 d1 nk ∧ IsS w3 a2 d2 nv ∧ IsI w3 a3 d3 nc) := ⟨I.out.1.below hb, I.out.2.1.below hb, I.out.2.2.below hb⟩; clear hb))
            have T4 := turns_put4 w3 (w.heap.size + 1) (.bool nl) (.slice a1 k1 d1) (.slice a2 k2 d2) (.slice a3 k3 d3)
            obtain ⟨j1, j2, j3⟩ := J.out
            refine bodyPost_ret (v := .tuple #[.agg #[.bool nl, .slice a1 k1 d1, .slice a2 k2 d2, .slice a3 k3 d3], .bool true]) (by simp [results, Tryz.results36, go_sem, r0, r1, r2, r3]) rfl ?_
            rw [hO]
            exact ⟨k1, a1, d1, k2, a2, d2, k3, a3, d3, rfl, E.out.1, E.out.2.1, E.out.2.2, I.out.1.turns T4 (fun x hx e => by have := j1 x hx; omega), I.out.2.1.turns T4 (fun x hx e => by have := j2 x hx; omega), I.out.2.2.turns T4 (fun x hx e => by have := j3 x hx; omega), j1.mono (by omega), j2.mono (by omega), j3.mono (by omega), below_put4 HB hle _ _ _ _⟩
          | false =>
            replace hO : O = none := by rw [hO, if_neg (fun h => by rw [hR] at h; exact absurd h.2.2.2 (by decide))]
            rw [hR] at cR
            clear hR hG
            go_enter Tryz.func36, Tryz.ntmps36
            go_wp2_with (first
              | (go_at_call 29; rw [← hW]; refine (cP _).mono ?_; rintro y w1 ⟨rfl, hb⟩; have hA : Below w1.heap.size w1 (w1.alloc (.cells #[.int .i64 rK, .int .i64 rG, .string rB] 63)) := (Below.refl _ _).alloc (Nat.le_refl _) _; have b3 := box3_new w1 (.int .i64 rK) (.int .i64 rG) (.string rB) 63; replace HB := Below.tr (Below.tr HB hb) hA; replace BR := (BR.below hb).below hA; replace BW := (BW.below hb).below hA; clear r0 r1 r2 r3 f0 f1 f2 f3 x0 x1 x2 x3 x4; obtain ⟨⟨r0, r1, r2, r3⟩, f0, f1, f2, f3⟩ := id BR; obtain ⟨x0, x1, x2, x3, x4⟩ := id BW; obtain ⟨⟨g0, g1, g2⟩, -⟩ := id b3; clear hb hA b3)
              | (go_at_call 58; refine (cG _).mono ?_; rintro y w2 ⟨k1, a1, d1, k2, a2, d2, k3, a3, d3, rfl, e1, e2, e3, i1, i2, i3, j1, j2, j3, hb⟩; have hA : Below w2.heap.size w2 (w2.alloc (.cells #[.bool nl, .slice a1 k1 d1, .slice a2 k2 d2, .slice a3 k3 d3] 76)) := (Below.refl _ _).alloc (Nat.le_refl _) _; have b4 := box4_new w2 (.bool nl) (.slice a1 k1 d1) (.slice a2 k2 d2) (.slice a3 k3 d3) 76 rfl; have hlo : w.heap.size + 2 ≤ w1.heap.size + 1 := (by have := BR.lt; simp at this; omega); replace HB := Below.tr (Below.tr HB hb) hA; replace BR := (BR.below hb).below hA; clear r0 r1 r2 r3 f0 f1 f2 f3 x0 x1 x2 x3 x4 g0 g1 g2 BW; obtain ⟨⟨r0, r1, r2, r3⟩, f0, f1, f2, f3⟩ := id BR; obtain ⟨⟨m0, m1, m2, m3⟩, -⟩ := id b4; have E : Hid (k1 = nk.length ∧ k2 = nv.length ∧ k3 = nc.length) := ⟨e1, e2, e3⟩; have I : Hid (IsS (w2.alloc (.cells #[.bool nl, .slice a1 k1 d1, .slice a2 k2 d2, .slice a3 k3 d3] 76)) a1 d1 nk ∧ IsS (w2.alloc (.cells #[.bool nl, .slice a1 k1 d1, .slice a2 k2 d2, .slice a3 k3 d3] 76)) a2 d2 nv ∧ IsI (w2.alloc (.cells #[.bool nl, .slice a1 k1 d1, .slice a2 k2 d2, .slice a3 k3 d3] 76)) a3 d3 nc) := ⟨i1.below hA, i2.below hA, i3.below hA⟩; have J : Hid (From (w.heap.size + 2) a1 ∧ From (w.heap.size + 2) a2 ∧ From (w.heap.size + 2) a3) := ⟨j1.mono (by simp; omega), j2.mono (by simp; omega), j3.mono (by simp; omega)⟩; clear hb hA hlo e1 e2 e3 i1 i2 i3 j1 j2 j3)
              | (go_at_call 59; refine (cR _ a1 d1 k1 a2 d2 k2 a3 d3 k3 E.out.1 E.out.2.1 E.out.2.2 I.out.1 I.out.2.1 I.out.2.2).mono ?_; rintro y w3 ⟨rfl, hb⟩; replace HB := Below.tr HB hb; replace BR := BR.below hb; replace b4 := b4.below hb; clear r0 r1 r2 r3 f0 f1 f2 f3 m0 m1 m2 m3; obtain ⟨⟨r0, r1, r2, r3⟩, f0, f1, f2, f3⟩ := id BR; obtain ⟨⟨m0, m1, m2, m3⟩, -⟩ := id b4; replace I : Hid (IsS w3 a1 d1 nk ∧ IsS w3 a2 d2 nv ∧ IsI w3 a3 d3 nc) := ⟨I.out.1.below hb, I.out.2.1.below hb, I.out.2.2.below hb⟩; clear hb))
            refine bodyPost_ret (v := .tuple #[.agg #[.bool false, .slice none 0 0, .slice none 0 0, .slice none 0 0], .bool false]) (by simp [results, Tryz.results36, go_sem, r0, r1, r2, r3]) rfl ?_
            rw [hO]
            exact ⟨rfl, below_put4 HB hle _ _ _ _⟩
        · replace hO : O = none := by rw [hO, if_neg (fun h => hNE h.2.2.1)]
          clear hG
          go_enter Tryz.func36, Tryz.ntmps36
          go_wp2_with (first
            | (go_at_call 29; rw [← hW]; refine (cP _).mono ?_; rintro y w1 ⟨rfl, hb⟩; have hA : Below w1.heap.size w1 (w1.alloc (.cells #[.int .i64 rK, .int .i64 rG, .string rB] 63)) := (Below.refl _ _).alloc (Nat.le_refl _) _; have b3 := box3_new w1 (.int .i64 rK) (.int .i64 rG) (.string rB) 63; replace HB := Below.tr (Below.tr HB hb) hA; replace BR := (BR.below hb).below hA; replace BW := (BW.below hb).below hA; clear r0 r1 r2 r3 f0 f1 f2 f3 x0 x1 x2 x3 x4; obtain ⟨⟨r0, r1, r2, r3⟩, f0, f1, f2, f3⟩ := id BR; obtain ⟨x0, x1, x2, x3, x4⟩ := id BW; obtain ⟨⟨g0, g1, g2⟩, -⟩ := id b3; clear hb hA b3)
            | (go_at_call 58; refine (cG _).mono ?_; rintro y w2 ⟨k1, a1, d1, k2, a2, d2, k3, a3, d3, rfl, e1, e2, e3, i1, i2, i3, j1, j2, j3, hb⟩; have hA : Below w2.heap.size w2 (w2.alloc (.cells #[.bool nl, .slice a1 k1 d1, .slice a2 k2 d2, .slice a3 k3 d3] 76)) := (Below.refl _ _).alloc (Nat.le_refl _) _; have b4 := box4_new w2 (.bool nl) (.slice a1 k1 d1) (.slice a2 k2 d2) (.slice a3 k3 d3) 76 rfl; have hlo : w.heap.size + 2 ≤ w1.heap.size + 1 := (by have := BR.lt; simp at this; omega); replace HB := Below.tr (Below.tr HB hb) hA; replace BR := (BR.below hb).below hA; clear r0 r1 r2 r3 f0 f1 f2 f3 x0 x1 x2 x3 x4 g0 g1 g2 BW; obtain ⟨⟨r0, r1, r2, r3⟩, f0, f1, f2, f3⟩ := id BR; obtain ⟨⟨m0, m1, m2, m3⟩, -⟩ := id b4; have E : Hid (k1 = nk.length ∧ k2 = nv.length ∧ k3 = nc.length) := ⟨e1, e2, e3⟩; have I : Hid (IsS (w2.alloc (.cells #[.bool nl, .slice a1 k1 d1, .slice a2 k2 d2, .slice a3 k3 d3] 76)) a1 d1 nk ∧ IsS (w2.alloc (.cells #[.bool nl, .slice a1 k1 d1, .slice a2 k2 d2, .slice a3 k3 d3] 76)) a2 d2 nv ∧ IsI (w2.alloc (.cells #[.bool nl, .slice a1 k1 d1, .slice a2 k2 d2, .slice a3 k3 d3] 76)) a3 d3 nc) := ⟨i1.below hA, i2.below hA, i3.below hA⟩; have J : Hid (From (w.heap.size + 2) a1 ∧ From (w.heap.size + 2) a2 ∧ From (w.heap.size + 2) a3) := ⟨j1.mono (by simp; omega), j2.mono (by simp; omega), j3.mono (by simp; omega)⟩; clear hb hA hlo e1 e2 e3 i1 i2 i3 j1 j2 j3))
          refine bodyPost_ret (v := .tuple #[.agg #[.bool false, .slice none 0 0, .slice none 0 0, .slice none 0 0], .bool false]) (by simp [results, Tryz.results36, go_sem, r0, r1, r2, r3]) rfl ?_
          rw [hO]
          exact ⟨rfl, below_put4 HB hle _ _ _ _⟩
      · have hG' : gen < rG := by omega
        replace hO : O = none := by rw [hO, if_neg (fun h => hG h.2.1)]
        clear hG
        go_enter Tryz.func36, Tryz.ntmps36
        go_wp2_with (go_at_call 29; rw [← hW]; refine (cP _).mono ?_; rintro y w1 ⟨rfl, hb⟩; have hA : Below w1.heap.size w1 (w1.alloc (.cells #[.int .i64 rK, .int .i64 rG, .string rB] 63)) := (Below.refl _ _).alloc (Nat.le_refl _) _; have b3 := box3_new w1 (.int .i64 rK) (.int .i64 rG) (.string rB) 63; replace HB := Below.tr (Below.tr HB hb) hA; replace BR := (BR.below hb).below hA; replace BW := (BW.below hb).below hA; clear r0 r1 r2 r3 f0 f1 f2 f3 x0 x1 x2 x3 x4; obtain ⟨⟨r0, r1, r2, r3⟩, f0, f1, f2, f3⟩ := id BR; obtain ⟨x0, x1, x2, x3, x4⟩ := id BW; obtain ⟨⟨g0, g1, g2⟩, -⟩ := id b3; clear hb hA b3)
        refine bodyPost_ret (v := .tuple #[.agg #[.bool false, .slice none 0 0, .slice none 0 0, .slice none 0 0], .bool false]) (by simp [results, Tryz.results36, go_sem, r0, r1, r2, r3]) rfl ?_
        rw [hO]
        exact ⟨rfl, below_put4 HB hle _ _ _ _⟩
    · replace hO : O = none := by rw [hO, if_neg (fun h => hE h.1)]
      go_enter Tryz.func36, Tryz.ntmps36
      go_wp2_with (go_at_call 29; rw [← hW]; refine (cP _).mono ?_; rintro y w1 ⟨rfl, hb⟩; have hA : Below w1.heap.size w1 (w1.alloc (.cells #[.int .i64 rK, .int .i64 rG, .string rB] 63)) := (Below.refl _ _).alloc (Nat.le_refl _) _; have b3 := box3_new w1 (.int .i64 rK) (.int .i64 rG) (.string rB) 63; replace HB := Below.tr (Below.tr HB hb) hA; replace BR := (BR.below hb).below hA; replace BW := (BW.below hb).below hA; clear r0 r1 r2 r3 f0 f1 f2 f3 x0 x1 x2 x3 x4; obtain ⟨⟨r0, r1, r2, r3⟩, f0, f1, f2, f3⟩ := id BR; obtain ⟨x0, x1, x2, x3, x4⟩ := id BW; obtain ⟨⟨g0, g1, g2⟩, -⟩ := id b3; clear hb hA b3)
      refine bodyPost_ret (v := .tuple #[.agg #[.bool false, .slice none 0 0, .slice none 0 0, .slice none 0 0], .bool false]) (by simp [results, Tryz.results36, go_sem, r0, r1, r2, r3]) rfl ?_
      rw [hO]
      exact ⟨rfl, below_put4 HB hle _ _ _ _⟩
  · have hO : O = none := by rw [hO']; unfold holdsS; rw [if_neg hin]
    clear hO'
    by_cases h10 : block < 10
    · clear hin hn' hp hB' hP
      go_enter Tryz.func36, Tryz.ntmps36
      go_wp2
      refine bodyPost_ret (v := .tuple #[.agg #[.bool false, .slice none 0 0, .slice none 0 0, .slice none 0 0], .bool false]) (by simp [results, Tryz.results36, go_sem, r0, r1, r2, r3]) rfl ?_
      rw [hW] at HB
      first
        | exact ⟨rfl, HB⟩
        | (rw [hO]; exact ⟨rfl, HB⟩)
    · by_cases hl1 : block < n'
      · have hl1' : ¬ (n' : Int) ≤ block := by omega
        by_cases hl2 : block < p
        · have hl2' : ¬ (p : Int) ≤ block := by omega
          obtain ⟨i, rfl⟩ : ∃ i : Nat, block = i := ⟨block.toNat, by omega⟩
          have hi1 : i < ns.length := by omega
          have hgn : ns[i]? = some false := by
            rw [List.getElem?_eq_getElem hi1]
            refine congrArg some (Bool.eq_false_iff.2 fun h => hin ⟨by omega, by omega, by omega, ?_⟩)
            rw [Int.toNat_natCast, List.getD_eq_getElem?_getD, List.getElem?_eq_getElem hi1]
            exact h
          obtain ⟨b1, o1, rfl, hlb1, hc1⟩ := hB'.2.2 i false hgn
          have z1 := cell_below HB hc1
          rw [hW] at z1
          clear hin hn' hp hB' hP hgn hi1 hc1 hlb1
          go_enter Tryz.func36, Tryz.ntmps36
          go_wp2
          refine bodyPost_ret (v := .tuple #[.agg #[.bool false, .slice none 0 0, .slice none 0 0, .slice none 0 0], .bool false]) (by simp [results, Tryz.results36, go_sem, r0, r1, r2, r3]) rfl ?_
          rw [hW] at HB
          first
            | exact ⟨rfl, HB⟩
            | (rw [hO]; exact ⟨rfl, HB⟩)
        · have hl2' : (p : Int) ≤ block := by omega
          clear hin hn' hp hB' hP
          go_enter Tryz.func36, Tryz.ntmps36
          go_wp2
          refine bodyPost_ret (v := .tuple #[.agg #[.bool false, .slice none 0 0, .slice none 0 0, .slice none 0 0], .bool false]) (by simp [results, Tryz.results36, go_sem, r0, r1, r2, r3]) rfl ?_
          rw [hW] at HB
          first
            | exact ⟨rfl, HB⟩
            | (rw [hO]; exact ⟨rfl, HB⟩)
      · have hl1' : (n' : Int) ≤ block := by omega
        clear hin hn' hp hB' hP
        go_enter Tryz.func36, Tryz.ntmps36
        go_wp2
        refine bodyPost_ret (v := .tuple #[.agg #[.bool false, .slice none 0 0, .slice none 0 0, .slice none 0 0], .bool false]) (by simp [results, Tryz.results36, go_sem, r0, r1, r2, r3]) rfl ?_
        rw [hW] at HB
        first
          | exact ⟨rfl, HB⟩
          | (rw [hO]; exact ⟨rfl, HB⟩)

end Go.Proofs.YtaecfbfcjaailaaGreat

namespace Go.Proofs.YtaecfbfcjaailaaGreat
open Go.RowKit Plain
set_option linter.unusedVariables false

theorem all_more {α : Type} {f : α → Bool} {xs : List α} {j : Nat} {x : α} (hx : xs[j]? = some x) : (xs.take (j + 1)).all f = ((xs.take j).all f && f x) := by
  rw [List.take_add_one, hx]
  simp

theorem holds_right {ns : List Bool} {ps : List ByteArray} {gen block : Int} {rt : Bool} {nd : NodeS} (h : holdsS ns ps gen block rt = some nd) : rightN nd.1 nd.2.1 nd.2.2.1 nd.2.2.2 rt = true := by
  unfold holdsS at h
  split at h
  · unfold pageN at h
    split at h
    · rename_i hh
      cases h
      exact hh.2.2.2
    · cases h
  · cases h

theorem holds_len {ns : List Bool} {ps : List ByteArray} {gen : Int} : ∀ b r (nd : NodeS), holdsS ns ps gen b r = some nd → nd.2.1.length ≤ 9 ∧ nd.2.2.2.length ≤ 10 ∧ (nd.1 = true → nd.2.2.1.length = nd.2.1.length) ∧ (nd.1 = false → nd.2.2.2.length = nd.2.1.length + 1) := by
  intro b r nd h
  obtain ⟨l, ks, vs, cs⟩ := nd
  have hs : standsN l ks vs cs = true := (rightN_iff.1 (holds_right h)).1
  obtain ⟨h9, _, _, _, _, hsh⟩ := standsN_iff.1 hs
  cases l with
  | true =>
    have := shape_leaf.1 hsh
    refine ⟨h9, ?_, fun _ => ?_, fun e => Bool.noConfusion e⟩
    · show cs.length ≤ 10; omega
    · show vs.length = ks.length; omega
  | false =>
    have := shape_inner.1 hsh
    refine ⟨h9, ?_, fun e => Bool.noConfusion e, fun _ => ?_⟩
    · show cs.length ≤ 10; omega
    · show cs.length = ks.length + 1; omega

/-- A wood's tree. -/
def treeS (ns : List Bool) (ps : List ByteArray) (root gen : Int) : TreeS := if root = 0 then TreeS.none else belowS (holdsS ns ps gen) 8 TreeS.none root ⟨#[]⟩ ⟨#[]⟩

set_option maxRecDepth 20000 in
set_option maxHeartbeats 2000000 in
/-- TREE. -/
theorem tree_any (a a' b : Option Addr) (n c n' c' p f : Nat) (ns : List Bool) (ps : List ByteArray) (root gen : Int) (w : World) (hn' : n' = ns.length) (hp : p = ps.length) (hB' : IsB w a' c' ns) (hP : IsS w b f ps) :
    Calls Tryz.prog 15 #[.agg #[.slice a n c, .slice a' n' c', .slice b p f, .int .i64 root, .int .i64 gen]] w fun x w' => ∃ u1 u2, x = .returned (.pointer (some ⟨w.heap.size + 1, 0, none⟩)) ∧ TreeAt w' (w.heap.size + 1) (w.heap.size + 2) u1 u2 (treeS ns ps root gen) ∧ Below w.heap.size w w' := by
  obtain ⟨W, hW⟩ : ∃ W, W = (w.alloc (.cells #[.slice a n c, .slice a' n' c', .slice b p f, .int .i64 root, .int .i64 gen] 27)).alloc (.cells #[.slice none 0 0, .slice none 0 0, .int .i64 0, .bool false] 40) := ⟨_, rfl⟩
  have HB : Below w.heap.size w W := by rw [hW]; exact ((Below.refl _ _).alloc (Nat.le_refl _) _).alloc (by simp) _
  have BW : WoodBox W w.heap.size (.slice a n c) (.slice a' n' c') (.slice b p f) (.int .i64 root) (.int .i64 gen) := by rw [hW]; exact (woodBox_new _ _ _ _ _ _ _ rfl).below ((Below.refl _ _).alloc (Nat.le_refl _) _)
  have T0 : TreeAt W (w.heap.size + 1) (w.heap.size + 2) (.slice none 0 0) (.slice none 0 0) TreeS.none := by
    rw [hW]
    exact ⟨box4_new _ _ _ _ _ _ (by simp), ⟨rfl, .inl ⟨rfl, rfl⟩⟩, ⟨rfl, .inl ⟨rfl, rfl⟩⟩, apart_nil _ _, by omega, by simp⟩
  have hle : w.heap.size ≤ w.heap.size + 1 := by omega
  have cB : ∀ V, Below w.heap.size w V → TreeAt V (w.heap.size + 1) (w.heap.size + 2) (.slice none 0 0) (.slice none 0 0) TreeS.none → Calls Tryz.prog 26 #[.pointer (some ⟨w.heap.size + 1, 0, none⟩), .agg #[.slice a n c, .slice a' n' c', .slice b p f, .int .i64 root, .int .i64 gen], .int .i64 root, .int .i64 1, .string ⟨#[]⟩, .string ⟨#[]⟩] V fun e V' => e = .returned (.tuple #[]) ∧ ∃ u1' u2', TreeAt V' (w.heap.size + 1) (w.heap.size + 2) u1' u2' (belowS (holdsS ns ps gen) 8 TreeS.none root ⟨#[]⟩ ⟨#[]⟩) ∧ Grows (w.heap.size + 1) (.slice none 0 0) (.slice none 0 0) V u1' u2' V' := fun V hV T =>
    below_any (w := w) (H := holdsS ns ps gen) (w.heap.size + 1) (w.heap.size + 2) a a' b n c n' c' p f root gen hle
      (fun V block r hb h => by
        have := holds_any a a' b n c n' c' p f ns ps root gen block r V hn' hp (hB'.below hb) (hP.below hb)
        rw [h] at this
        exact this)
      (fun V block r nd hb h => by
        have := holds_any a a' b n c n' c' p f ns ps root gen block r V hn' hp (hB'.below hb) (hP.below hb)
        rw [h] at this
        exact this)
      holds_len 8 (by decide) V _ _ TreeS.none root ⟨#[]⟩ ⟨#[]⟩ hV T (by decide) (by decide)
  obtain ⟨x0, x1, x2, x3, x4⟩ := id (hW ▸ BW)
  clear hn' hp hB' hP
  by_cases hr : root = 0
  · have ht : treeS ns ps root gen = TreeS.none := by unfold treeS; rw [if_pos hr]
    rw [ht]
    subst hr
    clear ht cB
    go_enter Tryz.func15, Tryz.ntmps15
    go_wp2
    go_ret
    exact ⟨_, _, rfl, hW ▸ T0, hW ▸ HB⟩
  · have ht : treeS ns ps root gen = belowS (holdsS ns ps gen) 8 TreeS.none root ⟨#[]⟩ ⟨#[]⟩ := by unfold treeS; rw [if_neg hr]
    rw [ht]
    clear ht
    go_enter Tryz.func15, Tryz.ntmps15
    go_wp2_with (go_at_call 26; rw [← hW]; refine (cB _ HB T0).mono ?_; rintro y w1 ⟨rfl, v1, v2, D, G⟩)
    have HB1 := Grows.low (S := 0) T0 G HB hle
    go_ret
    exact ⟨v1, v2, rfl, D, HB1⟩

set_option maxRecDepth 20000 in
set_option maxHeartbeats 2000000 in
/-- RIGHT. -/
theorem refRightW_any (a a' b : Option Addr) (n c n' c' p f : Nat) (bs ns : List Bool) (ps : List ByteArray) (root gen : Int) (w : World) (hn : n = bs.length) (hn' : n' = ns.length) (hp : p = ps.length) (hB : IsB w a c bs) (hB' : IsB w a' c' ns) (hP : IsS w b f ps) :
    Calls Tryz.prog 12 #[.agg #[.slice a n c, .slice a' n' c', .slice b p f, .int .i64 root, .int .i64 gen]] w fun e w' => e = .returned (.bool (rightW bs ns ps root gen)) ∧ Below w.heap.size w w' := by
  obtain ⟨W, hW⟩ : ∃ W, W = (w.alloc (.cells #[.slice a n c, .slice a' n' c', .slice b p f, .int .i64 root, .int .i64 gen] 27)).alloc (.cells #[.slice a n c, .slice a' n' c'] 24) := ⟨_, rfl⟩
  have HB : Below w.heap.size w W := by rw [hW]; exact ((Below.refl _ _).alloc (Nat.le_refl _) _).alloc (by simp) _
  have BW : WoodBox W w.heap.size (.slice a n c) (.slice a' n' c') (.slice b p f) (.int .i64 root) (.int .i64 gen) := by rw [hW]; exact (woodBox_new _ _ _ _ _ _ _ rfl).below ((Below.refl _ _).alloc (Nat.le_refl _) _)
  have cA := allocRefRight_any a a' c c' n n' bs ns W hn hn' (hB.below HB) (hB'.below HB)
  have mn : n' ≤ 9223372036854775807 := by rw [hn']; exact Nat.le_trans hB'.1 hB'.2.1
  have mp : p ≤ 9223372036854775807 := by rw [hp]; exact Nat.le_trans hP.1 hP.2.1
  obtain ⟨r, hr⟩ : ∃ r, r = rightW bs ns ps root gen := ⟨_, rfl⟩
  rw [← hr]
  unfold rightW at hr
  have EP : Hid (p = ps.length) := hp
  have EN : Hid (n' = ns.length) := hn'
  have RP : Hid (IsS w b f ps) := hP
  obtain ⟨x0, x1, x2, x3, x4⟩ := id (hW ▸ BW)
  clear hn hn' hp hB hB' hP
  cases hA : rightA bs ns with
  | false =>
    rw [hA] at hr cA
    replace hr : r = false := by rw [hr]; simp
    clear hA
    go_enter Tryz.func12, Tryz.ntmps12
    go_wp2_with (go_at_call 25; rw [← hW]; refine cA.mono ?_; rintro y w1 ⟨rfl, hb⟩; replace HB := Below.tr HB hb; replace BW := BW.below hb; clear x0 x1 x2 x3 x4; obtain ⟨x0, x1, x2, x3, x4⟩ := id BW; clear hb)
    go_ret
    exact ⟨by rw [hr]; rfl, HB⟩
  | true =>
    rw [hA] at hr cA
    clear hA
    by_cases h1 : p = n'
    · by_cases h2 : 1 ≤ gen
      · have h2' : ¬ gen < 1 := by omega
        by_cases h3 : gen ≤ 1099511627776
        · have h3' : ¬ 1099511627776 < gen := by omega
          have hr1 : Hid (r = (ps.all (fun s => decide (s.size ≤ 4096)) && (decide (root = 0) || (decide (10 ≤ root) && decide (root < ns.length))))) := by
            show _ = _
            rw [hr, decide_eq_true (show ps.length = ns.length by rw [← EP.out, ← EN.out]; exact h1), decide_eq_true h2, decide_eq_true h3]
            rfl
          have h1' : ((p : Int) != n') = false := by simp [h1]
          clear hr h1
          go_enter Tryz.func12, Tryz.ntmps12
          go_wp2_with (go_at_call 25; rw [← hW]; refine cA.mono ?_; rintro y w1 ⟨rfl, hb⟩; replace HB := Below.tr HB hb; replace BW := BW.below hb; clear x0 x1 x2 x3 x4; obtain ⟨x0, x1, x2, x3, x4⟩ := id BW; clear hb)
          go_loop [39] (fun v => ∃ j : Nat, j ≤ p ∧ v = .int .i64 j ∧ (ps.take j).all (fun s => decide (s.size ≤ 4096)) = true) (fun v => p - (intOf v).toNat)
          case atStart => exact ⟨0, by omega, rfl, rfl⟩
          case round =>
            obtain ⟨j, hj, rfl, hA⟩ := hrel
            have HA : Hid ((ps.take j).all (fun s => decide (s.size ≤ 4096)) = true) := hA
            clear hA
            by_cases hlt : j < p
            · have hlt' : (j : Int) < p := by omega
              obtain ⟨s, hs⟩ : ∃ x, Hid (ps[j]? = some x) := get_some (by rw [← EP.out]; exact hlt)
              obtain ⟨b1, o1, rfl, -, hc0, hss⟩ := RP.out.2.2 j s hs.out
              have hc := cell_below HB hc0
              clear hc0
              by_cases hsz : s.size ≤ 4096
              · have hsz' : ¬ (4096 : Int) < s.size := by omega
                go_wp2
                go_round
                case rel => exact ⟨j + 1, by omega, by go_num, by rw [all_more hs.out, HA.out, decide_eq_true hsz]; rfl⟩
                case measure => simp [intOf]; omega
              · have hsz' : (4096 : Int) < s.size := by omega
                have hrf : Hid (r = false) := by
                  show _ = _
                  rw [hr1.out, List.all_eq_false.2 ⟨s, List.mem_of_getElem? hs.out, by simpa using hsz⟩]
                  rfl
                go_wp2
                go_ret
                exact ⟨by rw [hrf.out]; rfl, HB⟩
            · obtain rfl : p = j := by omega
              have hj0 : ¬ (p : Int) < p := by omega
              have hall : ps.all (fun s => decide (s.size ≤ 4096)) = true := by
                have := HA.out
                rw [EP.out, List.take_length] at this
                exact this
              by_cases hr0 : root = 0
              · have hrf : Hid (r = true) := by show _ = _; rw [hr1.out, hall, decide_eq_true hr0]; rfl
                clear hall
                subst hr0
                go_wp2
                go_ret
                exact ⟨by rw [hrf.out]; rfl, HB⟩
              · have hr00 : (root == 0) = false := by simpa using hr0
                by_cases hr10 : 10 ≤ root
                · have hr10' : ¬ root < 10 := by omega
                  have hrf : Hid (r = decide (root < (n' : Int))) := by show _ = _; rw [hr1.out, hall, decide_eq_false hr0, decide_eq_true hr10, EN.out]; rfl
                  clear hall
                  go_wp2
                  go_ret
                  exact ⟨by rw [hrf.out]; rfl, HB⟩
                · have hr10' : root < 10 := by omega
                  have hrf : Hid (r = false) := by show _ = _; rw [hr1.out, hall, decide_eq_false hr0, decide_eq_false hr10]; rfl
                  clear hall
                  go_wp2
                  go_ret
                  exact ⟨by rw [hrf.out]; rfl, HB⟩
        · have h3' : 1099511627776 < gen := by omega
          have h1' : ((p : Int) != n') = false := by simp [h1]
          replace hr : r = false := by rw [hr, decide_eq_false h3]; simp
          clear h1
          go_enter Tryz.func12, Tryz.ntmps12
          go_wp2_with (go_at_call 25; rw [← hW]; refine cA.mono ?_; rintro y w1 ⟨rfl, hb⟩; replace HB := Below.tr HB hb; replace BW := BW.below hb; clear x0 x1 x2 x3 x4; obtain ⟨x0, x1, x2, x3, x4⟩ := id BW; clear hb)
          go_ret
          exact ⟨by rw [hr]; rfl, HB⟩
      · have h2' : gen < 1 := by omega
        have h1' : ((p : Int) != n') = false := by simp [h1]
        replace hr : r = false := by rw [hr, decide_eq_false h2]; simp
        clear h1
        go_enter Tryz.func12, Tryz.ntmps12
        go_wp2_with (go_at_call 25; rw [← hW]; refine cA.mono ?_; rintro y w1 ⟨rfl, hb⟩; replace HB := Below.tr HB hb; replace BW := BW.below hb; clear x0 x1 x2 x3 x4; obtain ⟨x0, x1, x2, x3, x4⟩ := id BW; clear hb)
        go_ret
        exact ⟨by rw [hr]; rfl, HB⟩
    · have h1' : ((p : Int) != n') = true := by simp; omega
      replace hr : r = false := by rw [hr, decide_eq_false (show ¬ ps.length = ns.length by rw [← EP.out, ← EN.out]; exact h1)]; simp
      go_enter Tryz.func12, Tryz.ntmps12
      go_wp2_with (go_at_call 25; rw [← hW]; refine cA.mono ?_; rintro y w1 ⟨rfl, hb⟩; replace HB := Below.tr HB hb; replace BW := BW.below hb; clear x0 x1 x2 x3 x4; obtain ⟨x0, x1, x2, x3, x4⟩ := id BW; clear hb)
      go_ret
      exact ⟨by rw [hr]; rfl, HB⟩

end Go.Proofs.YtaecfbfcjaailaaGreat

namespace Go.Proofs.YtaecfbfcjaailaaGreat
open Go.RowKit Plain
set_option linter.unusedVariables false

set_option maxHeartbeats 400000 in
theorem number_any (n k : Int) (w : World) :
    Calls Tryz.prog 121 #[.int .i64 n, .int .i64 k] w fun e w' => e = .returned (.string (putS n k)) ∧ Below w.heap.size w w' := by
  go_enter Tryz.func121, Tryz.ntmps121
  go_wp2_with (go_at_call 126; refine (put_any n k _).mono ?_; rintro e w' ⟨rfl, hb⟩)
  go_ret
  exact ⟨rfl, hb⟩

set_option maxHeartbeats 400000 in
theorem nodeText_any (s : ByteArray) (w : World) (hs : s.size ≤ maxLen) :
    Calls Tryz.prog 140 #[.string s] w fun e w' => e = .returned (.string (textS s)) ∧ Below w.heap.size w w' := by
  go_enter Tryz.func140, Tryz.ntmps140
  go_wp2_with (go_at_call 127; refine (text_any s _ hs).mono ?_; rintro e w' ⟨rfl, hb⟩)
  go_ret
  exact ⟨rfl, hb⟩

theorem textS_le (s : ByteArray) : (textS s).size ≤ 65537 := by
  by_cases h : s.size ≤ 65535
  · rw [textS_size h]; omega
  · rw [textS, if_neg h]; simp [ByteArray.size]

theorem putS_le (n : Int) {k : Int} : (putS n k).size ≤ 65537 := by
  by_cases h : putOk n k = true
  · have := putS_size h
    have := ((putOk_iff n k).1 h).2.1
    omega
  · rw [putS_bad (by simpa using h)]; simp [ByteArray.size]

theorem cat_two_step (P : List ByteArray) (x y : ByteArray) : cat [cat P, x, y] = cat (P ++ [x, y]) := by
  rw [(cat_two_more P x y []).2.2]
  rw [show [cat P, x, y] = [cat P] ++ ([x] ++ [y]) by rfl, cat_append, cat_append, cat_one, cat_one, cat_one, ByteArray.append_assoc]

theorem leafP_next {ks vs : List ByteArray} {j : Nat} {k v : ByteArray} (hl : ks.length = vs.length) (hk : ks[j]? = some k) (hv : vs[j]? = some v) :
    cat [cat (leafP (ks.take j) (vs.take j)), textS k, textS v] = cat (leafP (ks.take (j + 1)) (vs.take (j + 1))) := by
  rw [take_at' hk, take_at' hv, leafP_snoc (by rw [List.length_take, List.length_take, hl])]
  exact cat_two_step _ _ _

theorem leafP_bound {ks vs : List ByteArray} (h : standsN true ks vs [] = true) (j : Nat) : (cat (leafP (ks.take j) (vs.take j))).size ≤ 2124 := by
  obtain ⟨h9, hk, _, hv, _, _⟩ := standsN_iff.1 h
  have := leafP_size (ks := ks.take j) (vs := vs.take j) (fun k hm => (hk k (List.mem_of_mem_take hm)).2) (fun v hm => hv v (List.mem_of_mem_take hm))
  have h2 : (ks.take j).length ≤ 9 := by rw [List.length_take]; omega
  omega

theorem leaf_one_eq {ks vs : List ByteArray} {cs : List Int} (h : standsN true ks vs cs = true) : cs = [] ∧ vs.length = ks.length := by
  obtain ⟨_, _, _, _, _, hs⟩ := standsN_iff.1 h
  obtain ⟨e1, e2⟩ := shape_leaf.1 hs
  exact ⟨List.length_eq_zero_iff.1 e2, e1⟩

theorem inner_one_eq {ks vs : List ByteArray} {cs : List Int} (h : standsN false ks vs cs = true) : vs = [] ∧ cs.length = ks.length + 1 ∧ 1 ≤ ks.length := by
  obtain ⟨_, _, _, _, _, hs⟩ := standsN_iff.1 h
  obtain ⟨e1, e2, e3⟩ := shape_inner.1 hs
  exact ⟨List.length_eq_zero_iff.1 e1, e3, e2⟩

set_option maxRecDepth 20000 in
set_option maxHeartbeats 2000000 in
/-- PAIRS, of a leaf that may stand. -/
theorem pairs_any (l : Bool) (a a' a'' : Option Addr) (c c' c'' n n' n'' : Nat) (ks vs : List ByteArray) (w : World) (hn : n = ks.length) (hn' : n' = vs.length) (hK : IsS w a c ks) (hV : IsS w a' c' vs) (hs : standsN true ks vs [] = true) :
    Calls Tryz.prog 123 #[.agg #[.bool l, .slice a n c, .slice a' n' c', .slice a'' n'' c'']] w fun e w' => e = .returned (.string (cat (leafP ks vs))) ∧ Below w.heap.size w w' := by
  obtain ⟨W, hW⟩ : ∃ W, W = w.alloc (.cells #[.bool l, .slice a n c, .slice a' n' c', .slice a'' n'' c''] 76) := ⟨_, rfl⟩
  have hB0 : Below w.heap.size w W := by rw [hW]; exact (Below.refl _ _).alloc (Nat.le_refl _) _
  have hX : Box4 W w.heap.size (.bool l) (.slice a n c) (.slice a' n' c') (.slice a'' n'' c'') := by rw [hW]; exact box4_new _ _ _ _ _ _ rfl
  have hm : n ≤ 9 := by rw [hn]; exact (standsN_iff.1 hs).1
  have HK : Hid (IsS w a c ks) := hK
  have HV : Hid (IsS w a' c' vs) := hV
  have EK : Hid (n = ks.length) := hn
  have hnn : n' = n := by rw [hn, hn']; exact (leaf_one_eq hs).2
  subst hnn
  have EV : Hid (n' = vs.length) := hn'
  have HB : Hid (∀ j, (cat (leafP (ks.take j) (vs.take j))).size ≤ 2124) := leafP_bound hs
  have HS : Hid (standsN true ks vs [] = true) := hs
  clear hn hn' hK hV hs
  obtain ⟨⟨q0, q1, q2, q3⟩, -⟩ := id hX
  go_enter Tryz.func123, Tryz.ntmps123
  go_wp2
  rw [← hW]
  clear hW
  go_loopw [3, 9] (fun s v wr => ∃ j : Nat, j ≤ n' ∧ v = .int .i64 j ∧ s = .string (cat (leafP (ks.take j) (vs.take j))) ∧ Below W.heap.size W wr) (fun _ v _ => n' - (intOf v).toNat)
  case atStart => exact ⟨0, by omega, rfl, by simp [leafP, cat], Below.refl _ _⟩
  case round =>
    obtain ⟨j, hj, rfl, rfl, hbel⟩ := hrel
    clear q0 q1 q2 q3
    replace hX := hX.below hbel
    replace hB0 := Below.tr hB0 hbel
    obtain ⟨⟨q0, q1, q2, q3⟩, -⟩ := id hX
    by_cases hlt : j < n'
    · have hlt' : (j : Int) < n' := by omega
      obtain ⟨k, hk⟩ : ∃ x, Hid (ks[j]? = some x) := ⟨_, List.getElem?_eq_getElem (by rw [← EK.out]; exact hlt)⟩
      obtain ⟨v, hv⟩ : ∃ x, Hid (vs[j]? = some x) := ⟨_, List.getElem?_eq_getElem (by rw [← EV.out]; exact hlt)⟩
      obtain ⟨b, o, rfl, hlb, hc0, hxs⟩ := HK.out.2.2 j k hk.out
      obtain ⟨b', o', rfl, hlb', hc0', hxs'⟩ := HV.out.2.2 j v hv.out
      have hck := cell_below hB0 hc0
      have hcv := cell_below hB0 hc0'
      have cT : ∀ V, Calls Tryz.prog 140 #[.string k] V fun e w' => e = .returned (.string (textS k)) ∧ Below V.heap.size V w' := fun V => nodeText_any k V hxs
      have cU : ∀ V, Calls Tryz.prog 140 #[.string v] V fun e w' => e = .returned (.string (textS v)) ∧ Below V.heap.size V w' := fun V => nodeText_any v V hxs'
      have b1 : (textS k).size ≤ 65537 := textS_le k
      have b2 : (textS v).size ≤ 65537 := textS_le v
      have b3 := HB.out j
      have hN : Hid (cat [cat (leafP (ks.take j) (vs.take j)), textS k, textS v] = cat (leafP (ks.take (j + 1)) (vs.take (j + 1)))) := leafP_next (by rw [← EK.out, ← EV.out]) hk.out hv.out
      generalize cat (leafP (ks.take j) (vs.take j)) = s at b3 hN
      generalize textS k = tk at cT b1 hN
      generalize textS v = tv at cU b2 hN
      have cA : ∀ V, Calls Tryz.prog 122 #[.slice (some ⟨V.heap.size, 0, none⟩) 3 3] (V.alloc (.cells #[.string s, .string tk, .string tv] 9)) fun e w' => e = .returned (.string (cat [s, tk, tv])) ∧ Below V.heap.size V w' := fun V => all_three s tk tv V (by omega)
      clear hc0 hc0' hlb hlb' HB
      have tok1 : True := trivial
      have HB := Below.refl wr.heap.size wr
      go_wp2
      replace HB := HB.drew
      go_region_held3 (fun V => V.cell? ⟨w.heap.size, 2, none⟩ = some (.slice (some ⟨b', o', none⟩) n' c') ∧ V.cell? ⟨b', o' + j, none⟩ = some (.string v)) (first | exact ⟨q2, hcv⟩ | exact ⟨cell_alloc q2 _, cell_alloc hcv _⟩) (first
        | (go_at_call 140; have _t := tok1; refine (cT _).mono ?_; rintro e w1 ⟨rfl, hb⟩; replace q2 := cell_below hb q2; replace hcv := cell_below hb hcv; replace HB := Below.tr HB hb; clear hb tok1 _t)
        | (go_at_call 140; refine (cU _).mono ?_; rintro e w2 ⟨rfl, hb⟩; replace q2 := cell_below hb q2; replace hcv := cell_below hb hcv; replace HB := Below.tr HB hb; clear hb)
        | (go_at_call 122; refine (cA _).mono ?_; rintro e w3 ⟨rfl, hb⟩; replace q2 := cell_below hb q2; replace hcv := cell_below hb hcv; replace HB := Below.tr HB hb; clear hb))
      go_wp2
      go_roundw
      case rel => exact ⟨j + 1, by omega, by go_num, by rw [hN.out], Below.tr hbel HB⟩
      case measure => simp [intOf]; omega
    · obtain rfl : j = n' := by omega
      have e1 : Hid (leafP (ks.take j) (vs.take j) = leafP ks vs) := by
        show _ = _
        rw [List.take_of_length_le (by rw [← EK.out]; exact Nat.le_refl _), List.take_of_length_le (by rw [← EV.out]; exact Nat.le_refl _)]
      go_wp2
      go_ret
      exact ⟨ret_str (by rw [e1.out]), hB0⟩

/-- What children has behind so many keys. -/
def kidS (ks : List ByteArray) (cs : List Int) (j : Nat) : ByteArray := cat (innP (ks.take j) (cs.take j) ++ [putS (cs.getD j 0) 2])

theorem kidS_next {ks : List ByteArray} {cs : List Int} {j : Nat} {k : ByteArray} {c d : Int} (hl : ks.length ≤ cs.length) (hk : ks[j]? = some k) (hc : cs[j]? = some c) (hd : cs[j + 1]? = some d) :
    cat [kidS ks cs j, textS k, putS d 2] = kidS ks cs (j + 1) := by
  unfold kidS
  rw [cat_two_step, take_at' hk, take_at' hc, innP_snoc (by rw [List.length_take, List.length_take]; have := (List.getElem?_eq_some_iff.1 hk).1; omega), List.getD_eq_getElem?_getD, hc, List.getD_eq_getElem?_getD, hd]
  simp

theorem kidS_bound {ks : List ByteArray} {cs : List Int} (h : standsN false ks [] cs = true) (j : Nat) (hj : j ≤ ks.length) : (kidS ks cs j).size ≤ 326 := by
  obtain ⟨h9, hk, _, _, hc, _⟩ := standsN_iff.1 h
  obtain ⟨_, hl, _⟩ := inner_one_eq h
  have bc : ∀ c ∈ cs, putOk c 2 = true := fun c hm => two_ok (by have := (hc c hm).1; omega) (by have := (hc c hm).2; omega)
  have h1 := innP_size (ks := ks.take j) (cs := cs.take j) (fun k hm => (hk k (List.mem_of_mem_take hm)).2) (fun v hm => bc v (List.mem_of_mem_take hm))
  have h2 : (ks.take j).length ≤ 9 := by rw [List.length_take]; omega
  obtain ⟨z, hz⟩ : ∃ z, cs[j]? = some z := ⟨_, List.getElem?_eq_getElem (by omega)⟩
  have h3 := putS_size (bc z (List.mem_of_getElem? hz))
  unfold kidS
  rw [cat_append, cat_one, ByteArray.size_append, List.getD_eq_getElem?_getD, hz]
  simp only [Option.getD_some]
  omega

set_option maxRecDepth 20000 in
set_option maxHeartbeats 2000000 in
/-- CHILDREN, of an inner node that may stand. -/
theorem children_any (l : Bool) (a a' a'' : Option Addr) (c c' c'' n n' n'' : Nat) (ks : List ByteArray) (cs : List Int) (w : World) (hn : n = ks.length) (hn'' : n'' = cs.length) (hK : IsS w a c ks) (hC : IsI w a'' c'' cs) (hs : standsN false ks [] cs = true) :
    Calls Tryz.prog 124 #[.agg #[.bool l, .slice a n c, .slice a' n' c', .slice a'' n'' c'']] w fun e w' => e = .returned (.string (cat (innP ks cs ++ [putS (cs.getD ks.length 0) 2]))) ∧ Below w.heap.size w w' := by
  obtain ⟨W, hW⟩ : ∃ W, W = w.alloc (.cells #[.bool l, .slice a n c, .slice a' n' c', .slice a'' n'' c''] 76) := ⟨_, rfl⟩
  have hB0 : Below w.heap.size w W := by rw [hW]; exact (Below.refl _ _).alloc (Nat.le_refl _) _
  have hX : Box4 W w.heap.size (.bool l) (.slice a n c) (.slice a' n' c') (.slice a'' n'' c'') := by rw [hW]; exact box4_new _ _ _ _ _ _ rfl
  have hm : n ≤ 9 := by rw [hn]; exact (standsN_iff.1 hs).1
  have HK : Hid (IsS w a c ks) := hK
  have HC : Hid (IsI w a'' c'' cs) := hC
  have EK : Hid (n = ks.length) := hn
  have hnn : n'' = n + 1 := by rw [hn, hn'']; exact (inner_one_eq hs).2.1
  have EC : Hid (n + 1 = cs.length) := by show _ = _; rw [← hn'', hnn]
  subst hnn
  have HB : Hid (∀ j, j ≤ ks.length → (kidS ks cs j).size ≤ 326) := kidS_bound hs
  clear hn hn'' hK hC hs
  have hz0 : 0 < cs.length := by rw [← EC.out]; omega
  obtain ⟨z, hz⟩ : ∃ x, Hid (cs[0]? = some x) := ⟨cs[0], List.getElem?_eq_getElem (i := 0) hz0⟩
  clear hz0
  obtain ⟨b', o', rfl, hlb', hc0'⟩ := HC.out.2.2 0 z hz.out
  have hcz := cell_below hB0 hc0'
  rw [Nat.add_zero] at hcz
  have H0 : Hid (putS z 2 = kidS ks cs 0) := by show _ = _; unfold kidS; rw [List.getD_eq_getElem?_getD, hz.out]; simp [innP, cat_one]
  clear hc0' hlb'
  have cN : ∀ V, Calls Tryz.prog 121 #[.int .i64 z, .int .i64 2] V fun e w' => e = .returned (.string (putS z 2)) ∧ Below V.heap.size V w' := fun V => number_any z 2 V
  generalize putS z 2 = pz at cN H0
  obtain ⟨⟨q0, q1, q2, q3⟩, -⟩ := id hX
  have e1 : ((n + 1 : Nat) : Int) = (n : Int) + 1 := by omega
  have hcr := hcz
  rw [hW] at hcr
  go_enter Tryz.func124, Tryz.ntmps124
  go_wp2_with (go_at_call 121; rw [← hW]; refine (cN _).mono ?_; rintro e w1 ⟨rfl, hb⟩; replace hX := hX.below hb; replace hB0 := Below.tr hB0 hb; clear q0 q1 q2 q3 hb hcz hcr cN; obtain ⟨⟨q0, q1, q2, q3⟩, -⟩ := id hX)
  clear hW
  go_loopw [3, 14] (fun s v wr => ∃ j : Nat, j ≤ n ∧ v = .int .i64 j ∧ s = .string (kidS ks cs j) ∧ Below w1.heap.size w1 wr) (fun _ v _ => n - (intOf v).toNat)
  case atStart => exact ⟨0, by omega, rfl, by rw [H0.out], Below.refl _ _⟩
  case round =>
    obtain ⟨j, hj, rfl, rfl, hbel⟩ := hrel
    clear q0 q1 q2 q3
    replace hX := hX.below hbel
    replace hB0 := Below.tr hB0 hbel
    obtain ⟨⟨q0, q1, q2, q3⟩, -⟩ := id hX
    by_cases hlt : j < n
    · have hlt' : (j : Int) < n := by omega
      obtain ⟨k, hk⟩ : ∃ x, Hid (ks[j]? = some x) := ⟨_, List.getElem?_eq_getElem (by rw [← EK.out]; exact hlt)⟩
      obtain ⟨y, hy⟩ : ∃ x, Hid (cs[j]? = some x) := ⟨_, List.getElem?_eq_getElem (by rw [← EC.out]; omega)⟩
      obtain ⟨d, hd⟩ : ∃ x, Hid (cs[j + 1]? = some x) := ⟨_, List.getElem?_eq_getElem (by rw [← EC.out]; omega)⟩
      obtain ⟨b, o, rfl, hlb, hc0, hxs⟩ := HK.out.2.2 j k hk.out
      obtain ⟨bb, oo, hbo, hlb2, hc2⟩ := HC.out.2.2 (j + 1) d hd.out
      obtain ⟨rfl, rfl⟩ : bb = b' ∧ oo = o' := by cases hbo; exact ⟨rfl, rfl⟩
      have hck := cell_below hB0 hc0
      have hcv := cell_below hB0 hc2
      have cT : ∀ V, Calls Tryz.prog 140 #[.string k] V fun e w' => e = .returned (.string (textS k)) ∧ Below V.heap.size V w' := fun V => nodeText_any k V hxs
      have cU : ∀ V, Calls Tryz.prog 121 #[.int .i64 d, .int .i64 2] V fun e w' => e = .returned (.string (putS d 2)) ∧ Below V.heap.size V w' := fun V => number_any d 2 V
      have b1 : (textS k).size ≤ 65537 := textS_le k
      have b2 : (putS d 2).size ≤ 65537 := putS_le d
      have b3 := HB.out j (by rw [← EK.out]; omega)
      have hN : Hid (cat [kidS ks cs j, textS k, putS d 2] = kidS ks cs (j + 1)) := kidS_next (by rw [← EK.out, ← EC.out]; omega) hk.out hy.out hd.out
      generalize kidS ks cs j = s at b3 hN
      generalize textS k = tk at cT b1 hN
      generalize putS d 2 = tv at cU b2 hN
      have cA : ∀ V, Calls Tryz.prog 122 #[.slice (some ⟨V.heap.size, 0, none⟩) 3 3] (V.alloc (.cells #[.string s, .string tk, .string tv] 9)) fun e w' => e = .returned (.string (cat [s, tk, tv])) ∧ Below V.heap.size V w' := fun V => all_three s tk tv V (by omega)
      clear hc0 hc2 hlb hlb2 HB hbo
      have HB := Below.refl wr.heap.size wr
      have w1 : IntKind.i64.wrap ((j : Int) + 1) = (j : Int) + 1 := i64_in _ (by omega) (by omega)
      have w2 : (0 : Int) ≤ (j : Int) + 1 := by omega
      have w3 : (j : Int) + 1 < (n : Int) + 1 := by omega
      have w4 : ((j : Int) + 1).toNat = j + 1 := by omega
      go_wp2
      replace HB := HB.drew
      go_region_held3 (fun V => V.cell? ⟨w.heap.size, 3, none⟩ = some (.slice (some ⟨bb, oo, none⟩) (n + 1) c'') ∧ V.cell? ⟨bb, oo + (j + 1), none⟩ = some (.int .i64 d)) (first | exact ⟨q3, hcv⟩ | exact ⟨cell_alloc q3 _, cell_alloc hcv _⟩) (first
        | (go_at_call 140; refine (cT _).mono ?_; rintro e w1 ⟨rfl, hb⟩; replace q3 := cell_below hb q3; replace hcv := cell_below hb hcv; replace HB := Below.tr HB hb; clear hb)
        | (go_at_call 121; refine (cU _).mono ?_; rintro e w2 ⟨rfl, hb⟩; replace q3 := cell_below hb q3; replace hcv := cell_below hb hcv; replace HB := Below.tr HB hb; clear hb)
        | (go_at_call 122; refine (cA _).mono ?_; rintro e w3 ⟨rfl, hb⟩; replace q3 := cell_below hb q3; replace hcv := cell_below hb hcv; replace HB := Below.tr HB hb; clear hb))
      go_wp2
      go_roundw
      case rel => exact ⟨j + 1, by omega, by go_num, by rw [hN.out], Below.tr hbel HB⟩
      case measure => simp [intOf]; omega
    · obtain rfl : j = n := by omega
      have e1 : Hid (kidS ks cs j = cat (innP ks cs ++ [putS (cs.getD ks.length 0) 2])) := by
        show _ = _
        unfold kidS
        have ec : cs = cs.take j ++ cs.drop j := (List.take_append_drop _ _).symm
        have e2 : innP ks (cs.take j) = innP ks cs := by
          conv => rhs; rw [ec]
          exact (innP_more ks _ _ (by rw [List.length_take, ← EC.out, ← EK.out]; omega)).symm
        rw [List.take_of_length_le (by rw [← EK.out]; exact Nat.le_refl _), e2, ← EK.out]
      go_wp2
      go_ret
      exact ⟨ret_str (by rw [e1.out]), hB0⟩

/-- What is put of a node, and the error. -/
def nPutS (l : Bool) (ks vs : List ByteArray) (cs : List Int) : ByteArray := if rightN l ks vs cs true = true then nodeS l ks vs cs else ⟨#[]⟩
def nPutE (l : Bool) (ks vs : List ByteArray) (cs : List Int) : Int := if rightN l ks vs cs true = true then 0 else 1

theorem nodeS_leaf (ks vs : List ByteArray) (cs : List Int) : nodeS true ks vs cs = cat [putS ks.length 1, cat (leafP ks vs)] := by
  unfold nodeS nodeP
  rw [if_pos rfl]
  rw [show putS (ks.length : Int) 1 :: leafP ks vs = [putS (ks.length : Int) 1] ++ leafP ks vs by rfl, cat_append]
  rw [show [putS (ks.length : Int) 1, cat (leafP ks vs)] = [putS (ks.length : Int) 1] ++ [cat (leafP ks vs)] by rfl, cat_append, cat_one (cat _)]

theorem nodeS_inner (ks vs : List ByteArray) (cs : List Int) : nodeS false ks vs cs = cat [putS ks.length 1, cat (innP ks cs ++ [putS (cs.getD ks.length 0) 2])] := by
  unfold nodeS nodeP
  rw [if_neg (by decide)]
  generalize innP ks cs ++ [putS (cs.getD ks.length 0) 2] = X
  rw [show putS (ks.length : Int) 1 :: X = [putS (ks.length : Int) 1] ++ X by rfl, cat_append]
  rw [show [putS (ks.length : Int) 1, cat X] = [putS (ks.length : Int) 1] ++ [cat X] by rfl, cat_append, cat_one (cat _)]

set_option maxRecDepth 20000 in
set_option maxHeartbeats 2000000 in
/-- PUT, at all nodes. -/
theorem nodePut_any (l : Bool) (a a' a'' : Option Addr) (c c' c'' n n' n'' : Nat) (ks vs : List ByteArray) (cs : List Int) (w : World) (hn : n = ks.length) (hn' : n' = vs.length) (hn'' : n'' = cs.length) (hK : IsS w a c ks) (hV : IsS w a' c' vs) (hC : IsI w a'' c'' cs) :
    Calls Tryz.prog 100 #[.agg #[.bool l, .slice a n c, .slice a' n' c', .slice a'' n'' c'']] w fun e w' => e = .returned (.tuple #[.string (nPutS l ks vs cs), .int .i64 (nPutE l ks vs cs)]) ∧ Below w.heap.size w w' := by
  obtain ⟨W, hW⟩ : ∃ W, W = w.alloc (.cells #[.bool l, .slice a n c, .slice a' n' c', .slice a'' n'' c''] 76) := ⟨_, rfl⟩
  have hB0 : Below w.heap.size w W := by rw [hW]; exact (Below.refl _ _).alloc (Nat.le_refl _) _
  have hX : Box4 W w.heap.size (.bool l) (.slice a n c) (.slice a' n' c') (.slice a'' n'' c'') := by rw [hW]; exact box4_new _ _ _ _ _ _ rfl
  have cR : ∀ V, Below w.heap.size w V → Calls Tryz.prog 80 #[.agg #[.bool l, .slice a n c, .slice a' n' c', .slice a'' n'' c''], .bool true] V fun e w' => e = .returned (.bool (rightN l ks vs cs true)) ∧ Below V.heap.size V w' := fun V h => nodeRight_any _ _ _ _ _ _ _ _ _ _ _ _ _ _ _ hn hn' hn'' (hK.below h) (hV.below h) (hC.below h)
  have cN : ∀ V, Calls Tryz.prog 121 #[.int .i64 n, .int .i64 1] V fun e w' => e = .returned (.string (putS n 1)) ∧ Below V.heap.size V w' := fun V => number_any n 1 V
  have hm : n ≤ 9223372036854775807 := by rw [hn]; exact hK.size
  unfold nPutS nPutE
  cases hr : rightN l ks vs cs true with
  | true =>
    rw [if_pos rfl, if_pos rfl]
    rw [hr] at cR
    obtain ⟨hst, h8, _⟩ := rightN_iff.1 hr
    have hone : (putS n 1).size ≤ 65537 := putS_le _
    cases l with
    | true =>
      obtain ⟨rfl, hlen⟩ := leaf_one_eq hst
      have cP : ∀ V, Below w.heap.size w V → Calls Tryz.prog 123 #[.agg #[.bool true, .slice a n c, .slice a' n' c', .slice a'' n'' c'']] V fun e w' => e = .returned (.string (cat (leafP ks vs))) ∧ Below V.heap.size V w' := fun V h => pairs_any _ _ _ _ _ _ _ _ _ _ _ _ _ hn hn' (hK.below h) (hV.below h) hst
      have hb := leafP_bound hst ks.length
      rw [List.take_length, List.take_of_length_le (by omega)] at hb
      rw [nodeS_leaf, ← hn]
      generalize putS n 1 = p1 at hone cN
      generalize cat (leafP ks vs) = p2 at hb cP
      have cA : ∀ V, Calls Tryz.prog 122 #[.slice (some ⟨V.heap.size, 0, none⟩) 2 2] (V.alloc (.cells #[.string p1, .string p2] 9)) fun e w' => e = .returned (.string (cat [p1, p2])) ∧ Below V.heap.size V w' := fun V => all_two p1 p2 V (by omega)
      clear hn hn' hn'' hK hV hC hr hst h8 hone hb
      obtain ⟨⟨q0, q1, q2, q3⟩, -⟩ := id hX
      go_enter Tryz.func100, Tryz.ntmps100
      go_wp2_with (first
        | (go_at_call 80; rw [← hW]; refine (cR _ hB0).mono ?_; rintro e w1 ⟨rfl, hb⟩; replace hX := hX.below hb; replace hB0 := Below.tr hB0 hb; clear q0 q1 q2 q3 hb cR; obtain ⟨⟨q0, q1, q2, q3⟩, -⟩ := id hX)
        | (go_at_call 121; refine (cN _).mono ?_; rintro e w1 ⟨rfl, hb⟩; replace hX := hX.below hb; replace hB0 := Below.tr hB0 hb; clear q0 q1 q2 q3 hb cN; obtain ⟨⟨q0, q1, q2, q3⟩, -⟩ := id hX)
        | (go_at_call 123; refine (cP _ hB0).mono ?_; rintro e w1 ⟨rfl, hb⟩; replace hB0 := Below.tr hB0 hb; clear q0 q1 q2 q3 hb cP)
        | (go_at_call 122; refine (cA _).mono ?_; rintro e w1 ⟨rfl, hb⟩; replace hB0 := Below.tr hB0 hb; clear hb))
      go_ret2
      exact ⟨rfl, hB0⟩
    | false =>
      obtain ⟨rfl, hlen, h1⟩ := inner_one_eq hst
      have cP : ∀ V, Below w.heap.size w V → Calls Tryz.prog 124 #[.agg #[.bool false, .slice a n c, .slice a' n' c', .slice a'' n'' c'']] V fun e w' => e = .returned (.string (cat (innP ks cs ++ [putS (cs.getD ks.length 0) 2]))) ∧ Below V.heap.size V w' := fun V h => children_any _ _ _ _ _ _ _ _ _ _ _ _ _ hn hn'' (hK.below h) (hC.below h) hst
      have hb := kidS_bound hst ks.length (Nat.le_refl _)
      have hb' : (cat (innP ks cs ++ [putS (cs.getD ks.length 0) 2])).size ≤ 326 := by
        have e2 : innP ks (cs.take ks.length) = innP ks cs := by
          conv => rhs; rw [(List.take_append_drop ks.length cs).symm]
          exact (innP_more ks _ _ (by rw [List.length_take]; omega)).symm
        unfold kidS at hb
        rw [List.take_length, e2] at hb
        exact hb
      rw [nodeS_inner, ← hn]
      rw [← hn] at cP hb'
      generalize putS n 1 = p1 at hone cN
      generalize cat (innP ks cs ++ [putS (cs.getD n 0) 2]) = p2 at hb' cP
      have cA : ∀ V, Calls Tryz.prog 122 #[.slice (some ⟨V.heap.size, 0, none⟩) 2 2] (V.alloc (.cells #[.string p1, .string p2] 9)) fun e w' => e = .returned (.string (cat [p1, p2])) ∧ Below V.heap.size V w' := fun V => all_two p1 p2 V (by omega)
      clear hn hn' hn'' hK hV hC hr hst h8 hone hb hb' hlen h1
      obtain ⟨⟨q0, q1, q2, q3⟩, -⟩ := id hX
      go_enter Tryz.func100, Tryz.ntmps100
      go_wp2_with (first
        | (go_at_call 80; rw [← hW]; refine (cR _ hB0).mono ?_; rintro e w1 ⟨rfl, hb⟩; replace hX := hX.below hb; replace hB0 := Below.tr hB0 hb; clear q0 q1 q2 q3 hb cR; obtain ⟨⟨q0, q1, q2, q3⟩, -⟩ := id hX)
        | (go_at_call 121; refine (cN _).mono ?_; rintro e w1 ⟨rfl, hb⟩; replace hX := hX.below hb; replace hB0 := Below.tr hB0 hb; clear q0 q1 q2 q3 hb cN; obtain ⟨⟨q0, q1, q2, q3⟩, -⟩ := id hX)
        | (go_at_call 124; refine (cP _ hB0).mono ?_; rintro e w1 ⟨rfl, hb⟩; replace hB0 := Below.tr hB0 hb; clear q0 q1 q2 q3 hb cP)
        | (go_at_call 122; refine (cA _).mono ?_; rintro e w1 ⟨rfl, hb⟩; replace hB0 := Below.tr hB0 hb; clear hb))
      go_ret2
      exact ⟨rfl, hB0⟩
  | false =>
    rw [if_neg (by decide), if_neg (by decide)]
    rw [hr] at cR
    clear hn hn' hn'' hK hV hC hr
    obtain ⟨⟨q0, q1, q2, q3⟩, -⟩ := id hX
    go_enter Tryz.func100, Tryz.ntmps100
    go_wp2_with (go_at_call 80; rw [← hW]; refine (cR _ hB0).mono ?_; rintro e w1 ⟨rfl, hb⟩; replace hX := hX.below hb; replace hB0 := Below.tr hB0 hb; clear q0 q1 q2 q3 hb cR; obtain ⟨⟨q0, q1, q2, q3⟩, -⟩ := id hX)
    go_ret2
    exact ⟨rfl, hB0⟩

theorem put_none : nPutS true [] [] [] = ⟨#[0]⟩ ∧ nPutE true [] [] [] = 0 := by
  constructor
  · unfold nPutS
    rw [if_pos (by decide)]
    decide +kernel
  · unfold nPutE
    rw [if_pos (by decide)]

end Go.Proofs.YtaecfbfcjaailaaGreat

namespace Go.Proofs.YtaecfbfcjaailaaGreat
open Go.RowKit Plain
set_option linter.unusedVariables false

theorem append_nil {w : World} (base : Nat) (t ty e : TypeId) (i : TypeInfo) (size m c : Nat) (hm : m = 0) (ht : Tryz.prog.underlying t = some (.slice e)) (hi : Tryz.prog.info? e = some i)
    (v : Value) (n : Nat) (xs : List Value) (hown : w.ownsRow base e size v n xs) :
    (Builtin.append_ #[t, t] ty #[v, .slice none m c]).run Tryz.prog w = .ok v w := by
  subst hm
  rcases hown.2 with ⟨rfl, rfl⟩ | ⟨g, cap, cur, rfl, _, _, hnc, _⟩
  · simp [Builtin.append_, run_underlying ht, sizeOf, typeInfo, hi, Builtin.lenOf, Builtin.firstCells]
  · simp [Builtin.append_, run_underlying ht, sizeOf, typeInfo, hi, Builtin.lenOf, Builtin.firstCells, hnc, storeCells]

theorem IsS.none {w : World} {c : Nat} {l : List ByteArray} (h : IsS w none c l) : l = [] := by
  rcases Nat.eq_zero_or_pos l.length with h0 | h0
  · exact List.length_eq_zero_iff.1 h0
  · obtain ⟨b, o, hh, _⟩ := h.2.2 0 l[0] (List.getElem?_eq_getElem h0)
    cases hh

theorem IsI.none {w : World} {c : Nat} {l : List Int} (h : IsI w none c l) : l = [] := by
  rcases Nat.eq_zero_or_pos l.length with h0 | h0
  · exact List.length_eq_zero_iff.1 h0
  · obtain ⟨b, o, hh, _⟩ := h.2.2 0 l[0] (List.getElem?_eq_getElem h0)
    cases hh

theorem grown_refl (w : World) (r : Option Nat) : w.grownBy w r := ⟨rfl, rfl, rfl, Nat.le_refl _, fun _ _ _ => rfl⟩

/-- A row of texts put behind a row of the call's own. -/
theorem append_S (W : World) (base : Nat) (v : Value) (n : Nat) (l : List ByteArray) (hown : W.ownsRow base 9 1 v n (l.map Value.string)) (hb : base ≤ W.heap.size) (a : Option Addr) (c m : Nat) (ys : List ByteArray) (hm : m = ys.length) (hY : IsS W a c ys) (hn : n + m ≤ 4096) :
    ∃ v' w', (Builtin.append_ #[25, 25] 25 #[v, .slice a m c]).run Tryz.prog W = .ok v' w' ∧
      w'.ownsRow base 9 1 v' (n + m) ((l ++ ys).map Value.string) ∧ W.grownBy w' v.ownBlock ∧ (v'.ownBlock = v.ownBlock ∨ v'.ownBlock = some W.heap.size) := by
  obtain ⟨i0, hi, hz0, hz1, hz2⟩ := info_parts Tryz.info9
  cases a with
  | none =>
    have h0 := hY.none
    subst h0
    have hm0 : m = 0 := hm
    refine ⟨v, W, append_nil base _ _ _ i0 1 m c hm0 Tryz.underlying25 hi _ _ _ hown, ?_, grown_refl _ _, .inl rfl⟩
    rw [hm0, List.append_nil]; exact hown
  | some ad =>
    obtain ⟨v', w', hr, h2, h3, h4, h5⟩ := run_append_own_at (P := Tryz.prog) W base 25 25 9 i0 _ 1 16 Tryz.underlying25 hi hz0 hz1 hz2 rfl (by decide) v n (l.map Value.string) hown ad m c (ys.map Value.string) (by simp [hm])
      (by
        intro j u hj
        rw [List.getElem?_map] at hj
        cases hx : ys[j]? with
        | none => rw [hx] at hj; cases hj
        | some x =>
          rw [hx] at hj
          cases hj
          obtain ⟨b, o, hh, _, hc, _⟩ := hY.2.2 j x hx
          cases hh
          rw [at_add]; exact hc)
      (fun u hu => by obtain ⟨x, _, rfl⟩ := List.mem_map.1 hu; rfl) (by unfold maxLen; omega) (by omega) hb
    exact ⟨v', w', hr, by rw [List.map_append]; exact h2, h3, h5⟩

/-- A row of numbers put behind a row of the call's own. -/
theorem append_I (W : World) (base : Nat) (v : Value) (n : Nat) (l : List Int) (hown : W.ownsRow base 3 1 v n (l.map (Value.int .i64))) (hb : base ≤ W.heap.size) (a : Option Addr) (c m : Nat) (ys : List Int) (hm : m = ys.length) (hY : IsI W a c ys) (hn : n + m ≤ 4096) :
    ∃ v' w', (Builtin.append_ #[38, 38] 38 #[v, .slice a m c]).run Tryz.prog W = .ok v' w' ∧
      w'.ownsRow base 3 1 v' (n + m) ((l ++ ys).map (Value.int .i64)) ∧ W.grownBy w' v.ownBlock ∧ (v'.ownBlock = v.ownBlock ∨ v'.ownBlock = some W.heap.size) := by
  obtain ⟨i0, hi, hz0, hz1, hz2⟩ := info_parts Tryz.info3
  cases a with
  | none =>
    have h0 := hY.none
    subst h0
    have hm0 : m = 0 := hm
    refine ⟨v, W, append_nil base _ _ _ i0 1 m c hm0 Tryz.underlying38 hi _ _ _ hown, ?_, grown_refl _ _, .inl rfl⟩
    rw [hm0, List.append_nil]; exact hown
  | some ad =>
    obtain ⟨v', w', hr, h2, h3, h4, h5⟩ := run_append_own_at (P := Tryz.prog) W base 38 38 3 i0 _ 1 8 Tryz.underlying38 hi hz0 hz1 hz2 rfl (by decide) v n (l.map (Value.int .i64)) hown ad m c (ys.map (Value.int .i64)) (by simp [hm])
      (by
        intro j u hj
        rw [List.getElem?_map] at hj
        cases hx : ys[j]? with
        | none => rw [hx] at hj; cases hj
        | some x =>
          rw [hx] at hj
          cases hj
          obtain ⟨b, o, hh, _, hc⟩ := hY.2.2 j x hx
          cases hh
          rw [at_add]; exact hc)
      (fun u hu => by obtain ⟨x, _, rfl⟩ := List.mem_map.1 hu; rfl) (by unfold maxLen; omega) (by omega) hb
    exact ⟨v', w', hr, by rw [List.map_append]; exact h2, h3, h5⟩

/-- Rows that lie side by side in a block. -/
def RowsS (w : World) (H : Nat) (rs : List (Option Addr × Nat × List ByteArray)) : Prop :=
  ∀ i r, rs[i]? = some r → w.cell? ⟨H, i, none⟩ = some (.slice r.1 r.2.2.length r.2.1) ∧ IsS w r.1 r.2.1 r.2.2

def flatS (rs : List (Option Addr × Nat × List ByteArray)) : List ByteArray := rs.flatMap fun r => r.2.2

theorem flatS_take {rs : List (Option Addr × Nat × List ByteArray)} {i : Nat} {r : Option Addr × Nat × List ByteArray} (h : rs[i]? = some r) : flatS (rs.take (i + 1)) = flatS (rs.take i) ++ r.2.2 := by
  unfold flatS
  rw [List.take_add_one, h, List.flatMap_append]
  simp

theorem flatS_le (rs : List (Option Addr × Nat × List ByteArray)) (i : Nat) : (flatS (rs.take i)).length ≤ (flatS rs).length := by
  have e : flatS rs = flatS (rs.take i) ++ flatS (rs.drop i) := by
    unfold flatS
    rw [← List.flatMap_append, List.take_append_drop]
  rw [e, List.length_append]; omega

set_option maxRecDepth 20000 in
set_option maxHeartbeats 1000000 in
/-- JOINED. -/
theorem joinedS_any (H k n : Nat) (rs : List (Option Addr × Nat × List ByteArray)) (w : World) (hR : RowsS w H rs) (hk : k = rs.length) (hl : (flatS rs).length ≤ 4096) (hk9 : k ≤ 9) (hn : n = (flatS rs).length) :
    Calls Tryz.prog 129 #[.slice (some ⟨H, 0, none⟩) k k] w fun e w' => ∃ a c, e = .returned (.slice a n c) ∧ IsS w' a c (flatS rs) ∧ From w.heap.size a ∧ Below w.heap.size w w' := by
  have HR : Hid (RowsS w H rs) := hR
  have HK : Hid (k = rs.length) := hk
  have HL : Hid ((flatS rs).length ≤ 4096) := hl
  have HN : Hid (n = (flatS rs).length) := hn
  clear hR hk hl hn
  go_enter Tryz.func129, Tryz.ntmps129
  go_wp2
  go_loopw [3, 8] (fun v i wr => ∃ j : Nat, j ≤ k ∧ i = .int .i64 j ∧ wr.ownsRow w.heap.size 9 1 v (flatS (rs.take j)).length ((flatS (rs.take j)).map Value.string) ∧ Below w.heap.size w wr) (fun _ i _ => k - (intOf i).toNat)
  case atStart => exact ⟨0, by omega, rfl, World.ownsRow_nil _ _ _ _, Below.refl _ _⟩
  case round =>
    obtain ⟨j, hj, rfl, hown, hbel⟩ := hrel
    by_cases hlt : j < k
    · have hlt' : (j : Int) < k := by omega
      obtain ⟨r, hr⟩ : ∃ r, rs[j]? = some r := ⟨_, List.getElem?_eq_getElem (by rw [← HK.out]; exact hlt)⟩
      obtain ⟨hc0, hI⟩ := HR.out j r hr
      have hc := cell_below hbel hc0
      obtain ⟨a, c, ys⟩ := r
      have hf := flatS_take hr
      have hle := flatS_le rs (j + 1)
      simp only at hc hI hf
      have hle2 := HL.out
      obtain ⟨v', w', hrun, hown', hgr, _⟩ := append_S wr w.heap.size _ _ _ hown hbel.size a c ys.length ys rfl (hI.below hbel) (by rw [hf, List.length_append] at hle; omega)
      have HO : Hid (w'.ownsRow w.heap.size 9 1 v' (flatS (rs.take (j + 1))).length ((flatS (rs.take (j + 1))).map Value.string)) := by
        show World.ownsRow _ _ _ _ _ _ _
        rw [hf, List.length_append]; exact hown'
      have HB : Hid (Below w.heap.size w w') := hbel.grown hgr hbel.size fun g hg => (hown.lt g hg).1
      clear hown hown' hgr hr hc0 hI hf hle hle2 hbel
      go_wp2_with (at_builtin; refine Lib.wpList_append_run _ rfl _ _ _ _ rfl _ _ rfl rfl _ _ hrun ?_)
      go_roundw
      case rel => exact ⟨j + 1, by omega, by go_num, HO.out, HB.out⟩
      case measure => simp [intOf]; omega
    · obtain rfl : j = k := by omega
      have ht : rs.take j = rs := List.take_of_length_le (by rw [← HK.out]; exact Nat.le_refl _)
      rw [ht] at hown
      obtain ⟨a, c, rfl, hn, hI, hF⟩ := owns_S hown (fun x hx => by
        obtain ⟨r, hr, hx⟩ := List.mem_flatMap.1 hx
        obtain ⟨i, hi⟩ := List.getElem?_of_mem hr
        obtain ⟨q, hq⟩ := List.getElem?_of_mem hx
        obtain ⟨_, _, _, _, _, hs⟩ := (HR.out i r hi).2.2.2 q x hq
        exact hs)
      have HI : Hid (IsS wr a c (flatS rs) ∧ From w.heap.size a) := ⟨hI, hF⟩
      clear hown hI hF hn ht
      rw [← HN.out]
      go_wp2
      go_ret
      exact ⟨a, c, rfl, HI.out.1, HI.out.2, hbel⟩

/-- Rows that lie side by side in a block. -/
def RowsI (w : World) (H : Nat) (rs : List (Option Addr × Nat × List Int)) : Prop :=
  ∀ i r, rs[i]? = some r → w.cell? ⟨H, i, none⟩ = some (.slice r.1 r.2.2.length r.2.1) ∧ IsI w r.1 r.2.1 r.2.2

def flatI (rs : List (Option Addr × Nat × List Int)) : List Int := rs.flatMap fun r => r.2.2

theorem flatI_take {rs : List (Option Addr × Nat × List Int)} {i : Nat} {r : Option Addr × Nat × List Int} (h : rs[i]? = some r) : flatI (rs.take (i + 1)) = flatI (rs.take i) ++ r.2.2 := by
  unfold flatI
  rw [List.take_add_one, h, List.flatMap_append]
  simp

theorem flatI_le (rs : List (Option Addr × Nat × List Int)) (i : Nat) : (flatI (rs.take i)).length ≤ (flatI rs).length := by
  have e : flatI rs = flatI (rs.take i) ++ flatI (rs.drop i) := by
    unfold flatI
    rw [← List.flatMap_append, List.take_append_drop]
  rw [e, List.length_append]; omega

set_option maxRecDepth 20000 in
set_option maxHeartbeats 1000000 in
/-- JOINED. -/
theorem joinedI_any (H k n : Nat) (rs : List (Option Addr × Nat × List Int)) (w : World) (hR : RowsI w H rs) (hk : k = rs.length) (hl : (flatI rs).length ≤ 4096) (hk9 : k ≤ 9) (hn : n = (flatI rs).length) :
    Calls Tryz.prog 130 #[.slice (some ⟨H, 0, none⟩) k k] w fun e w' => ∃ a c, e = .returned (.slice a n c) ∧ IsI w' a c (flatI rs) ∧ From w.heap.size a ∧ Below w.heap.size w w' := by
  have HR : Hid (RowsI w H rs) := hR
  have HK : Hid (k = rs.length) := hk
  have HL : Hid ((flatI rs).length ≤ 4096) := hl
  have HN : Hid (n = (flatI rs).length) := hn
  clear hR hk hl hn
  go_enter Tryz.func130, Tryz.ntmps130
  go_wp2
  go_loopw [3, 8] (fun v i wr => ∃ j : Nat, j ≤ k ∧ i = .int .i64 j ∧ wr.ownsRow w.heap.size 3 1 v (flatI (rs.take j)).length ((flatI (rs.take j)).map (Value.int .i64)) ∧ Below w.heap.size w wr) (fun _ i _ => k - (intOf i).toNat)
  case atStart => exact ⟨0, by omega, rfl, World.ownsRow_nil _ _ _ _, Below.refl _ _⟩
  case round =>
    obtain ⟨j, hj, rfl, hown, hbel⟩ := hrel
    by_cases hlt : j < k
    · have hlt' : (j : Int) < k := by omega
      obtain ⟨r, hr⟩ : ∃ r, rs[j]? = some r := ⟨_, List.getElem?_eq_getElem (by rw [← HK.out]; exact hlt)⟩
      obtain ⟨hc0, hI⟩ := HR.out j r hr
      have hc := cell_below hbel hc0
      obtain ⟨a, c, ys⟩ := r
      have hf := flatI_take hr
      have hle := flatI_le rs (j + 1)
      simp only at hc hI hf
      have hle2 := HL.out
      obtain ⟨v', w', hrun, hown', hgr, _⟩ := append_I wr w.heap.size _ _ _ hown hbel.size a c ys.length ys rfl (hI.below hbel) (by rw [hf, List.length_append] at hle; omega)
      have HO : Hid (w'.ownsRow w.heap.size 3 1 v' (flatI (rs.take (j + 1))).length ((flatI (rs.take (j + 1))).map (Value.int .i64))) := by
        show World.ownsRow _ _ _ _ _ _ _
        rw [hf, List.length_append]; exact hown'
      have HB : Hid (Below w.heap.size w w') := hbel.grown hgr hbel.size fun g hg => (hown.lt g hg).1
      clear hown hown' hgr hr hc0 hI hf hle hle2 hbel
      go_wp2_with (at_builtin; refine Lib.wpList_append_run _ rfl _ _ _ _ rfl _ _ rfl rfl _ _ hrun ?_)
      go_roundw
      case rel => exact ⟨j + 1, by omega, by go_num, HO.out, HB.out⟩
      case measure => simp [intOf]; omega
    · obtain rfl : j = k := by omega
      have ht : rs.take j = rs := List.take_of_length_le (by rw [← HK.out]; exact Nat.le_refl _)
      rw [ht] at hown
      obtain ⟨a, c, rfl, hn, hI, hF⟩ := owns_I hown 
      have HI : Hid (IsI wr a c (flatI rs) ∧ From w.heap.size a) := ⟨hI, hF⟩
      clear hown hI hF hn ht
      rw [← HN.out]
      go_wp2
      go_ret
      exact ⟨a, c, rfl, HI.out.1, HI.out.2, hbel⟩

end Go.Proofs.YtaecfbfcjaailaaGreat

namespace Go.Proofs.YtaecfbfcjaailaaGreat
open Go.RowKit Plain
set_option linter.unusedVariables false

theorem joined1S (W : World) (a : Option Addr) (c n : Nat) (xs : List ByteArray) (hn : n = xs.length) (h : IsS W a c xs) (h9 : n ≤ 30) :
    Calls Tryz.prog 129 #[.slice (some ⟨W.heap.size, 0, none⟩) 1 1] (W.alloc (.cells #[.slice a n c] 25)) fun e w' => ∃ b d, e = .returned (.slice b n d) ∧ IsS w' b d xs ∧ From W.heap.size b ∧ Below W.heap.size W w' := by
  have hA := (Below.refl W.heap.size W).alloc (Nat.le_refl _) (.cells #[.slice a n c] 25)
  have hf : flatS [(a, c, xs)] = xs := by simp [flatS]
  have := joinedS_any W.heap.size 1 n [(a, c, xs)] (W.alloc (.cells #[.slice a n c] 25)) (by
    intro i r hr
    match i, hr with
    | 0, hr => cases hr; exact ⟨by rw [hn]; exact World.cell?_alloc_at _ _ _ _ rfl, h.below hA⟩) rfl (by rw [hf]; omega) (by omega) (by rw [hf]; exact hn)
  rw [hf] at this
  exact this.mono fun e w' ⟨b, d, he, hi, hfr, hb⟩ => ⟨b, d, he, hi, hfr.mono (by simp), hA.trans (hb.mono (by simp))⟩

theorem joined1I (W : World) (a : Option Addr) (c n : Nat) (xs : List Int) (hn : n = xs.length) (h : IsI W a c xs) (h9 : n ≤ 30) :
    Calls Tryz.prog 130 #[.slice (some ⟨W.heap.size, 0, none⟩) 1 1] (W.alloc (.cells #[.slice a n c] 38)) fun e w' => ∃ b d, e = .returned (.slice b n d) ∧ IsI w' b d xs ∧ From W.heap.size b ∧ Below W.heap.size W w' := by
  have hA := (Below.refl W.heap.size W).alloc (Nat.le_refl _) (.cells #[.slice a n c] 38)
  have hf : flatI [(a, c, xs)] = xs := by simp [flatI]
  have := joinedI_any W.heap.size 1 n [(a, c, xs)] (W.alloc (.cells #[.slice a n c] 38)) (by
    intro i r hr
    match i, hr with
    | 0, hr => cases hr; exact ⟨by rw [hn]; exact World.cell?_alloc_at _ _ _ _ rfl, h.below hA⟩) rfl (by rw [hf]; omega) (by omega) (by rw [hf]; exact hn)
  rw [hf] at this
  exact this.mono fun e w' ⟨b, d, he, hi, hfr, hb⟩ => ⟨b, d, he, hi, hfr.mono (by simp), hA.trans (hb.mono (by simp))⟩

theorem joined2S (W : World) (a a' : Option Addr) (c c' n n' m : Nat) (xs ys : List ByteArray) (hn : n = xs.length) (hn' : n' = ys.length) (hm : m = n + n') (h : IsS W a c xs) (h' : IsS W a' c' ys) (h9 : n ≤ 30) (h9' : n' ≤ 30) :
    Calls Tryz.prog 129 #[.slice (some ⟨W.heap.size, 0, none⟩) 2 2] (W.alloc (.cells #[.slice a n c, .slice a' n' c'] 25)) fun e w' => ∃ b d, e = .returned (.slice b m d) ∧ IsS w' b d (xs ++ ys) ∧ From W.heap.size b ∧ Below W.heap.size W w' := by
  have hA := (Below.refl W.heap.size W).alloc (Nat.le_refl _) (.cells #[.slice a n c, .slice a' n' c'] 25)
  have hf : flatS [(a, c, xs), (a', c', ys)] = xs ++ ys := by simp [flatS]
  have := joinedS_any W.heap.size 2 m [(a, c, xs), (a', c', ys)] (W.alloc (.cells #[.slice a n c, .slice a' n' c'] 25)) (by
    intro i r hr
    match i, hr with
    | 0, hr => cases hr; exact ⟨by rw [hn]; exact World.cell?_alloc_at _ _ _ _ rfl, h.below hA⟩
    | 1, hr => cases hr; exact ⟨by rw [hn']; exact World.cell?_alloc_at _ _ _ _ rfl, h'.below hA⟩) rfl (by rw [hf, List.length_append]; omega) (by omega) (by rw [hf, List.length_append, hm, hn, hn'])
  rw [hf] at this
  exact this.mono fun e w' ⟨b, d, he, hi, hfr, hb⟩ => ⟨b, d, he, hi, hfr.mono (by simp), hA.trans (hb.mono (by simp))⟩

theorem joined2I (W : World) (a a' : Option Addr) (c c' n n' m : Nat) (xs ys : List Int) (hn : n = xs.length) (hn' : n' = ys.length) (hm : m = n + n') (h : IsI W a c xs) (h' : IsI W a' c' ys) (h9 : n ≤ 30) (h9' : n' ≤ 30) :
    Calls Tryz.prog 130 #[.slice (some ⟨W.heap.size, 0, none⟩) 2 2] (W.alloc (.cells #[.slice a n c, .slice a' n' c'] 38)) fun e w' => ∃ b d, e = .returned (.slice b m d) ∧ IsI w' b d (xs ++ ys) ∧ From W.heap.size b ∧ Below W.heap.size W w' := by
  have hA := (Below.refl W.heap.size W).alloc (Nat.le_refl _) (.cells #[.slice a n c, .slice a' n' c'] 38)
  have hf : flatI [(a, c, xs), (a', c', ys)] = xs ++ ys := by simp [flatI]
  have := joinedI_any W.heap.size 2 m [(a, c, xs), (a', c', ys)] (W.alloc (.cells #[.slice a n c, .slice a' n' c'] 38)) (by
    intro i r hr
    match i, hr with
    | 0, hr => cases hr; exact ⟨by rw [hn]; exact World.cell?_alloc_at _ _ _ _ rfl, h.below hA⟩
    | 1, hr => cases hr; exact ⟨by rw [hn']; exact World.cell?_alloc_at _ _ _ _ rfl, h'.below hA⟩) rfl (by rw [hf, List.length_append]; omega) (by omega) (by rw [hf, List.length_append, hm, hn, hn'])
  rw [hf] at this
  exact this.mono fun e w' ⟨b, d, he, hi, hfr, hb⟩ => ⟨b, d, he, hi, hfr.mono (by simp), hA.trans (hb.mono (by simp))⟩

theorem isS_one (W : World) (x : ByteArray) (hx : x.size ≤ maxLen) : IsS (W.alloc (.cells #[.string x] 9)) (some ⟨W.heap.size, 0, none⟩) 1 [x] := by
  refine ⟨Nat.le_refl _, by unfold maxLen; omega, fun j d hd => ?_⟩
  match j, hd with
  | 0, hd =>
    simp at hd
    subst hd
    exact ⟨W.heap.size, 0, rfl, by simp, World.cell?_alloc_at _ _ _ _ rfl, hx⟩

theorem joined3S (W : World) (a a' : Option Addr) (c c' n n' m : Nat) (xs ys : List ByteArray) (key : ByteArray) (hk : key.size ≤ maxLen) (hn : n = xs.length) (hn' : n' = ys.length) (hm : m = n + 1 + n') (h : IsS W a c xs) (h' : IsS W a' c' ys) (h9 : n ≤ 30) (h9' : n' ≤ 30) :
    Calls Tryz.prog 129 #[.slice (some ⟨W.heap.size + 1, 0, none⟩) 3 3] ((W.alloc (.cells #[.string key] 9)).alloc (.cells #[.slice a n c, .slice (some ⟨W.heap.size, 0, none⟩) 1 1, .slice a' n' c'] 25)) fun e w' => ∃ b d, e = .returned (.slice b m d) ∧ IsS w' b d (xs ++ key :: ys) ∧ From W.heap.size b ∧ Below W.heap.size W w' := by
  have hA0 := (Below.refl W.heap.size W).alloc (Nat.le_refl _) (.cells #[.string key] 9)
  obtain ⟨V, hV⟩ : ∃ V, V = W.alloc (.cells #[.string key] 9) := ⟨_, rfl⟩
  have hone := isS_one W key hk
  rw [← hV] at hA0 hone
  have hsz : V.heap.size = W.heap.size + 1 := by rw [hV]; simp
  have hA := (Below.refl V.heap.size V).alloc (Nat.le_refl _) (.cells #[.slice a n c, .slice (some ⟨W.heap.size, 0, none⟩) 1 1, .slice a' n' c'] 25)
  have hf : flatS [(a, c, xs), (some ⟨W.heap.size, 0, none⟩, 1, [key]), (a', c', ys)] = xs ++ key :: ys := by simp [flatS]
  have := joinedS_any V.heap.size 3 m [(a, c, xs), (some ⟨W.heap.size, 0, none⟩, 1, [key]), (a', c', ys)] (V.alloc (.cells #[.slice a n c, .slice (some ⟨W.heap.size, 0, none⟩) 1 1, .slice a' n' c'] 25)) (by
    intro i r hr
    match i, hr with
    | 0, hr => cases hr; exact ⟨by rw [hn]; exact World.cell?_alloc_at _ _ _ _ rfl, (h.below hA0).below hA⟩
    | 1, hr => cases hr; exact ⟨World.cell?_alloc_at _ _ _ _ rfl, hone.below hA⟩
    | 2, hr => cases hr; exact ⟨by rw [hn']; exact World.cell?_alloc_at _ _ _ _ rfl, (h'.below hA0).below hA⟩) rfl (by rw [hf, List.length_append, List.length_cons]; omega) (by omega) (by rw [hf, List.length_append, List.length_cons, hm, hn, hn']; omega)
  rw [hf] at this
  rw [← hV, ← hsz]
  exact this.mono fun e w' ⟨b, d, he, hi, hfr, hb⟩ => ⟨b, d, he, hi, hfr.mono (by simp; omega), (hA0.trans (hA.mono (by omega))).trans (hb.mono (by simp; omega))⟩

set_option maxRecDepth 20000 in
set_option maxHeartbeats 1000000 in
/-- LEAF PART. -/
theorem leafPart_any (a a' : Option Addr) (c c' n n' : Nat) (xs ys : List ByteArray) (w : World) (hn : n = xs.length) (hn' : n' = ys.length) (h : IsS w a c xs) (h' : IsS w a' c' ys) (h9 : n ≤ 30) (h9' : n' ≤ 30) :
    Calls Tryz.prog 105 #[.slice a n c, .slice a' n' c'] w fun e w' => ∃ b d b' d', e = .returned (.agg #[.bool true, .slice b n d, .slice b' n' d', .slice none 0 0]) ∧ IsS w' b d xs ∧ IsS w' b' d' ys ∧ From w.heap.size b ∧ From w.heap.size b' ∧ Below w.heap.size w w' := by
  obtain ⟨W0, hW0⟩ : ∃ W0, W0 = w.alloc (.cells #[.bool false, .slice none 0 0, .slice none 0 0, .slice none 0 0] 76) := ⟨_, rfl⟩
  have b00 : Box4 W0 w.heap.size (.bool false) (.slice none 0 0) (.slice none 0 0) (.slice none 0 0) := by rw [hW0]; exact box4_new _ _ _ _ _ _ rfl
  have HB : Below w.heap.size w W0 := by rw [hW0]; exact (Below.refl _ _).alloc (Nat.le_refl _) _
  have hz0 : W0.heap.size = w.heap.size + 1 := by rw [hW0]; simp
  have c1 : Calls Tryz.prog 129 #[.slice (some ⟨w.heap.size + 1, 0, none⟩) 1 1] (W0.alloc (.cells #[.slice a n c] 25)) fun e w' => ∃ b d, e = .returned (.slice b n d) ∧ IsS w' b d xs ∧ From W0.heap.size b ∧ Below W0.heap.size W0 w' := by rw [← hz0]; exact joined1S W0 a c n xs hn (h.below HB) h9
  have c2 : ∀ V, Below w.heap.size w V → Calls Tryz.prog 129 #[.slice (some ⟨V.heap.size, 0, none⟩) 1 1] (V.alloc (.cells #[.slice a' n' c'] 25)) fun e w' => ∃ b d, e = .returned (.slice b n' d) ∧ IsS w' b d ys ∧ From V.heap.size b ∧ Below V.heap.size V w' := fun V hV => joined1S V a' c' n' ys hn' (h'.below hV) h9'
  have hsz : w.heap.size < W0.heap.size := by omega
  have tok1 : True := trivial
  clear hn hn' h h' h9 h9' hz0
  go_enter Tryz.func105, Tryz.ntmps105
  go_wp2_with (first
    | (go_at_call 129; have _t := tok1; rw [← hW0]; refine c1.mono ?_; rintro y w1 ⟨b, d, rfl, i1, j1, hb⟩; replace b00 := b00.below hb; replace HB := Below.tr HB hb; have I1 : Hid (IsS w1 b d xs) := i1; have J1 : Hid (From W0.heap.size b) := j1; have hs1 : W0.heap.size ≤ w1.heap.size := hb.size; clear i1 j1 hb tok1 _t c1)
    | (go_at_call 129; refine (c2 _ HB).mono ?_; rintro y w2 ⟨b', d', rfl, i2, j2, hb⟩; replace b00 := b00.below hb; replace HB := Below.tr HB hb; replace I1 : Hid (IsS w2 b d xs) := I1.out.below hb; have I2 : Hid (IsS w2 b' d' ys) := i2; have J2 : Hid (From w1.heap.size b') := j2; obtain ⟨⟨r0, r1, r2, r3⟩, g0, g1, g2, g3⟩ := id b00; clear i2 j2 hb))
  have T4 := turns_put4 w2 w.heap.size (.bool true) (.slice b n d) (.slice b' n' d') (.slice none 0 0)
  refine bodyPost_ret (v := .agg #[.bool true, .slice b n d, .slice b' n' d', .slice none 0 0]) (by simp [results, Tryz.results105, go_sem, r0, r1, r2, r3]) rfl ⟨b, d, b', d', rfl, I1.out.turns T4 (fun x hx e => by have := J1.out x hx; omega), I2.out.turns T4 (fun x hx e => by have := J2.out x hx; omega), J1.out.mono (by omega), J2.out.mono (by omega), Below.turns HB T4 (fun k hk => by omega)⟩

set_option maxRecDepth 20000 in
set_option maxHeartbeats 1000000 in
/-- INNER PART. -/
theorem innerPart_any (a a' : Option Addr) (c c' n n' : Nat) (xs : List ByteArray) (ys : List Int) (w : World) (hn : n = xs.length) (hn' : n' = ys.length) (h : IsS w a c xs) (h' : IsI w a' c' ys) (h9 : n ≤ 30) (h9' : n' ≤ 30) :
    Calls Tryz.prog 106 #[.slice a n c, .slice a' n' c'] w fun e w' => ∃ b d b' d', e = .returned (.agg #[.bool false, .slice b n d, .slice none 0 0, .slice b' n' d']) ∧ IsS w' b d xs ∧ IsI w' b' d' ys ∧ From w.heap.size b ∧ From w.heap.size b' ∧ Below w.heap.size w w' := by
  obtain ⟨W0, hW0⟩ : ∃ W0, W0 = w.alloc (.cells #[.bool false, .slice none 0 0, .slice none 0 0, .slice none 0 0] 76) := ⟨_, rfl⟩
  have b00 : Box4 W0 w.heap.size (.bool false) (.slice none 0 0) (.slice none 0 0) (.slice none 0 0) := by rw [hW0]; exact box4_new _ _ _ _ _ _ rfl
  have HB : Below w.heap.size w W0 := by rw [hW0]; exact (Below.refl _ _).alloc (Nat.le_refl _) _
  have hz0 : W0.heap.size = w.heap.size + 1 := by rw [hW0]; simp
  have c1 : Calls Tryz.prog 129 #[.slice (some ⟨w.heap.size + 1, 0, none⟩) 1 1] (W0.alloc (.cells #[.slice a n c] 25)) fun e w' => ∃ b d, e = .returned (.slice b n d) ∧ IsS w' b d xs ∧ From W0.heap.size b ∧ Below W0.heap.size W0 w' := by rw [← hz0]; exact joined1S W0 a c n xs hn (h.below HB) h9
  have c2 : ∀ V, Below w.heap.size w V → Calls Tryz.prog 130 #[.slice (some ⟨V.heap.size, 0, none⟩) 1 1] (V.alloc (.cells #[.slice a' n' c'] 38)) fun e w' => ∃ b d, e = .returned (.slice b n' d) ∧ IsI w' b d ys ∧ From V.heap.size b ∧ Below V.heap.size V w' := fun V hV => joined1I V a' c' n' ys hn' (h'.below hV) h9'
  have hsz : w.heap.size < W0.heap.size := by omega
  have tok1 : True := trivial
  clear hn hn' h h' h9 h9' hz0
  go_enter Tryz.func106, Tryz.ntmps106
  go_wp2_with (first
    | (go_at_call 129; have _t := tok1; rw [← hW0]; refine c1.mono ?_; rintro y w1 ⟨b, d, rfl, i1, j1, hb⟩; replace b00 := b00.below hb; replace HB := Below.tr HB hb; have I1 : Hid (IsS w1 b d xs) := i1; have J1 : Hid (From W0.heap.size b) := j1; have hs1 : W0.heap.size ≤ w1.heap.size := hb.size; clear i1 j1 hb tok1 _t c1)
    | (go_at_call 130; refine (c2 _ HB).mono ?_; rintro y w2 ⟨b', d', rfl, i2, j2, hb⟩; replace b00 := b00.below hb; replace HB := Below.tr HB hb; replace I1 : Hid (IsS w2 b d xs) := I1.out.below hb; have I2 : Hid (IsI w2 b' d' ys) := i2; have J2 : Hid (From w1.heap.size b') := j2; obtain ⟨⟨r0, r1, r2, r3⟩, g0, g1, g2, g3⟩ := id b00; clear i2 j2 hb))
  have T4 := turns_put4 w2 w.heap.size (.bool false) (.slice b n d) (.slice none 0 0) (.slice b' n' d')
  refine bodyPost_ret (v := .agg #[.bool false, .slice b n d, .slice none 0 0, .slice b' n' d']) (by simp [results, Tryz.results106, go_sem, r0, r1, r2, r3]) rfl ⟨b, d, b', d', rfl, I1.out.turns T4 (fun x hx e => by have := J1.out x hx; omega), I2.out.turns T4 (fun x hx e => by have := J2.out x hx; omega), J1.out.mono (by omega), J2.out.mono (by omega), Below.turns HB T4 (fun k hk => by omega)⟩

end Go.Proofs.YtaecfbfcjaailaaGreat

namespace Go.Proofs.YtaecfbfcjaailaaGreat
open Go.RowKit Plain Anylast
set_option linter.unusedVariables false

theorem isS_drop {w : World} {b o c : Nat} {xs : List ByteArray} (h : IsS w (some ⟨b, o, none⟩) c xs) (k : Nat) (hk : k ≤ xs.length) : IsS w (some ⟨b, o + k, none⟩) (c - k) (xs.drop k) := by
  refine ⟨by rw [List.length_drop]; have := h.1; omega, by have := h.2.1; omega, fun j x hx => ?_⟩
  rw [List.getElem?_drop] at hx
  obtain ⟨b2, o2, ha, hl, hc, hs⟩ := h.2.2 (k + j) x hx
  cases ha
  exact ⟨b, o + k, rfl, hl, by rw [Nat.add_assoc]; exact hc, hs⟩

theorem isI_drop {w : World} {b o c : Nat} {xs : List Int} (h : IsI w (some ⟨b, o, none⟩) c xs) (k : Nat) (hk : k ≤ xs.length) : IsI w (some ⟨b, o + k, none⟩) (c - k) (xs.drop k) := by
  refine ⟨by rw [List.length_drop]; have := h.1; omega, by have := h.2.1; omega, fun j x hx => ?_⟩
  rw [List.getElem?_drop] at hx
  obtain ⟨b2, o2, ha, hl, hc⟩ := h.2.2 (k + j) x hx
  cases ha
  exact ⟨b, o + k, rfl, hl, by rw [Nat.add_assoc]; exact hc⟩

/-- A leaf in a box of its own, with rows of its own, behind a line 'x := f(..)'. -/
def LaidS (V0 V : World) (g : Nat) (p : Option Addr) (q : Nat) (p' : Option Addr) (q' n : Nat) (xs ys : List ByteArray) : Prop :=
  Box4 V g (.bool true) (.slice p n q) (.slice p' n q') (.slice none 0 0) ∧ V0.heap.size ≤ g ∧ Below V0.heap.size V0 V ∧ IsS V p q xs ∧ IsS V p' q' ys ∧ From V0.heap.size p ∧ From V0.heap.size p'

/-- What the operations of Cut's last line yield. -/
def cutV (va vk vb : Value) (h1 b o : Nat) (mid : ByteArray) : Nat → Value
  | 0 => va
  | 1 => .pointer (some ⟨h1, 1, none⟩)
  | 2 => vk
  | 3 => .pointer (some ⟨b, o + 4, none⟩)
  | 4 => .string mid
  | 5 => vb
  | 7 => .string mid
  | 9 => .int .i64 0
  | _ => undef

set_option maxRecDepth 20000 in
set_option maxHeartbeats 1000000 in
theorem cutLeaf_any (b o c b' o' c' : Nat) (a'' : Option Addr) (c'' n'' : Nat) (ks vs : List ByteArray) (w : World)
    (hn : 9 = ks.length) (hn' : 9 = vs.length) (hn'' : n'' = ([] : List Int).length) (hK : IsS w (some ⟨b, o, none⟩) c ks) (hV : IsS w (some ⟨b', o', none⟩) c' vs) (hC : IsI w a'' c'' []) (hs : standsN true ks vs [] = true) {mid : ByteArray} (hmid : ks[4]? = some mid) :
    Calls Tryz.prog 87 #[.agg #[.bool true, .slice (some ⟨b, o, none⟩) 9 c, .slice (some ⟨b', o', none⟩) 9 c', .slice a'' n'' c'']] w fun x w' => ∃ p q p' q' r s r' s', x = .returned (.tuple #[.agg #[.bool true, .slice p 4 q, .slice p' 4 q', .slice none 0 0], .string mid, .agg #[.bool true, .slice r 5 s, .slice r' 5 s', .slice none 0 0], .int .i64 0]) ∧
      IsS w' p q (ks.take 4) ∧ IsS w' p' q' (vs.take 4) ∧ IsS w' r s (ks.drop 4) ∧ IsS w' r' s' (vs.drop 4) ∧ (From w.heap.size p ∧ From w.heap.size p' ∧ From w.heap.size r ∧ From w.heap.size r') ∧ Below w.heap.size w w' := by
  obtain ⟨W, hW⟩ : ∃ W, W = ((w.alloc (.cells #[.bool true, .slice (some ⟨b, o, none⟩) 9 c, .slice (some ⟨b', o', none⟩) 9 c', .slice a'' n'' c''] 76)).alloc (.cells #[.bool false, .slice none 0 0, .slice none 0 0, .slice none 0 0] 76)).alloc (.cells #[.bool false, .slice none 0 0, .slice none 0 0, .slice none 0 0] 76) := ⟨_, rfl⟩
  have A1 : Box4 W w.heap.size (.bool true) (.slice (some ⟨b, o, none⟩) 9 c) (.slice (some ⟨b', o', none⟩) 9 c') (.slice a'' n'' c'') := by rw [hW]; exact ((box4_new _ _ _ _ _ _ rfl).alloc _).alloc _
  have A2 : Box4 W (w.heap.size + 1) (.bool false) (.slice none 0 0) (.slice none 0 0) (.slice none 0 0) := by rw [hW]; exact (box4_new _ _ _ _ _ _ (by simp)).alloc _
  have A4 : Box4 W (w.heap.size + 2) (.bool false) (.slice none 0 0) (.slice none 0 0) (.slice none 0 0) := by rw [hW]; exact box4_new _ _ _ _ _ _ (by simp)
  have HB : Below w.heap.size w W := by rw [hW]; exact (((Below.refl _ _).alloc (Nat.le_refl _) _).alloc (by simp) _).alloc (by simp; omega) _
  have c1 : ∀ V, Below w.heap.size w V → Calls Tryz.prog 81 #[.agg #[.bool true, .slice (some ⟨b, o, none⟩) 9 c, .slice (some ⟨b', o', none⟩) 9 c', .slice a'' n'' c'']] V fun e w' => e = .returned (.bool true) ∧ Below V.heap.size V w' := fun V h => by have := mayStand_any true (some ⟨b, o, none⟩) (some ⟨b', o', none⟩) a'' c c' c'' 9 9 n'' ks vs [] V hn hn' hn'' (hK.below h) (hV.below h) (hC.below h); rw [hs] at this; exact this
  have cP : ∀ V, Below w.heap.size w V → Calls Tryz.prog 105 #[.slice (some ⟨b, o, none⟩) 4 c, .slice (some ⟨b', o', none⟩) 4 c'] V fun e w' => ∃ p q p' q', e = .returned (.agg #[.bool true, .slice p 4 q, .slice p' 4 q', .slice none 0 0]) ∧ IsS w' p q (ks.take 4) ∧ IsS w' p' q' (vs.take 4) ∧ From V.heap.size p ∧ From V.heap.size p' ∧ Below V.heap.size V w' := fun V h => leafPart_any _ _ c c' 4 4 (ks.take 4) (vs.take 4) V (by rw [List.length_take]; omega) (by rw [List.length_take]; omega) ((hK.take 4).below h) ((hV.take 4).below h) (by omega) (by omega)
  have cQ : ∀ V, Below w.heap.size w V → Calls Tryz.prog 105 #[.slice (some ⟨b, o + 4, none⟩) 5 (c - 4), .slice (some ⟨b', o' + 4, none⟩) 5 (c' - 4)] V fun e w' => ∃ p q p' q', e = .returned (.agg #[.bool true, .slice p 5 q, .slice p' 5 q', .slice none 0 0]) ∧ IsS w' p q (ks.drop 4) ∧ IsS w' p' q' (vs.drop 4) ∧ From V.heap.size p ∧ From V.heap.size p' ∧ Below V.heap.size V w' := fun V h => leafPart_any _ _ _ _ 5 5 (ks.drop 4) (vs.drop 4) V (by rw [List.length_drop]; omega) (by rw [List.length_drop]; omega) ((isS_drop hK 4 (by omega)).below h) ((isS_drop hV 4 (by omega)).below h) (by omega) (by omega)
  obtain ⟨_, _, hbo, hbl, hcm, hms⟩ := hK.2.2 4 mid hmid
  cases hbo
  have hc9 : 9 ≤ c := by rw [hn]; exact hK.1
  have hc9' : 9 ≤ c' := by rw [hn']; exact hV.1
  have hcM : c ≤ 9223372036854775807 := hK.2.1
  have hcM' : c' ≤ 9223372036854775807 := hV.2.1
  generalize ks.take 4 = K1 at *
  generalize ks.drop 4 = K2 at *
  generalize vs.take 4 = X1 at *
  generalize vs.drop 4 = X2 at *
  have hcm0 := cell_below HB hcm
  clear hn hn' hn'' hK hV hC hs hmid hcm
  obtain ⟨⟨q0, q1, q2, q3⟩, -⟩ := id A1
  have i1 : (4 : Int) ≤ c := by omega
  have i2 : (4 : Int) ≤ c' := by omega
  have i3 : 4 < c := by omega
  have i4 : 4 < c' := by omega
  have i5 : ¬ c = 4 := by omega
  have i6 : ¬ c' = 4 := by omega
  go_enter Tryz.func87, Tryz.ntmps87
  go_wp2_with (go_at_call 81; rw [← hW]; refine (c1 _ HB).mono ?_; rintro y w1 ⟨rfl, hb⟩; replace HB := Below.tr HB hb; replace A1 := A1.below hb; replace A2 := A2.below hb; replace A4 := A4.below hb; replace hcm0 := cell_below hb hcm0; clear q0 q1 q2 q3; obtain ⟨⟨q0, q1, q2, q3⟩, -⟩ := id A1; clear hb)
  obtain ⟨V0, hV0⟩ : ∃ X, X = w1.drew := ⟨_, rfl⟩
  replace HB : Below w.heap.size w V0 := by rw [hV0]; exact HB.drew
  replace A1 : Box4 V0 w.heap.size (.bool true) (.slice (some ⟨b, o, none⟩) 9 c) (.slice (some ⟨b', o', none⟩) 9 c') (.slice a'' n'' c'') := by rw [hV0]; exact A1.drew
  replace A2 : Box4 V0 (w.heap.size + 1) (.bool false) (.slice none 0 0) (.slice none 0 0) (.slice none 0 0) := by rw [hV0]; exact A2.drew
  replace A4 : Box4 V0 (w.heap.size + 2) (.bool false) (.slice none 0 0) (.slice none 0 0) (.slice none 0 0) := by rw [hV0]; exact A4.drew
  clear q0 q1 q2 q3
  obtain ⟨⟨q0, q1, q2, q3⟩, -⟩ := id A1
  have HV0 : Hid (V0 = w1.drew) := hV0
  clear hV0
  refine (fun (key : Hid (∀ V g p q p' q', LaidS V0 V g p q p' q' 4 K1 X1 → (?propV0 : World → Nat → Option Addr → Nat → Option Addr → Nat → Prop) V g p q p' q')) => ?regV0) ?kontV0
  case regV0 =>
    refine wp_region_noPanic ?_
    refine wp_region_held_drew (S := fun V => V.cell? ⟨w.heap.size, 1, none⟩ = some (.slice (some ⟨b, o, none⟩) 9 c) ∧ V.cell? ⟨w.heap.size, 2, none⟩ = some (.slice (some ⟨b', o', none⟩) 9 c')) (by kernel_rfl) (by rw [← HV0.out]; exact ⟨q1, q2⟩) (fun hHeld => ?_)
    rw [← HV0.out] at hHeld ⊢
    refine take_at (i := 0) (v := ?_) rfl (by kernel_rfl) (by kernel_rfl) (by kernel_rfl) (fun _ _ _ h => h) (Or.inl ⟨by rfl, ?_⟩) (by assumption) ?_
    rotate_left 1
    · (intro w hSw; (try dsimp only at hSw); go_simp; (try with_reducible rfl))
    try simp only [Act.put, List.setIfInBounds_toArray, List.set_cons_zero, List.set_cons_succ]
    refine take_at (i := 1) (v := ?_) rfl (by kernel_rfl) (by kernel_rfl) (by kernel_rfl) (fun _ _ _ h => h) (Or.inl ⟨by rfl, ?_⟩) (by assumption) ?_
    rotate_left 1
    · (intro w hSw; (try dsimp only at hSw); go_simp; (try with_reducible rfl))
    try simp only [Act.put, List.setIfInBounds_toArray, List.set_cons_zero, List.set_cons_succ]
    refine take_at (i := 2) (v := ?_) rfl (by kernel_rfl) (by kernel_rfl) (by kernel_rfl) (fun _ _ _ h => h) (Or.inl ⟨by rfl, ?_⟩) (by assumption) ?_
    rotate_left 1
    · (intro w hSw; (try dsimp only at hSw); go_simp; (try with_reducible rfl))
    try simp only [Act.put, List.setIfInBounds_toArray, List.set_cons_zero, List.set_cons_succ]
    refine take_at (i := 3) (v := ?_) rfl (by kernel_rfl) (by kernel_rfl) (by kernel_rfl) (fun _ _ _ h => h) (Or.inl ⟨by rfl, ?_⟩) (by assumption) ?_
    rotate_left 1
    · (intro w hSw; (try dsimp only at hSw); go_simp; (try with_reducible rfl))
    try simp only [Act.put, List.setIfInBounds_toArray, List.set_cons_zero, List.set_cons_succ]
    refine take_at (i := 4) (v := ?_) rfl (by kernel_rfl) (by kernel_rfl) (by kernel_rfl) (fun _ _ _ h => h) (Or.inl ⟨by rfl, ?_⟩) (by assumption) ?_
    rotate_left 1
    · (intro w hSw; (try dsimp only at hSw); go_simp; (try with_reducible rfl))
    try simp only [Act.put, List.setIfInBounds_toArray, List.set_cons_zero, List.set_cons_succ]
    refine take_at (i := 5) (v := ?_) rfl (by kernel_rfl) (by kernel_rfl) (by kernel_rfl) (fun _ _ _ h => h) (Or.inl ⟨by rfl, ?_⟩) (by assumption) ?_
    rotate_left 1
    · (intro w hSw; (try dsimp only at hSw); go_simp; (try with_reducible rfl))
    try simp only [Act.put, List.setIfInBounds_toArray, List.set_cons_zero, List.set_cons_succ]
    refine wpAnyH_ready (rs := [6, 7]) (by kernel_rfl) (by simp) ?_
    refine cons_at (i := 6) rfl (fun K hK => ?callFirstV0) (cons_at (i := 7) rfl (fun K hK => ?allocFirstV0) AllReadyH.nil)
    case callFirstV0 =>
      go_simp
      go_at_call 105
      refine (cP _ HB).mono ?_
      rintro y u ⟨p, q, p', q', rfl, k1, k2, j1, j2, hb⟩
      have s1 := cell_below hb q1
      have s2 := cell_below hb q2
      refine hK.out _ _ ?_ (fun hHeld2 => ?_)
      · exact ⟨s1, s2⟩
      clear hK K
      try simp only [Act.put, List.setIfInBounds_toArray, List.set_cons_zero, List.set_cons_succ]
      refine wpAnyH_ready (rs := [7]) (by kernel_rfl) (by simp) ?_
      refine cons_at (i := 7) rfl (fun K hK => ?_) AllReadyH.nil
      go_simp
      refine hK.out _ _ ?_ (fun hHeld3 => ?_)
      · exact ⟨cell_alloc s1 _, cell_alloc s2 _⟩
      clear hK K
      try simp only [Act.put, List.setIfInBounds_toArray, List.set_cons_zero, List.set_cons_succ]
      refine wpAnyH_ready (rs := [8]) (by kernel_rfl) (by simp) ?_
      refine cons_at (i := 8) rfl (fun K hK => ?_) AllReadyH.nil
      go_simp
      have hA := (Below.refl u.heap.size u).alloc (Nat.le_refl _) (.cells #[.bool true, .slice p 4 q, .slice p' 4 q', .slice none 0 0] 76)
      have F : LaidS V0 (u.alloc (.cells #[.bool true, .slice p 4 q, .slice p' 4 q', .slice none 0 0] 76)) u.heap.size p q p' q' 4 K1 X1 := ⟨box4_new _ _ _ _ _ _ rfl, hb.size, hb.alloc hb.size _, k1.below hA, k2.below hA, j1, j2⟩
      refine hK.out _ _ ?_ (fun hHeld4 => ?_)
      · exact ⟨cell_alloc s1 _, cell_alloc s2 _⟩
      clear hK K
      try simp only [Act.put, List.setIfInBounds_toArray, List.set_cons_zero, List.set_cons_succ]
      refine wpAnyH_done (by kernel_rfl) ?_ _
      refine NoPanic.normal ?_
      clear hHeld hHeld2 hHeld3 hHeld4 hA
      generalize u.alloc (.cells #[.bool true, .slice p 4 q, .slice p' 4 q', .slice none 0 0] 76) = V at F ⊢
      generalize u.heap.size = g at F ⊢
      exact key.out V g p q p' q' F
    case allocFirstV0 =>
      go_simp
      refine hK.out _ _ ?_ (fun hHeld2 => ?_)
      · exact ⟨cell_alloc q1 _, cell_alloc q2 _⟩
      clear hK K
      try simp only [Act.put, List.setIfInBounds_toArray, List.set_cons_zero, List.set_cons_succ]
      refine wpAnyH_ready (rs := [6]) (by kernel_rfl) (by simp) ?_
      refine cons_at (i := 6) rfl (fun K hK => ?_) AllReadyH.nil
      go_simp
      go_at_call 105
      have hA := (Below.refl V0.heap.size V0).alloc (Nat.le_refl _) (.cells #[.bool false, .slice none 0 0, .slice none 0 0, .slice none 0 0] 76)
      have bZ := box4_new V0 (.bool false) (.slice none 0 0) (.slice none 0 0) (.slice none 0 0) 76 rfl
      refine (cP _ (Below.tr HB hA)).mono ?_
      rintro y u ⟨p, q, p', q', rfl, k1, k2, j1, j2, hb⟩
      have s1 := cell_below hb (cell_alloc q1 _)
      have s2 := cell_below hb (cell_alloc q2 _)
      replace bZ := bZ.below hb
      obtain ⟨⟨z0, z1, z2, z3⟩, y0, y1, y2, y3⟩ := id bZ
      refine hK.out _ _ ?_ (fun hHeld3 => ?_)
      · exact ⟨s1, s2⟩
      clear hK K
      try simp only [Act.put, List.setIfInBounds_toArray, List.set_cons_zero, List.set_cons_succ]
      refine wpAnyH_ready (rs := [8]) (by kernel_rfl) (by simp) ?_
      refine cons_at (i := 8) rfl (fun K hK => ?_) AllReadyH.nil
      go_simp
      have T4 := turns_put4 u V0.heap.size (.bool true) (.slice p 4 q) (.slice p' 4 q') (.slice none 0 0)
      have hlt : w.heap.size < V0.heap.size := A1.lt
      have F : LaidS V0 ((((u.setCell ⟨V0.heap.size, 0, none⟩ (.bool true)).setCell ⟨V0.heap.size, 1, none⟩ (.slice p 4 q)).setCell ⟨V0.heap.size, 2, none⟩ (.slice p' 4 q')).setCell ⟨V0.heap.size, 3, none⟩ (.slice none 0 0)) V0.heap.size p q p' q' 4 K1 X1 :=
        ⟨bZ.put _ _ _ _, Nat.le_refl _, Below.turns (hA.trans (hb.mono (by simp))) T4 (fun k hk => by omega), k1.turns T4 (fun x hx e => by have := j1 x hx; simp at this; omega), k2.turns T4 (fun x hx e => by have := j2 x hx; simp at this; omega), j1.mono (by simp), j2.mono (by simp)⟩
      refine hK.out _ _ ?_ (fun hHeld4 => ?_)
      · exact ⟨T4.cell (p := ⟨w.heap.size, 1, none⟩) (by show ¬ w.heap.size = _; omega) s1, T4.cell (p := ⟨w.heap.size, 2, none⟩) (by show ¬ w.heap.size = _; omega) s2⟩
      clear hK K
      try simp only [Act.put, List.setIfInBounds_toArray, List.set_cons_zero, List.set_cons_succ]
      refine wpAnyH_done (by kernel_rfl) ?_ _
      refine NoPanic.normal ?_
      exact key.out _ _ p q p' q' F
  case kontV0 =>
    intro V g0 p0 n0 p0' n0' hF
    obtain ⟨D6, hg, hb, k1, k2, j1, j2⟩ := hF
    have hlt1 : w.heap.size + 2 < V0.heap.size := A4.lt
    have hVs : V0.heap.size ≤ V.heap.size := hb.size
    replace A1 := A1.below hb
    replace A2 := A2.below hb
    replace A4 := A4.below hb
    replace HB := Below.tr HB hb
    replace hcm0 : V0.cell? ⟨b, o + 4, none⟩ = some (.string mid) := by rw [HV0.out]; exact hcm0
    replace hcm0 := cell_below hb hcm0
    have KK1 : Hid (IsS V p0 n0 K1) := k1
    have KK2 : Hid (IsS V p0' n0' X1) := k2
    have JJ1 : Hid (From V0.heap.size p0) := j1
    have JJ2 : Hid (From V0.heap.size p0') := j2
    clear q0 q1 q2 q3 k1 k2 j1 j2 hb HV0
    obtain ⟨⟨q0, q1, q2, q3⟩, -⟩ := id A1
    go_wp2
    obtain ⟨V5, hV5⟩ : ∃ X, X = V.drew := ⟨_, rfl⟩
    replace HB : Below w.heap.size w V5 := by rw [hV5]; exact HB.drew
    replace A1 : Box4 V5 w.heap.size (.bool true) (.slice (some ⟨b, o, none⟩) 9 c) (.slice (some ⟨b', o', none⟩) 9 c') (.slice a'' n'' c'') := by rw [hV5]; exact A1.drew
    replace A2 : Box4 V5 (w.heap.size + 1) (.bool false) (.slice none 0 0) (.slice none 0 0) (.slice none 0 0) := by rw [hV5]; exact A2.drew
    replace A4 : Box4 V5 (w.heap.size + 2) (.bool false) (.slice none 0 0) (.slice none 0 0) (.slice none 0 0) := by rw [hV5]; exact A4.drew
    clear q0 q1 q2 q3
    obtain ⟨⟨q0, q1, q2, q3⟩, -⟩ := id A1
    have HV5 : Hid (V5 = V.drew) := hV5
    clear hV5
    refine (fun (key : Hid (∀ V g p q p' q', LaidS V5 V g p q p' q' 5 K2 X2 → (?propV5 : World → Nat → Option Addr → Nat → Option Addr → Nat → Prop) V g p q p' q')) => ?regV5) ?kontV5
    case regV5 =>
      refine wp_region_noPanic ?_
      refine wp_region_held_drew (S := fun V => V.cell? ⟨w.heap.size, 1, none⟩ = some (.slice (some ⟨b, o, none⟩) 9 c) ∧ V.cell? ⟨w.heap.size, 2, none⟩ = some (.slice (some ⟨b', o', none⟩) 9 c')) (by kernel_rfl) (by rw [← HV5.out]; exact ⟨q1, q2⟩) (fun hHeld => ?_)
      rw [← HV5.out] at hHeld ⊢
      refine take_at (i := 0) (v := ?_) rfl (by kernel_rfl) (by kernel_rfl) (by kernel_rfl) (fun _ _ _ h => h) (Or.inl ⟨by rfl, ?_⟩) (by assumption) ?_
      rotate_left 1
      · (intro w hSw; (try dsimp only at hSw); go_simp; (try with_reducible rfl))
      try simp only [Act.put, List.setIfInBounds_toArray, List.set_cons_zero, List.set_cons_succ]
      refine take_at (i := 1) (v := ?_) rfl (by kernel_rfl) (by kernel_rfl) (by kernel_rfl) (fun _ _ _ h => h) (Or.inl ⟨by rfl, ?_⟩) (by assumption) ?_
      rotate_left 1
      · (intro w hSw; (try dsimp only at hSw); go_simp; (try with_reducible rfl))
      try simp only [Act.put, List.setIfInBounds_toArray, List.set_cons_zero, List.set_cons_succ]
      refine take_at (i := 2) (v := ?_) rfl (by kernel_rfl) (by kernel_rfl) (by kernel_rfl) (fun _ _ _ h => h) (Or.inl ⟨by rfl, ?_⟩) (by assumption) ?_
      rotate_left 1
      · (intro w hSw; (try dsimp only at hSw); go_simp; (try with_reducible rfl))
      try simp only [Act.put, List.setIfInBounds_toArray, List.set_cons_zero, List.set_cons_succ]
      refine take_at (i := 3) (v := ?_) rfl (by kernel_rfl) (by kernel_rfl) (by kernel_rfl) (fun _ _ _ h => h) (Or.inl ⟨by rfl, ?_⟩) (by assumption) ?_
      rotate_left 1
      · (intro w hSw; (try dsimp only at hSw); go_simp; (try with_reducible rfl))
      try simp only [Act.put, List.setIfInBounds_toArray, List.set_cons_zero, List.set_cons_succ]
      refine take_at (i := 4) (v := ?_) rfl (by kernel_rfl) (by kernel_rfl) (by kernel_rfl) (fun _ _ _ h => h) (Or.inl ⟨by rfl, ?_⟩) (by assumption) ?_
      rotate_left 1
      · (intro w hSw; (try dsimp only at hSw); go_simp; (try with_reducible rfl))
      try simp only [Act.put, List.setIfInBounds_toArray, List.set_cons_zero, List.set_cons_succ]
      refine take_at (i := 5) (v := ?_) rfl (by kernel_rfl) (by kernel_rfl) (by kernel_rfl) (fun _ _ _ h => h) (Or.inl ⟨by rfl, ?_⟩) (by assumption) ?_
      rotate_left 1
      · (intro w hSw; (try dsimp only at hSw); go_simp; (try with_reducible rfl))
      try simp only [Act.put, List.setIfInBounds_toArray, List.set_cons_zero, List.set_cons_succ]
      refine wpAnyH_ready (rs := [6, 7]) (by kernel_rfl) (by simp) ?_
      refine cons_at (i := 6) rfl (fun K hK => ?callFirstV5) (cons_at (i := 7) rfl (fun K hK => ?allocFirstV5) AllReadyH.nil)
      case callFirstV5 =>
        go_simp
        go_at_call 105
        refine (cQ _ HB).mono ?_
        rintro y u ⟨p, q, p', q', rfl, k1, k2, j1, j2, hb⟩
        have s1 := cell_below hb q1
        have s2 := cell_below hb q2
        refine hK.out _ _ ?_ (fun hHeld2 => ?_)
        · exact ⟨s1, s2⟩
        clear hK K
        try simp only [Act.put, List.setIfInBounds_toArray, List.set_cons_zero, List.set_cons_succ]
        refine wpAnyH_ready (rs := [7]) (by kernel_rfl) (by simp) ?_
        refine cons_at (i := 7) rfl (fun K hK => ?_) AllReadyH.nil
        go_simp
        refine hK.out _ _ ?_ (fun hHeld3 => ?_)
        · exact ⟨cell_alloc s1 _, cell_alloc s2 _⟩
        clear hK K
        try simp only [Act.put, List.setIfInBounds_toArray, List.set_cons_zero, List.set_cons_succ]
        refine wpAnyH_ready (rs := [8]) (by kernel_rfl) (by simp) ?_
        refine cons_at (i := 8) rfl (fun K hK => ?_) AllReadyH.nil
        go_simp
        have hA := (Below.refl u.heap.size u).alloc (Nat.le_refl _) (.cells #[.bool true, .slice p 5 q, .slice p' 5 q', .slice none 0 0] 76)
        have F : LaidS V5 (u.alloc (.cells #[.bool true, .slice p 5 q, .slice p' 5 q', .slice none 0 0] 76)) u.heap.size p q p' q' 5 K2 X2 := ⟨box4_new _ _ _ _ _ _ rfl, hb.size, hb.alloc hb.size _, k1.below hA, k2.below hA, j1, j2⟩
        refine hK.out _ _ ?_ (fun hHeld4 => ?_)
        · exact ⟨cell_alloc s1 _, cell_alloc s2 _⟩
        clear hK K
        try simp only [Act.put, List.setIfInBounds_toArray, List.set_cons_zero, List.set_cons_succ]
        refine wpAnyH_done (by kernel_rfl) ?_ _
        refine NoPanic.normal ?_
        clear hHeld hHeld2 hHeld3 hHeld4 hA
        generalize u.alloc (.cells #[.bool true, .slice p 5 q, .slice p' 5 q', .slice none 0 0] 76) = V at F ⊢
        generalize u.heap.size = g at F ⊢
        exact key.out V g p q p' q' F
      case allocFirstV5 =>
        go_simp
        refine hK.out _ _ ?_ (fun hHeld2 => ?_)
        · exact ⟨cell_alloc q1 _, cell_alloc q2 _⟩
        clear hK K
        try simp only [Act.put, List.setIfInBounds_toArray, List.set_cons_zero, List.set_cons_succ]
        refine wpAnyH_ready (rs := [6]) (by kernel_rfl) (by simp) ?_
        refine cons_at (i := 6) rfl (fun K hK => ?_) AllReadyH.nil
        go_simp
        go_at_call 105
        have hA := (Below.refl V5.heap.size V5).alloc (Nat.le_refl _) (.cells #[.bool false, .slice none 0 0, .slice none 0 0, .slice none 0 0] 76)
        have bZ := box4_new V5 (.bool false) (.slice none 0 0) (.slice none 0 0) (.slice none 0 0) 76 rfl
        refine (cQ _ (Below.tr HB hA)).mono ?_
        rintro y u ⟨p, q, p', q', rfl, k1, k2, j1, j2, hb⟩
        have s1 := cell_below hb (cell_alloc q1 _)
        have s2 := cell_below hb (cell_alloc q2 _)
        replace bZ := bZ.below hb
        obtain ⟨⟨z0, z1, z2, z3⟩, y0, y1, y2, y3⟩ := id bZ
        refine hK.out _ _ ?_ (fun hHeld3 => ?_)
        · exact ⟨s1, s2⟩
        clear hK K
        try simp only [Act.put, List.setIfInBounds_toArray, List.set_cons_zero, List.set_cons_succ]
        refine wpAnyH_ready (rs := [8]) (by kernel_rfl) (by simp) ?_
        refine cons_at (i := 8) rfl (fun K hK => ?_) AllReadyH.nil
        go_simp
        have T4 := turns_put4 u V5.heap.size (.bool true) (.slice p 5 q) (.slice p' 5 q') (.slice none 0 0)
        have hlt : w.heap.size < V5.heap.size := A1.lt
        have F : LaidS V5 ((((u.setCell ⟨V5.heap.size, 0, none⟩ (.bool true)).setCell ⟨V5.heap.size, 1, none⟩ (.slice p 5 q)).setCell ⟨V5.heap.size, 2, none⟩ (.slice p' 5 q')).setCell ⟨V5.heap.size, 3, none⟩ (.slice none 0 0)) V5.heap.size p q p' q' 5 K2 X2 :=
          ⟨bZ.put _ _ _ _, Nat.le_refl _, Below.turns (hA.trans (hb.mono (by simp))) T4 (fun k hk => by omega), k1.turns T4 (fun x hx e => by have := j1 x hx; simp at this; omega), k2.turns T4 (fun x hx e => by have := j2 x hx; simp at this; omega), j1.mono (by simp), j2.mono (by simp)⟩
        refine hK.out _ _ ?_ (fun hHeld4 => ?_)
        · exact ⟨T4.cell (p := ⟨w.heap.size, 1, none⟩) (by show ¬ w.heap.size = _; omega) s1, T4.cell (p := ⟨w.heap.size, 2, none⟩) (by show ¬ w.heap.size = _; omega) s2⟩
        clear hK K
        try simp only [Act.put, List.setIfInBounds_toArray, List.set_cons_zero, List.set_cons_succ]
        refine wpAnyH_done (by kernel_rfl) ?_ _
        refine NoPanic.normal ?_
        exact key.out _ _ p q p' q' F
    case kontV5 =>
      intro V6 g1 p1 n1 p1' n1' hF
      obtain ⟨D7, hg1, hb, k1, k2, j1, j2⟩ := hF
      replace A1 := A1.below hb
      replace A2 := A2.below hb
      replace A4 := A4.below hb
      replace D6 : Box4 V5 g0 (.bool true) (.slice p0 4 n0) (.slice p0' 4 n0') (.slice none 0 0) := by rw [HV5.out]; exact D6.drew
      replace D6 := D6.below hb
      replace HB := Below.tr HB hb
      replace hcm0 : V5.cell? ⟨b, o + 4, none⟩ = some (.string mid) := by rw [HV5.out]; exact hcm0
      replace hcm0 := cell_below hb hcm0
      have hV5s : V.heap.size ≤ V5.heap.size := by rw [HV5.out]; exact Nat.le_refl _
      replace KK1 : Hid (IsS V6 p0 n0 K1) := IsS.below (w := V5) (by rw [HV5.out]; exact KK1.out) hb
      replace KK2 : Hid (IsS V6 p0' n0' X1) := IsS.below (w := V5) (by rw [HV5.out]; exact KK2.out) hb
      have KK3 : Hid (IsS V6 p1 n1 K2) := k1
      have KK4 : Hid (IsS V6 p1' n1' X2) := k2
      have JJ3 : Hid (From V5.heap.size p1) := j1
      have JJ4 : Hid (From V5.heap.size p1') := j2
      clear q0 q1 q2 q3 k1 k2 j1 j2 hb HV5
      obtain ⟨V7, hV7⟩ : ∃ X, X = V6.drew := ⟨_, rfl⟩
      replace A1 : Box4 V7 w.heap.size (.bool true) (.slice (some ⟨b, o, none⟩) 9 c) (.slice (some ⟨b', o', none⟩) 9 c') (.slice a'' n'' c'') := by rw [hV7]; exact A1.drew
      replace A2 : Box4 V7 (w.heap.size + 1) (.bool false) (.slice none 0 0) (.slice none 0 0) (.slice none 0 0) := by rw [hV7]; exact A2.drew
      replace A4 : Box4 V7 (w.heap.size + 2) (.bool false) (.slice none 0 0) (.slice none 0 0) (.slice none 0 0) := by rw [hV7]; exact A4.drew
      replace D6 : Box4 V7 g0 (.bool true) (.slice p0 4 n0) (.slice p0' 4 n0') (.slice none 0 0) := by rw [hV7]; exact D6.drew
      replace D7 : Box4 V7 g1 (.bool true) (.slice p1 5 n1) (.slice p1' 5 n1') (.slice none 0 0) := by rw [hV7]; exact D7.drew
      replace hcm0 : V7.cell? ⟨b, o + 4, none⟩ = some (.string mid) := by rw [hV7]; exact hcm0
      replace HB : Below w.heap.size w V7 := by rw [hV7]; exact HB.drew
      replace KK1 : Hid (IsS V7 p0 n0 K1) := by rw [hV7]; exact KK1
      replace KK2 : Hid (IsS V7 p0' n0' X1) := by rw [hV7]; exact KK2
      replace KK3 : Hid (IsS V7 p1 n1 K2) := by rw [hV7]; exact KK3
      replace KK4 : Hid (IsS V7 p1' n1' X2) := by rw [hV7]; exact KK4
      obtain ⟨V8, hV8⟩ : ∃ X, X = ((((V7.setCell ⟨w.heap.size + 1, 0, none⟩ (.bool true)).setCell ⟨w.heap.size + 1, 1, none⟩ (.slice p0 4 n0)).setCell ⟨w.heap.size + 1, 2, none⟩ (.slice p0' 4 n0')).setCell ⟨w.heap.size + 1, 3, none⟩ (.slice none 0 0)) := ⟨_, rfl⟩
      obtain ⟨V9, hV9⟩ : ∃ X, X = ((((V8.setCell ⟨w.heap.size + 2, 0, none⟩ (.bool true)).setCell ⟨w.heap.size + 2, 1, none⟩ (.slice p1 5 n1)).setCell ⟨w.heap.size + 2, 2, none⟩ (.slice p1' 5 n1')).setCell ⟨w.heap.size + 2, 3, none⟩ (.slice none 0 0)) := ⟨_, rfl⟩
      have T8 : Turns (fun k => k = w.heap.size + 1) V7 V8 := by rw [hV8]; exact turns_put4 V7 _ _ _ _ _
      have T9 : Turns (fun k => k = w.heap.size + 2) V8 V9 := by rw [hV9]; exact turns_put4 V8 _ _ _ _ _
      have A18 := A1.turns T8 (by omega)
      have A28 : Box4 V8 (w.heap.size + 1) (.bool true) (.slice p0 4 n0) (.slice p0' 4 n0') (.slice none 0 0) := by rw [hV8]; exact A2.put _ _ _ _
      have A48 := A4.turns T8 (by omega)
      have D78 := D7.turns T8 (by omega)
      have hcm8 : V8.cell? ⟨b, o + 4, none⟩ = some (.string mid) := T8.cell (p := ⟨b, o + 4, none⟩) (by show ¬ b = w.heap.size + 1; omega) hcm0
      have A29 := A28.turns T9 (by omega)
      have A49 : Box4 V9 (w.heap.size + 2) (.bool true) (.slice p1 5 n1) (.slice p1' 5 n1') (.slice none 0 0) := by rw [hV9]; exact A48.put _ _ _ _
      have HB9 : Hid (Below w.heap.size w V9) := Below.turns (Below.turns HB T8 (fun k hk => by omega)) T9 (fun k hk => by omega)
      replace KK1 : Hid (IsS V9 p0 n0 K1) := (KK1.out.turns T8 (fun x hx e => by have := JJ1.out x hx; omega)).turns T9 (fun x hx e => by have := JJ1.out x hx; omega)
      replace KK2 : Hid (IsS V9 p0' n0' X1) := (KK2.out.turns T8 (fun x hx e => by have := JJ2.out x hx; omega)).turns T9 (fun x hx e => by have := JJ2.out x hx; omega)
      replace KK3 : Hid (IsS V9 p1 n1 K2) := (KK3.out.turns T8 (fun x hx e => by have := JJ3.out x hx; omega)).turns T9 (fun x hx e => by have := JJ3.out x hx; omega)
      replace KK4 : Hid (IsS V9 p1' n1' X2) := (KK4.out.turns T8 (fun x hx e => by have := JJ4.out x hx; omega)).turns T9 (fun x hx e => by have := JJ4.out x hx; omega)
      have hst1 : Hid ((((V7.setCell ⟨w.heap.size + 1, 0, none⟩ (.bool true)).setCell ⟨w.heap.size + 1, 1, none⟩ (.slice p0 4 n0)).setCell ⟨w.heap.size + 1, 2, none⟩ (.slice p0' 4 n0')).setCell ⟨w.heap.size + 1, 3, none⟩ (.slice none 0 0) = V8) := hV8.symm
      have hst3 : Hid ((((V8.setCell ⟨w.heap.size + 1 + 1, 0, none⟩ (.bool true)).setCell ⟨w.heap.size + 1 + 1, 1, none⟩ (.slice p1 5 n1)).setCell ⟨w.heap.size + 1 + 1, 2, none⟩ (.slice p1' 5 n1')).setCell ⟨w.heap.size + 1 + 1, 3, none⟩ (.slice none 0 0) = V9) := hV9.symm
      have HV7 : Hid (V7 = V6.drew) := hV7
      obtain ⟨⟨q0, q1, q2, q3⟩, -⟩ := A1
      obtain ⟨⟨q08, q18, q28, q38⟩, -⟩ := A18
      obtain ⟨⟨d0, d1, d2, d3⟩, -⟩ := D6
      obtain ⟨⟨e0, e1, e2, e3⟩, -⟩ := D7
      obtain ⟨⟨e08, e18, e28, e38⟩, -⟩ := D78
      obtain ⟨⟨r0, r1, r2, r3⟩, u0, u1, u2, u3⟩ := A2
      obtain ⟨⟨t0, t1, t2, t3⟩, v0, v1, v2, v3⟩ := A48
      clear hV7 hV8 hV9 T8 T9 A28 A4 HB
      go_wp2
      refine region_worlds (by kernel_rfl) [6, 7, 8] (cutV (.agg #[.bool true, .slice p0 4 n0, .slice p0' 4 n0', .slice none 0 0]) (.slice (some ⟨b, o, none⟩) 9 c) (.agg #[.bool true, .slice p1 5 n1, .slice p1' 5 n1', .slice none 0 0]) w.heap.size b o mid) (worlds4 V7 V8 V8 V9) (by kernel_rfl) (by kernel_rfl) HV7.out.symm ?step 10 rfl ?done
      case step =>
        intro i o ho kk a2 hkk hmay hdf hsz hdep hsame
        match i, ho with
        | 0, ho =>
          cases ho
          have h6 := (hsame 6 rfl)
          match kk, hkk, hmay with
          | 0, _, hq => first | (cases hq; done) | (exact val_op rfl (wanted_free rfl) (by clear hdep hsame hsz hdf; (try simp only [cutV, worlds4]); go_simp) rfl rfl)
          | 1, _, hq => first | (cases hq; done) | (exact val_op rfl (wanted_free rfl) (by clear hdep hsame hsz hdf; (try simp only [cutV, worlds4]); go_simp) rfl rfl)
          | 2, _, hq => first | (cases hq; done) | (exact val_op rfl (wanted_free rfl) (by clear hdep hsame hsz hdf; (try simp only [cutV, worlds4]); go_simp) rfl rfl)
          | 3, _, hq => first | (cases hq; done) | (exact val_op rfl (wanted_free rfl) (by clear hdep hsame hsz hdf; (try simp only [cutV, worlds4]); go_simp) rfl rfl)
          | kk + 4, hkk, _ => simp at hkk
        | 1, ho =>
          cases ho
          have h1 := (hsame 1 rfl)
          exact val_op rfl (wanted_free rfl) (by clear hdep hsame hsz hdf; (try simp only [cutV, worlds4]); go_simp) rfl rfl
        | 2, ho =>
          cases ho
          have h38 := (hdep 1 _ 38 rfl rfl rfl)
          simp only [cutV] at h38
          match kk, hkk, hmay with
          | 0, _, hq => first | (cases hq; done) | (exact val_op rfl (wanted_free rfl) (by clear hdep hsame hsz hdf; (try simp only [cutV, worlds4]); go_simp) rfl rfl)
          | 1, _, hq => first | (cases hq; done) | (exact val_op rfl (wanted_free rfl) (by clear hdep hsame hsz hdf; (try simp only [cutV, worlds4]); go_simp) rfl rfl)
          | 2, _, hq => first | (cases hq; done) | (exact val_op rfl (wanted_free rfl) (by clear hdep hsame hsz hdf; (try simp only [cutV, worlds4]); go_simp) rfl rfl)
          | 3, _, hq => first | (cases hq; done) | (exact val_op rfl (wanted_free rfl) (by clear hdep hsame hsz hdf; (try simp only [cutV, worlds4]); go_simp) rfl rfl)
          | kk + 4, hkk, _ => simp at hkk
        | 3, ho =>
          cases ho
          have h39 := (hdep 2 _ 39 rfl rfl rfl)
          simp only [cutV] at h39
          exact val_op rfl (wanted_free rfl) (by clear hdep hsame hsz hdf; (try simp only [cutV, worlds4]); go_simp) rfl rfl
        | 4, ho =>
          cases ho
          have h40 := (hdep 3 _ 40 rfl rfl rfl)
          simp only [cutV] at h40
          match kk, hkk, hmay with
          | 0, _, hq => first | (cases hq; done) | (exact val_op rfl (wanted_free rfl) (by clear hdep hsame hsz hdf; (try simp only [cutV, worlds4]); go_simp) rfl rfl)
          | 1, _, hq => first | (cases hq; done) | (exact val_op rfl (wanted_free rfl) (by clear hdep hsame hsz hdf; (try simp only [cutV, worlds4]); go_simp) rfl rfl)
          | 2, _, hq => first | (cases hq; done) | (exact val_op rfl (wanted_free rfl) (by clear hdep hsame hsz hdf; (try simp only [cutV, worlds4]); go_simp) rfl rfl)
          | 3, _, hq => first | (cases hq; done) | (exact val_op rfl (wanted_free rfl) (by clear hdep hsame hsz hdf; (try simp only [cutV, worlds4]); go_simp) rfl rfl)
          | kk + 4, hkk, _ => simp at hkk
        | 5, ho =>
          cases ho
          have h7 := (hsame 7 rfl)
          match kk, hkk, hmay with
          | 0, _, hq => first | (cases hq; done) | (exact val_op rfl (wanted_free rfl) (by clear hdep hsame hsz hdf; (try simp only [cutV, worlds4]); go_simp) rfl rfl)
          | 1, _, hq => first | (cases hq; done) | (exact val_op rfl (wanted_free rfl) (by clear hdep hsame hsz hdf; (try simp only [cutV, worlds4]); go_simp) rfl rfl)
          | 2, _, hq => first | (cases hq; done) | (exact val_op rfl (wanted_free rfl) (by clear hdep hsame hsz hdf; (try simp only [cutV, worlds4]); go_simp) rfl rfl)
          | 3, _, hq => first | (cases hq; done) | (exact val_op rfl (wanted_free rfl) (by clear hdep hsame hsz hdf; (try simp only [cutV, worlds4]); go_simp) rfl rfl)
          | kk + 4, hkk, _ => simp at hkk
        | 6, ho =>
          cases ho
          have h2 := (hsame 2 rfl)
          have h37 := (hdep 0 _ 37 rfl rfl rfl)
          simp only [cutV] at h37
          match kk, hkk, hmay with
          | 0, _, _ => exact val_skip rfl (wanted_free rfl) rfl (by clear hdep hsame hsz hdf; simp only [worlds4]; go_simp; try exact hst1.out) rfl
          | 1, _, hq => cases hq
          | 2, _, hq => cases hq
          | 3, _, hq => cases hq
          | kk + 4, hkk, _ => simp at hkk
        | 7, ho =>
          cases ho
          have h41 := (hdep 4 _ 41 rfl rfl rfl)
          simp only [cutV] at h41
          match kk, hkk, hmay with
          | 0, _, hq => cases hq
          | 1, _, _ => exact val_op rfl (wanted_free rfl) (by clear hdep hsame hsz hdf; (try simp only [cutV, worlds4]); go_simp) rfl rfl
          | 2, _, hq => cases hq
          | 3, _, hq => cases hq
          | kk + 4, hkk, _ => simp at hkk
        | 8, ho =>
          cases ho
          have h4 := (hsame 4 rfl)
          have h42 := (hdep 5 _ 42 rfl rfl rfl)
          simp only [cutV] at h42
          match kk, hkk, hmay with
          | 0, _, hq => cases hq
          | 1, _, hq => cases hq
          | 2, _, _ => exact val_skip rfl (wanted_free rfl) rfl (by clear hdep hsame hsz hdf; simp only [worlds4]; go_simp; try exact hst3.out) rfl
          | 3, _, hq => cases hq
          | kk + 4, hkk, _ => simp at hkk
        | 9, ho =>
          cases ho
          exact val_op rfl (wanted_free rfl) (by clear hdep hsame hsz hdf; (try simp only [cutV, worlds4]); go_simp) rfl rfl
        | kk + 10, ho => simp at ho
      case done =>
        simp [filledN, cutV, worlds4]
        obtain ⟨⟨x0, x1, x2, x3⟩, -⟩ := A29
        obtain ⟨⟨y0, y1, y2, y3⟩, -⟩ := A49
        go_wp2
        refine bodyPost_ret (v := .tuple #[.agg #[.bool true, .slice p0 4 n0, .slice p0' 4 n0', .slice none 0 0], .string mid, .agg #[.bool true, .slice p1 5 n1, .slice p1' 5 n1', .slice none 0 0], .int .i64 0]) (by simp [results, Tryz.results87, go_sem, x0, x1, x2, x3, y0, y1, y2, y3]) rfl ⟨p0, n0, p0', n0', p1, n1, p1', n1', rfl, KK1.out, KK2.out, KK3.out, KK4.out, ⟨JJ1.out.mono (by omega), JJ2.out.mono (by omega), JJ3.out.mono (by omega), JJ4.out.mono (by omega)⟩, HB9.out⟩

end Go.Proofs.YtaecfbfcjaailaaGreat

/-
  Graphs in memory: rows of tasks (four cells each, the first a row of numbers), as they are handed in, as they are copied, and as they grow.
-/
import Derived.Test.YtmjhapkhfelbpaaTurns
import Derived.Test.YtmjhapkhfelbpaaBoxL
import Derived.Test.YtmjhapkhfelbpaaDagOrd
import Derived.Lib.AppendZeros
import Derived.Deep.SlicePairs
import Derived.Deep.Strs
namespace Go.Proofs.Ytmjhapkhfelbpaa
open Go.RowKit Plain Go.ChangeShapes Go.WideShapes
set_option linter.unusedVariables false

/-- A task, and where the row of its needs lies. -/
structure TaskV where
  a : Option Addr
  c : Nat
  ns : List Int
  tr : Int
  wt : Int
  le : Int

instance : Inhabited TaskV := ⟨⟨none, 0, [], 0, 0, 0⟩⟩

def TaskV.p (t : TaskV) : TaskP := ⟨t.ns, t.tr, t.wt, t.le⟩
def plainT (ts : List TaskV) : List TaskP := ts.map TaskV.p

theorem plainT_length (ts : List TaskV) : (plainT ts).length = ts.length := by simp [plainT]
theorem plainT_get {ts : List TaskV} {j : Nat} {t : TaskV} (h : ts[j]? = some t) : (plainT ts)[j]? = some t.p := by unfold plainT; rw [List.getElem?_map, h]; rfl
theorem needsAt_get {ts : List TaskV} {j : Nat} {t : TaskV} (h : ts[j]? = some t) : needsAt (plainT ts) j = t.ns := by unfold needsAt; rw [plainT_get h]; rfl

def fourT (t : TaskV) : List Value := [.slice t.a t.ns.length t.c, .int .i64 t.tr, .int .i64 t.wt, .int .i64 t.le]
def cellsT (ts : List TaskV) : List Value := ts.flatMap fourT

theorem cellsT_cons (t : TaskV) (ts : List TaskV) : cellsT (t :: ts) = .slice t.a t.ns.length t.c :: .int .i64 t.tr :: .int .i64 t.wt :: .int .i64 t.le :: cellsT ts := rfl
theorem cellsT_append (xs ys : List TaskV) : cellsT (xs ++ ys) = cellsT xs ++ cellsT ys := by simp [cellsT]
theorem cellsT_one (t : TaskV) : cellsT [t] = fourT t := by simp [cellsT]

theorem cellsT_length (ts : List TaskV) : (cellsT ts).length = ts.length * 4 := by
  induction ts with
  | nil => rfl
  | cons t ts ih => rw [cellsT_cons]; simp [ih]; omega

theorem cellsT_at {ts : List TaskV} {i : Nat} {t : TaskV} (h : ts[i]? = some t) : (cellsT ts)[i * 4]? = some (.slice t.a t.ns.length t.c) ∧ (cellsT ts)[i * 4 + 1]? = some (.int .i64 t.tr) ∧ (cellsT ts)[i * 4 + 2]? = some (.int .i64 t.wt) ∧ (cellsT ts)[i * 4 + 3]? = some (.int .i64 t.le) := by
  induction ts generalizing i with
  | nil => simp at h
  | cons q ps ih =>
    rw [cellsT_cons]
    cases i with
    | zero => simp at h; subst h; exact ⟨rfl, rfl, rfl, rfl⟩
    | succ i =>
      simp at h
      have := ih h
      rw [Nat.succ_mul]
      simpa using this

theorem cellsT_any (ts : List TaskV) : ∀ u ∈ cellsT ts, ∃ t ∈ ts, u ∈ fourT t := fun u hu => List.mem_flatMap.1 hu

theorem cellsT_set {ts : List TaskV} {j : Nat} {t : TaskV} (h : ts[j]? = some t) (m : List Int) (hm : m.length ≤ t.ns.length) : cellsT (ts.set j { t with ns := m }) = (cellsT ts).set (j * 4) (.slice t.a m.length t.c) := by
  induction ts generalizing j with
  | nil => simp at h
  | cons q ps ih =>
    cases j with
    | zero => simp at h; subst h; rfl
    | succ j =>
      rw [List.getElem?_cons_succ] at h
      rw [List.set_cons_succ, cellsT_cons, cellsT_cons, ih h, show (j + 1) * 4 = j * 4 + 1 + 1 + 1 + 1 by omega]
      rfl

/-- The needs of all of them, as they lie. -/
def NeedsIn (w : World) (ts : List TaskV) : Prop := ∀ t ∈ ts, IsI w t.a t.c t.ns

theorem NeedsIn.below {w w' : World} {ts : List TaskV} (h : NeedsIn w ts) (hb : Below w.heap.size w w') : NeedsIn w' ts := fun t ht => (h t ht).below hb

/-- A row of tasks, as it lies. -/
def IsT (w : World) (a : Option Addr) (c : Nat) (ts : List TaskV) : Prop :=
  ts.length ≤ c ∧ c ≤ maxLen ∧ NeedsIn w ts ∧ ∀ (j : Nat) t, ts[j]? = some t → ∃ b o, a = some ⟨b, o, none⟩ ∧ b < w.heap.size ∧ w.cell? ⟨b, o + j * 4, none⟩ = some (.slice t.a t.ns.length t.c) ∧ w.cell? ⟨b, o + j * 4 + 1, none⟩ = some (.int .i64 t.tr) ∧ w.cell? ⟨b, o + j * 4 + 2, none⟩ = some (.int .i64 t.wt) ∧ w.cell? ⟨b, o + j * 4 + 3, none⟩ = some (.int .i64 t.le)

theorem isT_nil (w : World) (a : Option Addr) (c : Nat) (hc : c ≤ maxLen) : IsT w a c [] := ⟨Nat.zero_le _, hc, fun t h => by simp at h, fun j p h => by simp at h⟩

theorem IsT.below {w w' : World} {a : Option Addr} {c : Nat} {ts : List TaskV} (h : IsT w a c ts) (hb : Below w.heap.size w w') : IsT w' a c ts := by
  refine ⟨h.1, h.2.1, h.2.2.1.below hb, fun j t ht => ?_⟩
  obtain ⟨b, o, ha, hl, c0, c1, c2, c3⟩ := h.2.2.2 j t ht
  exact ⟨b, o, ha, Nat.lt_of_lt_of_le hl hb.size, cell_below hb c0, cell_below hb c1, cell_below hb c2, cell_below hb c3⟩

theorem IsT.drew {w : World} {a : Option Addr} {c : Nat} {ts : List TaskV} (h : IsT w a c ts) : IsT w.drew a c ts := h.below (Below.refl _ _).drew
theorem IsT.alloc {w : World} {a : Option Addr} {c : Nat} {ts : List TaskV} (h : IsT w a c ts) (o : Obj) : IsT (w.alloc o) a c ts := h.below ((Below.refl _ _).alloc (Nat.le_refl _) o)

theorem IsT.some {w : World} {a : Option Addr} {c : Nat} {ts : List TaskV} (h : IsT w a c ts) (h0 : 0 < ts.length) : ∃ b o, a = .some ⟨b, o, none⟩ ∧ b < w.heap.size := by
  obtain ⟨b, o, ha, hl, _⟩ := h.2.2.2 0 ts[0] (List.getElem?_eq_getElem h0)
  exact ⟨b, o, ha, hl⟩

/-- One task of a row whose address is known. -/
theorem IsT.at {w : World} {b o c : Nat} {ts : List TaskV} (h : IsT w (.some ⟨b, o, none⟩) c ts) {j : Nat} {t : TaskV} (ht : ts[j]? = .some t) :
    w.cell? ⟨b, o + j * 4, none⟩ = .some (.slice t.a t.ns.length t.c) ∧ w.cell? ⟨b, o + j * 4 + 1, none⟩ = .some (.int .i64 t.tr) ∧ w.cell? ⟨b, o + j * 4 + 2, none⟩ = .some (.int .i64 t.wt) ∧ w.cell? ⟨b, o + j * 4 + 3, none⟩ = .some (.int .i64 t.le) ∧ IsI w t.a t.c t.ns := by
  obtain ⟨b', o', he, _, hc⟩ := h.2.2.2 j t ht
  cases he
  exact ⟨hc.1, hc.2.1, hc.2.2.1, hc.2.2.2, h.2.2.1 t (List.mem_of_getElem? ht)⟩

theorem IsT.take {w : World} {a : Option Addr} {c : Nat} {ts : List TaskV} (h : IsT w a c ts) (n : Nat) : IsT w a c (ts.take n) := by
  refine ⟨by rw [List.length_take]; have := h.1; omega, h.2.1, fun t ht => h.2.2.1 t (List.mem_of_mem_take ht), fun j x hx => h.2.2.2 j x ?_⟩
  rw [List.getElem?_take] at hx
  split at hx
  · exact hx
  · cases hx

theorem isT_src {w : World} {ad : Addr} {c : Nat} {ts : List TaskV} (h : IsT w (some ad) c ts) : ∀ j u, (cellsT ts)[j]? = some u → w.cell? (ad.add j) = some u := by
  intro j u hj
  have hl := (List.getElem?_eq_some_iff.1 hj).1
  rw [cellsT_length] at hl
  have hi : j / 4 < ts.length := by omega
  obtain ⟨b, o, ha, _, c0, c1, c2, c3⟩ := h.2.2.2 (j / 4) ts[j / 4] (List.getElem?_eq_getElem hi)
  obtain ⟨d0, d1, d2, d3⟩ := cellsT_at (List.getElem?_eq_getElem hi)
  cases ha
  rw [at_add]
  rcases (show j % 4 = 0 ∨ j % 4 = 1 ∨ j % 4 = 2 ∨ j % 4 = 3 by omega) with hr | hr | hr | hr
  · rw [show j / 4 * 4 = j by omega] at c0 d0
    rw [d0] at hj; rw [← Option.some.inj hj]; exact c0
  · rw [Nat.add_assoc, show j / 4 * 4 + 1 = j by omega] at c1
    rw [show j / 4 * 4 + 1 = j by omega] at d1
    rw [d1] at hj; rw [← Option.some.inj hj]; exact c1
  · rw [Nat.add_assoc, show j / 4 * 4 + 2 = j by omega] at c2
    rw [show j / 4 * 4 + 2 = j by omega] at d2
    rw [d2] at hj; rw [← Option.some.inj hj]; exact c2
  · rw [Nat.add_assoc, show j / 4 * 4 + 3 = j by omega] at c3
    rw [show j / 4 * 4 + 3 = j by omega] at d3
    rw [d3] at hj; rw [← Option.some.inj hj]; exact c3

/-- A row of tasks of the call's own. -/
def RowK (w : World) (g cap : Nat) (ts : List TaskV) : Prop :=
  ∃ cur : Array Value, w.heap[g]? = some (.cells cur 46 (0, 0)) ∧ cur.toList.take (ts.length * 4) = cellsT ts ∧ ts.length ≤ cap ∧ cap ≤ maxLen ∧ cur.size = cap * 4

theorem RowK.lt {w : World} {g cap : Nat} {ts : List TaskV} (h : RowK w g cap ts) : g < w.heap.size := by
  obtain ⟨cur, hg, _⟩ := h
  exact (Array.getElem?_eq_some_iff.1 hg).1

theorem RowK.below {w w' : World} {g cap : Nat} {ts : List TaskV} (h : RowK w g cap ts) (hb : Below w.heap.size w w') : RowK w' g cap ts := by
  have hl := h.lt
  obtain ⟨cur, hg, hr⟩ := h
  exact ⟨cur, by rw [hb.block g hl]; exact hg, hr⟩

theorem RowK.other {w : World} {g cap h i : Nat} {ts : List TaskV} {v : Value} (hr : RowK w g cap ts) (hn : g ≠ h) : RowK (w.setCell ⟨h, i, none⟩ v) g cap ts := by
  obtain ⟨cur, hg, hr⟩ := hr
  exact ⟨cur, by rw [Below.heap_setCell _ _ _ _ hn]; exact hg, hr⟩

theorem RowK.at {w : World} {g cap : Nat} {ts : List TaskV} (h : RowK w g cap ts) {j : Nat} {u : Value} (hu : (cellsT ts)[j]? = some u) : w.cell? ⟨g, j, none⟩ = some u ∧ w.frozen? ⟨g, j, none⟩ = false := by
  obtain ⟨cur, hg, ht, hl, _, hs⟩ := h
  have hj := (List.getElem?_eq_some_iff.1 hu).1
  rw [cellsT_length] at hj
  have hc : cur[j]? = some u := by
    rw [← Array.getElem?_toList]
    have : (cur.toList.take (ts.length * 4))[j]? = some u := by rw [ht]; exact hu
    rwa [List.getElem?_take_of_lt hj] at this
  exact ⟨by rw [Joins.cell_of_block hg]; exact hc, Joins.unfrozen_of_block hg j⟩

theorem RowK.cut {w : World} {g cap : Nat} {ts : List TaskV} (h : RowK w g cap ts) {j : Nat} {t : TaskV} (ht : ts[j]? = some t) (m : List Int) (hm : m.length ≤ t.ns.length) : RowK (w.setCell ⟨g, j * 4, none⟩ (.slice t.a m.length t.c)) g cap (ts.set j { t with ns := m }) := by
  obtain ⟨cur, hg, hk, hl, hx, hs⟩ := h
  refine ⟨_, Joins.block_setCell hg _, ?_, by rw [List.length_set]; exact hl, hx, by rw [Array.size_setIfInBounds]; exact hs⟩
  rw [List.length_set, Array.toList_setIfInBounds, List.take_set, hk, cellsT_set ht m hm]

theorem RowK.isT {w : World} {g cap : Nat} {ts : List TaskV} (h : RowK w g cap ts) (hn : NeedsIn w ts) : IsT w (some ⟨g, 0, none⟩) cap ts := by
  have hl := h.lt
  refine ⟨?_, ?_, hn, fun j t ht => ⟨g, 0, rfl, hl, ?_, ?_, ?_, ?_⟩⟩
  · obtain ⟨cur, _, _, h1, _⟩ := h; exact h1
  · obtain ⟨cur, _, _, _, h1, _⟩ := h; exact h1
  · rw [Nat.zero_add]; exact (h.at (cellsT_at ht).1).1
  · rw [Nat.zero_add]; exact (h.at (cellsT_at ht).2.1).1
  · rw [Nat.zero_add]; exact (h.at (cellsT_at ht).2.2.1).1
  · rw [Nat.zero_add]; exact (h.at (cellsT_at ht).2.2.2).1

theorem Try.info46 : (Try.prog.info? 46).map (fun i => (i.zero, i.size, i.bytes)) = some (some (.agg #[.slice none 0 0, .int .i64 0, .int .i64 0, .int .i64 0]), 4, 48) := by kernel_rfl

theorem runT_none {w : World} (base : Nat) (t ty e : TypeId) (i : TypeInfo) (size m c : Nat) (hm : m = 0) (ht : Try.prog.underlying t = some (.slice e)) (hi : Try.prog.info? e = some i)
    (v : Value) (n : Nat) (xs : List Value) (hown : w.ownsRow base e size v n xs) :
    (Builtin.append_ #[t, t] ty #[v, .slice none m c]).run Try.prog w = .ok v w := by
  subst hm
  rcases hown.2 with ⟨rfl, rfl⟩ | ⟨g, cap, cur, rfl, _, _, hnc, _⟩
  · simp [Builtin.append_, run_underlying ht, sizeOf, typeInfo, hi, Builtin.lenOf, Builtin.firstCells]
  · simp [Builtin.append_, run_underlying ht, sizeOf, typeInfo, hi, Builtin.lenOf, Builtin.firstCells, hnc, storeCells]

/-- 'append([]api.Task{}, ts...)': a row of the call's own. -/
theorem copyK (W : World) (a : Option Addr) (c n : Nat) (ts : List TaskV) (hn : n = ts.length) (hT : IsT W a c ts) (hz : n ≤ 1000000) (ty : TypeId) :
    ∃ g cap w', (Builtin.append_ #[22, 22] ty #[.slice (some ⟨W.heap.size, 0, none⟩) 0 0, .slice a n c]).run Try.prog (W.alloc (.cells #[] 46)) = .ok (.slice (some ⟨g, 0, none⟩) n cap) w' ∧ W.heap.size ≤ g ∧ RowK w' g cap ts ∧ Below W.heap.size W w' := by
  subst hn
  obtain ⟨i0, hi, hz0, hz1, hz2⟩ := info_parts Try.info46
  have hown := World.ownsRow_made (base := W.heap.size) (e := 46) (size := 4) W #[] 0 (Nat.le_refl _) (Nat.zero_le _) rfl
  have hB := (Below.refl W.heap.size W).alloc (Nat.le_refl _) (.cells #[] 46)
  cases a with
  | none =>
    have h0 : ts = [] := by
      rcases Nat.eq_zero_or_pos ts.length with h | h
      · exact List.length_eq_zero_iff.1 h
      · obtain ⟨b, o, hh, _⟩ := hT.some h
        cases hh
    subst h0
    refine ⟨W.heap.size, 0, _, runT_none W.heap.size _ ty _ i0 4 0 c rfl Try.underlying22 hi _ _ _ hown, Nat.le_refl _, ⟨#[], ?_, rfl, Nat.le_refl _, Nat.zero_le _, rfl⟩, hB⟩
    exact heap_new W _
  | some ad =>
    obtain ⟨v', w', hr, h2, h3, h4⟩ := run_append_own (P := Try.prog) (W.alloc (.cells #[] 46)) W.heap.size 22 ty 46 i0 _ 4 48 Try.underlying22 hi hz0 hz1 hz2 rfl (by decide) _ 0 _ hown ad ts.length c (cellsT ts) (cellsT_length ts) (isT_src (hT.below hB))
      (fun u hu => by obtain ⟨t, _, h⟩ := cellsT_any ts u hu; simp [fourT] at h; rcases h with rfl | rfl | rfl | rfl <;> rfl) (by have := hT.1; have := hT.2.1; unfold maxLen at *; omega) (by omega) (by simp)
    rcases h2.2 with ⟨h, _⟩ | ⟨g, cap, cur, h, hg, hcur, hnc, hcm, hsz, htk⟩
    · exact absurd (h4.1 h).1 (by simp)
    · subst h
      refine ⟨g, cap, w', by rw [hr, Nat.zero_add], hg, ⟨cur, hcur, by simpa using htk, by omega, hcm, by omega⟩, hB.grown h3 (by simp) (by intro k hk; simp [Value.ownBlock] at hk; omega)⟩

/-- One task more at the end of a row of the call's own. -/
theorem push_K (W : World) (base : Nat) (v : Value) (n : Nat) (l : List TaskV) (x : TaskV) (hown : W.ownsRow base 46 4 v n (cellsT l)) (hb : base ≤ W.heap.size) (hn : n ≤ 1000000) :
    ∃ g cap w', (Builtin.append_ #[22, 22] 22 #[v, .slice (some ⟨W.heap.size, 0, none⟩) 1 1]).run Try.prog (W.alloc (.cells #[.slice x.a x.ns.length x.c, .int .i64 x.tr, .int .i64 x.wt, .int .i64 x.le] 46)) = .ok (.slice (some ⟨g, 0, none⟩) (n + 1) cap) w' ∧
      w'.ownsRow base 46 4 (.slice (some ⟨g, 0, none⟩) (n + 1) cap) (n + 1) (cellsT (l ++ [x])) ∧ (W.alloc (.cells #[.slice x.a x.ns.length x.c, .int .i64 x.tr, .int .i64 x.wt, .int .i64 x.le] 46)).grownBy w' v.ownBlock ∧ (v.ownBlock = some g ∨ g = W.heap.size + 1) ∧ base ≤ g ∧ g < w'.heap.size := by
  obtain ⟨i0, hi, hz0, hz1, hz2⟩ := info_parts Try.info46
  obtain ⟨g, cap, w', h1, h2, h3, h4, h5⟩ := run_append_lies (P := Try.prog) (W.alloc (.cells #[.slice x.a x.ns.length x.c, .int .i64 x.tr, .int .i64 x.wt, .int .i64 x.le] 46)) 22 22 base 46 i0 _ 4 48 Try.underlying22 hi hz0 hz1 hz2 rfl (by decide) v n (cellsT l) (hown.alloc _) ⟨W.heap.size, 0, none⟩ 1 1 (fourT x) rfl
    (by
      intro j u hj
      match j, hj with
      | 0, hj => simp [fourT] at hj; subst hj; rw [at_add]; exact World.cell?_alloc_at _ _ _ _ rfl
      | 1, hj => simp [fourT] at hj; subst hj; rw [at_add]; exact World.cell?_alloc_at _ _ _ _ rfl
      | 2, hj => simp [fourT] at hj; subst hj; rw [at_add]; exact World.cell?_alloc_at _ _ _ _ rfl
      | 3, hj => simp [fourT] at hj; subst hj; rw [at_add]; exact World.cell?_alloc_at _ _ _ _ rfl)
    (by intro u hu; simp [fourT] at hu; rcases hu with rfl | rfl | rfl | rfl <;> rfl) (by omega) (by unfold maxLen; omega) (by omega) (by simp; omega) (W.heap.size + 1) (by simp)
  refine ⟨g, cap, w', h1, by rw [cellsT_append, cellsT_one]; exact h2, h3, h4, (h2.lt g rfl).1, h5⟩

/-- A row of the call's own, as a slice. -/
theorem owned_isT {w : World} {B : Nat} {v : Value} {n : Nat} {ts : List TaskV} (h : w.ownsRow B 46 4 v n (cellsT ts)) (hn : n = ts.length) (hk : NeedsIn w ts) : ∃ a c, v = .slice a n c ∧ IsT w a c ts ∧ From B a := by
  have hlt := h.lt
  have hcell := fun g => h.cells (g := g)
  rcases h.2 with ⟨rfl, rfl⟩ | ⟨g, cap, cur, rfl, hg, hh, hnc, hcm, hcs, htk⟩
  · obtain rfl : ts = [] := List.length_eq_zero_iff.1 hn.symm
    exact ⟨none, 0, rfl, isT_nil _ _ _ (Nat.zero_le _), from_nil _⟩
  · refine ⟨_, _, rfl, ⟨by omega, hcm, hk, fun j p hp => ⟨g, 0, rfl, (hlt g rfl).2, ?_, ?_, ?_, ?_⟩⟩, fun x hx => by cases hx; exact hg⟩
    · have := hcell g rfl (j * 4) _ (cellsT_at hp).1
      rw [at_add] at this
      exact this
    · have := hcell g rfl (j * 4 + 1) _ (cellsT_at hp).2.1
      rw [at_add] at this
      exact this
    · have := hcell g rfl (j * 4 + 2) _ (cellsT_at hp).2.2.1
      rw [at_add] at this
      exact this
    · have := hcell g rfl (j * 4 + 3) _ (cellsT_at hp).2.2.2
      rw [at_add] at this
      exact this

theorem list_four {α : Type} (l : List α) (h : l.length = 4) : ∃ a b c d, l = [a, b, c, d] := by
  match l, h with
  | [a, b, c, d], _ => exact ⟨a, b, c, d, rfl⟩

set_option maxRecDepth 20000 in
theorem open_T {H : Type} {enc : TypeId × Value → H} {w : World} {fuel : Nat} {v : Value} {x : DataW H × List MemPlace}
    (h : DataW.trod enc Try.prog w 0 (fun _ => true) true fuel 22 [v] = some x) : ∃ a c ts, v = .slice a ts.length c ∧ IsT w a c ts := by
  have ce : Try.prog.cellsOf 46 = 4 := by kernel_rfl
  rcases Deep.open_slice Try.underlying22 h with ⟨hcs, _⟩ | ⟨a, l, c, m, n, D, Pl, hcs, _, hl, hm, hmm, _, hcell⟩
  · simp at hcs
    subst hcs
    exact ⟨none, 0, [], rfl, isT_nil _ _ _ (Nat.zero_le _)⟩
  · simp at hcs
    subst hcs
    simp at hmm
    have each : ∀ i, i < m → ∃ t : TaskV, w.cell? (a.add (i * 4)) = some (.slice t.a t.ns.length t.c) ∧ w.cell? (a.add (i * 4 + 1)) = some (.int .i64 t.tr) ∧ w.cell? (a.add (i * 4 + 2)) = some (.int .i64 t.wt) ∧ w.cell? (a.add (i * 4 + 3)) = some (.int .i64 t.le) ∧ IsI w t.a t.c t.ns := by
      intro i hi
      obtain ⟨cs', h1, h2⟩ := hcell i hi
      rw [ce] at h1
      obtain ⟨_, hlen, hc⟩ := World.cells?_some h1
      obtain ⟨y0, y1, y2, y3, k, _, _, g0, g1, g2, g3⟩ := Joins.trod_struct4 Try.underlying46 h2
      obtain ⟨v0, v1, v2, v3, rfl⟩ := list_four cs' hlen
      have ci : Try.prog.cellsOf 29 = 1 := by kernel_rfl
      have cb : Try.prog.cellsOf 3 = 1 := by kernel_rfl
      simp only [ci, cb, List.drop_zero, List.drop_succ_cons, List.take_succ_cons, List.take_zero] at g0 g1 g2 g3
      obtain ⟨ai, ca, ms, rfl, hI⟩ := open_I g0
      obtain ⟨x1, e1, _, s1⟩ := DataW.trod_int (k := .i64) Try.underlying3 g1
      obtain ⟨x2, e2, _, s2⟩ := DataW.trod_int (k := .i64) Try.underlying3 g2
      obtain ⟨x3, e3, _, s3⟩ := DataW.trod_int (k := .i64) Try.underlying3 g3
      simp at e1 e2 e3
      subst e1 e2 e3
      have c0 := hc 0 (by omega)
      have c1 := hc 1 (by omega)
      have c2 := hc 2 (by omega)
      have c3 := hc 3 (by omega)
      rw [Deep.add_add] at c0 c1 c2 c3
      exact ⟨⟨ai, ca, ms, x1, x2, x3⟩, by simpa using c0, by simpa using c1, by simpa using c2, by simpa using c3, hI⟩
    obtain ⟨q, hq⟩ := Deep.choose_lt each
    refine ⟨some a, c, (List.range l).map q, by simp, by simpa using hl, hm, fun t ht => ?_, fun j p hp => ?_⟩
    · obtain ⟨i, hi, rfl⟩ := List.mem_map.1 ht
      exact (hq i (by have := List.mem_range.1 hi; omega)).2.2.2.2
    · have hj : j < l := by simpa using (List.getElem?_eq_some_iff.1 hp).1
      rw [List.getElem?_map, List.getElem?_range hj] at hp
      obtain rfl : q j = p := Option.some.inj hp
      obtain ⟨h0, h1, h2, h3, _⟩ := hq j (by omega)
      obtain ⟨b, o, rfl, hb⟩ := spot_none (hq 0 (by omega)).1
      rw [at_add] at h0 h1 h2 h3
      exact ⟨b, o, rfl, hb, h0, by rw [Nat.add_assoc]; exact h1, by rw [Nat.add_assoc]; exact h2, by rw [Nat.add_assoc]; exact h3⟩

set_option maxRecDepth 20000 in
theorem open_dag {H : Type} {enc : TypeId × Value → H} {w : World} {r : Reach} {b0 : Nat} {v : Value} {d : DataW H} {p : List MemPlace}
    (hv : Value.okWide Try.prog w r b0 24 v) (h : DataW.Trod enc Try.prog w 0 (fun _ => true) true 24 v d p) :
    ∃ s a c ts, v = .agg #[.string s, .slice a ts.length c] ∧ s.size ≤ maxLen ∧ IsT w a c ts := by
  obtain ⟨v0, v1, y0, y1, n, rfl, _, _, h0, h1⟩ := Joins.open_agg2 Try.underlying24 (by kernel_rfl) (by kernel_rfl) hv h
  obtain ⟨s, e0, _, s0⟩ := DataW.trod_string Try.underlying9 h0
  obtain ⟨a, c, ts, rfl, hT⟩ := open_T h1
  simp at e0
  subst e0
  exact ⟨s, a, c, ts, rfl, s0, hT⟩

end Go.Proofs.Ytmjhapkhfelbpaa

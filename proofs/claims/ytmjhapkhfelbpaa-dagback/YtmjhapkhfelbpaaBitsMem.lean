/-
  Memory: rows of yes and no, rows of such rows, rows of numbers: as they are handed in, and as a call itself lays them.
-/
import Derived.Test.YtmjhapkhfelbpaaCore
import Derived.Test.YtmjhapkhfelbpaaBitsPlain
import Derived.Deep.Grids
namespace Go.Proofs.Ytmjhapkhfelbpaa
open Go.RowKit Plain Go.ChangeShapes Go.WideShapes
set_option linter.unusedVariables false

/-! Slices of bools -/

def IsB (w : World) (a : Option Addr) (c : Nat) (l : List Bool) : Prop :=
  l.length ≤ c ∧ c ≤ maxLen ∧ ∀ j x, l[j]? = some x → ∃ b o, a = some ⟨b, o, none⟩ ∧ b < w.heap.size ∧ w.cell? ⟨b, o + j, none⟩ = some (.bool x)

theorem IsB_nil (w : World) : IsB w none 0 [] := ⟨Nat.le_refl _, Nat.zero_le _, fun j x hx => by simp at hx⟩

theorem IsB.below {w w' : World} {a : Option Addr} {c : Nat} {l : List Bool} (h : IsB w a c l) (hb : Below w.heap.size w w') : IsB w' a c l := by
  refine ⟨h.1, h.2.1, fun j x hx => ?_⟩
  obtain ⟨b, o, ha, hlt, hc⟩ := h.2.2 j x hx
  exact ⟨b, o, ha, Nat.lt_of_lt_of_le hlt hb.size, by rw [hb.cell (p := ⟨b, o + j, none⟩) hlt]; exact hc⟩

theorem IsB.take {w : World} {a : Option Addr} {c : Nat} {l : List Bool} (h : IsB w a c l) (n : Nat) : IsB w a c (l.take n) := by
  refine ⟨by rw [List.length_take]; have := h.1; omega, h.2.1, fun j x hx => h.2.2 j x ?_⟩
  rw [List.getElem?_take] at hx
  split at hx
  · exact hx
  · cases hx

theorem IsB.some {w : World} {a : Option Addr} {c : Nat} {l : List Bool} (h : IsB w a c l) (h0 : 0 < l.length) : ∃ b o, a = .some ⟨b, o, none⟩ ∧ b < w.heap.size := by
  obtain ⟨b, o, ha, hl, _⟩ := h.2.2 0 l[0] (List.getElem?_eq_getElem h0)
  exact ⟨b, o, ha, hl⟩

/-- One place of a row whose address is known. -/
theorem IsB.at {w : World} {b o c : Nat} {l : List Bool} (h : IsB w (.some ⟨b, o, none⟩) c l) {j : Nat} {x : Bool} (hx : l[j]? = .some x) : w.cell? ⟨b, o + j, none⟩ = .some (.bool x) := by
  obtain ⟨b', o', he, _, hc⟩ := h.2.2 j x hx
  cases he
  exact hc

theorem open_B {H : Type} {enc : TypeId × Value → H} {w : World} {fuel : Nat} {v : Value} {x : DataW H × List MemPlace}
    (h : DataW.trod enc Try.prog w 0 (fun _ => true) true fuel 25 [v] = some x) : ∃ a c l, v = .slice a l.length c ∧ IsB w a c l := by
  rcases Deep.open_bools Try.underlying25 Try.underlying4 (by kernel_rfl) h with ⟨hcs, _⟩ | ⟨a, n, c, B, hcs, _, hl, hm, _, hcell⟩
  · simp at hcs
    exact ⟨none, 0, [], hcs, Nat.le_refl _, Nat.zero_le _, fun j m hj => by simp at hj⟩
  · simp at hcs
    refine ⟨some a, c, (List.range n).map B, by simpa using hcs, by simpa using hl, hm, fun j y hy => ?_⟩
    have hj : j < n := by simpa using (List.getElem?_eq_some_iff.1 hy).1
    rw [List.getElem?_map, List.getElem?_range hj] at hy
    simp at hy
    subst hy
    obtain ⟨b, o, rfl, hb⟩ := spot_none (hcell 0 (by omega))
    have hc := hcell j (by omega)
    rw [at_add] at hc
    exact ⟨b, o, rfl, hb, hc⟩

set_option maxRecDepth 20000 in
theorem open_places {H : Type} {enc : TypeId × Value → H} {w : World} {r : Reach} {b0 : Nat} {v : Value} {d : DataW H} {p : List MemPlace}
    (hv : Value.okWide Try.prog w r b0 25 v) (h : DataW.Trod enc Try.prog w 0 (fun _ => true) true 25 v d p) :
    ∃ a c l, v = .slice a l.length c ∧ IsB w a c l := by
  obtain ⟨a, len, cap, rfl⟩ := okWide_slice Try.underlying25 hv
  obtain ⟨fuel, hf⟩ := h
  exact open_B (by simpa [Value.cells] using hf)

/-! A row of bools of the call's own -/

def RowT (w : World) (g cap : Nat) (l : List Bool) : Prop :=
  ∃ cur : Array Value, w.heap[g]? = some (.cells cur 4 (0, 0)) ∧ cur.toList.take l.length = l.map Value.bool ∧ l.length ≤ cap ∧ cap ≤ maxLen ∧ cur.size = cap

theorem RowT.lt {w : World} {g cap : Nat} {l : List Bool} (h : RowT w g cap l) : g < w.heap.size := by
  obtain ⟨cur, hg, _⟩ := h
  exact (Array.getElem?_eq_some_iff.1 hg).1

theorem RowT.below {w w' : World} {g cap : Nat} {l : List Bool} (h : RowT w g cap l) (hb : Below w.heap.size w w') : RowT w' g cap l := by
  have hl := h.lt
  obtain ⟨cur, hg, hr⟩ := h
  exact ⟨cur, by rw [hb.block g hl]; exact hg, hr⟩

theorem RowT.cell {w : World} {g cap : Nat} {l : List Bool} (h : RowT w g cap l) {j : Nat} {x : Bool} (hx : l[j]? = some x) : w.cell? ⟨g, j, none⟩ = some (.bool x) ∧ w.frozen? ⟨g, j, none⟩ = false := by
  obtain ⟨cur, hg, ht, hl, _, hs⟩ := h
  have hj := (List.getElem?_eq_some_iff.1 hx).1
  have hc : cur[j]? = some (.bool x) := by
    rw [← Array.getElem?_toList]
    have : (cur.toList.take l.length)[j]? = some (.bool x) := by rw [ht, List.getElem?_map, hx]; rfl
    rwa [List.getElem?_take_of_lt hj] at this
  exact ⟨by rw [Joins.cell_of_block hg]; exact hc, Joins.unfrozen_of_block hg j⟩

theorem RowT.set {w : World} {g cap : Nat} {l : List Bool} (h : RowT w g cap l) (j : Nat) (x : Bool) : RowT (w.setCell ⟨g, j, none⟩ (.bool x)) g cap (l.set j x) := by
  obtain ⟨cur, hg, ht, hl, hm, hs⟩ := h
  refine ⟨_, Joins.block_setCell hg _, ?_, by rw [List.length_set]; exact hl, hm, by rw [Array.size_setIfInBounds]; exact hs⟩
  rw [List.length_set, Array.toList_setIfInBounds, List.take_set, ht, List.map_set]

theorem RowT.isB {w : World} {g cap : Nat} {l : List Bool} (h : RowT w g cap l) : IsB w (some ⟨g, 0, none⟩) cap l := by
  have hl := h.lt
  have hc := h
  obtain ⟨cur, hg, ht, h1, h2, hs⟩ := h
  exact ⟨h1, h2, fun j x hx => ⟨g, 0, rfl, hl, by rw [Nat.zero_add]; exact (hc.cell hx).1⟩⟩

theorem RowT.new (W : World) (n : Nat) {Z : Array Value} (hZ : Z = (List.replicate n (Value.bool false)).toArray) {g : Nat} (hg : g = W.heap.size) (hn : n ≤ maxLen) : RowT (W.alloc (.cells Z 4)) g n (List.replicate n false) := by
  subst hg hZ
  refine ⟨_, heap_new W _, ?_, by simp, hn, by simp⟩
  simp

/-- A row that was made by appending. -/
theorem ownsRow_T {w : World} {base : Nat} {v : Value} {l : List Bool} (h : w.ownsRow base 4 1 v l.length (l.map Value.bool)) : (v = .slice none 0 0 ∧ l = []) ∨ ∃ g cap, v = .slice (some ⟨g, 0, none⟩) l.length cap ∧ base ≤ g ∧ RowT w g cap l := by
  rcases h.2 with ⟨h1, h2⟩ | ⟨g, cap, cur, rfl, hg, hcur, hnc, hcm, hsz, htk⟩
  · exact .inl ⟨h1, List.length_eq_zero_iff.1 h2⟩
  · exact .inr ⟨g, cap, rfl, hg, cur, hcur, by simpa using htk, by omega, hcm, by omega⟩

theorem ownsRow_at {w : World} {base g n cap : Nat} {l : List Bool} (hl : l.length = n) (h : w.ownsRow base 4 1 (.slice (some ⟨g, 0, none⟩) n cap) n (l.map Value.bool)) : RowT w g cap l := by
  subst hl
  rcases ownsRow_T h with ⟨h1, _⟩ | ⟨g1, c1, h1, _, h2⟩
  · cases h1
  · simp at h1
    obtain ⟨rfl, rfl⟩ := h1
    exact h2

/-! What a world has kept of another one but for one block -/

def Kept (g : Nat) (W wr : World) : Prop := W.heap.size ≤ wr.heap.size ∧ ∀ k, k < W.heap.size → k ≠ g → wr.heap[k]? = W.heap[k]?

theorem Kept.refl (g : Nat) (W : World) : Kept g W W := ⟨Nat.le_refl _, fun _ _ _ => rfl⟩

theorem Kept.below {g : Nat} {W wr w' : World} (h : Kept g W wr) (hb : Below wr.heap.size wr w') : Kept g W w' :=
  ⟨Nat.le_trans h.1 hb.size, fun k hk hn => by rw [hb.block k (Nat.lt_of_lt_of_le hk h.1)]; exact h.2 k hk hn⟩

theorem Kept.set {g : Nat} {W wr : World} (h : Kept g W wr) (j : Nat) (v : Value) : Kept g W (wr.setCell ⟨g, j, none⟩ v) :=
  ⟨by simpa using h.1, fun k hk hn => by rw [Below.heap_setCell _ _ _ _ hn]; exact h.2 k hk hn⟩

theorem Kept.cell {g : Nat} {W wr : World} (h : Kept g W wr) {p : Addr} {v : Value} (hn : p.block ≠ g) (hc : W.cell? p = some v) : wr.cell? p = some v := by
  rw [World.cell?_of_block (w := W) (h.2 p.block (cell_lt hc) hn)]; exact hc

/-! Rows of rows -/

/-- A slice of bools (where it lies, its capacity, what it holds) as a value. -/
def valS (d : (Option Addr × Nat × List Bool)) : Value := .slice d.1 d.2.2.length d.2.1
def rowsOf (ds : List (Option Addr × Nat × List Bool)) : List (List Bool) := ds.map (·.2.2)

theorem rowsOf_length (ds : List (Option Addr × Nat × List Bool)) : (rowsOf ds).length = ds.length := by simp [rowsOf]
theorem rowsOf_get {ds : List (Option Addr × Nat × List Bool)} {j : Nat} {d : (Option Addr × Nat × List Bool)} (h : ds[j]? = some d) : (rowsOf ds)[j]? = some d.2.2 := by unfold rowsOf; rw [List.getElem?_map, h]; rfl

def IsL (w : World) (a : Option Addr) (c : Nat) (ds : List (Option Addr × Nat × List Bool)) : Prop :=
  ds.length ≤ c ∧ c ≤ maxLen ∧ ∀ j d, ds[j]? = some d → IsB w d.1 d.2.1 d.2.2 ∧ ∃ b o, a = some ⟨b, o, none⟩ ∧ b < w.heap.size ∧ w.cell? ⟨b, o + j, none⟩ = some (.slice d.1 d.2.2.length d.2.1)

theorem IsL.below {w w' : World} {a : Option Addr} {c : Nat} {ds : List (Option Addr × Nat × List Bool)} (h : IsL w a c ds) (hb : Below w.heap.size w w') : IsL w' a c ds := by
  refine ⟨h.1, h.2.1, fun j x hx => ?_⟩
  obtain ⟨hB, b, o, ha, hlt, hc⟩ := h.2.2 j x hx
  exact ⟨hB.below hb, b, o, ha, Nat.lt_of_lt_of_le hlt hb.size, by rw [hb.cell (p := ⟨b, o + j, none⟩) hlt]; exact hc⟩

theorem IsL.take {w : World} {a : Option Addr} {c : Nat} {ds : List (Option Addr × Nat × List Bool)} (h : IsL w a c ds) (n : Nat) : IsL w a c (ds.take n) := by
  refine ⟨by rw [List.length_take]; have := h.1; omega, h.2.1, fun j x hx => h.2.2 j x ?_⟩
  rw [List.getElem?_take] at hx
  split at hx
  · exact hx
  · cases hx

theorem IsL.some {w : World} {a : Option Addr} {c : Nat} {ds : List (Option Addr × Nat × List Bool)} (h : IsL w a c ds) (h0 : 0 < ds.length) : ∃ b o, a = .some ⟨b, o, none⟩ ∧ b < w.heap.size := by
  obtain ⟨_, b, o, ha, hl, _⟩ := h.2.2 0 ds[0] (List.getElem?_eq_getElem h0)
  exact ⟨b, o, ha, hl⟩

theorem IsL.rows_le {w : World} {a : Option Addr} {c : Nat} {ds : List (Option Addr × Nat × List Bool)} (h : IsL w a c ds) : ∀ l ∈ rowsOf ds, l.length ≤ maxLen := by
  intro l hl
  obtain ⟨d, hd, rfl⟩ := List.mem_map.1 hl
  obtain ⟨j, hj⟩ := List.getElem?_of_mem hd
  have := (h.2.2 j d hj).1
  exact Nat.le_trans this.1 this.2.1

theorem longest_bound {ls : List (List Bool)} {n : Nat} (h : ∀ l ∈ ls, l.length ≤ n) : longest ls ≤ n := by
  induction ls with
  | nil => exact Nat.zero_le _
  | cons x xs ih =>
    rw [longest]
    have := h x (by simp)
    have := ih fun l hl => h l (by simp [hl])
    omega

end Go.Proofs.Ytmjhapkhfelbpaa

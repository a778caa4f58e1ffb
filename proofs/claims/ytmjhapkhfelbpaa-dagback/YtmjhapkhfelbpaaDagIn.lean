/-
  A graph in the box of a statement, behind few; what is called of it.
-/
import Derived.Test.YtmjhapkhfelbpaaDagLaw
import Derived.Test.YtmjhapkhfelbpaaDagFew
import Derived.Test.YtmjhapkhfelbpaaDagRefRight
namespace Go.Proofs.Ytmjhapkhfelbpaa
open Go.RowKit Plain
set_option linter.unusedVariables false

theorem IsT.move {P : Nat → Prop} {w w' : World} {a : Option Addr} {c : Nat} {ts : List TaskV} (h : IsT w a c ts) (hN : NeedsIn w' ts) (t : Turns P w w') (hp : ∀ x, a = Option.some x → ¬ P x.block) : IsT w' a c ts := by
  refine ⟨h.1, h.2.1, hN, fun j u hu => ?_⟩
  obtain ⟨b, o, ha, hl, c0, c1, c2, c3⟩ := h.2.2.2 j u hu
  have hb := hp _ ha
  exact ⟨b, o, ha, Nat.lt_of_lt_of_le hl t.size, t.cell (p := ⟨b, o + j * 4, none⟩) hb c0, t.cell (p := ⟨b, o + j * 4 + 1, none⟩) hb c1, t.cell (p := ⟨b, o + j * 4 + 2, none⟩) hb c2, t.cell (p := ⟨b, o + j * 4 + 3, none⟩) hb c3⟩

/-- The graph as it stands in a statement's box. -/
structure DagIn (w V : World) (s : ByteArray) (a : Option Addr) (c n : Nat) (ts : List TaskV) : Prop where
  q0 : V.cell? ⟨w.heap.size, 0, none⟩ = some (.string s)
  q1 : V.cell? ⟨w.heap.size, 1, none⟩ = some (.slice a n c)
  hn : n = ts.length
  hT : IsT V a c ts
  hB : Below w.heap.size w V

theorem DagIn.below {w V V' : World} {s : ByteArray} {a : Option Addr} {c n : Nat} {ts : List TaskV} (d : DagIn w V s a c n ts) (hb : Below V.heap.size V V') : DagIn w V' s a c n ts :=
  ⟨cell_below hb d.q0, cell_below hb d.q1, d.hn, d.hT.below hb, Below.tr d.hB hb⟩

theorem DagIn.cells {w V : World} {s : ByteArray} {a : Option Addr} {c n : Nat} {ts : List TaskV} (d : DagIn w V s a c n ts) : V.cell? ⟨w.heap.size, 0, none⟩ = some (.string s) ∧ V.cell? ⟨w.heap.size, 1, none⟩ = some (.slice a n c) := ⟨d.q0, d.q1⟩

/-- What few makes of the graph that was handed in, stored. -/
def FewStored (w : World) (s : ByteArray) (ts : List TaskV) (e : Ending) (w1 : World) : Prop :=
  ∃ a c n a0 c0 n0, e = .returned (.agg #[.string s, .slice a n c]) ∧ w1.cell? ⟨w.heap.size, 0, none⟩ = some (.string s) ∧ w1.cell? ⟨w.heap.size, 1, none⟩ = some (.slice a0 n0 c0) ∧ w1.frozen? ⟨w.heap.size, 0, none⟩ = false ∧ w1.frozen? ⟨w.heap.size, 1, none⟩ = false ∧
    DagIn w ((w1.setCell ⟨w.heap.size, 0, none⟩ (.string s)).setCell ⟨w.heap.size, 1, none⟩ (.slice a n c)) s a c n (fewT ts) ∧ n ≤ 20

theorem fewStored_any (s : ByteArray) (a : Option Addr) (c n : Nat) (ts : List TaskV) (w : World) (hn : n = ts.length) (hT : IsT w a c ts) :
    Calls Try.prog 8 #[.agg #[.string s, .slice a n c]] (w.alloc (.cells #[.string s, .slice a n c] 24)) fun e w1 => FewStored w s ts e w1 := by
  obtain ⟨W, hW⟩ : ∃ W, W = w.alloc (.cells #[.string s, .slice a n c] 24) := ⟨_, rfl⟩
  have hB0 : Below w.heap.size w W := by rw [hW]; exact (Below.refl _ _).alloc (Nat.le_refl _) _
  have bX : BoxL W w.heap.size [.string s, .slice a n c] := by rw [hW]; exact boxL_new _ _ _ rfl
  have zW : W.heap.size = w.heap.size + 1 := by rw [hW]; simp
  rw [← hW]
  refine (few16_any s a c n ts W hn (hT.below hB0)).mono ?_
  rintro e w1 ⟨a1, c1, n1, hn1, rfl, hT1, hF1, hb⟩
  have b1 := bX.below hb
  have hB1 := Below.tr hB0 hb
  have hbx : BoxL ((w1.setCell ⟨w.heap.size, 0, none⟩ (.string s)).setCell ⟨w.heap.size, 1, none⟩ (.slice a1 n1 c1)) w.heap.size [.string s, .slice a1 n1 c1] := (b1.set 0 _).set 1 _
  have hB2 : Below w.heap.size w ((w1.setCell ⟨w.heap.size, 0, none⟩ (.string s)).setCell ⟨w.heap.size, 1, none⟩ (.slice a1 n1 c1)) := (hB1.setCell (p := ⟨w.heap.size, 0, none⟩) (Nat.le_refl _) _).setCell (p := ⟨w.heap.size, 1, none⟩) (Nat.le_refl _) _
  have hNd : NeedsIn w (fewT ts) := by
    intro t ht
    obtain ⟨u, hu, rfl⟩ := List.mem_map.1 ht
    exact (hT.2.2.1 u (List.mem_of_mem_take hu)).take 20
  have tt : Turns (fun k => k = w.heap.size) w1 ((w1.setCell ⟨w.heap.size, 0, none⟩ (.string s)).setCell ⟨w.heap.size, 1, none⟩ (.slice a1 n1 c1)) := ((Turns.refl (fun k => k = w.heap.size) w1).setCell (p := ⟨w.heap.size, 0, none⟩) rfl _).setCell (p := ⟨w.heap.size, 1, none⟩) rfl _
  refine ⟨a1, c1, n1, a, c, n, rfl, b1.1 0 _ rfl, b1.1 1 _ rfl, b1.2 0 (by simp), b1.2 1 (by simp), ⟨hbx.1 0 _ rfl, hbx.1 1 _ rfl, hn1, hT1.move (hNd.below hB2) tt (fun x hx e => by have := hF1 x hx; omega), hB2⟩, ?_⟩
  rw [hn1]
  exact fewT_length ts

section
variable {w V : World} {s : ByteArray} {a : Option Addr} {c n : Nat} {ts : List TaskV}

theorem DagIn.refRight (d : DagIn w V s a c n ts) (hs : s.size ≤ maxLen) : Calls Try.prog 9 #[.agg #[.string s, .slice a n c]] V fun e w' => e = .returned (.int .i64 (rightG s (plainT ts))) ∧ Below V.heap.size V w' := refRight16_any s a c n ts V hs d.hn d.hT
theorem DagIn.right (d : DagIn w V s a c n ts) : Calls Try.prog 12 #[.agg #[.string s, .slice a n c]] V fun e w' => e = .returned (.int .i64 (rightG s (plainT ts))) ∧ Below V.heap.size V w' := right16_any s a c n ts V d.hn d.hT
theorem DagIn.order (d : DagIn w V s a c n ts) : Calls Try.prog 10 #[.agg #[.string s, .slice a n c]] V fun e w' => Order2 V s ts e w' := order16_any s a c n ts V d.hn d.hT
theorem DagIn.free (d : DagIn w V s a c n ts) {ad : Option Addr} {cd m : Nat} {done : List Bool} (hm : m = done.length) (hD : IsB V ad cd done) : Calls Try.prog 11 #[.agg #[.string s, .slice a n c], .slice ad m cd] V fun e w' => Free2 V s ts done e w' := free16_any s a c n ts ad cd m done V d.hn d.hT hm hD
end

theorem rightG_in {s : ByteArray} {ts : List TaskV} {n : Nat} (hn : n = ts.length) (h : rightG s (plainT ts) = 0) : n ≤ 10 ∧ Inside (plainT ts) := by
  have := rightG_ok h
  have h1 := this.1
  rw [plainT_length] at h1
  exact ⟨by omega, this.2.2.2.2.2.2⟩

end Go.Proofs.Ytmjhapkhfelbpaa

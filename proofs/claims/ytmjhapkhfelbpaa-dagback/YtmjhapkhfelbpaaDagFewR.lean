/-
  few, where its call and the store of what it answers stand in a drawn line: d, s = few(d), s[:min(len(s), 2000)].
-/
import Derived.Test.YtmjhapkhfelbpaaDagIn
import Derived.Test.YtmjhapkhfelbpaaDagRefPut
import Derived.Test.YtmjhapkhfelbpaaDagRefGet
import Derived.Test.YtmjhapkhfelbpaaAnyact
namespace Go.Proofs.Ytmjhapkhfelbpaa
open Go.RowKit Plain Anylast
set_option linter.unusedVariables false

theorem op_skipD {P : Program} {ops : Array Oper} {Q : Exit → Act → World → Prop} {i : Nat} {o : Oper} {a : Act} {w w' : World} {V : Nat → Value → World → Prop} {S : World → Prop} {R : World → World → Prop} (hi : ops[i]? = some o) (hw : Region.wanted o (yielded ops a.tmps) = true) (hd : o.dst = none)
    (hr : (execOp a.eval o).run P w = .ok .skip w') (hV : V i undef w') (hS : S w') (hR : R w w') :
    wpOp P ops Q i (fun a' w' => ∃ v, a' = a.put o.dst v ∧ V i v w' ∧ S w' ∧ R w w') a w := by
  unfold wpOp
  simp only [hi, hw, if_true]
  refine .inl ?_
  unfold Oper.wp
  rw [hr]
  refine ⟨undef, ?_, hV, hS, hR⟩
  rw [hd]

/-- What few answers, whatever has been done since with the box. -/
def FewV (w : World) (s : ByteArray) (fs : List TaskV) (v : Value) (X : World) : Prop :=
  ∃ a1 c1 n1 w1, v = .agg #[.string s, .slice a1 n1 c1] ∧ n1 = fs.length ∧ IsT w1 a1 c1 fs ∧ From (w.heap.size + 1) a1 ∧ Below w.heap.size w w1 ∧ Turns (fun k => k = w.heap.size) w1 X

def fwV (w : World) (s : ByteArray) (a : Option Addr) (n c : Nat) (t t' : ByteArray) (q : Int) (fs : List TaskV) (i : Nat) (v : Value) (X : World) : Prop :=
  match i with
  | 0 => v = .agg #[.string s, .slice a n c]
  | 1 => FewV w s fs v X
  | 2 | 3 => v = .string t
  | 4 => v = .int .i64 t.size
  | 5 => v = .int .i64 q
  | 6 | 8 => v = .string t'
  | _ => True

def fwS (w V0 : World) (s : ByteArray) (a : Option Addr) (n c : Nat) (fs : List TaskV) (q : Nat) (X : World) : Prop :=
  (q = 0 → X = V0) ∧ (q = 1 → BoxL X w.heap.size [.string s, .slice a n c]) ∧ (q = 2 → ∃ a1 c1 n1, DagIn w X s a1 c1 n1 fs)

theorem fwV_mono {w : World} {s : ByteArray} {a : Option Addr} {n c : Nat} {t t' : ByteArray} {q : Int} {fs : List TaskV} (i : Nat) (v : Value) (X Y : World) (tt : Turns (fun k => k = w.heap.size) X Y) (hv : fwV w s a n c t t' q fs i v X) : fwV w s a n c t t' q fs i v Y := by
  unfold fwV at hv ⊢
  split at hv
  all_goals first
    | exact hv
    | (obtain ⟨a1, c1, n1, w1, e, h1, h2, h3, h4, h5⟩ := hv; exact ⟨a1, c1, n1, w1, e, h1, h2, h3, h4, h5.trans tt⟩)

theorem few_needs {w : World} {a : Option Addr} {c : Nat} {ts : List TaskV} (hT : IsT w a c ts) : NeedsIn w (fewT ts) := by
  intro t ht
  obtain ⟨u, hu, rfl⟩ := List.mem_map.1 ht
  exact (hT.2.2.1 u (List.mem_of_mem_take hu)).take 20

theorem few_end {w X : World} {s : ByteArray} {fs : List TaskV} {a a1 : Option Addr} {n c n1 c1 : Nat} {w1 : World} (hN : NeedsIn w fs) (bX : BoxL X w.heap.size [.string s, .slice a n c]) (h1 : n1 = fs.length) (h2 : IsT w1 a1 c1 fs) (h3 : From (w.heap.size + 1) a1) (h4 : Below w.heap.size w w1) (h5 : Turns (fun k => k = w.heap.size) w1 X) :
    DagIn w ((X.setCell ⟨w.heap.size, 0, none⟩ (.string s)).setCell ⟨w.heap.size, 1, none⟩ (.slice a1 n1 c1)) s a1 c1 n1 fs ∧ Turns (fun k => k = w.heap.size) X ((X.setCell ⟨w.heap.size, 0, none⟩ (.string s)).setCell ⟨w.heap.size, 1, none⟩ (.slice a1 n1 c1)) := by
  have b := (bX.set 0 (.string s)).set 1 (.slice a1 n1 c1)
  have tt : Turns (fun k => k = w.heap.size) X ((X.setCell ⟨w.heap.size, 0, none⟩ (.string s)).setCell ⟨w.heap.size, 1, none⟩ (.slice a1 n1 c1)) := ((Turns.refl (fun k => k = w.heap.size) X).setCell (p := ⟨w.heap.size, 0, none⟩) rfl _).setCell (p := ⟨w.heap.size, 1, none⟩) rfl _
  have hB := Below.turns h4 (h5.trans tt) (by omega)
  exact ⟨⟨b.1 0 _ rfl, b.1 1 _ rfl, h1, h2.move (hN.below hB) (h5.trans tt) (fun x hx e => by have := h3 x hx; omega), hB⟩, tt⟩

/-- few in a world that has drawn. -/
theorem few_call (s : ByteArray) (a : Option Addr) (c n : Nat) (ts : List TaskV) (w V0 : World) (hn : n = ts.length) (hT : IsT w a c ts) (hV : V0 = (w.alloc (.cells #[.string s, .slice a n c] 24)).drew) :
    BoxL V0 w.heap.size [.string s, .slice a n c] ∧ Below w.heap.size w V0 ∧ Calls Try.prog 8 #[.agg #[.string s, .slice a n c]] V0 fun e w1 => ∃ v, e = .returned v ∧ FewV w s (fewT ts) v w1 ∧ BoxL w1 w.heap.size [.string s, .slice a n c] ∧ Below V0.heap.size V0 w1 := by
  have hB0 : Below w.heap.size w V0 := by rw [hV]; exact ((Below.refl _ _).alloc (Nat.le_refl _) _).drew
  have bX : BoxL V0 w.heap.size [.string s, .slice a n c] := by
    rw [hV]
    exact (boxL_new w [.string s, .slice a n c] 24 rfl).below (Below.refl _ _).drew
  have zW : V0.heap.size = w.heap.size + 1 := by rw [hV]; show (w.alloc _).heap.size = _; simp
  refine ⟨bX, hB0, (few16_any s a c n ts V0 hn (hT.below hB0)).mono ?_⟩
  rintro e w1 ⟨a1, c1, n1, hn1, rfl, hT1, hF1, hb⟩
  exact ⟨_, rfl, ⟨a1, c1, n1, w1, rfl, hn1, hT1, fun x hx => by have := hF1 x hx; omega, Below.tr hB0 hb, Turns.refl _ _⟩, bX.below hb, hb⟩

end Go.Proofs.Ytmjhapkhfelbpaa

/-
  Texts laid together: GrowOpen GrowAllWalk GrowTreeD GrowWholeWalk.
-/
import Derived.Test.YtaecfbfcjaailaaGreatBkA
import Derived.Lib.SmallJoins
import Derived.Deep.SlicePairs
import Derived.Test.YtaecfbfcjaailaaGreatBkF
namespace Go.Proofs.YtaecfbfcjaailaaGreat
open Go.RowKit Plain Go.ChangeShapes Go.WideShapes
set_option linter.unusedVariables false
set_option maxRecDepth 20000 in
theorem open_pairs {H : Type} {enc : TypeId × Value → H} {w : World} {r : Reach} {b0 : Nat} {v : Value} {d : DataW H} {p : List MemPlace}
  (hv : Value.okWide Tryz.prog w r b0 37 v) (h : DataW.Trod enc Tryz.prog w 0 (fun _ => true) true 37 v d p) :
  ∃ a c xs, v = .slice a xs.length c ∧ IsQ w a c xs := by
 obtain ⟨a, len, cap, rfl⟩ := okWide_slice Tryz.underlying37 hv
 obtain ⟨fuel, hf⟩ := h
 have hf' : DataW.trod enc Tryz.prog w 0 (fun _ => true) true fuel 37 [.slice a len cap] = some (d, p) := by simpa [Value.cells] using hf
 rcases Deep.open_slice_pairs Tryz.underlying37 Tryz.underlying50 (by kernel_rfl) rfl rfl (by kernel_rfl) (by kernel_rfl) hf' with ⟨hcs, _⟩ | ⟨a, l, c, m, n, V0, V1, D0, D1, P0, P1, hcs, _, hl, hm, hmm, _, hcell⟩
 ·
  simp at hcs
  obtain ⟨rfl, rfl, rfl⟩ := hcs
  exact ⟨none, 0, [], rfl, isQ_nil _⟩
 ·
  simp at hcs
  obtain ⟨rfl, rfl, rfl⟩ := hcs
  simp at hmm
  have each : ∀ i, i < m → ∃ p : ByteArray × ByteArray, w.cell? (a.add (i * 2)) = some (.string p.1) ∧ w.cell? (a.add (i * 2 + 1)) = some (.string p.2) ∧ p.1.size ≤ maxLen ∧ p.2.size ≤ maxLen := by
   intro i hi
   obtain ⟨h0, h1, g0, g1⟩ := hcell i hi
   obtain ⟨k, hk, _, hkw⟩ := DataW.trod_string Tryz.underlying9 g0
   obtain ⟨s, hs, _, hss⟩ := DataW.trod_string Tryz.underlying9 g1
   simp at hk hs
   rw [hk] at h0
   rw [hs] at h1
   exact ⟨(k, s), h0, h1, hkw, hss⟩
  obtain ⟨q, hq⟩ := Deep.choose_lt each
  refine ⟨some a, cap, (List.range len).map q, by simp, by simpa using hl, hm, fun j p hp => ?_⟩
  have hj : j < len := by simpa using (List.getElem?_eq_some_iff.1 hp).1
  rw [List.getElem?_map, List.getElem?_range hj] at hp
  obtain rfl : q j = p := Option.some.inj hp
  obtain ⟨h0, h1, h2⟩ := hq j (by omega)
  obtain ⟨b, o, rfl, hb⟩ := spot_none (hq 0 (by omega)).1
  rw [at_add] at h0 h1
  exact ⟨b, o, rfl, hb, h0, by rw [Nat.add_assoc]; exact h1, h2⟩
end Go.Proofs.YtaecfbfcjaailaaGreat
namespace Go.Proofs.YtaecfbfcjaailaaGreat
open Go.RowKit Plain
set_option linter.unusedVariables false
def PutF (w : World) (e : Ending) (w' : World) (R : Int × WoodS) : Prop :=
 ∃ b1 m1 c1 b2 m2 c2 b3 m3 c3, e = .returned (.tuple #[.agg #[.slice b1 m1 c1, .slice b2 m2 c2, .slice b3 m3 c3, .int .i64 R.2.root, .int .i64 R.2.gen], .int .i64 R.1]) ∧ WoodL w' b1 m1 c1 b2 m2 c2 b3 m3 c3 R.2 ∧ (From w.heap.size b1 ∧ From w.heap.size b2 ∧ From w.heap.size b3) ∧ Below w.heap.size w w'
theorem WoodL.putF {V : World} {a : Option Addr} {n c : Nat} {a' : Option Addr} {n' c' : Nat} {b : Option Addr} {p f : Nat} {G : WoodS} (x : WoodL V a n c a' n' c' b p f G) (key val : ByteArray) (mk : key.size ≤ maxLen) (mv : val.size ≤ maxLen) : Calls Tryz.prog 11 #[.agg #[.slice a n c, .slice a' n' c', .slice b p f, .int .i64 G.root, .int .i64 G.gen], .string key, .string val] V fun e w' => PutF V e w' (allR G [(key, val)]) := by
 obtain ⟨rfl, rfl, rfl, hB, hB', hP⟩ := x
 refine (growPut1_any a a' b c c' f G key val V hB hB' hP mk mv).mono ?_
 rintro e w' ⟨a1, c1, a2, c2, b3, c3, rfl, ⟨i1, i2, i3⟩, hf, hb⟩
 exact ⟨a1, _, c1, a2, _, c2, b3, _, c3, rfl, ⟨rfl, rfl, rfl, i1, i2, i3⟩, hf, hb⟩
def Off3 (h : Nat) (a b c : Option Addr) : Prop := (∀ x, a = some x → x.block ≠ h) ∧ (∀ x, b = some x → x.block ≠ h) ∧ (∀ x, c = some x → x.block ≠ h)
theorem WoodL.turns1 {V V' : World} {a : Option Addr} {n c : Nat} {a' : Option Addr} {n' c' : Nat} {b : Option Addr} {p f h : Nat} {G : WoodS} (x : WoodL V a n c a' n' c' b p f G) (t : Turns (fun k => k = h) V V') (o : Off3 h a a' b) : WoodL V' a n c a' n' c' b p f G :=
 ⟨x.1, x.2.1, x.2.2.1, x.2.2.2.1.turns t o.1, x.2.2.2.2.1.turns t o.2.1, x.2.2.2.2.2.turns t o.2.2⟩
theorem WoodL.off {V : World} {a : Option Addr} {n c : Nat} {a' : Option Addr} {n' c' : Nat} {b : Option Addr} {p f h : Nat} {G : WoodS} (x : WoodL V a n c a' n' c' b p f G) (hr : G.right = true) (hh : V.heap.size ≤ h) : Off3 h a a' b := by
 obtain ⟨hok, -⟩ := right_ok.1 hr
 obtain ⟨hl, h24, h4k, -⟩ := (rightA_iff _ _).1 hok.alloc
 have hpl := hok.len
 obtain ⟨_, _, _, i1, i2, i3⟩ := x
 refine ⟨fun y hy => ?_, fun y hy => ?_, fun y hy => ?_⟩
 ·
  obtain ⟨g, o, e, hlt, _⟩ := i1.2.2 0 _ (List.getElem?_eq_getElem (by omega))
  rw [e] at hy; cases hy; simp only; omega
 ·
  obtain ⟨g, o, e, hlt, _⟩ := i2.2.2 0 _ (List.getElem?_eq_getElem (by omega))
  rw [e] at hy; cases hy; simp only; omega
 ·
  obtain ⟨g, o, e, hlt, _⟩ := i3.2.2 0 _ (List.getElem?_eq_getElem (by omega))
  rw [e] at hy; cases hy; simp only; omega
def TreeD (V : World) (y : Ending) (w' : World) (t : TreeS) : Prop :=
 ∃ z q d r k, y = .returned (.pointer (some ⟨z, 0, none⟩)) ∧ Box4 w' z (.slice q t.pairs.length d) (.slice r t.blocks.length k) (.int .i64 t.height) (.bool t.bad) ∧ V.heap.size ≤ z ∧ (IsQ w' q d t.pairs ∧ IsI w' r k t.blocks) ∧ Below V.heap.size V w'
theorem TreeC.wide {V : World} {y : Ending} {w' : World} {t : TreeS} (h : TreeC V y w' t) : TreeD V y w' t := by
 obtain ⟨q, d, r, k, h1, h2, h3, h4⟩ := h
 exact ⟨_, q, d, r, k, h1, h2, by omega, h3, h4⟩
theorem WoodL.treeD {V : World} {a : Option Addr} {n c : Nat} {a' : Option Addr} {n' c' : Nat} {b : Option Addr} {p f : Nat} {G : WoodS} (x : WoodL V a n c a' n' c' b p f G) : Calls Tryz.prog 15 #[.agg #[.slice a n c, .slice a' n' c', .slice b p f, .int .i64 G.root, .int .i64 G.gen]] V fun y w' => TreeD V y w' G.tree :=
 x.tree.mono fun y w' h => h.wide
theorem box2_turns {P : Nat → Prop} {w w' : World} {h : Nat} {v0 v1 : Value} (b : Box2 w h v0 v1) (t : Turns P w w') (hp : ¬ P h) : Box2 w' h v0 v1 := by
 obtain ⟨⟨c0, c1⟩, f0, f1⟩ := b
 have hl := cell_lt c0
 exact ⟨⟨t.cell (p := ⟨h, 0, none⟩) hp c0, t.cell (p := ⟨h, 1, none⟩) hp c1⟩, t.frozen (p := ⟨h, 0, none⟩) hl hp f0, t.frozen (p := ⟨h, 1, none⟩) hl hp f1⟩
theorem store_set {w2 V U : World} {h7 : Nat} {u0 u1 u2 u3 u4 : Value} {p1 : Option Addr} {i1 j1 : Nat} {p2 : Option Addr} {i2 j2 : Nat} {p3 : Option Addr} {i3 j3 : Nat} {Z : WoodS} {g : Option Addr} {cap : Nat} {P : List (ByteArray × ByteArray)} (hU : U = set5 V h7 (.slice p1 i1 j1) (.slice p2 i2 j2) (.slice p3 i3 j3) (.int .i64 Z.root) (.int .i64 Z.gen)) (YB : Box5 V h7 u0 u1 u2 u3 u4) (WZ : WoodL V p1 i1 j1 p2 i2 j2 p3 i3 j3 Z) (FZ : From (h7 + 1) p1 ∧ From (h7 + 1) p2 ∧ From (h7 + 1) p3) (QI : IsQ V g cap P) (OQ : ∀ x, g = some x → x.block ≠ h7) (HL : Below w2.heap.size w2 V) (hh7 : w2.heap.size = h7) :
  Hid (Box5 U h7 (.slice p1 i1 j1) (.slice p2 i2 j2) (.slice p3 i3 j3) (.int .i64 Z.root) (.int .i64 Z.gen) ∧ WoodL U p1 i1 j1 p2 i2 j2 p3 i3 j3 Z ∧ Off3 h7 p1 p2 p3 ∧ Below h7 w2 U ∧ IsQ U g cap P ∧ Turns (fun k => k = h7) V U ∧ ∀ {h : Nat} {v0 v1 : Value}, Box2 V h v0 v1 → h ≠ h7 → Box2 U h v0 v1) := by
 subst hU
 have t : Turns (fun k => k = h7) V (set5 V h7 (.slice p1 i1 j1) (.slice p2 i2 j2) (.slice p3 i3 j3) (.int .i64 Z.root) (.int .i64 Z.gen)) := set5_turns (P := fun k => k = h7) (Turns.refl _ _) rfl _ _ _ _ _
 have o : Off3 h7 p1 p2 p3 := ⟨fun x hx => by have := FZ.1 x hx; omega, fun x hx => by have := FZ.2.1 x hx; omega, fun x hx => by have := FZ.2.2 x hx; omega⟩
 obtain ⟨bx, f0, f1, f2, f3, f4⟩ := YB
 refine ⟨⟨set5_box bx _ _ _ _ _, ?_, ?_, ?_, ?_, ?_⟩, WZ.turns1 t o, o, ?_, QI.turns t OQ, t, fun {h v0 v1} b hne => box2_turns b t hne⟩
 ·
  unfold set5; simpa using f0
 ·
  unfold set5; simpa using f1
 ·
  unfold set5; simpa using f2
 ·
  unfold set5; simpa using f3
 ·
  unfold set5; simpa using f4
 ·
  subst hh7
  exact Below.turns HL t fun i e => by omega
end Go.Proofs.YtaecfbfcjaailaaGreat

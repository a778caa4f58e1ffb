/-
  The walk through the statement GrowAll.
-/
import Derived.Test.YtaecfbfcjaailaaGreatBlF
namespace Go.Proofs.YtaecfbfcjaailaaGreat
open Go.RowKit Plain
set_option linter.unusedVariables false

theorem isQ_take {w : World} {d : Option Addr} {dc : Nat} {qs : List (ByteArray × ByteArray)} (h : IsQ w d dc qs) (m : Nat) : IsQ w d dc (qs.take m) :=
  ⟨Nat.le_trans (by rw [List.length_take]; omega) h.1, h.2.1, fun j p hp => h.2.2 j p (by
    have hl := (List.getElem?_eq_some_iff.1 hp).1
    rw [List.length_take] at hl
    rw [List.getElem?_take_of_lt (by omega)] at hp
    exact hp)⟩

theorem put_step {Y : WoodS} {R : Int × WoodS} {ps : List (ByteArray × ByteArray)} {p : ByteArray × ByteArray} {j : Nat} (hp : ps[j]? = some p) (hr : Y.right = true) (h : R = allG Y (ps.drop j)) :
    ((allR Y [p]).1 = 0 ∧ (allR Y [p]).2.right = true ∧ R = allG (allR Y [p]).2 (ps.drop (j + 1))) ∨ ((allR Y [p]).1 ≠ 0 ∧ R = ((allR Y [p]).1, WoodS.none)) := by
  obtain ⟨key, val⟩ := p
  rw [allR_one, if_pos hr]
  by_cases h0 : (putG Y key val).1 = 0
  · left
    rw [if_pos h0]
    refine ⟨rfl, ?_, ?_⟩
    · rcases put_loose hr key val with ⟨h1, _⟩ | ⟨_, (h1 | h1) | h1⟩
      · rw [h0] at h1; cases h1
      · rw [h0] at h1; cases h1
      · rw [h0] at h1; cases h1
      · exact h1.2.1
    · rw [h]
      exact allG_step hp (by rw [← h0])
  · right
    rw [if_neg h0]
    exact ⟨h0, by rw [h, allG_stop hp h0]⟩

/-- How Put answers, its rows laid anew. -/
def PutF (w : World) (e : Ending) (w' : World) (R : Int × WoodS) : Prop :=
  ∃ b1 m1 c1 b2 m2 c2 b3 m3 c3, e = .returned (.tuple #[.agg #[.slice b1 m1 c1, .slice b2 m2 c2, .slice b3 m3 c3, .int .i64 R.2.root, .int .i64 R.2.gen], .int .i64 R.1]) ∧ WoodL w' b1 m1 c1 b2 m2 c2 b3 m3 c3 R.2 ∧ (From w.heap.size b1 ∧ From w.heap.size b2 ∧ From w.heap.size b3) ∧ Below w.heap.size w w'

theorem WoodL.putF {V : World} {a : Option Addr} {n c : Nat} {a' : Option Addr} {n' c' : Nat} {b : Option Addr} {p f : Nat} {G : WoodS} (x : WoodL V a n c a' n' c' b p f G) (key val : ByteArray) (mk : key.size ≤ maxLen) (mv : val.size ≤ maxLen) : Calls Tryz.prog 11 #[.agg #[.slice a n c, .slice a' n' c', .slice b p f, .int .i64 G.root, .int .i64 G.gen], .string key, .string val] V fun e w' => PutF V e w' (allR G [(key, val)]) := by
  obtain ⟨rfl, rfl, rfl, hB, hB', hP⟩ := x
  refine (growPut1_any a a' b c c' f G key val V hB hB' hP mk mv).mono ?_
  rintro e w' ⟨a1, c1, a2, c2, b3, c3, rfl, ⟨i1, i2, i3⟩, hf, hb⟩
  exact ⟨a1, _, c1, a2, _, c2, b3, _, c3, rfl, ⟨rfl, rfl, rfl, i1, i2, i3⟩, hf, hb⟩

/-- Rows that lie off a block. -/
def Off3 (h : Nat) (a b c : Option Addr) : Prop := (∀ x, a = some x → x.block ≠ h) ∧ (∀ x, b = some x → x.block ≠ h) ∧ (∀ x, c = some x → x.block ≠ h)

theorem WoodL.turns1 {V V' : World} {a : Option Addr} {n c : Nat} {a' : Option Addr} {n' c' : Nat} {b : Option Addr} {p f h : Nat} {G : WoodS} (x : WoodL V a n c a' n' c' b p f G) (t : Turns (fun k => k = h) V V') (o : Off3 h a a' b) : WoodL V' a n c a' n' c' b p f G :=
  ⟨x.1, x.2.1, x.2.2.1, x.2.2.2.1.turns t o.1, x.2.2.2.2.1.turns t o.2.1, x.2.2.2.2.2.turns t o.2.2⟩

theorem WoodL.off {V : World} {a : Option Addr} {n c : Nat} {a' : Option Addr} {n' c' : Nat} {b : Option Addr} {p f h : Nat} {G : WoodS} (x : WoodL V a n c a' n' c' b p f G) (hr : G.right = true) (hh : V.heap.size ≤ h) : Off3 h a a' b := by
  obtain ⟨hok, -⟩ := right_ok.1 hr
  obtain ⟨hl, h24, h4k, -⟩ := (rightA_iff _ _).1 hok.alloc
  have hpl := hok.len
  obtain ⟨_, _, _, i1, i2, i3⟩ := x
  refine ⟨fun y hy => ?_, fun y hy => ?_, fun y hy => ?_⟩
  · obtain ⟨g, o, e, hlt, _⟩ := i1.2.2 0 _ (List.getElem?_eq_getElem (by omega))
    rw [e] at hy; cases hy; simp only; omega
  · obtain ⟨g, o, e, hlt, _⟩ := i2.2.2 0 _ (List.getElem?_eq_getElem (by omega))
    rw [e] at hy; cases hy; simp only; omega
  · obtain ⟨g, o, e, hlt, _⟩ := i3.2.2 0 _ (List.getElem?_eq_getElem (by omega))
    rw [e] at hy; cases hy; simp only; omega

/-- How far the statement's own loop is. -/
def StepF (R : Int × WoodS) (Q : List (ByteArray × ByteArray)) (j : Nat) (F : Int) (Y : WoodS) : Prop :=
  (F = 0 ∧ Y.right = true ∧ R = allG Y (Q.drop j)) ∨ (F ≠ 0 ∧ R = (F, WoodS.none))

theorem round_set {w2 V V0 : World} {h7 : Nat} {u0 u1 u2 u3 u4 : Value} {p1 : Option Addr} {i1 j1 : Nat} {p2 : Option Addr} {i2 j2 : Nat} {p3 : Option Addr} {i3 j3 : Nat} {Z : WoodS} (YB : Box5 V h7 u0 u1 u2 u3 u4) (WZ : WoodL V p1 i1 j1 p2 i2 j2 p3 i3 j3 Z) (FZ : From V0.heap.size p1 ∧ From V0.heap.size p2 ∧ From V0.heap.size p3) (hl : h7 < V0.heap.size) (HL : Below w2.heap.size w2 V) (hh7 : w2.heap.size = h7) :
    Box5 (set5 V h7 (.slice p1 i1 j1) (.slice p2 i2 j2) (.slice p3 i3 j3) (.int .i64 Z.root) (.int .i64 Z.gen)) h7 (.slice p1 i1 j1) (.slice p2 i2 j2) (.slice p3 i3 j3) (.int .i64 Z.root) (.int .i64 Z.gen) ∧ WoodL (set5 V h7 (.slice p1 i1 j1) (.slice p2 i2 j2) (.slice p3 i3 j3) (.int .i64 Z.root) (.int .i64 Z.gen)) p1 i1 j1 p2 i2 j2 p3 i3 j3 Z ∧ Off3 h7 p1 p2 p3 ∧ Below h7 w2 (set5 V h7 (.slice p1 i1 j1) (.slice p2 i2 j2) (.slice p3 i3 j3) (.int .i64 Z.root) (.int .i64 Z.gen)) := by
  have t : Turns (fun k => k = h7) V (set5 V h7 (.slice p1 i1 j1) (.slice p2 i2 j2) (.slice p3 i3 j3) (.int .i64 Z.root) (.int .i64 Z.gen)) := set5_turns (P := fun k => k = h7) (Turns.refl _ _) rfl _ _ _ _ _
  have o : Off3 h7 p1 p2 p3 := ⟨fun x hx => by have := FZ.1 x hx; omega, fun x hx => by have := FZ.2.1 x hx; omega, fun x hx => by have := FZ.2.2 x hx; omega⟩
  obtain ⟨bx, f0, f1, f2, f3, f4⟩ := YB
  refine ⟨⟨set5_box bx _ _ _ _ _, ?_, ?_, ?_, ?_, ?_⟩, WZ.turns1 t o, o, ?_⟩
  · unfold set5; simpa using f0
  · unfold set5; simpa using f1
  · unfold set5; simpa using f2
  · unfold set5; simpa using f3
  · unfold set5; simpa using f4
  · subst hh7
    exact Below.turns HL t fun i e => by omega


set_option maxRecDepth 20000 in
set_option maxHeartbeats 4000000 in
theorem growAll_walk (a : Option Addr) (c : Nat) (bs : List Bool) (a' : Option Addr) (c' : Nat) (ns : List Bool) (b : Option Addr) (f : Nat) (ps : List ByteArray) (root gen : Int) (d : Option Addr) (dc : Nat) (qs : List (ByteArray × ByteArray)) (w : World) (hB : IsB w a c bs) (hB' : IsB w a' c' ns) (hP : IsS w b f ps) (_h1 : (Lit.int .i64 root).wf = true) (_h2 : (Lit.int .i64 gen).wf = true) (hQ : IsQ w d dc qs) :
    Calls Tryz.prog 5 #[.agg #[.slice a bs.length c, .slice a' ns.length c', .slice b ps.length f, .int .i64 root, .int .i64 gen], .slice d qs.length dc] w fun e w' => e = .returned (.bool true) ∧ Below w.heap.size w w' := by
  obtain ⟨G, hG⟩ : ∃ G : WoodS, G = ⟨bs, ns, ps, root, gen⟩ := ⟨_, rfl⟩
  obtain ⟨n, hn⟩ : ∃ n, n = bs.length := ⟨_, rfl⟩
  obtain ⟨n', hn'⟩ : ∃ n, n = ns.length := ⟨_, rfl⟩
  obtain ⟨p, hp⟩ : ∃ n, n = ps.length := ⟨_, rfl⟩
  obtain ⟨k, hk⟩ : ∃ n, n = qs.length := ⟨_, rfl⟩
  have e1 : root = G.root := by rw [hG]
  have e2 : gen = G.gen := by rw [hG]
  rw [← hn, ← hn', ← hp, ← hk, e1, e2]
  have hkc : k ≤ dc ∧ dc ≤ maxLen := by rw [hk]; exact ⟨hQ.1, hQ.2.1⟩
  obtain ⟨m, hm⟩ : ∃ m : Nat, m = min k 20 := ⟨_, rfl⟩
  have hmk : m ≤ k := by omega
  have hm20 : m ≤ 20 := by omega
  have r1 := min_run (x := (k : Int)) (y := 20) (z := (m : Int)) (by omega)
  obtain ⟨Q, hQe⟩ : ∃ Q, Q = qs.take m := ⟨_, rfl⟩
  have QI : IsQ w d dc Q := by rw [hQe]; exact isQ_take hQ m
  have EQ : Hid (m = Q.length) := by show _ = _; rw [hQe, List.length_take]; omega
  obtain ⟨W, hW⟩ : ∃ W, W = w.alloc (.cells #[.slice a n c, .slice a' n' c', .slice b p f, .int .i64 G.root, .int .i64 G.gen] 27) := ⟨_, rfl⟩
  have HB : Below w.heap.size w W := by rw [hW]; exact (Below.refl _ _).alloc (Nat.le_refl _) _
  have WI : WoodL W a n c a' n' c' b p f G := by rw [hG]; exact ⟨hn, hn', hp, hB.below HB, hB'.below HB, hP.below HB⟩
  have WB : WoodBox W w.heap.size (.slice a n c) (.slice a' n' c') (.slice b p f) (.int .i64 G.root) (.int .i64 G.gen) := by rw [hW]; exact woodBox_new _ _ _ _ _ _ _ rfl
  have cA := alive09_any
  have cS := WI.small
  have cR : ∀ V, WoodL V a n c a' n' c' b p f G → Calls Tryz.prog 12 #[.agg #[.slice a n c, .slice a' n' c', .slice b p f, .int .i64 G.root, .int .i64 G.gen]] V fun e w' => e = .returned (.bool G.right) ∧ Below V.heap.size V w' := fun V x => x.right
  have cL : ∀ V, Below w.heap.size w V → WoodL V a n c a' n' c' b p f G → Calls Tryz.prog 21 #[.agg #[.slice a n c, .slice a' n' c', .slice b p f, .int .i64 G.root, .int .i64 G.gen], .slice d m dc] V fun e w' => PutC V e w' (allR G Q) := fun V hV x => x.all EQ.out (QI.below hV)
  have RQ : Hid (IsQ w d dc Q) := QI
  clear e1 e2 hn hn' hp hG hB hB' hP _h1 _h2 hQ hk QI hQe hm
  obtain ⟨x0, x1, x2, x3, x4⟩ := id (hW ▸ WB)
  cases hs : (decide (n' ≤ 300) && decide (p ≤ 300)) with
  | false =>
    rw [hs] at cS
    clear cR cL hs
    go_enter Tryz.func5, Tryz.ntmps5
    go_wp2_with (first
      | (go_at_call 9; rw [← hW]; refine cS.mono ?_; rintro y w1 ⟨rfl, hb⟩; replace WI := WI.below hb; replace WB := WB.below hb; replace HB := Below.tr HB hb; clear x0 x1 x2 x3 x4; obtain ⟨x0, x1, x2, x3, x4⟩ := id WB; clear hb)
      | (go_at_call 10; refine (cA _).mono ?_; rintro y w9 ⟨rfl, hb⟩; replace HB := Below.tr HB hb; clear hb)
      )
    go_ret
    exact ⟨rfl, HB⟩
  | true =>
    rw [hs] at cS
    clear hs
    cases hr : G.right with
    | false =>
      rw [hr] at cR
      have e3 : allR G Q = (1, WoodS.none) := by unfold allR; rw [hr]; rfl
      rw [e3] at cL
      obtain ⟨rG, hrG⟩ : ∃ g, g = WoodS.none := ⟨_, rfl⟩
      have cNo : ∀ V (b1 : Option Addr) (m1 c1 : Nat) (b2 : Option Addr) (m2 c2 : Nat) (b3 : Option Addr) (m3 c3 : Nat), WoodL V b1 m1 c1 b2 m2 c2 b3 m3 c3 rG → Calls Tryz.prog 14 #[.agg #[.slice b1 m1 c1, .slice b2 m2 c2, .slice b3 m3 c3, .int .i64 rG.root, .int .i64 rG.gen]] V fun e w' => e = .returned (.bool true) ∧ Below V.heap.size V w' := fun V b1 m1 c1 b2 m2 c2 b3 m3 c3 x => by
        subst hrG
        obtain ⟨q1, q2, q3, q4⟩ := id x
        have q1' : m1 = 0 := q1
        have q2' : m2 = 0 := q2
        have q3' : m3 = 0 := q3
        subst q1' q2' q3'
        exact none09_any b1 b2 b3 c1 c2 c3 V x
      rw [← hrG] at cL
      clear hr e3 hrG
      go_enter Tryz.func5, Tryz.ntmps5
      go_wp2_with (first
        | (go_at_call 9; rw [← hW]; refine cS.mono ?_; rintro y w1 ⟨rfl, hb⟩; replace WI := WI.below hb; replace WB := WB.below hb; replace HB := Below.tr HB hb; clear x0 x1 x2 x3 x4; obtain ⟨x0, x1, x2, x3, x4⟩ := id WB; clear hb)
        | (go_at_call 21; refine (cL _ HB WI).mono ?_; rintro y w4 ⟨b1, m1, c1, b2, m2, c2, b3, m3, c3, rfl, WX, hb⟩; have hA : Below w4.heap.size w4 (w4.alloc (.cells #[.slice b1 m1 c1, .slice b2 m2 c2, .slice b3 m3 c3, .int .i64 rG.root, .int .i64 rG.gen] 27)) := (Below.refl _ _).alloc (Nat.le_refl _) _; have XB := woodBox_new w4 (.slice b1 m1 c1) (.slice b2 m2 c2) (.slice b3 m3 c3) (.int .i64 rG.root) (.int .i64 rG.gen) 27 rfl; replace WI := (WI.below hb).below hA; replace WB := (WB.below hb).below hA; replace HB := Below.tr (Below.tr HB hb) hA; replace WX := WX.below hA; clear x0 x1 x2 x3 x4; obtain ⟨x0, x1, x2, x3, x4⟩ := id WB; obtain ⟨z0, z1, z2, z3, z4⟩ := id XB; clear hb hA)
        | (go_at_call 12; refine (cR _ WI).mono ?_; rintro y w2 ⟨rfl, hb⟩; replace WI := WI.below hb; replace WB := WB.below hb; replace XB := XB.below hb; replace WX := WX.below hb; replace HB := Below.tr HB hb; clear x0 x1 x2 x3 x4 z0 z1 z2 z3 z4; obtain ⟨x0, x1, x2, x3, x4⟩ := id WB; obtain ⟨z0, z1, z2, z3, z4⟩ := id XB; clear hb)
        | (go_at_call 10; refine (cA _).mono ?_; rintro y w9 ⟨rfl, hb⟩; replace HB := Below.tr HB hb; replace WX := WX.below hb; replace XB := XB.below hb; clear z0 z1 z2 z3 z4; obtain ⟨z0, z1, z2, z3, z4⟩ := id XB; clear hb)
        | (go_at_call 14; refine (cNo _ _ _ _ _ _ _ _ _ _ WX).mono ?_; rintro y w8 ⟨rfl, hb⟩; replace HB := Below.tr HB hb; clear hb)
        )
      go_ret
      exact ⟨rfl, HB⟩
    | true =>
      rw [hr] at cR
      have e3 : allR G Q = allG G Q := by unfold allR; rw [if_pos hr]
      obtain ⟨R, hR⟩ : ∃ R, R = allG G Q := ⟨_, rfl⟩
      rw [e3, ← hR] at cL
      have HS : Hid (StepF R Q 0 0 G ∧ G.right = true) := ⟨.inl ⟨rfl, hr, hR⟩, hr⟩
      obtain ⟨rE, rG⟩ := R
      clear hr e3 hR
      go_enter Tryz.func5, Tryz.ntmps5
      go_wp2_with (first
        | (go_at_call 9; rw [← hW]; refine cS.mono ?_; rintro y w1 ⟨rfl, hb⟩; replace WI := WI.below hb; replace WB := WB.below hb; replace HB := Below.tr HB hb; clear x0 x1 x2 x3 x4; obtain ⟨x0, x1, x2, x3, x4⟩ := id WB; clear hb)
        | (go_at_call 21; refine (cL _ HB WI).mono ?_; rintro y w4 ⟨b1, m1, c1, b2, m2, c2, b3, m3, c3, rfl, WX, hb⟩; have hA : Below w4.heap.size w4 (w4.alloc (.cells #[.slice b1 m1 c1, .slice b2 m2 c2, .slice b3 m3 c3, .int .i64 rG.root, .int .i64 rG.gen] 27)) := (Below.refl _ _).alloc (Nat.le_refl _) _; have XB := woodBox_new w4 (.slice b1 m1 c1) (.slice b2 m2 c2) (.slice b3 m3 c3) (.int .i64 rG.root) (.int .i64 rG.gen) 27 rfl; replace WI := (WI.below hb).below hA; replace WB := (WB.below hb).below hA; replace HB := Below.tr (Below.tr HB hb) hA; replace WX := WX.below hA; clear x0 x1 x2 x3 x4; obtain ⟨x0, x1, x2, x3, x4⟩ := id WB; obtain ⟨z0, z1, z2, z3, z4⟩ := id XB; clear hb hA)
        | (go_at_call 12; refine (cR _ WI).mono ?_; rintro y w2 ⟨rfl, hb⟩; replace WI := WI.below hb; replace WB := WB.below hb; replace XB := XB.below hb; replace WX := WX.below hb; replace HB := Below.tr HB hb; clear x0 x1 x2 x3 x4 z0 z1 z2 z3 z4; obtain ⟨x0, x1, x2, x3, x4⟩ := id WB; obtain ⟨z0, z1, z2, z3, z4⟩ := id XB; clear hb)
        )
      have hA : Below w2.heap.size w2 (w2.alloc (.cells #[.slice a n c, .slice a' n' c', .slice b p f, .int .i64 G.root, .int .i64 G.gen] 27)) := (Below.refl _ _).alloc (Nat.le_refl _) _
      have YB := box5_new w2 (.slice a n c) (.slice a' n' c') (.slice b p f) (.int .i64 G.root) (.int .i64 G.gen) 27 rfl
      have OF : Off3 w2.heap.size a a' b := WI.off HS.out.2 (Nat.le_refl _)
      have WY := WI.below hA
      have hlo := HB.size
      have h5l : w4.heap.size < w2.heap.size := cell_lt XB.1
      have HX : Hid (WoodBox w2 w4.heap.size (.slice b1 m1 c1) (.slice b2 m2 c2) (.slice b3 m3 c3) (.int .i64 rG.root) (.int .i64 rG.gen) ∧ WoodL w2 b1 m1 c1 b2 m2 c2 b3 m3 c3 rG ∧ Below w.heap.size w w2) := ⟨XB, WX, HB⟩
      generalize hh7 : w2.heap.size = h7 at *
      generalize w4.heap.size = h5 at *
      clear x0 x1 x2 x3 x4 z0 z1 z2 z3 z4 XB WX HB WB WI cL cR cS hW
      go_loopw [8, 43] (fun fv v wr => ∃ (j : Nat) (F : Int) (Y : WoodS) (d1 : Option Addr) (l1 k1 : Nat) (d2 : Option Addr) (l2 k2 : Nat) (d3 : Option Addr) (l3 k3 : Nat), j ≤ m ∧ v = .int .i64 j ∧ fv = .int .i64 F ∧ StepF (rE, rG) Q j F Y ∧ Box5 wr h7 (.slice d1 l1 k1) (.slice d2 l2 k2) (.slice d3 l3 k3) (.int .i64 Y.root) (.int .i64 Y.gen) ∧ WoodL wr d1 l1 k1 d2 l2 k2 d3 l3 k3 Y ∧ Off3 h7 d1 d2 d3 ∧ Below h7 w2 wr) (fun _ v _ => m - (intOf v).toNat)
      case atStart => exact ⟨0, 0, G, a, n, c, a', n', c', b, p, f, by omega, rfl, rfl, HS.out.1, YB, WY, OF, by rw [← hh7] at hA ⊢; exact hA⟩
      case round =>
        clear YB WY OF hA
        obtain ⟨j, F, Y, d1, l1, k1, d2, l2, k2, d3, l3, k3, hj, rfl, rfl, hst, YB, WY, OF, HL⟩ := hrel
        have HST : Hid (StepF (rE, rG) Q j F Y) := hst
        have HLw : Below w2.heap.size w2 wr := by rw [hh7]; exact HL
        have HB : Below w.heap.size w wr := Below.tr HX.out.2.2 HLw
        clear hst
        by_cases hlt : j < m
        · have hlt' : (j : Int) < m := by omega
          obtain ⟨⟨ky, vl⟩, hp⟩ : ∃ x, Hid (Q[j]? = some x) := get_some (by rw [← EQ.out]; exact hlt)
          obtain ⟨bb, oo, rfl, -, hc0, hc1, mk1, mk2⟩ := RQ.out.2.2 j (ky, vl) hp.out
          have z0 := cell_below HB hc0
          have z1 := cell_below HB hc1
          have hA2 : Below wr.heap.size wr (wr.alloc (.cells #[.string ky, .string vl] 50)) := (Below.refl _ _).alloc (Nat.le_refl _) _
          have cP : ∀ V, WoodL V d1 l1 k1 d2 l2 k2 d3 l3 k3 Y → Calls Tryz.prog 11 #[.agg #[.slice d1 l1 k1, .slice d2 l2 k2, .slice d3 l3 k3, .int .i64 Y.root, .int .i64 Y.gen], .string ky, .string vl] V fun e w' => PutF V e w' (allR Y [(ky, vl)]) := fun V x => x.putF ky vl mk1 mk2
          obtain ⟨⟨E, Z⟩, hE⟩ : ∃ x, Hid (x = allR Y [(ky, vl)]) := ⟨_, rfl⟩
          have hE' := hE.out
          rw [← hE'] at cP
          have hh7l : h7 < wr.heap.size := YB.lt
          clear hE' hc0 hc1 mk1 mk2 HB HLw
          replace YB := YB.below hA2
          replace WY := WY.below hA2
          replace HL := Below.tr (by rw [hh7]; exact HL : Below w2.heap.size w2 wr) hA2
          clear hA2
          obtain ⟨⟨y0, y1, y2, y3, y4⟩, -⟩ := id YB
          by_cases hF : F = 0
          · subst hF
            have hnx : Hid (StepF (rE, rG) Q (j + 1) E Z) := by
              rcases HST.out with ⟨_, h1, h2⟩ | ⟨h, _⟩
              · have := put_step hp.out h1 h2
                rw [← hE.out] at this
                rcases this with ⟨h3, h4, h5⟩ | ⟨h3, h4⟩
                · exact .inl ⟨h3, h4, h5⟩
                · exact .inr ⟨h3, h4⟩
              · exact absurd rfl h
            go_wp2_with (go_at_call 11; refine (cP _ WY).mono ?_; rintro y w3 ⟨p1, i1, j1, p2, i2, j2, p3, i3, j3, rfl, WZ, FZ, hb⟩; have hA3 : Below w3.heap.size w3 (w3.alloc (.cells #[.slice p1 i1 j1, .slice p2 i2 j2, .slice p3 i3 j3, .int .i64 Z.root, .int .i64 Z.gen] 27)) := (Below.refl _ _).alloc (Nat.le_refl _) _; have hsz := hb.size; have hfin : Hid (Box5 (set5 (w3.alloc (.cells #[.slice p1 i1 j1, .slice p2 i2 j2, .slice p3 i3 j3, .int .i64 Z.root, .int .i64 Z.gen] 27)) h7 (.slice p1 i1 j1) (.slice p2 i2 j2) (.slice p3 i3 j3) (.int .i64 Z.root) (.int .i64 Z.gen)) h7 (.slice p1 i1 j1) (.slice p2 i2 j2) (.slice p3 i3 j3) (.int .i64 Z.root) (.int .i64 Z.gen) ∧ WoodL (set5 (w3.alloc (.cells #[.slice p1 i1 j1, .slice p2 i2 j2, .slice p3 i3 j3, .int .i64 Z.root, .int .i64 Z.gen] 27)) h7 (.slice p1 i1 j1) (.slice p2 i2 j2) (.slice p3 i3 j3) (.int .i64 Z.root) (.int .i64 Z.gen)) p1 i1 j1 p2 i2 j2 p3 i3 j3 Z ∧ Off3 h7 p1 p2 p3 ∧ Below h7 w2 (set5 (w3.alloc (.cells #[.slice p1 i1 j1, .slice p2 i2 j2, .slice p3 i3 j3, .int .i64 Z.root, .int .i64 Z.gen] 27)) h7 (.slice p1 i1 j1) (.slice p2 i2 j2) (.slice p3 i3 j3) (.int .i64 Z.root) (.int .i64 Z.gen))) := round_set ((YB.below hb).below hA3) (WZ.below hA3) FZ (by simp; omega) (Below.tr (Below.tr HL hb) hA3) hh7; replace YB := (YB.below hb).below hA3; clear y0 y1 y2 y3 y4 z0 z1; obtain ⟨⟨y0, y1, y2, y3, y4⟩, f0, f1, f2, f3, f4⟩ := id YB; obtain ⟨t0, t1, t2, t3, t4⟩ := woodBox_new w3 (.slice p1 i1 j1) (.slice p2 i2 j2) (.slice p3 i3 j3) (.int .i64 Z.root) (.int .i64 Z.gen) 27 rfl; clear WZ FZ hb hA3 hsz)
            go_roundw
            case rel => exact ⟨j + 1, E, Z, p1, i1, j1, p2, i2, j2, p3, i3, j3, by omega, by go_num, rfl, hnx.out, hfin.out.1, hfin.out.2.1, hfin.out.2.2.1, hfin.out.2.2.2⟩
            case measure => simp [intOf]; omega
          · have hnx : Hid (StepF (rE, rG) Q (j + 1) F Y) := by
              rcases HST.out with ⟨h, _⟩ | h
              · exact absurd h hF
              · exact .inr h
            have hF' : (F == 0) = false := by simpa using hF
            clear hF
            go_wp2_with (go_at_call 11; refine (cP _ WY).mono ?_; rintro y w3 ⟨p1, i1, j1, p2, i2, j2, p3, i3, j3, rfl, -, -, hb⟩; have hA3 : Below w3.heap.size w3 (w3.alloc (.cells #[.slice p1 i1 j1, .slice p2 i2 j2, .slice p3 i3 j3, .int .i64 Z.root, .int .i64 Z.gen] 27)) := (Below.refl _ _).alloc (Nat.le_refl _) _; replace YB := (YB.below hb).below hA3; replace WY := (WY.below hb).below hA3; replace HL := Below.tr (Below.tr HL hb) hA3; clear y0 y1 y2 y3 y4 z0 z1 hb hA3)
            go_roundw
            case rel => exact ⟨j + 1, F, Y, d1, l1, k1, d2, l2, k2, d3, l3, k3, by omega, by go_num, rfl, hnx.out, YB, WY, OF, by rw [hh7] at HL; exact HL⟩
            case measure => simp [intOf]; omega
        · obtain rfl : m = j := by omega
          have hj0 : ¬ (m : Int) < m := by omega
          have XB := HX.out.1.below HLw
          have WX := HX.out.2.1.below HLw
          obtain ⟨z0, z1, z2, z3, z4⟩ := id XB
          by_cases hF : F = 0
          · subst hF
            have hR : (rE, rG) = (0, Y) := by
              rcases HST.out with ⟨_, _, h⟩ | ⟨h, _⟩
              · rw [h, EQ.out]; exact allG_end
              · exact absurd rfl h
            obtain ⟨rfl, rfl⟩ := Prod.mk.inj hR
            clear hR
            obtain ⟨e1, e2, e3, -⟩ := id WX
            obtain ⟨f1, f2, f3, -⟩ := id WY
            obtain rfl : m1 = l1 := e1.trans f1.symm
            obtain rfl : m2 = l2 := e2.trans f2.symm
            obtain rfl : m3 = l3 := e3.trans f3.symm
            have cW : ∀ V, WoodL V b1 m1 c1 b2 m2 c2 b3 m3 c3 rG → WoodL V d1 m1 k1 d2 m2 k2 d3 m3 k3 rG → Calls Tryz.prog 22 #[.agg #[.slice b1 m1 c1, .slice b2 m2 c2, .slice b3 m3 c3, .int .i64 rG.root, .int .i64 rG.gen], .agg #[.slice d1 m1 k1, .slice d2 m2 k2, .slice d3 m3 k3, .int .i64 rG.root, .int .i64 rG.gen]] V fun e w' => e = .returned (.bool true) ∧ Below V.heap.size V w' := fun V h1 h2 => likeWood_same b1 b2 b3 d1 d2 d3 m1 m2 m3 c1 c2 c3 k1 k2 k3 rG V h1 h2
            replace YB := YB.1
            clear e1 e2 e3 f1 f2 f3
            obtain ⟨y0, y1, y2, y3, y4⟩ := id YB
            go_wp2_with (first
              | (go_at_call 10; refine (cA _).mono ?_; rintro y w9 ⟨rfl, hb⟩; replace HB := Below.tr HB hb; replace WX := WX.below hb; replace XB := XB.below hb; replace WY := WY.below hb; replace YB := YB.below hb; clear z0 z1 z2 z3 z4 y0 y1 y2 y3 y4; obtain ⟨z0, z1, z2, z3, z4⟩ := id XB; obtain ⟨y0, y1, y2, y3, y4⟩ := id YB; clear hb)
              | (go_at_call 22; refine (cW _ WX WY).mono ?_; rintro y w8 ⟨rfl, hb⟩; replace HB := Below.tr HB hb; clear hb))
            go_ret
            exact ⟨rfl, HB⟩
          · have hR : (rE, rG) = (F, WoodS.none) := by
              rcases HST.out with ⟨h, _⟩ | ⟨_, h⟩
              · exact absurd h hF
              · exact h
            obtain ⟨rfl, hrG⟩ := Prod.mk.inj hR
            have hF' : (rE != 0) = true := by simpa using hF
            have hFF : (rE == rE) = true := by simp
            have cNo : ∀ V, WoodL V b1 m1 c1 b2 m2 c2 b3 m3 c3 rG → Calls Tryz.prog 14 #[.agg #[.slice b1 m1 c1, .slice b2 m2 c2, .slice b3 m3 c3, .int .i64 rG.root, .int .i64 rG.gen]] V fun e w' => e = .returned (.bool true) ∧ Below V.heap.size V w' := fun V x => by
              subst hrG
              obtain ⟨q1, q2, q3, q4⟩ := id x
              have q1' : m1 = 0 := q1
              have q2' : m2 = 0 := q2
              have q3' : m3 = 0 := q3
              subst q1' q2' q3'
              exact none09_any b1 b2 b3 c1 c2 c3 V x
            clear hR hrG hF
            go_wp2_with (first
              | (go_at_call 10; refine (cA _).mono ?_; rintro y w9 ⟨rfl, hb⟩; replace HB := Below.tr HB hb; replace WX := WX.below hb; replace XB := XB.below hb; clear z0 z1 z2 z3 z4; obtain ⟨z0, z1, z2, z3, z4⟩ := id XB; clear hb)
              | (go_at_call 14; refine (cNo _ WX).mono ?_; rintro y w8 ⟨rfl, hb⟩; replace HB := Below.tr HB hb; clear hb))
            go_ret
            exact ⟨rfl, HB⟩

end Go.Proofs.YtaecfbfcjaailaaGreat


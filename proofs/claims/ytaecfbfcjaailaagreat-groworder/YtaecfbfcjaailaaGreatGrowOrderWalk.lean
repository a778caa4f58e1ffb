/-
  The walk through the statement GrowOrder.
-/
import Derived.Test.YtaecfbfcjaailaaGreatBoG
import Derived.Test.YtaecfbfcjaailaaGreatBoC
namespace Go.Proofs.YtaecfbfcjaailaaGreat
open Go.RowKit Plain Anyorder
set_option linter.unusedVariables false

theorem isQ_two (V : World) (k1 v1 k2 v2 : ByteArray) (m1 : k1.size ≤ maxLen) (m2 : v1.size ≤ maxLen) (m3 : k2.size ≤ maxLen) (m4 : v2.size ≤ maxLen) : IsQ (V.alloc (.cells #[.string k1, .string v1, .string k2, .string v2] 50)) (some ⟨V.heap.size, 0, none⟩) 2 [(k1, v1), (k2, v2)] := by
  refine ⟨Nat.le_refl _, by decide, fun j p hp => ?_⟩
  match j, hp with
  | 0, hp =>
    cases hp
    exact ⟨V.heap.size, 0, rfl, by simp, World.cell?_alloc_at _ _ _ _ rfl, World.cell?_alloc_at _ _ _ _ rfl, m1, m2⟩
  | 1, hp =>
    cases hp
    exact ⟨V.heap.size, 0, rfl, by simp, World.cell?_alloc_at _ _ _ _ rfl, World.cell?_alloc_at _ _ _ _ rfl, m3, m4⟩
  | j + 2, hp => simp at hp

/-- What All answers of two pairs, its error ahead. -/
theorem two_told {G : WoodS} (hr : G.right = true) (hb : G.tree.bad = false) (p q : ByteArray × ByteArray) :
    ((allR G [p, q]).1 = 0 ∧ (allR G [p, q]).2.tree.bad = false ∧ (allR G [p, q]).2.tree.pairs = withP (withP G.tree.pairs p.1 p.2) q.1 q.2) ∨ ((allR G [p, q]).1 ≠ 0 ∧ ((allR G [p, q]).1 = 60 ∨ ((allR G [p, q]).1 = 1 ∧ (isPairB p.1 p.2 && isPairB q.1 q.2) = false))) := by
  rcases allR_two hr hb p q with ⟨X, h, _, h1, h2⟩ | h | ⟨h, h1⟩
  · left
    rw [h]
    exact ⟨rfl, h1, h2⟩
  · right
    rw [h]
    exact ⟨by decide, .inl rfl⟩
  · right
    rw [h]
    exact ⟨by decide, .inr ⟨rfl, h1⟩⟩

def ordV (G : Value) (h z1 z2 : Nat) (e1 e2 : Option Addr) (f1 f2 nx ny nt : Nat) (k1 v1 v2 : ByteArray) (tp xp yp : List (ByteArray × ByteArray)) (i : Nat) (v : Value) (w : World) : Prop :=
  match i with
  | 0 => v = .pointer (some ⟨z1, 0, none⟩)
  | 1 => v = .pointer (some ⟨z1, 0, none⟩)
  | 2 => v = .pointer (some ⟨z1, 0, none⟩)
  | 3 => v = .slice e1 nx f1
  | 4 => v = G
  | 5 => ∃ z q d, v = .pointer (some ⟨z, 0, none⟩) ∧ w.cell? ⟨z, 0, none⟩ = some (.slice q nt d) ∧ IsQ w q d tp
  | 6 => ∃ z q d, v = .pointer (some ⟨z, 0, none⟩) ∧ w.cell? ⟨z, 0, none⟩ = some (.slice q nt d) ∧ IsQ w q d tp
  | 7 => ∃ z q d, v = .pointer (some ⟨z, 0, none⟩) ∧ w.cell? ⟨z, 0, none⟩ = some (.slice q nt d) ∧ IsQ w q d tp
  | 8 => ∃ q d, v = .slice q nt d ∧ IsQ w q d tp
  | 9 => v = .pointer (some ⟨h + 1 + 1, 0, none⟩)
  | 10 => v = .string k1
  | 11 => v = .pointer (some ⟨h + 1 + 1, 1, none⟩)
  | 12 => v = .string v2
  | 13 => ∃ q d, v = .slice q nx d ∧ IsQ w q d xp
  | 14 => v = .bool true
  | 15 => v = .bool true
  | 16 => v = .pointer (some ⟨z2, 0, none⟩)
  | 17 => v = .pointer (some ⟨z2, 0, none⟩)
  | 18 => v = .pointer (some ⟨z2, 0, none⟩)
  | 19 => v = .slice e2 ny f2
  | 20 => v = G
  | 21 => ∃ z q d, v = .pointer (some ⟨z, 0, none⟩) ∧ w.cell? ⟨z, 0, none⟩ = some (.slice q nt d) ∧ IsQ w q d tp
  | 22 => ∃ z q d, v = .pointer (some ⟨z, 0, none⟩) ∧ w.cell? ⟨z, 0, none⟩ = some (.slice q nt d) ∧ IsQ w q d tp
  | 23 => ∃ z q d, v = .pointer (some ⟨z, 0, none⟩) ∧ w.cell? ⟨z, 0, none⟩ = some (.slice q nt d) ∧ IsQ w q d tp
  | 24 => ∃ q d, v = .slice q nt d ∧ IsQ w q d tp
  | 25 => v = .pointer (some ⟨h + 1, 0, none⟩)
  | 26 => v = .string k1
  | 27 => v = .pointer (some ⟨h + 1, 1, none⟩)
  | 28 => v = .string v1
  | 29 => ∃ q d, v = .slice q ny d ∧ IsQ w q d yp
  | 30 => v = .bool true
  | 31 => v = .bool true
  | 32 => v = .bool true
  | _ => True

set_option maxRecDepth 20000 in
set_option maxHeartbeats 4000000 in
theorem growOrder_walk (a : Option Addr) (c : Nat) (bs : List Bool) (a' : Option Addr) (c' : Nat) (ns : List Bool) (b : Option Addr) (f : Nat) (ps : List ByteArray) (root gen : Int) (k1 v1 k2 v2 : ByteArray) (w : World) (hB : IsB w a c bs) (hB' : IsB w a' c' ns) (hP : IsS w b f ps) (_h1 : (Lit.int .i64 root).wf = true) (_h2 : (Lit.int .i64 gen).wf = true) (m1 : k1.size ≤ maxLen) (m2 : v1.size ≤ maxLen) (m3 : k2.size ≤ maxLen) (m4 : v2.size ≤ maxLen) :
    Calls Tryz.prog 8 #[.agg #[.slice a bs.length c, .slice a' ns.length c', .slice b ps.length f, .int .i64 root, .int .i64 gen], .agg #[.string k1, .string v1], .agg #[.string k2, .string v2]] w fun e w' => e = .returned (.bool true) ∧ Below w.heap.size w w' := by
  obtain ⟨G, hG⟩ : ∃ G : WoodS, G = ⟨bs, ns, ps, root, gen⟩ := ⟨_, rfl⟩
  obtain ⟨n, hn⟩ : ∃ n, n = bs.length := ⟨_, rfl⟩
  obtain ⟨n', hn'⟩ : ∃ n, n = ns.length := ⟨_, rfl⟩
  obtain ⟨p, hp⟩ : ∃ n, n = ps.length := ⟨_, rfl⟩
  have e1 : root = G.root := by rw [hG]
  have e2 : gen = G.gen := by rw [hG]
  rw [← hn, ← hn', ← hp, e1, e2]
  obtain ⟨W, hW⟩ : ∃ W, W = ((w.alloc (.cells #[.slice a n c, .slice a' n' c', .slice b p f, .int .i64 G.root, .int .i64 G.gen] 27)).alloc (.cells #[.string k1, .string v1] 50)).alloc (.cells #[.string k2, .string v2] 50) := ⟨_, rfl⟩
  have HB : Below w.heap.size w W := by rw [hW]; exact (((Below.refl _ _).alloc (Nat.le_refl _) _).alloc (by simp) _).alloc (by simp; omega) _
  have WI : WoodL W a n c a' n' c' b p f G := by rw [hG]; exact ⟨hn, hn', hp, hB.below HB, hB'.below HB, hP.below HB⟩
  have WB : WoodBox W w.heap.size (.slice a n c) (.slice a' n' c') (.slice b p f) (.int .i64 G.root) (.int .i64 G.gen) := by rw [hW]; exact ((woodBox_new _ _ _ _ _ _ _ rfl).below ((Below.refl _ _).alloc (Nat.le_refl _) _)).below ((Below.refl _ _).alloc (Nat.le_refl _) _)
  have BP : Box2 W (w.heap.size + 1) (.string k1) (.string v1) := by rw [hW]; exact (box2_new _ _ _ _ (by simp)).below ((Below.refl _ _).alloc (Nat.le_refl _) _)
  have BQ : Box2 W (w.heap.size + 1 + 1) (.string k2) (.string v2) := by rw [hW]; exact box2_new _ _ _ _ (by simp)
  have cA := alive09_any
  have cS := WI.small
  have cR : ∀ V, WoodL V a n c a' n' c' b p f G → Calls Tryz.prog 12 #[.agg #[.slice a n c, .slice a' n' c', .slice b p f, .int .i64 G.root, .int .i64 G.gen]] V fun e w' => e = .returned (.bool G.right) ∧ Below V.heap.size V w' := fun V x => x.right
  have cT : ∀ V, WoodL V a n c a' n' c' b p f G → Calls Tryz.prog 15 #[.agg #[.slice a n c, .slice a' n' c', .slice b p f, .int .i64 G.root, .int .i64 G.gen]] V fun y w' => TreeD V y w' G.tree := fun V x => x.treeD
  have cL1 : ∀ V, WoodL V a n c a' n' c' b p f G → Calls Tryz.prog 21 #[.agg #[.slice a n c, .slice a' n' c', .slice b p f, .int .i64 G.root, .int .i64 G.gen], .slice (some ⟨V.heap.size, 0, none⟩) 2 2] (V.alloc (.cells #[.string k1, .string v1, .string k2, .string v2] 50)) fun e w' => PutC V e w' (allR G [(k1, v1), (k2, v2)]) := fun V x => by
    have hA := (Below.refl V.heap.size V).alloc (Nat.le_refl _) (.cells #[.string k1, .string v1, .string k2, .string v2] 50)
    refine ((x.below hA).all (ps := [(k1, v1), (k2, v2)]) rfl (isQ_two V k1 v1 k2 v2 m1 m2 m3 m4)).mono ?_
    rintro e w' ⟨b1, j1, c1, b2, j2, c2, b3, j3, c3, h1, h2, hb⟩
    exact ⟨b1, j1, c1, b2, j2, c2, b3, j3, c3, h1, h2, Below.tr hA hb⟩
  have cL2 : ∀ (V : World) (O : Obj), WoodL (V.alloc O) a n c a' n' c' b p f G → Calls Tryz.prog 21 #[.agg #[.slice a n c, .slice a' n' c', .slice b p f, .int .i64 G.root, .int .i64 G.gen], .slice (some ⟨V.heap.size + 1, 0, none⟩) 2 2] ((V.alloc O).alloc (.cells #[.string k2, .string v2, .string k1, .string v1] 50)) fun e w' => PutC (V.alloc O) e w' (allR G [(k2, v2), (k1, v1)]) := fun V O x => by
    have hA := (Below.refl (V.alloc O).heap.size (V.alloc O)).alloc (Nat.le_refl _) (.cells #[.string k2, .string v2, .string k1, .string v1] 50)
    have hQ := isQ_two (V.alloc O) k2 v2 k1 v1 m3 m4 m1 m2
    simp only [World.size_alloc] at hQ
    refine ((x.below hA).all (ps := [(k2, v2), (k1, v1)]) rfl hQ).mono ?_
    rintro e w' ⟨b1, j1, c1, b2, j2, c2, b3, j3, c3, h1, h2, hb⟩
    exact ⟨b1, j1, c1, b2, j2, c2, b3, j3, c3, h1, h2, Below.tr hA hb⟩
  clear e1 e2 hn hn' hp hG hB hB' hP _h1 _h2
  obtain ⟨x0, x1, x2, x3, x4⟩ := id (hW ▸ WB)
  obtain ⟨⟨p0, p1⟩, -⟩ := id (hW ▸ BP)
  obtain ⟨⟨q0, q1⟩, -⟩ := id (hW ▸ BQ)
  cases hs : (decide (n' ≤ 300) && decide (p ≤ 300)) with
  | false =>
    rw [hs] at cS
    clear cR cT cL1 cL2 hs
    go_enter Tryz.func8, Tryz.ntmps8
    go_wp2_with (first
      | (go_at_call 9; rw [← hW]; refine (cS).mono ?_; rintro y w1 ⟨rfl, hb⟩; replace WI := WI.below hb; replace WB := WB.below hb; replace BP := BP.below hb; replace BQ := BQ.below hb; replace HB := Below.tr HB hb; clear x0 x1 x2 x3 x4 p0 p1 q0 q1; obtain ⟨x0, x1, x2, x3, x4⟩ := id WB; obtain ⟨⟨p0, p1⟩, -⟩ := id BP; obtain ⟨⟨q0, q1⟩, -⟩ := id BQ; clear hb)
      | (go_at_call 10; refine (cA _).mono ?_; rintro y w9 ⟨rfl, hb⟩; replace HB := Below.tr HB hb; clear hb))
    go_ret
    exact ⟨rfl, HB⟩
  | true =>
    rw [hs] at cS
    clear hs
    cases hr : G.right with
    | false =>
      rw [hr] at cR
      clear hr cT cL1 cL2
      go_enter Tryz.func8, Tryz.ntmps8
      go_wp2_with (first
        | (go_at_call 9; rw [← hW]; refine (cS).mono ?_; rintro y w1 ⟨rfl, hb⟩; replace WI := WI.below hb; replace WB := WB.below hb; replace BP := BP.below hb; replace BQ := BQ.below hb; replace HB := Below.tr HB hb; clear x0 x1 x2 x3 x4 p0 p1 q0 q1; obtain ⟨x0, x1, x2, x3, x4⟩ := id WB; obtain ⟨⟨p0, p1⟩, -⟩ := id BP; obtain ⟨⟨q0, q1⟩, -⟩ := id BQ; clear hb)
        | (go_at_call 12; refine (cR _ WI).mono ?_; rintro y w2 ⟨rfl, hb⟩; replace WI := WI.below hb; replace WB := WB.below hb; replace BP := BP.below hb; replace BQ := BQ.below hb; replace HB := Below.tr HB hb; clear x0 x1 x2 x3 x4 p0 p1 q0 q1; obtain ⟨x0, x1, x2, x3, x4⟩ := id WB; obtain ⟨⟨p0, p1⟩, -⟩ := id BP; obtain ⟨⟨q0, q1⟩, -⟩ := id BQ; clear hb)
        | (go_at_call 10; refine (cA _).mono ?_; rintro y w9 ⟨rfl, hb⟩; replace HB := Below.tr HB hb; clear hb))
      go_ret
      exact ⟨rfl, HB⟩
    | true =>
      rw [hr] at cR
      obtain ⟨T, hT⟩ : ∃ T, T = G.tree := ⟨_, rfl⟩
      rw [← hT] at cT
      obtain ⟨tp, tb, th, tbad⟩ := T
      cases hb : tbad with
      | true =>
        subst hb
        clear hr cL1 cL2 hT
        go_enter Tryz.func8, Tryz.ntmps8
        go_wp2_with (first
          | (go_at_call 9; rw [← hW]; refine (cS).mono ?_; rintro y w1 ⟨rfl, hb⟩; replace WI := WI.below hb; replace WB := WB.below hb; replace BP := BP.below hb; replace BQ := BQ.below hb; replace HB := Below.tr HB hb; clear x0 x1 x2 x3 x4 p0 p1 q0 q1; obtain ⟨x0, x1, x2, x3, x4⟩ := id WB; obtain ⟨⟨p0, p1⟩, -⟩ := id BP; obtain ⟨⟨q0, q1⟩, -⟩ := id BQ; clear hb)
          | (go_at_call 12; refine (cR _ WI).mono ?_; rintro y w2 ⟨rfl, hb⟩; replace WI := WI.below hb; replace WB := WB.below hb; replace BP := BP.below hb; replace BQ := BQ.below hb; replace HB := Below.tr HB hb; clear x0 x1 x2 x3 x4 p0 p1 q0 q1; obtain ⟨x0, x1, x2, x3, x4⟩ := id WB; obtain ⟨⟨p0, p1⟩, -⟩ := id BP; obtain ⟨⟨q0, q1⟩, -⟩ := id BQ; clear hb)
          | (go_at_call 15; refine (cT _ WI).mono ?_; rintro y w3 ⟨z, q, d, r, k, rfl, ⟨⟨t0, t1, t2, t3⟩, -⟩, -, -, hb⟩; replace WI := WI.below hb; replace WB := WB.below hb; replace BP := BP.below hb; replace BQ := BQ.below hb; replace HB := Below.tr HB hb; clear x0 x1 x2 x3 x4 p0 p1 q0 q1; obtain ⟨x0, x1, x2, x3, x4⟩ := id WB; obtain ⟨⟨p0, p1⟩, -⟩ := id BP; obtain ⟨⟨q0, q1⟩, -⟩ := id BQ; clear hb)
          | (go_at_call 10; refine (cA _).mono ?_; rintro y w9 ⟨rfl, hb⟩; replace HB := Below.tr HB hb; clear hb))
        go_ret
        exact ⟨rfl, HB⟩
      | false =>
        subst hb
        have hbad : G.tree.bad = false := by rw [← hT]
        have hris := (treeG_facts hbad).1
        have hpp : G.tree.pairs = tp := by rw [← hT]
        have t1 := two_told hr hbad (k1, v1) (k2, v2)
        have t2 := two_told hr hbad (k2, v2) (k1, v1)
        rw [hpp] at t1 t2 hris
        have hlen : Hid (tp.length ≤ 1000000000) := by
          show _ ≤ _
          rw [← hpp]
          exact Nat.le_trans (tree_count hr) (by decide)
        generalize allR G [(k1, v1), (k2, v2)] = R1 at *
        generalize allR G [(k2, v2), (k1, v1)] = R2 at *
        obtain ⟨E1, X1⟩ := R1
        obtain ⟨E2, X2⟩ := R2
        simp only at t1 t2
        have tk1 : True := trivial
        have tk2 : True := trivial
        have tk3 : True := trivial
        clear hT hpp hbad hr
        by_cases hz : E1 = 0 ∧ E2 = 0
        · obtain ⟨rfl, rfl⟩ := hz
          obtain ⟨-, b1, P1⟩ := t1.resolve_right (fun h => h.1 rfl)
          obtain ⟨-, b2, P2⟩ := t2.resolve_right (fun h => h.1 rfl)
          obtain ⟨T1, hT1⟩ : ∃ T, T = X1.tree := ⟨_, rfl⟩
          obtain ⟨T2, hT2⟩ : ∃ T, T = X2.tree := ⟨_, rfl⟩
          rw [← hT1] at b1 P1
          rw [← hT2] at b2 P2
          have cTX : ∀ V {b1 : Option Addr} {m1 c1 : Nat} {b2 : Option Addr} {m2 c2 : Nat} {b3 : Option Addr} {m3 c3 : Nat}, WoodL V b1 m1 c1 b2 m2 c2 b3 m3 c3 X1 → Calls Tryz.prog 15 #[.agg #[.slice b1 m1 c1, .slice b2 m2 c2, .slice b3 m3 c3, .int .i64 X1.root, .int .i64 X1.gen]] V fun y w' => TreeD V y w' T1 := fun V _ _ _ _ _ _ _ _ _ x => by rw [hT1]; exact x.treeD
          have cTY : ∀ V {b1 : Option Addr} {m1 c1 : Nat} {b2 : Option Addr} {m2 c2 : Nat} {b3 : Option Addr} {m3 c3 : Nat}, WoodL V b1 m1 c1 b2 m2 c2 b3 m3 c3 X2 → Calls Tryz.prog 15 #[.agg #[.slice b1 m1 c1, .slice b2 m2 c2, .slice b3 m3 c3, .int .i64 X2.root, .int .i64 X2.gen]] V fun y w' => TreeD V y w' T2 := fun V _ _ _ _ _ _ _ _ _ x => by rw [hT2]; exact x.treeD
          obtain ⟨xp, xb, xh, xbad⟩ := T1
          obtain ⟨yp, yb, yh, ybad⟩ := T2
          simp only at b1 b2 P1 P2
          subst b1 b2
          have HP1 : Hid (xp = withP (withP tp k1 v1) k2 v2) := P1
          have HP2 : Hid (yp = withP (withP tp k2 v2) k1 v1) := P2
          have HRI : Hid (Rising tp) := hris
          clear hT1 hT2 t1 t2 P1 P2 hris
          go_enter Tryz.func8, Tryz.ntmps8
          go_wp2_with (first
            | (go_at_call 9; rw [← hW]; refine (cS).mono ?_; rintro y w1 ⟨rfl, hb⟩; replace WI := WI.below hb; replace WB := WB.below hb; replace BP := BP.below hb; replace BQ := BQ.below hb; replace HB := Below.tr HB hb; clear x0 x1 x2 x3 x4 p0 p1 q0 q1; obtain ⟨x0, x1, x2, x3, x4⟩ := id WB; obtain ⟨⟨p0, p1⟩, -⟩ := id BP; obtain ⟨⟨q0, q1⟩, -⟩ := id BQ; clear hb)
            | (go_at_call 12; refine (cR _ WI).mono ?_; rintro y w2 ⟨rfl, hb⟩; replace WI := WI.below hb; replace WB := WB.below hb; replace BP := BP.below hb; replace BQ := BQ.below hb; replace HB := Below.tr HB hb; clear x0 x1 x2 x3 x4 p0 p1 q0 q1; obtain ⟨x0, x1, x2, x3, x4⟩ := id WB; obtain ⟨⟨p0, p1⟩, -⟩ := id BP; obtain ⟨⟨q0, q1⟩, -⟩ := id BQ; clear hb)
            | (go_at_call 15; refine (cT _ WI).mono ?_; rintro y w3 ⟨z, q, d, r, k, rfl, ⟨⟨t0, t1, t2, t3⟩, -⟩, -, -, hb⟩; replace WI := WI.below hb; replace WB := WB.below hb; replace BP := BP.below hb; replace BQ := BQ.below hb; replace HB := Below.tr HB hb; clear x0 x1 x2 x3 x4 p0 p1 q0 q1; obtain ⟨x0, x1, x2, x3, x4⟩ := id WB; obtain ⟨⟨p0, p1⟩, -⟩ := id BP; obtain ⟨⟨q0, q1⟩, -⟩ := id BQ; clear hb)
            | (go_at_call 21; have _t := tk1; refine (cL1 _ WI).mono ?_; rintro y w4 ⟨u1, um1, uc1, u2, um2, uc2, u3, um3, uc3, rfl, WX, hb0⟩; have hA : Below w4.heap.size w4 (w4.alloc (.cells #[.slice u1 um1 uc1, .slice u2 um2 uc2, .slice u3 um3 uc3, .int .i64 X1.root, .int .i64 X1.gen] 27)) := (Below.refl _ _).alloc (Nat.le_refl _) _; have hb := Below.tr hb0 hA; replace WX := WX.below hA; have XB := woodBox_new w4 (.slice u1 um1 uc1) (.slice u2 um2 uc2) (.slice u3 um3 uc3) (.int .i64 X1.root) (.int .i64 X1.gen) 27 rfl; replace WI := WI.below hb; replace WB := WB.below hb; replace BP := BP.below hb; replace BQ := BQ.below hb; replace HB := Below.tr HB hb; clear x0 x1 x2 x3 x4 p0 p1 q0 q1; obtain ⟨x0, x1, x2, x3, x4⟩ := id WB; obtain ⟨⟨p0, p1⟩, -⟩ := id BP; obtain ⟨⟨q0, q1⟩, -⟩ := id BQ; clear hb hb0 hA tk1 t0 t1 t2 t3; obtain ⟨a0, a1, a2, a3, a4⟩ := id XB)
            | (go_at_call 21; have _t := tk2; refine (cL2 _ _ WI).mono ?_; rintro y w5 ⟨s1, sm1, sc1, s2, sm2, sc2, s3, sm3, sc3, rfl, WY, hb0⟩; have hA : Below w5.heap.size w5 (w5.alloc (.cells #[.slice s1 sm1 sc1, .slice s2 sm2 sc2, .slice s3 sm3 sc3, .int .i64 X2.root, .int .i64 X2.gen] 27)) := (Below.refl _ _).alloc (Nat.le_refl _) _; have hb := Below.tr hb0 hA; replace WY := WY.below hA; have YB := woodBox_new w5 (.slice s1 sm1 sc1) (.slice s2 sm2 sc2) (.slice s3 sm3 sc3) (.int .i64 X2.root) (.int .i64 X2.gen) 27 rfl; replace WI := WI.below hb; replace WB := WB.below hb; replace BP := BP.below hb; replace BQ := BQ.below hb; replace WX := WX.below hb; replace XB := XB.below hb; replace HB := Below.tr HB hb; clear x0 x1 x2 x3 x4 p0 p1 q0 q1 a0 a1 a2 a3 a4; obtain ⟨x0, x1, x2, x3, x4⟩ := id WB; obtain ⟨⟨p0, p1⟩, -⟩ := id BP; obtain ⟨⟨q0, q1⟩, -⟩ := id BQ; obtain ⟨a0, a1, a2, a3, a4⟩ := id XB; clear hb hb0 hA tk2; obtain ⟨b0, b1, b2, b3, b4⟩ := id YB))
          clear cS cR cL1 cL2 hW
          generalize w5.alloc (.cells #[.slice s1 sm1 sc1, .slice s2 sm2 sc2, .slice s3 sm3 sc3, .int .i64 X2.root, .int .i64 X2.gen] 27) = V5 at *
          have hD := (Below.refl V5.heap.size V5).drew
          replace WI := WI.below hD
          replace WB := WB.below hD
          replace BP := BP.below hD
          replace BQ := BQ.below hD
          replace WX := WX.below hD
          replace XB := XB.below hD
          replace WY := WY.below hD
          replace YB := YB.below hD
          replace HB := Below.tr HB hD
          clear x0 x1 x2 x3 x4 p0 p1 q0 q1 a0 a1 a2 a3 a4 b0 b1 b2 b3 b4
          obtain ⟨x0, x1, x2, x3, x4⟩ := id WB
          obtain ⟨⟨p0, p1⟩, -⟩ := id BP
          obtain ⟨⟨q0, q1⟩, -⟩ := id BQ
          obtain ⟨a0, a1, a2, a3, a4⟩ := id XB
          obtain ⟨b0, b1, b2, b3, b4⟩ := id YB
          clear hD
          go_region_held3 (fun V => (V.cell? ⟨w4.heap.size, 0, none⟩ = some (.slice u1 um1 uc1) ∧ V.cell? ⟨w4.heap.size, 1, none⟩ = some (.slice u2 um2 uc2) ∧ V.cell? ⟨w4.heap.size, 2, none⟩ = some (.slice u3 um3 uc3) ∧ V.cell? ⟨w4.heap.size, 3, none⟩ = some (.int .i64 X1.root) ∧ V.cell? ⟨w4.heap.size, 4, none⟩ = some (.int .i64 X1.gen)) ∧ V.cell? ⟨w5.heap.size, 0, none⟩ = some (.slice s1 sm1 sc1) ∧ V.cell? ⟨w5.heap.size, 1, none⟩ = some (.slice s2 sm2 sc2) ∧ V.cell? ⟨w5.heap.size, 2, none⟩ = some (.slice s3 sm3 sc3) ∧ V.cell? ⟨w5.heap.size, 3, none⟩ = some (.int .i64 X2.root) ∧ V.cell? ⟨w5.heap.size, 4, none⟩ = some (.int .i64 X2.gen)) (first | exact ⟨XB, YB⟩) (first
            | (go_at_call 15; have _t := tk3; refine (cTX _ WX).mono ?_; rintro y w6 ⟨z1, e1, f1, g1, h1, rfl, TX, -, ⟨QX, -⟩, hb⟩; replace WI := WI.below hb; replace WB := WB.below hb; replace BP := BP.below hb; replace BQ := BQ.below hb; replace WX := WX.below hb; replace XB := XB.below hb; replace WY := WY.below hb; replace YB := YB.below hb; replace HB := Below.tr HB hb; clear x0 x1 x2 x3 x4 p0 p1 q0 q1 a0 a1 a2 a3 a4 b0 b1 b2 b3 b4; obtain ⟨x0, x1, x2, x3, x4⟩ := id WB; obtain ⟨⟨p0, p1⟩, -⟩ := id BP; obtain ⟨⟨q0, q1⟩, -⟩ := id BQ; obtain ⟨a0, a1, a2, a3, a4⟩ := id XB; obtain ⟨b0, b1, b2, b3, b4⟩ := id YB; clear hb tk3; obtain ⟨⟨s0, s1, s2, s3⟩, -⟩ := id TX)
            | (go_at_call 15; refine (cTY _ WY).mono ?_; rintro y w7 ⟨z2, e2, f2, g2, h2, rfl, TY, -, ⟨QY, -⟩, hb⟩; replace WI := WI.below hb; replace WB := WB.below hb; replace BP := BP.below hb; replace BQ := BQ.below hb; replace WX := WX.below hb; replace XB := XB.below hb; replace WY := WY.below hb; replace YB := YB.below hb; replace TX := TX.below hb; replace QX := QX.below hb; replace HB := Below.tr HB hb; clear x0 x1 x2 x3 x4 p0 p1 q0 q1 a0 a1 a2 a3 a4 b0 b1 b2 b3 b4 s0 s1 s2 s3; obtain ⟨x0, x1, x2, x3, x4⟩ := id WB; obtain ⟨⟨p0, p1⟩, -⟩ := id BP; obtain ⟨⟨q0, q1⟩, -⟩ := id BQ; obtain ⟨a0, a1, a2, a3, a4⟩ := id XB; obtain ⟨b0, b1, b2, b3, b4⟩ := id YB; obtain ⟨⟨s0, s1, s2, s3⟩, -⟩ := id TX; clear hb; obtain ⟨⟨r0, r1, r2, r3⟩, -⟩ := id TY))
          have HS4 : True := trivial
          clear cTX cTY
          obtain ⟨nx, hnx⟩ : ∃ n, Hid (n = xp.length) := ⟨_, rfl⟩
          obtain ⟨ny, hny⟩ : ∃ n, Hid (n = yp.length) := ⟨_, rfl⟩
          rw [← hnx.out] at TX s0
          rw [← hny.out] at TY r0
          by_cases hk : k1 = k2
          · subst hk
            have so := str_eq_true (rfl : k1 = k1)
            have hxp : Hid (xp = withP tp k1 v2) := by show _ = _; rw [HP1.out, with_twice HRI.out]
            have hyp : Hid (yp = withP tp k1 v1) := by show _ = _; rw [HP2.out, with_twice HRI.out]
            clear HP1 HP2
            go_wp2_with (first
              | (go_at_call 10; refine (cA _).mono ?_; rintro y w9 ⟨rfl, hb⟩; replace WI := WI.below hb; replace WB := WB.below hb; replace BP := BP.below hb; replace BQ := BQ.below hb; replace WX := WX.below hb; replace XB := XB.below hb; replace WY := WY.below hb; replace YB := YB.below hb; replace TX := TX.below hb; replace QX := QX.below hb; replace TY := TY.below hb; replace QY := QY.below hb; replace HB := Below.tr HB hb; clear x0 x1 x2 x3 x4 p0 p1 q0 q1 a0 a1 a2 a3 a4 b0 b1 b2 b3 b4 s0 s1 s2 s3 r0 r1 r2 r3; obtain ⟨x0, x1, x2, x3, x4⟩ := id WB; obtain ⟨⟨p0, p1⟩, -⟩ := id BP; obtain ⟨⟨q0, q1⟩, -⟩ := id BQ; obtain ⟨a0, a1, a2, a3, a4⟩ := id XB; obtain ⟨b0, b1, b2, b3, b4⟩ := id YB; obtain ⟨⟨s0, s1, s2, s3⟩, -⟩ := id TX; obtain ⟨⟨r0, r1, r2, r3⟩, -⟩ := id TY; clear hb))
            have hD := (Below.refl w9.heap.size w9).drew
            replace WI := WI.below hD
            replace WB := WB.below hD
            replace BP := BP.below hD
            replace BQ := BQ.below hD
            replace WX := WX.below hD
            replace XB := XB.below hD
            replace WY := WY.below hD
            replace YB := YB.below hD
            replace TX := TX.below hD
            replace QX := QX.below hD
            replace TY := TY.below hD
            replace QY := QY.below hD
            replace HB := Below.tr HB hD
            clear x0 x1 x2 x3 x4 p0 p1 q0 q1 a0 a1 a2 a3 a4 b0 b1 b2 b3 b4 s0 s1 s2 s3 r0 r1 r2 r3
            obtain ⟨x0, x1, x2, x3, x4⟩ := id WB
            obtain ⟨⟨p0, p1⟩, -⟩ := id BP
            obtain ⟨⟨q0, q1⟩, -⟩ := id BQ
            obtain ⟨a0, a1, a2, a3, a4⟩ := id XB
            obtain ⟨b0, b1, b2, b3, b4⟩ := id YB
            obtain ⟨⟨s0, s1, s2, s3⟩, -⟩ := id TX
            obtain ⟨⟨r0, r1, r2, r3⟩, -⟩ := id TY
            clear hD
            obtain ⟨nt, hnt⟩ : ∃ n, Hid (n = tp.length) := ⟨_, rfl⟩
            have cT2 : ∀ V, WoodL V a n c a' n' c' b p f G → Calls Tryz.prog 15 #[.agg #[.slice a n c, .slice a' n' c', .slice b p f, .int .i64 G.root, .int .i64 G.gen]] V fun y w' => ∃ v, y = .returned v ∧ (∃ z q d, v = .pointer (some ⟨z, 0, none⟩) ∧ w'.cell? ⟨z, 0, none⟩ = some (.slice q nt d) ∧ IsQ w' q d tp) ∧ Below V.heap.size V w' := fun V x => (cT V x).mono fun y w' hx => by
              obtain ⟨z, q, d, r, k, he, hb4, -, ⟨hQ, -⟩, hb⟩ := hx
              exact ⟨_, he, ⟨z, q, d, rfl, by rw [hnt.out]; exact hb4.1.1, hQ⟩, hb⟩
            have cW2 : ∀ V q d, IsQ V q d tp → Calls Tryz.prog 19 #[.slice q nt d, .string k1, .string v2] V fun y w' => ∃ v, y = .returned v ∧ (∃ a c, v = .slice a nx c ∧ IsQ w' a c xp) ∧ Below V.heap.size V w' := fun V q d hQ => (refWith_any q d nt tp k1 v2 V hnt.out hQ (by rw [hnt.out]; exact hlen.out) m1 m4).mono fun y w' hx => by
              obtain ⟨a', k, c', he, hk, hQ', -, hb⟩ := hx
              rw [← hxp.out] at hk hQ'
              subst hk
              exact ⟨_, he, ⟨a', c', by rw [hnx.out], hQ'⟩, hb⟩
            have cW1 : ∀ V q d, IsQ V q d tp → Calls Tryz.prog 19 #[.slice q nt d, .string k1, .string v1] V fun y w' => ∃ v, y = .returned v ∧ (∃ a c, v = .slice a ny c ∧ IsQ w' a c yp) ∧ Below V.heap.size V w' := fun V q d hQ => (refWith_any q d nt tp k1 v1 V hnt.out hQ (by rw [hnt.out]; exact hlen.out) m1 m2).mono fun y w' hx => by
              obtain ⟨a', k, c', he, hk, hQ', -, hb⟩ := hx
              rw [← hyp.out] at hk hQ'
              subst hk
              exact ⟨_, he, ⟨a', c', by rw [hny.out], hQ'⟩, hb⟩
            have cK1 : ∀ V q d, IsQ V e1 f1 xp → IsQ V q d xp → Calls Tryz.prog 18 #[.slice e1 nx f1, .slice q nx d] V fun e w' => e = .returned (.bool true) ∧ Below V.heap.size V w' := fun V q d h1 h2 => by
              have := refLikeP_any e1 q f1 d nx nx xp xp V hnx.out hnx.out h1 h2
              rw [decide_eq_true rfl] at this
              exact this
            have cK2 : ∀ V q d, IsQ V e2 f2 yp → IsQ V q d yp → Calls Tryz.prog 18 #[.slice e2 ny f2, .slice q ny d] V fun e w' => e = .returned (.bool true) ∧ Below V.heap.size V w' := fun V q d h1 h2 => by
              have := refLikeP_any e2 q f2 d ny ny yp yp V hny.out hny.out h1 h2
              rw [decide_eq_true rfl] at this
              exact this
            obtain ⟨S, S0, SF, SB⟩ : ∃ S : World → Prop, S w9.drew ∧ (∀ V, S V → (WoodBox V w.heap.size (.slice a n c) (.slice a' n' c') (.slice b p f) (.int .i64 G.root) (.int .i64 G.gen) ∧ Box2 V (w.heap.size + 1) (.string k1) (.string v1) ∧ Box2 V (w.heap.size + 1 + 1) (.string k1) (.string v2)) ∧ (V.cell? ⟨z1, 0, none⟩ = some (.slice e1 nx f1) ∧ V.cell? ⟨z2, 0, none⟩ = some (.slice e2 ny f2)) ∧ WoodL V a n c a' n' c' b p f G ∧ (IsQ V e1 f1 xp ∧ IsQ V e2 f2 yp) ∧ Below w.heap.size w V) ∧ (∀ V V', S V → Below V.heap.size V V' → S V') :=
              ⟨fun V => (WoodBox V w.heap.size (.slice a n c) (.slice a' n' c') (.slice b p f) (.int .i64 G.root) (.int .i64 G.gen) ∧ Box2 V (w.heap.size + 1) (.string k1) (.string v1) ∧ Box2 V (w.heap.size + 1 + 1) (.string k1) (.string v2)) ∧ (V.cell? ⟨z1, 0, none⟩ = some (.slice e1 nx f1) ∧ V.cell? ⟨z2, 0, none⟩ = some (.slice e2 ny f2)) ∧ WoodL V a n c a' n' c' b p f G ∧ (IsQ V e1 f1 xp ∧ IsQ V e2 f2 yp) ∧ Below w.heap.size w V, ⟨⟨WB, BP, BQ⟩, ⟨s0, r0⟩, WI, ⟨QX, QY⟩, HB⟩, fun V h => h, fun V V' h hb => ⟨⟨h.1.1.below hb, h.1.2.1.below hb, h.1.2.2.below hb⟩, ⟨cell_below hb h.2.1.1, cell_below hb h.2.1.2⟩, h.2.2.1.below hb, ⟨h.2.2.2.1.1.below hb, h.2.2.2.1.2.below hb⟩, Below.tr h.2.2.2.2 hb⟩⟩
            clear cT TX TY XB YB WB BP BQ WI WX WY QX QY HB x0 x1 x2 x3 x4 p0 p1 q0 q1 a0 a1 a2 a3 a4 b0 b1 b2 b3 b4 s0 s1 s2 s3 r0 r1 r2 r3 hxp hyp cA
            refine region_inv (by kernel_rfl) (ordV (.agg #[.slice a n c, .slice a' n' c', .slice b p f, .int .i64 G.root, .int .i64 G.gen]) w.heap.size z1 z2 e1 e2 f1 f2 nx ny nt k1 v1 v2 tp xp yp) S (fun X Y => Below X.heap.size X Y) (by kernel_rfl) ?mono S0 ?step ?done
            case mono =>
              intro i v X Y hR hV
              unfold ordV at hV ⊢
              split at hV <;> first | exact hV | (obtain ⟨z, q, d, h1, h2, h3⟩ := hV; exact ⟨z, q, d, h1, cell_below hR h2, h3.below hR⟩) | (obtain ⟨q, d, h1, h2⟩ := hV; exact ⟨q, d, h1, h2.below hR⟩)
            case done =>
              intro ac X hS hdf hsz hsame hval
              obtain ⟨_, h6, rfl⟩ := hval 32 _ 6 rfl rfl
              have HBX := (SF X hS).2.2.2.2
              clear hval hsame
              go_wp2
              refine bodyPost_ret (v := .bool true) (by simp [results, Tryz.results8, go_sem, h6]) hdf ⟨rfl, HBX⟩
            case step =>
              intro i o ho ac X hS hdf hsz hdep hsame
              obtain ⟨⟨⟨x0, x1, x2, x3, x4⟩, ⟨⟨p0, p1⟩, -⟩, ⟨⟨q0, q1⟩, -⟩⟩, ⟨s0, r0⟩, hWI, ⟨hQX, hQY⟩, hHB⟩ := SF X hS
              match i, ho with
              | 0, ho =>
                cases ho
                have h12 := hsame 12 rfl
                exact op_value rfl (wanted_free rfl) (by clear hdep hsame hsz hdf; go_simp) rfl hS (Below.refl _ _)
              | 1, ho =>
                cases ho
                obtain ⟨_, h87, rfl⟩ := hdep 0 _ 87 rfl rfl rfl
                exact op_value rfl (wanted_free rfl) (by clear hdep hsame hsz hdf; go_simp) rfl hS (Below.refl _ _)
              | 2, ho =>
                cases ho
                obtain ⟨_, h88, rfl⟩ := hdep 1 _ 88 rfl rfl rfl
                exact op_value rfl (wanted_free rfl) (by clear hdep hsame hsz hdf; go_simp) rfl hS (Below.refl _ _)
              | 3, ho =>
                cases ho
                obtain ⟨_, h89, rfl⟩ := hdep 2 _ 89 rfl rfl rfl
                exact op_value rfl (wanted_free rfl) (by clear hdep hsame hsz hdf; go_simp) rfl hS (Below.refl _ _)
              | 4, ho =>
                cases ho
                have h3 := hsame 3 rfl
                exact op_value rfl (wanted_free rfl) (by clear hdep hsame hsz hdf; go_simp) rfl hS (Below.refl _ _)
              | 5, ho =>
                cases ho
                obtain ⟨_, h91, rfl⟩ := hdep 4 _ 91 rfl rfl rfl
                exact op_call rfl (wanted_free rfl) (by clear hdep hsame hsz hdf; go_simp) ((cT2 X hWI).mono fun e w' hx => by obtain ⟨v, he, hv, hb⟩ := hx; exact ⟨v, he, hv, SB _ _ hS hb, hb⟩)
              | 6, ho =>
                cases ho
                obtain ⟨_, h92, ⟨z, q, d, rfl, hc, hQ⟩⟩ := hdep 5 _ 92 rfl rfl rfl
                exact op_value rfl (wanted_free rfl) (by clear hdep hsame hsz hdf; go_simp) ⟨z, q, d, rfl, hc, hQ⟩ hS (Below.refl _ _)
              | 7, ho =>
                cases ho
                obtain ⟨_, h93, ⟨z, q, d, rfl, hc, hQ⟩⟩ := hdep 6 _ 93 rfl rfl rfl
                exact op_value rfl (wanted_free rfl) (by clear hdep hsame hsz hdf; go_simp) ⟨z, q, d, rfl, hc, hQ⟩ hS (Below.refl _ _)
              | 8, ho =>
                cases ho
                obtain ⟨_, h94, ⟨z, q, d, rfl, hc, hQ⟩⟩ := hdep 7 _ 94 rfl rfl rfl
                exact op_value rfl (wanted_free rfl) (by clear hdep hsame hsz hdf; go_simp) ⟨q, d, rfl, hQ⟩ hS (Below.refl _ _)
              | 9, ho =>
                cases ho
                have h5 := hsame 5 rfl
                exact op_value rfl (wanted_free rfl) (by clear hdep hsame hsz hdf; go_simp) rfl hS (Below.refl _ _)
              | 10, ho =>
                cases ho
                obtain ⟨_, h96, rfl⟩ := hdep 9 _ 96 rfl rfl rfl
                exact op_value rfl (wanted_free rfl) (by clear hdep hsame hsz hdf; go_simp) rfl hS (Below.refl _ _)
              | 11, ho =>
                cases ho
                have h5 := hsame 5 rfl
                exact op_value rfl (wanted_free rfl) (by clear hdep hsame hsz hdf; go_simp) rfl hS (Below.refl _ _)
              | 12, ho =>
                cases ho
                obtain ⟨_, h98, rfl⟩ := hdep 11 _ 98 rfl rfl rfl
                exact op_value rfl (wanted_free rfl) (by clear hdep hsame hsz hdf; go_simp) rfl hS (Below.refl _ _)
              | 13, ho =>
                cases ho
                obtain ⟨_, h95, ⟨q, d, rfl, hQ⟩⟩ := hdep 8 _ 95 rfl rfl rfl
                obtain ⟨_, h97, rfl⟩ := hdep 10 _ 97 rfl rfl rfl
                obtain ⟨_, h99, rfl⟩ := hdep 12 _ 99 rfl rfl rfl
                exact op_call rfl (wanted_free rfl) (by clear hdep hsame hsz hdf; go_simp) ((cW2 X q d hQ).mono fun e w' hx => by obtain ⟨v, he, hv, hb⟩ := hx; exact ⟨v, he, hv, SB _ _ hS hb, hb⟩)
              | 14, ho =>
                cases ho
                obtain ⟨_, h90, rfl⟩ := hdep 3 _ 90 rfl rfl rfl
                obtain ⟨_, h100, ⟨q, d, rfl, hQ⟩⟩ := hdep 13 _ 100 rfl rfl rfl
                exact op_call rfl (wanted_free rfl) (by clear hdep hsame hsz hdf; go_simp) ((cK1 X q d hQX hQ).mono fun e w' hx => ⟨_, hx.1, rfl, SB _ _ hS hx.2, hx.2⟩)
              | 15, ho =>
                cases ho
                obtain ⟨_, h101, rfl⟩ := hdep 14 _ 101 rfl rfl rfl
                exact op_value rfl (wanted_free rfl) (by clear hdep hsame hsz hdf; go_simp) rfl hS (Below.refl _ _)
              | 16, ho =>
                cases ho
                obtain ⟨_, hg, rfl⟩ := hdep 15 _ 102 rfl rfl rfl
                have h13 := hsame 13 rfl
                exact op_value rfl (wanted_by 15 true 102 rfl rfl hg) (by clear hdep hsame hsz hdf; go_simp) rfl hS (Below.refl _ _)
              | 17, ho =>
                cases ho
                obtain ⟨_, hg, rfl⟩ := hdep 15 _ 102 rfl rfl rfl
                obtain ⟨_, h103, rfl⟩ := hdep 16 _ 103 rfl rfl rfl
                exact op_value rfl (wanted_by 15 true 102 rfl rfl hg) (by clear hdep hsame hsz hdf; go_simp) rfl hS (Below.refl _ _)
              | 18, ho =>
                cases ho
                obtain ⟨_, hg, rfl⟩ := hdep 15 _ 102 rfl rfl rfl
                obtain ⟨_, h104, rfl⟩ := hdep 17 _ 104 rfl rfl rfl
                exact op_value rfl (wanted_by 15 true 102 rfl rfl hg) (by clear hdep hsame hsz hdf; go_simp) rfl hS (Below.refl _ _)
              | 19, ho =>
                cases ho
                obtain ⟨_, hg, rfl⟩ := hdep 15 _ 102 rfl rfl rfl
                obtain ⟨_, h105, rfl⟩ := hdep 18 _ 105 rfl rfl rfl
                exact op_value rfl (wanted_by 15 true 102 rfl rfl hg) (by clear hdep hsame hsz hdf; go_simp) rfl hS (Below.refl _ _)
              | 20, ho =>
                cases ho
                obtain ⟨_, hg, rfl⟩ := hdep 15 _ 102 rfl rfl rfl
                have h3 := hsame 3 rfl
                exact op_value rfl (wanted_by 15 true 102 rfl rfl hg) (by clear hdep hsame hsz hdf; go_simp) rfl hS (Below.refl _ _)
              | 21, ho =>
                cases ho
                obtain ⟨_, hg, rfl⟩ := hdep 15 _ 102 rfl rfl rfl
                obtain ⟨_, h107, rfl⟩ := hdep 20 _ 107 rfl rfl rfl
                exact op_call rfl (wanted_by 15 true 102 rfl rfl hg) (by clear hdep hsame hsz hdf; go_simp) ((cT2 X hWI).mono fun e w' hx => by obtain ⟨v, he, hv, hb⟩ := hx; exact ⟨v, he, hv, SB _ _ hS hb, hb⟩)
              | 22, ho =>
                cases ho
                obtain ⟨_, hg, rfl⟩ := hdep 15 _ 102 rfl rfl rfl
                obtain ⟨_, h108, ⟨z, q, d, rfl, hc, hQ⟩⟩ := hdep 21 _ 108 rfl rfl rfl
                exact op_value rfl (wanted_by 15 true 102 rfl rfl hg) (by clear hdep hsame hsz hdf; go_simp) ⟨z, q, d, rfl, hc, hQ⟩ hS (Below.refl _ _)
              | 23, ho =>
                cases ho
                obtain ⟨_, hg, rfl⟩ := hdep 15 _ 102 rfl rfl rfl
                obtain ⟨_, h109, ⟨z, q, d, rfl, hc, hQ⟩⟩ := hdep 22 _ 109 rfl rfl rfl
                exact op_value rfl (wanted_by 15 true 102 rfl rfl hg) (by clear hdep hsame hsz hdf; go_simp) ⟨z, q, d, rfl, hc, hQ⟩ hS (Below.refl _ _)
              | 24, ho =>
                cases ho
                obtain ⟨_, hg, rfl⟩ := hdep 15 _ 102 rfl rfl rfl
                obtain ⟨_, h110, ⟨z, q, d, rfl, hc, hQ⟩⟩ := hdep 23 _ 110 rfl rfl rfl
                exact op_value rfl (wanted_by 15 true 102 rfl rfl hg) (by clear hdep hsame hsz hdf; go_simp) ⟨q, d, rfl, hQ⟩ hS (Below.refl _ _)
              | 25, ho =>
                cases ho
                obtain ⟨_, hg, rfl⟩ := hdep 15 _ 102 rfl rfl rfl
                have h4 := hsame 4 rfl
                exact op_value rfl (wanted_by 15 true 102 rfl rfl hg) (by clear hdep hsame hsz hdf; go_simp) rfl hS (Below.refl _ _)
              | 26, ho =>
                cases ho
                obtain ⟨_, hg, rfl⟩ := hdep 15 _ 102 rfl rfl rfl
                obtain ⟨_, h112, rfl⟩ := hdep 25 _ 112 rfl rfl rfl
                exact op_value rfl (wanted_by 15 true 102 rfl rfl hg) (by clear hdep hsame hsz hdf; go_simp) rfl hS (Below.refl _ _)
              | 27, ho =>
                cases ho
                obtain ⟨_, hg, rfl⟩ := hdep 15 _ 102 rfl rfl rfl
                have h4 := hsame 4 rfl
                exact op_value rfl (wanted_by 15 true 102 rfl rfl hg) (by clear hdep hsame hsz hdf; go_simp) rfl hS (Below.refl _ _)
              | 28, ho =>
                cases ho
                obtain ⟨_, hg, rfl⟩ := hdep 15 _ 102 rfl rfl rfl
                obtain ⟨_, h114, rfl⟩ := hdep 27 _ 114 rfl rfl rfl
                exact op_value rfl (wanted_by 15 true 102 rfl rfl hg) (by clear hdep hsame hsz hdf; go_simp) rfl hS (Below.refl _ _)
              | 29, ho =>
                cases ho
                obtain ⟨_, hg, rfl⟩ := hdep 15 _ 102 rfl rfl rfl
                obtain ⟨_, h111, ⟨q, d, rfl, hQ⟩⟩ := hdep 24 _ 111 rfl rfl rfl
                obtain ⟨_, h113, rfl⟩ := hdep 26 _ 113 rfl rfl rfl
                obtain ⟨_, h115, rfl⟩ := hdep 28 _ 115 rfl rfl rfl
                exact op_call rfl (wanted_by 15 true 102 rfl rfl hg) (by clear hdep hsame hsz hdf; go_simp) ((cW1 X q d hQ).mono fun e w' hx => by obtain ⟨v, he, hv, hb⟩ := hx; exact ⟨v, he, hv, SB _ _ hS hb, hb⟩)
              | 30, ho =>
                cases ho
                obtain ⟨_, hg, rfl⟩ := hdep 15 _ 102 rfl rfl rfl
                obtain ⟨_, h106, rfl⟩ := hdep 19 _ 106 rfl rfl rfl
                obtain ⟨_, h116, ⟨q, d, rfl, hQ⟩⟩ := hdep 29 _ 116 rfl rfl rfl
                exact op_call rfl (wanted_by 15 true 102 rfl rfl hg) (by clear hdep hsame hsz hdf; go_simp) ((cK2 X q d hQY hQ).mono fun e w' hx => ⟨_, hx.1, rfl, SB _ _ hS hx.2, hx.2⟩)
              | 31, ho =>
                cases ho
                obtain ⟨_, h102, rfl⟩ := hdep 15 _ 102 rfl rfl rfl
                obtain ⟨_, h117, rfl⟩ := hdep 30 _ 117 rfl rfl rfl
                exact op_value rfl (wanted_free rfl) (by clear hdep hsame hsz hdf; go_simp) rfl hS (Below.refl _ _)
              | 32, ho =>
                cases ho
                obtain ⟨_, h118, rfl⟩ := hdep 31 _ 118 rfl rfl rfl
                exact op_value rfl (wanted_free rfl) (by clear hdep hsame hsz hdf; go_simp) rfl hS (Below.refl _ _)
              | k + 33, ho => simp at ho
          · have so := str_eq_false hk
            obtain rfl : xp = yp := by rw [HP1.out, HP2.out]; exact with_comm HRI.out hk v1 v2
            obtain rfl : nx = ny := by rw [hnx.out, hny.out]
            have cK : ∀ V, IsQ V e1 f1 xp → IsQ V e2 f2 xp → Calls Tryz.prog 18 #[.slice e1 nx f1, .slice e2 nx f2] V fun e w' => e = .returned (.bool true) ∧ Below V.heap.size V w' := fun V h1 h2 => by
              have := refLikeP_any e1 e2 f1 f2 nx nx xp xp V hnx.out hnx.out h1 h2
              rw [decide_eq_true rfl] at this
              exact this
            clear hk HP1 HP2
            go_wp2_with (first
              | (go_at_call 10; refine (cA _).mono ?_; rintro y w9 ⟨rfl, hb⟩; replace WI := WI.below hb; replace WB := WB.below hb; replace BP := BP.below hb; replace BQ := BQ.below hb; replace WX := WX.below hb; replace XB := XB.below hb; replace WY := WY.below hb; replace YB := YB.below hb; replace TX := TX.below hb; replace QX := QX.below hb; replace TY := TY.below hb; replace QY := QY.below hb; replace HB := Below.tr HB hb; clear x0 x1 x2 x3 x4 p0 p1 q0 q1 a0 a1 a2 a3 a4 b0 b1 b2 b3 b4 s0 s1 s2 s3 r0 r1 r2 r3; obtain ⟨x0, x1, x2, x3, x4⟩ := id WB; obtain ⟨⟨p0, p1⟩, -⟩ := id BP; obtain ⟨⟨q0, q1⟩, -⟩ := id BQ; obtain ⟨a0, a1, a2, a3, a4⟩ := id XB; obtain ⟨b0, b1, b2, b3, b4⟩ := id YB; obtain ⟨⟨s0, s1, s2, s3⟩, -⟩ := id TX; obtain ⟨⟨r0, r1, r2, r3⟩, -⟩ := id TY; clear hb))
            have hD := (Below.refl w9.heap.size w9).drew
            replace WI := WI.below hD
            replace WB := WB.below hD
            replace BP := BP.below hD
            replace BQ := BQ.below hD
            replace WX := WX.below hD
            replace XB := XB.below hD
            replace WY := WY.below hD
            replace YB := YB.below hD
            replace TX := TX.below hD
            replace QX := QX.below hD
            replace TY := TY.below hD
            replace QY := QY.below hD
            replace HB := Below.tr HB hD
            clear x0 x1 x2 x3 x4 p0 p1 q0 q1 a0 a1 a2 a3 a4 b0 b1 b2 b3 b4 s0 s1 s2 s3 r0 r1 r2 r3
            obtain ⟨x0, x1, x2, x3, x4⟩ := id WB
            obtain ⟨⟨p0, p1⟩, -⟩ := id BP
            obtain ⟨⟨q0, q1⟩, -⟩ := id BQ
            obtain ⟨a0, a1, a2, a3, a4⟩ := id XB
            obtain ⟨b0, b1, b2, b3, b4⟩ := id YB
            obtain ⟨⟨s0, s1, s2, s3⟩, -⟩ := id TX
            obtain ⟨⟨r0, r1, r2, r3⟩, -⟩ := id TY
            clear hD
            go_region_held3 (fun V => V.cell? ⟨z1, 0, none⟩ = some (.slice e1 nx f1) ∧ V.cell? ⟨z2, 0, none⟩ = some (.slice e2 nx f2)) (first | exact ⟨s0, r0⟩) (first
              | (go_at_call 18; refine (cK _ QX QY).mono ?_; rintro y w10 ⟨rfl, hb⟩; replace HB := Below.tr HB hb; replace s0 := cell_below hb s0; replace r0 := cell_below hb r0; clear hb))
            go_wp2
            go_ret
            exact ⟨rfl, HB⟩
        · have cO1 : ∀ V, Box2 V (w.heap.size + 1) (.string k1) (.string v1) → Box2 V (w.heap.size + 1 + 1) (.string k2) (.string v2) → Calls Tryz.prog 24 #[.int .i64 E1, .pointer (some ⟨w.heap.size + 1, 0, none⟩), .pointer (some ⟨w.heap.size + 1 + 1, 0, none⟩)] V fun e w' => e = .returned (.bool true) ∧ Below V.heap.size V w' := fun V h1 h2 => okTold_any E1 _ _ k1 v1 k2 v2 V h1 h2 m1 m2 m3 m4 (t1.elim (fun h => .inl h.1) fun h => h.2.elim (fun h => .inr (.inl h)) fun h => .inr (.inr h))
          have cO2 : ∀ V, Box2 V (w.heap.size + 1) (.string k1) (.string v1) → Box2 V (w.heap.size + 1 + 1) (.string k2) (.string v2) → Calls Tryz.prog 24 #[.int .i64 E2, .pointer (some ⟨w.heap.size + 1, 0, none⟩), .pointer (some ⟨w.heap.size + 1 + 1, 0, none⟩)] V fun e w' => e = .returned (.bool true) ∧ Below V.heap.size V w' := fun V h1 h2 => okTold_any E2 _ _ k1 v1 k2 v2 V h1 h2 m1 m2 m3 m4 (t2.elim (fun h => .inl h.1) fun h => h.2.elim (fun h => .inr (.inl h)) fun h => .inr (.inr ⟨h.1, (Bool.and_comm _ _).trans h.2⟩))
          clear t1 t2 hris hlen
          by_cases h1 : E1 = 0
          · subst h1
            have h2 : (E2 != 0) = true := by simpa using fun h => hz ⟨rfl, h⟩
            clear hz
            go_enter Tryz.func8, Tryz.ntmps8
            go_wp2_with (first
              | (go_at_call 9; rw [← hW]; refine (cS).mono ?_; rintro y w1 ⟨rfl, hb⟩; replace WI := WI.below hb; replace WB := WB.below hb; replace BP := BP.below hb; replace BQ := BQ.below hb; replace HB := Below.tr HB hb; clear x0 x1 x2 x3 x4 p0 p1 q0 q1; obtain ⟨x0, x1, x2, x3, x4⟩ := id WB; obtain ⟨⟨p0, p1⟩, -⟩ := id BP; obtain ⟨⟨q0, q1⟩, -⟩ := id BQ; clear hb)
              | (go_at_call 12; refine (cR _ WI).mono ?_; rintro y w2 ⟨rfl, hb⟩; replace WI := WI.below hb; replace WB := WB.below hb; replace BP := BP.below hb; replace BQ := BQ.below hb; replace HB := Below.tr HB hb; clear x0 x1 x2 x3 x4 p0 p1 q0 q1; obtain ⟨x0, x1, x2, x3, x4⟩ := id WB; obtain ⟨⟨p0, p1⟩, -⟩ := id BP; obtain ⟨⟨q0, q1⟩, -⟩ := id BQ; clear hb)
              | (go_at_call 15; refine (cT _ WI).mono ?_; rintro y w3 ⟨z, q, d, r, k, rfl, ⟨⟨t0, t1, t2, t3⟩, -⟩, -, -, hb⟩; replace WI := WI.below hb; replace WB := WB.below hb; replace BP := BP.below hb; replace BQ := BQ.below hb; replace HB := Below.tr HB hb; clear x0 x1 x2 x3 x4 p0 p1 q0 q1; obtain ⟨x0, x1, x2, x3, x4⟩ := id WB; obtain ⟨⟨p0, p1⟩, -⟩ := id BP; obtain ⟨⟨q0, q1⟩, -⟩ := id BQ; clear hb)
              | (go_at_call 21; have _t := tk1; refine (cL1 _ WI).mono ?_; rintro y w4 ⟨u1, um1, uc1, u2, um2, uc2, u3, um3, uc3, rfl, WX, hb0⟩; have hA : Below w4.heap.size w4 (w4.alloc (.cells #[.slice u1 um1 uc1, .slice u2 um2 uc2, .slice u3 um3 uc3, .int .i64 X1.root, .int .i64 X1.gen] 27)) := (Below.refl _ _).alloc (Nat.le_refl _) _; have hb := Below.tr hb0 hA; replace WX := WX.below hA; have XB := woodBox_new w4 (.slice u1 um1 uc1) (.slice u2 um2 uc2) (.slice u3 um3 uc3) (.int .i64 X1.root) (.int .i64 X1.gen) 27 rfl; replace WI := WI.below hb; replace WB := WB.below hb; replace BP := BP.below hb; replace BQ := BQ.below hb; replace HB := Below.tr HB hb; clear x0 x1 x2 x3 x4 p0 p1 q0 q1; obtain ⟨x0, x1, x2, x3, x4⟩ := id WB; obtain ⟨⟨p0, p1⟩, -⟩ := id BP; obtain ⟨⟨q0, q1⟩, -⟩ := id BQ; clear hb hb0 hA tk1 t0 t1 t2 t3; obtain ⟨a0, a1, a2, a3, a4⟩ := id XB)
              | (go_at_call 21; have _t := tk2; refine (cL2 _ _ WI).mono ?_; rintro y w5 ⟨s1, sm1, sc1, s2, sm2, sc2, s3, sm3, sc3, rfl, WY, hb0⟩; have hA : Below w5.heap.size w5 (w5.alloc (.cells #[.slice s1 sm1 sc1, .slice s2 sm2 sc2, .slice s3 sm3 sc3, .int .i64 X2.root, .int .i64 X2.gen] 27)) := (Below.refl _ _).alloc (Nat.le_refl _) _; have hb := Below.tr hb0 hA; replace WY := WY.below hA; have YB := woodBox_new w5 (.slice s1 sm1 sc1) (.slice s2 sm2 sc2) (.slice s3 sm3 sc3) (.int .i64 X2.root) (.int .i64 X2.gen) 27 rfl; replace WI := WI.below hb; replace WB := WB.below hb; replace BP := BP.below hb; replace BQ := BQ.below hb; replace WX := WX.below hb; replace XB := XB.below hb; replace HB := Below.tr HB hb; clear x0 x1 x2 x3 x4 p0 p1 q0 q1 a0 a1 a2 a3 a4; obtain ⟨x0, x1, x2, x3, x4⟩ := id WB; obtain ⟨⟨p0, p1⟩, -⟩ := id BP; obtain ⟨⟨q0, q1⟩, -⟩ := id BQ; obtain ⟨a0, a1, a2, a3, a4⟩ := id XB; clear hb hb0 hA tk2; obtain ⟨b0, b1, b2, b3, b4⟩ := id YB)
              | (go_at_call 10; refine (cA _).mono ?_; rintro y w9 ⟨rfl, hb⟩; replace WI := WI.below hb; replace WB := WB.below hb; replace BP := BP.below hb; replace BQ := BQ.below hb; replace WX := WX.below hb; replace XB := XB.below hb; replace WY := WY.below hb; replace YB := YB.below hb; replace HB := Below.tr HB hb; clear x0 x1 x2 x3 x4 p0 p1 q0 q1 a0 a1 a2 a3 a4 b0 b1 b2 b3 b4; obtain ⟨x0, x1, x2, x3, x4⟩ := id WB; obtain ⟨⟨p0, p1⟩, -⟩ := id BP; obtain ⟨⟨q0, q1⟩, -⟩ := id BQ; obtain ⟨a0, a1, a2, a3, a4⟩ := id XB; obtain ⟨b0, b1, b2, b3, b4⟩ := id YB; clear hb)
              | (go_at_call 24; have _t := tk3; refine (cO1 _ BP BQ).mono ?_; rintro y w8 ⟨rfl, hb⟩; replace WI := WI.below hb; replace WB := WB.below hb; replace BP := BP.below hb; replace BQ := BQ.below hb; replace WX := WX.below hb; replace XB := XB.below hb; replace WY := WY.below hb; replace YB := YB.below hb; replace HB := Below.tr HB hb; clear x0 x1 x2 x3 x4 p0 p1 q0 q1 a0 a1 a2 a3 a4 b0 b1 b2 b3 b4; obtain ⟨x0, x1, x2, x3, x4⟩ := id WB; obtain ⟨⟨p0, p1⟩, -⟩ := id BP; obtain ⟨⟨q0, q1⟩, -⟩ := id BQ; obtain ⟨a0, a1, a2, a3, a4⟩ := id XB; obtain ⟨b0, b1, b2, b3, b4⟩ := id YB; clear hb tk3)
              | (go_at_call 24; refine (cO2 _ BP BQ).mono ?_; rintro y w8 ⟨rfl, hb⟩; replace HB := Below.tr HB hb; clear hb))
            go_ret
            exact ⟨rfl, HB⟩
          · have h2 : (E1 != 0) = true := by simpa using h1
            clear hz h1
            go_enter Tryz.func8, Tryz.ntmps8
            go_wp2_with (first
              | (go_at_call 9; rw [← hW]; refine (cS).mono ?_; rintro y w1 ⟨rfl, hb⟩; replace WI := WI.below hb; replace WB := WB.below hb; replace BP := BP.below hb; replace BQ := BQ.below hb; replace HB := Below.tr HB hb; clear x0 x1 x2 x3 x4 p0 p1 q0 q1; obtain ⟨x0, x1, x2, x3, x4⟩ := id WB; obtain ⟨⟨p0, p1⟩, -⟩ := id BP; obtain ⟨⟨q0, q1⟩, -⟩ := id BQ; clear hb)
              | (go_at_call 12; refine (cR _ WI).mono ?_; rintro y w2 ⟨rfl, hb⟩; replace WI := WI.below hb; replace WB := WB.below hb; replace BP := BP.below hb; replace BQ := BQ.below hb; replace HB := Below.tr HB hb; clear x0 x1 x2 x3 x4 p0 p1 q0 q1; obtain ⟨x0, x1, x2, x3, x4⟩ := id WB; obtain ⟨⟨p0, p1⟩, -⟩ := id BP; obtain ⟨⟨q0, q1⟩, -⟩ := id BQ; clear hb)
              | (go_at_call 15; refine (cT _ WI).mono ?_; rintro y w3 ⟨z, q, d, r, k, rfl, ⟨⟨t0, t1, t2, t3⟩, -⟩, -, -, hb⟩; replace WI := WI.below hb; replace WB := WB.below hb; replace BP := BP.below hb; replace BQ := BQ.below hb; replace HB := Below.tr HB hb; clear x0 x1 x2 x3 x4 p0 p1 q0 q1; obtain ⟨x0, x1, x2, x3, x4⟩ := id WB; obtain ⟨⟨p0, p1⟩, -⟩ := id BP; obtain ⟨⟨q0, q1⟩, -⟩ := id BQ; clear hb)
              | (go_at_call 21; have _t := tk1; refine (cL1 _ WI).mono ?_; rintro y w4 ⟨u1, um1, uc1, u2, um2, uc2, u3, um3, uc3, rfl, WX, hb0⟩; have hA : Below w4.heap.size w4 (w4.alloc (.cells #[.slice u1 um1 uc1, .slice u2 um2 uc2, .slice u3 um3 uc3, .int .i64 X1.root, .int .i64 X1.gen] 27)) := (Below.refl _ _).alloc (Nat.le_refl _) _; have hb := Below.tr hb0 hA; replace WX := WX.below hA; have XB := woodBox_new w4 (.slice u1 um1 uc1) (.slice u2 um2 uc2) (.slice u3 um3 uc3) (.int .i64 X1.root) (.int .i64 X1.gen) 27 rfl; replace WI := WI.below hb; replace WB := WB.below hb; replace BP := BP.below hb; replace BQ := BQ.below hb; replace HB := Below.tr HB hb; clear x0 x1 x2 x3 x4 p0 p1 q0 q1; obtain ⟨x0, x1, x2, x3, x4⟩ := id WB; obtain ⟨⟨p0, p1⟩, -⟩ := id BP; obtain ⟨⟨q0, q1⟩, -⟩ := id BQ; clear hb hb0 hA tk1 t0 t1 t2 t3; obtain ⟨a0, a1, a2, a3, a4⟩ := id XB)
              | (go_at_call 21; have _t := tk2; refine (cL2 _ _ WI).mono ?_; rintro y w5 ⟨s1, sm1, sc1, s2, sm2, sc2, s3, sm3, sc3, rfl, WY, hb0⟩; have hA : Below w5.heap.size w5 (w5.alloc (.cells #[.slice s1 sm1 sc1, .slice s2 sm2 sc2, .slice s3 sm3 sc3, .int .i64 X2.root, .int .i64 X2.gen] 27)) := (Below.refl _ _).alloc (Nat.le_refl _) _; have hb := Below.tr hb0 hA; replace WY := WY.below hA; have YB := woodBox_new w5 (.slice s1 sm1 sc1) (.slice s2 sm2 sc2) (.slice s3 sm3 sc3) (.int .i64 X2.root) (.int .i64 X2.gen) 27 rfl; replace WI := WI.below hb; replace WB := WB.below hb; replace BP := BP.below hb; replace BQ := BQ.below hb; replace WX := WX.below hb; replace XB := XB.below hb; replace HB := Below.tr HB hb; clear x0 x1 x2 x3 x4 p0 p1 q0 q1 a0 a1 a2 a3 a4; obtain ⟨x0, x1, x2, x3, x4⟩ := id WB; obtain ⟨⟨p0, p1⟩, -⟩ := id BP; obtain ⟨⟨q0, q1⟩, -⟩ := id BQ; obtain ⟨a0, a1, a2, a3, a4⟩ := id XB; clear hb hb0 hA tk2; obtain ⟨b0, b1, b2, b3, b4⟩ := id YB)
              | (go_at_call 10; refine (cA _).mono ?_; rintro y w9 ⟨rfl, hb⟩; replace WI := WI.below hb; replace WB := WB.below hb; replace BP := BP.below hb; replace BQ := BQ.below hb; replace WX := WX.below hb; replace XB := XB.below hb; replace WY := WY.below hb; replace YB := YB.below hb; replace HB := Below.tr HB hb; clear x0 x1 x2 x3 x4 p0 p1 q0 q1 a0 a1 a2 a3 a4 b0 b1 b2 b3 b4; obtain ⟨x0, x1, x2, x3, x4⟩ := id WB; obtain ⟨⟨p0, p1⟩, -⟩ := id BP; obtain ⟨⟨q0, q1⟩, -⟩ := id BQ; obtain ⟨a0, a1, a2, a3, a4⟩ := id XB; obtain ⟨b0, b1, b2, b3, b4⟩ := id YB; clear hb)
              | (go_at_call 24; have _t := tk3; refine (cO1 _ BP BQ).mono ?_; rintro y w8 ⟨rfl, hb⟩; replace WI := WI.below hb; replace WB := WB.below hb; replace BP := BP.below hb; replace BQ := BQ.below hb; replace WX := WX.below hb; replace XB := XB.below hb; replace WY := WY.below hb; replace YB := YB.below hb; replace HB := Below.tr HB hb; clear x0 x1 x2 x3 x4 p0 p1 q0 q1 a0 a1 a2 a3 a4 b0 b1 b2 b3 b4; obtain ⟨x0, x1, x2, x3, x4⟩ := id WB; obtain ⟨⟨p0, p1⟩, -⟩ := id BP; obtain ⟨⟨q0, q1⟩, -⟩ := id BQ; obtain ⟨a0, a1, a2, a3, a4⟩ := id XB; obtain ⟨b0, b1, b2, b3, b4⟩ := id YB; clear hb tk3)
              | (go_at_call 24; refine (cO2 _ BP BQ).mono ?_; rintro y w8 ⟨rfl, hb⟩; replace HB := Below.tr HB hb; clear hb))
            go_ret
            exact ⟨rfl, HB⟩

end Go.Proofs.YtaecfbfcjaailaaGreat


/-
  The walk through the statement GrowPuts.
-/
import Derived.Test.YtaecfbfcjaailaaGreatBpF
import Derived.Test.YtaecfbfcjaailaaGreatBpG
namespace Go.Proofs.YtaecfbfcjaailaaGreat
open Go.RowKit Plain
set_option linter.unusedVariables false

theorem right_lens3 {G : WoodS} (h : G.right = true) : G.base.length = G.now.length ∧ G.now.length = G.now.length ∧ G.pages.length = G.now.length :=
  ⟨((rightA_iff _ _).1 (right_ok.1 h).1.alloc).1, rfl, (right_ok.1 h).1.len⟩

theorem loose_keeps {G X : WoodS} (h : Loose G X) (hp : X.pages.length = G.pages.length) : KeepsG ⟨G.base, X.now, G.pages, 0, G.gen⟩ X [] [] :=
  ⟨h.base, h.gen, rfl, hp, fun b => ⟨fun x => .inl ⟨x, by simp⟩, fun x => x.elim (fun y => y.1) fun y => by cases y⟩, h.based, fun b hb => by cases hb⟩

theorem tree_height {G : WoodS} (hb : G.tree.bad = false) : 0 ≤ G.tree.height ∧ G.tree.height ≤ 8 := by
  by_cases hr : G.root = 0
  · have e : G.tree = TreeS.none := by unfold WoodS.tree treeS; rw [if_pos hr]
    rw [e]
    decide
  · obtain ⟨ht, Q, B, h1, h8, hT, hn, e⟩ := root_tree hr hb
    rw [e]
    show (0 : Int) ≤ ht ∧ (ht : Int) ≤ 8
    omega

/-- What Put tells. -/
theorem put_told {G : WoodS} (hr : G.right = true) (key val : ByteArray) :
    (isPairB key val = false ∧ allR G [(key, val)] = (1, WoodS.none)) ∨ isPairB key val = true ∧ ((∃ E, allR G [(key, val)] = (E, WoodS.none) ∧ ((E = 60 ∧ (G.tree.bad = false → (G.free : Int) < 2 * G.tree.height + 1)) ∨ (E = 81 ∧ G.tree.bad = true))) ∨ ((putG G key val).1 = 0 ∧ (putG G key val).2.right = true ∧ Loose G (putG G key val).2)) := by
  rcases put_loose hr key val with ⟨h1, h2⟩ | ⟨hp, h1 | h1⟩
  · left
    refine ⟨h2, ?_⟩
    rw [allR_one, if_pos hr, h1]
    rfl
  · right
    refine ⟨hp, .inl ⟨(putG G key val).1, ?_, ?_⟩⟩
    · rw [allR_one, if_pos hr, if_neg (by omega)]
    · rcases h1 with h1 | h1
      · left
        refine ⟨h1, fun hb => ?_⟩
        rcases put_tree hr hb hp with h2 | ⟨G', h2, _⟩
        · exact h2.2
        · rw [h2] at h1
          have h3 : (0 : Int) = 60 := h1
          omega
      · right
        refine ⟨h1, ?_⟩
        cases hb : G.tree.bad with
        | true => rfl
        | false =>
          rcases put_tree hr hb hp with h2 | ⟨G', h2, _⟩
          · rw [h2.1] at h1
            exact absurd h1 (by decide)
          · rw [h2] at h1
            have h3 : (0 : Int) = 81 := h1
            omega
  · right
    exact ⟨hp, .inr h1⟩

set_option maxRecDepth 20000 in
set_option maxHeartbeats 4000000 in
theorem growPuts_walk (a : Option Addr) (c : Nat) (bs : List Bool) (a' : Option Addr) (c' : Nat) (ns : List Bool) (b : Option Addr) (f : Nat) (ps : List ByteArray) (root gen : Int) (key val : ByteArray) (w : World) (hB : IsB w a c bs) (hB' : IsB w a' c' ns) (hP : IsS w b f ps) (_h1 : (Lit.int .i64 root).wf = true) (_h2 : (Lit.int .i64 gen).wf = true) (mk : key.size ≤ maxLen) (mv : val.size ≤ maxLen) :
    Calls Tryz.prog 3 #[.agg #[.slice a bs.length c, .slice a' ns.length c', .slice b ps.length f, .int .i64 root, .int .i64 gen], .string key, .string val] w fun e w' => e = .returned (.bool true) ∧ Below w.heap.size w w' := by
  obtain ⟨G, hG⟩ : ∃ G : WoodS, G = ⟨bs, ns, ps, root, gen⟩ := ⟨_, rfl⟩
  obtain ⟨n, hn⟩ : ∃ n, n = bs.length := ⟨_, rfl⟩
  obtain ⟨n', hn'⟩ : ∃ n, n = ns.length := ⟨_, rfl⟩
  obtain ⟨p, hp⟩ : ∃ n, n = ps.length := ⟨_, rfl⟩
  have e1 : root = G.root := by rw [hG]
  have e2 : gen = G.gen := by rw [hG]
  rw [← hn, ← hn', ← hp, e1, e2]
  obtain ⟨W, hW⟩ : ∃ W, W = w.alloc (.cells #[.slice a n c, .slice a' n' c', .slice b p f, .int .i64 G.root, .int .i64 G.gen] 27) := ⟨_, rfl⟩
  have HB : Below w.heap.size w W := by rw [hW]; exact (Below.refl _ _).alloc (Nat.le_refl _) _
  have WI : WoodL W a n c a' n' c' b p f G := by rw [hG]; exact ⟨hn, hn', hp, hB.below HB, hB'.below HB, hP.below HB⟩
  have WB : WoodBox W w.heap.size (.slice a n c) (.slice a' n' c') (.slice b p f) (.int .i64 G.root) (.int .i64 G.gen) := by rw [hW]; exact woodBox_new _ _ _ _ _ _ _ rfl
  have cA := alive09_any
  have cS := WI.small
  have cR : ∀ V, WoodL V a n c a' n' c' b p f G → Calls Tryz.prog 12 #[.agg #[.slice a n c, .slice a' n' c', .slice b p f, .int .i64 G.root, .int .i64 G.gen]] V fun e w' => e = .returned (.bool G.right) ∧ Below V.heap.size V w' := fun V x => x.right
  have cT : ∀ V, WoodL V a n c a' n' c' b p f G → Calls Tryz.prog 15 #[.agg #[.slice a n c, .slice a' n' c', .slice b p f, .int .i64 G.root, .int .i64 G.gen]] V fun y w' => TreeD V y w' G.tree := fun V x => x.treeD
  have cP0 : ∀ V, WoodL V a n c a' n' c' b p f G → Calls Tryz.prog 11 #[.agg #[.slice a n c, .slice a' n' c', .slice b p f, .int .i64 G.root, .int .i64 G.gen], .string key, .string val] V fun e w' => PutC V e w' (allR G [(key, val)]) := fun V x => x.put key val mk mv
  have cI : ∀ V, Calls Tryz.prog 13 #[.string key, .string val] V fun e w' => e = .returned (.bool (isPairB key val)) ∧ Below V.heap.size V w' := fun V => isPair_any key val V mk mv
  clear e1 e2 hn hn' hp hG hB hB' hP _h1 _h2
  have tk1 : True := trivial
  have tk2 : True := trivial
  cases hs : (decide (n' ≤ 300) && decide (p ≤ 300)) with
  | false =>
    rw [hs] at cS
    obtain ⟨x0, x1, x2, x3, x4⟩ := id (hW ▸ WB)
    clear cR cT cP0 cI hs
    go_enter Tryz.func3, Tryz.ntmps3
    go_wp2_with (first
      | (go_at_call 9; rw [← hW]; refine (cS).mono ?_; rintro y w1 ⟨rfl, hb⟩; replace WI := WI.below hb; replace WB := WB.below hb; replace HB := Below.tr HB hb; clear x0 x1 x2 x3 x4; obtain ⟨x0, x1, x2, x3, x4⟩ := id WB; clear hb)
      | (go_at_call 10; refine (cA _).mono ?_; rintro y w9 ⟨rfl, hb⟩; replace HB := Below.tr HB hb; clear hb))
    go_ret
    exact ⟨rfl, HB⟩
  | true =>
    rw [hs] at cS
    cases hr : G.right with
    | false =>
      rw [hr] at cR
      have hR : allR G [(key, val)] = (1, WoodS.none) := by unfold allR; rw [hr]; rfl
      have cP := cP0
      rw [hR] at cP
      obtain ⟨rG, hrG⟩ : ∃ g, g = WoodS.none := ⟨_, rfl⟩
      have cNo : ∀ V (b1 : Option Addr) (m1 c1 : Nat) (b2 : Option Addr) (m2 c2 : Nat) (b3 : Option Addr) (m3 c3 : Nat), WoodL V b1 m1 c1 b2 m2 c2 b3 m3 c3 rG → Calls Tryz.prog 14 #[.agg #[.slice b1 m1 c1, .slice b2 m2 c2, .slice b3 m3 c3, .int .i64 rG.root, .int .i64 rG.gen]] V fun e w' => e = .returned (.bool true) ∧ Below V.heap.size V w' := fun V b1 m1 c1 b2 m2 c2 b3 m3 c3 x => by
        subst hrG
        obtain ⟨q1, q2, q3, q4⟩ := id x
        have q1' : m1 = 0 := q1
        have q2' : m2 = 0 := q2
        have q3' : m3 = 0 := q3
        subst q1' q2' q3'
        exact none09_any b1 b2 b3 c1 c2 c3 V x
      rw [← hrG] at cP
      clear hrG
      obtain ⟨x0, x1, x2, x3, x4⟩ := id (hW ▸ WB)
      clear hr cT hR cP0 hs
      go_enter Tryz.func3, Tryz.ntmps3
      go_wp2_with (first
        | (go_at_call 9; rw [← hW]; refine (cS).mono ?_; rintro y w1 ⟨rfl, hb⟩; replace WI := WI.below hb; replace WB := WB.below hb; replace HB := Below.tr HB hb; clear x0 x1 x2 x3 x4; obtain ⟨x0, x1, x2, x3, x4⟩ := id WB; clear hb)
        | (go_at_call 11; refine (cP _ WI).mono ?_; rintro y w4 ⟨b1, m1, c1, b2, m2, c2, b3, m3, c3, rfl, WX, hb0⟩; have hA : Below w4.heap.size w4 (w4.alloc (.cells #[.slice b1 m1 c1, .slice b2 m2 c2, .slice b3 m3 c3, .int .i64 rG.root, .int .i64 rG.gen] 27)) := (Below.refl _ _).alloc (Nat.le_refl _) _; have hb := Below.tr hb0 hA; replace WX := WX.below hA; have XB := woodBox_new w4 (.slice b1 m1 c1) (.slice b2 m2 c2) (.slice b3 m3 c3) (.int .i64 rG.root) (.int .i64 rG.gen) 27 rfl; replace WI := WI.below hb; replace WB := WB.below hb; replace HB := Below.tr HB hb; clear x0 x1 x2 x3 x4; obtain ⟨x0, x1, x2, x3, x4⟩ := id WB; clear hb hb0 hA; obtain ⟨a0, a1, a2, a3, a4⟩ := id XB)
        | (go_at_call 12; have _t := tk1; refine (cR _ WI).mono ?_; rintro y w2 ⟨rfl, hb⟩; replace WI := WI.below hb; replace WB := WB.below hb; replace WX := WX.below hb; replace XB := XB.below hb; replace HB := Below.tr HB hb; clear x0 x1 x2 x3 x4 a0 a1 a2 a3 a4; obtain ⟨x0, x1, x2, x3, x4⟩ := id WB; obtain ⟨a0, a1, a2, a3, a4⟩ := id XB; clear hb tk1)
        | (go_at_call 10; refine (cA _).mono ?_; rintro y w9 ⟨rfl, hb⟩; replace WI := WI.below hb; replace WB := WB.below hb; replace WX := WX.below hb; replace XB := XB.below hb; replace HB := Below.tr HB hb; clear x0 x1 x2 x3 x4 a0 a1 a2 a3 a4; obtain ⟨x0, x1, x2, x3, x4⟩ := id WB; obtain ⟨a0, a1, a2, a3, a4⟩ := id XB; clear hb)
        | (go_at_call 14; refine (cNo _ _ _ _ _ _ _ _ _ _ WX).mono ?_; rintro y w8 ⟨rfl, hb⟩; replace HB := Below.tr HB hb; clear hb))
      go_ret
      exact ⟨rfl, HB⟩
    | true =>
      rw [hr] at cR
      have hsm : n' ≤ 300 := by simp at hs; exact hs.1
      obtain ⟨l1, -, l3⟩ := right_lens3 hr
      obtain rfl : n = n' := by rw [WI.1, WI.2.1, l1]
      obtain rfl : n = p := by rw [WI.2.2.1, l3]; exact WI.2.1
      obtain ⟨x0, x1, x2, x3, x4⟩ := id (hW ▸ WB)
      clear l1 l3 hs
      rcases put_told hr key val with ⟨hp, hR⟩ | ⟨hp, ⟨E, hR, hE⟩ | ⟨hz, hrx, hlo⟩⟩
      · have cP := cP0
        rw [hR] at cP
        rw [hp] at cI
        obtain ⟨rG, hrG⟩ : ∃ g, g = WoodS.none := ⟨_, rfl⟩
        have cNo : ∀ V (b1 : Option Addr) (m1 c1 : Nat) (b2 : Option Addr) (m2 c2 : Nat) (b3 : Option Addr) (m3 c3 : Nat), WoodL V b1 m1 c1 b2 m2 c2 b3 m3 c3 rG → Calls Tryz.prog 14 #[.agg #[.slice b1 m1 c1, .slice b2 m2 c2, .slice b3 m3 c3, .int .i64 rG.root, .int .i64 rG.gen]] V fun e w' => e = .returned (.bool true) ∧ Below V.heap.size V w' := fun V b1 m1 c1 b2 m2 c2 b3 m3 c3 x => by
          subst hrG
          obtain ⟨q1, q2, q3, q4⟩ := id x
          have q1' : m1 = 0 := q1
          have q2' : m2 = 0 := q2
          have q3' : m3 = 0 := q3
          subst q1' q2' q3'
          exact none09_any b1 b2 b3 c1 c2 c3 V x
        rw [← hrG] at cP
        clear hrG
        clear hr cT hR cP0 hp hsm
        go_enter Tryz.func3, Tryz.ntmps3
        go_wp2_with (first
          | (go_at_call 9; rw [← hW]; refine (cS).mono ?_; rintro y w1 ⟨rfl, hb⟩; replace WI := WI.below hb; replace WB := WB.below hb; replace HB := Below.tr HB hb; clear x0 x1 x2 x3 x4; obtain ⟨x0, x1, x2, x3, x4⟩ := id WB; clear hb)
          | (go_at_call 11; refine (cP _ WI).mono ?_; rintro y w4 ⟨b1, m1, c1, b2, m2, c2, b3, m3, c3, rfl, WX, hb0⟩; have hA : Below w4.heap.size w4 (w4.alloc (.cells #[.slice b1 m1 c1, .slice b2 m2 c2, .slice b3 m3 c3, .int .i64 rG.root, .int .i64 rG.gen] 27)) := (Below.refl _ _).alloc (Nat.le_refl _) _; have hb := Below.tr hb0 hA; replace WX := WX.below hA; have XB := woodBox_new w4 (.slice b1 m1 c1) (.slice b2 m2 c2) (.slice b3 m3 c3) (.int .i64 rG.root) (.int .i64 rG.gen) 27 rfl; replace WI := WI.below hb; replace WB := WB.below hb; replace HB := Below.tr HB hb; clear x0 x1 x2 x3 x4; obtain ⟨x0, x1, x2, x3, x4⟩ := id WB; clear hb hb0 hA; obtain ⟨a0, a1, a2, a3, a4⟩ := id XB)
          | (go_at_call 12; have _t := tk1; refine (cR _ WI).mono ?_; rintro y w2 ⟨rfl, hb⟩; replace WI := WI.below hb; replace WB := WB.below hb; replace WX := WX.below hb; replace XB := XB.below hb; replace HB := Below.tr HB hb; clear x0 x1 x2 x3 x4 a0 a1 a2 a3 a4; obtain ⟨x0, x1, x2, x3, x4⟩ := id WB; obtain ⟨a0, a1, a2, a3, a4⟩ := id XB; clear hb tk1)
          | (go_at_call 13; refine (cI _).mono ?_; rintro y w3 ⟨rfl, hb⟩; replace WI := WI.below hb; replace WB := WB.below hb; replace WX := WX.below hb; replace XB := XB.below hb; replace HB := Below.tr HB hb; clear x0 x1 x2 x3 x4 a0 a1 a2 a3 a4; obtain ⟨x0, x1, x2, x3, x4⟩ := id WB; obtain ⟨a0, a1, a2, a3, a4⟩ := id XB; clear hb)
          | (go_at_call 10; refine (cA _).mono ?_; rintro y w9 ⟨rfl, hb⟩; replace WI := WI.below hb; replace WB := WB.below hb; replace WX := WX.below hb; replace XB := XB.below hb; replace HB := Below.tr HB hb; clear x0 x1 x2 x3 x4 a0 a1 a2 a3 a4; obtain ⟨x0, x1, x2, x3, x4⟩ := id WB; obtain ⟨a0, a1, a2, a3, a4⟩ := id XB; clear hb)
          | (go_at_call 14; refine (cNo _ _ _ _ _ _ _ _ _ _ WX).mono ?_; rintro y w8 ⟨rfl, hb⟩; replace HB := Below.tr HB hb; clear hb))
        go_ret
        exact ⟨rfl, HB⟩
      · have cP := cP0
        rw [hR] at cP
        rw [hp] at cI
        obtain ⟨rG, hrG⟩ : ∃ g, g = WoodS.none := ⟨_, rfl⟩
        have cNo : ∀ V (b1 : Option Addr) (m1 c1 : Nat) (b2 : Option Addr) (m2 c2 : Nat) (b3 : Option Addr) (m3 c3 : Nat), WoodL V b1 m1 c1 b2 m2 c2 b3 m3 c3 rG → Calls Tryz.prog 14 #[.agg #[.slice b1 m1 c1, .slice b2 m2 c2, .slice b3 m3 c3, .int .i64 rG.root, .int .i64 rG.gen]] V fun e w' => e = .returned (.bool true) ∧ Below V.heap.size V w' := fun V b1 m1 c1 b2 m2 c2 b3 m3 c3 x => by
          subst hrG
          obtain ⟨q1, q2, q3, q4⟩ := id x
          have q1' : m1 = 0 := q1
          have q2' : m2 = 0 := q2
          have q3' : m3 = 0 := q3
          subst q1' q2' q3'
          exact none09_any b1 b2 b3 c1 c2 c3 V x
        rw [← hrG] at cP
        clear hrG
        have cF : ∀ V, WoodL V a n c a' n c' b n f G → Calls Tryz.prog 16 #[.agg #[.slice a n c, .slice a' n c']] V fun e w' => e = .returned (.int .i64 (G.free : Nat)) ∧ Below V.heap.size V w' := fun V x => by rw [← free_told hr]; exact allocRefFree_any a a' c c' n n G.base G.now V x.1 x.2.1 x.2.2.2.1 x.2.2.2.2.1
        have hth := tree_height (G := G)
        generalize G.free = fr at *
        obtain ⟨T, hT⟩ : ∃ T, T = G.tree := ⟨_, rfl⟩
        rw [← hT] at cT hE hth
        obtain ⟨tp, tb, th, tbad⟩ := T
        simp only at hE hth
        clear hr hR cP0 hp hsm hT
        rcases hE with ⟨rfl, hE⟩ | ⟨rfl, rfl⟩
        · cases tbad with
          | true =>
            clear hE hth
            go_enter Tryz.func3, Tryz.ntmps3
            go_wp2_with (first
              | (go_at_call 9; rw [← hW]; refine (cS).mono ?_; rintro y w1 ⟨rfl, hb⟩; replace WI := WI.below hb; replace WB := WB.below hb; replace HB := Below.tr HB hb; clear x0 x1 x2 x3 x4; obtain ⟨x0, x1, x2, x3, x4⟩ := id WB; clear hb)
              | (go_at_call 11; refine (cP _ WI).mono ?_; rintro y w4 ⟨b1, m1, c1, b2, m2, c2, b3, m3, c3, rfl, WX, hb0⟩; have hA : Below w4.heap.size w4 (w4.alloc (.cells #[.slice b1 m1 c1, .slice b2 m2 c2, .slice b3 m3 c3, .int .i64 rG.root, .int .i64 rG.gen] 27)) := (Below.refl _ _).alloc (Nat.le_refl _) _; have hb := Below.tr hb0 hA; replace WX := WX.below hA; have XB := woodBox_new w4 (.slice b1 m1 c1) (.slice b2 m2 c2) (.slice b3 m3 c3) (.int .i64 rG.root) (.int .i64 rG.gen) 27 rfl; replace WI := WI.below hb; replace WB := WB.below hb; replace HB := Below.tr HB hb; clear x0 x1 x2 x3 x4; obtain ⟨x0, x1, x2, x3, x4⟩ := id WB; clear hb hb0 hA; obtain ⟨a0, a1, a2, a3, a4⟩ := id XB)
              | (go_at_call 12; have _t := tk1; refine (cR _ WI).mono ?_; rintro y w2 ⟨rfl, hb⟩; replace WI := WI.below hb; replace WB := WB.below hb; replace WX := WX.below hb; replace XB := XB.below hb; replace HB := Below.tr HB hb; clear x0 x1 x2 x3 x4 a0 a1 a2 a3 a4; obtain ⟨x0, x1, x2, x3, x4⟩ := id WB; obtain ⟨a0, a1, a2, a3, a4⟩ := id XB; clear hb tk1)
              | (go_at_call 13; refine (cI _).mono ?_; rintro y w3 ⟨rfl, hb⟩; replace WI := WI.below hb; replace WB := WB.below hb; replace WX := WX.below hb; replace XB := XB.below hb; replace HB := Below.tr HB hb; clear x0 x1 x2 x3 x4 a0 a1 a2 a3 a4; obtain ⟨x0, x1, x2, x3, x4⟩ := id WB; obtain ⟨a0, a1, a2, a3, a4⟩ := id XB; clear hb)
              | (go_at_call 15; have _t := tk2; refine (cT _ WI).mono ?_; rintro y w5 ⟨z, q, d, r, k, rfl, TB, -, ⟨QT, IT⟩, hb⟩; replace WI := WI.below hb; replace WB := WB.below hb; replace WX := WX.below hb; replace XB := XB.below hb; replace HB := Below.tr HB hb; clear x0 x1 x2 x3 x4 a0 a1 a2 a3 a4; obtain ⟨x0, x1, x2, x3, x4⟩ := id WB; obtain ⟨a0, a1, a2, a3, a4⟩ := id XB; clear hb tk2; obtain ⟨⟨t0, t1, t2, t3⟩, -⟩ := id TB)
              | (go_at_call 16; refine (cF _ WI).mono ?_; rintro y w6 ⟨rfl, hb⟩; replace WI := WI.below hb; replace WB := WB.below hb; replace WX := WX.below hb; replace XB := XB.below hb; replace TB := TB.below hb; replace QT := QT.below hb; replace IT := IT.below hb; replace HB := Below.tr HB hb; clear x0 x1 x2 x3 x4 a0 a1 a2 a3 a4 t0 t1 t2 t3; obtain ⟨x0, x1, x2, x3, x4⟩ := id WB; obtain ⟨a0, a1, a2, a3, a4⟩ := id XB; obtain ⟨⟨t0, t1, t2, t3⟩, -⟩ := id TB; clear hb)
              | (go_at_call 10; refine (cA _).mono ?_; rintro y w9 ⟨rfl, hb⟩; replace WI := WI.below hb; replace WB := WB.below hb; replace WX := WX.below hb; replace XB := XB.below hb; replace TB := TB.below hb; replace QT := QT.below hb; replace IT := IT.below hb; replace HB := Below.tr HB hb; clear x0 x1 x2 x3 x4 a0 a1 a2 a3 a4 t0 t1 t2 t3; obtain ⟨x0, x1, x2, x3, x4⟩ := id WB; obtain ⟨a0, a1, a2, a3, a4⟩ := id XB; obtain ⟨⟨t0, t1, t2, t3⟩, -⟩ := id TB; clear hb)
              | (go_at_call 14; refine (cNo _ _ _ _ _ _ _ _ _ _ WX).mono ?_; rintro y w8 ⟨rfl, hb⟩; replace WI := WI.below hb; replace WB := WB.below hb; replace WX := WX.below hb; replace XB := XB.below hb; replace TB := TB.below hb; replace QT := QT.below hb; replace IT := IT.below hb; replace HB := Below.tr HB hb; clear x0 x1 x2 x3 x4 a0 a1 a2 a3 a4 t0 t1 t2 t3; obtain ⟨x0, x1, x2, x3, x4⟩ := id WB; obtain ⟨a0, a1, a2, a3, a4⟩ := id XB; obtain ⟨⟨t0, t1, t2, t3⟩, -⟩ := id TB; clear hb))
            go_ret
            exact ⟨rfl, HB⟩
          | false =>
            obtain ⟨h1, h2⟩ := hth rfl
            have h3 := hE rfl
            have w1 : IntKind.i64.wrap (2 * th) = 2 * th := i64_in _ (by omega) (by omega)
            have w2 : IntKind.i64.wrap (2 * th + 1) = 2 * th + 1 := i64_in _ (by omega) (by omega)
            clear hE hth h1 h2
            go_enter Tryz.func3, Tryz.ntmps3
            go_wp2_with (first
              | (go_at_call 9; rw [← hW]; refine (cS).mono ?_; rintro y w1 ⟨rfl, hb⟩; replace WI := WI.below hb; replace WB := WB.below hb; replace HB := Below.tr HB hb; clear x0 x1 x2 x3 x4; obtain ⟨x0, x1, x2, x3, x4⟩ := id WB; clear hb)
              | (go_at_call 11; refine (cP _ WI).mono ?_; rintro y w4 ⟨b1, m1, c1, b2, m2, c2, b3, m3, c3, rfl, WX, hb0⟩; have hA : Below w4.heap.size w4 (w4.alloc (.cells #[.slice b1 m1 c1, .slice b2 m2 c2, .slice b3 m3 c3, .int .i64 rG.root, .int .i64 rG.gen] 27)) := (Below.refl _ _).alloc (Nat.le_refl _) _; have hb := Below.tr hb0 hA; replace WX := WX.below hA; have XB := woodBox_new w4 (.slice b1 m1 c1) (.slice b2 m2 c2) (.slice b3 m3 c3) (.int .i64 rG.root) (.int .i64 rG.gen) 27 rfl; replace WI := WI.below hb; replace WB := WB.below hb; replace HB := Below.tr HB hb; clear x0 x1 x2 x3 x4; obtain ⟨x0, x1, x2, x3, x4⟩ := id WB; clear hb hb0 hA; obtain ⟨a0, a1, a2, a3, a4⟩ := id XB)
              | (go_at_call 12; have _t := tk1; refine (cR _ WI).mono ?_; rintro y w2 ⟨rfl, hb⟩; replace WI := WI.below hb; replace WB := WB.below hb; replace WX := WX.below hb; replace XB := XB.below hb; replace HB := Below.tr HB hb; clear x0 x1 x2 x3 x4 a0 a1 a2 a3 a4; obtain ⟨x0, x1, x2, x3, x4⟩ := id WB; obtain ⟨a0, a1, a2, a3, a4⟩ := id XB; clear hb tk1)
              | (go_at_call 13; refine (cI _).mono ?_; rintro y w3 ⟨rfl, hb⟩; replace WI := WI.below hb; replace WB := WB.below hb; replace WX := WX.below hb; replace XB := XB.below hb; replace HB := Below.tr HB hb; clear x0 x1 x2 x3 x4 a0 a1 a2 a3 a4; obtain ⟨x0, x1, x2, x3, x4⟩ := id WB; obtain ⟨a0, a1, a2, a3, a4⟩ := id XB; clear hb)
              | (go_at_call 15; have _t := tk2; refine (cT _ WI).mono ?_; rintro y w5 ⟨z, q, d, r, k, rfl, TB, -, ⟨QT, IT⟩, hb⟩; replace WI := WI.below hb; replace WB := WB.below hb; replace WX := WX.below hb; replace XB := XB.below hb; replace HB := Below.tr HB hb; clear x0 x1 x2 x3 x4 a0 a1 a2 a3 a4; obtain ⟨x0, x1, x2, x3, x4⟩ := id WB; obtain ⟨a0, a1, a2, a3, a4⟩ := id XB; clear hb tk2; obtain ⟨⟨t0, t1, t2, t3⟩, -⟩ := id TB)
              | (go_at_call 16; refine (cF _ WI).mono ?_; rintro y w6 ⟨rfl, hb⟩; replace WI := WI.below hb; replace WB := WB.below hb; replace WX := WX.below hb; replace XB := XB.below hb; replace TB := TB.below hb; replace QT := QT.below hb; replace IT := IT.below hb; replace HB := Below.tr HB hb; clear x0 x1 x2 x3 x4 a0 a1 a2 a3 a4 t0 t1 t2 t3; obtain ⟨x0, x1, x2, x3, x4⟩ := id WB; obtain ⟨a0, a1, a2, a3, a4⟩ := id XB; obtain ⟨⟨t0, t1, t2, t3⟩, -⟩ := id TB; clear hb)
              | (go_at_call 10; refine (cA _).mono ?_; rintro y w9 ⟨rfl, hb⟩; replace WI := WI.below hb; replace WB := WB.below hb; replace WX := WX.below hb; replace XB := XB.below hb; replace TB := TB.below hb; replace QT := QT.below hb; replace IT := IT.below hb; replace HB := Below.tr HB hb; clear x0 x1 x2 x3 x4 a0 a1 a2 a3 a4 t0 t1 t2 t3; obtain ⟨x0, x1, x2, x3, x4⟩ := id WB; obtain ⟨a0, a1, a2, a3, a4⟩ := id XB; obtain ⟨⟨t0, t1, t2, t3⟩, -⟩ := id TB; clear hb)
              | (go_at_call 14; refine (cNo _ _ _ _ _ _ _ _ _ _ WX).mono ?_; rintro y w8 ⟨rfl, hb⟩; replace WI := WI.below hb; replace WB := WB.below hb; replace WX := WX.below hb; replace XB := XB.below hb; replace TB := TB.below hb; replace QT := QT.below hb; replace IT := IT.below hb; replace HB := Below.tr HB hb; clear x0 x1 x2 x3 x4 a0 a1 a2 a3 a4 t0 t1 t2 t3; obtain ⟨x0, x1, x2, x3, x4⟩ := id WB; obtain ⟨a0, a1, a2, a3, a4⟩ := id XB; obtain ⟨⟨t0, t1, t2, t3⟩, -⟩ := id TB; clear hb))
            go_ret
            exact ⟨rfl, HB⟩
        · clear hth
          go_enter Tryz.func3, Tryz.ntmps3
          go_wp2_with (first
            | (go_at_call 9; rw [← hW]; refine (cS).mono ?_; rintro y w1 ⟨rfl, hb⟩; replace WI := WI.below hb; replace WB := WB.below hb; replace HB := Below.tr HB hb; clear x0 x1 x2 x3 x4; obtain ⟨x0, x1, x2, x3, x4⟩ := id WB; clear hb)
            | (go_at_call 11; refine (cP _ WI).mono ?_; rintro y w4 ⟨b1, m1, c1, b2, m2, c2, b3, m3, c3, rfl, WX, hb0⟩; have hA : Below w4.heap.size w4 (w4.alloc (.cells #[.slice b1 m1 c1, .slice b2 m2 c2, .slice b3 m3 c3, .int .i64 rG.root, .int .i64 rG.gen] 27)) := (Below.refl _ _).alloc (Nat.le_refl _) _; have hb := Below.tr hb0 hA; replace WX := WX.below hA; have XB := woodBox_new w4 (.slice b1 m1 c1) (.slice b2 m2 c2) (.slice b3 m3 c3) (.int .i64 rG.root) (.int .i64 rG.gen) 27 rfl; replace WI := WI.below hb; replace WB := WB.below hb; replace HB := Below.tr HB hb; clear x0 x1 x2 x3 x4; obtain ⟨x0, x1, x2, x3, x4⟩ := id WB; clear hb hb0 hA; obtain ⟨a0, a1, a2, a3, a4⟩ := id XB)
            | (go_at_call 12; have _t := tk1; refine (cR _ WI).mono ?_; rintro y w2 ⟨rfl, hb⟩; replace WI := WI.below hb; replace WB := WB.below hb; replace WX := WX.below hb; replace XB := XB.below hb; replace HB := Below.tr HB hb; clear x0 x1 x2 x3 x4 a0 a1 a2 a3 a4; obtain ⟨x0, x1, x2, x3, x4⟩ := id WB; obtain ⟨a0, a1, a2, a3, a4⟩ := id XB; clear hb tk1)
            | (go_at_call 13; refine (cI _).mono ?_; rintro y w3 ⟨rfl, hb⟩; replace WI := WI.below hb; replace WB := WB.below hb; replace WX := WX.below hb; replace XB := XB.below hb; replace HB := Below.tr HB hb; clear x0 x1 x2 x3 x4 a0 a1 a2 a3 a4; obtain ⟨x0, x1, x2, x3, x4⟩ := id WB; obtain ⟨a0, a1, a2, a3, a4⟩ := id XB; clear hb)
            | (go_at_call 15; have _t := tk2; refine (cT _ WI).mono ?_; rintro y w5 ⟨z, q, d, r, k, rfl, TB, -, ⟨QT, IT⟩, hb⟩; replace WI := WI.below hb; replace WB := WB.below hb; replace WX := WX.below hb; replace XB := XB.below hb; replace HB := Below.tr HB hb; clear x0 x1 x2 x3 x4 a0 a1 a2 a3 a4; obtain ⟨x0, x1, x2, x3, x4⟩ := id WB; obtain ⟨a0, a1, a2, a3, a4⟩ := id XB; clear hb tk2; obtain ⟨⟨t0, t1, t2, t3⟩, -⟩ := id TB)
            | (go_at_call 16; refine (cF _ WI).mono ?_; rintro y w6 ⟨rfl, hb⟩; replace WI := WI.below hb; replace WB := WB.below hb; replace WX := WX.below hb; replace XB := XB.below hb; replace TB := TB.below hb; replace QT := QT.below hb; replace IT := IT.below hb; replace HB := Below.tr HB hb; clear x0 x1 x2 x3 x4 a0 a1 a2 a3 a4 t0 t1 t2 t3; obtain ⟨x0, x1, x2, x3, x4⟩ := id WB; obtain ⟨a0, a1, a2, a3, a4⟩ := id XB; obtain ⟨⟨t0, t1, t2, t3⟩, -⟩ := id TB; clear hb)
            | (go_at_call 10; refine (cA _).mono ?_; rintro y w9 ⟨rfl, hb⟩; replace WI := WI.below hb; replace WB := WB.below hb; replace WX := WX.below hb; replace XB := XB.below hb; replace TB := TB.below hb; replace QT := QT.below hb; replace IT := IT.below hb; replace HB := Below.tr HB hb; clear x0 x1 x2 x3 x4 a0 a1 a2 a3 a4 t0 t1 t2 t3; obtain ⟨x0, x1, x2, x3, x4⟩ := id WB; obtain ⟨a0, a1, a2, a3, a4⟩ := id XB; obtain ⟨⟨t0, t1, t2, t3⟩, -⟩ := id TB; clear hb)
            | (go_at_call 14; refine (cNo _ _ _ _ _ _ _ _ _ _ WX).mono ?_; rintro y w8 ⟨rfl, hb⟩; replace WI := WI.below hb; replace WB := WB.below hb; replace WX := WX.below hb; replace XB := XB.below hb; replace TB := TB.below hb; replace QT := QT.below hb; replace IT := IT.below hb; replace HB := Below.tr HB hb; clear x0 x1 x2 x3 x4 a0 a1 a2 a3 a4 t0 t1 t2 t3; obtain ⟨x0, x1, x2, x3, x4⟩ := id WB; obtain ⟨a0, a1, a2, a3, a4⟩ := id XB; obtain ⟨⟨t0, t1, t2, t3⟩, -⟩ := id TB; clear hb))
          go_ret
          exact ⟨rfl, HB⟩
      · rw [hp] at cI
        obtain ⟨X, hX⟩ : ∃ X, X = (putG G key val).2 := ⟨_, rfl⟩
        have hR : allR G [(key, val)] = (0, X) := by rw [allR_one, if_pos hr, if_pos hz, ← hX, ← hz]
        rw [hR] at cP0
        have hXr : X.right = true := by rw [hX]; exact hrx
        have hXl : Loose G X := by rw [hX]; exact hlo
        have hXn : X.base.length = n ∧ X.now.length = n ∧ X.pages.length = n := by
          obtain ⟨e1, e2, e3⟩ := right_lens3 hXr
          have := hXl.len
          have := WI.2.1
          exact ⟨by omega, by omega, by omega⟩
        have cP : ∀ V, WoodL V a n c a' n c' b n f G → Calls Tryz.prog 11 #[.agg #[.slice a n c, .slice a' n c', .slice b n f, .int .i64 G.root, .int .i64 G.gen], .string key, .string val] V fun e w' => ∃ b1 c1 b2 c2 b3 c3, e = .returned (.tuple #[.agg #[.slice b1 n c1, .slice b2 n c2, .slice b3 n c3, .int .i64 X.root, .int .i64 X.gen], .int .i64 0]) ∧ WoodL w' b1 n c1 b2 n c2 b3 n c3 X ∧ Below V.heap.size V w' := fun V x => (cP0 V x).mono fun e w' hx => by
          obtain ⟨b1, m1, c1, b2, m2, c2, b3, m3, c3, h1, h2, h3⟩ := hx
          obtain ⟨e1, e2, e3, -⟩ := id h2
          obtain rfl : m1 = n := e1.trans hXn.1
          obtain rfl : m2 = m1 := e2.trans hXn.2.1
          obtain rfl : m3 = m2 := e3.trans hXn.2.2
          exact ⟨b1, c1, b2, c2, b3, c3, h1, h2, h3⟩
        have cRX : ∀ V {b1 : Option Addr} {c1 : Nat} {b2 : Option Addr} {c2 : Nat} {b3 : Option Addr} {c3 : Nat}, WoodL V b1 n c1 b2 n c2 b3 n c3 X → Calls Tryz.prog 12 #[.agg #[.slice b1 n c1, .slice b2 n c2, .slice b3 n c3, .int .i64 X.root, .int .i64 X.gen]] V fun e w' => e = .returned (.bool true) ∧ Below V.heap.size V w' := fun V b1 c1 b2 c2 b3 c3 x => by have := x.right; rw [hXr] at this; exact this
        have cK1 : ∀ V {b1 : Option Addr} {c1 : Nat} {b2 : Option Addr} {c2 : Nat} {b3 : Option Addr} {c3 : Nat}, WoodL V a n c a' n c' b n f G → WoodL V b1 n c1 b2 n c2 b3 n c3 X → Calls Tryz.prog 17 #[.agg #[.slice a n c, .slice b2 n c2, .slice b n f, .int .i64 0, .int .i64 G.gen], .agg #[.slice b1 n c1, .slice b2 n c2, .slice b3 n c3, .int .i64 X.root, .int .i64 X.gen], .slice none 0 0, .slice none 0 0] V fun e w' => e = .returned (.bool true) ∧ Below V.heap.size V w' := fun V b1 c1 b2 c2 b3 c3 x y =>
          refKeeps_true a b2 b b1 b2 b3 n c c2 f c1 c2 c3 none none 0 0 0 0 ⟨G.base, X.now, G.pages, 0, G.gen⟩ X [] [] V ⟨x.1, y.2.1, x.2.2.1, x.2.2.2.1, y.2.2.2.2.1, x.2.2.2.2.2⟩ y (isI_nil _) (isI_nil _) (loose_keeps hXl (by rw [hXn.2.2]; exact x.2.2.1)) (fun b hb => by cases hb) rfl rfl
        cases hb : G.tree.bad with
        | true =>
          obtain ⟨T, hT⟩ : ∃ T, T = G.tree := ⟨_, rfl⟩
          rw [← hT] at cT hb
          obtain ⟨tp, tb, th, tbad⟩ := T
          simp only at hb
          subst hb
          clear hr cP0 hp hsm hT hX hR hXr hXl hXn hz hrx hlo
          go_enter Tryz.func3, Tryz.ntmps3
          go_wp2_with (first
            | (go_at_call 9; rw [← hW]; refine (cS).mono ?_; rintro y w1 ⟨rfl, hb⟩; replace WI := WI.below hb; replace WB := WB.below hb; replace HB := Below.tr HB hb; clear x0 x1 x2 x3 x4; obtain ⟨x0, x1, x2, x3, x4⟩ := id WB; clear hb)
            | (go_at_call 11; refine (cP _ WI).mono ?_; rintro y w4 ⟨b1, c1, b2, c2, b3, c3, rfl, WX, hb0⟩; have hA : Below w4.heap.size w4 (w4.alloc (.cells #[.slice b1 n c1, .slice b2 n c2, .slice b3 n c3, .int .i64 X.root, .int .i64 X.gen] 27)) := (Below.refl _ _).alloc (Nat.le_refl _) _; have hb := Below.tr hb0 hA; replace WX := WX.below hA; have XB := woodBox_new w4 (.slice b1 n c1) (.slice b2 n c2) (.slice b3 n c3) (.int .i64 X.root) (.int .i64 X.gen) 27 rfl; replace WI := WI.below hb; replace WB := WB.below hb; replace HB := Below.tr HB hb; clear x0 x1 x2 x3 x4; obtain ⟨x0, x1, x2, x3, x4⟩ := id WB; clear hb hb0 hA; obtain ⟨a0, a1, a2, a3, a4⟩ := id XB)
            | (go_at_call 12; have _t := tk1; refine (cR _ WI).mono ?_; rintro y w2 ⟨rfl, hb⟩; replace WI := WI.below hb; replace WB := WB.below hb; replace WX := WX.below hb; replace XB := XB.below hb; replace HB := Below.tr HB hb; clear x0 x1 x2 x3 x4 a0 a1 a2 a3 a4; obtain ⟨x0, x1, x2, x3, x4⟩ := id WB; obtain ⟨a0, a1, a2, a3, a4⟩ := id XB; clear hb tk1)
            | (go_at_call 13; refine (cI _).mono ?_; rintro y w3 ⟨rfl, hb⟩; replace WI := WI.below hb; replace WB := WB.below hb; replace WX := WX.below hb; replace XB := XB.below hb; replace HB := Below.tr HB hb; clear x0 x1 x2 x3 x4 a0 a1 a2 a3 a4; obtain ⟨x0, x1, x2, x3, x4⟩ := id WB; obtain ⟨a0, a1, a2, a3, a4⟩ := id XB; clear hb)
            | (go_at_call 15; have _t := tk2; refine (cT _ WI).mono ?_; rintro y w5 ⟨z, q, d, r, k, rfl, TB, -, ⟨QT, IT⟩, hb⟩; replace WI := WI.below hb; replace WB := WB.below hb; replace WX := WX.below hb; replace XB := XB.below hb; replace HB := Below.tr HB hb; clear x0 x1 x2 x3 x4 a0 a1 a2 a3 a4; obtain ⟨x0, x1, x2, x3, x4⟩ := id WB; obtain ⟨a0, a1, a2, a3, a4⟩ := id XB; clear hb tk2; obtain ⟨⟨t0, t1, t2, t3⟩, -⟩ := id TB)
            | (go_at_call 12; refine (cRX _ WX).mono ?_; rintro y w6 ⟨rfl, hb⟩; replace WI := WI.below hb; replace WB := WB.below hb; replace WX := WX.below hb; replace XB := XB.below hb; replace TB := TB.below hb; replace QT := QT.below hb; replace IT := IT.below hb; replace HB := Below.tr HB hb; clear x0 x1 x2 x3 x4 a0 a1 a2 a3 a4 t0 t1 t2 t3; obtain ⟨x0, x1, x2, x3, x4⟩ := id WB; obtain ⟨a0, a1, a2, a3, a4⟩ := id XB; obtain ⟨⟨t0, t1, t2, t3⟩, -⟩ := id TB; clear hb)
            | (go_at_call 17; refine (cK1 _ WI WX).mono ?_; rintro y w7 ⟨rfl, hb⟩; replace WI := WI.below hb; replace WB := WB.below hb; replace WX := WX.below hb; replace XB := XB.below hb; replace TB := TB.below hb; replace QT := QT.below hb; replace IT := IT.below hb; replace HB := Below.tr HB hb; clear x0 x1 x2 x3 x4 a0 a1 a2 a3 a4 t0 t1 t2 t3; obtain ⟨x0, x1, x2, x3, x4⟩ := id WB; obtain ⟨a0, a1, a2, a3, a4⟩ := id XB; obtain ⟨⟨t0, t1, t2, t3⟩, -⟩ := id TB; clear hb)
            | (go_at_call 10; refine (cA _).mono ?_; rintro y w9 ⟨rfl, hb⟩; replace WI := WI.below hb; replace WB := WB.below hb; replace WX := WX.below hb; replace XB := XB.below hb; replace TB := TB.below hb; replace QT := QT.below hb; replace IT := IT.below hb; replace HB := Below.tr HB hb; clear x0 x1 x2 x3 x4 a0 a1 a2 a3 a4 t0 t1 t2 t3; obtain ⟨x0, x1, x2, x3, x4⟩ := id WB; obtain ⟨a0, a1, a2, a3, a4⟩ := id XB; obtain ⟨⟨t0, t1, t2, t3⟩, -⟩ := id TB; clear hb))
          go_ret
          exact ⟨rfl, HB⟩
        | false =>
          obtain ⟨hYb, hYp, hK⟩ : X.tree.bad = false ∧ X.tree.pairs = withP G.tree.pairs key val ∧ KeepsG G X G.tree.blocks X.tree.blocks := by
            rcases put_tree hr hb hp with ⟨h2, _⟩ | ⟨G', h2, h3, h4, h5, h6⟩
            · rw [h2] at hz
              exact absurd hz (by decide)
            · obtain rfl : X = G' := by rw [hX, h2]
              exact ⟨h4, h5, h6⟩
          have hin : ∀ x ∈ X.tree.blocks, 0 ≤ x ∧ x < (n : Int) := fun x hx => by
            have h2 := (tree_blocks hYb).2 x hx
            have h3 := hXn.2.1
            omega
          have hcnt := tree_count hr
          have cTX : ∀ V {b1 : Option Addr} {c1 : Nat} {b2 : Option Addr} {c2 : Nat} {b3 : Option Addr} {c3 : Nat}, WoodL V b1 n c1 b2 n c2 b3 n c3 X → Calls Tryz.prog 15 #[.agg #[.slice b1 n c1, .slice b2 n c2, .slice b3 n c3, .int .i64 X.root, .int .i64 X.gen]] V fun y w' => TreeD V y w' X.tree := fun V _ _ _ _ _ _ x => x.treeD
          obtain ⟨T, hT⟩ : ∃ T, T = G.tree := ⟨_, rfl⟩
          obtain ⟨Y, hY⟩ : ∃ T, T = X.tree := ⟨_, rfl⟩
          rw [← hT] at cT hb hK hYp hcnt
          rw [← hY] at cTX hYb hYp hK hin
          obtain ⟨tp, tb, th, tbad⟩ := T
          obtain ⟨yp, yb, yh, ybad⟩ := Y
          simp only at hb hYb hYp hK hin hcnt
          subst hb hYb
          obtain ⟨lp, hlp⟩ : ∃ l, Hid (l = tp.length) := ⟨_, rfl⟩
          obtain ⟨lb, hlb⟩ : ∃ l, Hid (l = tb.length) := ⟨_, rfl⟩
          obtain ⟨ly, hly⟩ : ∃ l, Hid (l = yp.length) := ⟨_, rfl⟩
          obtain ⟨lyb, hlyb⟩ : ∃ l, Hid (l = yb.length) := ⟨_, rfl⟩
          have cK2 : ∀ V (b1 : Option Addr) (c1 : Nat) (b2 : Option Addr) (c2 : Nat) (b3 : Option Addr) (c3 : Nat) (o : Option Addr) (oc : Nat) (q : Option Addr) (qc : Nat), WoodL V a n c a' n c' b n f G → WoodL V b1 n c1 b2 n c2 b3 n c3 X → IsI V o oc tb → IsI V q qc yb → Calls Tryz.prog 17 #[.agg #[.slice a n c, .slice a' n c', .slice b n f, .int .i64 G.root, .int .i64 G.gen], .agg #[.slice b1 n c1, .slice b2 n c2, .slice b3 n c3, .int .i64 X.root, .int .i64 X.gen], .slice o lb oc, .slice q lyb qc] V fun e w' => e = .returned (.bool true) ∧ Below V.heap.size V w' := fun V b1 c1 b2 c2 b3 c3 o oc q qc x y h1 h2 =>
            refKeeps_true a a' b b1 b2 b3 n c c' f c1 c2 c3 o q lb oc lyb qc G X tb yb V x y h1 h2 hK hin hlb.out hlyb.out
          have cW : ∀ V (q : Option Addr) (d : Nat), IsQ V q d tp → Calls Tryz.prog 19 #[.slice q lp d, .string key, .string val] V fun y w' => ∃ a c, y = .returned (.slice a ly c) ∧ IsQ w' a c yp ∧ Below V.heap.size V w' := fun V q d hQ => (refWith_any q d lp tp key val V hlp.out hQ (by rw [hlp.out]; omega) mk mv).mono fun y w' hx => by
            obtain ⟨a', k, c', he, hk, hQ', -, hb⟩ := hx
            rw [← hYp] at hk hQ'
            rw [← hly.out] at hk
            subst hk
            exact ⟨a', c', he, hQ', hb⟩
          have cL : ∀ V (e1 : Option Addr) (f1 : Nat) (e2 : Option Addr) (f2 : Nat), IsQ V e1 f1 yp → IsQ V e2 f2 yp → Calls Tryz.prog 18 #[.slice e1 ly f1, .slice e2 ly f2] V fun e w' => e = .returned (.bool true) ∧ Below V.heap.size V w' := fun V e1 f1 e2 f2 h1 h2 => by
            have := refLikeP_any e1 e2 f1 f2 ly ly yp yp V hly.out hly.out h1 h2
            rw [decide_eq_true rfl] at this
            exact this
          clear hr cP0 hp hsm hT hX hR hXr hXl hXn hz hrx hlo hYp hK hin hcnt hY
          go_enter Tryz.func3, Tryz.ntmps3
          go_wp2_with (first
            | (go_at_call 9; rw [← hW]; refine (cS).mono ?_; rintro y w1 ⟨rfl, hb⟩; replace WI := WI.below hb; replace WB := WB.below hb; replace HB := Below.tr HB hb; clear x0 x1 x2 x3 x4; obtain ⟨x0, x1, x2, x3, x4⟩ := id WB; clear hb)
            | (go_at_call 11; refine (cP _ WI).mono ?_; rintro y w4 ⟨b1, c1, b2, c2, b3, c3, rfl, WX, hb0⟩; have hA : Below w4.heap.size w4 (w4.alloc (.cells #[.slice b1 n c1, .slice b2 n c2, .slice b3 n c3, .int .i64 X.root, .int .i64 X.gen] 27)) := (Below.refl _ _).alloc (Nat.le_refl _) _; have hb := Below.tr hb0 hA; replace WX := WX.below hA; have XB := woodBox_new w4 (.slice b1 n c1) (.slice b2 n c2) (.slice b3 n c3) (.int .i64 X.root) (.int .i64 X.gen) 27 rfl; replace WI := WI.below hb; replace WB := WB.below hb; replace HB := Below.tr HB hb; clear x0 x1 x2 x3 x4; obtain ⟨x0, x1, x2, x3, x4⟩ := id WB; clear hb hb0 hA; obtain ⟨a0, a1, a2, a3, a4⟩ := id XB)
            | (go_at_call 12; have _t := tk1; refine (cR _ WI).mono ?_; rintro y w2 ⟨rfl, hb⟩; replace WI := WI.below hb; replace WB := WB.below hb; replace WX := WX.below hb; replace XB := XB.below hb; replace HB := Below.tr HB hb; clear x0 x1 x2 x3 x4 a0 a1 a2 a3 a4; obtain ⟨x0, x1, x2, x3, x4⟩ := id WB; obtain ⟨a0, a1, a2, a3, a4⟩ := id XB; clear hb tk1)
            | (go_at_call 13; refine (cI _).mono ?_; rintro y w3 ⟨rfl, hb⟩; replace WI := WI.below hb; replace WB := WB.below hb; replace WX := WX.below hb; replace XB := XB.below hb; replace HB := Below.tr HB hb; clear x0 x1 x2 x3 x4 a0 a1 a2 a3 a4; obtain ⟨x0, x1, x2, x3, x4⟩ := id WB; obtain ⟨a0, a1, a2, a3, a4⟩ := id XB; clear hb)
            | (go_at_call 15; have _t := tk2; refine (cT _ WI).mono ?_; rintro y w5 ⟨z, q, d, r, k, rfl, TB, -, ⟨QT, IT⟩, hb⟩; replace WI := WI.below hb; replace WB := WB.below hb; replace WX := WX.below hb; replace XB := XB.below hb; replace HB := Below.tr HB hb; clear x0 x1 x2 x3 x4 a0 a1 a2 a3 a4; obtain ⟨x0, x1, x2, x3, x4⟩ := id WB; obtain ⟨a0, a1, a2, a3, a4⟩ := id XB; clear hb tk2; obtain ⟨⟨t0, t1, t2, t3⟩, -⟩ := id TB)
            | (go_at_call 12; refine (cRX _ WX).mono ?_; rintro y w6 ⟨rfl, hb⟩; replace WI := WI.below hb; replace WB := WB.below hb; replace WX := WX.below hb; replace XB := XB.below hb; replace TB := TB.below hb; replace QT := QT.below hb; replace IT := IT.below hb; replace HB := Below.tr HB hb; clear x0 x1 x2 x3 x4 a0 a1 a2 a3 a4 t0 t1 t2 t3; obtain ⟨x0, x1, x2, x3, x4⟩ := id WB; obtain ⟨a0, a1, a2, a3, a4⟩ := id XB; obtain ⟨⟨t0, t1, t2, t3⟩, -⟩ := id TB; clear hb)
            | (go_at_call 17; refine (cK1 _ WI WX).mono ?_; rintro y w7 ⟨rfl, hb⟩; replace WI := WI.below hb; replace WB := WB.below hb; replace WX := WX.below hb; replace XB := XB.below hb; replace TB := TB.below hb; replace QT := QT.below hb; replace IT := IT.below hb; replace HB := Below.tr HB hb; clear x0 x1 x2 x3 x4 a0 a1 a2 a3 a4 t0 t1 t2 t3; obtain ⟨x0, x1, x2, x3, x4⟩ := id WB; obtain ⟨a0, a1, a2, a3, a4⟩ := id XB; obtain ⟨⟨t0, t1, t2, t3⟩, -⟩ := id TB; clear hb)
            | (go_at_call 15; refine (cTX _ WX).mono ?_; rintro y w8 ⟨z2, q2, d2, s2, k2, rfl, TY, -, ⟨QY, IY⟩, hb⟩; replace WI := WI.below hb; replace WB := WB.below hb; replace WX := WX.below hb; replace XB := XB.below hb; replace TB := TB.below hb; replace QT := QT.below hb; replace IT := IT.below hb; replace HB := Below.tr HB hb; clear x0 x1 x2 x3 x4 a0 a1 a2 a3 a4 t0 t1 t2 t3; obtain ⟨x0, x1, x2, x3, x4⟩ := id WB; obtain ⟨a0, a1, a2, a3, a4⟩ := id XB; obtain ⟨⟨t0, t1, t2, t3⟩, -⟩ := id TB; clear hb; rw [← hly.out, ← hlyb.out] at TY; obtain ⟨⟨r0, r1, r2, r3⟩, -⟩ := id TY))
          clear cT cR cI cP cRX cK1 cTX hW cS
          rw [← hlp.out, ← hlb.out] at TB
          clear t0 t1 t2 t3
          obtain ⟨⟨t0, t1, t2, t3⟩, -⟩ := id TB
          generalize w4.heap.size = h7 at *
          have hD := (Below.refl w8.heap.size w8).drew
          replace WI := WI.below hD
          replace WB := WB.below hD
          replace WX := WX.below hD
          replace XB := XB.below hD
          replace TB := TB.below hD
          replace QT := QT.below hD
          replace IT := IT.below hD
          replace TY := TY.below hD
          replace QY := QY.below hD
          replace IY := IY.below hD
          replace HB := Below.tr HB hD
          clear x0 x1 x2 x3 x4 a0 a1 a2 a3 a4 t0 t1 t2 t3 r0 r1 r2 r3
          obtain ⟨x0, x1, x2, x3, x4⟩ := id WB
          obtain ⟨a0, a1, a2, a3, a4⟩ := id XB
          obtain ⟨⟨t0, t1, t2, t3⟩, -⟩ := id TB
          obtain ⟨⟨r0, r1, r2, r3⟩, -⟩ := id TY
          clear hD
          go_region_held3 (fun V => (V.cell? ⟨z, 0, none⟩ = some (.slice q lp d) ∧ V.cell? ⟨z, 1, none⟩ = some (.slice r lb k)) ∧ (V.cell? ⟨z2, 0, none⟩ = some (.slice q2 ly d2) ∧ V.cell? ⟨z2, 1, none⟩ = some (.slice s2 lyb k2) ∧ V.cell? ⟨z2, 3, none⟩ = some (.bool false)) ∧ (V.cell? ⟨w.heap.size, 0, none⟩ = some (.slice a n c) ∧ V.cell? ⟨w.heap.size, 1, none⟩ = some (.slice a' n c') ∧ V.cell? ⟨w.heap.size, 2, none⟩ = some (.slice b n f) ∧ V.cell? ⟨w.heap.size, 3, none⟩ = some (.int .i64 G.root) ∧ V.cell? ⟨w.heap.size, 4, none⟩ = some (.int .i64 G.gen)) ∧ V.cell? ⟨h7, 0, none⟩ = some (.slice b1 n c1) ∧ V.cell? ⟨h7, 1, none⟩ = some (.slice b2 n c2) ∧ V.cell? ⟨h7, 2, none⟩ = some (.slice b3 n c3) ∧ V.cell? ⟨h7, 3, none⟩ = some (.int .i64 X.root) ∧ V.cell? ⟨h7, 4, none⟩ = some (.int .i64 X.gen)) (first | exact ⟨⟨t0, t1⟩, ⟨r0, r1, r3⟩, WB, XB⟩) (first
            | (go_at_call 10; refine (cA _).mono ?_; rintro y w9 ⟨rfl, hb⟩; replace WI := WI.below hb; replace WB := WB.below hb; replace WX := WX.below hb; replace XB := XB.below hb; replace TB := TB.below hb; replace QT := QT.below hb; replace IT := IT.below hb; replace TY := TY.below hb; replace QY := QY.below hb; replace IY := IY.below hb; replace HB := Below.tr HB hb; clear x0 x1 x2 x3 x4 a0 a1 a2 a3 a4 t0 t1 t2 t3 r0 r1 r2 r3; obtain ⟨x0, x1, x2, x3, x4⟩ := id WB; obtain ⟨a0, a1, a2, a3, a4⟩ := id XB; obtain ⟨⟨t0, t1, t2, t3⟩, -⟩ := id TB; obtain ⟨⟨r0, r1, r2, r3⟩, -⟩ := id TY; clear hb)
            | (go_at_call 19; refine (cW _ _ _ QT).mono ?_; rintro y w10 ⟨q3, d3, rfl, QW, hb⟩; replace WI := WI.below hb; replace WB := WB.below hb; replace WX := WX.below hb; replace XB := XB.below hb; replace TB := TB.below hb; replace QT := QT.below hb; replace IT := IT.below hb; replace TY := TY.below hb; replace QY := QY.below hb; replace IY := IY.below hb; replace HB := Below.tr HB hb; clear x0 x1 x2 x3 x4 a0 a1 a2 a3 a4 t0 t1 t2 t3 r0 r1 r2 r3; obtain ⟨x0, x1, x2, x3, x4⟩ := id WB; obtain ⟨a0, a1, a2, a3, a4⟩ := id XB; obtain ⟨⟨t0, t1, t2, t3⟩, -⟩ := id TB; obtain ⟨⟨r0, r1, r2, r3⟩, -⟩ := id TY; clear hb)
            | (go_at_call 18; refine (cL _ _ _ _ _ QY QW).mono ?_; rintro y w11 ⟨rfl, hb⟩; replace WI := WI.below hb; replace WB := WB.below hb; replace WX := WX.below hb; replace XB := XB.below hb; replace TB := TB.below hb; replace QT := QT.below hb; replace IT := IT.below hb; replace TY := TY.below hb; replace QY := QY.below hb; replace IY := IY.below hb; replace HB := Below.tr HB hb; clear x0 x1 x2 x3 x4 a0 a1 a2 a3 a4 t0 t1 t2 t3 r0 r1 r2 r3; obtain ⟨x0, x1, x2, x3, x4⟩ := id WB; obtain ⟨a0, a1, a2, a3, a4⟩ := id XB; obtain ⟨⟨t0, t1, t2, t3⟩, -⟩ := id TB; obtain ⟨⟨r0, r1, r2, r3⟩, -⟩ := id TY; clear hb)
            | (go_at_call 17; refine (cK2 _ _ _ _ _ _ _ _ _ _ _ WI WX IT IY).mono ?_; rintro y w12 ⟨rfl, hb⟩; replace WI := WI.below hb; replace WB := WB.below hb; replace WX := WX.below hb; replace XB := XB.below hb; replace TB := TB.below hb; replace QT := QT.below hb; replace IT := IT.below hb; replace TY := TY.below hb; replace QY := QY.below hb; replace IY := IY.below hb; replace HB := Below.tr HB hb; clear x0 x1 x2 x3 x4 a0 a1 a2 a3 a4 t0 t1 t2 t3 r0 r1 r2 r3; obtain ⟨x0, x1, x2, x3, x4⟩ := id WB; obtain ⟨a0, a1, a2, a3, a4⟩ := id XB; obtain ⟨⟨t0, t1, t2, t3⟩, -⟩ := id TB; obtain ⟨⟨r0, r1, r2, r3⟩, -⟩ := id TY; clear hb))
          go_wp2
          go_ret
          exact ⟨rfl, HB⟩

end Go.Proofs.YtaecfbfcjaailaaGreat


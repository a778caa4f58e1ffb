/-
  The walk through the statement GrowGets.
-/
import Derived.Test.YtaecfbfcjaailaaGreatBaG
namespace Go.Proofs.YtaecfbfcjaailaaGreat
open Go.RowKit Plain
set_option linter.unusedVariables false



set_option maxRecDepth 20000 in
set_option maxHeartbeats 4000000 in
theorem growGets_walk (a : Option Addr) (c : Nat) (bs : List Bool) (a' : Option Addr) (c' : Nat) (ns : List Bool) (b : Option Addr) (f : Nat) (ps : List ByteArray) (root gen : Int) (key val other : ByteArray) (w : World) (hB : IsB w a c bs) (hB' : IsB w a' c' ns) (hP : IsS w b f ps) (_h1 : (Lit.int .i64 root).wf = true) (_h2 : (Lit.int .i64 gen).wf = true) (mk : key.size ≤ maxLen) (mv : val.size ≤ maxLen) (mo : other.size ≤ maxLen) :
    Calls Tryz.prog 4 #[.agg #[.slice a bs.length c, .slice a' ns.length c', .slice b ps.length f, .int .i64 root, .int .i64 gen], .string key, .string val, .string other] w fun e w' => e = .returned (.bool true) ∧ Below w.heap.size w w' := by
  obtain ⟨G, hG⟩ : ∃ G : WoodS, G = ⟨bs, ns, ps, root, gen⟩ := ⟨_, rfl⟩
  obtain ⟨n, hn⟩ : ∃ n, n = bs.length := ⟨_, rfl⟩
  obtain ⟨n', hn'⟩ : ∃ n, n = ns.length := ⟨_, rfl⟩
  obtain ⟨p, hp⟩ : ∃ n, n = ps.length := ⟨_, rfl⟩
  have e1 : root = G.root := by rw [hG]
  have e2 : gen = G.gen := by rw [hG]
  rw [← hn, ← hn', ← hp, e1, e2]
  obtain ⟨W, hW⟩ : ∃ W, W = w.alloc (.cells #[.slice a n c, .slice a' n' c', .slice b p f, .int .i64 G.root, .int .i64 G.gen] 27) := ⟨_, rfl⟩
  have HB : Below w.heap.size w W := by rw [hW]; exact (Below.refl _ _).alloc (Nat.le_refl _) _
  have WI : WoodL W a n c a' n' c' b p f G := by rw [hG]; exact ⟨hn, hn', hp, hB.below HB, hB'.below HB, hP.below HB⟩
  have WB : WoodBox W w.heap.size (.slice a n c) (.slice a' n' c') (.slice b p f) (.int .i64 G.root) (.int .i64 G.gen) := by rw [hW]; exact woodBox_new _ _ _ _ _ _ _ rfl
  have cA := alive09_any
  have cS := WI.small
  have cR : ∀ V, WoodL V a n c a' n' c' b p f G → Calls Tryz.prog 12 #[.agg #[.slice a n c, .slice a' n' c', .slice b p f, .int .i64 G.root, .int .i64 G.gen]] V fun e w' => e = .returned (.bool G.right) ∧ Below V.heap.size V w' := fun V x => x.right
  have cT : ∀ V, WoodL V a n c a' n' c' b p f G → Calls Tryz.prog 15 #[.agg #[.slice a n c, .slice a' n' c', .slice b p f, .int .i64 G.root, .int .i64 G.gen]] V fun y w' => TreeC V y w' G.tree := fun V x => x.tree
  have cP : ∀ V, WoodL V a n c a' n' c' b p f G → Calls Tryz.prog 11 #[.agg #[.slice a n c, .slice a' n' c', .slice b p f, .int .i64 G.root, .int .i64 G.gen], .string key, .string val] V fun e w' => PutC V e w' (allR G [(key, val)]) := fun V x => x.put key val mk mv
  clear e1 e2 hn hn' hp hG hB hB' hP _h1 _h2
  obtain ⟨x0, x1, x2, x3, x4⟩ := id (hW ▸ WB)
  cases hs : (decide (n' ≤ 300) && decide (p ≤ 300)) with
  | false =>
    rw [hs] at cS
    clear cR cT cP hs
    go_enter Tryz.func4, Tryz.ntmps4
    go_wp2_with (first
      | (go_at_call 9; rw [← hW]; refine cS.mono ?_; rintro y w1 ⟨rfl, hb⟩; replace WI := WI.below hb; replace WB := WB.below hb; replace HB := Below.tr HB hb; clear x0 x1 x2 x3 x4; obtain ⟨x0, x1, x2, x3, x4⟩ := id WB; clear hb)
      | (go_at_call 10; refine (cA _).mono ?_; rintro y w9 ⟨rfl, hb⟩; replace HB := Below.tr HB hb; clear hb)
      )
    go_ret
    exact ⟨rfl, HB⟩
  | true =>
    rw [hs] at cS
    clear hs
    cases hr : G.right with
    | false =>
      rw [hr] at cR
      clear hr cT cP
      go_enter Tryz.func4, Tryz.ntmps4
      go_wp2_with (first
        | (go_at_call 9; rw [← hW]; refine cS.mono ?_; rintro y w1 ⟨rfl, hb⟩; replace WI := WI.below hb; replace WB := WB.below hb; replace HB := Below.tr HB hb; clear x0 x1 x2 x3 x4; obtain ⟨x0, x1, x2, x3, x4⟩ := id WB; clear hb)
        | (go_at_call 12; refine (cR _ WI).mono ?_; rintro y w2 ⟨rfl, hb⟩; replace WI := WI.below hb; replace WB := WB.below hb; replace HB := Below.tr HB hb; clear x0 x1 x2 x3 x4; obtain ⟨x0, x1, x2, x3, x4⟩ := id WB; clear hb)
        | (go_at_call 10; refine (cA _).mono ?_; rintro y w9 ⟨rfl, hb⟩; replace HB := Below.tr HB hb; clear hb)
        )
      go_ret
      exact ⟨rfl, HB⟩
    | true =>
      rw [hr] at cR
      obtain ⟨T, hT⟩ : ∃ T, T = G.tree := ⟨_, rfl⟩
      rw [← hT] at cT
      obtain ⟨tp, tb, th, tbad⟩ := T
      cases hb : tbad with
      | true =>
        subst hb
        clear hr cP hT
        go_enter Tryz.func4, Tryz.ntmps4
        go_wp2_with (first
          | (go_at_call 9; rw [← hW]; refine cS.mono ?_; rintro y w1 ⟨rfl, hb⟩; replace WI := WI.below hb; replace WB := WB.below hb; replace HB := Below.tr HB hb; clear x0 x1 x2 x3 x4; obtain ⟨x0, x1, x2, x3, x4⟩ := id WB; clear hb)
          | (go_at_call 12; refine (cR _ WI).mono ?_; rintro y w2 ⟨rfl, hb⟩; replace WI := WI.below hb; replace WB := WB.below hb; replace HB := Below.tr HB hb; clear x0 x1 x2 x3 x4; obtain ⟨x0, x1, x2, x3, x4⟩ := id WB; clear hb)
          | (go_at_call 15; refine (cT _ WI).mono ?_; rintro y w3 ⟨q, d, r, k, rfl, ⟨⟨t0, t1, t2, t3⟩, -⟩, -, hb⟩; replace WI := WI.below hb; replace WB := WB.below hb; replace HB := Below.tr HB hb; clear x0 x1 x2 x3 x4; obtain ⟨x0, x1, x2, x3, x4⟩ := id WB; clear hb)
          | (go_at_call 10; refine (cA _).mono ?_; rintro y w9 ⟨rfl, hb⟩; replace HB := Below.tr HB hb; clear hb)
          )
        go_ret
        exact ⟨rfl, HB⟩
      | false =>
        subst hb
        have hbad : G.tree.bad = false := by rw [← hT]
        have hans := put_answers hr hbad key val
        have hris := (treeG_facts hbad).1
        have cI := isPair_any key val
        have cGw : ∀ V, WoodL V a n c a' n' c' b p f G → Calls Tryz.prog 20 #[.agg #[.slice a n c, .slice a' n' c', .slice b p f, .int .i64 G.root, .int .i64 G.gen], .string other] V fun x w' => x = .returned (.tuple #[.string (getT G.tree.pairs other).1, .int .i64 (getT G.tree.pairs other).2]) ∧ Below V.heap.size V w' := fun V x => x.getTree other mo hr hbad
        rcases hans with ⟨hp, hR⟩ | ⟨hp, ⟨hR, -⟩ | ⟨G', hR, -, hr', hbad', hpairs, -⟩⟩
        · rw [hR] at cP
          have cI' : ∀ V, Calls Tryz.prog 13 #[.string key, .string val] V fun e w' => e = .returned (.bool false) ∧ Below V.heap.size V w' := fun V => by have := cI V mk mv; rw [hp] at this; exact this
          obtain ⟨rG, hrG⟩ : ∃ g, g = WoodS.none := ⟨_, rfl⟩
          rw [← hrG] at cP
          clear hrG hR hp hr hT hbad hris cI cGw
          go_enter Tryz.func4, Tryz.ntmps4
          go_wp2_with (first
            | (go_at_call 9; rw [← hW]; refine cS.mono ?_; rintro y w1 ⟨rfl, hb⟩; replace WI := WI.below hb; replace WB := WB.below hb; replace HB := Below.tr HB hb; clear x0 x1 x2 x3 x4; obtain ⟨x0, x1, x2, x3, x4⟩ := id WB; clear hb)
            | (go_at_call 12; refine (cR _ WI).mono ?_; rintro y w2 ⟨rfl, hb⟩; replace WI := WI.below hb; replace WB := WB.below hb; replace HB := Below.tr HB hb; clear x0 x1 x2 x3 x4; obtain ⟨x0, x1, x2, x3, x4⟩ := id WB; clear hb)
            | (go_at_call 15; refine (cT _ WI).mono ?_; rintro y w3 ⟨q, d, r, k, rfl, ⟨⟨t0, t1, t2, t3⟩, -⟩, -, hb⟩; replace WI := WI.below hb; replace WB := WB.below hb; replace HB := Below.tr HB hb; clear x0 x1 x2 x3 x4; obtain ⟨x0, x1, x2, x3, x4⟩ := id WB; clear hb)
            | (go_at_call 11; refine (cP _ WI).mono ?_; rintro y w4 ⟨b1, m1, c1, b2, m2, c2, b3, m3, c3, rfl, WX, hb⟩; have hA : Below w4.heap.size w4 (w4.alloc (.cells #[.slice b1 m1 c1, .slice b2 m2 c2, .slice b3 m3 c3, .int .i64 rG.root, .int .i64 rG.gen] 27)) := (Below.refl _ _).alloc (Nat.le_refl _) _; have XB := woodBox_new w4 (.slice b1 m1 c1) (.slice b2 m2 c2) (.slice b3 m3 c3) (.int .i64 rG.root) (.int .i64 rG.gen) 27 rfl; replace WI := (WI.below hb).below hA; replace WB := (WB.below hb).below hA; replace HB := Below.tr (Below.tr HB hb) hA; replace WX := WX.below hA; clear x0 x1 x2 x3 x4 t0 t1 t2 t3; obtain ⟨x0, x1, x2, x3, x4⟩ := id WB; obtain ⟨z0, z1, z2, z3, z4⟩ := id XB; clear hb hA)
            | (go_at_call 13; refine (cI' _).mono ?_; rintro y w8 ⟨rfl, hb⟩; replace HB := Below.tr HB hb; clear hb)
            | (go_at_call 10; refine (cA _).mono ?_; rintro y w9 ⟨rfl, hb⟩; replace HB := Below.tr HB hb; clear hb)
            )
          go_ret
          exact ⟨rfl, HB⟩
        · rw [hR] at cP
          obtain ⟨rG, hrG⟩ : ∃ g, g = WoodS.none := ⟨_, rfl⟩
          rw [← hrG] at cP
          clear hrG hR hp hr hT hbad hris cI cGw
          go_enter Tryz.func4, Tryz.ntmps4
          go_wp2_with (first
            | (go_at_call 9; rw [← hW]; refine cS.mono ?_; rintro y w1 ⟨rfl, hb⟩; replace WI := WI.below hb; replace WB := WB.below hb; replace HB := Below.tr HB hb; clear x0 x1 x2 x3 x4; obtain ⟨x0, x1, x2, x3, x4⟩ := id WB; clear hb)
            | (go_at_call 12; refine (cR _ WI).mono ?_; rintro y w2 ⟨rfl, hb⟩; replace WI := WI.below hb; replace WB := WB.below hb; replace HB := Below.tr HB hb; clear x0 x1 x2 x3 x4; obtain ⟨x0, x1, x2, x3, x4⟩ := id WB; clear hb)
            | (go_at_call 15; refine (cT _ WI).mono ?_; rintro y w3 ⟨q, d, r, k, rfl, ⟨⟨t0, t1, t2, t3⟩, -⟩, -, hb⟩; replace WI := WI.below hb; replace WB := WB.below hb; replace HB := Below.tr HB hb; clear x0 x1 x2 x3 x4; obtain ⟨x0, x1, x2, x3, x4⟩ := id WB; clear hb)
            | (go_at_call 11; refine (cP _ WI).mono ?_; rintro y w4 ⟨b1, m1, c1, b2, m2, c2, b3, m3, c3, rfl, WX, hb⟩; have hA : Below w4.heap.size w4 (w4.alloc (.cells #[.slice b1 m1 c1, .slice b2 m2 c2, .slice b3 m3 c3, .int .i64 rG.root, .int .i64 rG.gen] 27)) := (Below.refl _ _).alloc (Nat.le_refl _) _; have XB := woodBox_new w4 (.slice b1 m1 c1) (.slice b2 m2 c2) (.slice b3 m3 c3) (.int .i64 rG.root) (.int .i64 rG.gen) 27 rfl; replace WI := (WI.below hb).below hA; replace WB := (WB.below hb).below hA; replace HB := Below.tr (Below.tr HB hb) hA; replace WX := WX.below hA; clear x0 x1 x2 x3 x4 t0 t1 t2 t3; obtain ⟨x0, x1, x2, x3, x4⟩ := id WB; obtain ⟨z0, z1, z2, z3, z4⟩ := id XB; clear hb hA)
            | (go_at_call 10; refine (cA _).mono ?_; rintro y w9 ⟨rfl, hb⟩; replace HB := Below.tr HB hb; clear hb)
            )
          go_ret
          exact ⟨rfl, HB⟩
        · rw [hR] at cP
          obtain ⟨hkey, hval⟩ := isPairB_iff.1 hp
          have g1 : getT G'.tree.pairs key = (val, 0) := by unfold getT; rw [if_pos (show 1 ≤ key.size ∧ key.size ≤ 32 from hkey), hpairs]; exact get_with hris key val
          have g2 : other = key ∨ other ≠ key ∧ getT G'.tree.pairs other = getT G.tree.pairs other := by
            by_cases h : other = key
            · exact .inl h
            · right
              refine ⟨h, ?_⟩
              unfold getT
              rw [hpairs, get_with_other hris h]
          have cG1 : ∀ V {b1 : Option Addr} {m1 c1 : Nat} {b2 : Option Addr} {m2 c2 : Nat} {b3 : Option Addr} {m3 c3 : Nat}, WoodL V b1 m1 c1 b2 m2 c2 b3 m3 c3 G' → Calls Tryz.prog 20 #[.agg #[.slice b1 m1 c1, .slice b2 m2 c2, .slice b3 m3 c3, .int .i64 G'.root, .int .i64 G'.gen], .string key] V fun x w' => x = .returned (.tuple #[.string val, .int .i64 0]) ∧ Below V.heap.size V w' := fun V b1 m1 c1 b2 m2 c2 b3 m3 c3 x => by have := x.getTree key mk hr' hbad'; rw [g1] at this; exact this
          have cG3 : ∀ V {b1 : Option Addr} {m1 c1 : Nat} {b2 : Option Addr} {m2 c2 : Nat} {b3 : Option Addr} {m3 c3 : Nat}, WoodL V b1 m1 c1 b2 m2 c2 b3 m3 c3 G' → Calls Tryz.prog 20 #[.agg #[.slice b1 m1 c1, .slice b2 m2 c2, .slice b3 m3 c3, .int .i64 G'.root, .int .i64 G'.gen], .string other] V fun x w' => x = .returned (.tuple #[.string (getT G'.tree.pairs other).1, .int .i64 (getT G'.tree.pairs other).2]) ∧ Below V.heap.size V w' := fun V b1 m1 c1 b2 m2 c2 b3 m3 c3 x => x.getTree other mo hr' hbad'
          have sv := str_eq_true (rfl : val = val)
          generalize getT G'.tree.pairs other = v3 at *
          generalize getT G.tree.pairs other = v2 at *
          obtain ⟨v2, e2⟩ := v2
          clear hR hp hr hT hbad hris cI hpairs hkey hval g1 hr' hbad'
          obtain ⟨rG, hrG⟩ : ∃ g, g = G' := ⟨_, rfl⟩
          subst hrG
          have tk1 : True := trivial
          have tk2 : True := trivial
          rcases g2 with g2 | ⟨g2, rfl⟩
          · obtain ⟨v3, e3⟩ := v3
            have so := str_eq_true g2
            clear g2
            go_enter Tryz.func4, Tryz.ntmps4
            go_wp2_with (first
              | (go_at_call 9; rw [← hW]; refine cS.mono ?_; rintro y w1 ⟨rfl, hb⟩; replace WI := WI.below hb; replace WB := WB.below hb; replace HB := Below.tr HB hb; clear x0 x1 x2 x3 x4; obtain ⟨x0, x1, x2, x3, x4⟩ := id WB; clear hb)
              | (go_at_call 12; refine (cR _ WI).mono ?_; rintro y w2 ⟨rfl, hb⟩; replace WI := WI.below hb; replace WB := WB.below hb; replace HB := Below.tr HB hb; clear x0 x1 x2 x3 x4; obtain ⟨x0, x1, x2, x3, x4⟩ := id WB; clear hb)
              | (go_at_call 15; refine (cT _ WI).mono ?_; rintro y w3 ⟨q, d, r, k, rfl, ⟨⟨t0, t1, t2, t3⟩, -⟩, -, hb⟩; replace WI := WI.below hb; replace WB := WB.below hb; replace HB := Below.tr HB hb; clear x0 x1 x2 x3 x4; obtain ⟨x0, x1, x2, x3, x4⟩ := id WB; clear hb)
              | (go_at_call 11; refine (cP _ WI).mono ?_; rintro y w4 ⟨b1, m1, c1, b2, m2, c2, b3, m3, c3, rfl, WX, hb⟩; have hA : Below w4.heap.size w4 (w4.alloc (.cells #[.slice b1 m1 c1, .slice b2 m2 c2, .slice b3 m3 c3, .int .i64 rG.root, .int .i64 rG.gen] 27)) := (Below.refl _ _).alloc (Nat.le_refl _) _; have XB := woodBox_new w4 (.slice b1 m1 c1) (.slice b2 m2 c2) (.slice b3 m3 c3) (.int .i64 rG.root) (.int .i64 rG.gen) 27 rfl; replace WI := (WI.below hb).below hA; replace WB := (WB.below hb).below hA; replace HB := Below.tr (Below.tr HB hb) hA; replace WX := WX.below hA; clear x0 x1 x2 x3 x4 t0 t1 t2 t3; obtain ⟨x0, x1, x2, x3, x4⟩ := id WB; obtain ⟨z0, z1, z2, z3, z4⟩ := id XB; clear hb hA)
              | (go_at_call 20; have _t := tk1; refine (cG1 _ WX).mono ?_; rintro y w5 ⟨rfl, hb⟩; replace WI := WI.below hb; replace WX := WX.below hb; replace WB := WB.below hb; replace XB := XB.below hb; replace HB := Below.tr HB hb; clear tk1 x0 x1 x2 x3 x4 z0 z1 z2 z3 z4; obtain ⟨x0, x1, x2, x3, x4⟩ := id WB; obtain ⟨z0, z1, z2, z3, z4⟩ := id XB; clear hb)
              | (go_at_call 20; have _t := tk2; refine (cGw _ WI).mono ?_; rintro y w6 ⟨rfl, hb⟩; replace WI := WI.below hb; replace WX := WX.below hb; replace WB := WB.below hb; replace XB := XB.below hb; replace HB := Below.tr HB hb; clear tk2 x0 x1 x2 x3 x4 z0 z1 z2 z3 z4; obtain ⟨x0, x1, x2, x3, x4⟩ := id WB; obtain ⟨z0, z1, z2, z3, z4⟩ := id XB; clear hb)
              | (go_at_call 20; refine (cG3 _ WX).mono ?_; rintro y w7 ⟨rfl, hb⟩; replace HB := Below.tr HB hb; clear hb)
              | (go_at_call 10; refine (cA _).mono ?_; rintro y w9 ⟨rfl, hb⟩; replace HB := Below.tr HB hb; clear hb)
              )
            go_ret
            exact ⟨rfl, HB⟩
          · have so := str_eq_false g2
            have sv2 := str_eq_true (rfl : v2 = v2)
            clear g2
            go_enter Tryz.func4, Tryz.ntmps4
            go_wp2_with (first
              | (go_at_call 9; rw [← hW]; refine cS.mono ?_; rintro y w1 ⟨rfl, hb⟩; replace WI := WI.below hb; replace WB := WB.below hb; replace HB := Below.tr HB hb; clear x0 x1 x2 x3 x4; obtain ⟨x0, x1, x2, x3, x4⟩ := id WB; clear hb)
              | (go_at_call 12; refine (cR _ WI).mono ?_; rintro y w2 ⟨rfl, hb⟩; replace WI := WI.below hb; replace WB := WB.below hb; replace HB := Below.tr HB hb; clear x0 x1 x2 x3 x4; obtain ⟨x0, x1, x2, x3, x4⟩ := id WB; clear hb)
              | (go_at_call 15; refine (cT _ WI).mono ?_; rintro y w3 ⟨q, d, r, k, rfl, ⟨⟨t0, t1, t2, t3⟩, -⟩, -, hb⟩; replace WI := WI.below hb; replace WB := WB.below hb; replace HB := Below.tr HB hb; clear x0 x1 x2 x3 x4; obtain ⟨x0, x1, x2, x3, x4⟩ := id WB; clear hb)
              | (go_at_call 11; refine (cP _ WI).mono ?_; rintro y w4 ⟨b1, m1, c1, b2, m2, c2, b3, m3, c3, rfl, WX, hb⟩; have hA : Below w4.heap.size w4 (w4.alloc (.cells #[.slice b1 m1 c1, .slice b2 m2 c2, .slice b3 m3 c3, .int .i64 rG.root, .int .i64 rG.gen] 27)) := (Below.refl _ _).alloc (Nat.le_refl _) _; have XB := woodBox_new w4 (.slice b1 m1 c1) (.slice b2 m2 c2) (.slice b3 m3 c3) (.int .i64 rG.root) (.int .i64 rG.gen) 27 rfl; replace WI := (WI.below hb).below hA; replace WB := (WB.below hb).below hA; replace HB := Below.tr (Below.tr HB hb) hA; replace WX := WX.below hA; clear x0 x1 x2 x3 x4 t0 t1 t2 t3; obtain ⟨x0, x1, x2, x3, x4⟩ := id WB; obtain ⟨z0, z1, z2, z3, z4⟩ := id XB; clear hb hA)
              | (go_at_call 20; have _t := tk1; refine (cG1 _ WX).mono ?_; rintro y w5 ⟨rfl, hb⟩; replace WI := WI.below hb; replace WX := WX.below hb; replace WB := WB.below hb; replace XB := XB.below hb; replace HB := Below.tr HB hb; clear tk1 x0 x1 x2 x3 x4 z0 z1 z2 z3 z4; obtain ⟨x0, x1, x2, x3, x4⟩ := id WB; obtain ⟨z0, z1, z2, z3, z4⟩ := id XB; clear hb)
              | (go_at_call 20; have _t := tk2; refine (cGw _ WI).mono ?_; rintro y w6 ⟨rfl, hb⟩; replace WI := WI.below hb; replace WX := WX.below hb; replace WB := WB.below hb; replace XB := XB.below hb; replace HB := Below.tr HB hb; clear tk2 x0 x1 x2 x3 x4 z0 z1 z2 z3 z4; obtain ⟨x0, x1, x2, x3, x4⟩ := id WB; obtain ⟨z0, z1, z2, z3, z4⟩ := id XB; clear hb)
              | (go_at_call 20; refine (cG3 _ WX).mono ?_; rintro y w7 ⟨rfl, hb⟩; replace HB := Below.tr HB hb; clear hb)
              | (go_at_call 10; refine (cA _).mono ?_; rintro y w9 ⟨rfl, hb⟩; replace HB := Below.tr HB hb; clear hb)
              )
            go_ret
            exact ⟨rfl, HB⟩

end Go.Proofs.YtaecfbfcjaailaaGreat


/-
  The walk through the statement GrowKeeps.
-/
import Derived.Test.YtaecfbfcjaailaaGreatBkG
import Derived.Test.YtaecfbfcjaailaaGreatBkC
namespace Go.Proofs.YtaecfbfcjaailaaGreat
open Go.RowKit Plain
set_option linter.unusedVariables false

theorem store_set2 {V : World} {h7 : Nat} {u0 u1 u2 u3 u4 : Value} {p1 : Option Addr} {i1 j1 : Nat} {p2 : Option Addr} {i2 j2 : Nat} {p3 : Option Addr} {i3 j3 : Nat} {Z : WoodS} (YB : Box5 V h7 u0 u1 u2 u3 u4) (WZ : WoodL V p1 i1 j1 p2 i2 j2 p3 i3 j3 Z) (FZ : From (h7 + 1) p1 ∧ From (h7 + 1) p2 ∧ From (h7 + 1) p3) :
    Hid (Box5 (set5 V h7 (.slice p1 i1 j1) (.slice p2 i2 j2) (.slice p3 i3 j3) (.int .i64 Z.root) (.int .i64 Z.gen)) h7 (.slice p1 i1 j1) (.slice p2 i2 j2) (.slice p3 i3 j3) (.int .i64 Z.root) (.int .i64 Z.gen) ∧ WoodL (set5 V h7 (.slice p1 i1 j1) (.slice p2 i2 j2) (.slice p3 i3 j3) (.int .i64 Z.root) (.int .i64 Z.gen)) p1 i1 j1 p2 i2 j2 p3 i3 j3 Z ∧ Off3 h7 p1 p2 p3 ∧ Turns (fun k => k = h7) V (set5 V h7 (.slice p1 i1 j1) (.slice p2 i2 j2) (.slice p3 i3 j3) (.int .i64 Z.root) (.int .i64 Z.gen))) := by
  have t : Turns (fun k => k = h7) V (set5 V h7 (.slice p1 i1 j1) (.slice p2 i2 j2) (.slice p3 i3 j3) (.int .i64 Z.root) (.int .i64 Z.gen)) := set5_turns (P := fun k => k = h7) (Turns.refl _ _) rfl _ _ _ _ _
  have o : Off3 h7 p1 p2 p3 := ⟨fun x hx => by have := FZ.1 x hx; omega, fun x hx => by have := FZ.2.1 x hx; omega, fun x hx => by have := FZ.2.2 x hx; omega⟩
  obtain ⟨bx, f0, f1, f2, f3, f4⟩ := YB
  refine ⟨⟨set5_box bx _ _ _ _ _, ?_, ?_, ?_, ?_, ?_⟩, WZ.turns1 t o, o, t⟩
  · unfold set5; simpa using f0
  · unfold set5; simpa using f1
  · unfold set5; simpa using f2
  · unfold set5; simpa using f3
  · unfold set5; simpa using f4

/-- Whatever is put, what counted stays. -/
theorem kept_put {H Y : WoodS} (hr : Y.right = true) (hl : Loose H Y) (key val : ByteArray) (h : (allR Y [(key, val)]).1 = 0) : (allR Y [(key, val)]).2.right = true ∧ Loose H (allR Y [(key, val)]).2 := by
  rw [allR_one, if_pos hr] at h ⊢
  rcases put_loose hr key val with ⟨h1, _⟩ | ⟨_, h1 | ⟨h1, h2, h3⟩⟩
  · rw [if_neg (by rw [h1]; decide), h1] at h
    exact absurd h (by decide)
  · rw [if_neg (by omega)] at h
    have h' : (putG Y key val).1 = 0 := h
    omega
  · rw [if_pos h1]
    exact ⟨h2, hl.trans h3⟩

/-- A tree as the document's own Tree lays it, its pairs laid anew. -/
def TreeF (V : World) (y : Ending) (w' : World) (t : TreeS) : Prop :=
  ∃ z q d r k, y = .returned (.pointer (some ⟨z, 0, none⟩)) ∧ Box4 w' z (.slice q t.pairs.length d) (.slice r t.blocks.length k) (.int .i64 t.height) (.bool t.bad) ∧ V.heap.size ≤ z ∧ (IsQ w' q d t.pairs ∧ IsI w' r k t.blocks) ∧ From V.heap.size q ∧ Below V.heap.size V w'

theorem WoodL.treeF {V : World} {a : Option Addr} {n c : Nat} {a' : Option Addr} {n' c' : Nat} {b : Option Addr} {p f : Nat} {G : WoodS} (x : WoodL V a n c a' n' c' b p f G) : Calls Tryz.prog 15 #[.agg #[.slice a n c, .slice a' n' c', .slice b p f, .int .i64 G.root, .int .i64 G.gen]] V fun y w' => TreeF V y w' G.tree := by
  refine (tree_any a a' b n c n' c' p f G.now G.pages G.root G.gen V x.2.1 x.2.2.1 x.2.2.2.2.1 x.2.2.2.2.2).mono ?_
  rintro y w' ⟨u1, u2, rfl, T, hb⟩
  obtain ⟨q, d, rfl, hQ, hF⟩ := owned_isQ T.r1 rfl tree_sized
  obtain ⟨r, k, rfl, hI⟩ : ∃ r k, u2 = .slice r (treeS G.now G.pages G.root G.gen).blocks.length k ∧ IsI w' r k (treeS G.now G.pages G.root G.gen).blocks := by
    rcases T.r2.2 with ⟨e, hz⟩ | ⟨g, cap, cur, e, hg, hcur, hnc, hcm, hsz, htk⟩
    · refine ⟨none, 0, ?_, ?_⟩
      · rw [hz]; exact e
      · rw [List.length_eq_zero_iff.1 hz]; exact isI_nil _
    · refine ⟨some ⟨g, 0, none⟩, cap, e, hnc, hcm, fun j z hz => ⟨g, 0, rfl, (T.r2.lt g (by rw [e]; rfl)).2, ?_⟩⟩
      have := T.r2.cells (g := g) (by rw [e]; rfl) j (.int .i64 z) (by simp [hz])
      rw [at_add] at this
      exact this
  exact ⟨_, q, d, r, k, rfl, T.box, by omega, ⟨hQ, hI⟩, hF.mono (by omega), hb⟩

theorem old_tree {m : Nat} {Y0 Y H : WoodS} {P : List (ByteArray × ByteArray)} (g : Grown m Y0 P) (hg : Y0.gen = 1) (hH : H = ⟨Y0.now, Y0.now, Y0.pages, Y0.root, 2⟩) (l : Loose H Y) : (⟨Y0.now, Y0.now, Y.pages, Y0.root, Y.gen⟩ : WoodS).tree = Y0.tree := by
  subst hH
  show treeS Y0.now Y.pages Y0.root Y.gen = _
  have h2 : Y.gen = 2 := l.gen
  refine kept_tree g.bad (by omega) ?_ fun b hb => l.based b hb
  have h3 : Y.now.length = Y0.now.length := l.len
  rw [l.ok.len, h3, (right_ok.1 g.right).1.len]

theorem base_right {Y : WoodS} (h : Y.right = true) : (⟨Y.now, Y.now, Y.pages, Y.root, 2⟩ : WoodS).right = true := by
  obtain ⟨k, hr⟩ := right_ok.1 h
  obtain ⟨_, h2, h3, h4⟩ := (rightA_iff _ _).1 k.alloc
  exact right_ok.2 ⟨⟨(rightA_iff _ _).2 ⟨rfl, h2, h3, fun i hi => ⟨(h4 i hi).2, (h4 i hi).2⟩⟩, k.len, by show (1 : Int) ≤ 2; decide, by show (2 : Int) ≤ 1099511627776; decide, k.room⟩, hr⟩

theorem set4_box {w : World} {h : Nat} {v0 v1 v2 v3 v4 : Value} (b : Box5 w h v0 v1 v2 v3 v4) (u : Value) : Box5 (w.setCell ⟨h, 4, none⟩ u) h v0 v1 v2 v3 u := by
  obtain ⟨⟨b0, b1, b2, b3, b4⟩, f0, f1, f2, f3, f4⟩ := b
  have o : ∀ (i : Nat) (x : Value), i ≠ 4 → w.cell? ⟨h, i, none⟩ = some x → (w.setCell ⟨h, 4, none⟩ u).cell? ⟨h, i, none⟩ = some x := fun i x hi hx => by rw [World.cell?_setCell_other _ _ _ _ (fun hh => hi (by cases hh; rfl))]; exact hx
  exact ⟨⟨o 0 _ (by decide) b0, o 1 _ (by decide) b1, o 2 _ (by decide) b2, o 3 _ (by decide) b3, World.cell?_setCell_same _ _ _ b4⟩, by simpa using f0, by simpa using f1, by simpa using f2, by simpa using f3, by simpa using f4⟩

theorem box4_turns {P : Nat → Prop} {w w' : World} {h : Nat} {v0 v1 v2 v3 : Value} (b : Box4 w h v0 v1 v2 v3) (t : Turns P w w') (hp : ¬ P h) : Box4 w' h v0 v1 v2 v3 := by
  obtain ⟨⟨c0, c1, c2, c3⟩, f0, f1, f2, f3⟩ := b
  have hl := cell_lt c0
  exact ⟨⟨t.cell (p := ⟨h, 0, none⟩) hp c0, t.cell (p := ⟨h, 1, none⟩) hp c1, t.cell (p := ⟨h, 2, none⟩) hp c2, t.cell (p := ⟨h, 3, none⟩) hp c3⟩, t.frozen (p := ⟨h, 0, none⟩) hl hp f0, t.frozen (p := ⟨h, 1, none⟩) hl hp f1, t.frozen (p := ⟨h, 2, none⟩) hl hp f2, t.frozen (p := ⟨h, 3, none⟩) hl hp f3⟩

set_option maxRecDepth 20000 in
set_option maxHeartbeats 4000000 in
theorem growKeeps_walk (N : Int) (d : Option Addr) (dc : Nat) (qs : List (ByteArray × ByteArray)) (d' : Option Addr) (dc' : Nat) (rs : List (ByteArray × ByteArray)) (w : World) (hN : (Lit.int .i64 N).wf = true) (hQ : IsQ w d dc qs) (hQ' : IsQ w d' dc' rs) :
    Calls Tryz.prog 7 #[.int .i64 N, .slice d qs.length dc, .slice d' rs.length dc'] w fun e w' => e = .returned (.bool true) ∧ Below w.heap.size w w' := by
  obtain ⟨k, hk⟩ : ∃ n, n = qs.length := ⟨_, rfl⟩
  obtain ⟨k', hk'⟩ : ∃ n, n = rs.length := ⟨_, rfl⟩
  rw [← hk, ← hk']
  have hkc : k ≤ 9223372036854775807 := by rw [hk]; exact Nat.le_trans hQ.1 hQ.2.1
  have hkc' : k' ≤ 9223372036854775807 := by rw [hk']; exact Nat.le_trans hQ'.1 hQ'.2.1
  have cE : Calls Tryz.prog 23 #[.int .i64 N] w fun e w' => EmptyC w e w' (emptyM N) := empty_any N w (by have hz : -9223372036854775808 ≤ N ∧ N ≤ 9223372036854775807 := by { simpa [Lit.wf, IntKind.min, IntKind.max, IntKind.signed, IntKind.bits] using hN }; rw [IntKind.wrap_i64]; omega)
  obtain ⟨h24, h200, -⟩ := emptyM_in N
  generalize emptyM N = m at *
  have cA := alive09_any
  have EK : Hid (k = qs.length) := hk
  have RQ : Hid (IsQ w d dc qs) := hQ
  have EK' : Hid (k' = rs.length) := hk'
  have RQ' : Hid (IsQ w d' dc' rs) := hQ'
  clear hk hQ hN hk' hQ'
  go_enter Tryz.func7, Tryz.ntmps7
  go_wp2_with (go_at_call 23; refine cE.mono ?_; rintro y w1 ⟨a1, c1, a2, c2, b3, c3, rfl, ⟨i1, i2, i3⟩, HB⟩)
  obtain ⟨G, hG⟩ : ∃ G, G = emptyG m := ⟨_, rfl⟩
  have hgr : Grown m G [] := by rw [hG]; exact grown_empty h24 h200
  have W1 : WoodL w1 a1 m c1 a2 m c2 b3 m c3 G := by rw [hG]; exact ⟨(freshL_length m).symm, (freshL_length m).symm, by simp [emptyG], i1, i2, i3⟩
  have r0 : (0 : Int) = G.root := by rw [hG]; rfl
  have r1 : (1 : Int) = G.gen := by rw [hG]; rfl
  have OF0 : Off3 w1.heap.size a1 a2 b3 := W1.off hgr.right (Nat.le_refl _)
  have hA0 : Below w1.heap.size w1 (w1.alloc (.cells #[.slice a1 m c1, .slice a2 m c2, .slice b3 m c3, .int .i64 0, .int .i64 1] 27)) := (Below.refl _ _).alloc (Nat.le_refl _) _
  have YB0 : Box5 (w1.alloc (.cells #[.slice a1 m c1, .slice a2 m c2, .slice b3 m c3, .int .i64 0, .int .i64 1] 27)) w1.heap.size (.slice a1 m c1) (.slice a2 m c2) (.slice b3 m c3) (.int .i64 G.root) (.int .i64 G.gen) := by rw [← r0, ← r1]; exact box5_new w1 _ _ _ _ _ 27 rfl
  have WY0 := W1.below hA0
  have hlo := HB.size
  have HX : Hid (Below w.heap.size w w1) := HB
  have HGR : Hid (Grown m G G.tree.pairs ∧ G.gen = 1) := ⟨⟨hgr.right, hgr.bad, rfl, hgr.only, hgr.base, hgr.len⟩, by rw [hG]; rfl⟩
  clear hG hgr W1 r0 r1 i1 i2 i3 HB cE
  generalize hh5 : w1.heap.size = h5 at *
  go_loopw [25] (fun v wr => ∃ (j : Nat) (Y : WoodS) (D1 : Option Addr) (L1 K1 : Nat) (D2 : Option Addr) (L2 K2 : Nat) (D3 : Option Addr) (L3 K3 : Nat), j ≤ k ∧ v = .int .i64 j ∧ (Grown m Y Y.tree.pairs ∧ Y.gen = 1) ∧ Box5 wr h5 (.slice D1 L1 K1) (.slice D2 L2 K2) (.slice D3 L3 K3) (.int .i64 Y.root) (.int .i64 Y.gen) ∧ WoodL wr D1 L1 K1 D2 L2 K2 D3 L3 K3 Y ∧ Off3 h5 D1 D2 D3 ∧ Below h5 w1 wr) (fun v _ => k - (intOf v).toNat)
  case atStart => exact ⟨0, G, a1, m, c1, a2, m, c2, b3, m, c3, by omega, rfl, HGR.out, YB0, WY0, OF0, by rw [← hh5] at hA0 ⊢; exact hA0⟩
  case round =>
    obtain ⟨j, Y, D1, L1, K1, D2, L2, K2, D3, L3, K3, hj, rfl, hi, YB, WY, OF, HL⟩ := hrel
    have HI : Hid (Grown m Y Y.tree.pairs ∧ Y.gen = 1) := hi
    replace HL : Below w1.heap.size w1 wr := by rw [hh5]; exact HL
    have HB : Below w.heap.size w wr := Below.tr HX.out HL
    clear hi
    by_cases hlt : j < k
    · have hlt' : (j : Int) < k := by omega
      obtain ⟨⟨ky, vl⟩, hp⟩ : ∃ x, Hid (qs[j]? = some x) := get_some (by rw [← EK.out]; exact hlt)
      obtain ⟨bb, oo, rfl, -, hc0, hc1, mk1, mk2⟩ := RQ.out.2.2 j (ky, vl) hp.out
      have z0 := cell_below HB hc0
      have z1 := cell_below HB hc1
      have hA2 : Below wr.heap.size wr (wr.alloc (.cells #[.string ky, .string vl] 50)) := (Below.refl _ _).alloc (Nat.le_refl _) _
      have hh5l : h5 < wr.heap.size := YB.lt
      replace YB := YB.below hA2
      replace WY := WY.below hA2
      replace HL := Below.tr HL hA2
      have cP : ∀ V, WoodL V D1 L1 K1 D2 L2 K2 D3 L3 K3 Y → Calls Tryz.prog 11 #[.agg #[.slice D1 L1 K1, .slice D2 L2 K2, .slice D3 L3 K3, .int .i64 Y.root, .int .i64 Y.gen], .string ky, .string vl] V fun e w' => PutF V e w' (allR Y [(ky, vl)]) := fun V x => x.putF ky vl mk1 mk2
      have hnx : Hid ((allR Y [(ky, vl)]).1 = 0 → Grown m (allR Y [(ky, vl)]).2 (allR Y [(ky, vl)]).2.tree.pairs ∧ (allR Y [(ky, vl)]).2.gen = 1) := fun h => ⟨(grown_put HI.out.1 h200 ky vl).elim (fun x => by rw [h] at x; exact absurd x.2 (by decide)) fun x => x.2.elim (fun y => by rw [h] at y; exact absurd y.1 (by decide)) fun y => ⟨y.2.right, y.2.bad, rfl, y.2.only, y.2.base, y.2.len⟩, by rw [(kept_put HI.out.1.right (Loose.refl (right_ok.1 HI.out.1.right).1) ky vl h).2.gen]; exact HI.out.2⟩
      obtain ⟨⟨E, Z⟩, hE⟩ : ∃ x, x = allR Y [(ky, vl)] := ⟨_, rfl⟩
      rw [← hE] at cP hnx
      clear hE hc0 hc1 hA2 mk1 mk2 HB
      obtain ⟨⟨y0, y1, y2, y3, y4⟩, -⟩ := id YB
      by_cases h0 : E = 0
      · subst h0
        replace hnx : Hid (Grown m Z Z.tree.pairs ∧ Z.gen = 1) := hnx.out rfl
        by_cases h60 : j < 60
        · have h60' : (j : Int) < 60 := by omega
          go_wp2_with (go_at_call 11; refine (cP _ WY).mono ?_; rintro y w3 ⟨p1, i1, j1, p2, i2, j2, p3, i3, j3, rfl, WZ, FZ, hb⟩; have hA3 : Below w3.heap.size w3 (w3.alloc (.cells #[.slice p1 i1 j1, .slice p2 i2 j2, .slice p3 i3 j3, .int .i64 Z.root, .int .i64 Z.gen] 27)) := (Below.refl _ _).alloc (Nat.le_refl _) _; replace hb := Below.tr hb hA3; replace WZ := WZ.below hA3; have ZB := woodBox_new w3 (.slice p1 i1 j1) (.slice p2 i2 j2) (.slice p3 i3 j3) (.int .i64 Z.root) (.int .i64 Z.gen) 27 rfl; replace YB := YB.below hb; replace WY := WY.below hb; replace HL := Below.tr HL hb; have FH : From (h5 + 1) p1 ∧ From (h5 + 1) p2 ∧ From (h5 + 1) p3 := ⟨FZ.1.mono (by simp; omega), FZ.2.1.mono (by simp; omega), FZ.2.2.mono (by simp; omega)⟩; have hfin : Hid (Box5 (set5 (w3.alloc (.cells #[.slice p1 i1 j1, .slice p2 i2 j2, .slice p3 i3 j3, .int .i64 Z.root, .int .i64 Z.gen] 27)) h5 (.slice p1 i1 j1) (.slice p2 i2 j2) (.slice p3 i3 j3) (.int .i64 Z.root) (.int .i64 Z.gen)) h5 (.slice p1 i1 j1) (.slice p2 i2 j2) (.slice p3 i3 j3) (.int .i64 Z.root) (.int .i64 Z.gen) ∧ WoodL (set5 (w3.alloc (.cells #[.slice p1 i1 j1, .slice p2 i2 j2, .slice p3 i3 j3, .int .i64 Z.root, .int .i64 Z.gen] 27)) h5 (.slice p1 i1 j1) (.slice p2 i2 j2) (.slice p3 i3 j3) (.int .i64 Z.root) (.int .i64 Z.gen)) p1 i1 j1 p2 i2 j2 p3 i3 j3 Z ∧ Off3 h5 p1 p2 p3 ∧ Below h5 w1 (set5 (w3.alloc (.cells #[.slice p1 i1 j1, .slice p2 i2 j2, .slice p3 i3 j3, .int .i64 Z.root, .int .i64 Z.gen] 27)) h5 (.slice p1 i1 j1) (.slice p2 i2 j2) (.slice p3 i3 j3) (.int .i64 Z.root) (.int .i64 Z.gen))) := (have hs := Hid.out (store_set rfl YB WZ FH (isQ_nil _) (fun x hx => by cases hx) HL hh5); ⟨hs.1, hs.2.1, hs.2.2.1, hs.2.2.2.1⟩); clear y0 y1 y2 y3 y4 z0 z1 hb hA3 FZ FH WZ; obtain ⟨⟨y0, y1, y2, y3, y4⟩, f0, f1, f2, f3, f4⟩ := id YB; obtain ⟨t0, t1, t2, t3, t4⟩ := id ZB)
          go_roundw
          case rel => exact ⟨j + 1, Z, p1, i1, j1, p2, i2, j2, p3, i3, j3, by omega, by go_num, hnx.out, hfin.out.1, hfin.out.2.1, hfin.out.2.2.1, hfin.out.2.2.2⟩
          case measure => simp [intOf]; omega
        · have h60' : ¬ (j : Int) < 60 := by omega
          go_wp2_with (go_at_call 11; refine (cP _ WY).mono ?_; rintro y w3 ⟨p1, i1, j1, p2, i2, j2, p3, i3, j3, rfl, WZ, FZ, hb⟩; have hA3 : Below w3.heap.size w3 (w3.alloc (.cells #[.slice p1 i1 j1, .slice p2 i2 j2, .slice p3 i3 j3, .int .i64 Z.root, .int .i64 Z.gen] 27)) := (Below.refl _ _).alloc (Nat.le_refl _) _; replace hb := Below.tr hb hA3; replace WZ := WZ.below hA3; have ZB := woodBox_new w3 (.slice p1 i1 j1) (.slice p2 i2 j2) (.slice p3 i3 j3) (.int .i64 Z.root) (.int .i64 Z.gen) 27 rfl; replace YB := YB.below hb; replace WY := WY.below hb; replace HL := Below.tr HL hb; have FH : From (h5 + 1) p1 ∧ From (h5 + 1) p2 ∧ From (h5 + 1) p3 := ⟨FZ.1.mono (by simp; omega), FZ.2.1.mono (by simp; omega), FZ.2.2.mono (by simp; omega)⟩; have hfin : Hid (Box5 (set5 (w3.alloc (.cells #[.slice p1 i1 j1, .slice p2 i2 j2, .slice p3 i3 j3, .int .i64 Z.root, .int .i64 Z.gen] 27)) h5 (.slice p1 i1 j1) (.slice p2 i2 j2) (.slice p3 i3 j3) (.int .i64 Z.root) (.int .i64 Z.gen)) h5 (.slice p1 i1 j1) (.slice p2 i2 j2) (.slice p3 i3 j3) (.int .i64 Z.root) (.int .i64 Z.gen) ∧ WoodL (set5 (w3.alloc (.cells #[.slice p1 i1 j1, .slice p2 i2 j2, .slice p3 i3 j3, .int .i64 Z.root, .int .i64 Z.gen] 27)) h5 (.slice p1 i1 j1) (.slice p2 i2 j2) (.slice p3 i3 j3) (.int .i64 Z.root) (.int .i64 Z.gen)) p1 i1 j1 p2 i2 j2 p3 i3 j3 Z ∧ Off3 h5 p1 p2 p3 ∧ Below h5 w1 (set5 (w3.alloc (.cells #[.slice p1 i1 j1, .slice p2 i2 j2, .slice p3 i3 j3, .int .i64 Z.root, .int .i64 Z.gen] 27)) h5 (.slice p1 i1 j1) (.slice p2 i2 j2) (.slice p3 i3 j3) (.int .i64 Z.root) (.int .i64 Z.gen))) := (have hs := Hid.out (store_set rfl YB WZ FH (isQ_nil _) (fun x hx => by cases hx) HL hh5); ⟨hs.1, hs.2.1, hs.2.2.1, hs.2.2.2.1⟩); clear y0 y1 y2 y3 y4 z0 z1 hb hA3 FZ FH WZ; obtain ⟨⟨y0, y1, y2, y3, y4⟩, f0, f1, f2, f3, f4⟩ := id YB; obtain ⟨t0, t1, t2, t3, t4⟩ := id ZB)
          go_roundw
          case rel => exact ⟨j + 1, Y, D1, L1, K1, D2, L2, K2, D3, L3, K3, by omega, by go_num, HI.out, YB, WY, OF, by rw [hh5] at HL; exact HL⟩
          case measure => simp [intOf]; omega
      · have h0' : (E == 0) = false := by simpa using h0
        clear h0 hnx
        go_wp2_with (go_at_call 11; refine (cP _ WY).mono ?_; rintro y w3 ⟨p1, i1, j1, p2, i2, j2, p3, i3, j3, rfl, WZ, FZ, hb⟩; have hA3 : Below w3.heap.size w3 (w3.alloc (.cells #[.slice p1 i1 j1, .slice p2 i2 j2, .slice p3 i3 j3, .int .i64 Z.root, .int .i64 Z.gen] 27)) := (Below.refl _ _).alloc (Nat.le_refl _) _; replace hb := Below.tr hb hA3; replace WZ := WZ.below hA3; have ZB := woodBox_new w3 (.slice p1 i1 j1) (.slice p2 i2 j2) (.slice p3 i3 j3) (.int .i64 Z.root) (.int .i64 Z.gen) 27 rfl; replace YB := YB.below hb; replace WY := WY.below hb; replace HL := Below.tr HL hb; have FH : From (h5 + 1) p1 ∧ From (h5 + 1) p2 ∧ From (h5 + 1) p3 := ⟨FZ.1.mono (by simp; omega), FZ.2.1.mono (by simp; omega), FZ.2.2.mono (by simp; omega)⟩; have hfin : Hid (Box5 (set5 (w3.alloc (.cells #[.slice p1 i1 j1, .slice p2 i2 j2, .slice p3 i3 j3, .int .i64 Z.root, .int .i64 Z.gen] 27)) h5 (.slice p1 i1 j1) (.slice p2 i2 j2) (.slice p3 i3 j3) (.int .i64 Z.root) (.int .i64 Z.gen)) h5 (.slice p1 i1 j1) (.slice p2 i2 j2) (.slice p3 i3 j3) (.int .i64 Z.root) (.int .i64 Z.gen) ∧ WoodL (set5 (w3.alloc (.cells #[.slice p1 i1 j1, .slice p2 i2 j2, .slice p3 i3 j3, .int .i64 Z.root, .int .i64 Z.gen] 27)) h5 (.slice p1 i1 j1) (.slice p2 i2 j2) (.slice p3 i3 j3) (.int .i64 Z.root) (.int .i64 Z.gen)) p1 i1 j1 p2 i2 j2 p3 i3 j3 Z ∧ Off3 h5 p1 p2 p3 ∧ Below h5 w1 (set5 (w3.alloc (.cells #[.slice p1 i1 j1, .slice p2 i2 j2, .slice p3 i3 j3, .int .i64 Z.root, .int .i64 Z.gen] 27)) h5 (.slice p1 i1 j1) (.slice p2 i2 j2) (.slice p3 i3 j3) (.int .i64 Z.root) (.int .i64 Z.gen))) := (have hs := Hid.out (store_set rfl YB WZ FH (isQ_nil _) (fun x hx => by cases hx) HL hh5); ⟨hs.1, hs.2.1, hs.2.2.1, hs.2.2.2.1⟩); clear y0 y1 y2 y3 y4 z0 z1 hb hA3 FZ FH WZ; obtain ⟨⟨y0, y1, y2, y3, y4⟩, f0, f1, f2, f3, f4⟩ := id YB; obtain ⟨t0, t1, t2, t3, t4⟩ := id ZB)
        go_roundw
        case rel => exact ⟨j + 1, Y, D1, L1, K1, D2, L2, K2, D3, L3, K3, by omega, by go_num, HI.out, YB, WY, OF, by rw [hh5] at HL; exact HL⟩
        case measure => simp [intOf]; omega
    · obtain rfl : k = j := by omega
      have hj0 : ¬ (k : Int) < k := by omega
      rename WoodS => Y0
      clear YB0 WY0 OF0 hA0 HGR
      have hYg : Y0.gen = 1 := HI.out.2
      rw [hYg] at YB
      obtain ⟨hl20, hl2m⟩ : L2 = Y0.now.length ∧ L2 = m := ⟨WY.2.1, WY.2.1.trans HI.out.1.len⟩
      obtain ⟨g9, cap9, w9, hrun, hg9, hrow, hb9⟩ := copyT wr D2 K2 L2 Y0.now hl20 WY.2.2.2.2.1 (by omega) 22
      have hh5l : h5 < wr.heap.size := YB.lt
      have YB1 : Box5 (w9.setCell ⟨h5, 0, none⟩ (.slice (some ⟨g9, 0, none⟩) L2 cap9)) h5 (.slice (some ⟨g9, 0, none⟩) L2 cap9) (.slice D2 L2 K2) (.slice D3 L3 K3) (.int .i64 Y0.root) (.int .i64 1) := (YB.below hb9).set0 _
      have t9 : Turns (fun k => k = h5) w9 (w9.setCell ⟨h5, 0, none⟩ (.slice (some ⟨g9, 0, none⟩) L2 cap9)) := Turns.setCell (P := fun k => k = h5) (Turns.refl _ _) (p := ⟨h5, 0, none⟩) rfl _
      have OF9 : Off3 h5 (some ⟨g9, 0, none⟩) D2 D3 := ⟨fun x hx => by cases hx; simp only; omega, OF.2.1, OF.2.2⟩
      obtain ⟨H1, hH1⟩ : ∃ H1 : WoodS, H1 = ⟨Y0.now, Y0.now, Y0.pages, Y0.root, 1⟩ := ⟨_, rfl⟩
      have hH1t : H1.tree = Y0.tree := by rw [hH1]; show treeS _ _ _ _ = treeS _ _ _ _; rw [hYg]
      have W9 : WoodL w9 (some ⟨g9, 0, none⟩) L2 cap9 D2 L2 K2 D3 L3 K3 H1 := by rw [hH1]; exact ⟨hl20, hl20, WY.2.2.1, hrow.isB, WY.2.2.2.2.1.below hb9, WY.2.2.2.2.2.below hb9⟩
      have WY1 := W9.turns1 t9 OF9
      have hH1r : H1.root = Y0.root := by rw [hH1]
      have hH1g : H1.gen = 1 := by rw [hH1]
      have HB1 : Below w.heap.size w (w9.setCell ⟨h5, 0, none⟩ (.slice (some ⟨g9, 0, none⟩) L2 cap9)) := Below.turns (Below.tr HB hb9) t9 fun i e => by omega
      have hs1 : h5 < (w9.setCell ⟨h5, 0, none⟩ (.slice (some ⟨g9, 0, none⟩) L2 cap9)).heap.size := YB1.lt
      obtain ⟨U1, hU1⟩ : ∃ U1, U1 = w9.setCell ⟨h5, 0, none⟩ (.slice (some ⟨g9, 0, none⟩) L2 cap9) := ⟨_, rfl⟩
      rw [← hU1] at YB1 WY1 HB1 hs1
      obtain ⟨⟨y0, y1, y2, y3, y4⟩, f0, f1, f2, f3, f4⟩ := id YB
      have fr0 := (YB.below hb9).2.1
      have q0 := (YB.below hb9).1.1
      have cT : ∀ V, WoodL V (some ⟨g9, 0, none⟩) L2 cap9 D2 L2 K2 D3 L3 K3 H1 → Calls Tryz.prog 15 #[.agg #[.slice (some ⟨g9, 0, none⟩) L2 cap9, .slice D2 L2 K2, .slice D3 L3 K3, .int .i64 Y0.root, .int .i64 1]] V fun y w' => TreeF V y w' Y0.tree := fun V x => by
        have := x.treeF
        rw [hH1t, hH1r, hH1g] at this
        exact this
      have HG0 : Hid (Grown m Y0 Y0.tree.pairs ∧ Y0.gen = 1) := HI.out
      have HOF : Hid (Off3 h5 (some ⟨g9, 0, none⟩) D2 D3) := OF9
      have HL20 : Hid (L2 = Y0.now.length ∧ H1 = ⟨Y0.now, Y0.now, Y0.pages, Y0.root, 1⟩ ∧ L3 = Y0.pages.length) := ⟨hl20, hH1, WY.2.2.1⟩
      clear hl20 hl2m hb9 hrow hg9 t9 OF9 OF hH1t hH1r hH1g hH1 W9 WY YB HB HL hYg hj HI
      go_wp2_with (at_builtin; refine Lib.wpList_append_run _ rfl _ _ _ _ rfl _ _ rfl rfl _ _ hrun ?_)
      rw [← hU1]
      clear y0 y1 y2 y3 y4 f0 f1 f2 f3 f4 fr0 q0 hrun hU1
      have hD := (Below.refl U1.heap.size U1).drew
      replace YB1 := YB1.below hD
      replace WY1 := WY1.below hD
      replace HB1 := Below.tr HB1 hD
      have hs2 : h5 < U1.drew.heap.size := hs1
      clear hD
      obtain ⟨⟨y0, y1, y2, y3, y4⟩, -⟩ := id YB1
      go_region_held3 (fun V => V.cell? ⟨h5, 0, none⟩ = some (.slice (some ⟨g9, 0, none⟩) L2 cap9) ∧ V.cell? ⟨h5, 1, none⟩ = some (.slice D2 L2 K2) ∧ V.cell? ⟨h5, 2, none⟩ = some (.slice D3 L3 K3) ∧ V.cell? ⟨h5, 3, none⟩ = some (.int .i64 Y0.root) ∧ V.cell? ⟨h5, 4, none⟩ = some (.int .i64 1)) (first | exact YB1.1) (first
        | (go_at_call 15; refine (cT _ WY1).mono ?_; rintro y w10 ⟨zt, qa, qd, ra, rd, rfl, TB, hzt, ⟨QT, -⟩, hfq, hb⟩; have hz5 : Hid (zt ≠ h5) := (by show _ ≠ _; omega); have HQO : Hid (∀ x, qa = some x → ¬ x.block = h5) := (fun x hx => by have := hfq x hx; omega); replace YB1 := YB1.below hb; replace WY1 := WY1.below hb; replace HB1 := Below.tr HB1 hb; clear y0 y1 y2 y3 y4 hb hzt hfq; obtain ⟨⟨y0, y1, y2, y3, y4⟩, -⟩ := id YB1))
      obtain ⟨-, f0, f1, f2, f3, f4⟩ := id YB1
      obtain ⟨U3, hU3⟩ : ∃ U3, U3 = w10.setCell ⟨h5, 4, none⟩ (.int .i64 2) := ⟨_, rfl⟩
      have t3' : Turns (fun k => k = h5) w10 U3 := by rw [hU3]; exact Turns.setCell (P := fun k => k = h5) (Turns.refl _ _) (p := ⟨h5, 4, none⟩) rfl _
      obtain ⟨H, hH⟩ : ∃ H : WoodS, H = ⟨Y0.now, Y0.now, Y0.pages, Y0.root, 2⟩ := ⟨_, rfl⟩
      have HHd : Hid (H = ⟨Y0.now, Y0.now, Y0.pages, Y0.root, 2⟩) := hH
      have HHr : Hid (H.right = true) := by show _ = _; rw [hH]; exact base_right HG0.out.1.right
      have YB3 : Box5 U3 h5 (.slice (some ⟨g9, 0, none⟩) L2 cap9) (.slice D2 L2 K2) (.slice D3 L3 K3) (.int .i64 Y0.root) (.int .i64 2) := by rw [hU3]; exact set4_box YB1 _
      have r2 : Y0.root = H.root := by rw [hH]
      have g2 : (2 : Int) = H.gen := by rw [hH]
      have WY3 : WoodL U3 (some ⟨g9, 0, none⟩) L2 cap9 D2 L2 K2 D3 L3 K3 H := by
        have x := WY1.turns1 t3' HOF.out
        have e := HL20.out.2.1
        subst e
        rw [hH]
        exact x
      have HX3 : Hid (Below w.heap.size w U3) := Below.turns HB1 t3' fun i e => by omega
      have HST : Hid (L2 = Y0.now.length ∧ True ∧ ∀ V, Turns (fun k => k = h5) U3 V → Box4 V zt (.slice qa Y0.tree.pairs.length qd) (.slice ra Y0.tree.blocks.length rd) (.int .i64 Y0.tree.height) (.bool Y0.tree.bad) ∧ IsQ V qa qd Y0.tree.pairs ∧ IsB V (some ⟨g9, 0, none⟩) cap9 Y0.now) := by
        refine ⟨HL20.out.1, trivial, fun V t => ?_⟩
        have tt := t3'.trans t
        have e := HL20.out.2.1
        subst e
        exact ⟨box4_turns TB tt hz5.out, QT.turns tt (HQO.out), WY1.2.2.2.1.turns tt (HOF.out.1)⟩
      have w2 : IntKind.i64.wrap (1 + 1) = 2 := by rw [IntKind.wrap_i64]; decide
      rw [r2, g2] at YB3
      have OF3 := HOF
      obtain ⟨⟨y0', y1', y2', y3', y4'⟩, -⟩ := id YB1
      clear TB QT WY1 YB1 HB1 t3' r2 g2 hH hs1 hs2 cT HOF HL20 HQO hz5
      go_wp2
      rw [← hU3]
      clear y0 y1 y2 y3 y4 y0' y1' y2' y3' y4' f0 f1 f2 f3 f4
      go_loopw [67] (fun v wr => ∃ (j : Nat) (Y : WoodS) (d1 : Option Addr) (l1 k1 : Nat) (d2 : Option Addr) (l2 k2 : Nat) (d3 : Option Addr) (l3 k3 : Nat), j ≤ k' ∧ v = .int .i64 j ∧ (Y.right = true ∧ Loose H Y) ∧ Box5 wr h5 (.slice d1 l1 k1) (.slice d2 l2 k2) (.slice d3 l3 k3) (.int .i64 Y.root) (.int .i64 Y.gen) ∧ WoodL wr d1 l1 k1 d2 l2 k2 d3 l3 k3 Y ∧ Off3 h5 d1 d2 d3 ∧ Turns (fun k => k = h5) U3 wr) (fun v _ => k' - (intOf v).toNat)
      case atStart => exact ⟨0, H, some ⟨g9, 0, none⟩, L2, cap9, D2, L2, K2, D3, L3, K3, by omega, rfl, ⟨HHr.out, Loose.refl (right_ok.1 HHr.out).1⟩, YB3, WY3, OF3.out, Turns.refl _ _⟩
      case round =>
        obtain ⟨j, Y, d1, l1, k1, d2, l2, k2, d3, l3, k3, hj, rfl, hi, YB, WY, OF, HL⟩ := hrel
        have HI : Hid (Y.right = true ∧ Loose H Y) := hi
        have HB : Below w.heap.size w wr := Below.turns HX3.out HL fun i e => by omega
        clear hi
        by_cases hlt : j < k'
        · have hlt' : (j : Int) < k' := by omega
          obtain ⟨⟨ky, vl⟩, hp⟩ : ∃ x, Hid (rs[j]? = some x) := get_some (by rw [← EK'.out]; exact hlt)
          obtain ⟨bb, oo, rfl, -, hc0, hc1, mk1, mk2⟩ := RQ'.out.2.2 j (ky, vl) hp.out
          have z0 := cell_below HB hc0
          have z1 := cell_below HB hc1
          have hA2 : Below wr.heap.size wr (wr.alloc (.cells #[.string ky, .string vl] 50)) := (Below.refl _ _).alloc (Nat.le_refl _) _
          have hh5l : h5 < wr.heap.size := YB.lt
          replace YB := YB.below hA2
          replace WY := WY.below hA2
          replace HL := HL.tr hA2
          have cP : ∀ V, WoodL V d1 l1 k1 d2 l2 k2 d3 l3 k3 Y → Calls Tryz.prog 11 #[.agg #[.slice d1 l1 k1, .slice d2 l2 k2, .slice d3 l3 k3, .int .i64 Y.root, .int .i64 Y.gen], .string ky, .string vl] V fun e w' => PutF V e w' (allR Y [(ky, vl)]) := fun V x => x.putF ky vl mk1 mk2
          have hnx : Hid ((allR Y [(ky, vl)]).1 = 0 → (allR Y [(ky, vl)]).2.right = true ∧ Loose H (allR Y [(ky, vl)]).2) := fun h => kept_put HI.out.1 HI.out.2 ky vl h
          obtain ⟨⟨E, Z⟩, hE⟩ : ∃ x, x = allR Y [(ky, vl)] := ⟨_, rfl⟩
          rw [← hE] at cP hnx
          clear hE hc0 hc1 hA2 mk1 mk2 HB
          obtain ⟨⟨y0, y1, y2, y3, y4⟩, -⟩ := id YB
          by_cases h0 : E = 0
          · subst h0
            replace hnx : Hid (Z.right = true ∧ Loose H Z) := hnx.out rfl
            by_cases h60 : j < 60
            · have h60' : (j : Int) < 60 := by omega
              go_wp2_with (go_at_call 11; refine (cP _ WY).mono ?_; rintro y w3 ⟨p1, i1, j1, p2, i2, j2, p3, i3, j3, rfl, WZ, FZ, hb⟩; have hA3 : Below w3.heap.size w3 (w3.alloc (.cells #[.slice p1 i1 j1, .slice p2 i2 j2, .slice p3 i3 j3, .int .i64 Z.root, .int .i64 Z.gen] 27)) := (Below.refl _ _).alloc (Nat.le_refl _) _; replace hb := Below.tr hb hA3; replace WZ := WZ.below hA3; have ZB := woodBox_new w3 (.slice p1 i1 j1) (.slice p2 i2 j2) (.slice p3 i3 j3) (.int .i64 Z.root) (.int .i64 Z.gen) 27 rfl; replace YB := YB.below hb; replace WY := WY.below hb; replace HL := HL.tr hb; have FH : From (h5 + 1) p1 ∧ From (h5 + 1) p2 ∧ From (h5 + 1) p3 := ⟨FZ.1.mono (by simp; omega), FZ.2.1.mono (by simp; omega), FZ.2.2.mono (by simp; omega)⟩; have hfin : Hid (Box5 (set5 (w3.alloc (.cells #[.slice p1 i1 j1, .slice p2 i2 j2, .slice p3 i3 j3, .int .i64 Z.root, .int .i64 Z.gen] 27)) h5 (.slice p1 i1 j1) (.slice p2 i2 j2) (.slice p3 i3 j3) (.int .i64 Z.root) (.int .i64 Z.gen)) h5 (.slice p1 i1 j1) (.slice p2 i2 j2) (.slice p3 i3 j3) (.int .i64 Z.root) (.int .i64 Z.gen) ∧ WoodL (set5 (w3.alloc (.cells #[.slice p1 i1 j1, .slice p2 i2 j2, .slice p3 i3 j3, .int .i64 Z.root, .int .i64 Z.gen] 27)) h5 (.slice p1 i1 j1) (.slice p2 i2 j2) (.slice p3 i3 j3) (.int .i64 Z.root) (.int .i64 Z.gen)) p1 i1 j1 p2 i2 j2 p3 i3 j3 Z ∧ Off3 h5 p1 p2 p3 ∧ Turns (fun k => k = h5) U3 (set5 (w3.alloc (.cells #[.slice p1 i1 j1, .slice p2 i2 j2, .slice p3 i3 j3, .int .i64 Z.root, .int .i64 Z.gen] 27)) h5 (.slice p1 i1 j1) (.slice p2 i2 j2) (.slice p3 i3 j3) (.int .i64 Z.root) (.int .i64 Z.gen))) := (have hs := Hid.out (store_set2 YB WZ FH); ⟨hs.1, hs.2.1, hs.2.2.1, HL.trans hs.2.2.2⟩); clear y0 y1 y2 y3 y4 z0 z1 hb hA3 FZ FH WZ; obtain ⟨⟨y0, y1, y2, y3, y4⟩, f0, f1, f2, f3, f4⟩ := id YB; obtain ⟨t0, t1, t2, t3, t4⟩ := id ZB)
              go_roundw
              case rel => exact ⟨j + 1, Z, p1, i1, j1, p2, i2, j2, p3, i3, j3, by omega, by go_num, hnx.out, hfin.out.1, hfin.out.2.1, hfin.out.2.2.1, hfin.out.2.2.2⟩
              case measure => simp [intOf]; omega
            · have h60' : ¬ (j : Int) < 60 := by omega
              go_wp2_with (go_at_call 11; refine (cP _ WY).mono ?_; rintro y w3 ⟨p1, i1, j1, p2, i2, j2, p3, i3, j3, rfl, WZ, FZ, hb⟩; have hA3 : Below w3.heap.size w3 (w3.alloc (.cells #[.slice p1 i1 j1, .slice p2 i2 j2, .slice p3 i3 j3, .int .i64 Z.root, .int .i64 Z.gen] 27)) := (Below.refl _ _).alloc (Nat.le_refl _) _; replace hb := Below.tr hb hA3; replace WZ := WZ.below hA3; have ZB := woodBox_new w3 (.slice p1 i1 j1) (.slice p2 i2 j2) (.slice p3 i3 j3) (.int .i64 Z.root) (.int .i64 Z.gen) 27 rfl; replace YB := YB.below hb; replace WY := WY.below hb; replace HL := HL.tr hb; have FH : From (h5 + 1) p1 ∧ From (h5 + 1) p2 ∧ From (h5 + 1) p3 := ⟨FZ.1.mono (by simp; omega), FZ.2.1.mono (by simp; omega), FZ.2.2.mono (by simp; omega)⟩; have hfin : Hid (Box5 (set5 (w3.alloc (.cells #[.slice p1 i1 j1, .slice p2 i2 j2, .slice p3 i3 j3, .int .i64 Z.root, .int .i64 Z.gen] 27)) h5 (.slice p1 i1 j1) (.slice p2 i2 j2) (.slice p3 i3 j3) (.int .i64 Z.root) (.int .i64 Z.gen)) h5 (.slice p1 i1 j1) (.slice p2 i2 j2) (.slice p3 i3 j3) (.int .i64 Z.root) (.int .i64 Z.gen) ∧ WoodL (set5 (w3.alloc (.cells #[.slice p1 i1 j1, .slice p2 i2 j2, .slice p3 i3 j3, .int .i64 Z.root, .int .i64 Z.gen] 27)) h5 (.slice p1 i1 j1) (.slice p2 i2 j2) (.slice p3 i3 j3) (.int .i64 Z.root) (.int .i64 Z.gen)) p1 i1 j1 p2 i2 j2 p3 i3 j3 Z ∧ Off3 h5 p1 p2 p3 ∧ Turns (fun k => k = h5) U3 (set5 (w3.alloc (.cells #[.slice p1 i1 j1, .slice p2 i2 j2, .slice p3 i3 j3, .int .i64 Z.root, .int .i64 Z.gen] 27)) h5 (.slice p1 i1 j1) (.slice p2 i2 j2) (.slice p3 i3 j3) (.int .i64 Z.root) (.int .i64 Z.gen))) := (have hs := Hid.out (store_set2 YB WZ FH); ⟨hs.1, hs.2.1, hs.2.2.1, HL.trans hs.2.2.2⟩); clear y0 y1 y2 y3 y4 z0 z1 hb hA3 FZ FH WZ; obtain ⟨⟨y0, y1, y2, y3, y4⟩, f0, f1, f2, f3, f4⟩ := id YB; obtain ⟨t0, t1, t2, t3, t4⟩ := id ZB)
              go_roundw
              case rel => exact ⟨j + 1, Y, d1, l1, k1, d2, l2, k2, d3, l3, k3, by omega, by go_num, HI.out, YB, WY, OF, HL⟩
              case measure => simp [intOf]; omega
          · have h0' : (E == 0) = false := by simpa using h0
            clear h0 hnx
            go_wp2_with (go_at_call 11; refine (cP _ WY).mono ?_; rintro y w3 ⟨p1, i1, j1, p2, i2, j2, p3, i3, j3, rfl, WZ, FZ, hb⟩; have hA3 : Below w3.heap.size w3 (w3.alloc (.cells #[.slice p1 i1 j1, .slice p2 i2 j2, .slice p3 i3 j3, .int .i64 Z.root, .int .i64 Z.gen] 27)) := (Below.refl _ _).alloc (Nat.le_refl _) _; replace hb := Below.tr hb hA3; replace WZ := WZ.below hA3; have ZB := woodBox_new w3 (.slice p1 i1 j1) (.slice p2 i2 j2) (.slice p3 i3 j3) (.int .i64 Z.root) (.int .i64 Z.gen) 27 rfl; replace YB := YB.below hb; replace WY := WY.below hb; replace HL := HL.tr hb; have FH : From (h5 + 1) p1 ∧ From (h5 + 1) p2 ∧ From (h5 + 1) p3 := ⟨FZ.1.mono (by simp; omega), FZ.2.1.mono (by simp; omega), FZ.2.2.mono (by simp; omega)⟩; have hfin : Hid (Box5 (set5 (w3.alloc (.cells #[.slice p1 i1 j1, .slice p2 i2 j2, .slice p3 i3 j3, .int .i64 Z.root, .int .i64 Z.gen] 27)) h5 (.slice p1 i1 j1) (.slice p2 i2 j2) (.slice p3 i3 j3) (.int .i64 Z.root) (.int .i64 Z.gen)) h5 (.slice p1 i1 j1) (.slice p2 i2 j2) (.slice p3 i3 j3) (.int .i64 Z.root) (.int .i64 Z.gen) ∧ WoodL (set5 (w3.alloc (.cells #[.slice p1 i1 j1, .slice p2 i2 j2, .slice p3 i3 j3, .int .i64 Z.root, .int .i64 Z.gen] 27)) h5 (.slice p1 i1 j1) (.slice p2 i2 j2) (.slice p3 i3 j3) (.int .i64 Z.root) (.int .i64 Z.gen)) p1 i1 j1 p2 i2 j2 p3 i3 j3 Z ∧ Off3 h5 p1 p2 p3 ∧ Turns (fun k => k = h5) U3 (set5 (w3.alloc (.cells #[.slice p1 i1 j1, .slice p2 i2 j2, .slice p3 i3 j3, .int .i64 Z.root, .int .i64 Z.gen] 27)) h5 (.slice p1 i1 j1) (.slice p2 i2 j2) (.slice p3 i3 j3) (.int .i64 Z.root) (.int .i64 Z.gen))) := (have hs := Hid.out (store_set2 YB WZ FH); ⟨hs.1, hs.2.1, hs.2.2.1, HL.trans hs.2.2.2⟩); clear y0 y1 y2 y3 y4 z0 z1 hb hA3 FZ FH WZ; obtain ⟨⟨y0, y1, y2, y3, y4⟩, f0, f1, f2, f3, f4⟩ := id YB; obtain ⟨t0, t1, t2, t3, t4⟩ := id ZB)
            go_roundw
            case rel => exact ⟨j + 1, Y, d1, l1, k1, d2, l2, k2, d3, l3, k3, by omega, by go_num, HI.out, YB, WY, OF, HL⟩
            case measure => simp [intOf]; omega
        · obtain rfl : k' = j := by omega
          have hj0 : ¬ (k' : Int) < k' := by omega
          have ST := HST.out.2.2 wr HL
          have TB := ST.1
          have QT := ST.2.1
          have BN := ST.2.2
          have XB := YB.1
          obtain ⟨y0, y1, y2, y3, y4⟩ := id XB
          obtain ⟨O, hO⟩ : ∃ O : WoodS, O = ⟨Y0.now, Y0.now, Y.pages, Y0.root, Y.gen⟩ := ⟨_, rfl⟩
          have hOt : O.tree = Y0.tree := by rw [hO]; exact old_tree HG0.out.1 HG0.out.2 HHd.out HI.out.2
          have hOr : O.root = Y0.root := by rw [hO]
          have hOg : O.gen = Y.gen := by rw [hO]
          have WO : WoodL wr (some ⟨g9, 0, none⟩) L2 cap9 (some ⟨g9, 0, none⟩) L2 cap9 d3 l3 k3 O := by rw [hO]; exact ⟨HST.out.1, HST.out.1, WY.2.2.1, BN, BN, WY.2.2.2.2.2⟩
          have cT : ∀ V, WoodL V (some ⟨g9, 0, none⟩) L2 cap9 (some ⟨g9, 0, none⟩) L2 cap9 d3 l3 k3 O → Calls Tryz.prog 15 #[.agg #[.slice (some ⟨g9, 0, none⟩) L2 cap9, .slice (some ⟨g9, 0, none⟩) L2 cap9, .slice d3 l3 k3, .int .i64 Y0.root, .int .i64 Y.gen]] V fun y w' => TreeD V y w' Y0.tree := fun V x => by
            have := x.treeD
            rw [hOt, hOr, hOg] at this
            exact this
          have hA : Below wr.heap.size wr (wr.alloc (.cells #[.slice (some ⟨g9, 0, none⟩) L2 cap9, .slice (some ⟨g9, 0, none⟩) L2 cap9, .slice d3 l3 k3, .int .i64 Y0.root, .int .i64 Y.gen] 27)) := (Below.refl _ _).alloc (Nat.le_refl _) _
          have hTb := HG0.out.1.bad
          obtain ⟨T, hT⟩ : ∃ T, T = Y0.tree := ⟨_, rfl⟩
          rw [← hT] at cT hTb TB QT
          obtain ⟨tp, tb, th, tbad⟩ := T
          simp only at hTb TB QT
          subst hTb
          obtain ⟨lp, hlp⟩ : ∃ l, Hid (l = tp.length) := ⟨_, rfl⟩
          rw [← hlp.out] at TB
          have cK : ∀ V (a1 : Option Addr) (e1 : Nat), IsQ V a1 e1 tp → IsQ V qa qd tp → Calls Tryz.prog 18 #[.slice a1 lp e1, .slice qa lp qd] V fun e w' => e = .returned (.bool true) ∧ Below V.heap.size V w' := fun V a1 e1 h1 h2 => by
            have := refLikeP_any a1 qa e1 qd lp lp tp tp V hlp.out hlp.out h1 h2
            rw [decide_eq_true rfl] at this
            exact this
          obtain ⟨⟨t0, t1, t2, t3⟩, -⟩ := id TB
          clear hO hOt hOr hOg hT ST BN
          go_wp2_with (go_at_call 15; refine (cT _ (WO.below hA)).mono ?_; rintro y w6 ⟨zo, a1, e1, a2, e2, rfl, TO, -, ⟨QO, -⟩, hb⟩; replace hb := Below.tr hA hb; replace TB := TB.below hb; replace QT := QT.below hb; replace HB := Below.tr HB hb; clear y0 y1 y2 y3 y4 t0 t1 t2 t3 hb hA; rw [← hlp.out] at TO)
          replace TB := TB.drew
          replace TO := TO.drew
          replace QT := QT.below (Below.refl w6.heap.size w6).drew
          replace QO := QO.below (Below.refl w6.heap.size w6).drew
          replace HB := HB.drew
          obtain ⟨⟨t0, t1, t2, t3⟩, -⟩ := id TB
          obtain ⟨⟨o0, o1, o2, o3⟩, -⟩ := id TO
          clear cT WO YB WY XB
          go_region_held3 (fun V => (V.cell? ⟨zt, 0, none⟩ = some (.slice qa lp qd) ∧ V.cell? ⟨zt, 3, none⟩ = some (.bool false)) ∧ V.cell? ⟨zo, 0, none⟩ = some (.slice a1 lp e1) ∧ V.cell? ⟨zo, 3, none⟩ = some (.bool false)) (first | exact ⟨⟨t0, t3⟩, o0, o3⟩) (first
            | (go_at_call 10; refine (cA _).mono ?_; rintro y w7 ⟨rfl, hb⟩; replace TB := TB.below hb; replace TO := TO.below hb; replace QT := QT.below hb; replace QO := QO.below hb; replace HB := Below.tr HB hb; clear t0 t1 t2 t3 o0 o1 o2 o3; obtain ⟨⟨t0, t1, t2, t3⟩, -⟩ := id TB; obtain ⟨⟨o0, o1, o2, o3⟩, -⟩ := id TO; clear hb)
            | (go_at_call 18; refine (cK _ _ _ QO QT).mono ?_; rintro y w7 ⟨rfl, hb⟩; replace TB := TB.below hb; replace TO := TO.below hb; replace QT := QT.below hb; replace QO := QO.below hb; replace HB := Below.tr HB hb; clear t0 t1 t2 t3 o0 o1 o2 o3; obtain ⟨⟨t0, t1, t2, t3⟩, -⟩ := id TB; obtain ⟨⟨o0, o1, o2, o3⟩, -⟩ := id TO; clear hb))
          go_wp2
          go_ret
          exact ⟨rfl, HB⟩

end Go.Proofs.YtaecfbfcjaailaaGreat


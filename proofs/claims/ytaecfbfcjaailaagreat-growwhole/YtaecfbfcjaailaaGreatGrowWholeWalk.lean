/-
  The walk through the statement GrowWhole.
-/
import Derived.Test.YtaecfbfcjaailaaGreatBwG
namespace Go.Proofs.YtaecfbfcjaailaaGreat
open Go.RowKit Plain
set_option linter.unusedVariables false

theorem hid_of {p : Prop} (h : p) : Hid p := h

theorem box2_turns {P : Nat → Prop} {w w' : World} {h : Nat} {v0 v1 : Value} (b : Box2 w h v0 v1) (t : Turns P w w') (hp : ¬ P h) : Box2 w' h v0 v1 := by
  obtain ⟨⟨c0, c1⟩, f0, f1⟩ := b
  have hl := cell_lt c0
  exact ⟨⟨t.cell (p := ⟨h, 0, none⟩) hp c0, t.cell (p := ⟨h, 1, none⟩) hp c1⟩, t.frozen (p := ⟨h, 0, none⟩) hl hp f0, t.frozen (p := ⟨h, 1, none⟩) hl hp f1⟩

/-- A wood stored into its box. -/
theorem store_set {w2 V U : World} {h7 : Nat} {u0 u1 u2 u3 u4 : Value} {p1 : Option Addr} {i1 j1 : Nat} {p2 : Option Addr} {i2 j2 : Nat} {p3 : Option Addr} {i3 j3 : Nat} {Z : WoodS} {g : Option Addr} {cap : Nat} {P : List (ByteArray × ByteArray)} (hU : U = set5 V h7 (.slice p1 i1 j1) (.slice p2 i2 j2) (.slice p3 i3 j3) (.int .i64 Z.root) (.int .i64 Z.gen)) (YB : Box5 V h7 u0 u1 u2 u3 u4) (WZ : WoodL V p1 i1 j1 p2 i2 j2 p3 i3 j3 Z) (FZ : From (h7 + 1) p1 ∧ From (h7 + 1) p2 ∧ From (h7 + 1) p3) (QI : IsQ V g cap P) (OQ : ∀ x, g = some x → x.block ≠ h7) (HL : Below w2.heap.size w2 V) (hh7 : w2.heap.size = h7) :
    Hid (Box5 U h7 (.slice p1 i1 j1) (.slice p2 i2 j2) (.slice p3 i3 j3) (.int .i64 Z.root) (.int .i64 Z.gen) ∧ WoodL U p1 i1 j1 p2 i2 j2 p3 i3 j3 Z ∧ Off3 h7 p1 p2 p3 ∧ Below h7 w2 U ∧ IsQ U g cap P ∧ Turns (fun k => k = h7) V U ∧ ∀ {h : Nat} {v0 v1 : Value}, Box2 V h v0 v1 → h ≠ h7 → Box2 U h v0 v1) := by
  subst hU
  have t : Turns (fun k => k = h7) V (set5 V h7 (.slice p1 i1 j1) (.slice p2 i2 j2) (.slice p3 i3 j3) (.int .i64 Z.root) (.int .i64 Z.gen)) := set5_turns (P := fun k => k = h7) (Turns.refl _ _) rfl _ _ _ _ _
  have o : Off3 h7 p1 p2 p3 := ⟨fun x hx => by have := FZ.1 x hx; omega, fun x hx => by have := FZ.2.1 x hx; omega, fun x hx => by have := FZ.2.2 x hx; omega⟩
  obtain ⟨bx, f0, f1, f2, f3, f4⟩ := YB
  refine ⟨⟨set5_box bx _ _ _ _ _, ?_, ?_, ?_, ?_, ?_⟩, WZ.turns1 t o, o, ?_, QI.turns t OQ, t, fun {h v0 v1} b hne => box2_turns b t hne⟩
  · unfold set5; simpa using f0
  · unfold set5; simpa using f1
  · unfold set5; simpa using f2
  · unfold set5; simpa using f3
  · unfold set5; simpa using f4
  · subst hh7
    exact Below.turns HL t fun i e => by omega

set_option maxRecDepth 20000 in
set_option maxHeartbeats 4000000 in
theorem growWhole_walk (N : Int) (d : Option Addr) (dc : Nat) (qs : List (ByteArray × ByteArray)) (w : World) (hN : (Lit.int .i64 N).wf = true) (hQ : IsQ w d dc qs) :
    Calls Tryz.prog 6 #[.int .i64 N, .slice d qs.length dc] w fun e w' => e = .returned (.bool true) ∧ Below w.heap.size w w' := by
  obtain ⟨k, hk⟩ : ∃ n, n = qs.length := ⟨_, rfl⟩
  rw [← hk]
  have hkc : k ≤ 9223372036854775807 := by rw [hk]; exact Nat.le_trans hQ.1 hQ.2.1
  have cE : Calls Tryz.prog 23 #[.int .i64 N] w fun e w' => EmptyC w e w' (emptyM N) := empty_any N w (by have hz : -9223372036854775808 ≤ N ∧ N ≤ 9223372036854775807 := by { simpa [Lit.wf, IntKind.min, IntKind.max, IntKind.signed, IntKind.bits] using hN }; rw [IntKind.wrap_i64]; omega)
  obtain ⟨h24, h200, -⟩ := emptyM_in N
  generalize emptyM N = m at *
  have cA := alive09_any
  have EK : Hid (k = qs.length) := hk
  have RQ : Hid (IsQ w d dc qs) := hQ
  clear hk hQ hN
  go_enter Tryz.func6, Tryz.ntmps6
  go_wp2_with (go_at_call 23; refine cE.mono ?_; rintro y w1 ⟨a1, c1, a2, c2, b3, c3, rfl, ⟨i1, i2, i3⟩, HB⟩)
  obtain ⟨G, hG⟩ : ∃ G, G = emptyG m := ⟨_, rfl⟩
  have hgr : Grown m G [] := by rw [hG]; exact grown_empty h24 h200
  have W1 : WoodL w1 a1 m c1 a2 m c2 b3 m c3 G := by rw [hG]; exact ⟨(freshL_length m).symm, (freshL_length m).symm, by simp [emptyG], i1, i2, i3⟩
  have r0 : (0 : Int) = G.root := by rw [hG]; rfl
  have r1 : (1 : Int) = G.gen := by rw [hG]; rfl
  have OF : Off3 w1.heap.size a1 a2 b3 := W1.off hgr.right (Nat.le_refl _)
  have hA : Below w1.heap.size w1 ((w1.alloc (.cells #[.slice a1 m c1, .slice a2 m c2, .slice b3 m c3, .int .i64 0, .int .i64 1] 27)).alloc (.cells #[] 50)) := ((Below.refl _ _).alloc (Nat.le_refl _) _).alloc (by simp) _
  have YB0 : Box5 ((w1.alloc (.cells #[.slice a1 m c1, .slice a2 m c2, .slice b3 m c3, .int .i64 0, .int .i64 1] 27)).alloc (.cells #[] 50)) w1.heap.size (.slice a1 m c1) (.slice a2 m c2) (.slice b3 m c3) (.int .i64 G.root) (.int .i64 G.gen) := by rw [← r0, ← r1]; exact (box5_new w1 _ _ _ _ _ 27 rfl).below ((Below.refl _ _).alloc (Nat.le_refl _) _)
  have WY0 := W1.below hA
  have QI0 : IsQ ((w1.alloc (.cells #[.slice a1 m c1, .slice a2 m c2, .slice b3 m c3, .int .i64 0, .int .i64 1] 27)).alloc (.cells #[] 50)) (some ⟨w1.heap.size + 1, 0, none⟩) 0 [] := ⟨Nat.le_refl _, Nat.zero_le _, fun j p h => by simp at h⟩
  have hlo := HB.size
  have HX : Hid (Below w.heap.size w w1) := HB
  have HGR : Hid (Grown m G []) := hgr
  clear hG hgr W1 r0 r1 i1 i2 i3 HB cE
  generalize hh5 : w1.heap.size = h5 at *
  go_loopw [6, 17] (fun wv v wr => ∃ (j q cap : Nat) (g : Option Addr) (Y : WoodS) (P : List (ByteArray × ByteArray)) (d1 : Option Addr) (l1 k1 : Nat) (d2 : Option Addr) (l2 k2 : Nat) (d3 : Option Addr) (l3 k3 : Nat), j ≤ k ∧ v = .int .i64 j ∧ wv = .slice g q cap ∧ (Grown m Y P ∧ q = P.length ∧ q ≤ j) ∧ Box5 wr h5 (.slice d1 l1 k1) (.slice d2 l2 k2) (.slice d3 l3 k3) (.int .i64 Y.root) (.int .i64 Y.gen) ∧ WoodL wr d1 l1 k1 d2 l2 k2 d3 l3 k3 Y ∧ Off3 h5 d1 d2 d3 ∧ IsQ wr g cap P ∧ (∀ x, g = some x → x.block ≠ h5) ∧ Below h5 w1 wr) (fun _ v _ => k - (intOf v).toNat)
  case atStart => exact ⟨0, 0, 0, _, G, [], a1, m, c1, a2, m, c2, b3, m, c3, by omega, rfl, rfl, ⟨HGR.out, rfl, Nat.le_refl _⟩, YB0, WY0, OF, QI0, fun x hx => by cases hx; simp only; omega, by rw [← hh5] at hA ⊢; exact hA⟩
  case round =>
    clear YB0 WY0 OF QI0 hA HGR
    obtain ⟨j, q, cap, g, Y, P, d1, l1, k1, d2, l2, k2, d3, l3, k3, hj, rfl, rfl, ⟨hgr, hq, hqj⟩, YB, WY, OF, QI, OQ, HL⟩ := hrel
    have GY : Hid (Grown m Y P) := hgr
    have EQ : Hid (q = P.length) := hq
    replace HL : Below w1.heap.size w1 wr := by rw [hh5]; exact HL
    have HB : Below w.heap.size w wr := Below.tr HX.out HL
    clear hgr hq
    by_cases hlt : j < k
    · have hlt' : (j : Int) < k := by omega
      obtain ⟨⟨ky, vl⟩, hp⟩ : ∃ x, Hid (qs[j]? = some x) := get_some (by rw [← EK.out]; exact hlt)
      obtain ⟨bb, oo, rfl, -, hc0, hc1, mk1, mk2⟩ := RQ.out.2.2 j (ky, vl) hp.out
      have z0 := cell_below HB hc0
      have z1 := cell_below HB hc1
      have hA2 : Below wr.heap.size wr (wr.alloc (.cells #[.string ky, .string vl] 50)) := (Below.refl _ _).alloc (Nat.le_refl _) _
      have hh5l : h5 < wr.heap.size := YB.lt
      have BP : Box2 (wr.alloc (.cells #[.string ky, .string vl] 50)) wr.heap.size (.string ky) (.string vl) := box2_new _ _ _ _ rfl
      replace YB := YB.below hA2
      replace WY := WY.below hA2
      replace QI := QI.below hA2
      replace HL := Below.tr HL hA2
      replace HB := Below.tr HB hA2
      clear hc0 hc1 hA2
      by_cases h120 : j < 120
      · have h120' : ¬ (120 : Int) ≤ j := by omega
        have cP : ∀ V, WoodL V d1 l1 k1 d2 l2 k2 d3 l3 k3 Y → Calls Tryz.prog 11 #[.agg #[.slice d1 l1 k1, .slice d2 l2 k2, .slice d3 l3 k3, .int .i64 Y.root, .int .i64 Y.gen], .string ky, .string vl] V fun e w' => PutF V e w' (allR Y [(ky, vl)]) := fun V x => x.putF ky vl mk1 mk2
        have cI : ∀ V, Calls Tryz.prog 13 #[.string ky, .string vl] V fun e w' => e = .returned (.bool (isPairB ky vl)) ∧ Below V.heap.size V w' := fun V => isPair_any ky vl V mk1 mk2
        have hput := grown_put GY.out h200 ky vl
        obtain ⟨⟨E, Z⟩, hE⟩ : ∃ x, x = allR Y [(ky, vl)] := ⟨_, rfl⟩
        rw [← hE] at cP hput
        simp only at hput
        clear hE
        obtain ⟨⟨y0, y1, y2, y3, y4⟩, -⟩ := id YB
        rcases hput with ⟨hp1, rfl⟩ | ⟨hp1, ⟨rfl, hfr⟩ | ⟨rfl, hgr⟩⟩
        · rw [hp1] at cI
          clear hp1 mk1 mk2
          go_wp2_with (first
            | (go_at_call 11; refine (cP _ WY).mono ?_; rintro y w3 ⟨p1, i1, j1, p2, i2, j2, p3, i3, j3, rfl, WZ, FZ, hb⟩; have hA3 : Below w3.heap.size w3 (w3.alloc (.cells #[.slice p1 i1 j1, .slice p2 i2 j2, .slice p3 i3 j3, .int .i64 Z.root, .int .i64 Z.gen] 27)) := (Below.refl _ _).alloc (Nat.le_refl _) _; have hsz := hb.size; replace hb := Below.tr hb hA3; replace WZ := WZ.below hA3; have ZB := woodBox_new w3 (.slice p1 i1 j1) (.slice p2 i2 j2) (.slice p3 i3 j3) (.int .i64 Z.root) (.int .i64 Z.gen) 27 rfl; have BP2 := BP.below hb; replace YB := YB.below hb; replace WY := WY.below hb; replace QI := QI.below hb; replace HL := Below.tr HL hb; replace HB := Below.tr HB hb; have FH : Hid (From (h5 + 1) p1 ∧ From (h5 + 1) p2 ∧ From (h5 + 1) p3) := ⟨FZ.1.mono (by simp; omega), FZ.2.1.mono (by simp; omega), FZ.2.2.mono (by simp; omega)⟩; clear y0 y1 y2 y3 y4 z0 z1 hb hA3 FZ BP; obtain ⟨⟨y0, y1, y2, y3, y4⟩, f0, f1, f2, f3, f4⟩ := id YB; obtain ⟨t0, t1, t2, t3, t4⟩ := id ZB; obtain ⟨⟨z0, z1⟩, -⟩ := id BP2)
            | (go_at_call 13; refine (cI _).mono ?_; rintro y w4 ⟨rfl, hb⟩; replace YB := YB.below hb; replace WY := WY.below hb; replace QI := QI.below hb; replace WZ := WZ.below hb; replace ZB := ZB.below hb; replace BP2 := BP2.below hb; replace HL := Below.tr HL hb; replace HB := Below.tr HB hb; clear f0 f1 f2 f3 f4 y0 y1 y2 y3 y4 z0 z1 t0 t1 t2 t3 t4 hb; obtain ⟨⟨y0, y1, y2, y3, y4⟩, f0, f1, f2, f3, f4⟩ := id YB; obtain ⟨t0, t1, t2, t3, t4⟩ := id ZB; obtain ⟨⟨z0, z1⟩, -⟩ := id BP2))
          go_roundw
          case rel => exact ⟨j + 1, q, cap, g, Y, P, d1, l1, k1, d2, l2, k2, d3, l3, k3, by omega, by go_num, rfl, ⟨GY.out, EQ.out, by omega⟩, YB, WY, OF, QI, OQ, by rw [hh5] at HL; exact HL⟩
          case measure => simp [intOf]; omega
        · rw [hp1] at cI
          have hfr' : ((Y.free : Nat) : Int) < 9 := by omega
          have cF : ∀ V, WoodL V d1 l1 k1 d2 l2 k2 d3 l3 k3 Y → Calls Tryz.prog 16 #[.agg #[.slice d1 l1 k1, .slice d2 l2 k2]] V fun e w' => e = .returned (.int .i64 (Y.free : Nat)) ∧ Below V.heap.size V w' := fun V x => by rw [← free_told GY.out.right]; exact allocRefFree_any d1 d2 k1 k2 l1 l2 Y.base Y.now V x.1 x.2.1 x.2.2.2.1 x.2.2.2.2.1
          generalize Y.free = fr at *
          clear hp1 mk1 mk2 hfr
          go_wp2_with (first
            | (go_at_call 11; refine (cP _ WY).mono ?_; rintro y w3 ⟨p1, i1, j1, p2, i2, j2, p3, i3, j3, rfl, WZ, FZ, hb⟩; have hA3 : Below w3.heap.size w3 (w3.alloc (.cells #[.slice p1 i1 j1, .slice p2 i2 j2, .slice p3 i3 j3, .int .i64 Z.root, .int .i64 Z.gen] 27)) := (Below.refl _ _).alloc (Nat.le_refl _) _; have hsz := hb.size; replace hb := Below.tr hb hA3; replace WZ := WZ.below hA3; have ZB := woodBox_new w3 (.slice p1 i1 j1) (.slice p2 i2 j2) (.slice p3 i3 j3) (.int .i64 Z.root) (.int .i64 Z.gen) 27 rfl; have BP2 := BP.below hb; replace YB := YB.below hb; replace WY := WY.below hb; replace QI := QI.below hb; replace HL := Below.tr HL hb; replace HB := Below.tr HB hb; have FH : Hid (From (h5 + 1) p1 ∧ From (h5 + 1) p2 ∧ From (h5 + 1) p3) := ⟨FZ.1.mono (by simp; omega), FZ.2.1.mono (by simp; omega), FZ.2.2.mono (by simp; omega)⟩; clear y0 y1 y2 y3 y4 z0 z1 hb hA3 FZ BP; obtain ⟨⟨y0, y1, y2, y3, y4⟩, f0, f1, f2, f3, f4⟩ := id YB; obtain ⟨t0, t1, t2, t3, t4⟩ := id ZB; obtain ⟨⟨z0, z1⟩, -⟩ := id BP2)
            | (go_at_call 13; refine (cI _).mono ?_; rintro y w4 ⟨rfl, hb⟩; replace YB := YB.below hb; replace WY := WY.below hb; replace QI := QI.below hb; replace WZ := WZ.below hb; replace ZB := ZB.below hb; replace BP2 := BP2.below hb; replace HL := Below.tr HL hb; replace HB := Below.tr HB hb; clear f0 f1 f2 f3 f4 y0 y1 y2 y3 y4 z0 z1 t0 t1 t2 t3 t4 hb; obtain ⟨⟨y0, y1, y2, y3, y4⟩, f0, f1, f2, f3, f4⟩ := id YB; obtain ⟨t0, t1, t2, t3, t4⟩ := id ZB; obtain ⟨⟨z0, z1⟩, -⟩ := id BP2)
            | (go_at_call 16; refine (cF _ WY).mono ?_; rintro y w5 ⟨rfl, hb⟩; replace YB := YB.below hb; replace WY := WY.below hb; replace QI := QI.below hb; replace HL := Below.tr HL hb; replace HB := Below.tr HB hb; clear f0 f1 f2 f3 f4 y0 y1 y2 y3 y4 z0 z1 t0 t1 t2 t3 t4 hb))
          go_roundw
          case rel => exact ⟨j + 1, q, cap, g, Y, P, d1, l1, k1, d2, l2, k2, d3, l3, k3, by omega, by go_num, rfl, ⟨GY.out, EQ.out, by omega⟩, YB, WY, OF, QI, OQ, by rw [hh5] at HL; exact HL⟩
          case measure => simp [intOf]; omega
        · rw [hp1] at cI
          have GZ : Hid (Grown m Z (withP P ky vl)) := hgr
          have hfew : Hid ((withP P ky vl).length ≤ q + 1) := by show _ ≤ _; rw [EQ.out]; exact withP_few P ky vl
          have cW : ∀ V, IsQ V g cap P → Calls Tryz.prog 19 #[.slice g q cap, .string ky, .string vl] V fun e w' => ∃ a' k c', e = .returned (.slice a' k c') ∧ k = (withP P ky vl).length ∧ IsQ w' a' c' (withP P ky vl) ∧ From V.heap.size a' ∧ Below V.heap.size V w' := fun V hQ => refWith_any g cap q P ky vl V EQ.out hQ (by omega) mk1 mk2
          clear hp1 mk1 mk2 hgr
          go_wp2_with (first
            | (go_at_call 11; refine (cP _ WY).mono ?_; rintro y w3 ⟨p1, i1, j1, p2, i2, j2, p3, i3, j3, rfl, WZ, FZ, hb⟩; have hA3 : Below w3.heap.size w3 (w3.alloc (.cells #[.slice p1 i1 j1, .slice p2 i2 j2, .slice p3 i3 j3, .int .i64 Z.root, .int .i64 Z.gen] 27)) := (Below.refl _ _).alloc (Nat.le_refl _) _; have hsz := hb.size; replace hb := Below.tr hb hA3; replace WZ := WZ.below hA3; have ZB := woodBox_new w3 (.slice p1 i1 j1) (.slice p2 i2 j2) (.slice p3 i3 j3) (.int .i64 Z.root) (.int .i64 Z.gen) 27 rfl; have BP2 := BP.below hb; replace YB := YB.below hb; replace WY := WY.below hb; replace QI := QI.below hb; replace HL := Below.tr HL hb; replace HB := Below.tr HB hb; have FH : Hid (From (h5 + 1) p1 ∧ From (h5 + 1) p2 ∧ From (h5 + 1) p3) := ⟨FZ.1.mono (by simp; omega), FZ.2.1.mono (by simp; omega), FZ.2.2.mono (by simp; omega)⟩; clear y0 y1 y2 y3 y4 z0 z1 hb hA3 FZ BP; obtain ⟨⟨y0, y1, y2, y3, y4⟩, f0, f1, f2, f3, f4⟩ := id YB; obtain ⟨t0, t1, t2, t3, t4⟩ := id ZB; obtain ⟨⟨z0, z1⟩, -⟩ := id BP2)
            | (go_at_call 13; refine (cI _).mono ?_; rintro y w4 ⟨rfl, hb⟩; replace YB := YB.below hb; replace WY := WY.below hb; replace QI := QI.below hb; replace WZ := WZ.below hb; replace ZB := ZB.below hb; replace BP2 := BP2.below hb; replace HL := Below.tr HL hb; replace HB := Below.tr HB hb; clear f0 f1 f2 f3 f4 y0 y1 y2 y3 y4 z0 z1 t0 t1 t2 t3 t4 hb; obtain ⟨⟨y0, y1, y2, y3, y4⟩, f0, f1, f2, f3, f4⟩ := id YB; obtain ⟨t0, t1, t2, t3, t4⟩ := id ZB; obtain ⟨⟨z0, z1⟩, -⟩ := id BP2; obtain ⟨U, hU⟩ : ∃ U, U = set5 w4 h5 (.slice p1 i1 j1) (.slice p2 i2 j2) (.slice p3 i3 j3) (.int .i64 Z.root) (.int .i64 Z.gen) := ⟨_, rfl⟩; have hst := store_set hU YB WZ FH.out QI OQ HL hh5; have BP3 := (Hid.out hst).2.2.2.2.2.2 BP2 (by omega); clear z0 z1; obtain ⟨⟨z0, z1⟩, -⟩ := id BP3; unfold set5 at hU; rw [hU] at z0 z1; have HU := hid_of hU; clear hU BP3)
            | (go_at_call 19; rw [← HU.out]; refine (cW U (Hid.out hst).2.2.2.2.1).mono ?_; rintro y w5 ⟨g', k', cap', rfl, hk', hQ', hF', hb⟩; have HK : Hid (k' = (withP P ky vl).length) := hk'; clear hk'; have hUs := (Hid.out hst).1.lt))
          go_roundw
          case rel =>
            have hst := Hid.out hst
            exact ⟨j + 1, k', cap', g', Z, withP P ky vl, p1, i1, j1, p2, i2, j2, p3, i3, j3, by omega, by go_num, rfl, ⟨GZ.out, HK.out, by have := hfew.out; have := HK.out; omega⟩, hst.1.below hb, hst.2.1.below hb, hst.2.2.1, hQ', fun x hx => by have := hF' x hx; omega, by rw [← hh5]; exact Below.tr (by rw [hh5]; exact hst.2.2.2.1) hb⟩
          case measure => simp [intOf]; omega
      · have h120' : (120 : Int) ≤ j := by omega
        clear mk1 mk2 BP hh5l
        obtain ⟨y0, y1, y2, y3, y4⟩ := id YB.1
        have XB := YB.1
        obtain ⟨y0, y1, y2, y3, y4⟩ := id XB
        have hG := GY.out
        have cT : ∀ V, WoodL V d1 l1 k1 d2 l2 k2 d3 l3 k3 Y → Calls Tryz.prog 15 #[.agg #[.slice d1 l1 k1, .slice d2 l2 k2, .slice d3 l3 k3, .int .i64 Y.root, .int .i64 Y.gen]] V fun y w' => TreeD V y w' Y.tree := fun V x => x.treeD
        have hTb : Y.tree.bad = false := hG.bad
        have hTp : Y.tree.pairs = P := hG.pairs
        have hfr := only_free hG.only hG.bad hG.base hG.len (by omega)
        have cF : ∀ V, WoodL V d1 l1 k1 d2 l2 k2 d3 l3 k3 Y → Calls Tryz.prog 16 #[.agg #[.slice d1 l1 k1, .slice d2 l2 k2]] V fun e w' => e = .returned (.int .i64 (Y.free : Nat)) ∧ Below V.heap.size V w' := fun V x => by rw [← free_told hG.right]; exact allocRefFree_any d1 d2 k1 k2 l1 l2 Y.base Y.now V x.1 x.2.1 x.2.2.2.1 x.2.2.2.2.1
        obtain ⟨T, hT⟩ : ∃ T, T = Y.tree := ⟨_, rfl⟩
        rw [← hT] at cT hTb hTp hfr
        obtain ⟨tp, tb, th, tbad⟩ := T
        simp only at hTb hTp hfr
        subst hTb hTp
        generalize Y.free = fr at *
        obtain ⟨nb, hnb⟩ : ∃ nb, Hid (nb = tb.length) := ⟨_, rfl⟩
        have hl2 : l2 = m := by rw [WY.2.1, hG.len]
        rw [← hnb.out] at hfr
        have w1 : IntKind.i64.wrap ((m : Int) - 10) = (m : Int) - 10 := i64_in _ (by omega) (by omega)
        have w2 : IntKind.i64.wrap ((m : Int) - 10 - (nb : Int)) = (m : Int) - 10 - (nb : Int) := i64_in _ (by omega) (by omega)
        have w3 : ((fr : Int) == (m : Int) - 10 - (nb : Int)) = true := by rw [beq_iff_eq]; omega
        subst hl2
        have cK : ∀ V (a1 : Option Addr) (e1 : Nat), IsQ V a1 e1 tp → IsQ V g cap tp → Calls Tryz.prog 18 #[.slice a1 q e1, .slice g q cap] V fun e w' => e = .returned (.bool true) ∧ Below V.heap.size V w' := fun V a1 e1 h1 h2 => by
          have := refLikeP_any a1 g e1 cap q q tp tp V EQ.out EQ.out h1 h2
          rw [decide_eq_true rfl] at this
          exact this
        clear hT hG hfr
        go_wp2_with (go_at_call 15; refine (cT _ WY).mono ?_; rintro y w6 ⟨zt, a1, e1, a2, e2, rfl, TB, -, ⟨QT, -⟩, hb⟩; replace XB := XB.below hb; replace WY := WY.below hb; replace QI := QI.below hb; replace HB := Below.tr HB hb; clear y0 y1 y2 y3 y4 hb; obtain ⟨y0, y1, y2, y3, y4⟩ := id XB; rw [← EQ.out, ← hnb.out] at TB; obtain ⟨⟨t0, t1, t2, t3⟩, -⟩ := id TB)
        replace XB := XB.below (Below.refl w6.heap.size w6).drew
        replace TB := TB.drew
        replace QI := QI.below (Below.refl w6.heap.size w6).drew
        replace QT := QT.below (Below.refl w6.heap.size w6).drew
        replace WY := WY.below (Below.refl w6.heap.size w6).drew
        replace HB := HB.drew
        clear y0 y1 y2 y3 y4 t0 t1 t2 t3 cT
        obtain ⟨y0, y1, y2, y3, y4⟩ := id XB
        obtain ⟨⟨t0, t1, t2, t3⟩, -⟩ := id TB
        go_region_held3 (fun V => (V.cell? ⟨zt, 0, none⟩ = some (.slice a1 q e1) ∧ V.cell? ⟨zt, 1, none⟩ = some (.slice a2 nb e2) ∧ V.cell? ⟨zt, 3, none⟩ = some (.bool false)) ∧ V.cell? ⟨h5, 0, none⟩ = some (.slice d1 l1 k1) ∧ V.cell? ⟨h5, 1, none⟩ = some (.slice d2 l2 k2)) (first | exact ⟨⟨t0, t1, t3⟩, y0, y1⟩) (first
          | (go_at_call 10; refine (cA _).mono ?_; rintro y w7 ⟨rfl, hb⟩; replace XB := XB.below hb; replace TB := TB.below hb; replace WY := WY.below hb; replace QI := QI.below hb; replace QT := QT.below hb; replace HB := Below.tr HB hb; clear y0 y1 y2 y3 y4 t0 t1 t2 t3; obtain ⟨y0, y1, y2, y3, y4⟩ := id XB; obtain ⟨⟨t0, t1, t2, t3⟩, -⟩ := id TB; clear hb)
          | (go_at_call 18; refine (cK _ _ _ QT QI).mono ?_; rintro y w7 ⟨rfl, hb⟩; replace XB := XB.below hb; replace TB := TB.below hb; replace WY := WY.below hb; replace QI := QI.below hb; replace QT := QT.below hb; replace HB := Below.tr HB hb; clear y0 y1 y2 y3 y4 t0 t1 t2 t3; obtain ⟨y0, y1, y2, y3, y4⟩ := id XB; obtain ⟨⟨t0, t1, t2, t3⟩, -⟩ := id TB; clear hb)
          | (go_at_call 16; refine (cF _ WY).mono ?_; rintro y w7 ⟨rfl, hb⟩; replace XB := XB.below hb; replace TB := TB.below hb; replace WY := WY.below hb; replace QI := QI.below hb; replace QT := QT.below hb; replace HB := Below.tr HB hb; clear y0 y1 y2 y3 y4 t0 t1 t2 t3; obtain ⟨y0, y1, y2, y3, y4⟩ := id XB; obtain ⟨⟨t0, t1, t2, t3⟩, -⟩ := id TB; clear hb))
        go_wp2
        go_ret
        exact ⟨rfl, HB⟩
    · obtain rfl : k = j := by omega
      have hj0 : ¬ (k : Int) < k := by omega
      have XB := YB.1
      obtain ⟨y0, y1, y2, y3, y4⟩ := id XB
      have hG := GY.out
      have cT : ∀ V, WoodL V d1 l1 k1 d2 l2 k2 d3 l3 k3 Y → Calls Tryz.prog 15 #[.agg #[.slice d1 l1 k1, .slice d2 l2 k2, .slice d3 l3 k3, .int .i64 Y.root, .int .i64 Y.gen]] V fun y w' => TreeD V y w' Y.tree := fun V x => x.treeD
      have hTb : Y.tree.bad = false := hG.bad
      have hTp : Y.tree.pairs = P := hG.pairs
      have hfr := only_free hG.only hG.bad hG.base hG.len (by omega)
      have cF : ∀ V, WoodL V d1 l1 k1 d2 l2 k2 d3 l3 k3 Y → Calls Tryz.prog 16 #[.agg #[.slice d1 l1 k1, .slice d2 l2 k2]] V fun e w' => e = .returned (.int .i64 (Y.free : Nat)) ∧ Below V.heap.size V w' := fun V x => by rw [← free_told hG.right]; exact allocRefFree_any d1 d2 k1 k2 l1 l2 Y.base Y.now V x.1 x.2.1 x.2.2.2.1 x.2.2.2.2.1
      obtain ⟨T, hT⟩ : ∃ T, T = Y.tree := ⟨_, rfl⟩
      rw [← hT] at cT hTb hTp hfr
      obtain ⟨tp, tb, th, tbad⟩ := T
      simp only at hTb hTp hfr
      subst hTb hTp
      generalize Y.free = fr at *
      obtain ⟨nb, hnb⟩ : ∃ nb, Hid (nb = tb.length) := ⟨_, rfl⟩
      have hl2 : l2 = m := by rw [WY.2.1, hG.len]
      rw [← hnb.out] at hfr
      have w1 : IntKind.i64.wrap ((m : Int) - 10) = (m : Int) - 10 := i64_in _ (by omega) (by omega)
      have w2 : IntKind.i64.wrap ((m : Int) - 10 - (nb : Int)) = (m : Int) - 10 - (nb : Int) := i64_in _ (by omega) (by omega)
      have w3 : ((fr : Int) == (m : Int) - 10 - (nb : Int)) = true := by rw [beq_iff_eq]; omega
      subst hl2
      have cK : ∀ V (a1 : Option Addr) (e1 : Nat), IsQ V a1 e1 tp → IsQ V g cap tp → Calls Tryz.prog 18 #[.slice a1 q e1, .slice g q cap] V fun e w' => e = .returned (.bool true) ∧ Below V.heap.size V w' := fun V a1 e1 h1 h2 => by
        have := refLikeP_any a1 g e1 cap q q tp tp V EQ.out EQ.out h1 h2
        rw [decide_eq_true rfl] at this
        exact this
      clear hT hG hfr
      go_wp2_with (go_at_call 15; refine (cT _ WY).mono ?_; rintro y w6 ⟨zt, a1, e1, a2, e2, rfl, TB, -, ⟨QT, -⟩, hb⟩; replace XB := XB.below hb; replace WY := WY.below hb; replace QI := QI.below hb; replace HB := Below.tr HB hb; clear y0 y1 y2 y3 y4 hb; obtain ⟨y0, y1, y2, y3, y4⟩ := id XB; rw [← EQ.out, ← hnb.out] at TB; obtain ⟨⟨t0, t1, t2, t3⟩, -⟩ := id TB)
      replace XB := XB.below (Below.refl w6.heap.size w6).drew
      replace TB := TB.drew
      replace QI := QI.below (Below.refl w6.heap.size w6).drew
      replace QT := QT.below (Below.refl w6.heap.size w6).drew
      replace WY := WY.below (Below.refl w6.heap.size w6).drew
      replace HB := HB.drew
      clear y0 y1 y2 y3 y4 t0 t1 t2 t3 cT
      obtain ⟨y0, y1, y2, y3, y4⟩ := id XB
      obtain ⟨⟨t0, t1, t2, t3⟩, -⟩ := id TB
      go_region_held3 (fun V => (V.cell? ⟨zt, 0, none⟩ = some (.slice a1 q e1) ∧ V.cell? ⟨zt, 1, none⟩ = some (.slice a2 nb e2) ∧ V.cell? ⟨zt, 3, none⟩ = some (.bool false)) ∧ V.cell? ⟨h5, 0, none⟩ = some (.slice d1 l1 k1) ∧ V.cell? ⟨h5, 1, none⟩ = some (.slice d2 l2 k2)) (first | exact ⟨⟨t0, t1, t3⟩, y0, y1⟩) (first
        | (go_at_call 10; refine (cA _).mono ?_; rintro y w7 ⟨rfl, hb⟩; replace XB := XB.below hb; replace TB := TB.below hb; replace WY := WY.below hb; replace QI := QI.below hb; replace QT := QT.below hb; replace HB := Below.tr HB hb; clear y0 y1 y2 y3 y4 t0 t1 t2 t3; obtain ⟨y0, y1, y2, y3, y4⟩ := id XB; obtain ⟨⟨t0, t1, t2, t3⟩, -⟩ := id TB; clear hb)
        | (go_at_call 18; refine (cK _ _ _ QT QI).mono ?_; rintro y w7 ⟨rfl, hb⟩; replace XB := XB.below hb; replace TB := TB.below hb; replace WY := WY.below hb; replace QI := QI.below hb; replace QT := QT.below hb; replace HB := Below.tr HB hb; clear y0 y1 y2 y3 y4 t0 t1 t2 t3; obtain ⟨y0, y1, y2, y3, y4⟩ := id XB; obtain ⟨⟨t0, t1, t2, t3⟩, -⟩ := id TB; clear hb)
        | (go_at_call 16; refine (cF _ WY).mono ?_; rintro y w7 ⟨rfl, hb⟩; replace XB := XB.below hb; replace TB := TB.below hb; replace WY := WY.below hb; replace QI := QI.below hb; replace QT := QT.below hb; replace HB := Below.tr HB hb; clear y0 y1 y2 y3 y4 t0 t1 t2 t3; obtain ⟨y0, y1, y2, y3, y4⟩ := id XB; obtain ⟨⟨t0, t1, t2, t3⟩, -⟩ := id TB; clear hb))
      go_wp2
      go_ret
      exact ⟨rfl, HB⟩

end Go.Proofs.YtaecfbfcjaailaaGreat

